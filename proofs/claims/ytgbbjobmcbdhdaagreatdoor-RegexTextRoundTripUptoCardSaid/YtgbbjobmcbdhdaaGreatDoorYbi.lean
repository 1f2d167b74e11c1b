/-
  Texts of the proof, one behind another: Fm, Fn.
-/
import Derived.Test.YtgbbjobmcbdhdaaGreatDoorYbb
import Derived.Test.YtgbbjobmcbdhdaaGreatDoorYbh
import Derived.Deep.RegionHeld3
import Derived.Lib.QuietBelow
import Derived.BigQuiet
set_option linter.unusedSimpArgs false
set_option linter.unusedVariables false
/-
  Walks: the text of any class.
-/
namespace Go.Proofs.YtgbbjobmcbdhdaaGreatDoor
open Go.RowKit Go.Shelf Go.Lib
attribute [local go_sem] Oper.semAt_some

/-- a slice with these bytes. -/
def IsN (W : World) (v : Value) (l : List Nat) : Prop :=
  (l = [] ∧ ∃ p cap, v = .slice p 0 cap) ∨ ∃ blk off cap, v = .slice (some ⟨blk, off, none⟩) l.length cap ∧ ∀ j, j < l.length → W.cell? ⟨blk, off + j, none⟩ = some (.int .u8 ((l.getD j 0 : Nat) : Int))
theorem IsN.shape {w : World} {v : Value} {l : List Nat} (h : IsN w v l) : ∃ p cap, v = .slice p l.length cap := by
  rcases h with ⟨rfl, p, cap, rfl⟩ | ⟨blk, off, cap, rfl, _⟩
  · exact ⟨p, cap, rfl⟩
  · exact ⟨_, _, rfl⟩
theorem IsN.at {w : World} {p : Option Addr} {n cap : Nat} {l : List Nat} (h : IsN w (.slice p n cap) l) {k : Nat} (hk : k < l.length) : ∃ blk off, p = some ⟨blk, off, none⟩ ∧ ∀ j, j < l.length → w.cell? ⟨blk, off + j, none⟩ = some (.int .u8 ((l.getD j 0 : Nat) : Int)) := by
  rcases h with ⟨rfl, _⟩ | ⟨blk, off, cap, he, hc⟩
  · simp at hk
  · simp only [Value.slice.injEq] at he
    exact ⟨blk, off, he.1, hc⟩
theorem IsN.grows {w w' : World} {v : Value} {l : List Nat} (h : IsN w v l) (hb : Below w.heap.size w w') : IsN w' v l := by
  rcases h with h | ⟨blk, off, cap, rfl, h⟩
  · exact .inl h
  · exact .inr ⟨blk, off, cap, rfl, fun k hk => (hb.cell (lt_of_cell (h k hk))).trans (h k hk)⟩
theorem own_isN' {w : World} {base : Nat} {e : TypeId} {v : Value} {l : List Nat} (h : w.ownsRow base e 1 v l.length ((l.map fun x : Nat => (x : Int)).map (Value.int .u8))) : IsN w v l := by
  obtain ⟨hl, ⟨rfl, hn⟩ | ⟨g, cap, cur, rfl, hg, hh, hcap, hm, hsz, htk⟩⟩ := h
  · exact .inl ⟨List.length_eq_zero_iff.1 hn, none, 0, rfl⟩
  · refine .inr ⟨g, 0, cap, rfl, fun j hj => ?_⟩
    have h2 : ((l.map fun x : Nat => (x : Int)).map (Value.int .u8))[j]? = some (.int .u8 ((l.getD j 0 : Nat) : Int)) := by
      rw [List.getElem?_map, List.getElem?_map, List.getElem?_eq_getElem hj, List.getD_eq_getElem?_getD, List.getElem?_eq_getElem hj]; rfl
    rw [← htk, List.getElem?_take_of_lt (by omega)] at h2
    rw [Nat.zero_add]
    exact Blk.cell (vs := cur) (t := e) ⟨hh⟩ _ (by simpa using h2)

theorem incr_le {l : List Nat} (h : ∀ j, j + 1 < l.length → l.getD j 0 < l.getD (j + 1) 0) : ∀ (d i : Nat), i + d < l.length → l.getD i 0 ≤ l.getD (i + d) 0
  | 0, _, _ => Nat.le_refl _
  | d + 1, i, hd => by
    have h1 := incr_le h d i (by omega)
    have h2 := h (i + d) (by omega)
    rw [show i + (d + 1) = i + d + 1 by omega]
    omega
set_option maxRecDepth 100000 in
set_option maxHeartbeats 4000000 in
theorem cltext_any (c : BitVec 256) (W : World) (hT : TabAt 0 Lib.deBruijn64tab W) (hg : 0 < W.heap.size) :
    Calls Tryz.prog 50 #[.agg #[.int .u64 (wd c 0), .int .u64 (wd c 1), .int .u64 (wd c 2), .int .u64 (wd c 3)]] W fun e W' => e = .returned (.string (bs (clsT c))) ∧ Below W.heap.size W W' := by
  have HT := Lib.hid hT
  clear hT
  obtain ⟨l, hl⟩ : ∃ l, memN c = l := ⟨_, rfl⟩
  have hlen : l.length ≤ 256 := by rw [← hl]; exact memN_len c
  have hlt : ∀ j, j < l.length → l.getD j 0 < 256 := by rw [← hl]; exact fun j hj => memN_lt hj
  have hnext : ∀ j, j + 1 < l.length → l.getD j 0 < l.getD (j + 1) 0 := by rw [← hl]; exact fun j hj => memN_next hj
  have hcls : clsT c = if l.length = 256 then [46] else if l.length = 1 then charT (l.headD 0) else 91 :: ((runs l).flatMap runT ++ [93]) := by unfold clsT; rw [hl]
  obtain ⟨T, hTx⟩ : ∃ T, bs (clsT c) = T := ⟨_, rfl⟩
  rw [hTx]
  have HCl : Hid (T = bs (if l.length = 256 then [46] else if l.length = 1 then charT (l.headD 0) else 91 :: ((runs l).flatMap runT ++ [93]))) := Lib.hid (by rw [← hTx, hcls])
  clear hTx
  have HL := Lib.hid hl
  have HLt := Lib.hid hlt
  have HNx := Lib.hid hnext
  clear hl hlt hnext hcls
  go_enter Tryz.func50, Tryz.ntmps50
  go_wp2_with fail
  have hbx : Below W.heap.size W (W.alloc (.cells #[.int .u64 (wd c 0), .int .u64 (wd c 1), .int .u64 (wd c 2), .int .u64 (wd c 3)] 43)) := (Below.refl _ W).alloc (Nat.le_refl _) _
  generalize hW1 : (W.alloc (.cells #[.int .u64 (wd c 0), .int .u64 (wd c 1), .int .u64 (wd c 2), .int .u64 (wd c 3)] 43)) = W1 at hbx ⊢
  have HB := Lib.hid (bytes_any c W1 (tab_below HT.out hbx hg) (by have := hbx.size; omega))
  clear hW1
  go_wp2_with fail
  refine HB.out.mono ?_
  rintro e W2 ⟨⟨v, rfl, hown⟩, hb2⟩
  have hm : mems c 256 = l.map fun x : Nat => (x : Int) := by rw [← HL.out]; rfl
  rw [hm, List.length_map] at hown
  have hx := own_isN' hown
  obtain ⟨vp, vc, rfl⟩ := hx.shape
  have hB2 := hbx.trans (hb2.mono hbx.size)
  have HX := Lib.hid hx
  have HB2 := Lib.hid hB2
  clear hx hown hm hbx hb2 hB2 HB
  by_cases h256 : l.length = 256
  · have t256 : ((l.length : Int) == 256) = true := by rw [beq_iff_eq]; omega
    have HR := Lib.hid HCl.out
    rw [if_pos h256] at HR
    clear h256
    go_wp2_with fail
    go_ret
    exact ⟨congrArg (fun s => Ending.returned (.string s)) HR.out.symm, HB2.out⟩
  · have t256 : ((l.length : Int) == 256) = false := by rw [beq_eq_false_iff_ne]; omega
    have HR := Lib.hid HCl.out
    rw [if_neg h256] at HR
    by_cases h1 : l.length = 1
    · have t1 : ((l.length : Int) == 1) = true := by rw [beq_iff_eq]; omega
      rw [if_pos h1] at HR
      obtain ⟨blk, off, rfl, hc⟩ := HX.out.at (k := 0) (by omega)
      have c0 := hc 0 (by omega)
      have hh : l.headD 0 = l.getD 0 0 := by cases l <;> rfl
      rw [hh] at HR
      rw [Nat.add_zero] at c0
      have HC := Lib.hid (fun w => char_bs (l.getD 0 0) (HLt.out 0 (by omega)) w)
      generalize l.getD 0 0 = y at c0 HC HR ⊢
      have hlt0 : (0 : Int) < (l.length : Int) := by omega
      clear hc h256 h1 hh
      go_wp2_with fail
      refine (HC.out _).mono ?_
      rintro e W3 ⟨rfl, hb3⟩
      go_wp2_with fail
      go_ret
      exact ⟨congrArg (fun s => Ending.returned (.string s)) HR.out.symm, HB2.out.trans (hb3.mono HB2.out.size)⟩
    · have t1 : ((l.length : Int) == 1) = false := by rw [beq_eq_false_iff_ne]; omega
      rw [if_neg h1] at HR
      clear h256 h1
      go_wp2_with fail
      go_loopw [4, 5] (fun sv i wr => ∃ (k : Nat) (P : List UInt8), k ≤ l.length ∧ i = .int .i64 k ∧ sv = .string (bs (91 :: P)) ∧ P.length ≤ 9 * k ∧ (runs l).flatMap runT = P ++ (runs (l.drop k)).flatMap runT ∧ Below W2.heap.size W2 wr) (fun _ i _ => l.length - (RowKit.intOf i).toNat)
      case atStart => exact ⟨0, [], Nat.zero_le _, rfl, rfl, by simp, by simp, Below.refl _ _⟩
      case round =>
        obtain ⟨k, P, hk, rfl, rfl, hPl, hP, hcur⟩ := hrel
        have HP := Lib.hid hP
        clear hP
        by_cases hlt : k < l.length
        · go_wp2_with fail
          go_loopw [6] (fun i wr => ∃ m : Nat, k < m ∧ m ≤ l.length ∧ i = .int .i64 m ∧ (∀ j, k ≤ j → j + 1 < m → l.getD (j + 1) 0 = l.getD j 0 + 1) ∧ Below W2.heap.size W2 wr) (fun i _ => l.length - (RowKit.intOf i).toNat)
          case atStart => exact ⟨k + 1, by omega, by omega, by go_num, fun j h1 h2 => by omega, hcur⟩
          case round =>
            obtain ⟨m, hkm, hml, rfl, hcon, hcur⟩ := hrel
            obtain ⟨blk, off, rfl, hc⟩ := HX.out.at (k := k) (by omega)
            obtain ⟨m1, hm1⟩ : ∃ m1, m1 = m - 1 := ⟨_, rfl⟩
            have cy := (hcur.cell (lt_of_cell (hc m1 (by omega)))).trans (hc m1 (by omega))
            have hmm : IntKind.i64.wrap ((m : Int) - 1) = (m1 : Int) := by rw [IntWalk.i64_in _ (by omega)]; omega
            have hm1l : m1 < l.length := by omega
            have hy := HLt.out m1 hm1l
            have HCon := Lib.hid hcon
            clear hcon
            by_cases hlt2 : m < l.length
            · have cx := (hcur.cell (lt_of_cell (hc m hlt2))).trans (hc m hlt2)
              have hxy := HNx.out m1 (by omega)
              rw [show m1 + 1 = m by omega] at hxy
              have hx := HLt.out m hlt2
              have hgx : l.getD m 0 = l.getD m1 0 + 1 ∨ l.getD m 0 ≠ l.getD m1 0 + 1 := by omega
              have HG1 := Lib.hid (fun h : l.getD m 0 = l.getD m1 0 + 1 => show ∀ j, k ≤ j → j + 1 < m + 1 → l.getD (j + 1) 0 = l.getD j 0 + 1 from fun j h1 h2 => by
                rcases Nat.lt_or_ge (j + 1) m with h3 | h3
                · exact HCon.out j h1 h3
                · obtain rfl : j = m1 := by omega
                  rw [show j + 1 = m by omega]; exact h)
              have HG2 := Lib.hid (fun h : l.getD m 0 ≠ l.getD m1 0 + 1 => runs_text l k m hkm hml HCon.out (.inr (by rw [← hm1]; exact h)))
              rw [← hm1] at HG2
              generalize l.getD m 0 = x at cx hxy hx hgx HG1 HG2
              have HY := Lib.hid (show ∀ z, z = l.getD m1 0 → z = l.getD m1 0 from fun z h => h)
              obtain ⟨y, hyy⟩ : ∃ y, l.getD m1 0 = y := ⟨_, rfl⟩
              rw [hyy] at cy hy hxy hgx HG1 HG2
              have hw8 : IntKind.u8.wrap ((y : Int) + 1) = (y : Int) + 1 := by rw [IntKind.wrap_u8]; omega
              have kx := cell_regrown cx
              have ky := cell_regrown cy
              have HYY := Lib.hid hyy
              have HM1 := Lib.hid hm1
              clear cx cy hyy hm1
              rcases hgx with rfl | hne
              · go_wp2_with fail
                refine wp_region_quiet_below (by kernel_rfl) (by kernel_rfl) ?_
                repeat (go_big_quiet_step (fail))
                refine wpQuiet_nil ?_
                intro _ hw'
                obtain ⟨⟨dq, osq⟩, hw''⟩ := hw'
                subst hw''
                go_wp2_with fail
                exact ⟨⟨m + 1, by omega, by omega, by go_num, (by first | exact HG1.out rfl | exact HG1.out trivial), hcur.trans ((below_regrown _ dq osq).mono hcur.size)⟩, by simp [RowKit.intOf]; omega⟩
              · have tne : ((x : Int) == (y : Int) + 1) = false := by rw [beq_eq_false_iff_ne]; omega
                have hmq := HM1.out
                have hrt := HG2.out hne
                obtain ⟨a, haa⟩ : ∃ a, l.getD k 0 = a := ⟨_, rfl⟩
                have hle := incr_le HNx.out (m1 - k) k (by omega)
                rw [show k + (m1 - k) = m1 by omega, haa, HYY.out] at hle
                rw [haa] at hrt
                have HRun := Lib.hid (fun w => run_any a y hle hy w)
                have hck := hc k (by omega)
                have hcm := hc m1 hm1l
                rw [haa] at hck
                rw [HYY.out] at hcm
                have HCk := Lib.hid hck
                have HCm := Lib.hid hcm
                have HP2 := Lib.hid (show (runs l).flatMap runT = (P ++ runT (a, y)) ++ (runs (l.drop m)).flatMap runT by rw [HP.out, hrt, List.append_assoc])
                have HPl := Lib.hid hPl
                have hSs : (bs (91 :: P)).size ≤ 4000 := by rw [bs_size, List.length_cons]; omega
                have hRs : (bs (runT (a, y))).size ≤ 9 := by rw [bs_size]; exact (runT_len (a, y)).2
                have hNew : bs (91 :: P) ++ bs (runT (a, y)) = bs (91 :: (P ++ runT (a, y))) := by rw [bs_app]; rfl
                have HNew := Lib.hid hNew
                clear hNew
                have hk0 : (k : Int) < (l.length : Int) := by omega
                have hm10 : (m1 : Int) < (l.length : Int) := by omega
                generalize bs (91 :: P) = S at hSs HNew ⊢
                generalize bs (runT (a, y)) = R at hRs HNew HRun
                have hadd : ∀ w, (Op.stringOp .add S R).run Tryz.prog w = .ok (.string (S ++ R)) w := fun w => run_string_add_sum w S R (by omega)
                clear hrt haa hck hcm hle hPl hmq
                clear hne
                go_wp2_with fail
                refine wp_region_quiet_below (by kernel_rfl) (by kernel_rfl) ?_
                repeat (go_big_quiet_step (fail))
                refine wpQuiet_nil ?_
                intro _ hw'
                obtain ⟨⟨dq, osq⟩, hw''⟩ := hw'
                subst hw''
                go_wp2_with fail
                have hcur := hcur.trans ((below_regrown _ dq osq).mono hcur.size)
                generalize («Sort».grow (redrawn wr dq) osq) = w3 at hcur ⊢
                have ca := (hcur.cell (lt_of_cell (HCk.out))).trans HCk.out
                have cy := (hcur.cell (lt_of_cell (HCm.out))).trans HCm.out
                have ca : w3.drew.cell? _ = some _ := ca
                have cy : w3.drew.cell? _ = some _ := cy
                have hcur := hcur.drew
                go_region_held3 (fun W' => W'.cell? ⟨blk, off + k, none⟩ = some (.int .u8 (a : Int)) ∧ W'.cell? ⟨blk, off + m1, none⟩ = some (.int .u8 (y : Int))) (first | exact ⟨ca, cy⟩) (first
                  | (go_at_call 76; ((with_reducible refine (HRun.out _).mono ?_)); rintro e wn ⟨rfl, hbn⟩; have ca := (hbn.cell (lt_of_cell ca)).trans ca; have cy := (hbn.cell (lt_of_cell cy)).trans cy; have hcur := hcur.trans (hbn.mono hcur.size); clear hbn))
                all_goals
                  go_wp2_with fail
                  exact ⟨⟨m, P ++ runT (a, y), hml, by go_num, by rw [← HNew.out], by rw [List.length_append]; have := (runT_len (a, y)).2; have := HPl.out; omega, HP2.out, hcur⟩, by simp [RowKit.intOf]; omega⟩
            · obtain rfl : m = l.length := by omega
              obtain ⟨y, hyy⟩ : ∃ y, l.getD m1 0 = y := ⟨_, rfl⟩
              rw [hyy] at hy
              have HYY := Lib.hid hyy
              have hmq := hm1
              have hrt := runs_text l k l.length hkm hml HCon.out (.inl rfl)
              obtain ⟨a, haa⟩ : ∃ a, l.getD k 0 = a := ⟨_, rfl⟩
              have hle := incr_le HNx.out (m1 - k) k (by omega)
              rw [show k + (m1 - k) = m1 by omega, haa, HYY.out] at hle
              rw [← hm1, haa, HYY.out] at hrt
              have HRun := Lib.hid (fun w => run_any a y hle hy w)
              have hck := hc k (by omega)
              have hcm := hc m1 hm1l
              rw [haa] at hck
              rw [HYY.out] at hcm
              have HCk := Lib.hid hck
              have HCm := Lib.hid hcm
              have HP2 := Lib.hid (show (runs l).flatMap runT = (P ++ runT (a, y)) ++ (runs (l.drop l.length)).flatMap runT by rw [HP.out, hrt, List.append_assoc])
              have HPl := Lib.hid hPl
              have hSs : (bs (91 :: P)).size ≤ 4000 := by rw [bs_size, List.length_cons]; omega
              have hRs : (bs (runT (a, y))).size ≤ 9 := by rw [bs_size]; exact (runT_len (a, y)).2
              have hNew : bs (91 :: P) ++ bs (runT (a, y)) = bs (91 :: (P ++ runT (a, y))) := by rw [bs_app]; rfl
              have HNew := Lib.hid hNew
              clear hNew
              have hk0 : (k : Int) < (l.length : Int) := by omega
              have hm10 : (m1 : Int) < (l.length : Int) := by omega
              generalize bs (91 :: P) = S at hSs HNew ⊢
              generalize bs (runT (a, y)) = R at hRs HNew HRun
              have hadd : ∀ w, (Op.stringOp .add S R).run Tryz.prog w = .ok (.string (S ++ R)) w := fun w => run_string_add_sum w S R (by omega)
              clear hrt haa hck hcm hle hPl hmq
              have HM1 := Lib.hid hm1
              clear hc cy hyy hm1
              go_wp2_with fail
              refine wp_region_quiet_below (by kernel_rfl) (by kernel_rfl) ?_
              repeat (go_big_quiet_step (fail))
              refine wpQuiet_nil ?_
              intro _ hw'
              obtain ⟨⟨dq, osq⟩, hw''⟩ := hw'
              subst hw''
              go_wp2_with fail
              have hcur := hcur.trans ((below_regrown _ dq osq).mono hcur.size)
              generalize («Sort».grow (redrawn wr dq) osq) = w3 at hcur ⊢
              have ca := (hcur.cell (lt_of_cell (HCk.out))).trans HCk.out
              have cy := (hcur.cell (lt_of_cell (HCm.out))).trans HCm.out
              have ca : w3.drew.cell? _ = some _ := ca
              have cy : w3.drew.cell? _ = some _ := cy
              have hcur := hcur.drew
              go_region_held3 (fun W' => W'.cell? ⟨blk, off + k, none⟩ = some (.int .u8 (a : Int)) ∧ W'.cell? ⟨blk, off + m1, none⟩ = some (.int .u8 (y : Int))) (first | exact ⟨ca, cy⟩) (first
                | (go_at_call 76; ((with_reducible refine (HRun.out _).mono ?_)); rintro e wn ⟨rfl, hbn⟩; have ca := (hbn.cell (lt_of_cell ca)).trans ca; have cy := (hbn.cell (lt_of_cell cy)).trans cy; have hcur := hcur.trans (hbn.mono hcur.size); clear hbn))
              all_goals
                go_wp2_with fail
                exact ⟨⟨l.length, P ++ runT (a, y), hml, by go_num, by rw [← HNew.out], by rw [List.length_append]; have := (runT_len (a, y)).2; have := HPl.out; omega, HP2.out, hcur⟩, by simp [RowKit.intOf]; omega⟩
        · obtain rfl : k = l.length := by omega
          have hP := HP.out
          rw [List.drop_length] at hP
          have hr : bs (91 :: P) ++ ⟨#[93]⟩ = bs (91 :: ((runs l).flatMap runT ++ [93])) := by
            rw [hP, show (⟨#[93]⟩ : ByteArray) = bs [93] from rfl, bs_app]
            simp [runs]
          have hs : (bs (91 :: P)).size ≤ 4000 := by rw [bs_size, List.length_cons]; omega
          have HRr := Lib.hid (HR.out.trans hr.symm)
          generalize bs (91 :: P) = S at hs HRr ⊢
          have h93 : (⟨#[93]⟩ : ByteArray).size = 1 := rfl
          clear hP hr
          go_wp2_with fail
          go_ret
          exact ⟨congrArg (fun s => Ending.returned (.string s)) HRr.out.symm, HB2.out.trans (hcur.mono HB2.out.size)⟩
end Go.Proofs.YtgbbjobmcbdhdaaGreatDoor

/-
  Walks: the text of any repetition.
-/
namespace Go.Proofs.YtgbbjobmcbdhdaaGreatDoor
open Go.RowKit Go.Shelf Go.Lib

set_option maxRecDepth 100000 in
set_option maxHeartbeats 2000000 in
theorem itoa_small (n : Nat) (hn : n ≤ 16) (W : World) : Calls Tryz.prog 77 #[.int .i64 (n : Int)] W fun e W' => e = .returned (.string (bs (numT n))) ∧ W' = W := by
  have h : n = 0 ∨ n = 1 ∨ n = 2 ∨ n = 3 ∨ n = 4 ∨ n = 5 ∨ n = 6 ∨ n = 7 ∨ n = 8 ∨ n = 9 ∨ n = 10 ∨ n = 11 ∨ n = 12 ∨ n = 13 ∨ n = 14 ∨ n = 15 ∨ n = 16 := by omega
  rcases h with rfl | rfl | rfl | rfl | rfl | rfl | rfl | rfl | rfl | rfl | rfl | rfl | rfl | rfl | rfl | rfl | rfl
  all_goals
    go_enter Tryz.func77, Tryz.ntmps77
    go_wp2
    go_ret
    exact ⟨congrArg (fun s => Ending.returned (Value.string s)) (by kernel_rfl), rfl⟩
theorem pair_no {a0 a1 b0 b1 : Int} (h : ¬ (a0 = b0 ∧ a1 = b1)) (w : World) : (Op.equalIn 10000 112 (.agg #[.int .i64 a0, .int .i64 a1]) (.agg #[.int .i64 b0, .int .i64 b1])).run Tryz.prog w = .ok false w := by
  rw [eq_pair]
  congr 1
  rw [Bool.eq_false_iff]
  intro h2
  rw [Bool.and_eq_true, beq_iff_eq, beq_iff_eq] at h2
  exact h h2
set_option maxRecDepth 100000 in
set_option maxHeartbeats 2000000 in
theorem reptext_any (lo : Nat) (hi : Option Nat) (hlo : lo ≤ 16) (hhi : ∀ h, hi = some h → lo ≤ h ∧ h ≤ 16) (W : World) :
    Calls Tryz.prog 51 #[.int .i64 (lo : Int), .int .i64 (hiI hi)] W fun e W' => e = .returned (.string (bs (repT lo hi))) ∧ W' = W := by
  obtain ⟨N, hN⟩ : ∃ N, bs (numT lo) = N := ⟨_, rfl⟩
  have HL := Lib.hid (fun w => itoa_small lo hlo w)
  rw [hN] at HL
  have hNs : N.size ≤ 2 := by rw [← hN, bs_size]; exact (numT_len lo).2
  have c1 : (⟨#[123]⟩ : ByteArray).size = 1 := rfl
  have c2 : (⟨#[44, 125]⟩ : ByteArray).size = 2 := rfl
  have c3 : (⟨#[44]⟩ : ByteArray).size = 1 := rfl
  have c4 : (⟨#[125]⟩ : ByteArray).size = 1 := rfl
  have a1 : ∀ w, (Op.stringOp .add ⟨#[123]⟩ N).run Tryz.prog w = .ok (.string (⟨#[123]⟩ ++ N)) w := fun w => run_string_add_sum w _ _ (by omega)
  cases hi with
  | none =>
    by_cases h0 : lo = 0
    · subst h0
      have q1 : ∀ w, (Op.equalIn 10000 112 (.agg #[.int .i64 0, .int .i64 (-1)]) (.agg #[.int .i64 0, .int .i64 (-1)])).run Tryz.prog w = .ok true w := fun w => eq_pair _ _ _ _ w
      clear hN
      show Calls _ _ #[.int .i64 0, .int .i64 (-1)] W _
      go_enter Tryz.func51, Tryz.ntmps51
      go_wp2
      go_ret
      exact ⟨rfl, rfl⟩
    · by_cases h1 : lo = 1
      · subst h1
        have q1 : ∀ w, (Op.equalIn 10000 112 (.agg #[.int .i64 1, .int .i64 (-1)]) (.agg #[.int .i64 0, .int .i64 (-1)])).run Tryz.prog w = .ok false w := fun w => pair_no (by omega) w
        have q2 : ∀ w, (Op.equalIn 10000 112 (.agg #[.int .i64 1, .int .i64 (-1)]) (.agg #[.int .i64 1, .int .i64 (-1)])).run Tryz.prog w = .ok true w := fun w => eq_pair _ _ _ _ w
        clear hN
        show Calls _ _ #[.int .i64 1, .int .i64 (-1)] W _
        go_enter Tryz.func51, Tryz.ntmps51
        go_wp2
        go_ret
        exact ⟨rfl, rfl⟩
      · have q1 : ∀ w, (Op.equalIn 10000 112 (.agg #[.int .i64 (lo : Int), .int .i64 (-1)]) (.agg #[.int .i64 0, .int .i64 (-1)])).run Tryz.prog w = .ok false w := fun w => pair_no (by omega) w
        have q2 : ∀ w, (Op.equalIn 10000 112 (.agg #[.int .i64 (lo : Int), .int .i64 (-1)]) (.agg #[.int .i64 1, .int .i64 (-1)])).run Tryz.prog w = .ok false w := fun w => pair_no (by omega) w
        have q3 : ∀ w, (Op.equalIn 10000 112 (.agg #[.int .i64 (lo : Int), .int .i64 (-1)]) (.agg #[.int .i64 0, .int .i64 1])).run Tryz.prog w = .ok false w := fun w => pair_no (by omega) w
        have a2 : ∀ w, (Op.stringOp .add (⟨#[123]⟩ ++ N) ⟨#[44, 125]⟩).run Tryz.prog w = .ok (.string (⟨#[123]⟩ ++ N ++ ⟨#[44, 125]⟩)) w := fun w => run_string_add_sum w _ _ (by rw [ByteArray.size_append]; omega)
        have hr : bs (repT lo none) = ⟨#[123]⟩ ++ N ++ ⟨#[44, 125]⟩ := by
          rw [repT_n, if_neg h0, if_neg h1, ← hN, show (⟨#[123]⟩ : ByteArray) = bs [123] from rfl, show (⟨#[44, 125]⟩ : ByteArray) = bs [44, 125] from rfl, bs_app, bs_app]
          rfl
        rw [hr]
        clear hN hr h0 h1
        show Calls _ _ #[.int .i64 (lo : Int), .int .i64 (-1)] W _
        go_enter Tryz.func51, Tryz.ntmps51
        go_wp2_with (go_at_call 77; refine (HL.out _).mono ?_; rintro e w' ⟨rfl, rfl⟩)
        go_ret
        exact ⟨rfl, rfl⟩
  | some h =>
    obtain ⟨hlh, hh⟩ := hhi h rfl
    by_cases h01 : lo = 0 ∧ h = 1
    · obtain ⟨rfl, rfl⟩ := h01
      have q1 : ∀ w, (Op.equalIn 10000 112 (.agg #[.int .i64 0, .int .i64 1]) (.agg #[.int .i64 0, .int .i64 (-1)])).run Tryz.prog w = .ok false w := fun w => pair_no (by omega) w
      have q2 : ∀ w, (Op.equalIn 10000 112 (.agg #[.int .i64 0, .int .i64 1]) (.agg #[.int .i64 1, .int .i64 (-1)])).run Tryz.prog w = .ok false w := fun w => pair_no (by omega) w
      have q3 : ∀ w, (Op.equalIn 10000 112 (.agg #[.int .i64 0, .int .i64 1]) (.agg #[.int .i64 0, .int .i64 1])).run Tryz.prog w = .ok true w := fun w => eq_pair _ _ _ _ w
      clear hN
      show Calls _ _ #[.int .i64 0, .int .i64 1] W _
      go_enter Tryz.func51, Tryz.ntmps51
      go_wp2
      go_ret
      exact ⟨rfl, rfl⟩
    · obtain ⟨M, hM⟩ : ∃ M, bs (numT h) = M := ⟨_, rfl⟩
      have HH := Lib.hid (fun w => itoa_small h hh w)
      rw [hM] at HH
      have hMs : M.size ≤ 2 := by rw [← hM, bs_size]; exact (numT_len h).2
      have q1 : ∀ w, (Op.equalIn 10000 112 (.agg #[.int .i64 (lo : Int), .int .i64 (h : Int)]) (.agg #[.int .i64 0, .int .i64 (-1)])).run Tryz.prog w = .ok false w := fun w => pair_no (by omega) w
      have q2 : ∀ w, (Op.equalIn 10000 112 (.agg #[.int .i64 (lo : Int), .int .i64 (h : Int)]) (.agg #[.int .i64 1, .int .i64 (-1)])).run Tryz.prog w = .ok false w := fun w => pair_no (by omega) w
      have q3 : ∀ w, (Op.equalIn 10000 112 (.agg #[.int .i64 (lo : Int), .int .i64 (h : Int)]) (.agg #[.int .i64 0, .int .i64 1])).run Tryz.prog w = .ok false w := fun w => pair_no (by omega) w
      have t1 : ((h : Int) == -1) = false := by rw [beq_eq_false_iff_ne]; omega
      have a2 : ∀ w, (Op.stringOp .add (⟨#[123]⟩ ++ N) ⟨#[44]⟩).run Tryz.prog w = .ok (.string (⟨#[123]⟩ ++ N ++ ⟨#[44]⟩)) w := fun w => run_string_add_sum w _ _ (by rw [ByteArray.size_append]; omega)
      have a3 : ∀ w, (Op.stringOp .add (⟨#[123]⟩ ++ N ++ ⟨#[44]⟩) M).run Tryz.prog w = .ok (.string (⟨#[123]⟩ ++ N ++ ⟨#[44]⟩ ++ M)) w := fun w => run_string_add_sum w _ _ (by rw [ByteArray.size_append, ByteArray.size_append]; omega)
      have a4 : ∀ w, (Op.stringOp .add (⟨#[123]⟩ ++ N ++ ⟨#[44]⟩ ++ M) ⟨#[125]⟩).run Tryz.prog w = .ok (.string (⟨#[123]⟩ ++ N ++ ⟨#[44]⟩ ++ M ++ ⟨#[125]⟩)) w := fun w => run_string_add_sum w _ _ (by rw [ByteArray.size_append, ByteArray.size_append, ByteArray.size_append]; omega)
      have hr : bs (repT lo (some h)) = ⟨#[123]⟩ ++ N ++ ⟨#[44]⟩ ++ M ++ ⟨#[125]⟩ := by
        rw [repT_s, if_neg h01, ← hN, ← hM, show (⟨#[123]⟩ : ByteArray) = bs [123] from rfl, show (⟨#[44]⟩ : ByteArray) = bs [44] from rfl, show (⟨#[125]⟩ : ByteArray) = bs [125] from rfl, bs_app, bs_app, bs_app, bs_app]
        simp
      rw [hr]
      clear hN hM hr h01
      show Calls _ _ #[.int .i64 (lo : Int), .int .i64 (h : Int)] W _
      go_enter Tryz.func51, Tryz.ntmps51
      go_wp2_with fail
      refine (HL.out _).mono ?_
      rintro e w' ⟨rfl, rfl⟩
      go_wp2_with fail
      refine (HH.out _).mono ?_
      rintro e w' ⟨rfl, rfl⟩
      go_wp2_with fail
      go_ret
      exact ⟨rfl, rfl⟩
end Go.Proofs.YtgbbjobmcbdhdaaGreatDoor
