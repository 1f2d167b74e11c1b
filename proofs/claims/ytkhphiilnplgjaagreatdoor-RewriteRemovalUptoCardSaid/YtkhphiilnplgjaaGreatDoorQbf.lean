/-
  Texts of the proof, one behind another: Ye, Yf, Yg, Yh, Yv.
-/
import Derived.Test.YtkhphiilnplgjaaGreatDoorQbd
import Derived.StillTailTactics
import Derived.Deep.RegionHeld3
import Derived.Deep.AppendLies
import Derived.Maps.AppendAt
import Derived.RegionTactic
import Derived.OwnWalk
set_option linter.unusedSimpArgs false
set_option linter.unusedVariables false
namespace Go.Proofs.YtkhphiilnplgjaaGreatDoor
open Go.RowKit Go.Lib

theorem own_drew {w : World} {base : Nat} {e : TypeId} {size : Nat} {v : Value} {n : Nat} {xs : List Value} (h : w.ownsRow base e size v n xs) : w.drew.ownsRow base e size v n xs := own_below h (Below.refl _ w).drew
theorem cells_newY (W : World) (a : Value) (t : TypeId) (m : Nat) (hm : m = W.heap.size) : ∀ j u, [a][j]? = some u → (W.alloc (.cells #[a] t)).cell? ((⟨m, 0, none⟩ : Addr).add j) = some u := by
  subst hm
  exact cell_one_new W a t
theorem y_one (b : Int) : ∀ u ∈ [Value.int .u8 b], u.oneCell' = true := by intro u hu; simp at hu; subst hu; rfl
theorem cell_al {w : World} {a : Addr} {u : Value} (h : w.cell? a = some u) (o : Obj) : ((w.alloc o).drew).cell? a = some u := (((Below.refl w.heap.size w).alloc (Nat.le_refl _) o).drew.cell (lt_of_cell h)).trans h
theorem cell_gr {w w' : World} {row : Option Nat} (hg : w.grownBy w' row) {b o : Nat} {u : Value} (h : w.cell? ⟨b, o, none⟩ = some u) (hne : ∀ k, row = some k → k ≠ b) : w'.cell? ⟨b, o, none⟩ = some u := by
  have h2 := hg.block b (lt_of_cell h) (fun e => hne b e.symm rfl)
  unfold World.cell? at h ⊢
  rw [h2]; exact h
theorem IsY.lt {w : World} {b o n cap : Nat} {l : List Int} (h : IsY w (.slice (some ⟨b, o, none⟩) n cap) l) {j : Nat} (hj : j < l.length) : b < w.heap.size := by
  obtain ⟨b', o', e, hc⟩ := h.at (List.getElem?_eq_getElem hj)
  simp only [Option.some.injEq, Addr.mk.injEq, and_true] at e
  obtain ⟨rfl, rfl⟩ := e
  exact lt_of_cell hc
theorem turn {f : FuncId} {args : Array Value} {w : World} {v : Value} (h : Calls Tryz.prog f args w fun e w' => e = .returned v ∧ w = w') : Calls Tryz.prog f args w fun e w' => e = .returned v ∧ w' = w := h.mono fun _ _ ⟨a, b⟩ => ⟨a, b.symm⟩
/-- what comes of a decoding: the bytes, or nothing and false. -/
def DoRes (w : World) (r : Option (List Int)) (e : Ending) (w' : World) : Prop := ∃ u, e = .returned (.tuple #[u, .bool r.isSome]) ∧ IsY w' u (r.getD []) ∧ Below w.heap.size w w'
set_option maxRecDepth 100000 in
set_option maxHeartbeats 4000000 in
theorem rpercent_any (v : Value) (b : List Int) (lax : Bool) (w : World) (hv : IsY w v b) (hb : b.length ≤ 140737488351232) :
    Calls Tryz.prog 35 #[v, .bool lax] w (DoRes w (dec lax b)) := by
  obtain ⟨i0, hi, hz0, hz1, hz2⟩ := info_parts infoU8
  obtain ⟨p, cap, rfl, hc⟩ := hv.shape
  have HV := Lib.hid hv
  have HY := Lib.hid hv.byt
  clear hv
  go_enter Tryz.func35, Tryz.ntmps35
  go_wp2
  go_loopw [6, 7] (fun u iv wr => ∃ (i : Nat) (acc : List Int), i ≤ b.length ∧ iv = .int .i64 (i : Int) ∧ wr.ownsRow w.heap.size 5 1 u acc.length (acc.map (Value.int .u8)) ∧ Byt acc ∧ (dec lax (b.drop i)).map (acc ++ ·) = dec lax b ∧ Below w.heap.size w wr ∧ acc.length ≤ i) (fun _ iv _ => b.length - (RowKit.intOf iv).toNat)
  case atStart =>
    exact ⟨0, [], Nat.zero_le _, rfl, own_of_blk (Blk.new w _ _) 0 1 rfl (Nat.zero_le _) (Nat.le_refl _), Byt.nil, by rw [List.drop_zero]; cases dec lax b <;> simp, by go_grown, Nat.le_refl _⟩
  case round =>
    obtain ⟨i, acc, hil, rfl, hown, hacc, hinv, hbw, hal⟩ := hrel
    have HO := Lib.hid hown
    have HA := Lib.hid hacc
    have HE := Lib.hid hinv
    have HB := Lib.hid hbw
    clear hown hacc hinv
    by_cases hlt : i < b.length
    · obtain ⟨x, hx⟩ := get_of_lt hlt
      obtain ⟨bb, oo, rfl, c0⟩ := (HV.out.grows hbw).at hx
      have hx8 := HY.out.at hx
      have HX := Lib.hid hx
      clear hx
      have w1 : IntKind.i64.wrap ((i : Int) + 1) = ((i + 1 : Nat) : Int) := by rw [IntWalk.i64_in _ (by omega)]; omega
      have w2 : IntKind.i64.wrap ((i : Int) + 2) = ((i + 2 : Nat) : Int) := by rw [IntWalk.i64_in _ (by omega)]; omega
      by_cases h37 : x = 37
      · subst h37
        by_cases hsh : i + 2 < b.length
        · obtain ⟨y, hy⟩ := get_of_lt (l := b) (k := i + 1) (by omega)
          obtain ⟨z, hz⟩ := get_of_lt (l := b) (k := i + 2) (by omega)
          obtain ⟨bb1, oo1, e1, c1⟩ := (HV.out.grows hbw).at hy
          obtain ⟨bb2, oo2, e2, c2⟩ := (HV.out.grows hbw).at hz
          simp only [Option.some.injEq, Addr.mk.injEq, and_true] at e1 e2
          obtain ⟨rfl, rfl⟩ := e1
          obtain ⟨rfl, rfl⟩ := e2
          have hy8 := HY.out.at hy
          have hz8 := HY.out.at hz
          have HQ := Lib.hid (seq_three HX.out hy hz)
          clear hy hz
          have hd2 : decide (((i + 2 : Nat) : Int) < (b.length : Int)) = true := by rw [decide_eq_true_iff]; omega
          have hya := hexI_lt y
          have hyb := hexI_ge y
          have hza := hexI_lt z
          have hzb := hexI_ge z
          have HD1 := Lib.hid (fun W => digit_any y W hy8.1 hy8.2)
          have HD2 := Lib.hid (fun W => digit_any z W hz8.1 hz8.2)
          generalize hexI y = hy' at HQ hya hyb HD1
          generalize hexI z = hz' at HQ hza hzb HD2
          by_cases hyp : 0 ≤ hy'
          · by_cases hzp : 0 ≤ hz'
            · have hseq : seqI (b.drop i) = some (16 * hy' + hz') := by rw [HQ.out, if_pos ⟨rfl, hyp, hzp⟩]
              have HS := Lib.hid (dec_step3 (lax := lax) (acc := acc) hseq)
              have hv8 : 0 ≤ 16 * hy' + hz' ∧ 16 * hy' + hz' < 256 := by omega
              have m1 : IntKind.i64.wrap (16 * hy') = 16 * hy' := by rw [IntWalk.i64_in _ (by omega)]
              have m2 : IntKind.i64.wrap (16 * hy' + hz') = 16 * hy' + hz' := by rw [IntWalk.i64_in _ (by omega)]
              have m3 : IntKind.u8.wrap (16 * hy' + hz') = 16 * hy' + hz' := by have := hv8.1; have := hv8.2; simp [IntKind.wrap, IntKind.bits, IntKind.signed]; omega
              clear hseq
              have g1 : (0 : Int) ≤ (i : Int) + 1 := by omega
              have g2 : (i : Int) + 1 < (b.length : Int) := by omega
              have g3 : (0 : Int) ≤ (i : Int) + 2 := by omega
              have g4 : (i : Int) + 2 < (b.length : Int) := by omega
              have d1 : decide (0 ≤ hy') = true := by rw [decide_eq_true_iff]; omega
              have d2 : decide (0 ≤ hz') = true := by rw [decide_eq_true_iff]; omega
              go_wp2_with (first
                | (go_at_call 52; ((with_reducible refine (HD1.out _).mono ?_)); rintro e w1 ⟨rfl, rfl⟩)
                | (go_at_call 52; ((with_reducible refine (HD2.out _).mono ?_)); rintro e w1 ⟨rfl, rfl⟩)
                | fail)
              have hS : (wr.drew).cell? ⟨bb, oo + (i + 1), none⟩ = some (.int .u8 y) ∧ (wr.drew).cell? ⟨bb, oo + (i + 2), none⟩ = some (.int .u8 z) := ⟨c1, c2⟩
              have hS2 : ((wr.alloc (.cells #[.int .u8 (16 * hy' + hz')] 5)).drew).cell? ⟨bb, oo + (i + 1), none⟩ = some (.int .u8 y) ∧ ((wr.alloc (.cells #[.int .u8 (16 * hy' + hz')] 5)).drew).cell? ⟨bb, oo + (i + 2), none⟩ = some (.int .u8 z) := ⟨cell_al c1 _, cell_al c2 _⟩
              have HO2 := Lib.hid (own_drew HO.out)
              have HOG := Lib.hid (own_ge HO.out)
              have HBL := Lib.hid (fun k (hk : w.heap.size ≤ k) => (show k ≠ bb by have := IsY.lt HV.out (j := i + 1) (by omega); omega))
              have HB2 := Lib.hid HB.out.drew
              have hs0 := HB.out.size
              have t2 : ((i : Int) + 2).toNat = i + 2 := by omega
              go_region_held3 (fun W => W.cell? ⟨bb, oo + (i + 1), none⟩ = some (.int .u8 y) ∧ W.cell? ⟨bb, oo + (i + 2), none⟩ = some (.int .u8 z))
                (first | (with_reducible exact hS) | (with_reducible exact hS2) | (with_reducible exact hS3) | fail)
                (first
                  | (go_at_call 52; ((with_reducible refine (HD1.out _).mono ?_)); rintro e w1 ⟨rfl, rfl⟩)
                  | (go_at_call 52; ((with_reducible refine (HD2.out _).mono ?_)); rintro e w1 ⟨rfl, rfl⟩)
                  | (refine step_append_lies _ rfl _ _ 22 rfl w.heap.size 5 i0 (.int .u8 0) 1 1 Tryz.underlying22 hi hz0 hz1 hz2 rfl (by decide) _ _ _ rfl (own_alloc HO2.out _) ⟨wr.heap.size, 0, none⟩ 1 1 [.int .u8 (16 * hy' + hz')] rfl rfl (cells_newY _ _ _ _ rfl) (y_one _) (by decide) (by unfold maxLen; omega) (by omega) (by simp; omega) _ rfl ?_; intro g cap' w6 hown2 hgrow hat hlt2; have hS3 : w6.cell? ⟨bb, oo + (i + 1), none⟩ = some (.int .u8 y) ∧ w6.cell? ⟨bb, oo + (i + 2), none⟩ = some (.int .u8 z) := ⟨cell_gr hgrow hS2.1 (fun k hk => HBL.out k (HOG.out k hk)), cell_gr hgrow hS2.2 (fun k hk => HBL.out k (HOG.out k hk))⟩)
                  | fail)
              all_goals
                clear t2
                go_wp2
                go_roundw
                case rel =>
                  have hg := own_ge HO2.out
                  exact ⟨i + 3, acc ++ [16 * hy' + hz'], by omega, by go_num, own_cast hown2 (by simp) (by simp), HA.out.append (Byt.one hv8), by rw [← HE.out]; exact HS.out.symm, (HB2.out.alloc HB2.out.size _).grown hgrow (by have := HB2.out.size; simp; omega) hg, by simp; omega⟩
                case measure => simp [RowKit.intOf]; omega
            · have hno : seqI (b.drop i) = none := by rw [HQ.out, if_neg (by omega)]
              have d1 : decide (0 ≤ hy') = true := by rw [decide_eq_true_iff]; omega
              have d2 : decide (0 ≤ hz') = false := by rw [decide_eq_false_iff_not]; omega
              have g1 : (0 : Int) ≤ (i : Int) + 1 := by omega
              have g2 : (i : Int) + 1 < (b.length : Int) := by omega
              have g3 : (0 : Int) ≤ (i : Int) + 2 := by omega
              have g4 : (i : Int) + 2 < (b.length : Int) := by omega
              cases lax
              · have HS := Lib.hid (dec_stop (acc := acc) HX.out hno)
                clear hno
                go_wp2_with (first | (go_at_call 52; ((with_reducible refine (HD1.out _).mono ?_)); rintro e w1 ⟨rfl, rfl⟩) | (go_at_call 52; ((with_reducible refine (HD2.out _).mono ?_)); rintro e w1 ⟨rfl, rfl⟩) | fail)
                go_ret2
                have hE : none = dec false b := by rw [← HE.out]; exact HS.out.symm
                exact ⟨_, by rw [← hE]; rfl, by rw [← hE]; exact IsY.nil _, HB.out⟩
              · have HS := Lib.hid (dec_step1 (lax := true) (acc := acc) HX.out hno (by simp))
                clear hno
                go_wp2_with (first | (go_at_call 52; ((with_reducible refine (HD1.out _).mono ?_)); rintro e w1 ⟨rfl, rfl⟩) | (go_at_call 52; ((with_reducible refine (HD2.out _).mono ?_)); rintro e w1 ⟨rfl, rfl⟩) | (at_builtin; refine wpList_append_own _ rfl _ _ 22 rfl w.heap.size 5 i0 (.int .u8 0) 1 1 Tryz.underlying22 hi hz0 hz1 hz2 rfl (by decide) _ _ _ rfl (own_alloc HO.out _) ⟨wr.heap.size, 0, none⟩ 1 1 [.int .u8 37] rfl rfl (cell_one_new _ _ _) (by simp [Value.oneCell']) (by unfold maxLen; omega) (by omega) (by have := HB.out.size; simp; omega) ?_; intro v' w2 hown2 hgrow _) | fail)
                go_roundw
                case rel =>
                  have hg := own_ge HO.out
                  exact ⟨i + 1, acc ++ [37], by omega, by go_num, own_cast hown2 (by simp) (by simp), HA.out.append (Byt.one (by omega)), by rw [← HE.out]; exact HS.out.symm, (HB.out.alloc HB.out.size _).grown hgrow (by have := HB.out.size; simp; omega) hg, by simp; omega⟩
                case measure => simp [RowKit.intOf]; omega
          · have hno : seqI (b.drop i) = none := by rw [HQ.out, if_neg (by omega)]
            have d1 : decide (0 ≤ hy') = false := by rw [decide_eq_false_iff_not]; omega
            have g1 : (0 : Int) ≤ (i : Int) + 1 := by omega
            have g2 : (i : Int) + 1 < (b.length : Int) := by omega
            cases lax
            · have HS := Lib.hid (dec_stop (acc := acc) HX.out hno)
              clear hno
              go_wp2_with (first | (go_at_call 52; ((with_reducible refine (HD1.out _).mono ?_)); rintro e w1 ⟨rfl, rfl⟩) | (go_at_call 52; ((with_reducible refine (HD2.out _).mono ?_)); rintro e w1 ⟨rfl, rfl⟩) | fail)
              go_ret2
              have hE : none = dec false b := by rw [← HE.out]; exact HS.out.symm
              exact ⟨_, by rw [← hE]; rfl, by rw [← hE]; exact IsY.nil _, HB.out⟩
            · have HS := Lib.hid (dec_step1 (lax := true) (acc := acc) HX.out hno (by simp))
              clear hno
              go_wp2_with (first | (go_at_call 52; ((with_reducible refine (HD1.out _).mono ?_)); rintro e w1 ⟨rfl, rfl⟩) | (go_at_call 52; ((with_reducible refine (HD2.out _).mono ?_)); rintro e w1 ⟨rfl, rfl⟩) | (at_builtin; refine wpList_append_own _ rfl _ _ 22 rfl w.heap.size 5 i0 (.int .u8 0) 1 1 Tryz.underlying22 hi hz0 hz1 hz2 rfl (by decide) _ _ _ rfl (own_alloc HO.out _) ⟨wr.heap.size, 0, none⟩ 1 1 [.int .u8 37] rfl rfl (cell_one_new _ _ _) (by simp [Value.oneCell']) (by unfold maxLen; omega) (by omega) (by have := HB.out.size; simp; omega) ?_; intro v' w2 hown2 hgrow _) | fail)
              go_roundw
              case rel =>
                have hg := own_ge HO.out
                exact ⟨i + 1, acc ++ [37], by omega, by go_num, own_cast hown2 (by simp) (by simp), HA.out.append (Byt.one (by omega)), by rw [← HE.out]; exact HS.out.symm, (HB.out.alloc HB.out.size _).grown hgrow (by have := HB.out.size; simp; omega) hg, by simp; omega⟩
              case measure => simp [RowKit.intOf]; omega
        · have hno : seqI (b.drop i) = none := seq_short (by omega)
          have d0 : decide ((i : Int) + 2 < (b.length : Int)) = false := by rw [decide_eq_false_iff_not]; omega
          have HD1 := Lib.hid (fun W => digit_any 37 W (by omega) (by omega))
          have HD2 := HD1
          cases lax
          · have HS := Lib.hid (dec_stop (acc := acc) HX.out hno)
            clear hno
            go_wp2_with (first | (go_at_call 52; ((with_reducible refine (HD1.out _).mono ?_)); rintro e w1 ⟨rfl, rfl⟩) | (go_at_call 52; ((with_reducible refine (HD2.out _).mono ?_)); rintro e w1 ⟨rfl, rfl⟩) | fail)
            go_ret2
            have hE : none = dec false b := by rw [← HE.out]; exact HS.out.symm
            exact ⟨_, by rw [← hE]; rfl, by rw [← hE]; exact IsY.nil _, HB.out⟩
          · have HS := Lib.hid (dec_step1 (lax := true) (acc := acc) HX.out hno (by simp))
            clear hno
            go_wp2_with (first | (go_at_call 52; ((with_reducible refine (HD1.out _).mono ?_)); rintro e w1 ⟨rfl, rfl⟩) | (go_at_call 52; ((with_reducible refine (HD2.out _).mono ?_)); rintro e w1 ⟨rfl, rfl⟩) | (at_builtin; refine wpList_append_own _ rfl _ _ 22 rfl w.heap.size 5 i0 (.int .u8 0) 1 1 Tryz.underlying22 hi hz0 hz1 hz2 rfl (by decide) _ _ _ rfl (own_alloc HO.out _) ⟨wr.heap.size, 0, none⟩ 1 1 [.int .u8 37] rfl rfl (cell_one_new _ _ _) (by simp [Value.oneCell']) (by unfold maxLen; omega) (by omega) (by have := HB.out.size; simp; omega) ?_; intro v' w2 hown2 hgrow _) | fail)
            go_roundw
            case rel =>
              have hg := own_ge HO.out
              exact ⟨i + 1, acc ++ [37], by omega, by go_num, own_cast hown2 (by simp) (by simp), HA.out.append (Byt.one (by omega)), by rw [← HE.out]; exact HS.out.symm, (HB.out.alloc HB.out.size _).grown hgrow (by have := HB.out.size; simp; omega) hg, by simp; omega⟩
            case measure => simp [RowKit.intOf]; omega
      · have hno : seqI (b.drop i) = none := seq_ne HX.out h37
        have hne : (x == 37) = false := by rw [beq_eq_false_iff_ne]; exact h37
        have HS := Lib.hid (dec_step1 (lax := lax) (acc := acc) HX.out hno (fun h => h37 h.1))
        clear hno h37
        go_wp2_with (at_builtin; refine wpList_append_own _ rfl _ _ 22 rfl w.heap.size 5 i0 (.int .u8 0) 1 1 Tryz.underlying22 hi hz0 hz1 hz2 rfl (by decide) _ _ _ rfl (own_alloc HO.out _) ⟨wr.heap.size, 0, none⟩ 1 1 [.int .u8 x] rfl rfl (cell_one_new _ _ _) (by simp [Value.oneCell']) (by unfold maxLen; omega) (by omega) (by have := HB.out.size; simp; omega) ?_; intro v' w2 hown2 hgrow _)
        go_roundw
        case rel =>
          have hg := own_ge HO.out
          exact ⟨i + 1, acc ++ [x], by omega, by go_num, own_cast hown2 (by simp) (by simp), HA.out.append (Byt.one hx8), by rw [← HE.out]; exact HS.out.symm, (HB.out.alloc HB.out.size _).grown hgrow (by have := HB.out.size; simp; omega) hg, by simp; omega⟩
        case measure => simp [RowKit.intOf]; omega
    · obtain rfl : i = b.length := by omega
      have hE : some acc = dec lax b := by rw [← HE.out, List.drop_length, dec_nil]; simp
      clear HE
      have HF := Lib.hid hE
      clear hE
      obtain ⟨pq, cq, rfl⟩ := own_shape HO.out
      go_wp2
      go_ret2
      exact ⟨_, by rw [← HF.out]; rfl, by rw [← HF.out]; exact own_isY HA.out HO.out, hbw⟩
end Go.Proofs.YtkhphiilnplgjaaGreatDoor

namespace Go.Proofs.YtkhphiilnplgjaaGreatDoor
open Go.RowKit Go.Lib

/-- what an append of these bytes leaves. -/
structure Grew (w : World) (base : Nat) (v : Value) (xs l : List Int) (u : Value) (w' : World) : Prop where
  own : w'.ownsRow base 5 1 u (xs ++ l).length ((xs ++ l).map (Value.int .u8))
  grown : w.grownBy w' v.ownBlock
  at_ : u.ownBlock = v.ownBlock ∨ u.ownBlock = some w.heap.size
theorem one_cells (l : List Int) : ∀ u ∈ l.map (Value.int .u8), u.oneCell' = true := by
  intro u hu
  obtain ⟨z, _, rfl⟩ := List.mem_map.1 hu
  rfl
theorem app_run (w : World) (base : Nat) (v : Value) (xs l : List Int) (p : Option Addr) (c : Nat) (hown : w.ownsRow base 5 1 v xs.length (xs.map (Value.int .u8))) (hy : IsY w (.slice p l.length c) l)
    (hm : xs.length + l.length ≤ 140737488355328) (hb : base ≤ w.heap.size) :
    ∃ u w', (Builtin.append_ #[22, 22] 22 #[v, .slice p l.length c]).run Tryz.prog w = .ok u w' ∧ Grew w base v xs l u w' := by
  obtain ⟨i0, hi, hz0, hz1, hz2⟩ := info_parts infoU8
  have ht := Tryz.underlying22
  cases p with
  | none =>
    have hl : l = [] := by
      cases l with
      | nil => rfl
      | cons y l => obtain ⟨b, o, e, _⟩ := hy.at (j := 0) (x := y) rfl; cases e
    subst hl
    refine ⟨v, w, ?_, by simpa using hown, World.grownBy.refl w _, .inl rfl⟩
    rcases hown.2 with ⟨rfl, h0⟩ | ⟨g, cap, cur, rfl, _, _, hnc, _⟩
    · simp [Builtin.append_, run_underlying ht, sizeOf, typeInfo, hi, Builtin.lenOf, Builtin.firstCells, h0]
    · simp [Builtin.append_, run_underlying ht, sizeOf, typeInfo, hi, Builtin.lenOf, Builtin.firstCells, hnc, storeCells]
  | some ad =>
    have hcells : ∀ j u, (l.map (Value.int .u8))[j]? = some u → w.cell? (ad.add j) = some u := by
      intro j u hu
      rw [List.getElem?_map] at hu
      obtain ⟨x, hx, rfl⟩ := Option.map_eq_some_iff.1 hu
      obtain ⟨b, o, e, hc⟩ := hy.at hx
      simp only [Option.some.injEq] at e
      subst e
      rw [addr_add]; exact hc
    obtain ⟨v', w', hrun, h2, h3, _, h5⟩ := run_append_own_at (P := Tryz.prog) w base 22 22 5 i0 (.int .u8 0) 1 1 ht hi hz0 hz1 hz2 rfl (by decide) v xs.length (xs.map (Value.int .u8)) hown ad l.length c (l.map (Value.int .u8)) (by simp) hcells (one_cells l) (by unfold maxLen; omega) (by omega) hb
    exact ⟨v', w', hrun, own_cast h2 (by simp) (by simp), h3, h5⟩
theorem app_wp {o : Oper} {a : Act} {w : World} {K : Act → World → Prop} {Q : Exit → Act → World → Prop} (s x : Operand)
    (ho : o.op = .call { callee := .builtin .append, args := #[s, x], argTypes := #[22, 22] }) (hty : o.type = 22)
    (base : Nat) (v : Value) (xs l : List Int) (p : Option Addr) (c : Nat) (hs : a.eval s = v) (hx : a.eval x = .slice p l.length c) (hown : w.ownsRow base 5 1 v xs.length (xs.map (Value.int .u8))) (hy : IsY w (.slice p l.length c) l)
    (hm : xs.length + l.length ≤ 140737488355328) (hb : base ≤ w.heap.size) (h : ∀ u w', Grew w base v xs l u w' → K (a.put o.dst u) w') : o.wp Tryz.prog a w K Q := by
  obtain ⟨u, w', hrun, hg⟩ := app_run w base v xs l p c hown hy hm hb
  unfold Oper.wp execOp
  simp only [ho, hty, resolve, invoke, builtin, Sem.run_bind, Sem.run_pure, Result.andThen_ok, List.map_toArray, List.map_cons, List.map_nil, hs, hx, hrun]
  exact h u w' hg
theorem app_list {ops : Array Oper} {rest : List Oper} {o : Oper} {a : Act} {w : World} {Q : Exit → Act → World → Prop} (hgd : o.guard = none) (s x : Operand)
    (ho : o.op = .call { callee := .builtin .append, args := #[s, x], argTypes := #[22, 22] }) (hty : o.type = 22)
    (base : Nat) (v : Value) (xs l : List Int) (p : Option Addr) (c : Nat) (hs : a.eval s = v) (hx : a.eval x = .slice p l.length c) (hown : w.ownsRow base 5 1 v xs.length (xs.map (Value.int .u8))) (hy : IsY w (.slice p l.length c) l)
    (hm : xs.length + l.length ≤ 140737488355328) (hb : base ≤ w.heap.size) (h : ∀ u w', Grew w base v xs l u w' → wpList Tryz.prog ops Q rest (a.put o.dst u) w') : wpList Tryz.prog ops Q (o :: rest) a w :=
  wpList_plain hgd fun _ hK => app_wp s x ho hty base v xs l p c hs hx hown hy hm hb fun u w' hg => hK _ _ (h u w' hg)
theorem app_step {ops : Array Oper} {o : Oper} {a : Act} {w : World} {K : Act → World → Prop} {Q : Exit → Act → World → Prop} {E : Prop} (hgd : o.guard = none) (s x : Operand)
    (ho : o.op = .call { callee := .builtin .append, args := #[s, x], argTypes := #[22, 22] }) (hty : o.type = 22)
    (base : Nat) (v : Value) (xs l : List Int) (p : Option Addr) (c : Nat) (hs : a.eval s = v) (hx : a.eval x = .slice p l.length c) (hown : w.ownsRow base 5 1 v xs.length (xs.map (Value.int .u8))) (hy : IsY w (.slice p l.length c) l)
    (hm : xs.length + l.length ≤ 140737488355328) (hb : base ≤ w.heap.size) (h : ∀ u w', Grew w base v xs l u w' → K (a.put o.dst u) w') :
    if Region.wanted o (yielded ops a.tmps) = true then Oper.wp Tryz.prog o a w K Q else E := by
  rw [if_pos (by simp [Region.wanted, hgd])]
  exact app_wp s x ho hty base v xs l p c hs hx hown hy hm hb h
theorem Grew.lt {w w' : World} {base : Nat} {v u : Value} {xs l : List Int} (h : Grew w base v xs l u w') : w.heap.size ≤ w'.heap.size := h.grown.size
end Go.Proofs.YtkhphiilnplgjaaGreatDoor

namespace Go.Proofs.YtkhphiilnplgjaaGreatDoor
open Go.RowKit Go.Lib

set_option maxRecDepth 100000 in
set_option maxHeartbeats 4000000 in
theorem rreplace_any (v u : Value) (k : Int) (old new b : List Int) (M : Nat) (w : World) (hv : IsOp w v k old new) (hu : IsY w u b) (ho : 0 < old.length) (ho4 : old.length ≤ 8) (hn : new.length ≤ 4) (hb : b.length ≤ 4294967280) (hM : M ≤ 4294967280) :
    Calls Tryz.prog 36 #[v, u, .int .i64 (M : Int)] w fun e w' => ∃ r, e = .returned r ∧ IsY w' r (rep old new M b) ∧ Below w.heap.size w w' := by
  obtain ⟨i0, hi, hz0, hz1, hz2⟩ := info_parts infoU8
  obtain ⟨po, co, pn, cn, rfl, h1, h2, c1, c2⟩ := hv.shape
  obtain ⟨pb, cb, rfl, c3⟩ := hu.shape
  have HN := Lib.hid (fun W (hW : Below w.heap.size w W) => h2.grows hW)
  have HP := Lib.hid (fun W (hW : Below w.heap.size w W) => h1.grows hW)
  have HV := Lib.hid (fun W (hW : Below w.heap.size w W) => hu.grows hW)
  have HY := Lib.hid (And.intro hu.byt h2.byt)
  have D1 := Blk.new w #[.int .i64 k, .slice po old.length co, .slice pn new.length cn] 24
  have hbw1 : Below w.heap.size w (w.alloc (.cells #[.int .i64 k, .slice po old.length co, .slice pn new.length cn] 24)) := by go_grown
  have hz1 : (w.alloc (.cells #[.int .i64 k, .slice po old.length co, .slice pn new.length cn] 24)).heap.size = w.heap.size + 1 := by simp
  clear hv hu h1 h2
  have HZ1 := Lib.hid hz1
  clear hz1
  go_enter Tryz.func36, Tryz.ntmps36
  go_wp2
  generalize (w.alloc (.cells #[.int .i64 k, .slice po old.length co, .slice pn new.length cn] 24)) = w1 at D1 hbw1 HZ1 ⊢
  go_loopw [2, 7, 8] (fun mv u iv wr => ∃ (i m : Nat) (acc : List Int), i ≤ b.length ∧ m ≤ M ∧ mv = .int .i64 (m : Int) ∧ iv = .int .i64 (i : Int) ∧ wr.ownsRow (w.heap.size + 1) 5 1 u acc.length (acc.map (Value.int .u8)) ∧ Byt acc ∧ acc ++ rep old new m (b.drop i) = rep old new M b ∧ Blk wr w.heap.size #[.int .i64 k, .slice po old.length co, .slice pn new.length cn] 24 ∧ Below w.heap.size w wr ∧ w.heap.size < wr.heap.size ∧ acc.length ≤ 4 * i) (fun _ _ iv _ => b.length - (RowKit.intOf iv).toNat)
  case atStart =>
    exact ⟨0, M, [], Nat.zero_le _, Nat.le_refl _, rfl, rfl, own_of_blk (base := w.heap.size + 1) (show Blk (w1.alloc (.cells #[] 5)) (w.heap.size + 1) #[] 5 by rw [← HZ1.out]; exact Blk.new w1 #[] 5) 0 1 rfl (Nat.zero_le _) (Nat.le_refl _), Byt.nil, by rw [List.drop_zero]; rfl, D1.alloc _, hbw1.alloc hbw1.size _, by have := D1.lt; simp; omega, by simp⟩
  case round =>
    obtain ⟨i, m, acc, hil, hmM, rfl, rfl, hown, hacc, hinv, D, hbw, hlt0, hal⟩ := hrel
    have HO := Lib.hid hown
    have HA := Lib.hid hacc
    have HE := Lib.hid hinv
    have HB := Lib.hid hbw
    have HD := Lib.hid D
    clear hown hacc hinv D1 hbw1
    by_cases hlt : i < b.length
    · obtain ⟨x, hx⟩ := get_of_lt hlt
      obtain ⟨bb, oo, rfl, cx⟩ := (HV.out wr hbw).at hx
      have hx8 := HY.out.1.at hx
      have HX := Lib.hid hx
      clear hx
      have x0 : wr.cell? ⟨w.heap.size, 0, none⟩ = some (.int .i64 k) := D.cell 0 rfl
      have x1 : wr.cell? ⟨w.heap.size, 1, none⟩ = some (.slice po old.length co) := D.cell 1 rfl
      have x2 : wr.cell? ⟨w.heap.size, 2, none⟩ = some (.slice pn new.length cn) := D.cell 2 rfl
      have hdi : decide ((i : Int) < (b.length : Int)) = true := by rw [decide_eq_true_iff]; omega
      by_cases hm0 : 0 < m
      · have hdm : decide ((0 : Int) < (m : Int)) = true := by rw [decide_eq_true_iff]; omega
        have HAt := Lib.hid (at_any (.slice po old.length co) (.slice (some ⟨bb, oo, none⟩) b.length cb) old b i wr (HP.out wr hbw) (HV.out wr hbw) ho (by omega) (by omega) (by omega))
        by_cases hit : atB old b i = true
        · rw [hit] at HAt
          have HS := Lib.hid (rep_hit_at (new := new) (acc := acc) ho hm0 hit hlt)
          have hroom := hit_room hit ho
          clear hit
          go_wp2_with fail
          refine HAt.out.mono ?_
          rintro e w2 ⟨rfl, hb2⟩
          have HO2 := Lib.hid (own_below HO.out hb2)
          have D2 := HD.out.grows hb2
          have HB2 := Lib.hid (below_two hbw hb2)
          have hs2 := hb2.size
          have y1 : w2.cell? ⟨w.heap.size, 1, none⟩ = some (.slice po old.length co) := D2.cell 1 rfl
          have y2 : w2.cell? ⟨w.heap.size, 2, none⟩ = some (.slice pn new.length cn) := D2.cell 2 rfl
          have HD2 := Lib.hid D2
          have HNw := Lib.hid (HN.out w2 HB2.out)
          clear x0 x1 x2 D D2 cx hb2
          go_wp2_with (first | (at_builtin; refine app_list rfl _ _ rfl rfl (w.heap.size + 1) _ acc new pn cn rfl rfl HO2.out HNw.out (by omega) (by omega) ?_; intro u9 w9 G9; obtain ⟨hown2, hgrow, hat⟩ := G9; have D9 := HD2.out.grownBy hgrow (fun k e => by have := own_ge HO2.out k e; omega); have z1 : w9.cell? ⟨w.heap.size, 1, none⟩ = some (.slice po old.length co) := D9.cell 1 rfl) | fail)
          go_roundw
          case rel =>
            have hg := own_ge HO2.out
            have hq := hgrow.size
            exact ⟨i + old.length, m - 1, acc ++ new, by omega, by omega, by go_num, by go_num, hown2, HA.out.append HY.out.2, by rw [← HE.out]; exact HS.out.symm, D9, HB2.out.grown hgrow HB2.out.size (fun k e => by have := hg k e; omega), by omega, by simp; omega⟩
          case measure => simp [RowKit.intOf]; omega
        · rw [Bool.not_eq_true] at hit
          rw [hit] at HAt
          have HS := Lib.hid (rep_miss_at (old := old) (new := new) (acc := acc) (m := m) HX.out (fun h => by rw [show old.isPrefixOf (b.drop i) = false from hit] at h; cases h.2))
          clear hit
          go_wp2_with fail
          refine HAt.out.mono ?_
          rintro e w2 ⟨rfl, hb2⟩
          have HO2 := Lib.hid (own_below HO.out hb2)
          have HD2 := Lib.hid (HD.out.grows hb2)
          have HB2 := Lib.hid (below_two hbw hb2)
          have hs2 := hb2.size
          replace cx := (hb2.cell (lt_of_cell cx)).trans cx
          clear x0 x1 x2 D hb2
          go_wp2_with (at_builtin; refine wpList_append_own _ rfl _ _ 22 rfl (w.heap.size + 1) 5 i0 (.int .u8 0) 1 1 Tryz.underlying22 hi hz0 hz1 hz2 rfl (by decide) _ _ _ rfl (own_alloc HO2.out _) ⟨w2.heap.size, 0, none⟩ 1 1 [.int .u8 x] rfl rfl (cell_one_new _ _ _) (by simp [Value.oneCell']) (by unfold maxLen; omega) (by omega) (by simp; omega) ?_; intro v' w9 hown2 hgrow _)
          go_roundw
          case rel =>
            have hg := own_ge HO2.out
            exact ⟨i + 1, m, acc ++ [x], by omega, by omega, rfl, by go_num, own_cast hown2 (by simp) (by simp), HA.out.append (Byt.one hx8), by rw [← HE.out]; exact HS.out.symm, (HD2.out.alloc _).grownBy hgrow (fun k e => by have := hg k e; omega), (HB2.out.alloc HB2.out.size _).grown hgrow (by have := HB2.out.size; simp; omega) (fun k e => by have := hg k e; omega), by have := hgrow.size; simp at this; omega, by simp; omega⟩
          case measure => simp [RowKit.intOf]; omega
      · obtain rfl : m = 0 := by omega
        have HS := Lib.hid (rep_miss_at (old := old) (new := new) (acc := acc) (m := 0) HX.out (fun h => by omega))
        go_wp2_with (at_builtin; refine wpList_append_own _ rfl _ _ 22 rfl (w.heap.size + 1) 5 i0 (.int .u8 0) 1 1 Tryz.underlying22 hi hz0 hz1 hz2 rfl (by decide) _ _ _ rfl (own_alloc HO.out _) ⟨wr.heap.size, 0, none⟩ 1 1 [.int .u8 x] rfl rfl (cell_one_new _ _ _) (by simp [Value.oneCell']) (by unfold maxLen; omega) (by omega) (by simp; omega) ?_; intro v' w9 hown2 hgrow _)
        go_roundw
        case rel =>
          have hg := own_ge HO.out
          exact ⟨i + 1, 0, acc ++ [x], by omega, by omega, rfl, by go_num, own_cast hown2 (by simp) (by simp), HA.out.append (Byt.one hx8), by rw [← HE.out]; exact HS.out.symm, (HD.out.alloc _).grownBy hgrow (fun k e => by have := hg k e; omega), (HB.out.alloc HB.out.size _).grown hgrow (by have := HB.out.size; simp; omega) (fun k e => by have := hg k e; omega), by have := hgrow.size; simp at this; omega, by simp; omega⟩
        case measure => simp [RowKit.intOf]; omega
    · obtain rfl : i = b.length := by omega
      have HF := Lib.hid (show acc = rep old new M b by rw [← HE.out, rep_end])
      clear HE
      go_wp2
      go_ret
      exact ⟨_, rfl, by rw [← HF.out]; exact own_isY HA.out HO.out, hbw⟩
end Go.Proofs.YtkhphiilnplgjaaGreatDoor

namespace Go.Proofs.YtkhphiilnplgjaaGreatDoor
open Go.RowKit Go.Lib

theorem err_t : errI true = 0 := rfl
theorem err_f : errI false = 1 := rfl
theorem DoRes.some {w w' : World} {l : List Int} {e : Ending} {v : Value} (h1 : e = .returned (.tuple #[v, .bool true])) (h2 : IsY w' v l) (h3 : Below w.heap.size w w') : DoRes w (some l) e w' := ⟨v, h1, h2, h3⟩
theorem DoRes.none {w w' : World} {e : Ending} (h1 : e = .returned (.tuple #[.slice none 0 0, .bool false])) (h3 : Below w.heap.size w w') : DoRes w none e w' := ⟨_, h1, IsY.nil _, h3⟩
theorem DoRes.from {w w1 w' : World} {r : Option (List Int)} {e : Ending} (h : DoRes w1 r e w') (hb : Below w.heap.size w w1) : DoRes w r e w' := by
  obtain ⟨u, h1, h2, h3⟩ := h
  exact ⟨u, h1, h2, below_two hb h3⟩
set_option maxRecDepth 100000 in
set_option maxHeartbeats 4000000 in
theorem rdo_bad (k : Int) (v u : Value) (old new b : List Int) (w : World) (hv : IsOp w v k old new) (hu : IsY w u b) (ho : old.length ≤ 140737488351232) (hn : new.length ≤ 140737488351232) (hb : b.length ≤ 140737488351232) (hval : valI k old new = false) :
    Calls Tryz.prog 15 #[v, u] w (DoRes w (none)) := by
  obtain ⟨i0, hi, hz0, hz1, hz2⟩ := info_parts infoU8
  obtain ⟨po, co, pn, cn, rfl, h1, h2, c1, c2⟩ := hv.shape
  obtain ⟨pb, cb, rfl, c3⟩ := hu.shape
  have HI := Lib.hid (fun W (hW : Below w.heap.size w W) => hv.grows hW)
  have HP := Lib.hid (fun W (hW : Below w.heap.size w W) => h1.grows hW)
  have HV := Lib.hid (fun W (hW : Below w.heap.size w W) => hu.grows hW)
  have HY := Lib.hid (And.intro hu.byt (And.intro h1.byt h2.byt))
  have D1 := Blk.new w #[.int .i64 k, .slice po old.length co, .slice pn new.length cn] 24
  have hbw1 : Below w.heap.size w (w.alloc (.cells #[.int .i64 k, .slice po old.length co, .slice pn new.length cn] 24)) := by go_grown
  have HE := Lib.hid hval
  clear hv hu h1 h2 hval
  go_enter Tryz.func15, Tryz.ntmps15
  go_wp2_with fail
  generalize (w.alloc (.cells #[.int .i64 k, .slice po old.length co, .slice pn new.length cn] 24)) = w1 at D1 hbw1 ⊢
  refine (rvalid_any _ _ old new w1 (HI.out w1 hbw1) (by omega) (by omega)).mono ?_
  rintro e w2 ⟨rfl, hb2⟩
  rw [HE.out]
  have D := D1.grows hb2
  have hbw := below_two hbw1 hb2
  clear D1 hb2 hbw1
  have x0 : w2.cell? ⟨w.heap.size, 0, none⟩ = some (.int .i64 k) := D.cell 0 rfl
  have x1 : w2.cell? ⟨w.heap.size, 1, none⟩ = some (.slice po old.length co) := D.cell 1 rfl
  have x2 : w2.cell? ⟨w.heap.size, 2, none⟩ = some (.slice pn new.length cn) := D.cell 2 rfl
  rw [err_f]
  go_wp2
  go_ret2
  exact DoRes.none rfl hbw
set_option maxRecDepth 100000 in
set_option maxHeartbeats 4000000 in
theorem rdo_3 (v u : Value) (old new b : List Int) (w : World) (hv : IsOp w v 3 old new) (hu : IsY w u b) (ho : old.length ≤ 140737488351232) (hn : new.length ≤ 140737488351232) (hb : b.length ≤ 140737488351232) (hval : valI 3 old new = true) :
    Calls Tryz.prog 15 #[v, u] w (DoRes w (dec false b)) := by
  obtain ⟨i0, hi, hz0, hz1, hz2⟩ := info_parts infoU8
  obtain ⟨po, co, pn, cn, rfl, h1, h2, c1, c2⟩ := hv.shape
  obtain ⟨pb, cb, rfl, c3⟩ := hu.shape
  have HI := Lib.hid (fun W (hW : Below w.heap.size w W) => hv.grows hW)
  have HP := Lib.hid (fun W (hW : Below w.heap.size w W) => h1.grows hW)
  have HV := Lib.hid (fun W (hW : Below w.heap.size w W) => hu.grows hW)
  have HY := Lib.hid (And.intro hu.byt (And.intro h1.byt h2.byt))
  have D1 := Blk.new w #[.int .i64 3, .slice po old.length co, .slice pn new.length cn] 24
  have hbw1 : Below w.heap.size w (w.alloc (.cells #[.int .i64 3, .slice po old.length co, .slice pn new.length cn] 24)) := by go_grown
  have HE := Lib.hid hval
  clear hv hu h1 h2 hval
  go_enter Tryz.func15, Tryz.ntmps15
  go_wp2_with fail
  generalize (w.alloc (.cells #[.int .i64 3, .slice po old.length co, .slice pn new.length cn] 24)) = w1 at D1 hbw1 ⊢
  refine (rvalid_any _ _ old new w1 (HI.out w1 hbw1) (by omega) (by omega)).mono ?_
  rintro e w2 ⟨rfl, hb2⟩
  rw [HE.out]
  have D := D1.grows hb2
  have hbw := below_two hbw1 hb2
  clear D1 hb2 hbw1
  have x0 : w2.cell? ⟨w.heap.size, 0, none⟩ = some (.int .i64 3) := D.cell 0 rfl
  have x1 : w2.cell? ⟨w.heap.size, 1, none⟩ = some (.slice po old.length co) := D.cell 1 rfl
  have x2 : w2.cell? ⟨w.heap.size, 2, none⟩ = some (.slice pn new.length cn) := D.cell 2 rfl
  rw [err_t]
  go_wp2_with fail
  refine (rpercent_any _ b false w2 (HV.out w2 hbw) hb).mono ?_
  rintro e w3 ⟨u3, rfl, hY3, hb3⟩
  have HB3 := Lib.hid (And.intro hY3 (below_two hbw hb3))
  clear hY3 hb3 x0 x1 x2 D hbw
  go_wp2
  go_ret2
  exact ⟨_, rfl, HB3.out.1, HB3.out.2⟩
set_option maxRecDepth 100000 in
set_option maxHeartbeats 4000000 in
theorem rdo_4 (v u : Value) (old new b : List Int) (w : World) (hv : IsOp w v 4 old new) (hu : IsY w u b) (ho : old.length ≤ 140737488351232) (hn : new.length ≤ 140737488351232) (hb : b.length ≤ 140737488351232) (hval : valI 4 old new = true) :
    Calls Tryz.prog 15 #[v, u] w (DoRes w (dec true b)) := by
  obtain ⟨i0, hi, hz0, hz1, hz2⟩ := info_parts infoU8
  obtain ⟨po, co, pn, cn, rfl, h1, h2, c1, c2⟩ := hv.shape
  obtain ⟨pb, cb, rfl, c3⟩ := hu.shape
  have HI := Lib.hid (fun W (hW : Below w.heap.size w W) => hv.grows hW)
  have HP := Lib.hid (fun W (hW : Below w.heap.size w W) => h1.grows hW)
  have HV := Lib.hid (fun W (hW : Below w.heap.size w W) => hu.grows hW)
  have HY := Lib.hid (And.intro hu.byt (And.intro h1.byt h2.byt))
  have D1 := Blk.new w #[.int .i64 4, .slice po old.length co, .slice pn new.length cn] 24
  have hbw1 : Below w.heap.size w (w.alloc (.cells #[.int .i64 4, .slice po old.length co, .slice pn new.length cn] 24)) := by go_grown
  have HE := Lib.hid hval
  clear hv hu h1 h2 hval
  go_enter Tryz.func15, Tryz.ntmps15
  go_wp2_with fail
  generalize (w.alloc (.cells #[.int .i64 4, .slice po old.length co, .slice pn new.length cn] 24)) = w1 at D1 hbw1 ⊢
  refine (rvalid_any _ _ old new w1 (HI.out w1 hbw1) (by omega) (by omega)).mono ?_
  rintro e w2 ⟨rfl, hb2⟩
  rw [HE.out]
  have D := D1.grows hb2
  have hbw := below_two hbw1 hb2
  clear D1 hb2 hbw1
  have x0 : w2.cell? ⟨w.heap.size, 0, none⟩ = some (.int .i64 4) := D.cell 0 rfl
  have x1 : w2.cell? ⟨w.heap.size, 1, none⟩ = some (.slice po old.length co) := D.cell 1 rfl
  have x2 : w2.cell? ⟨w.heap.size, 2, none⟩ = some (.slice pn new.length cn) := D.cell 2 rfl
  rw [err_t]
  go_wp2_with fail
  refine (rpercent_any _ b true w2 (HV.out w2 hbw) hb).mono ?_
  rintro e w3 ⟨u3, rfl, hY3, hb3⟩
  have HB3 := Lib.hid (And.intro hY3 (below_two hbw hb3))
  clear hY3 hb3 x0 x1 x2 D hbw
  go_wp2
  go_ret2
  exact ⟨_, rfl, HB3.out.1, HB3.out.2⟩
set_option maxRecDepth 100000 in
set_option maxHeartbeats 4000000 in
theorem rdo_5 (v u : Value) (old new b : List Int) (w : World) (hv : IsOp w v 5 old new) (hu : IsY w u b) (ho : old.length ≤ 140737488351232) (hn : new.length ≤ 140737488351232) (hb : b.length ≤ 4294967280) (hval : valI 5 old new = true) :
    Calls Tryz.prog 15 #[v, u] w (DoRes w (some (rep old new 1 b))) := by
  obtain ⟨i0, hi, hz0, hz1, hz2⟩ := info_parts infoU8
  obtain ⟨po, co, pn, cn, rfl, h1, h2, c1, c2⟩ := hv.shape
  obtain ⟨pb, cb, rfl, c3⟩ := hu.shape
  have HI := Lib.hid (fun W (hW : Below w.heap.size w W) => hv.grows hW)
  have HP := Lib.hid (fun W (hW : Below w.heap.size w W) => h1.grows hW)
  have HV := Lib.hid (fun W (hW : Below w.heap.size w W) => hu.grows hW)
  have HY := Lib.hid (And.intro hu.byt (And.intro h1.byt h2.byt))
  have D1 := Blk.new w #[.int .i64 5, .slice po old.length co, .slice pn new.length cn] 24
  have hbw1 : Below w.heap.size w (w.alloc (.cells #[.int .i64 5, .slice po old.length co, .slice pn new.length cn] 24)) := by go_grown
  have HE := Lib.hid hval
  clear hv hu h1 h2 hval
  go_enter Tryz.func15, Tryz.ntmps15
  go_wp2_with fail
  generalize (w.alloc (.cells #[.int .i64 5, .slice po old.length co, .slice pn new.length cn] 24)) = w1 at D1 hbw1 ⊢
  refine (rvalid_any _ _ old new w1 (HI.out w1 hbw1) (by omega) (by omega)).mono ?_
  rintro e w2 ⟨rfl, hb2⟩
  rw [HE.out]
  have D := D1.grows hb2
  have hbw := below_two hbw1 hb2
  clear D1 hb2 hbw1
  have x0 : w2.cell? ⟨w.heap.size, 0, none⟩ = some (.int .i64 5) := D.cell 0 rfl
  have x1 : w2.cell? ⟨w.heap.size, 1, none⟩ = some (.slice po old.length co) := D.cell 1 rfl
  have x2 : w2.cell? ⟨w.heap.size, 2, none⟩ = some (.slice pn new.length cn) := D.cell 2 rfl
  have hlen : 1 ≤ old.length ∧ old.length ≤ 4 ∧ new.length ≤ 4 := by
    have h := HE.out
    rw [valI_5 _ _ _ (by omega), decide_eq_true_iff] at h
    exact h
  rw [err_t]
  go_wp2_with fail
  refine (rreplace_any _ _ 5 old new b 1 w2 (HI.out w2 hbw) (HV.out w2 hbw) (by omega) (by omega) (by omega) hb (by omega)).mono ?_
  rintro e w3 ⟨u3, rfl, hY3, hb3⟩
  have HB3 := Lib.hid (And.intro hY3 (below_two hbw hb3))
  clear hY3 hb3 x0 x1 x2 D hbw
  go_wp2
  go_ret2
  exact DoRes.some rfl HB3.out.1 HB3.out.2
set_option maxRecDepth 100000 in
set_option maxHeartbeats 4000000 in
theorem rdo_6 (v u : Value) (old new b : List Int) (w : World) (hv : IsOp w v 6 old new) (hu : IsY w u b) (ho : old.length ≤ 140737488351232) (hn : new.length ≤ 140737488351232) (hb : b.length ≤ 4294967280) (hval : valI 6 old new = true) :
    Calls Tryz.prog 15 #[v, u] w (DoRes w (some (rep old new b.length b))) := by
  obtain ⟨i0, hi, hz0, hz1, hz2⟩ := info_parts infoU8
  obtain ⟨po, co, pn, cn, rfl, h1, h2, c1, c2⟩ := hv.shape
  obtain ⟨pb, cb, rfl, c3⟩ := hu.shape
  have HI := Lib.hid (fun W (hW : Below w.heap.size w W) => hv.grows hW)
  have HP := Lib.hid (fun W (hW : Below w.heap.size w W) => h1.grows hW)
  have HV := Lib.hid (fun W (hW : Below w.heap.size w W) => hu.grows hW)
  have HY := Lib.hid (And.intro hu.byt (And.intro h1.byt h2.byt))
  have D1 := Blk.new w #[.int .i64 6, .slice po old.length co, .slice pn new.length cn] 24
  have hbw1 : Below w.heap.size w (w.alloc (.cells #[.int .i64 6, .slice po old.length co, .slice pn new.length cn] 24)) := by go_grown
  have HE := Lib.hid hval
  clear hv hu h1 h2 hval
  go_enter Tryz.func15, Tryz.ntmps15
  go_wp2_with fail
  generalize (w.alloc (.cells #[.int .i64 6, .slice po old.length co, .slice pn new.length cn] 24)) = w1 at D1 hbw1 ⊢
  refine (rvalid_any _ _ old new w1 (HI.out w1 hbw1) (by omega) (by omega)).mono ?_
  rintro e w2 ⟨rfl, hb2⟩
  rw [HE.out]
  have D := D1.grows hb2
  have hbw := below_two hbw1 hb2
  clear D1 hb2 hbw1
  have x0 : w2.cell? ⟨w.heap.size, 0, none⟩ = some (.int .i64 6) := D.cell 0 rfl
  have x1 : w2.cell? ⟨w.heap.size, 1, none⟩ = some (.slice po old.length co) := D.cell 1 rfl
  have x2 : w2.cell? ⟨w.heap.size, 2, none⟩ = some (.slice pn new.length cn) := D.cell 2 rfl
  have hlen : 1 ≤ old.length ∧ old.length ≤ 4 ∧ new.length ≤ 4 := by
    have h := HE.out
    rw [valI_5 _ _ _ (by omega), decide_eq_true_iff] at h
    exact h
  rw [err_t]
  go_wp2_with fail
  refine (rreplace_any _ _ 6 old new b b.length w2 (HI.out w2 hbw) (HV.out w2 hbw) (by omega) (by omega) (by omega) hb (by omega)).mono ?_
  rintro e w3 ⟨u3, rfl, hY3, hb3⟩
  have HB3 := Lib.hid (And.intro hY3 (below_two hbw hb3))
  clear hY3 hb3 x0 x1 x2 D hbw
  go_wp2
  go_ret2
  exact DoRes.some rfl HB3.out.1 HB3.out.2
set_option maxRecDepth 100000 in
set_option maxHeartbeats 4000000 in
theorem rdo_1 (v u : Value) (old new b : List Int) (w : World) (hv : IsOp w v 1 old new) (hu : IsY w u b) (ho : old.length ≤ 140737488351232) (hn : new.length ≤ 140737488351232) (hb : b.length ≤ 140737488351232) (hval : valI 1 old new = true) :
    Calls Tryz.prog 15 #[v, u] w (DoRes w (some (b.map lowI))) := by
  obtain ⟨i0, hi, hz0, hz1, hz2⟩ := info_parts infoU8
  obtain ⟨po, co, pn, cn, rfl, h1, h2, c1, c2⟩ := hv.shape
  obtain ⟨pb, cb, rfl, c3⟩ := hu.shape
  have HI := Lib.hid (fun W (hW : Below w.heap.size w W) => hv.grows hW)
  have HP := Lib.hid (fun W (hW : Below w.heap.size w W) => h1.grows hW)
  have HV := Lib.hid (fun W (hW : Below w.heap.size w W) => hu.grows hW)
  have HY := Lib.hid (And.intro hu.byt (And.intro h1.byt h2.byt))
  have D1 := Blk.new w #[.int .i64 1, .slice po old.length co, .slice pn new.length cn] 24
  have hbw1 : Below w.heap.size w (w.alloc (.cells #[.int .i64 1, .slice po old.length co, .slice pn new.length cn] 24)) := by go_grown
  have HE := Lib.hid hval
  clear hv hu h1 h2 hval
  go_enter Tryz.func15, Tryz.ntmps15
  go_wp2_with fail
  generalize (w.alloc (.cells #[.int .i64 1, .slice po old.length co, .slice pn new.length cn] 24)) = w1 at D1 hbw1 ⊢
  refine (rvalid_any _ _ old new w1 (HI.out w1 hbw1) (by omega) (by omega)).mono ?_
  rintro e w2 ⟨rfl, hb2⟩
  rw [HE.out]
  have D := D1.grows hb2
  have hbw := below_two hbw1 hb2
  clear D1 hb2 hbw1
  have x0 : w2.cell? ⟨w.heap.size, 0, none⟩ = some (.int .i64 1) := D.cell 0 rfl
  have x1 : w2.cell? ⟨w.heap.size, 1, none⟩ = some (.slice po old.length co) := D.cell 1 rfl
  have x2 : w2.cell? ⟨w.heap.size, 2, none⟩ = some (.slice pn new.length cn) := D.cell 2 rfl
  rw [err_t]
  have hlt1 := D.lt
  go_wp2
  obtain ⟨w3, hw3⟩ : ∃ w3, w3 = w2.alloc (.cells #[] 5) := ⟨_, rfl⟩
  rw [← hw3]
  have HW3 := Lib.hid hw3
  have O3 : w3.ownsRow (w.heap.size + 1) 5 1 (.slice (some ⟨w2.heap.size, 0, none⟩) 0 0) 0 [] := by rw [hw3]; exact own_of_blk (Blk.new w2 #[] 5) 0 1 rfl (Nat.zero_le _) hlt1
  have D3 : Blk w3 w.heap.size #[.int .i64 1, .slice po old.length co, .slice pn new.length cn] 24 := by rw [hw3]; exact D.alloc _
  have hbw3 : Below w.heap.size w w3 := by rw [hw3]; exact hbw.alloc hbw.size _
  clear hw3 HW3 D hbw x0 x1 x2
  go_loopw [6, 7, 8] (fun u iv _ wr => ∃ (i : Nat) (acc : List Int), i ≤ b.length ∧ iv = .int .i64 (i : Int) ∧ wr.ownsRow (w.heap.size + 1) 5 1 u acc.length (acc.map (Value.int .u8)) ∧ Byt acc ∧ acc = (b.take i).map lowI ∧ Blk wr w.heap.size #[.int .i64 1, .slice po old.length co, .slice pn new.length cn] 24 ∧ Below w.heap.size w wr ∧ acc.length ≤ i) (fun _ iv _ _ => b.length - (RowKit.intOf iv).toNat)
  case atStart =>
    exact ⟨0, [], Nat.zero_le _, rfl, O3, Byt.nil, by simp, D3, hbw3, Nat.le_refl _⟩
  case round =>
    obtain ⟨i, acc, hil, rfl, hown, hacc, hinv, D, hbw, hal⟩ := hrel
    have HO := Lib.hid hown
    have HA := Lib.hid hacc
    have HN := Lib.hid hinv
    have HB := Lib.hid hbw
    have HD := Lib.hid D
    clear hown hacc hinv O3 D3 hbw3
    by_cases hlt : i < b.length
    · obtain ⟨x, hx⟩ := get_of_lt hlt
      obtain ⟨bb, oo, rfl, cx⟩ := (HV.out wr hbw).at hx
      have hx8 := HY.out.1.at hx
      have HX := Lib.hid hx
      clear hx
      have hslt := D.lt
      have x0 : wr.cell? ⟨w.heap.size, 0, none⟩ = some (.int .i64 1) := D.cell 0 rfl
      have x1 : wr.cell? ⟨w.heap.size, 1, none⟩ = some (.slice po old.length co) := D.cell 1 rfl
      have HL := Lib.hid (fun W => letter_low x W hx8.1 hx8.2)
      have hy8 := lowI_byte hx8
      have HS := Lib.hid (map_step (f := lowI) HX.out)
      generalize lowI x = y at HL hy8 HS
      go_wp2_with (first | (go_at_call 38; ((with_reducible refine (HL.out _).mono ?_)); rintro e w4 ⟨rfl, rfl⟩) | (at_builtin; refine wpList_append_own _ rfl _ _ 22 rfl (w.heap.size + 1) 5 i0 (.int .u8 0) 1 1 Tryz.underlying22 hi hz0 hz1 hz2 rfl (by decide) _ _ _ rfl (own_alloc HO.out _) ⟨wr.heap.size, 0, none⟩ 1 1 [.int .u8 y] rfl rfl (cell_one_new _ _ _) (by simp [Value.oneCell']) (by unfold maxLen; omega) (by omega) (by simp; omega) ?_; intro v' w9 hown2 hgrow _) | fail)
      go_roundw
      case rel =>
        have hg := own_ge HO.out
        exact ⟨i + 1, acc ++ [y], by omega, by go_num, own_cast hown2 (by simp) (by simp), HA.out.append (Byt.one hy8), by rw [HN.out, HS.out], (HD.out.alloc _).grownBy hgrow (fun k e => by have := hg k e; omega), (HB.out.alloc HB.out.size _).grown hgrow (by have := HB.out.size; simp; omega) (fun k e => by have := hg k e; omega), by rw [List.length_append]; simp only [List.length_cons, List.length_nil]; omega⟩
      case measure => simp [RowKit.intOf]; omega
    · obtain rfl : i = b.length := by omega
      have HF := Lib.hid (show acc = b.map lowI by rw [HN.out, List.take_length])
      clear HN
      go_wp2
      go_ret2
      exact DoRes.some rfl (by rw [← HF.out]; exact own_isY HA.out HO.out) hbw
set_option maxRecDepth 100000 in
set_option maxHeartbeats 4000000 in
theorem rdo_2 (v u : Value) (old new b : List Int) (w : World) (hv : IsOp w v 2 old new) (hu : IsY w u b) (ho : old.length ≤ 140737488351232) (hn : new.length ≤ 140737488351232) (hb : b.length ≤ 140737488351232) (hval : valI 2 old new = true) :
    Calls Tryz.prog 15 #[v, u] w (DoRes w (some (b.map upI))) := by
  obtain ⟨i0, hi, hz0, hz1, hz2⟩ := info_parts infoU8
  obtain ⟨po, co, pn, cn, rfl, h1, h2, c1, c2⟩ := hv.shape
  obtain ⟨pb, cb, rfl, c3⟩ := hu.shape
  have HI := Lib.hid (fun W (hW : Below w.heap.size w W) => hv.grows hW)
  have HP := Lib.hid (fun W (hW : Below w.heap.size w W) => h1.grows hW)
  have HV := Lib.hid (fun W (hW : Below w.heap.size w W) => hu.grows hW)
  have HY := Lib.hid (And.intro hu.byt (And.intro h1.byt h2.byt))
  have D1 := Blk.new w #[.int .i64 2, .slice po old.length co, .slice pn new.length cn] 24
  have hbw1 : Below w.heap.size w (w.alloc (.cells #[.int .i64 2, .slice po old.length co, .slice pn new.length cn] 24)) := by go_grown
  have HE := Lib.hid hval
  clear hv hu h1 h2 hval
  go_enter Tryz.func15, Tryz.ntmps15
  go_wp2_with fail
  generalize (w.alloc (.cells #[.int .i64 2, .slice po old.length co, .slice pn new.length cn] 24)) = w1 at D1 hbw1 ⊢
  refine (rvalid_any _ _ old new w1 (HI.out w1 hbw1) (by omega) (by omega)).mono ?_
  rintro e w2 ⟨rfl, hb2⟩
  rw [HE.out]
  have D := D1.grows hb2
  have hbw := below_two hbw1 hb2
  clear D1 hb2 hbw1
  have x0 : w2.cell? ⟨w.heap.size, 0, none⟩ = some (.int .i64 2) := D.cell 0 rfl
  have x1 : w2.cell? ⟨w.heap.size, 1, none⟩ = some (.slice po old.length co) := D.cell 1 rfl
  have x2 : w2.cell? ⟨w.heap.size, 2, none⟩ = some (.slice pn new.length cn) := D.cell 2 rfl
  rw [err_t]
  have hlt1 := D.lt
  go_wp2
  obtain ⟨w3, hw3⟩ : ∃ w3, w3 = w2.alloc (.cells #[] 5) := ⟨_, rfl⟩
  rw [← hw3]
  have HW3 := Lib.hid hw3
  have O3 : w3.ownsRow (w.heap.size + 1) 5 1 (.slice (some ⟨w2.heap.size, 0, none⟩) 0 0) 0 [] := by rw [hw3]; exact own_of_blk (Blk.new w2 #[] 5) 0 1 rfl (Nat.zero_le _) hlt1
  have D3 : Blk w3 w.heap.size #[.int .i64 2, .slice po old.length co, .slice pn new.length cn] 24 := by rw [hw3]; exact D.alloc _
  have hbw3 : Below w.heap.size w w3 := by rw [hw3]; exact hbw.alloc hbw.size _
  clear hw3 HW3 D hbw x0 x1 x2
  go_loopw [6, 7, 8] (fun u iv _ wr => ∃ (i : Nat) (acc : List Int), i ≤ b.length ∧ iv = .int .i64 (i : Int) ∧ wr.ownsRow (w.heap.size + 1) 5 1 u acc.length (acc.map (Value.int .u8)) ∧ Byt acc ∧ acc = (b.take i).map upI ∧ Blk wr w.heap.size #[.int .i64 2, .slice po old.length co, .slice pn new.length cn] 24 ∧ Below w.heap.size w wr ∧ acc.length ≤ i) (fun _ iv _ _ => b.length - (RowKit.intOf iv).toNat)
  case atStart =>
    exact ⟨0, [], Nat.zero_le _, rfl, O3, Byt.nil, by simp, D3, hbw3, Nat.le_refl _⟩
  case round =>
    obtain ⟨i, acc, hil, rfl, hown, hacc, hinv, D, hbw, hal⟩ := hrel
    have HO := Lib.hid hown
    have HA := Lib.hid hacc
    have HN := Lib.hid hinv
    have HB := Lib.hid hbw
    have HD := Lib.hid D
    clear hown hacc hinv O3 D3 hbw3
    by_cases hlt : i < b.length
    · obtain ⟨x, hx⟩ := get_of_lt hlt
      obtain ⟨bb, oo, rfl, cx⟩ := (HV.out wr hbw).at hx
      have hx8 := HY.out.1.at hx
      have HX := Lib.hid hx
      clear hx
      have hslt := D.lt
      have x0 : wr.cell? ⟨w.heap.size, 0, none⟩ = some (.int .i64 2) := D.cell 0 rfl
      have x1 : wr.cell? ⟨w.heap.size, 1, none⟩ = some (.slice po old.length co) := D.cell 1 rfl
      have HL := Lib.hid (fun W => letter_up x W hx8.1 hx8.2)
      have hy8 := upI_byte hx8
      have HS := Lib.hid (map_step (f := upI) HX.out)
      generalize upI x = y at HL hy8 HS
      go_wp2_with (first | (go_at_call 38; ((with_reducible refine (HL.out _).mono ?_)); rintro e w4 ⟨rfl, rfl⟩) | (at_builtin; refine wpList_append_own _ rfl _ _ 22 rfl (w.heap.size + 1) 5 i0 (.int .u8 0) 1 1 Tryz.underlying22 hi hz0 hz1 hz2 rfl (by decide) _ _ _ rfl (own_alloc HO.out _) ⟨wr.heap.size, 0, none⟩ 1 1 [.int .u8 y] rfl rfl (cell_one_new _ _ _) (by simp [Value.oneCell']) (by unfold maxLen; omega) (by omega) (by simp; omega) ?_; intro v' w9 hown2 hgrow _) | fail)
      go_roundw
      case rel =>
        have hg := own_ge HO.out
        exact ⟨i + 1, acc ++ [y], by omega, by go_num, own_cast hown2 (by simp) (by simp), HA.out.append (Byt.one hy8), by rw [HN.out, HS.out], (HD.out.alloc _).grownBy hgrow (fun k e => by have := hg k e; omega), (HB.out.alloc HB.out.size _).grown hgrow (by have := HB.out.size; simp; omega) (fun k e => by have := hg k e; omega), by rw [List.length_append]; simp only [List.length_cons, List.length_nil]; omega⟩
      case measure => simp [RowKit.intOf]; omega
    · obtain rfl : i = b.length := by omega
      have HF := Lib.hid (show acc = b.map upI by rw [HN.out, List.take_length])
      clear HN
      go_wp2
      go_ret2
      exact DoRes.some rfl (by rw [← HF.out]; exact own_isY HA.out HO.out) hbw
set_option maxRecDepth 100000 in
set_option maxHeartbeats 4000000 in
theorem rdo_7 (v u : Value) (old new b : List Int) (w : World) (hv : IsOp w v 7 old new) (hu : IsY w u b) (ho : old.length ≤ 140737488351232) (hn : new.length ≤ 140737488351232) (hb : b.length ≤ 140737488351232) (hval : valI 7 old new = true) :
    Calls Tryz.prog 15 #[v, u] w (DoRes w (some (b.filter fun z => !old.contains z))) := by
  obtain ⟨i0, hi, hz0, hz1, hz2⟩ := info_parts infoU8
  obtain ⟨po, co, pn, cn, rfl, h1, h2, c1, c2⟩ := hv.shape
  obtain ⟨pb, cb, rfl, c3⟩ := hu.shape
  have HI := Lib.hid (fun W (hW : Below w.heap.size w W) => hv.grows hW)
  have HP := Lib.hid (fun W (hW : Below w.heap.size w W) => h1.grows hW)
  have HV := Lib.hid (fun W (hW : Below w.heap.size w W) => hu.grows hW)
  have HY := Lib.hid (And.intro hu.byt (And.intro h1.byt h2.byt))
  have D1 := Blk.new w #[.int .i64 7, .slice po old.length co, .slice pn new.length cn] 24
  have hbw1 : Below w.heap.size w (w.alloc (.cells #[.int .i64 7, .slice po old.length co, .slice pn new.length cn] 24)) := by go_grown
  have HE := Lib.hid hval
  clear hv hu h1 h2 hval
  go_enter Tryz.func15, Tryz.ntmps15
  go_wp2_with fail
  generalize (w.alloc (.cells #[.int .i64 7, .slice po old.length co, .slice pn new.length cn] 24)) = w1 at D1 hbw1 ⊢
  refine (rvalid_any _ _ old new w1 (HI.out w1 hbw1) (by omega) (by omega)).mono ?_
  rintro e w2 ⟨rfl, hb2⟩
  rw [HE.out]
  have D := D1.grows hb2
  have hbw := below_two hbw1 hb2
  clear D1 hb2 hbw1
  have x0 : w2.cell? ⟨w.heap.size, 0, none⟩ = some (.int .i64 7) := D.cell 0 rfl
  have x1 : w2.cell? ⟨w.heap.size, 1, none⟩ = some (.slice po old.length co) := D.cell 1 rfl
  have x2 : w2.cell? ⟨w.heap.size, 2, none⟩ = some (.slice pn new.length cn) := D.cell 2 rfl
  rw [err_t]
  have hlt1 := D.lt
  go_wp2
  obtain ⟨w3, hw3⟩ : ∃ w3, w3 = w2.alloc (.cells #[] 5) := ⟨_, rfl⟩
  rw [← hw3]
  have HW3 := Lib.hid hw3
  have O3 : w3.ownsRow (w.heap.size + 1) 5 1 (.slice (some ⟨w2.heap.size, 0, none⟩) 0 0) 0 [] := by rw [hw3]; exact own_of_blk (Blk.new w2 #[] 5) 0 1 rfl (Nat.zero_le _) hlt1
  have D3 : Blk w3 w.heap.size #[.int .i64 7, .slice po old.length co, .slice pn new.length cn] 24 := by rw [hw3]; exact D.alloc _
  have hbw3 : Below w.heap.size w w3 := by rw [hw3]; exact hbw.alloc hbw.size _
  clear hw3 HW3 D hbw x0 x1 x2
  go_loopw [6, 7, 8] (fun u iv _ wr => ∃ (i : Nat) (acc : List Int), i ≤ b.length ∧ iv = .int .i64 (i : Int) ∧ wr.ownsRow (w.heap.size + 1) 5 1 u acc.length (acc.map (Value.int .u8)) ∧ Byt acc ∧ acc = ((b.take i).filter fun z => !old.contains z) ∧ Blk wr w.heap.size #[.int .i64 7, .slice po old.length co, .slice pn new.length cn] 24 ∧ Below w.heap.size w wr ∧ acc.length ≤ i) (fun _ iv _ _ => b.length - (RowKit.intOf iv).toNat)
  case atStart =>
    exact ⟨0, [], Nat.zero_le _, rfl, O3, Byt.nil, by simp, D3, hbw3, Nat.le_refl _⟩
  case round =>
    obtain ⟨i, acc, hil, rfl, hown, hacc, hinv, D, hbw, hal⟩ := hrel
    have HO := Lib.hid hown
    have HA := Lib.hid hacc
    have HN := Lib.hid hinv
    have HB := Lib.hid hbw
    have HD := Lib.hid D
    clear hown hacc hinv O3 D3 hbw3
    by_cases hlt : i < b.length
    · obtain ⟨x, hx⟩ := get_of_lt hlt
      obtain ⟨bb, oo, rfl, cx⟩ := (HV.out wr hbw).at hx
      have hx8 := HY.out.1.at hx
      have HX := Lib.hid hx
      clear hx
      have hslt := D.lt
      have x0 : wr.cell? ⟨w.heap.size, 0, none⟩ = some (.int .i64 7) := D.cell 0 rfl
      have x1 : wr.cell? ⟨w.heap.size, 1, none⟩ = some (.slice po old.length co) := D.cell 1 rfl
      have HIn := Lib.hid (in_any (.slice po old.length co) old x wr (HP.out wr hbw) ho hx8)
      by_cases hin : inB old x = true
      · rw [hin] at HIn
        have HS := Lib.hid (filter_no (old := old) HX.out hin)
        clear hin
        go_wp2_with fail
        refine HIn.out.mono ?_
        rintro e w4 ⟨rfl, hb4⟩
        have HO4 := Lib.hid (own_below HO.out hb4)
        have HD4 := Lib.hid (HD.out.grows hb4)
        have HB4 := Lib.hid (below_two hbw hb4)
        clear x0 x1 D hb4 cx
        go_wp2
        go_roundw
        case rel => exact ⟨i + 1, acc, by omega, by go_num, HO4.out, HA.out, by rw [HN.out, HS.out], HD4.out, HB4.out, by omega⟩
        case measure => simp [RowKit.intOf]; omega
      · rw [Bool.not_eq_true] at hin
        rw [hin] at HIn
        have HS := Lib.hid (filter_yes (old := old) HX.out hin)
        clear hin
        go_wp2_with fail
        refine HIn.out.mono ?_
        rintro e w4 ⟨rfl, hb4⟩
        have HO4 := Lib.hid (own_below HO.out hb4)
        have D4 := HD.out.grows hb4
        have HD4 := Lib.hid D4
        have HB4 := Lib.hid (below_two hbw hb4)
        have hs4 := hb4.size
        have y0 : w4.cell? ⟨w.heap.size, 0, none⟩ = some (.int .i64 7) := D4.cell 0 rfl
        clear x0 x1 D hb4 cx D4
        go_wp2_with (at_builtin; refine wpList_append_own _ rfl _ _ 22 rfl (w.heap.size + 1) 5 i0 (.int .u8 0) 1 1 Tryz.underlying22 hi hz0 hz1 hz2 rfl (by decide) _ _ _ rfl (own_alloc HO4.out _) ⟨w4.heap.size, 0, none⟩ 1 1 [.int .u8 x] rfl rfl (cell_one_new _ _ _) (by simp [Value.oneCell']) (by unfold maxLen; omega) (by omega) (by simp; omega) ?_; intro v' w9 hown2 hgrow _)
        go_roundw
        case rel =>
          have hg := own_ge HO4.out
          exact ⟨i + 1, acc ++ [x], by omega, by go_num, own_cast hown2 (by simp) (by simp), HA.out.append (Byt.one hx8), by rw [HN.out, HS.out], (HD4.out.alloc _).grownBy hgrow (fun k e => by have := hg k e; omega), (HB4.out.alloc HB4.out.size _).grown hgrow (by have := HB4.out.size; simp; omega) (fun k e => by have := hg k e; omega), by rw [List.length_append]; simp only [List.length_cons, List.length_nil]; omega⟩
        case measure => simp [RowKit.intOf]; omega
    · obtain rfl : i = b.length := by omega
      have HF := Lib.hid (show acc = b.filter fun z => !old.contains z by rw [HN.out, List.take_length])
      clear HN
      go_wp2
      go_ret2
      exact DoRes.some rfl (by rw [← HF.out]; exact own_isY HA.out HO.out) hbw
set_option maxRecDepth 100000 in
set_option maxHeartbeats 4000000 in
theorem rdo_8 (c : Int) (v u : Value) (old new b : List Int) (hc : old[0]? = some c) (w : World) (hv : IsOp w v 8 old new) (hu : IsY w u b) (ho : old.length ≤ 140737488351232) (hn : new.length ≤ 140737488351232) (hb : b.length ≤ 140737488351232) (hval : valI 8 old new = true) :
    Calls Tryz.prog 15 #[v, u] w (DoRes w (some (sqz c false b))) := by
  have HC := Lib.hid hc
  clear hc
  obtain ⟨i0, hi, hz0, hz1, hz2⟩ := info_parts infoU8
  obtain ⟨po, co, pn, cn, rfl, h1, h2, c1, c2⟩ := hv.shape
  obtain ⟨pb, cb, rfl, c3⟩ := hu.shape
  have HI := Lib.hid (fun W (hW : Below w.heap.size w W) => hv.grows hW)
  have HP := Lib.hid (fun W (hW : Below w.heap.size w W) => h1.grows hW)
  have HV := Lib.hid (fun W (hW : Below w.heap.size w W) => hu.grows hW)
  have HY := Lib.hid (And.intro hu.byt (And.intro h1.byt h2.byt))
  have D1 := Blk.new w #[.int .i64 8, .slice po old.length co, .slice pn new.length cn] 24
  have hbw1 : Below w.heap.size w (w.alloc (.cells #[.int .i64 8, .slice po old.length co, .slice pn new.length cn] 24)) := by go_grown
  have HE := Lib.hid hval
  clear hv hu h1 h2 hval
  go_enter Tryz.func15, Tryz.ntmps15
  go_wp2_with fail
  generalize (w.alloc (.cells #[.int .i64 8, .slice po old.length co, .slice pn new.length cn] 24)) = w1 at D1 hbw1 ⊢
  refine (rvalid_any _ _ old new w1 (HI.out w1 hbw1) (by omega) (by omega)).mono ?_
  rintro e w2 ⟨rfl, hb2⟩
  rw [HE.out]
  have D := D1.grows hb2
  have hbw := below_two hbw1 hb2
  clear D1 hb2 hbw1
  have x0 : w2.cell? ⟨w.heap.size, 0, none⟩ = some (.int .i64 8) := D.cell 0 rfl
  have x1 : w2.cell? ⟨w.heap.size, 1, none⟩ = some (.slice po old.length co) := D.cell 1 rfl
  have x2 : w2.cell? ⟨w.heap.size, 2, none⟩ = some (.slice pn new.length cn) := D.cell 2 rfl
  rw [err_t]
  have hlt1 := D.lt
  go_wp2
  obtain ⟨w3, hw3⟩ : ∃ w3, w3 = w2.alloc (.cells #[] 5) := ⟨_, rfl⟩
  rw [← hw3]
  have HW3 := Lib.hid hw3
  have O3 : w3.ownsRow (w.heap.size + 1) 5 1 (.slice (some ⟨w2.heap.size, 0, none⟩) 0 0) 0 [] := by rw [hw3]; exact own_of_blk (Blk.new w2 #[] 5) 0 1 rfl (Nat.zero_le _) hlt1
  have D3 : Blk w3 w.heap.size #[.int .i64 8, .slice po old.length co, .slice pn new.length cn] 24 := by rw [hw3]; exact D.alloc _
  have hbw3 : Below w.heap.size w w3 := by rw [hw3]; exact hbw.alloc hbw.size _
  clear hw3 HW3 D hbw x0 x1 x2
  go_loopw [6, 7, 8] (fun u iv _ wr => ∃ (i : Nat) (acc : List Int), i ≤ b.length ∧ iv = .int .i64 (i : Int) ∧ wr.ownsRow (w.heap.size + 1) 5 1 u acc.length (acc.map (Value.int .u8)) ∧ Byt acc ∧ acc ++ sqz c (prevB c b i) (b.drop i) = sqz c false b ∧ Blk wr w.heap.size #[.int .i64 8, .slice po old.length co, .slice pn new.length cn] 24 ∧ Below w.heap.size w wr ∧ acc.length ≤ i) (fun _ iv _ _ => b.length - (RowKit.intOf iv).toNat)
  case atStart =>
    exact ⟨0, [], Nat.zero_le _, rfl, O3, Byt.nil, by rw [List.drop_zero]; rfl, D3, hbw3, Nat.le_refl _⟩
  case round =>
    obtain ⟨i, acc, hil, rfl, hown, hacc, hinv, D, hbw, hal⟩ := hrel
    have HO := Lib.hid hown
    have HA := Lib.hid hacc
    have HN := Lib.hid hinv
    have HB := Lib.hid hbw
    have HD := Lib.hid D
    clear hown hacc hinv O3 D3 hbw3
    by_cases hlt : i < b.length
    · obtain ⟨x, hx⟩ := get_of_lt hlt
      obtain ⟨bb, oo, rfl, cx⟩ := (HV.out wr hbw).at hx
      have hx8 := HY.out.1.at hx
      have HX := Lib.hid hx
      clear hx
      have hslt := D.lt
      have x0 : wr.cell? ⟨w.heap.size, 0, none⟩ = some (.int .i64 8) := D.cell 0 rfl
      have x1 : wr.cell? ⟨w.heap.size, 1, none⟩ = some (.slice po old.length co) := D.cell 1 rfl
      obtain ⟨ob, oc, rfl, cc⟩ := (HP.out wr hbw).at HC.out
      rw [Nat.add_zero] at cc
      have hol : 0 < old.length := (List.getElem?_eq_some_iff.1 HC.out).1
      by_cases hxc : x = c
      · subst hxc
        rcases Nat.eq_zero_or_pos i with rfl | hi0
        · rw [Nat.add_zero] at cx
          have HS := Lib.hid (sqz_first (c := x) (acc := acc) HX.out)
          go_wp2_with (at_builtin; refine wpList_append_own _ rfl _ _ 22 rfl (w.heap.size + 1) 5 i0 (.int .u8 0) 1 1 Tryz.underlying22 hi hz0 hz1 hz2 rfl (by decide) _ _ _ rfl (own_alloc HO.out _) ⟨wr.heap.size, 0, none⟩ 1 1 [.int .u8 x] rfl rfl (cell_one_new _ _ _) (by simp [Value.oneCell']) (by unfold maxLen; omega) (by omega) (by simp; omega) ?_; intro v' w9 hown2 hgrow _)
          go_roundw
          case rel =>
            have hg := own_ge HO.out
            exact ⟨0 + 1, acc ++ [x], by omega, by go_num, own_cast hown2 (by simp) (by simp), HA.out.append (Byt.one hx8), by rw [← HN.out]; exact HS.out.symm, (HD.out.alloc _).grownBy hgrow (fun k e => by have := hg k e; omega), (HB.out.alloc HB.out.size _).grown hgrow (by have := HB.out.size; simp; omega) (fun k e => by have := hg k e; omega), by rw [List.length_append]; simp only [List.length_cons, List.length_nil]; omega⟩
          case measure => simp [RowKit.intOf]; omega
        · obtain ⟨y, hy⟩ := get_of_lt (l := b) (k := i - 1) (by omega)
          obtain ⟨b2, o2, e2, cy⟩ := (HV.out wr hbw).at hy
          simp only [Option.some.injEq, Addr.mk.injEq, and_true] at e2
          obtain ⟨rfl, rfl⟩ := e2
          have hy8 := HY.out.1.at hy
          have hi1 : (0 : Int) ≤ (i : Int) - 1 := by omega
          have hi2 : (i : Int) - 1 < (b.length : Int) := by omega
          have hi3 : ((i : Int) - 1).toNat = i - 1 := by omega
          have hi4 : decide ((0 : Int) < (i : Int)) = true := by rw [decide_eq_true_iff]; omega
          by_cases hyc : y = x
          · subst hyc
            have HS := Lib.hid (sqz_skip (acc := acc) hi0 HX.out hy)
            clear hy
            go_wp2
            clear hi3
            go_roundw
            case rel => exact ⟨i + 1, acc, by omega, by go_num, HO.out, HA.out, by rw [← HN.out]; exact HS.out.symm, HD.out, HB.out, by omega⟩
            case measure => simp [RowKit.intOf]; omega
          · have HS := Lib.hid (sqz_keep (c := x) (acc := acc) HX.out (.inr ⟨hi0, y, hy, hyc⟩))
            have hne : (y == x) = false := by rw [beq_eq_false_iff_ne]; exact hyc
            clear hy
            go_wp2_with (at_builtin; refine wpList_append_own _ rfl _ _ 22 rfl (w.heap.size + 1) 5 i0 (.int .u8 0) 1 1 Tryz.underlying22 hi hz0 hz1 hz2 rfl (by decide) _ _ _ rfl (own_alloc HO.out _) ⟨wr.heap.size, 0, none⟩ 1 1 [.int .u8 x] rfl rfl (cell_one_new _ _ _) (by simp [Value.oneCell']) (by unfold maxLen; omega) (by omega) (by simp; omega) ?_; intro v' w9 hown2 hgrow _)
            clear hi3
            go_roundw
            case rel =>
              have hg := own_ge HO.out
              exact ⟨i + 1, acc ++ [x], by omega, by go_num, own_cast hown2 (by simp) (by simp), HA.out.append (Byt.one hx8), by rw [← HN.out]; exact HS.out.symm, (HD.out.alloc _).grownBy hgrow (fun k e => by have := hg k e; omega), (HB.out.alloc HB.out.size _).grown hgrow (by have := HB.out.size; simp; omega) (fun k e => by have := hg k e; omega), by rw [List.length_append]; simp only [List.length_cons, List.length_nil]; omega⟩
            case measure => simp [RowKit.intOf]; omega
      · have HS := Lib.hid (sqz_keep (c := c) (acc := acc) HX.out (.inl hxc))
        have hne : (x == c) = false := by rw [beq_eq_false_iff_ne]; exact hxc
        rcases Nat.eq_zero_or_pos i with rfl | hi0
        · rw [Nat.add_zero] at cx
          go_wp2_with (at_builtin; refine wpList_append_own _ rfl _ _ 22 rfl (w.heap.size + 1) 5 i0 (.int .u8 0) 1 1 Tryz.underlying22 hi hz0 hz1 hz2 rfl (by decide) _ _ _ rfl (own_alloc HO.out _) ⟨wr.heap.size, 0, none⟩ 1 1 [.int .u8 x] rfl rfl (cell_one_new _ _ _) (by simp [Value.oneCell']) (by unfold maxLen; omega) (by omega) (by simp; omega) ?_; intro v' w9 hown2 hgrow _)
          go_roundw
          case rel =>
            have hg := own_ge HO.out
            exact ⟨0 + 1, acc ++ [x], by omega, by go_num, own_cast hown2 (by simp) (by simp), HA.out.append (Byt.one hx8), by rw [← HN.out]; exact HS.out.symm, (HD.out.alloc _).grownBy hgrow (fun k e => by have := hg k e; omega), (HB.out.alloc HB.out.size _).grown hgrow (by have := HB.out.size; simp; omega) (fun k e => by have := hg k e; omega), by rw [List.length_append]; simp only [List.length_cons, List.length_nil]; omega⟩
          case measure => simp [RowKit.intOf]; omega
        · have hi4 : decide ((0 : Int) < (i : Int)) = true := by rw [decide_eq_true_iff]; omega
          go_wp2_with (at_builtin; refine wpList_append_own _ rfl _ _ 22 rfl (w.heap.size + 1) 5 i0 (.int .u8 0) 1 1 Tryz.underlying22 hi hz0 hz1 hz2 rfl (by decide) _ _ _ rfl (own_alloc HO.out _) ⟨wr.heap.size, 0, none⟩ 1 1 [.int .u8 x] rfl rfl (cell_one_new _ _ _) (by simp [Value.oneCell']) (by unfold maxLen; omega) (by omega) (by simp; omega) ?_; intro v' w9 hown2 hgrow _)
          go_roundw
          case rel =>
            have hg := own_ge HO.out
            exact ⟨i + 1, acc ++ [x], by omega, by go_num, own_cast hown2 (by simp) (by simp), HA.out.append (Byt.one hx8), by rw [← HN.out]; exact HS.out.symm, (HD.out.alloc _).grownBy hgrow (fun k e => by have := hg k e; omega), (HB.out.alloc HB.out.size _).grown hgrow (by have := HB.out.size; simp; omega) (fun k e => by have := hg k e; omega), by rw [List.length_append]; simp only [List.length_cons, List.length_nil]; omega⟩
          case measure => simp [RowKit.intOf]; omega
    · obtain rfl : i = b.length := by omega
      have HF := Lib.hid (show acc = sqz c false b by rw [← HN.out, List.drop_length]; simp [sqz])
      clear HN
      go_wp2
      go_ret2
      exact DoRes.some rfl (by rw [← HF.out]; exact own_isY HA.out HO.out) hbw
end Go.Proofs.YtkhphiilnplgjaaGreatDoor

namespace Go.Proofs.YtkhphiilnplgjaaGreatDoor
open Go.RowKit Go.Lib

abbrev Pcs := List (Bool × Int)
def pcs (l : Pcs) : List Value := l.flatMap fun p => [.bool p.1, .int .u8 p.2]
theorem pcs_nil : pcs [] = [] := rfl
theorem pcs_append (l m : Pcs) : pcs (l ++ m) = pcs l ++ pcs m := List.flatMap_append
theorem pcs_one (c : Bool) (b : Int) : pcs [(c, b)] = [.bool c, .int .u8 b] := rfl
theorem pcs_len : ∀ l : Pcs, (pcs l).length = l.length * 2
  | [] => rfl
  | x :: l => by
    have := pcs_len l
    show (pcs l).length + 1 + 1 = (l.length + 1) * 2
    omega
theorem pcs_at0 : ∀ {l : Pcs} {j : Nat} {x : Bool × Int}, l[j]? = some x → (pcs l)[2 * j]? = some (.bool x.1)
  | _ :: _, 0, _, h => by simp at h; subst h; rfl
  | _ :: l, j + 1, x, h => by
    have := pcs_at0 (l := l) (j := j) (x := x) (by simpa using h)
    rw [show 2 * (j + 1) = 2 * j + 1 + 1 by omega]
    simpa [pcs] using this
theorem pcs_at1 : ∀ {l : Pcs} {j : Nat} {x : Bool × Int}, l[j]? = some x → (pcs l)[2 * j + 1]? = some (.int .u8 x.2)
  | _ :: _, 0, _, h => by simp at h; subst h; rfl
  | _ :: l, j + 1, x, h => by
    have := pcs_at1 (l := l) (j := j) (x := x) (by simpa using h)
    rw [show 2 * (j + 1) + 1 = 2 * j + 1 + 1 + 1 by omega]
    simpa [pcs] using this
/-- a row of pieces of one's own, or nil. -/
def PcAt (base : Nat) (w : World) (v : Value) (l : Pcs) : Prop := w.ownsRow base 95 2 v l.length (pcs l)
def wrS (l : List Int) : Pcs := l.map fun x => (false, x)
theorem wrS_len (l : List Int) : (wrS l).length = l.length := List.length_map _
theorem infoPc : (Tryz.prog.info? 95).map (fun i => (i.zero, i.size, i.bytes)) = some (some (.agg #[.bool false, .int .u8 0]), 2, 2) := by kernel_rfl
theorem piece_one (c : Bool) (x : Int) : ∀ u ∈ [Value.bool c, .int .u8 x], u.oneCell' = true := by
  intro u hu
  simp at hu
  rcases hu with rfl | rfl <;> rfl
theorem cells_two (w : World) (x y : Value) (t : TypeId) (n : Nat) (hn : n = w.heap.size) : ∀ j u, [x, y][j]? = some u → (w.alloc (.cells #[x, y] t)).cell? ((⟨n, 0, none⟩ : Addr).add j) = some u := by
  subst hn
  intro j u hj
  match j, hj with
  | 0, hj => simp at hj; subst hj; simp [Addr.add]
  | 1, hj => simp at hj; subst hj; simp [Addr.add]
set_option maxRecDepth 100000 in
set_option maxHeartbeats 1000000 in
theorem written_any (v : Value) (l : List Int) (w : World) (hv : IsY w v l) (hl : l.length ≤ 4294967296) : Calls Tryz.prog 91 #[v] w fun e w' =>
    ∃ u, e = .returned u ∧ PcAt w.heap.size w' u (wrS l) ∧ Below w.heap.size w w' := by
  obtain ⟨i0, hi, hz0, hz1, hz2⟩ := info_parts infoPc
  obtain ⟨p, cap, rfl, hc⟩ := hv.shape
  have HV := Lib.hid hv
  clear hv
  go_enter Tryz.func91, Tryz.ntmps91
  go_wp2
  go_loopw [3, 5, 8] (fun u _ i wr => ∃ k : Nat, k ≤ l.length ∧ i = .int .i64 k ∧ PcAt w.heap.size wr u (wrS (l.take k)) ∧ Below w.heap.size w wr) (fun _ _ i _ => l.length - (RowKit.intOf i).toNat)
  case atStart =>
    exact ⟨0, Nat.zero_le _, rfl, World.ownsRow_nil _ _ _ _, Below.refl _ _⟩
  case round =>
    obtain ⟨k, hk, rfl, hown, hbw⟩ := hrel
    by_cases hlt : k < l.length
    · obtain ⟨x, hx⟩ := get_of_lt hlt
      obtain ⟨b, o, rfl, hcell⟩ := (HV.out.grows hbw).at hx
      have HS := Lib.hid (show wrS (l.take (k + 1)) = wrS (l.take k) ++ [(false, x)] by rw [List.take_add_one, hx]; simp [wrS])
      have hlen : (wrS (l.take k)).length = k := by rw [wrS_len, List.length_take]; omega
      have hwr := hbw.size
      unfold PcAt at hown
      rw [hlen] at hown
      have HL := Lib.hid hlen
      clear hx hlen
      generalize wrS (l.take k) = m at hown HS HL
      go_wp2_with (at_builtin; refine wpList_append_own_at _ rfl _ _ 80 rfl w.heap.size 95 i0 _ 2 2 Tryz.underlying80 hi hz0 hz1 hz2 rfl (by decide) _ _ _ rfl (own_alloc hown _) ⟨wr.heap.size, 0, none⟩ 1 1 [.bool false, .int .u8 x] rfl rfl (cells_two _ _ _ _ _ rfl) (piece_one _ _) (by unfold maxLen; omega) (by omega) (by simp; omega) ?_; intro v' w2 hown2 hgrow _ _)
      go_roundw
      case rel =>
        have hg := own_ge hown
        refine ⟨k + 1, by omega, by go_num, ?_, (hbw.alloc hbw.size _).grown hgrow (by have := hbw.size; simp; omega) hg⟩
        rw [HS.out]; exact own_cast hown2 (by simp [HL.out]) (by rw [pcs_append, pcs_one])
      case measure => simp [RowKit.intOf]; omega
    · obtain rfl : k = l.length := by omega
      rw [List.take_length] at hown
      go_wp2
      go_ret
      exact ⟨_, rfl, hown, hbw⟩
theorem mvSize : (Tryz.prog.info? 82).map (·.size) = some 2 := by kernel_rfl
set_option maxRecDepth 100000 in
set_option maxHeartbeats 1000000 in
theorem to_any (t : Int) (p : Option Addr) (n c : Nat) (w : World) : Calls Tryz.prog 90 #[.int .i64 t, .slice p n c] w fun e w' =>
    e = .returned (.agg #[.int .i64 t, .slice p n c]) ∧ Below w.heap.size w w' := by
  go_enter Tryz.func90, Tryz.ntmps90
  go_wp2
  exact bodyPost_ret (results_cell_row rfl _ _ w.heap.size 82 _ (0, 0) _ rfl (Blk.new w _ _).is Tryz.underlying82 rfl mvSize) rfl ⟨rfl, by go_grown⟩
/-- a move: where to, and pieces of one's own. -/
def MvAt (base : Nat) (w : World) (v : Value) (t : Int) (l : Pcs) : Prop := ∃ u, v = .agg #[.int .i64 t, u] ∧ PcAt base w u l
set_option maxRecDepth 100000 in
set_option maxHeartbeats 1000000 in
theorem pass_any (t : Int) (v : Value) (l : List Int) (w : World) (hv : IsY w v l) (hl : l.length ≤ 1000000) : Calls Tryz.prog 92 #[.int .i64 t, v] w fun e w' =>
    ∃ u, e = .returned u ∧ MvAt w.heap.size w' u t (wrS l ++ [(true, 0)]) ∧ Below w.heap.size w w' := by
  obtain ⟨i0, hi, hz0, hz1, hz2⟩ := info_parts infoPc
  obtain ⟨p, cap, rfl, hc⟩ := hv.shape
  have D0 := Blk.new w #[.int .i64 0, .slice none 0 0] 82
  have hbw : Below w.heap.size w (w.alloc (.cells #[.int .i64 0, .slice none 0 0] 82)) := by go_grown
  have HW := Lib.hid (written_any _ l _ (hv.grows hbw) (by omega))
  have hsz : (w.alloc (.cells #[.int .i64 0, .slice none 0 0] 82)).heap.size = w.heap.size + 1 := by simp
  clear hv
  go_enter Tryz.func92, Tryz.ntmps92
  go_wp2_with fail
  generalize (w.alloc (.cells #[.int .i64 0, .slice none 0 0] 82)) = w1 at D0 hbw HW hsz ⊢
  refine HW.out.mono ?_
  rintro e w2 ⟨u2, rfl, ho2, hb2⟩
  unfold PcAt at ho2
  have hbw2 := hbw.trans (hb2.mono (by omega))
  have D2 := D0.grows hb2
  rw [hsz, wrS_len] at ho2
  have hz2' := hb2.size
  have D3 := D2.alloc (.cells #[.bool true, .int .u8 0] 95)
  go_wp2_with (at_builtin; refine wpList_append_own_at _ rfl _ _ 80 rfl (w.heap.size + 1) 95 i0 _ 2 2 Tryz.underlying80 hi hz0 hz1 hz2 rfl (by decide) _ _ _ rfl (own_alloc ho2 _) ⟨w2.heap.size, 0, none⟩ 1 1 [.bool true, .int .u8 0] rfl rfl (cells_two _ _ _ _ _ rfl) (piece_one _ _) (by unfold maxLen; omega) (by omega) (by simp; omega) ?_; intro v' w3 hown3 hgrow _ _; obtain ⟨p3, c3, rfl⟩ := own_shape hown3)
  have D4 := D3.grownBy hgrow (fun k e => by have := own_ge ho2 k e; omega)
  have hg4 := hgrow.size
  have hb4 : Below w.heap.size w w3 := (hbw2.alloc (by omega) _).grown hgrow (by simp; omega) (fun k e => by have := own_ge ho2 k e; omega)
  refine (to_any t _ _ _ w3).mono ?_
  rintro e w5 ⟨rfl, hb5⟩
  have D5 := D4.grows hb5
  have f0 := D5.free 0
  have f1 := D5.free 1
  have g0 := D5.cell 0 rfl
  have g1 := D5.cell 1 rfl
  have hb6 := hb4.trans (hb5.mono (by simp at hg4; omega))
  have hp6 := own_mono (own_below hown3 hb5) (base' := w.heap.size + 1) (by omega)
  have HP := Lib.hid hp6
  clear hp6 hb5 hg4 hb4
  go_wp2
  have hq : PcAt w.heap.size ((w5.setCell ⟨w.heap.size, 0, none⟩ (.int .i64 t)).setCell ⟨w.heap.size, 1, none⟩ (.slice p3 (l.length + 1) c3)) (.slice p3 (l.length + 1) c3) (wrS l ++ [(true, 0)]) := by
    have := own_mono (own_set (own_set HP.out (p := ⟨w.heap.size, 0, none⟩) (Nat.lt_succ_self _) (.int .i64 t)) (p := ⟨w.heap.size, 1, none⟩) (Nat.lt_succ_self _) (.slice p3 (l.length + 1) c3)) (base' := w.heap.size) (by omega)
    unfold PcAt
    exact own_cast this (by simp [wrS_len]) (by rw [pcs_append, pcs_one])

  exact bodyPost_ret (results_cell_row rfl _ _ w.heap.size 82 _ (0, 0) _ rfl ((D5.set 0 _).set 1 _).is Tryz.underlying82 rfl mvSize) rfl ⟨_, rfl, ⟨_, rfl, hq⟩, (hb6.setCell (p := ⟨w.heap.size, 0, none⟩) (Nat.le_refl _) _).setCell (p := ⟨w.heap.size, 1, none⟩) (Nat.le_refl _) _⟩
end Go.Proofs.YtkhphiilnplgjaaGreatDoor
