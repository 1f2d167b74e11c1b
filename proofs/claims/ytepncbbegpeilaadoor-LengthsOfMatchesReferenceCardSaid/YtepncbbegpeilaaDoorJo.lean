/-
  Walks: the reference takes the lengths of the words of an automaton; the law that compares both.
-/
import Derived.Test.YtepncbbegpeilaaDoorLw
import Derived.Test.YtepncbbegpeilaaDoorRc
import Derived.Test.YtepncbbegpeilaaDoorSt
import Derived.Test.YtepncbbegpeilaaDoorJv
import Derived.Test.YtepncbbegpeilaaDoorOf
import Derived.Test.YtepncbbegpeilaaDoorRs
import Derived.Test.YtepncbbegpeilaaDoorSn
set_option linter.unusedSimpArgs false
set_option linter.unusedVariables false
namespace Go.Proofs.YtepncbbegpeilaaDoor
open Go.RowKit Go.Lib

set_option maxRecDepth 100000 in
set_option maxHeartbeats 4000000 in
theorem rstep_any (pc pn pa : Option Addr) (kc kn ka C N A : Nat) (next : List (List Int)) (w : World) (h2 : IsM w (.slice pn N kn) next) (hnl : next.length = N) (hC : C ≤ 1152921504606846976) (hN : N ≤ 64)
    (hrows : ∀ r ∈ next, r.length = C ∧ ∀ t ∈ r, 0 ≤ t ∧ t < (N : Int)) (g R : Nat) (hN0 : 0 < N) (hG : Blk w g (rowB N N fun j => R.testBit j) 4) :
    Calls Tryd.prog 22 #[.agg #[.slice pc C kc, .slice pn N kn, .slice pa A ka], .slice (some ⟨g, 0, none⟩) N N] w fun e w' =>
      (∃ g2, e = .returned (.slice (some ⟨g2, 0, none⟩) N N) ∧ w.heap.size ≤ g2 ∧ Blk w' g2 (rowB N N fun j => (stepBits (next.map rowBits) R).testBit j) 4) ∧ Below w.heap.size w w' := by
  obtain ⟨ib, hib, hb0, hb1, hb2⟩ := info_parts infoBool
  obtain ⟨tb, htb⟩ : ∃ tb, next.map rowBits = tb := ⟨_, rfl⟩
  have htl : tb.length = N := by rw [← htb, List.length_map, hnl]
  have HTb := Lib.hid (fun (q : Nat) r (hq : next[q]? = some r) => (show tb.getD q 0 = rowBits r by rw [← htb]; exact map_getD rowBits next q r hq))
  have HAll := Lib.hid (fun t => htl ▸ nextP_all tb R t)
  have HM := Lib.hid (fun W (hW : Below w.heap.size w W) k r (hk : next[k]? = some r) => (h2.grows hW).at hk)
  have HGg := Lib.hid (fun W (hW : Below w.heap.size w W) => hG.grows hW)
  have HRo := Lib.hid hrows
  have HN := Lib.hid hnl
  rw [htb]
  have X0 := Blk.new w #[.slice pc C kc, .slice pn N kn, .slice pa A ka] 28
  have hbw0 : Below w.heap.size w (w.alloc (.cells #[.slice pc C kc, .slice pn N kn, .slice pa A ka] 28)) := by go_grown
  clear h2 hnl htb htl hrows hG
  go_enter Tryd.func22, Tryd.ntmps22
  go_wp2_with (at_make; refine wpList_make_row _ rfl _ _ 26 rfl 4 ib _ Tryd.underlying26 hib hb0 hb1 rfl _ _ N rfl rfl (by rw [hb2]; omega) (by omega) ?_; rw [rowB_zero N (fun _ => false), rowB_start N (fun _ => false)]; have X1 := X0.alloc (.cells (rowB N N fun _ => false) 4); have G2 := Blk.alloc1 w #[.slice pc C kc, .slice pn N kn, .slice pa A ka] (rowB N N fun _ => false) 28 4; have hbw1 := hbw0.alloc hbw0.size (.cells (rowB N N fun _ => false) 4))
  clear X0 hbw0
  generalize ((w.alloc (.cells #[.slice pc C kc, .slice pn N kn, .slice pa A ka] 28)).alloc (.cells (rowB N N fun _ => false) 4)) = W1 at X1 G2 hbw1 ⊢
  obtain ⟨g2, hg2e⟩ : ∃ g2, w.heap.size + 1 = g2 := ⟨_, rfl⟩
  have hg2 : w.heap.size ≤ g2 := by omega
  have hgx : w.heap.size ≠ g2 := by omega
  rw [hg2e] at G2
  try rw [hg2e]
  clear hg2e
  have hgn : g ≠ g2 := by
    intro e
    subst e
    have h1 := (HGg.out _ (Below.refl _ _)).lt
    omega
  go_loopw [6] (fun s wi => ∃ S : Nat, s = .int .i64 (S : Int) ∧ S ≤ N ∧ Blk wi w.heap.size #[.slice pc C kc, .slice pn N kn, .slice pa A ka] 28 ∧ Blk wi g2 (rowB N N (nextP tb R S)) 4 ∧ Below w.heap.size w wi) (fun s _ => N - (RowKit.intOf s).toNat)
  case atStart => exact ⟨0, rfl, by omega, X1, G2.cast (rowB_congr fun t _ => rfl), hbw1⟩
  case round =>
    clear X1 G2 hbw1
    obtain ⟨S, rfl, hS, X, G, hW⟩ := hrel
    by_cases hlc : S < N
    · obtain ⟨r, hr⟩ := get_of_lt (l := next) (k := S) (by have := HN.out; omega)
      obtain ⟨blk, off, rq, rc, rfl, hcell, hI⟩ := HM.out _ hW S r hr
      have g0 := (HGg.out _ hW).cell S (rowB_full N _ S hlc)
      have x0 := X.cell 0 rfl
      have x1 := X.cell 1 rfl
      obtain ⟨hr3, hrm⟩ := HRo.out r (List.mem_of_getElem? hr)
      have HTq := Lib.hid (HTb.out S r hr)
      have HNs := Lib.hid (nextP_succ tb R S)
      have HRr := Lib.hid hr
      have HRm := Lib.hid hrm
      have HR := Lib.hid hr3
      rw [hr3] at hcell hI
      clear hr hI hrm hr3
      obtain ⟨b1, hb1e⟩ : ∃ b, R.testBit S = b := ⟨_, rfl⟩
      rw [hb1e] at g0 HNs
      have HB1 := Lib.hid hb1e
      clear hb1e
      cases b1
      · have hF : Blk wr g2 (rowB N N (nextP tb R (S + 1))) 4 := G.cast (rowB_congr fun t _ => by rw [HNs.out t, Bool.false_and, Bool.or_false])
        go_wp2_with fail
        go_loopw [7] (fun c wj => c = .int .i64 0 ∧ Blk wj w.heap.size #[.slice pc C kc, .slice (some ⟨blk, off, none⟩) N kn, .slice pa A ka] 28 ∧ Blk wj g2 (rowB N N (nextP tb R (S + 1))) 4 ∧ Below w.heap.size w wj) (fun _ _ => 0)
        case atStart => exact ⟨rfl, X, hF, hW⟩
        case round =>
          obtain ⟨rfl, X', hF', hW'⟩ := hrel
          have g0' := (HGg.out _ hW').cell S (rowB_full N _ S hlc)
          have x0' := X'.cell 0 rfl
          have x1' := X'.cell 1 rfl
          rw [HB1.out] at g0'
          clear X G hF hW g0 x0 x1 hcell
          rcases Nat.eq_zero_or_pos C with hC0 | hC0
          · subst hC0
            go_wp2_with fail
            go_roundw
            case rel => exact ⟨S + 1, by go_num, by omega, X', hF', hW'⟩
            case measure => simp [RowKit.intOf]; omega
          · go_wp2_with fail
            go_roundw
            case rel => exact ⟨S + 1, by go_num, by omega, X', hF', hW'⟩
            case measure => simp [RowKit.intOf]; omega
      · go_wp2_with fail
        go_loopw [7] (fun c wj => ∃ K : Nat, c = .int .i64 (K : Int) ∧ K ≤ C ∧ Blk wj w.heap.size #[.slice pc C kc, .slice (some ⟨blk, off, none⟩) N kn, .slice pa A ka] 28 ∧ Blk wj g2 (rowB N N (fun t => nextP tb R S t || (rowBits (r.take K)).testBit t)) 4 ∧ Below w.heap.size w wj) (fun c _ => C - (RowKit.intOf c).toNat)
        case atStart => exact ⟨0, rfl, by omega, X, G.cast (rowB_congr fun t _ => by rw [List.take_zero]; show _ = (_ || (0 : Nat).testBit t); rw [Nat.zero_testBit, Bool.or_false]), hW⟩
        case round =>
          obtain ⟨K, rfl, hK, X', G', hW'⟩ := hrel
          have g0' := (HGg.out _ hW').cell S (rowB_full N _ S hlc)
          have x0' := X'.cell 0 rfl
          have x1' := X'.cell 1 rfl
          rw [HB1.out] at g0'
          clear X G hW g0 x0 x1 hcell
          by_cases hc3 : K < C
          · obtain ⟨blk3, off3, q3, c3, he, hcell', hI3⟩ := HM.out _ hW' S r HRr.out
            simp only [Option.some.injEq, Addr.mk.injEq, and_true] at he
            obtain ⟨rfl, rfl⟩ := he
            rw [HR.out] at hcell' hI3
            obtain ⟨x, hx⟩ := get_of_lt (l := r) (k := K) (by have := HR.out; omega)
            obtain ⟨b3, o3, rfl, hcx⟩ := hI3.at hx
            have hxm := HRm.out x (List.mem_of_getElem? hx)
            obtain ⟨t, rfl⟩ := Int.eq_ofNat_of_zero_le hxm.1
            have ht : t < N := by have := hxm.2; omega
            have g2c := G'.cell t (rowB_full N _ t ht)
            have f2 := G'.free t
            have HPut := Lib.hid ((rowB_put N (fun t => nextP tb R S t || (rowBits (r.take K)).testBit t) t true).trans (rowB_congr (G := fun t => nextP tb R S t || (rowBits (r.take (K + 1))).testBit t) fun j _ => by
              rw [rowBits_take_bit r K _ hx j]
              by_cases e : j = t
              · subst e; rw [if_pos rfl]; simp
              · rw [if_neg e, decide_eq_false (by simp; omega), Bool.or_false]))
            clear hI3 hxm hx
            go_wp2_with fail
            go_roundw
            case rel => exact ⟨K + 1, by go_num, by omega, X'.other (by show w.heap.size ≠ g2; exact hgx) _, (G'.set t _).cast HPut.out, hW'.setCell (by show w.heap.size ≤ g2; omega) _⟩
            case measure => simp [RowKit.intOf]; omega
          · have hC3 : K = C := by omega
            have hF : Blk wr g2 (rowB N N (nextP tb R (S + 1))) 4 := G'.cast (rowB_congr fun t _ => by rw [HNs.out t, Bool.true_and, HTq.out, List.take_of_length_le (by rw [HR.out]; omega)])
            go_wp2_with fail
            go_roundw
            case rel => exact ⟨S + 1, by go_num, by omega, X', hF, hW'⟩
            case measure => simp [RowKit.intOf]; omega
    · obtain rfl : N = S := by omega
      have hF : Blk wr g2 (rowB N N fun j => (stepBits tb R).testBit j) 4 := G.cast (rowB_congr fun t _ => HAll.out t)
      clear X G
      go_wp2
      go_ret
      exact ⟨⟨g2, rfl, hg2, hF⟩, hW⟩
end Go.Proofs.YtepncbbegpeilaaDoor
namespace Go.Proofs.YtepncbbegpeilaaDoor
open Go.RowKit Go.Lib

/-- cell j of the slice is a row of marks: those of set f j. -/
def SetsAt (w : World) (p : Option Addr) (T Q : Nat) (f : Nat → Nat) : Prop := ∀ j, j < T → ∃ blk g, p = some ⟨blk, 0, none⟩ ∧ w.cell? ⟨blk, j, none⟩ = some (.slice (some ⟨g, 0, none⟩) Q Q) ∧ Blk w g (rowB Q Q fun i => (f j).testBit i) 4
theorem SetsAt.grows {w w' : World} {p : Option Addr} {T Q : Nat} {f : Nat → Nat} (h : SetsAt w p T Q f) (hb : Below w.heap.size w w') : SetsAt w' p T Q f := fun j hj => by
  obtain ⟨blk, g, e, hc, hB⟩ := h j hj
  exact ⟨blk, g, e, (hb.cell (lt_of_cell hc)).trans hc, hB.grows hb⟩
set_option maxRecDepth 100000 in
set_option maxHeartbeats 8000000 in
theorem rread_any (pc pn pa p : Option Addr) (kc kn ka C A T kp N : Nat) (acc : List Bool) (f : Nat → Nat) (w : World) (h3 : IsB w (.slice pa A ka) acc) (hal : acc.length = A) (hQ : A ≤ 64) (hN : N ≤ T) (hT : T ≤ 2097152)
    (hS : SetsAt w p T A f) :
    Calls Tryd.prog 21 #[.agg #[.slice pc C kc, .slice pn A kn, .slice pa A ka], .slice p T kp, .int .i64 (N : Int)] w fun e w' =>
      (∃ vo, e = .returned vo ∧ OwnSet w' w.heap.size vo ((List.range N).map fun n => accP (f n) acc A) ((List.range (T - N)).map fun i => accP (f (N + i)) acc A)) ∧ Below w.heap.size w w' := by
  obtain ⟨i0, hi, hz0, hz1, hz2⟩ := info_parts infoBool
  have HSt := Lib.hid (fun W (hW : Below w.heap.size w W) => hS.grows hW)
  have HAc := Lib.hid (fun W (hW : Below w.heap.size w W) j (hj : j < A) => (h3.grows hW).at (k := j) (by omega))
  obtain ⟨F, hF⟩ : ∃ F : Nat → Bool, F = fun n => accP (f n) acc A := ⟨_, rfl⟩
  have HF := Lib.hid (fun n => congrFun hF n)
  rw [show (fun i => accP (f (N + i)) acc A) = fun i => F (N + i) by rw [hF], ← hF]
  clear hS h3 hF hal
  have X := ((Blk.new w #[.slice pc C kc, .slice pn A kn, .slice pa A ka] 28).alloc (.cells #[.slice none 0 0, .slice none 0 0] 31)).alloc (.cells #[.slice none 0 0, .slice none 0 0] 31)
  have R := (Blk.alloc1 w #[.slice pc C kc, .slice pn A kn, .slice pa A ka] #[.slice none 0 0, .slice none 0 0] 28 31).alloc (.cells #[.slice none 0 0, .slice none 0 0] 31)
  have DD := Blk.alloc2 w (.cells #[.slice pc C kc, .slice pn A kn, .slice pa A ka] 28) (.cells #[.slice none 0 0, .slice none 0 0] 31) #[.slice none 0 0, .slice none 0 0] 31
  have hbw : Below w.heap.size w (((w.alloc (.cells #[.slice pc C kc, .slice pn A kn, .slice pa A ka] 28)).alloc (.cells #[.slice none 0 0, .slice none 0 0] 31)).alloc (.cells #[.slice none 0 0, .slice none 0 0] 31)) := by go_grown
  go_enter Tryd.func21, Tryd.ntmps21
  go_wp2_with fail
  obtain ⟨D, hDe⟩ : ∃ D, w.heap.size + 2 = D := ⟨_, rfl⟩
  obtain ⟨B, hBe⟩ : ∃ B, D + 1 = B := ⟨_, rfl⟩
  have hB0 : B ≤ (((w.alloc (.cells #[.slice pc C kc, .slice pn A kn, .slice pa A ka] 28)).alloc (.cells #[.slice none 0 0, .slice none 0 0] 31)).alloc (.cells #[.slice none 0 0, .slice none 0 0] 31)).heap.size := by simp; omega
  have hDB : D < B := by omega
  have hD1 : w.heap.size + 1 < D := by omega
  try rw [hDe]
  rw [hDe] at DD
  generalize (((w.alloc (.cells #[.slice pc C kc, .slice pn A kn, .slice pa A ka] 28)).alloc (.cells #[.slice none 0 0, .slice none 0 0] 31)).alloc (.cells #[.slice none 0 0, .slice none 0 0] 31)) = w1 at X R DD hbw hB0 ⊢
  have O0 := World.ownsRow_nil w1 B 4 1
  clear hDe hBe
  go_loopw [8] (fun i wr => ∃ (M : Nat) (u0 u1 : Value), i = .int .i64 (M : Int) ∧ M ≤ T ∧ Blk wr w.heap.size #[.slice pc C kc, .slice pn A kn, .slice pa A ka] 28 ∧ Blk wr (w.heap.size + 1) #[.slice none 0 0, .slice none 0 0] 31 ∧ Blk wr D #[u0, u1] 31 ∧
      wr.ownsRow B 4 1 u0 (min M N) (((List.range (min M N)).map F).map Value.bool) ∧ wr.ownsRow B 4 1 u1 (M - N) (((List.range (M - N)).map fun i => F (N + i)).map Value.bool) ∧ Apart u0 u1 ∧ B ≤ wr.heap.size ∧ Below w.heap.size w wr) (fun i _ => T - (RowKit.intOf i).toNat)
  case atStart => exact ⟨0, _, _, rfl, by omega, X, R, DD, own_cast O0 (by omega) (by rw [Nat.zero_min]; rfl), own_cast O0 (by omega) (by rw [Nat.zero_sub]; rfl), apart_nil _, hB0, hbw⟩
  case round =>
    clear X R DD O0 hB0 hbw
    obtain ⟨M, u0, u1, rfl, hM, X, R, DD, O0, O1, hap, hB, hbw⟩ := hrel
    obtain ⟨p0, k0, rfl⟩ := own_shape O0
    obtain ⟨p1, k1, rfl⟩ := own_shape O1
    by_cases hlt : M < T
    · obtain ⟨blk, g, rfl, hc, hG⟩ := HSt.out _ hbw M hlt
      have HFM0 := Lib.hid (HF.out M)
      have HSu := Lib.hid (accP_succ (f M) acc)
      clear hG
      generalize hR : f M = S0 at HFM0 HSu
      have HR := Lib.hid hR
      clear hR
      go_wp2_with fail
      go_loopw [9, 10] (fun a s wi => ∃ S : Nat, a = .bool (accP S0 acc S) ∧ s = .int .i64 (S : Int) ∧ S ≤ A ∧ Blk wi w.heap.size #[.slice pc C kc, .slice pn A kn, .slice pa A ka] 28 ∧ Blk wi (w.heap.size + 1) #[.slice none 0 0, .slice none 0 0] 31 ∧ Blk wi D #[(.slice p0 (min M N) k0), (.slice p1 (M - N) k1)] 31 ∧
      wi.ownsRow B 4 1 (.slice p0 (min M N) k0) (min M N) (((List.range (min M N)).map F).map Value.bool) ∧ wi.ownsRow B 4 1 (.slice p1 (M - N) k1) (M - N) (((List.range (M - N)).map fun i => F (N + i)).map Value.bool) ∧ Apart (.slice p0 (min M N) k0) (.slice p1 (M - N) k1) ∧ B ≤ wi.heap.size ∧ Below w.heap.size w wi) (fun _ s _ => A - (RowKit.intOf s).toNat)
      case atStart => exact ⟨0, rfl, rfl, by omega, X, R, DD, O0, O1, hap, hB, hbw⟩
      case round =>
        clear X R DD O0 O1 hap hB hbw hc
        obtain ⟨S, rfl, rfl, hS, X, R, DD, O0, O1, hap, hB, hbw⟩ := hrel
        obtain ⟨blk', g, he, hc, hG⟩ := HSt.out _ hbw M hlt
        simp only [Option.some.injEq, Addr.mk.injEq, and_true] at he
        subst he
        by_cases hls : S < A
        · have hgc := hG.cell S (rowB_full A _ S hls)
          rw [HR.out] at hgc
          obtain ⟨blka, offa, rfl, hca⟩ := HAc.out _ hbw S hls
          have x2 := X.cell 2 rfl
          have HAs := Lib.hid (HSu.out S)
          obtain ⟨a2, ha2⟩ : ∃ a2, accP S0 acc (S + 1) = a2 := ⟨_, rfl⟩
          rw [ha2] at HAs
          have HA2 := Lib.hid ha2
          clear ha2 hG
          generalize accP S0 acc S = a0 at HAs ⊢
          generalize S0.testBit S = b1 at hgc HAs
          generalize acc.getD S false = b2 at hca HAs
          cases a0 <;> cases b1 <;> cases b2
          all_goals
            go_wp2_with fail
            go_roundw
            case rel => exact ⟨S + 1, by rw [HA2.out, HAs.out]; rfl, by go_num, by omega, X, R, DD, O0, O1, hap, hB, hbw⟩
            case measure => simp [RowKit.intOf]; omega
        · obtain rfl : S = A := by omega
          clear hG
          generalize accP S0 acc S = bb at HFM0 ⊢
          have HFM := Lib.hid (show F M = bb from HFM0.out)
          cases bb
          · by_cases hlo : M < N
            · have hm1 : min M N = M := by omega
              have hm2 : min (M + 1) N = M + 1 := by omega
              have hm3 : M + 1 - N = 0 := by omega
              have hm4 : M - N = 0 := by omega
              rw [hm1] at O0 DD hap
              rw [hm4] at O1 DD hap
              have HO0 := Lib.hid O0
              have HO1 := Lib.hid O1
              have HSn := Lib.hid (show ((List.range (M + 1)).map F).map Value.bool = ((List.range M).map F).map Value.bool ++ [Value.bool false] by rw [range_snocR, List.map_append, HFM.out]; rfl)
              clear hm1 hm4
              have HAp := Lib.hid hap
              have dc0 := DD.cell 0 rfl
              have dc1 := DD.cell 1 rfl
              have df0 := DD.free 0
              have df1 := DD.free 1
              have dl := DD.lt
              clear O0 O1 hap
              go_wp2_with (at_builtin; refine wpList_append_own_at _ rfl _ _ 26 rfl B 4 i0 _ 1 1 Tryd.underlying26 hi hz0 hz1 hz2 rfl (by decide) _ _ _ rfl (own_alloc HO0.out _) ⟨wr.heap.size, 0, none⟩ 1 1 [.bool false] rfl rfl (cells_newB _ _ _ _ rfl) (bool_one false) (by unfold maxLen; omega) (by omega) (by simp; omega) ?_; intro v' w6 hown2 hgrow _ hat; obtain ⟨p6, k6, rfl⟩ := own_shape hown2; have D7 := (DD.alloc (.cells #[.bool false] 4)).grownBy hgrow (fun g e => by have := own_ge HO0.out g e; omega); have q0 := D7.cell 0 rfl; have f6 := D7.free 0)
              all_goals
                have hat2 := hat
                go_roundw
                case rel => exact ⟨M + 1, _, _, by go_num, by omega,
                  ((X.alloc (.cells #[.bool false] 4)).grownBy hgrow (fun g e => by have := own_ge HO0.out g e; omega)).other (by show w.heap.size ≠ D; omega) _,
                  ((R.alloc (.cells #[.bool false] 4)).grownBy hgrow (fun g e => by have := own_ge HO0.out g e; omega)).other (by show w.heap.size + 1 ≠ D; omega) _,
                  D7.set 0 _,
                  by rw [hm2, HSn.out]; exact own_set (p := ⟨D, 0, none⟩) hown2 hDB _,
                  by rw [hm3]; exact own_set (p := ⟨D, 0, none⟩) (own_grown (own_alloc HO1.out _) hgrow (fun g e1 e2 => HAp.out g e1 e2)) hDB _,
                  apart_new (W := wr) (o := .cells #[.bool false] 4) HAp.out hat2 HO1.out,
                  by have h7 := hgrow.size; simp at h7 ⊢; omega,
                  ((hbw.alloc hbw.size (.cells #[.bool false] 4)).grown hgrow (by have h8 := hbw.size; simp; omega) (fun g e => by have := own_ge HO0.out g e; omega)).setCell (by show w.heap.size ≤ D; omega) _⟩
                case measure => simp [RowKit.intOf]; omega
            · obtain ⟨J, hJ⟩ : ∃ J, M - N = J := ⟨_, rfl⟩
              have hm1 : min M N = N := by omega
              have hm2 : min (M + 1) N = N := by omega
              have hm3 : M + 1 - N = J + 1 := by omega
              rw [hm1] at O0 DD hap
              rw [hJ] at O1 DD hap
              have HO0 := Lib.hid O0
              have HO1 := Lib.hid O1
              have hJl : J ≤ 2097152 := by omega
              have HSn := Lib.hid (show ((List.range (J + 1)).map fun i => F (N + i)).map Value.bool = ((List.range J).map fun i => F (N + i)).map Value.bool ++ [Value.bool false] by rw [range_snocR, List.map_append, show N + J = M by omega, HFM.out]; rfl)
              clear hm1 hJ
              have HAp := Lib.hid hap
              have dc0 := DD.cell 0 rfl
              have dc1 := DD.cell 1 rfl
              have df0 := DD.free 0
              have df1 := DD.free 1
              have dl := DD.lt
              clear O0 O1 hap
              go_wp2_with (at_builtin; refine wpList_append_own_at _ rfl _ _ 26 rfl B 4 i0 _ 1 1 Tryd.underlying26 hi hz0 hz1 hz2 rfl (by decide) _ _ _ rfl (own_alloc HO1.out _) ⟨wr.heap.size, 0, none⟩ 1 1 [.bool false] rfl rfl (cells_newB _ _ _ _ rfl) (bool_one false) (by unfold maxLen; omega) (by omega) (by simp; omega) ?_; intro v' w6 hown2 hgrow _ hat; obtain ⟨p6, k6, rfl⟩ := own_shape hown2; have D7 := (DD.alloc (.cells #[.bool false] 4)).grownBy hgrow (fun g e => by have := own_ge HO1.out g e; omega); have q0 := D7.cell 1 rfl; have f6 := D7.free 1)
              all_goals
                have hat2 := hat
                go_roundw
                case rel => exact ⟨M + 1, _, _, by go_num, by omega,
                  ((X.alloc (.cells #[.bool false] 4)).grownBy hgrow (fun g e => by have := own_ge HO1.out g e; omega)).other (by show w.heap.size ≠ D; omega) _,
                  ((R.alloc (.cells #[.bool false] 4)).grownBy hgrow (fun g e => by have := own_ge HO1.out g e; omega)).other (by show w.heap.size + 1 ≠ D; omega) _,
                  D7.set 1 _,
                  by rw [hm2]; exact own_set (p := ⟨D, 1, none⟩) (own_grown (own_alloc HO0.out _) hgrow (fun g e1 e2 => HAp.out g e2 e1)) hDB _,
                  by rw [hm3, HSn.out]; exact own_set (p := ⟨D, 1, none⟩) hown2 hDB _,
                  (apart_new (W := wr) (o := .cells #[.bool false] 4) HAp.out.symm hat2 HO0.out).symm,
                  by have h7 := hgrow.size; simp at h7 ⊢; omega,
                  ((hbw.alloc hbw.size (.cells #[.bool false] 4)).grown hgrow (by have h8 := hbw.size; simp; omega) (fun g e => by have := own_ge HO1.out g e; omega)).setCell (by show w.heap.size ≤ D; omega) _⟩
                case measure => simp [RowKit.intOf]; omega
          · by_cases hlo : M < N
            · have hm1 : min M N = M := by omega
              have hm2 : min (M + 1) N = M + 1 := by omega
              have hm3 : M + 1 - N = 0 := by omega
              have hm4 : M - N = 0 := by omega
              rw [hm1] at O0 DD hap
              rw [hm4] at O1 DD hap
              have HO0 := Lib.hid O0
              have HO1 := Lib.hid O1
              have HSn := Lib.hid (show ((List.range (M + 1)).map F).map Value.bool = ((List.range M).map F).map Value.bool ++ [Value.bool true] by rw [range_snocR, List.map_append, HFM.out]; rfl)
              clear hm1 hm4
              have HAp := Lib.hid hap
              have dc0 := DD.cell 0 rfl
              have dc1 := DD.cell 1 rfl
              have df0 := DD.free 0
              have df1 := DD.free 1
              have dl := DD.lt
              clear O0 O1 hap
              go_wp2_with (at_builtin; refine wpList_append_own_at _ rfl _ _ 26 rfl B 4 i0 _ 1 1 Tryd.underlying26 hi hz0 hz1 hz2 rfl (by decide) _ _ _ rfl (own_alloc HO0.out _) ⟨wr.heap.size, 0, none⟩ 1 1 [.bool true] rfl rfl (cells_newB _ _ _ _ rfl) (bool_one true) (by unfold maxLen; omega) (by omega) (by simp; omega) ?_; intro v' w6 hown2 hgrow _ hat; obtain ⟨p6, k6, rfl⟩ := own_shape hown2; have D7 := (DD.alloc (.cells #[.bool true] 4)).grownBy hgrow (fun g e => by have := own_ge HO0.out g e; omega); have q0 := D7.cell 0 rfl; have f6 := D7.free 0)
              all_goals
                have hat2 := hat
                go_roundw
                case rel => exact ⟨M + 1, _, _, by go_num, by omega,
                  ((X.alloc (.cells #[.bool true] 4)).grownBy hgrow (fun g e => by have := own_ge HO0.out g e; omega)).other (by show w.heap.size ≠ D; omega) _,
                  ((R.alloc (.cells #[.bool true] 4)).grownBy hgrow (fun g e => by have := own_ge HO0.out g e; omega)).other (by show w.heap.size + 1 ≠ D; omega) _,
                  D7.set 0 _,
                  by rw [hm2, HSn.out]; exact own_set (p := ⟨D, 0, none⟩) hown2 hDB _,
                  by rw [hm3]; exact own_set (p := ⟨D, 0, none⟩) (own_grown (own_alloc HO1.out _) hgrow (fun g e1 e2 => HAp.out g e1 e2)) hDB _,
                  apart_new (W := wr) (o := .cells #[.bool true] 4) HAp.out hat2 HO1.out,
                  by have h7 := hgrow.size; simp at h7 ⊢; omega,
                  ((hbw.alloc hbw.size (.cells #[.bool true] 4)).grown hgrow (by have h8 := hbw.size; simp; omega) (fun g e => by have := own_ge HO0.out g e; omega)).setCell (by show w.heap.size ≤ D; omega) _⟩
                case measure => simp [RowKit.intOf]; omega
            · obtain ⟨J, hJ⟩ : ∃ J, M - N = J := ⟨_, rfl⟩
              have hm1 : min M N = N := by omega
              have hm2 : min (M + 1) N = N := by omega
              have hm3 : M + 1 - N = J + 1 := by omega
              rw [hm1] at O0 DD hap
              rw [hJ] at O1 DD hap
              have HO0 := Lib.hid O0
              have HO1 := Lib.hid O1
              have hJl : J ≤ 2097152 := by omega
              have HSn := Lib.hid (show ((List.range (J + 1)).map fun i => F (N + i)).map Value.bool = ((List.range J).map fun i => F (N + i)).map Value.bool ++ [Value.bool true] by rw [range_snocR, List.map_append, show N + J = M by omega, HFM.out]; rfl)
              clear hm1 hJ
              have HAp := Lib.hid hap
              have dc0 := DD.cell 0 rfl
              have dc1 := DD.cell 1 rfl
              have df0 := DD.free 0
              have df1 := DD.free 1
              have dl := DD.lt
              clear O0 O1 hap
              go_wp2_with (at_builtin; refine wpList_append_own_at _ rfl _ _ 26 rfl B 4 i0 _ 1 1 Tryd.underlying26 hi hz0 hz1 hz2 rfl (by decide) _ _ _ rfl (own_alloc HO1.out _) ⟨wr.heap.size, 0, none⟩ 1 1 [.bool true] rfl rfl (cells_newB _ _ _ _ rfl) (bool_one true) (by unfold maxLen; omega) (by omega) (by simp; omega) ?_; intro v' w6 hown2 hgrow _ hat; obtain ⟨p6, k6, rfl⟩ := own_shape hown2; have D7 := (DD.alloc (.cells #[.bool true] 4)).grownBy hgrow (fun g e => by have := own_ge HO1.out g e; omega); have q0 := D7.cell 1 rfl; have f6 := D7.free 1)
              all_goals
                have hat2 := hat
                go_roundw
                case rel => exact ⟨M + 1, _, _, by go_num, by omega,
                  ((X.alloc (.cells #[.bool true] 4)).grownBy hgrow (fun g e => by have := own_ge HO1.out g e; omega)).other (by show w.heap.size ≠ D; omega) _,
                  ((R.alloc (.cells #[.bool true] 4)).grownBy hgrow (fun g e => by have := own_ge HO1.out g e; omega)).other (by show w.heap.size + 1 ≠ D; omega) _,
                  D7.set 1 _,
                  by rw [hm2]; exact own_set (p := ⟨D, 1, none⟩) (own_grown (own_alloc HO0.out _) hgrow (fun g e1 e2 => HAp.out g e2 e1)) hDB _,
                  by rw [hm3, HSn.out]; exact own_set (p := ⟨D, 1, none⟩) hown2 hDB _,
                  (apart_new (W := wr) (o := .cells #[.bool true] 4) HAp.out.symm hat2 HO0.out).symm,
                  by have h7 := hgrow.size; simp at h7 ⊢; omega,
                  ((hbw.alloc hbw.size (.cells #[.bool true] 4)).grown hgrow (by have h8 := hbw.size; simp; omega) (fun g e => by have := own_ge HO1.out g e; omega)).setCell (by show w.heap.size ≤ D; omega) _⟩
                case measure => simp [RowKit.intOf]; omega
    · obtain rfl : M = T := by omega
      have hm1 : min M N = N := by omega
      rw [hm1] at O0 DD
      obtain ⟨J, hJ⟩ : ∃ J, M - N = J := ⟨_, rfl⟩
      rw [hJ] at O1 DD
      have HJ := Lib.hid hJ
      have HO := Lib.hid (And.intro O0 O1)
      have d0 := DD.cell 0 rfl
      have d1 := DD.cell 1 rfl
      have r0 := R.cell 0 rfl
      have r1 := R.cell 1 rfl
      have z0 := R.free 0
      have z1 := R.free 1
      have hsB : w.heap.size + 1 < B := by omega
      have hwB : w.heap.size ≤ B := by omega
      clear O0 O1 hap hm1 hJ
      go_wp2
      have q0 : (wr.setCell ⟨w.heap.size + 1, 0, none⟩ (.slice p0 N k0)).cell? ⟨w.heap.size + 1, 0, none⟩ = some (.slice p0 N k0) := (R.set 0 _).cell 0 rfl
      have q1 : ((wr.setCell ⟨w.heap.size + 1, 0, none⟩ (.slice p0 N k0)).setCell ⟨w.heap.size + 1, 1, none⟩ (.slice p1 J k1)).cell? ⟨w.heap.size + 1, 1, none⟩ = some (.slice p1 J k1) := ((R.set 0 _).set 1 _).cell 1 rfl
      refine bodyPost_ret (v := .agg #[.slice p0 N k0, .slice p1 J k1]) (by simp [results, Tryd.results21, go_sem, q0, q1]) rfl ⟨⟨_, rfl, _, _, rfl, own_cast (own_mono (own_set (p := ⟨w.heap.size + 1, 1, none⟩) (own_set (p := ⟨w.heap.size + 1, 0, none⟩) HO.out.1 hsB _) hsB _) hwB) (by simp) rfl, own_cast (own_mono (own_set (p := ⟨w.heap.size + 1, 1, none⟩) (own_set (p := ⟨w.heap.size + 1, 0, none⟩) HO.out.2 hsB _) hsB _) hwB) (by rw [HJ.out]; simp) (by rw [HJ.out])⟩, (hbw.setCell (Nat.le_add_right _ 1) _).setCell (Nat.le_add_right _ 1) _⟩
end Go.Proofs.YtepncbbegpeilaaDoor
namespace Go.Proofs.YtepncbbegpeilaaDoor
open Go.RowKit Go.Lib

theorem allShort : AllShort := fun v h c _ hv hc hl W hW => shortest_any v h c W (hv.grows hW) hc hl
end Go.Proofs.YtepncbbegpeilaaDoor
namespace Go.Proofs.YtepncbbegpeilaaDoor
open Go.RowKit Go.Lib

theorem infoRB : (Tryd.prog.info? 26).map (fun i => (i.zero, i.size, i.bytes)) = some (some (.slice none 0 0), 1, 24) := by kernel_rfl
theorem own_other {w : World} {base : Nat} {e : TypeId} {size : Nat} {v : Value} {n : Nat} {xs : List Value} (h : w.ownsRow base e size v n xs) {a : Addr} (hne : ∀ g, v.ownBlock = some g → a.block ≠ g) (u : Value) : (w.setCell a u).ownsRow base e size v n xs := by
  refine ⟨h.1, ?_⟩
  rcases h.2 with h2 | ⟨g, cap, cur, hv, hg, hh, r⟩
  · exact .inl h2
  · refine .inr ⟨g, cap, cur, hv, hg, ?_, r⟩
    exact (Below.heap_setCell _ _ _ _ (fun e2 => hne g (by rw [hv]; rfl) e2.symm)).trans hh
/-- the rows of marks of the first sets. -/
def RowsS (W : World) (A : Nat) (f : Nat → Nat) (u : Value) (vs : List Value) : Prop :=
  ∀ (i : Nat) (rv : Value), vs[i]? = some rv → ∃ g, rv = .slice (some ⟨g, 0, none⟩) A A ∧ Blk W g (rowB A A fun j => (f i).testBit j) 4 ∧ u.ownBlock ≠ some g
theorem RowsS.grows {W W' : World} {A : Nat} {f : Nat → Nat} {u : Value} {vs : List Value} (h : RowsS W A f u vs) (hb : Below W.heap.size W W') : RowsS W' A f u vs := fun i rv hi => by
  obtain ⟨g, e, hB, hn⟩ := h i rv hi
  exact ⟨g, e, hB.grows hb, hn⟩
theorem RowsS.sets {W : World} {B A : Nat} {f : Nat → Nat} {p : Option Addr} {k T : Nat} {vs : List Value} {e : TypeId} (h : RowsS W A f (.slice p T k) vs) (ho : W.ownsRow B e 1 (.slice p T k) T vs) (hl : vs.length = T) : SetsAt W p T A f := fun j hj => by
  obtain ⟨rv, hrv⟩ := get_of_lt (l := vs) (k := j) (by omega)
  obtain ⟨g, rfl, hB, _⟩ := h j rv hrv
  obtain ⟨b, rfl, _, hc⟩ := own_cell ho hrv
  exact ⟨b, g, rfl, hc, hB⟩
theorem bits_eq {A x y : Nat} (hx : x < 2 ^ A) (hy : y < 2 ^ A) : (List.range A).map (fun j => x.testBit j) = (List.range A).map (fun j => y.testBit j) ↔ x = y := by
  constructor
  · intro h
    apply Nat.eq_of_testBit_eq
    intro i
    rcases Nat.lt_or_ge i A with hi | hi
    · have := congrArg (fun l => l.getD i false) h
      simpa [range_getD, hi, List.getD_eq_getElem?_getD] using this
    · rw [Nat.testBit_lt_two_pow (Nat.lt_of_lt_of_le hx (Nat.pow_le_pow_right (by decide) hi)), Nat.testBit_lt_two_pow (Nat.lt_of_lt_of_le hy (Nat.pow_le_pow_right (by decide) hi))]
  · rintro rfl; rfl
theorem isB_row {W : World} {g n : Nat} {F : Nat → Bool} (h : Blk W g (rowB n n F) 4) : IsB W (.slice (some ⟨g, 0, none⟩) n n) ((List.range n).map F) :=
  .inr ⟨g, 0, n, by simp, by simp, rowB_reads h⟩
theorem nodup_snoc {f : Nat → Nat} {k : Nat} (h : ((List.range k).map f).Nodup) (hk : ∀ j, j < k → f j ≠ f k) : ((List.range (k + 1)).map f).Nodup := by
  rw [List.range_succ, List.map_append, List.nodup_append]
  refine ⟨h, by simp, fun x hx y hy => ?_⟩
  obtain ⟨j, hj, rfl⟩ := List.mem_map.1 hx
  simp at hy
  subst hy
  exact hk j (List.mem_range.1 hj)
set_option maxRecDepth 100000 in
set_option maxHeartbeats 8000000 in
theorem rof_any (v : Value) (cls : List (BitVec 256)) (next : List (List Int)) (acc : List Bool) (w : World) (hv : IsD w v cls next acc) (hc : cls.length ≤ 1152921504606846976) (hn : next.length ≤ 1152921504606846976) (ha : acc.length ≤ 1152921504606846976) (hr : ∀ r ∈ next, r.length ≤ 1152921504606846976)
    (hsmall : next.length ≤ 8) :
    Calls Tryd.prog 7 #[v] w fun e w' => OpRes w.heap.size (validD cls next acc) (accN (next.map rowBits) (accBits acc next.length)) w' e ∧ Below w.heap.size w w' := by
  have HV := Lib.hid (fun W (hW : Below w.heap.size w W) => rvalid3_any v cls next acc W (hv.grows hW) hc hn ha hr)
  obtain ⟨pc, kc, pn, kn, pa, ka, rfl, h1, h2, h3⟩ := hv.shape
  have X0 := (Blk.new w #[.slice pc cls.length kc, .slice pn next.length kn, .slice pa acc.length ka] 28).alloc (.cells #[.slice none 0 0, .slice none 0 0] 31)
  have R0 := Blk.alloc1 w #[.slice pc cls.length kc, .slice pn next.length kn, .slice pa acc.length ka] #[.slice none 0 0, .slice none 0 0] 28 31
  have hbw0 : Below w.heap.size w ((w.alloc (.cells #[.slice pc cls.length kc, .slice pn next.length kn, .slice pa acc.length ka] 28)).alloc (.cells #[.slice none 0 0, .slice none 0 0] 31)) := by go_grown
  cases hval : validD cls next acc
  · rw [hval] at HV
    clear hval hv h1 h2 h3
    go_enter Tryd.func7, Tryd.ntmps7
    go_wp2_with (go_at_call 18; refine (HV.out _ hbw0).mono ?_; rintro e w1 ⟨rfl, hb1⟩; have R1 := R0.grows hb1; have r0 := R1.cell 0 rfl; have r1 := R1.cell 1 rfl; have z0 := R1.free 0; have z1 := R1.free 1)
    have q0 : (w1.setCell ⟨w.heap.size + 1, 0, none⟩ (.slice none 0 0)).cell? ⟨w.heap.size + 1, 0, none⟩ = some (.slice none 0 0) := (R1.set 0 _).cell 0 rfl
    have q1 : ((w1.setCell ⟨w.heap.size + 1, 0, none⟩ (.slice none 0 0)).setCell ⟨w.heap.size + 1, 1, none⟩ (.slice none 0 0)).cell? ⟨w.heap.size + 1, 1, none⟩ = some (.slice none 0 0) := ((R1.set 0 _).set 1 _).cell 1 rfl
    refine bodyPost_ret (v := .tuple #[.agg #[.slice none 0 0, .slice none 0 0], .int .i64 1]) (by simp [results, Tryd.results7, go_sem, q0, q1]) rfl ⟨.inl ⟨rfl, rfl⟩, ((below_two hbw0 hb1).setCell (Nat.le_add_right _ 1) _).setCell (Nat.le_add_right _ 1) _⟩
  · rw [hval] at HV
    obtain ⟨-, hn1, -, hal, hrows⟩ := validD_iff.1 hval
    obtain ⟨ib, hib, hb0, hb1, hb2⟩ := info_parts infoBool
    obtain ⟨ir, hir, hx0, hx1, hx2⟩ := info_parts infoRB
    obtain ⟨A, hA⟩ : ∃ A, next.length = A := ⟨_, rfl⟩
    obtain ⟨C, hC⟩ : ∃ C, cls.length = C := ⟨_, rfl⟩
    have haA : acc.length = A := hal.trans hA
    obtain ⟨tb, htb⟩ : ∃ tb, next.map rowBits = tb := ⟨_, rfl⟩
    have htl : tb.length = A := by rw [← htb, List.length_map, hA]
    have hrow2 : ∀ r ∈ next, r.length = C ∧ ∀ t ∈ r, 0 ≤ t ∧ t < (A : Int) := fun r hr => by
      have h9 := hrows r hr
      unfold okRow okTo at h9
      rw [hA, hC] at h9
      exact h9
    have HTl : ∀ q, q < tb.length → tb.getD q 0 < 2 ^ A := fun q hq => by
      rw [htl] at hq
      obtain ⟨r, hr⟩ := get_of_lt (l := next) (k := q) (by omega)
      rw [← htb, map_getD rowBits next q r hr]
      exact rowBits_lt fun t ht => by have := (hrow2 r (List.mem_of_getElem? hr)).2 t ht; omega
    have hA0 : 0 < A := by omega
    have hA8 : A ≤ 8 := by omega
    have HBd := Lib.hid (fun k => seqBits_lt hA0 HTl k)
    have HMax := Lib.hid (show ∀ k, ((List.range k).map (seqBits tb)).Nodup → k ≤ 256 from fun k hk => by
      have h2 := distinct_le hk (m := 2 ^ A) (fun x hx => by obtain ⟨j, _, rfl⟩ := List.mem_map.1 hx; exact seqBits_lt hA0 HTl j)
      have h3 : 2 ^ A ≤ 2 ^ 8 := Nat.pow_le_pow_right (by decide) hA8
      simp at h2
      omega)
    rw [hA, hC, haA] at X0 R0 hbw0 HV ⊢
    rw [hC] at h1
    rw [hA] at h2
    rw [haA] at h3
    have HSp := Lib.hid (fun W (hW : Below w.heap.size w W) g R (hG : Blk W g (rowB A A fun j => R.testBit j) 4) => htb ▸ rstep_any pc pn pa kc kn ka C A A next W (h2.grows hW) hA (by omega) (by omega) hrow2 g R hA0 hG)
    obtain ⟨F, hF⟩ : ∃ F, accN tb (accBits acc A) = F := ⟨_, rfl⟩
    have HFr := Lib.hid (fun H i (h : seqBits tb i = seqBits tb H) (hle : H ≤ i) => hF ▸ accN_from (A := accBits acc A) h hle)
    have hAc : ∀ k, accP (seqBits tb k) acc A = F k := fun k => hF ▸ accP_all tb acc A k
    have HRd := Lib.hid (fun W (hW : Below w.heap.size w W) p T kp N (hN : N ≤ T) (hT : T ≤ 2097152) (hS : SetsAt W p T A (seqBits tb)) => (show Calls Tryd.prog 21 #[.agg #[.slice pc C kc, .slice pn A kn, .slice pa A ka], .slice p T kp, .int .i64 (N : Int)] W fun e w' => (∃ vo, e = .returned vo ∧ OwnSet w' W.heap.size vo ((List.range N).map F) ((List.range (T - N)).map fun i => F (N + i))) ∧ Below W.heap.size W w' by
      have h9 := rread_any pc pn pa p kc kn ka C A T kp N acc (seqBits tb) W (h3.grows hW) haA (by omega) hN hT hS
      simp only [hAc] at h9
      exact h9))
    rw [htb, hF]
    have HMk := Lib.hid ((rowB_zero A (fun _ => false)).trans (rowB_start A (fun _ => false)))
    have HSt0 := Lib.hid ((rowB_put A (fun _ => false) 0 true).trans (rowB_congr (G := fun j => (seqBits tb 0).testBit j) fun j _ => by
      show (if j = 0 then true else false) = (1 : Nat).testBit j
      rw [show (1 : Nat) = 2 ^ 0 from rfl, testBit_pow]
      by_cases e : j = 0
      · subst e; rfl
      · rw [if_neg e, decide_eq_false (fun h => e h.symm)]))
    clear hval hv h1 h2 h3 hrows hr hal hrow2 HTl htl htb haA hA hC hF hc hn ha hsmall hAc
    go_enter Tryd.func7, Tryd.ntmps7
    go_wp2_with (first
      | (go_at_call 18; refine (HV.out _ hbw0).mono ?_; rintro e w1 ⟨rfl, hb1'⟩; have X1 := X0.grows hb1'; have R1 := R0.grows hb1'; have hbw1 := below_two hbw0 hb1'; have x0 := X1.cell 0 rfl; have x1 := X1.cell 1 rfl; have x2 := X1.cell 2 rfl; have hl1 : w.heap.size + 1 < w1.heap.size := R1.lt; have hl0 : w.heap.size < w1.heap.size := X1.lt; have y1 : w1.cell? ⟨w.heap.size, 1, none⟩ = some (.slice pn A kn) := X1.cell 1 rfl; clear x1)
      | (at_make; refine wpList_make_row _ rfl _ _ 26 rfl 4 ib _ Tryd.underlying26 hib hb0 hb1 rfl _ _ A rfl rfl (by rw [hb2]; omega) (by omega) ?_; rw [HMk.out]; have hB1 : w.heap.size + 2 ≤ w1.heap.size := R1.lt; have X2 := X1.alloc (.cells #[] 26); have R2 := R1.alloc (.cells #[] 26); have O2 : (w1.alloc (.cells #[] 26)).ownsRow (w.heap.size + 2) 26 1 (.slice (some ⟨w1.heap.size, 0, none⟩) 0 0) 0 [] := own_of_blk (Blk.new w1 #[] 26) 0 1 rfl (by unfold maxLen; omega) hB1; have hbw2 := hbw1.alloc hbw1.size (.cells #[] 26); have hwE : w1.heap.size < (w1.alloc (.cells #[] 26)).heap.size := (by simp); generalize (w1.alloc (.cells #[] 26)) = wE at X2 R2 O2 hbw2 hwE ⊢; have G3 := Blk.new wE (rowB A A fun _ => false) 4; have X3 := X2.alloc (.cells (rowB A A fun _ => false) 4); have R3 := R2.alloc (.cells (rowB A A fun _ => false) 4); have O3 := own_alloc O2 (.cells (rowB A A fun _ => false) 4); have hbw3 := hbw2.alloc hbw2.size (.cells (rowB A A fun _ => false) 4); have f0 := G3.free 0; have g0 := G3.cell 0 (rowB_full A _ 0 hA0); generalize (wE.alloc (.cells (rowB A A fun _ => false) 4)) = wF at G3 X3 R3 O3 hbw3 f0 g0 ⊢))
    have hE2 : w.heap.size + 1 < wE.heap.size := by omega
    have G4 := (G3.set 0 (.bool true)).cast HSt0.out
    have X4 := X3.other (a := ⟨wE.heap.size, 0, none⟩) (by show w.heap.size ≠ wE.heap.size; omega) (.bool true)
    have R4 := R3.other (a := ⟨wE.heap.size, 0, none⟩) (by show w.heap.size + 1 ≠ wE.heap.size; omega) (.bool true)
    have O4 : (wF.setCell ⟨wE.heap.size, 0, none⟩ (.bool true)).ownsRow (w.heap.size + 2) 26 1 (.slice (some ⟨w1.heap.size, 0, none⟩) 0 0) 0 [] := own_other O3 (fun g hg => by have h9 : w1.heap.size = g := Option.some.inj hg; show wE.heap.size ≠ g; omega) _
    have hbw4 := hbw3.setCell (p := ⟨wE.heap.size, 0, none⟩) (by show w.heap.size ≤ wE.heap.size; omega) (.bool true)
    have hap0 : (Value.slice (some ⟨w1.heap.size, 0, none⟩) 0 0).ownBlock ≠ some wE.heap.size := fun h => by have h9 : w1.heap.size = wE.heap.size := Option.some.inj h; omega
    have hB4 : w.heap.size + 2 ≤ (wF.setCell ⟨wE.heap.size, 0, none⟩ (.bool true)).heap.size := R4.lt
    generalize (wF.setCell ⟨wE.heap.size, 0, none⟩ (.bool true)) = w4 at G4 X4 R4 O4 hbw4 hB4 ⊢
    generalize (Value.slice (some ⟨w1.heap.size, 0, none⟩) 0 0) = u0 at O4 hap0 ⊢
    generalize wE.heap.size = g0' at G4 hap0 ⊢
    clear X0 R0 hbw0 hb1' X1 R1 hbw1 x0 x2 hB1 X2 R2 O2 hbw2 hwE G3 X3 R3 O3 hbw3 f0 g0 hE2 HMk HSt0 HV
    go_loopw [4, 5] (fun u v wr => ∃ (k g : Nat) (vs : List Value), v = .slice (some ⟨g, 0, none⟩) A A ∧ vs.length = k ∧ wr.ownsRow (w.heap.size + 2) 26 1 u k vs ∧ RowsS wr A (seqBits tb) u vs ∧ Blk wr g (rowB A A fun j => (seqBits tb k).testBit j) 4 ∧ u.ownBlock ≠ some g ∧ ((List.range k).map (seqBits tb)).Nodup ∧
      Blk wr w.heap.size #[.slice pc C kc, .slice pn A kn, .slice pa A ka] 28 ∧ Blk wr (w.heap.size + 1) #[.slice none 0 0, .slice none 0 0] 31 ∧ w.heap.size + 2 ≤ wr.heap.size ∧ Below w.heap.size w wr) (fun u _ _ => 300 - sliceLen u)
    case atStart => exact ⟨0, _, [], rfl, rfl, O4, fun i rv h => by simp at h, G4, hap0, by simp, X4, R4, hB4, hbw4⟩
    case round =>
      clear G4 X4 R4 O4 hbw4 hap0 hB4
      obtain ⟨k, g, vs, rfl, hvs, O, hrows, G, hap, hnd, X, R, hB, hbw⟩ := hrel
      obtain ⟨p, cap, rfl⟩ := own_shape O
      have hk := HMax.out k hnd
      have HVs := Lib.hid hvs
      have HNd := Lib.hid hnd
      have HAp := Lib.hid hap
      clear hvs hnd hap
      have HInv := Lib.hid (fun W (hW : Below wr.heap.size wr W) => And.intro (own_below O hW) (And.intro (hrows.grows hW) (And.intro (G.grows hW) (And.intro (X.grows hW) (And.intro (R.grows hW) (below_two hbw hW))))))
      have HO := Lib.hid O
      clear O hrows G X R
      go_wp2_with fail
      go_loopw [6] (fun i wi => ∃ I : Nat, i = .int .i64 (I : Int) ∧ I ≤ k ∧ (∀ j, j < I → seqBits tb j ≠ seqBits tb k) ∧ Below wr.heap.size wr wi) (fun i _ => k - (RowKit.intOf i).toNat)
      case atStart => exact ⟨0, rfl, Nat.zero_le _, fun j h => by omega, Below.refl _ _⟩
      case round =>
        obtain ⟨I, rfl, hI, hne, hwi⟩ := hrel
        have HNe := Lib.hid hne
        clear hne
        by_cases hlt : I < k
        · obtain ⟨O, hrows, G, X, R, hbwi⟩ := HInv.out _ hwi
          obtain ⟨rv, hrv⟩ := get_of_lt (l := vs) (k := I) (by have := HVs.out; omega)
          obtain ⟨gi, rfl, Gi, -⟩ := hrows I rv hrv
          obtain ⟨b, rfl, -, hc⟩ := own_cell O hrv
          have hSets := hrows.sets O HVs.out
          have HSe := Lib.hid hSets
          have HE := Lib.hid (requal_any _ _ _ _ wr (isB_row Gi) (isB_row G) (by simp) (by simp; omega))
          clear O hrows G hSets Gi hrv
          have x0 := X.cell 0 rfl
          have x1 := X.cell 1 rfl
          have x2 := X.cell 2 rfl
          have hIk : I + (k - I) ≤ 1048576 := by omega
          by_cases heq : seqBits tb I = seqBits tb k
          · have hb : sameB ((List.range A).map fun j => (seqBits tb I).testBit j) ((List.range A).map fun j => (seqBits tb k).testBit j) = true := decide_eq_true ((bits_eq (HBd.out I) (HBd.out k)).2 heq)
            rw [hb] at HE
            have HFF := Lib.hid (HFr.out I k heq.symm hI)
            clear heq hb
            go_wp2_with (first
              | (go_at_call 19; ((with_reducible refine HE.out.mono ?_)); rintro e w5 ⟨rfl, hb5⟩; have X5 := X.grows hb5; have R5 := R.grows hb5; have hbw5 := below_two hbwi hb5; clear x0 x1 x2; have x0 := X5.cell 0 rfl; have x1 := X5.cell 1 rfl; have x2 := X5.cell 2 rfl)
              | (go_at_call 21; refine (HRd.out w5 hbw5 _ k cap I hI (by omega) (HSe.out.grows hb5)).mono ?_; rintro e w6 ⟨⟨vo, rfl, hO6⟩, hb6⟩; have HO6 := Lib.hid hO6; have R6 := R5.grows hb6; have hbw6 := below_two hbw5 hb6; clear hO6)
              | (go_at_call 20; refine (bounded_of _ _ _ F _ HO6.out.isSet ((tab_at HFF.out (by omega)) ▸ allShort _ _ _ _ HO6.out.isSet (by simp; omega) (by simp; omega)) (P := k - I) (N := I) (by omega) HFF.out hIk).mono ?_; rintro e w7 ⟨⟨hh, cc, hC, hres⟩, hb7⟩; obtain ⟨hq, hl, hz, cq, cl, cz, nn, rfl⟩ := hres.shape; have R7 := R6.grows hb7; have r0 := R7.cell 0 rfl; have r1 := R7.cell 1 rfl; have z0 := R7.free 0; have z1 := R7.free 1))
            have q0 : (w7.setCell ⟨w.heap.size + 1, 0, none⟩ (.slice hq hl hz)).cell? ⟨w.heap.size + 1, 0, none⟩ = some (.slice hq hl hz) := (R7.set 0 _).cell 0 rfl
            have q1 : ((w7.setCell ⟨w.heap.size + 1, 0, none⟩ (.slice hq hl hz)).setCell ⟨w.heap.size + 1, 1, none⟩ (.slice cq cl cz)).cell? ⟨w.heap.size + 1, 1, none⟩ = some (.slice cq cl cz) := ((R7.set 0 _).set 1 _).cell 1 rfl
            have hlt2 : w.heap.size + 1 < w6.heap.size := R6.lt
            refine bodyPost_ret (v := .tuple #[.agg #[.slice hq hl hz, .slice cq cl cz], .int .i64 nn]) (by simp [results, Tryd.results7, go_sem, q0, q1]) rfl ⟨.inr ⟨rfl, _, _, hC, ((hres.set (p := ⟨w.heap.size + 1, 0, none⟩) hlt2 _).set (p := ⟨w.heap.size + 1, 1, none⟩) hlt2 _).mono hbw6.size⟩, ((below_two hbw6 hb7).setCell (Nat.le_add_right _ 1) _).setCell (Nat.le_add_right _ 1) _⟩
          · have hb : sameB ((List.range A).map fun j => (seqBits tb I).testBit j) ((List.range A).map fun j => (seqBits tb k).testBit j) = false := decide_eq_false (fun h => heq ((bits_eq (HBd.out I) (HBd.out k)).1 h))
            rw [hb] at HE
            have HNx := Lib.hid (show ∀ j, j < I + 1 → seqBits tb j ≠ seqBits tb k from fun j hj => by
              rcases Nat.lt_or_ge j I with h | h
              · exact HNe.out j h
              · obtain rfl : j = I := by omega
                exact heq)
            clear heq hb HNe
            go_wp2_with (go_at_call 19; ((with_reducible refine HE.out.mono ?_)); rintro e w5 ⟨rfl, hb5⟩)
            go_roundw
            case rel => exact ⟨I + 1, by go_num, by omega, HNx.out, below_two hwi hb5⟩
            case measure => simp [RowKit.intOf]; omega
        · obtain rfl : I = k := by omega
          obtain ⟨O, hrows, G, X, R, hbwi⟩ := HInv.out _ hwi
          have HN2 := Lib.hid (nodup_snoc HNd.out HNe.out)
          have hB2 : w.heap.size + 2 ≤ wr.heap.size := R.lt
          have HO2 := Lib.hid O
          have HRw := Lib.hid hrows
          have hgl := G.lt
          clear O hrows HNe
          go_wp2_with (first
            | (at_builtin; refine wpList_append_own_at _ rfl _ _ 51 rfl (w.heap.size + 2) 26 ir _ 1 24 Tryd.underlying51 hir hx0 hx1 hx2 rfl (by decide) _ _ _ rfl (own_alloc HO2.out _) ⟨wr.heap.size, 0, none⟩ 1 1 [.slice (some ⟨g, 0, none⟩) A A] rfl rfl (cells_newB _ _ _ _ rfl) (slice_one _ _ _) (by unfold maxLen; omega) (by omega) (by simp; omega) ?_; intro v' w6 hown2 hgrow _ hat; obtain ⟨p6, k6, rfl⟩ := own_shape hown2; have X6 := (X.alloc (.cells #[.slice (some ⟨g, 0, none⟩) A A] 26)).grownBy hgrow (fun b e => by have := own_ge HO2.out b e; omega); have R6 := (R.alloc (.cells #[.slice (some ⟨g, 0, none⟩) A A] 26)).grownBy hgrow (fun b e => by have := own_ge HO2.out b e; omega); have G6 := (G.alloc (.cells #[.slice (some ⟨g, 0, none⟩) A A] 26)).grownBy hgrow (fun b e e2 => HAp.out (e2 ▸ e)); have hbw6 := (hbwi.alloc hbwi.size (.cells #[.slice (some ⟨g, 0, none⟩) A A] 26)).grown hgrow (by have h8 := hbwi.size; simp; omega) (fun b e => by have := own_ge HO2.out b e; omega); have HS6 := Lib.hid (HSp.out w6 hbw6 g _ G6); have x0 := X6.cell 0 rfl; have x1 := X6.cell 1 rfl; have x2 := X6.cell 2 rfl)
            | (go_at_call 22; ((with_reducible refine HS6.out.mono ?_)); rintro e w7 ⟨⟨g2, rfl, hg2, G7⟩, hb7⟩))
          have hgl6 : (wr.alloc (.cells #[.slice (some ⟨g, 0, none⟩) A A] 26)).heap.size ≤ w6.heap.size := hgrow.size
          have hown7 := own_below hown2 hb7
          have HR7 : RowsS w7 A (seqBits tb) (.slice p6 (I + 1) k6) (vs ++ [.slice (some ⟨g, 0, none⟩) A A]) := fun i rv hi => by
            have hnew : ∀ x, x < wr.heap.size → (Value.slice p I cap).ownBlock ≠ some x → (Value.slice p6 (I + 1) k6).ownBlock ≠ some x := fun x hx hn e => by
              rcases hat with h | h
              · exact hn (h ▸ e)
              · rw [h] at e; have h9 := Option.some.inj e; simp at h9; omega
            rcases Nat.lt_or_ge i vs.length with h | h
            · rw [List.getElem?_append_left h] at hi
              obtain ⟨gi, e, hBk, hn⟩ := HRw.out i rv hi
              exact ⟨gi, e, ((hBk.alloc _).grownBy hgrow (fun b e e2 => hn (e2 ▸ e))).grows hb7, hnew gi hBk.lt hn⟩
            · have hil : i < (vs ++ [Value.slice (some ⟨g, 0, none⟩) A A]).length := (List.getElem?_eq_some_iff.1 hi).1
              have hie : i = vs.length := by simp at hil; omega
              subst hie
              rw [List.getElem?_append_right (Nat.le_refl _), Nat.sub_self] at hi
              simp at hi
              exact ⟨g, hi.symm, HVs.out ▸ G6.grows hb7, hnew g hgl HAp.out⟩
          go_roundw
          case rel => exact ⟨I + 1, g2, _, rfl, by simp [HVs.out], hown7, HR7, G7, fun e => by have h9 := own_lt hown2 g2 e; omega, HN2.out, X6.grows hb7, R6.grows hb7, by have := hb7.size; have h9 := hgl6; simp at h9; omega, below_two hbw6 hb7⟩
          case measure => simp [sliceLen]; omega
end Go.Proofs.YtepncbbegpeilaaDoor
namespace Go.Proofs.YtepncbbegpeilaaDoor
open Go.RowKit Go.Lib

/-- what a function with a set and an error for its results says of them. -/
def Res (ok : Bool) (f : Nat → Bool) (h c : List Bool) (n : Int) : Prop :=
  (ok = false ∧ h = [] ∧ c = [] ∧ n = 1) ∨ (ok = true ∧ ((IsCanon f h c ∧ h.length + c.length ≤ 512 ∧ n = 0) ∨ (h = [] ∧ c = [] ∧ n = 2 ∧ ∃ h' c', IsCanon f h' c' ∧ 512 < h'.length + c'.length)))
theorem Res.unique {ok : Bool} {f : Nat → Bool} {h c h' c' : List Bool} {n n' : Int} (a : Res ok f h c n) (b : Res ok f h' c' n') : h = h' ∧ c = c' ∧ n = n' := by
  rcases a with ⟨a0, rfl, rfl, rfl⟩ | ⟨a0, a1⟩
  · rcases b with ⟨_, rfl, rfl, rfl⟩ | ⟨b0, _⟩
    · exact ⟨rfl, rfl, rfl⟩
    · rw [a0] at b0; cases b0
  · rcases b with ⟨b0, _⟩ | ⟨_, b1⟩
    · rw [a0] at b0; cases b0
    · rcases a1 with ⟨x, xl, rfl⟩ | ⟨rfl, rfl, rfl, hx, cx, x, xl⟩
      · rcases b1 with ⟨y, _, rfl⟩ | ⟨_, _, _, hy, cy, y, yl⟩
        · obtain ⟨e1, e2⟩ := x.unique y fun _ => rfl
          exact ⟨e1, e2, rfl⟩
        · obtain ⟨e1, e2⟩ := x.unique y fun _ => rfl
          rw [e1, e2] at xl; omega
      · rcases b1 with ⟨y, yl, _⟩ | ⟨rfl, rfl, rfl, _⟩
        · obtain ⟨e1, e2⟩ := x.unique y fun _ => rfl
          rw [e1, e2] at xl; omega
        · exact ⟨rfl, rfl, rfl⟩
theorem isSet_none (W : World) : IsSet W (.agg #[.slice none 0 0, .slice none 0 0]) [] [] := ⟨_, _, rfl, own_isB (World.ownsRow_nil W 0 4 1), own_isB (World.ownsRow_nil W 0 4 1)⟩
theorem opres_any {B : Nat} {ok : Bool} {f : Nat → Bool} {W : World} {e : Ending} (r : OpRes B ok f W e) :
    ∃ h c hp hk cp ck n, e = .returned (.tuple #[.agg #[.slice hp h.length hk, .slice cp c.length ck], .int .i64 n]) ∧ Hid (Res ok f h c n) ∧ h.length ≤ 512 ∧ c.length ≤ 512 ∧ IsSet W (.agg #[.slice hp h.length hk, .slice cp c.length ck]) h c := by
  rcases r with ⟨h0, rfl⟩ | ⟨h0, h, c, hc, r⟩
  · exact ⟨[], [], none, 0, none, 0, 1, rfl, Lib.hid (.inl ⟨h0, rfl, rfl, rfl⟩), by simp, by simp, isSet_none W⟩
  · rcases r with ⟨hl, v, rfl, hown⟩ | ⟨hl, rfl⟩
    · obtain ⟨hp, hk, cp, ck, rfl, a1, a2⟩ := hown.isSet.shape
      exact ⟨h, c, hp, hk, cp, ck, 0, rfl, Lib.hid (.inr ⟨h0, .inl ⟨hc, hl, rfl⟩⟩), by omega, by omega, _, _, rfl, a1, a2⟩
    · exact ⟨[], [], none, 0, none, 0, 2, rfl, Lib.hid (.inr ⟨h0, .inr ⟨rfl, rfl, rfl, h, c, hc, hl⟩⟩), by simp, by simp, isSet_none W⟩
set_option maxRecDepth 100000 in
set_option maxHeartbeats 4000000 in
theorem ofmatch_walk (w : World) (p : Option Addr) (k : Nat) (l : List Int) (y : Bool) (hv : IsY w (.slice p l.length k) l) (hb : ∀ z ∈ l, 0 ≤ z ∧ z < 256) (hl : l.length ≤ 1152921504606846976)
    (hT : TabAt 0 Lib.deBruijn64tab w) (hg : 0 < w.heap.size) :
    Calls Tryd.prog 3 #[.slice p l.length k, .bool y] w fun e w' => e = .returned (.bool true) ∧ Below w.heap.size w w' := by
  have HT := Lib.hid (fun W (hW : Below w.heap.size w W) => And.intro (tab_below hT hW hg) (Nat.lt_of_lt_of_le hg hW.size))
  have HS := Lib.hid (sanity_any w hT hg)
  have HMa := Lib.hid (fun W (hW : Below w.heap.size w W) => machine_own p k l W (hv.grows hW) hb hl)
  obtain ⟨N, hN⟩ : ∃ N, mn l = N := ⟨_, rfl⟩
  have hN1 : 0 < N ∧ N ≤ 8 := hN ▸ mn_pos l
  rw [hN] at HMa
  obtain ⟨ib, hib, hb0, hb1, hb2⟩ := info_parts infoBool
  -- the two functions over one automaton
  have HOf := Lib.hid (fun W (hW : Below w.heap.size w W) v (ac : List Bool) (ha : ac.length ≤ 1000) (hD : IsD W v clsM ((List.range N).map (mrow l N)) ac) => of_any v clsM ((List.range N).map (mrow l N)) ac W hD (by decide) (by simp; omega) (by omega) (fun r hr => by obtain ⟨s, _, rfl⟩ := List.mem_map.1 hr; simp [mrow]) (by simp; omega) (HT.out W hW).1 (HT.out W hW).2)
  have HRf := Lib.hid (fun W v (ac : List Bool) (ha : ac.length ≤ 1000) (hD : IsD W v clsM ((List.range N).map (mrow l N)) ac) => rof_any v clsM ((List.range N).map (mrow l N)) ac W hD (by decide) (by simp; omega) (by omega) (fun r hr => by obtain ⟨s, _, rfl⟩ := List.mem_map.1 hr; simp [mrow]) (by simp; omega))
  clear hT hg hv hb hN
  go_enter Tryd.func3, Tryd.ntmps3
  go_wp2_with fail
  refine HS.out.mono ?_
  rintro e w1 ⟨rfl, hb1'⟩
  go_wp2_with fail
  refine (HMa.out _ hb1').mono ?_
  rintro e w2 ⟨⟨v, rfl, hO⟩, hb2'⟩
  have hbw2 := below_two hb1' hb2'
  have hw1 : w.heap.size ≤ w1.heap.size := hb1'.size
  obtain ⟨B, q, p1, k1, p2, k2, vs, rfl, hq0, hq, hvs, Q, O1, O2, hr, hap⟩ := hO
  clear HS HMa hb1' hb2'
  have hqw : q < w2.heap.size := Q.lt
  have D0 := Blk.new w2 #[.slice (some ⟨q, 0, none⟩) 3 3, .slice p1 N k1, .slice p2 N k2] 28
  have hal := below_alloc1 w2 (.cells #[.slice (some ⟨q, 0, none⟩) 3 3, .slice p1 N k1, .slice p2 N k2] 28)
  have hbw3 := hbw2.trans (hal.mono hbw2.size)
  have HVs := Lib.hid hvs
  have HO1 := Lib.hid (own_below O1 hal)
  have HO2 := Lib.hid (own_below O2 hal)
  have HRw := Lib.hid (show RowsM (w2.alloc (.cells #[.slice (some ⟨q, 0, none⟩) 3 3, .slice p1 N k1, .slice p2 N k2] 28)) B l N (.slice p1 N k1) (.slice p2 N k2) vs from fun i x hx => ⟨own_below (hr i x hx).1 hal, (hr i x hx).2⟩)
  have HQ := Lib.hid (Q.grows hal)
  have HAp := Lib.hid hap
  have HLt := Lib.hid (own_lt O2)
  have HL1 := Lib.hid (own_lt O1)
  have HLr := Lib.hid (fun i x (hx : vs[i]? = some x) => own_lt (hr i x hx).1)
  have hwl : w2.heap.size < (w2.alloc (.cells #[.slice (some ⟨q, 0, none⟩) 3 3, .slice p1 N k1, .slice p2 N k2] 28)).heap.size := D0.lt
  clear hvs Q O1 O2 hr hap hal
  cases y
  · go_wp2_with fail
    generalize (w2.alloc (.cells #[.slice (some ⟨q, 0, none⟩) 3 3, .slice p1 N k1, .slice p2 N k2] 28)) = W3 at D0 hbw3 HO1 HO2 HRw HQ hwl ⊢
    have M1 := own_isM (own_cast HO1.out HVs.out.symm rfl) HRw.out
    rw [HVs.out] at M1
    have HD : IsD W3 (.agg #[.slice (some ⟨q, 0, none⟩) 3 3, .slice p1 N k1, .slice p2 N k2]) clsM ((List.range N).map (mrow l N)) ((List.range N).map (macc l)) := ⟨_, _, _, rfl, isC_m HQ.out, M1, own_isB (own_cast HO2.out (by simp) rfl)⟩
    clear M1 HO1 HO2 HRw HQ HAp
    refine (HOf.out W3 hbw3 _ ((List.range N).map (macc l)) (by simp; omega) HD).mono ?_
    rintro e w4 ⟨hr, hb⟩
    obtain ⟨uh, uc, up, uk, uq, uj, un, rfl, uR, ul, um, G0⟩ := opres_any hr
    have D1 := D0.grows hb
    have HDw := Lib.hid (HD.grows hb)
    have hbw4 := below_two hbw3 hb
    have d0 := D1.cell 0 rfl
    have d1 := D1.cell 1 rfl
    have d2 := D1.cell 2 rfl
    have dl : w2.heap.size < w4.heap.size := D1.lt
    have HG0 := Lib.hid G0
    clear HD hr hb G0
    go_wp2_with fail
    have hal4 := below_alloc1 w4 (.cells #[.slice up uh.length uk, .slice uq uc.length uj] 31)
    have C1 := Blk.new w4 #[.slice up uh.length uk, .slice uq uc.length uj] 31
    have D2 := D1.grows hal4
    have HG1 := Lib.hid (HG0.out.grows hal4)
    have HD1 := HDw.out.grows hal4
    have hbw5 := hbw4.trans (hal4.mono hbw4.size)
    clear d0 d1 d2 D1 HG0 HDw hal4
    generalize w4.alloc (.cells #[.slice up uh.length uk, .slice uq uc.length uj] 31) = w5 at C1 D2 HG1 HD1 hbw5 ⊢
    refine (HRf.out w5 _ ((List.range N).map (macc l)) (by simp; omega) HD1).mono ?_
    rintro e w6 ⟨hr, hb⟩
    obtain ⟨th, tc, tp, tk, tq, tj, tn, rfl, tR, tl, tm, G0⟩ := opres_any hr
    obtain ⟨e1, e2, e3⟩ := Res.unique uR.out tR.out
    subst e1
    subst e2
    subst e3
    have C2 := C1.grows hb
    have c0 := C2.cell 0 rfl
    have c1 := C2.cell 1 rfl
    have cl : w4.heap.size < w6.heap.size := C2.lt
    have HG2 := Lib.hid (HG1.out.grows hb)
    have HG3 := Lib.hid G0
    have hbw6 := below_two hbw5 hb
    have hsm : sameS uh uc uh uc = true := (sameS_iff _ _ _ _).2 ⟨rfl, rfl⟩
    have HSm := Lib.hid (fun W (hW : Below w6.heap.size w6 W) => hsm ▸ same_any _ _ uh uc uh uc W (HG2.out.grows hW) (HG3.out.grows hW) (by omega) (by omega) (by omega) (by omega))
    clear hr hb G0 C1 D2 HG1 HD1 hsm uR tR
    have hbw7 := hbw6.alloc hbw6.size (.cells #[.slice tp uh.length tk, .slice tq uc.length tj] 31)
    go_wp2_with (go_at_call 8; ((with_reducible refine (HSm.out _ (below_alloc1 w6 _)).mono ?_)); rintro e w8 ⟨rfl, hb8⟩)
    go_ret
    exact ⟨rfl, below_two hbw7 hb8⟩
  · have hN9 : N + 1 ≤ 1000 := by omega
    have HSn := Lib.hid (show ((List.range N).map (macc l)).map Value.bool ++ [Value.bool true] = (((List.range N).map (macc l)) ++ [true]).map Value.bool by rw [List.map_append]; rfl)
    have d2 := D0.cell 2 rfl
    have hdx := Lib.hid (show ∀ b, (Value.slice p2 N k2).ownBlock = some b → b ≠ w2.heap.size from fun b e e2 => by have := HLt.out b e; omega)
    have HO3 := Lib.hid (own_mono HO2.out (show q + 1 ≤ B by omega))
    have hqs : q + 1 ≤ w2.heap.size := by omega
    have A0 := below_alloc1 (w2.alloc (.cells #[.slice (some ⟨q, 0, none⟩) 3 3, .slice p1 N k1, .slice p2 N k2] 28)) (.cells #[.bool true] 4)
    have HO4 := Lib.hid (own_below HO3.out A0)
    have M0 := Lib.hid (show RowsM ((w2.alloc (.cells #[.slice (some ⟨q, 0, none⟩) 3 3, .slice p1 N k1, .slice p2 N k2] 28)).alloc (.cells #[.bool true] 4)) B l N (.slice p1 N k1) (.slice p2 N k2) vs from fun i x hx => ⟨own_below (HRw.out i x hx).1 A0, (HRw.out i x hx).2⟩)
    have P0 := Lib.hid (own_below HO1.out A0)
    have Q0 := Lib.hid (HQ.out.grows A0)
    have E0 := D0.grows A0
    have hbw4' := hbw3.trans (A0.mono hbw3.size)
    clear HO1 HO2 HO3 HRw HQ A0
    go_wp2_with (at_builtin; refine wpList_append_own_at _ rfl _ _ 26 rfl (q + 1) 4 ib _ 1 1 Tryd.underlying26 hib hb0 hb1 hb2 rfl (by decide) _ _ _ rfl HO4.out ⟨w2.heap.size + 1, 0, none⟩ 1 1 [.bool true] rfl rfl (cells_newB _ _ _ _ (by simp)) (bool_one true) (by unfold maxLen; omega) (by omega) (by simp; omega) ?_; intro v' w6 hown2 hgrow _ hat; obtain ⟨p6, k6, rfl⟩ := own_shape hown2; have hge := own_ge HO4.out; have E6 := E0.grownBy hgrow (fun b e => hdx.out b e); have f6 := E6.free 2; have e6 := E6.cell 2 rfl; have e0 := E6.cell 0 rfl; have e1 := E6.cell 1 rfl)
    have hAp := HAp.out
    have HW : w2.heap.size + 1 < ((w2.alloc (.cells #[.slice (some ⟨q, 0, none⟩) 3 3, .slice p1 N k1, .slice p2 N k2] 28)).alloc (.cells #[.bool true] 4)).heap.size := by simp
    have hb6 : w.heap.size ≤ w2.heap.size := hbw2.size
    have Q7 := (Q0.out.grownBy hgrow (fun b e => by have := own_ge HO4.out b e; omega)).other (a := ⟨w2.heap.size, 2, none⟩) (by show q ≠ w2.heap.size; omega) (.slice p6 (N + 1) k6)
    have P7 := own_other (own_grown P0.out hgrow (fun b e1 e2 => hAp b e2 e1)) (a := ⟨w2.heap.size, 2, none⟩) (fun b e => by have := HL1.out b e; show w2.heap.size ≠ b; omega) (.slice p6 (N + 1) k6)
    have M7 : RowsM (w6.setCell ⟨w2.heap.size, 2, none⟩ (.slice p6 (N + 1) k6)) B l N (.slice p1 N k1) (.slice p2 N k2) vs := fun i x hx => ⟨own_other (own_grown (M0.out i x hx).1 hgrow (fun b e1 e2 => (M0.out i x hx).2.2 b e2 e1)) (a := ⟨w2.heap.size, 2, none⟩) (fun b e => by have := HLr.out i x hx b e; show w2.heap.size ≠ b; omega) _, (M0.out i x hx).2⟩
    have O7 := own_other hown2 (a := ⟨w2.heap.size, 2, none⟩) (fun b e => by
      show w2.heap.size ≠ b
      rcases hat with h | h
      · rw [h] at e; have := HLt.out b e; omega
      · rw [h] at e; have h9 := Option.some.inj e; omega) (.slice p6 (N + 1) k6)
    have D7 := E6.set 2 (.slice p6 (N + 1) k6)
    have hbw7 := (hbw4'.grown hgrow (by have h8 := hbw4'.size; omega) (fun b e => by have h9 := own_ge HO4.out b e; omega)).setCell (p := ⟨w2.heap.size, 2, none⟩) (by show w.heap.size ≤ w2.heap.size; omega) (.slice p6 (N + 1) k6)
    have hAc := own_isB (l := ((List.range N).map (macc l)) ++ [true]) (own_cast O7 (by simp) HSn.out)
    have M1 := own_isM (own_cast P7 HVs.out.symm rfl) M7
    rw [HVs.out] at M1
    have HD : IsD (w6.setCell ⟨w2.heap.size, 2, none⟩ (.slice p6 (N + 1) k6)) (.agg #[.slice (some ⟨q, 0, none⟩) 3 3, .slice p1 N k1, .slice p6 (N + 1) k6]) clsM ((List.range N).map (mrow l N)) (((List.range N).map (macc l)) ++ [true]) := ⟨_, _, _, rfl, isC_m Q7, M1, hAc⟩
    clear M1 hAc HO4 Q0 P0 M0 E0 E6 Q7 P7 M7 O7 hgrow hat hown2 e0 e1 e6 f6 HAp HSn HLt HL1 HLr hdx hAp HW hbw4' hge
    generalize w6.setCell ⟨w2.heap.size, 2, none⟩ (.slice p6 (N + 1) k6) = W3 at D7 hbw7 HD ⊢
    have D0 := D7
    refine (HOf.out W3 hbw7 _ (((List.range N).map (macc l)) ++ [true]) (by simp; omega) HD).mono ?_
    rintro e w4 ⟨hr, hb⟩
    obtain ⟨uh, uc, up, uk, uq, uj, un, rfl, uR, ul, um, G0⟩ := opres_any hr
    have D1 := D0.grows hb
    have HDw := Lib.hid (HD.grows hb)
    have hbw4 := below_two hbw7 hb
    have d0 := D1.cell 0 rfl
    have d1 := D1.cell 1 rfl
    have d2 := D1.cell 2 rfl
    have dl : w2.heap.size < w4.heap.size := D1.lt
    have HG0 := Lib.hid G0
    clear HD hr hb G0
    go_wp2_with fail
    have hal4 := below_alloc1 w4 (.cells #[.slice up uh.length uk, .slice uq uc.length uj] 31)
    have C1 := Blk.new w4 #[.slice up uh.length uk, .slice uq uc.length uj] 31
    have D2 := D1.grows hal4
    have HG1 := Lib.hid (HG0.out.grows hal4)
    have HD1 := HDw.out.grows hal4
    have hbw5 := hbw4.trans (hal4.mono hbw4.size)
    clear d0 d1 d2 D1 HG0 HDw hal4
    generalize w4.alloc (.cells #[.slice up uh.length uk, .slice uq uc.length uj] 31) = w5 at C1 D2 HG1 HD1 hbw5 ⊢
    refine (HRf.out w5 _ (((List.range N).map (macc l)) ++ [true]) (by simp; omega) HD1).mono ?_
    rintro e w6 ⟨hr, hb⟩
    obtain ⟨th, tc, tp, tk, tq, tj, tn, rfl, tR, tl, tm, G0⟩ := opres_any hr
    obtain ⟨e1, e2, e3⟩ := Res.unique uR.out tR.out
    subst e1
    subst e2
    subst e3
    have C2 := C1.grows hb
    have c0 := C2.cell 0 rfl
    have c1 := C2.cell 1 rfl
    have cl : w4.heap.size < w6.heap.size := C2.lt
    have HG2 := Lib.hid (HG1.out.grows hb)
    have HG3 := Lib.hid G0
    have hbw6 := below_two hbw5 hb
    have hsm : sameS uh uc uh uc = true := (sameS_iff _ _ _ _).2 ⟨rfl, rfl⟩
    have HSm := Lib.hid (fun W (hW : Below w6.heap.size w6 W) => hsm ▸ same_any _ _ uh uc uh uc W (HG2.out.grows hW) (HG3.out.grows hW) (by omega) (by omega) (by omega) (by omega))
    clear hr hb G0 C1 D2 HG1 HD1 hsm uR tR
    have hbw7 := hbw6.alloc hbw6.size (.cells #[.slice tp uh.length tk, .slice tq uc.length tj] 31)
    go_wp2_with (go_at_call 8; ((with_reducible refine (HSm.out _ (below_alloc1 w6 _)).mono ?_)); rintro e w8 ⟨rfl, hb8⟩)
    go_ret
    exact ⟨rfl, below_two hbw7 hb8⟩
end Go.Proofs.YtepncbbegpeilaaDoor
