/-
  Walk: Holds.
-/
import Derived.Test.YtmhhfommgdljkaaVc
set_option linter.unusedSimpArgs false
set_option linter.unusedVariables false
namespace Go.Proofs.Ytmhhfommgdljkaa
open Go.RowKit Go.Lib

theorem dot_take : ∀ {A x : List Int} {k : Nat} {a y : Int}, A[k]? = some a → x[k]? = some y → dot (A.take (k + 1)) x = dot (A.take k) x + a * y
  | [], _, _, _, _, h, _ => by simp at h
  | _ :: _, [], _, _, _, _, h => by simp at h
  | b :: A, z :: x, 0, a, y, h1, h2 => by simp at h1 h2; subst h1; subst h2; simp [dot]
  | b :: A, z :: x, k + 1, a, y, h1, h2 => by
    simp only [List.take_succ_cons, dot]
    rw [dot_take (by simpa using h1) (by simpa using h2)]; omega
theorem mul_bound {a y : Int} (h : -1048576 ≤ a ∧ a ≤ 1048576) (k : -1048576 ≤ y ∧ y ≤ 1048576) : -1099511627776 ≤ a * y ∧ a * y ≤ 1099511627776 := by
  rcases Int.le_total 0 a with h0 | h0
  · have h1 := Int.mul_le_mul_of_nonneg_left k.2 h0
    have h2 := Int.mul_le_mul_of_nonneg_left k.1 h0
    omega
  · have h1 := Int.mul_le_mul_of_nonpos_left h0 k.2
    have h2 := Int.mul_le_mul_of_nonpos_left h0 k.1
    omega
theorem dot_bound : ∀ {A x : List Int} {k : Nat}, (∀ a ∈ A, -1048576 ≤ a ∧ a ≤ 1048576) → (∀ y ∈ x, -1048576 ≤ y ∧ y ≤ 1048576) → -(1099511627776 * (k : Int)) ≤ dot (A.take k) x ∧ dot (A.take k) x ≤ 1099511627776 * (k : Int)
  | [], _, _, _, _ => by simp [dot]; omega
  | _ :: _, [], _, _, _ => by simp [dot]; omega
  | b :: A, z :: x, 0, _, _ => by simp [dot]
  | b :: A, z :: x, k + 1, h1, h2 => by
    simp only [List.take_succ_cons, dot]
    have q := mul_bound (h1 b (by simp)) (h2 z (by simp))
    have ih := dot_bound (A := A) (x := x) (k := k) (fun a ha => h1 a (by simp [ha])) (fun y hy => h2 y (by simp [hy]))
    push_cast
    omega
set_option maxRecDepth 100000 in
set_option maxHeartbeats 2000000 in
theorem holds_any (u v : Value) (r : Rw) (x : List Int) (w : World) (hu : IsI w u r.A) (hv : IsI w v x) (hl : r.A.length ≤ 1000) (hx : x.length ≤ 1000) :
    Calls Try.prog 13 #[.agg #[u, .int .i64 r.C], v] w fun e w' => e = .returned (.bool (holdsB r x)) ∧ Below w.heap.size w w' := by
  obtain ⟨p, cp, rfl, hcp⟩ := hu.shape
  obtain ⟨q, cq, rfl, hcq⟩ := hv.shape
  have HU := Lib.hid (fun W (hW : Below w.heap.size w W) => hu.grows hW)
  have HV := Lib.hid (fun W (hW : Below w.heap.size w W) => hv.grows hW)
  clear hu hv
  by_cases c1 : r.A.length = x.length
  · have d1 : ((r.A.length : Int) != (x.length : Int)) = false := by rw [c1]; simp
    by_cases c2 : x.length ≤ 12
    · have HE := Lib.hid (show holdsB r x = (withinB r 1048576 && (x.all (inside 1048576) && decide (0 ≤ val r x))) by unfold holdsB; rw [decide_eq_true ⟨c1, c2⟩, Bool.true_and])
      have HL := Lib.hid c1
      clear c1
      have d2 : decide ((12 : Int) < (x.length : Int)) = false := by rw [decide_eq_false_iff_not]; omega
      have HB1 := Lib.hid (fun W hW => within_any (.slice p r.A.length cp) r 1048576 W (HU.out W hW) (by omega) (by omega))
      have HB2 := Lib.hid (fun W hW => within_any (.slice q x.length cq) ⟨x, 0⟩ 1048576 W (HV.out W hW) (show x.length ≤ 140737488351232 by omega) (by omega))
      have hbw1 : Below w.heap.size w (w.alloc (.cells #[.slice p r.A.length cp, .int .i64 r.C] 37)) := by go_grown
      have D1 := Blk.new w #[.slice p r.A.length cp, .int .i64 r.C] 37
      have HW1 := Lib.hid hbw1
      clear hbw1
      cases hb1 : withinB r 1048576 with
      | false =>
        have HF := Lib.hid (show holdsB r x = false by rw [HE.out, hb1, Bool.false_and])
        have HY := Lib.hid hb1
        clear hb1
        go_enter Try.func13, Try.ntmps13
        go_wp2_with fail
        refine (HB1.out _ HW1.out).mono ?_
        rintro e w2 ⟨rfl, hb2⟩
        rw [HY.out]
        have HB := Lib.hid (below_two HW1.out hb2)
        clear hb2
        go_wp2
        go_ret
        exact ⟨ret_bool HF.out.symm, HB.out⟩
      | true =>
        have HE2 := Lib.hid (show holdsB r x = (x.all (inside 1048576) && decide (0 ≤ val r x)) by rw [HE.out, hb1, Bool.true_and])
        have HY := Lib.hid hb1
        clear hb1 HE
        cases hb2 : x.all (inside 1048576) with
        | false =>
          have HF := Lib.hid (show holdsB r x = false by rw [HE2.out, hb2, Bool.false_and])
          have HY2 := Lib.hid (show withinB ⟨x, 0⟩ 1048576 = false by unfold withinB; rw [hb2]; rfl)
          clear hb2
          go_enter Try.func13, Try.ntmps13
          go_wp2_with fail
          refine (HB1.out _ HW1.out).mono ?_
          rintro e w2 ⟨rfl, hb2⟩
          rw [HY.out]
          have HB := Lib.hid (below_two HW1.out hb2)
          clear hb2
          go_wp2_with fail
          refine (HB2.out _ HB.out).mono ?_
          rintro e w3 ⟨rfl, hb3⟩
          rw [HY2.out]
          have HB3 := Lib.hid (below_two HB.out hb3)
          clear hb3
          go_wp2
          go_ret
          exact ⟨ret_bool HF.out.symm, HB3.out⟩
        | true =>
          have HE3 := Lib.hid (show holdsB r x = decide (0 ≤ val r x) by rw [HE2.out, hb2, Bool.true_and])
          have HY2 := Lib.hid (show withinB ⟨x, 0⟩ 1048576 = true by unfold withinB; rw [hb2]; rfl)
          have hxs : ∀ y ∈ x, -1048576 ≤ y ∧ y ≤ 1048576 := fun y hy => inside_iff.1 (List.all_eq_true.1 hb2 y hy)
          have hAs := within_iff.1 HY.out
          have HXs := Lib.hid hxs
          have HAs := Lib.hid hAs.1
          obtain ⟨hC1, hC2⟩ := hAs.2
          clear hb2 hxs hAs
          go_enter Try.func13, Try.ntmps13
          go_wp2_with fail
          refine (HB1.out _ HW1.out).mono ?_
          rintro e w2 ⟨rfl, hb2⟩
          rw [HY.out]
          have D2 := D1.grows hb2
          have HB := Lib.hid (below_two HW1.out hb2)
          clear hb2 D1
          go_wp2_with fail
          refine (HB2.out _ HB.out).mono ?_
          rintro e w3 ⟨rfl, hb3⟩
          rw [HY2.out]
          have D3 := D2.grows hb3
          have HB3 := Lib.hid (below_two HB.out hb3)
          clear hb3 D2
          have e0 := D3.cell 0 rfl
          have e1 := D3.cell 1 rfl
          clear D3 d1 d2
          go_wp2
          go_loop [5, 35] (fun sv kv => ∃ k : Nat, k ≤ r.A.length ∧ kv = .int .i64 k ∧ sv = .int .i64 (r.C + dot (r.A.take k) x)) (fun _ kv => r.A.length - (RowKit.intOf kv).toNat)
          case atStart => exact ⟨0, Nat.zero_le _, rfl, by simp [dot]⟩
          case round =>
            obtain ⟨k, hk, rfl, rfl⟩ := hrel
            have hdb := dot_bound (k := k) HAs.out HXs.out
            obtain ⟨hdb1, hdb2⟩ := hdb
            have hkk : k ≤ 12 := by have := HL.out; omega
            by_cases hlt : k < r.A.length
            · obtain ⟨a, ha⟩ := get_of_lt hlt
              have hlt2 : k < x.length := by have := HL.out; omega
              obtain ⟨y, hy⟩ := get_of_lt hlt2
              obtain ⟨b1, o1, rfl, cx⟩ := (HU.out _ HB3.out).at ha
              obtain ⟨b2, o2, rfl, cy⟩ := (HV.out _ HB3.out).at hy
              have HS := Lib.hid (dot_take ha hy)
              have hm := mul_bound (HAs.out a (List.mem_of_getElem? ha)) (HXs.out y (List.mem_of_getElem? hy))
              obtain ⟨hm1, hm2⟩ := hm
              clear ha hy
              generalize dot (r.A.take k) x = S at hdb1 hdb2 HS ⊢
              have hw1 : IntKind.i64.wrap (a * y) = a * y := IntWalk.i64_in _ (by omega)
              go_wp2
              go_round
              case rel => exact ⟨k + 1, by omega, by go_num, by rw [HS.out]; go_num⟩
              case measure => simp [RowKit.intOf]; omega
            · have HF := Lib.hid (show holdsB r x = decide (0 ≤ r.C + dot (r.A.take k) x) by rw [HE3.out]; unfold val; rw [List.take_of_length_le (by omega)])
              generalize dot (r.A.take k) x = S at hdb1 hdb2 HF ⊢
              obtain rfl : k = r.A.length := by omega
              go_wp2
              go_ret
              exact ⟨ret_bool HF.out.symm, HB3.out⟩
    · have HF := Lib.hid (show holdsB r x = false by unfold holdsB; rw [decide_eq_false (fun h => c2 h.2), Bool.false_and])
      clear c1
      have d2 : decide ((12 : Int) < (x.length : Int)) = true := by rw [decide_eq_true_iff]; omega
      go_enter Try.func13, Try.ntmps13
      go_wp2
      go_ret
      exact ⟨ret_bool HF.out.symm, by go_grown⟩
  · have HF := Lib.hid (show holdsB r x = false by unfold holdsB; rw [decide_eq_false (fun h => c1 h.1), Bool.false_and])
    have d1 : ((r.A.length : Int) != (x.length : Int)) = true := by rw [bne_iff_ne]; omega
    clear c1
    go_enter Try.func13, Try.ntmps13
    go_wp2
    go_ret
    exact ⟨ret_bool HF.out.symm, by go_grown⟩
end Go.Proofs.Ytmhhfommgdljkaa
