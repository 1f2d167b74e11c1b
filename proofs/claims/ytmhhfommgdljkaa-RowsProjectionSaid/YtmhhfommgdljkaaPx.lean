/-
  Plain facts about made systems.
-/
import Derived.Test.YtmhhfommgdljkaaMx
set_option linter.unusedSimpArgs false
set_option linter.unusedVariables false
namespace Go.Proofs.Ytmhhfommgdljkaa
open Go.RowKit Go.Lib

theorem pts_small : ∀ {T : List Int}, (∀ t ∈ T, 0 ≤ t ∧ t ≤ 5) → 0 ≤ pts T ∧ pts T ≤ 6 ^ T.length
  | [], _ => by simp [pts]
  | t :: T, h => by
    obtain ⟨h1, h2⟩ := pts_small (T := T) fun t ht => h t (List.mem_cons_of_mem _ ht)
    obtain ⟨h3, h4⟩ := h t (List.mem_cons_self ..)
    have e : pts (t :: T) = (t + 1) * pts T := rfl
    rw [e, List.length_cons, Int.pow_succ]
    constructor
    · exact Int.mul_nonneg (by omega) h1
    · calc (t + 1) * pts T ≤ 6 * pts T := Int.mul_le_mul_of_nonneg_right (by omega) h1
        _ ≤ 6 * 6 ^ T.length := Int.mul_le_mul_of_nonneg_left h2 (by decide)
        _ = 6 ^ T.length * 6 := Int.mul_comm _ _
theorem valid_of {T : List Int} {R : List Rw} (h1 : 1 ≤ T.length) (h2 : T.length ≤ 4) (h3 : ∀ t ∈ T, 0 ≤ t ∧ t ≤ 5) (h4 : R.length ≤ 24) (h5 : ∀ r ∈ R, r.A.length = T.length ∧ (∀ a ∈ r.A, -1000 ≤ a ∧ a ≤ 1000) ∧ -1000 ≤ r.C ∧ r.C ≤ 1000) : validB ⟨T, R⟩ = true :=
  valid_iff.2 ⟨⟨h1, by show T.length ≤ 12; omega, h4⟩, fun t ht => by have := h3 t ht; omega, fun r hr => okRow_iff.2 ⟨(h5 r hr).1, within_iff.2 (h5 r hr).2⟩⟩
theorem small_of {T : List Int} (h2 : T.length ≤ 4) (h3 : ∀ t ∈ T, 0 ≤ t ∧ t ≤ 5) : smallB T = true := by
  unfold smallB
  rw [decide_eq_true_iff]
  obtain ⟨h4, h5⟩ := pts_small h3
  have : (6 : Int) ^ T.length ≤ 6 ^ 4 := by
    match T.length, h2 with
    | 0, _ => decide
    | 1, _ => decide
    | 2, _ => decide
    | 3, _ => decide
    | 4, _ => decide
  omega
theorem SmallR.big {r : Rw} {n : Nat} (h : r.A.length = n ∧ SmallR r) : r.A.length = n ∧ (∀ a ∈ r.A, -1000 ≤ a ∧ a ≤ 1000) ∧ -1000 ≤ r.C ∧ r.C ≤ 1000 :=
  ⟨h.1, fun a ha => by have := h.2.1 a ha; omega, by have := h.2.2; omega, by have := h.2.2; omega⟩
theorem SmallS.valid {m : Sy} (h : SmallS m) : validB m = true := valid_of h.pos h.len h.top (by have := h.rows; omega) fun r hr => SmallR.big (h.row r hr)
theorem SmallS.small {m : Sy} (h : SmallS m) : smallB m.T = true := small_of h.len h.top
/-- a row of a small system holds at a candidate point where its value is not negative. -/
theorem holds_small {r : Rw} {x T : List Int} (hr : r.A.length = T.length) (hs : SmallR r) (hT : T.length ≤ 4) (ht : ∀ t ∈ T, 0 ≤ t ∧ t ≤ 5) (hc : Cand T x) : holdsB r x = decide (0 ≤ val r x) := by
  unfold holdsB
  rw [decide_eq_true (show r.A.length = x.length ∧ x.length ≤ 12 from ⟨by rw [hr, hc.1], by rw [hc.1]; omega⟩), Bool.true_and,
    within_iff.2 ⟨fun a ha => by have := hs.1 a ha; omega, by have := hs.2; omega, by have := hs.2; omega⟩, Bool.true_and]
  rw [List.all_eq_true.2, Bool.true_and]
  intro y hy
  obtain ⟨i, hi⟩ := List.mem_iff_getElem?.1 hy
  obtain ⟨t, h⟩ := get_of_lt (show i < T.length by rw [← hc.1]; exact lt_of_get hi)
  have h1 := hc.2 i t y h hi
  have h2 := ht t (List.mem_of_getElem? h)
  exact inside_iff.2 (by omega)
theorem InBox.cand {y T : List Int} (h : InBox y T) (hl : y.length = T.length) : Cand T y := ⟨hl, fun i t a ht ha => h i a t ha ht⟩
/-- which rows hold at a point. -/
theorem sol_all {rs : List Rw} {x : List Int} (h : ∀ (j : Nat) (r : Rw), rs[j]? = some r → 0 ≤ val r x) : Sol rs x := fun r hr => by
  obtain ⟨j, hj⟩ := List.mem_iff_getElem?.1 hr
  exact h j r hj
end Go.Proofs.Ytmhhfommgdljkaa
