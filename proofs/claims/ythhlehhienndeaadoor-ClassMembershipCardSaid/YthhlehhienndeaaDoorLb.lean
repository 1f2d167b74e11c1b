/-
  The law on the inverse of Bytes: plain facts on the members of a class.
-/
import Derived.Test.YthhlehhienndeaaDoorZf
set_option linter.unusedSimpArgs false
set_option linter.unusedVariables false
namespace Go.Proofs.YthhlehhienndeaaDoor
open Go.RowKit Go.Shelf Go.Lib

theorem mem_ofL (l : List Int) (h : ∀ z ∈ l, 0 ≤ z ∧ z < 256) (j : Nat) : mem (ofL l) j = l.any fun z => decide (z.toNat = j) := by
  unfold ofL
  have main : ∀ (l : List Int) (c : BitVec 256), (∀ z ∈ l, 0 ≤ z ∧ z < 256) → mem (l.foldl (fun c b => c ||| bit b.toNat) c) j = (mem c j || l.any fun z => decide (z.toNat = j)) := by
    intro l
    induction l with
    | nil => intro c _; simp
    | cons z l ih =>
      intro c hl
      have hz := hl z (by simp)
      rw [List.foldl_cons, ih _ (fun y hy => hl y (List.mem_cons_of_mem _ hy)), mem_or, mem_bit _ _ (by omega), List.any_cons, Bool.or_assoc]
  rw [main l 0 h, mem_zero, Bool.false_or]
theorem mem_mems (x : BitVec 256) (z : Int) : z ∈ mems x 256 ↔ 0 ≤ z ∧ mem x z.toNat = true := by
  unfold mems
  simp only [List.mem_map, List.mem_filter, List.mem_range]
  constructor
  · rintro ⟨j, ⟨_, hm⟩, rfl⟩
    exact ⟨by omega, by simpa using hm⟩
  · rintro ⟨h0, hm⟩
    exact ⟨z.toNat, ⟨mem_lt hm, hm⟩, by omega⟩
theorem ofL_mems (x : BitVec 256) : ofL (mems x 256) = x := by
  apply mem_ext; intro j hj
  rw [mem_ofL _ (mems_byte x 256 (Nat.le_refl _))]
  apply Bool.eq_iff_iff.2
  rw [List.any_eq_true]
  constructor
  · rintro ⟨z, hz, he⟩
    have := (mem_mems x z).1 hz
    simp only [decide_eq_true_eq] at he
    rw [← he]; exact this.2
  · intro hm
    exact ⟨(j : Int), (mem_mems x _).2 ⟨by omega, by simpa using hm⟩, by simp⟩
theorem mems_incr (x : BitVec 256) : (mems x 256).Pairwise (· < ·) := by
  unfold mems
  rw [List.pairwise_map]
  exact (List.Pairwise.filter _ List.pairwise_lt_range).imp fun h => by omega
theorem mems_step (x : BitVec 256) (k : Nat) (y z : Int) (hy : (mems x 256)[k]? = some y) (hz : (mems x 256)[k + 1]? = some z) : y < z := by
  obtain ⟨h1, e1⟩ := List.getElem?_eq_some_iff.1 hy
  obtain ⟨h2, e2⟩ := List.getElem?_eq_some_iff.1 hz
  have := List.pairwise_iff_getElem.1 (mems_incr x) k (k + 1) h1 h2 (by omega)
  rw [e1, e2] at this; exact this
theorem mems_at (x : BitVec 256) (k : Nat) (y : Int) (hy : (mems x 256)[k]? = some y) : 0 ≤ y ∧ y < 256 ∧ hasI x y = true := by
  have h := List.mem_of_getElem? hy
  have h1 := (mem_mems x y).1 h
  exact ⟨h1.1, (mems_byte x 256 (Nat.le_refl _) y h).2, h1.2⟩
end Go.Proofs.YthhlehhienndeaaDoor
