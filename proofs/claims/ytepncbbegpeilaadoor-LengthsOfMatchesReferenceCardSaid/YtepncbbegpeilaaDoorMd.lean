/-
  Walks: the reference's Made: a valid set out of any.
-/
import Derived.Test.YtepncbbegpeilaaDoorPa
import Derived.Test.YtepncbbegpeilaaDoorCo
import Derived.Deep.RegionLaw
import Derived.Deep.AppendLies
set_option linter.unusedSimpArgs false
set_option linter.unusedVariables false
namespace Go.Proofs.YtepncbbegpeilaaDoor
open Go.RowKit

/-- an empty cycle becomes a false one. -/
def cycOf : List Bool → List Bool
  | [] => [false]
  | b :: l => b :: l
theorem cycOf_nil {l : List Bool} (h : l.length = 0) : cycOf l = [false] := by rw [List.length_eq_zero_iff.1 h]; rfl
theorem cycOf_pos {l : List Bool} (h : 0 < l.length) : cycOf l = l := by cases l with
  | nil => simp at h
  | cons b l => rfl
theorem cycOf_len (l : List Bool) : 0 < (cycOf l).length ∧ (cycOf l).length ≤ max 1 l.length := by
  cases l with
  | nil => simp [cycOf]
  | cons b l => simp [cycOf]
theorem cells_newB (W : World) (a : Value) (t : TypeId) (m : Nat) (hm : m = W.heap.size) : ∀ j u, [a][j]? = some u → (W.alloc (.cells #[a] t)).cell? ((⟨m, 0, none⟩ : Addr).add j) = some u := by
  subst hm; exact cells_new1 W a t
theorem bool_one (b : Bool) : ∀ u ∈ [Value.bool b], u.oneCell' = true := by intro u hu; simp at hu; subst hu; rfl
theorem take_snocB {l : List Bool} {k : Nat} (hk : k < l.length) : l.take (k + 1) = l.take k ++ [l.getD k false] := by
  rw [List.take_succ_eq_append_getElem hk, List.getD_eq_getElem?_getD, List.getElem?_eq_getElem hk]; rfl
theorem take_same {l : List Bool} {k n : Nat} (h1 : k ≤ l.length) (h2 : k ≤ n) (h : k = n ∨ k = l.length) : l.take k = l.take n := by
  rcases h with rfl | rfl
  · rfl
  · rw [List.take_length, List.take_of_length_le h2]

end Go.Proofs.YtepncbbegpeilaaDoor
