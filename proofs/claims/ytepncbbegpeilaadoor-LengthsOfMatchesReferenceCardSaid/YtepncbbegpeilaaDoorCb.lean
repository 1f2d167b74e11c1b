/-
  A row of booleans that is filled one by one.
-/
import Derived.Test.YtepncbbegpeilaaDoorCo
import Derived.Test.YtepncbbegpeilaaDoorMu
import Derived.Deep.OwnRows
set_option linter.unusedSimpArgs false
set_option linter.unusedVariables false
namespace Go.Proofs.YtepncbbegpeilaaDoor
open Go.RowKit Go.Lib
open Go.Deep

/-- n booleans, the first k of them told by F, the others false. -/
def rowB (n k : Nat) (F : Nat → Bool) : Array Value := ((List.range n).map fun j => Value.bool (decide (j < k) && F j)).toArray
theorem rowB_size (n k : Nat) (F : Nat → Bool) : (rowB n k F).size = n := by simp [rowB]
theorem rowB_get (n k : Nat) (F : Nat → Bool) (j : Nat) (hj : j < n) : (rowB n k F)[j]? = some (.bool (decide (j < k) && F j)) := by
  simp [rowB, hj]
theorem rowB_set (n k : Nat) (F : Nat → Bool) : (rowB n k F).setIfInBounds k (.bool (F k)) = rowB n (k + 1) F := by
  apply Array.ext_getElem?
  intro j
  rw [Array.getElem?_setIfInBounds]
  by_cases hj : j < n
  · rw [rowB_get _ _ _ _ hj, rowB_get _ _ _ _ hj, rowB_size]
    by_cases e : k = j
    · subst e; simp [hj]
    · rw [if_neg e]
      have : decide (j < k) = decide (j < k + 1) := by rw [decide_eq_decide]; omega
      rw [this]
  · rw [Array.getElem?_eq_none (by rw [rowB_size]; omega), Array.getElem?_eq_none (by rw [rowB_size]; omega)]
    by_cases e : k = j
    · subst e; simp [rowB_size]; omega
    · rw [if_neg e]
theorem rowB_zero (n : Nat) (F : Nat → Bool) : madeCells #[.bool false] n = rowB n 0 F := by
  apply Array.ext_getElem?
  intro j
  by_cases hj : j < n
  · rw [rowB_get _ _ _ _ hj]
    simp [madeCells, hj, Nat.mod_one]
  · rw [Array.getElem?_eq_none (by simp [madeCells]; omega), Array.getElem?_eq_none (by rw [rowB_size]; omega)]
theorem rowB_reads {w : World} {g n : Nat} {F : Nat → Bool} {t : TypeId} (h : Blk w g (rowB n n F) t) : ReadsB w g 0 ((List.range n).map F) := by
  intro j hj
  have hj : j < n := by simpa using hj
  rw [Nat.zero_add]
  refine h.cell j ?_
  rw [rowB_get _ _ _ _ hj]
  simp [hj]
theorem range_getD (n : Nat) (F : Nat → Bool) (j : Nat) (hj : j < n) : ((List.range n).map F).getD j false = F j := by
  simp [List.getD_eq_getElem?_getD, hj]
end Go.Proofs.YtepncbbegpeilaaDoor
