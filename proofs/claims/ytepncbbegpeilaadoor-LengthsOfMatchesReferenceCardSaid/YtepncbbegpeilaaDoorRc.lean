/-
  Walks: the reference's combined.
-/
import Derived.Test.YtepncbbegpeilaaDoorBd
set_option linter.unusedSimpArgs false
set_option linter.unusedVariables false
namespace Go.Proofs.YtepncbbegpeilaaDoor
open Go.RowKit Go.Lib

/-- what the reference's Shortest does with any set of a bounded size. -/
def AllShort : Prop := ∀ v h c w, IsSet w v h c → 0 < c.length → h.length + c.length ≤ 1048576 → ShortOf (atL h c) w v
theorem tab_at {F : Nat → Bool} {P N : Nat} (hF : From F P N) (hP : 0 < P) : atL ((List.range N).map F) ((List.range P).map fun i => F (N + i)) = F := by
  funext n
  unfold atL
  by_cases hn : n < N
  · rw [if_pos (by simpa using hn), List.getD_eq_getElem?_getD, List.getElem?_eq_getElem (by simpa using hn)]; simp
  · rw [if_neg (by simpa using hn)]
    have hm : (n - N) % P < P := Nat.mod_lt _ hP
    simp only [List.length_map, List.length_range]
    rw [List.getD_eq_getElem?_getD, List.getElem?_eq_getElem (by simpa using hm)]
    simp only [List.getElem_map, List.getElem_range, Option.getD_some]
    have key := hF.mul ((n - N) / P) (N + (n - N) % P) (by omega)
    rw [← key]; congr 1
    have := Nat.mod_add_div (n - N) P
    omega
theorem range_snocR (f : Nat → Bool) (n : Nat) : (List.range (n + 1)).map f = (List.range n).map f ++ [f n] := by rw [List.range_succ, List.map_append]; rfl

end Go.Proofs.YtepncbbegpeilaaDoor
