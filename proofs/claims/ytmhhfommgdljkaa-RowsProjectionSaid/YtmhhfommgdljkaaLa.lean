/-
  The document's examples: plain values.
-/
import Derived.Test.YtmhhfommgdljkaaKl
import Derived.Test.YtmhhfommgdljkaaSo
set_option linter.unusedSimpArgs false
set_option linter.unusedVariables false
namespace Go.Proofs.Ytmhhfommgdljkaa
open Go.RowKit Go.Lib

def sysS : Sy := ⟨[3, 3], [⟨[1, 1], -4⟩, ⟨[1, -1], 0⟩]⟩
def sysT : Sy := ⟨[5], [⟨[2], -3⟩, ⟨[-2], 3⟩]⟩
def prfP : List Sp := [⟨2, [], 0, 2, 0, 0, 1, 0⟩, ⟨1, [0, 1, 0, 0, 2], 0, 0, 0, 0, 2, 0⟩, ⟨4, [], 0, 0, 0, 0, 0, 0⟩]
theorem valS : validB sysS = true := by decide
theorem valT : validB sysT = true := by decide
theorem smaS : smallB sysS.T = true := by decide
theorem smaT : smallB sysT.T = true := by decide
theorem valE : validB ⟨[], []⟩ = false := by decide
theorem val65 : validB ⟨[65], []⟩ = false := by decide
theorem valB : validB ⟨[64, 64, 4], []⟩ = true := by decide
theorem smaB : smallB [64, 64, 4] = false := by decide
theorem chkTP : checkB sysT prfP = true := by decide
theorem chkSP : checkB sysS prfP = false := by decide
theorem chkTP2 : checkB sysT (prfP.take 2) = false := by decide
theorem candS (x : List Int) : Cand sysS.T x ↔ ∃ a b, x = [a, b] ∧ 0 ≤ a ∧ a ≤ 3 ∧ 0 ≤ b ∧ b ≤ 3 := by
  constructor
  · intro ⟨h1, h2⟩
    match x, h1 with
    | [a, b], _ =>
      have e1 := h2 0 3 a rfl rfl
      have e2 := h2 1 3 b rfl rfl
      exact ⟨a, b, rfl, e1.1, e1.2, e2.1, e2.2⟩
  · rintro ⟨a, b, rfl, h1, h2, h3, h4⟩
    refine ⟨rfl, fun i t y ht hy => ?_⟩
    match i with
    | 0 => simp [sysS] at ht hy; omega
    | 1 => simp [sysS] at ht hy; omega
    | i + 2 => simp [sysS] at ht
theorem candT (x : List Int) : Cand sysT.T x ↔ ∃ a, x = [a] ∧ 0 ≤ a ∧ a ≤ 5 := by
  constructor
  · intro ⟨h1, h2⟩
    match x, h1 with
    | [a], _ =>
      have e1 := h2 0 5 a rfl rfl
      exact ⟨a, rfl, e1.1, e1.2⟩
  · rintro ⟨a, rfl, h1, h2⟩
    refine ⟨rfl, fun i t y ht hy => ?_⟩
    match i with
    | 0 => simp [sysT] at ht hy; omega
    | i + 1 => simp [sysT] at ht
theorem solS (a b : Int) : Sol sysS.R [a, b] ↔ 4 ≤ a + b ∧ b ≤ a := by
  unfold Sol sysS
  simp only [List.mem_cons, List.not_mem_nil, or_false, forall_eq_or_imp, forall_eq, val, dot]
  omega
theorem solT (a : Int) : ¬ Sol sysT.R [a] := by
  unfold Sol sysT
  simp only [List.mem_cons, List.not_mem_nil, or_false, forall_eq_or_imp, forall_eq, val, dot]
  omega
theorem leastS : Least sysS.R (wholeB sysS) [2, 2] := by
  refine ⟨cand_iff.2 ((candS _).2 ⟨2, 2, rfl, by omega, by omega, by omega, by omega⟩), (solS 2 2).2 (by omega), fun z hz hs => ?_⟩
  obtain ⟨a, b, rfl, h1, h2, h3, h4⟩ := (candS z).1 (cand_iff.1 hz)
  obtain ⟨h5, h6⟩ := (solS a b).1 hs
  simp only [lessB]
  by_cases e : a = 2
  · rw [if_pos e]
    by_cases e2 : b = 2
    · rw [if_pos e2]
    · rw [if_neg e2, decide_eq_false_iff_not]; omega
  · rw [if_neg e, decide_eq_false_iff_not]; omega
theorem noT : NoSol sysT.R (wholeB sysT) := fun z hz hs => by
  obtain ⟨a, rfl, -, -⟩ := (candT z).1 (cand_iff.1 hz)
  exact solT a hs
theorem takesS (y : Int) : Takes sysS 1 y ↔ 1 ≤ y ∧ y ≤ 3 := by
  constructor
  · rintro ⟨z, hz, hs, hy⟩
    obtain ⟨a, b, rfl, h1, h2, h3, h4⟩ := (candS z).1 hz
    obtain ⟨h5, h6⟩ := (solS a b).1 hs
    simp at hy
    omega
  · intro h
    exact ⟨[3, y], (candS _).2 ⟨3, y, rfl, by omega, by omega, by omega, by omega⟩, (solS 3 y).2 (by omega), rfl⟩
theorem takesT (y : Int) : ¬ Takes sysT 0 y := by
  rintro ⟨z, hz, hs, -⟩
  obtain ⟨a, rfl, -, -⟩ := (candT z).1 hz
  exact solT a hs
theorem solveS_any (v : Value) (w : World) (hv : IsS w v sysS) : Calls Try.prog 10 #[v] w fun e w' => ∃ u, e = .returned (.tuple #[u, .slice none 0 0, .bool true, .int .i64 0]) ∧ IsI w' u [2, 2] ∧ Below w.heap.size w w' := by
  refine (solve_any v sysS w hv valS smaS).mono fun e w' h => ?_
  obtain ⟨hb, ⟨x, u, hx, he, hI⟩ | ⟨hn, -⟩⟩ := h
  · obtain rfl := Least.unique hx leastS
    exact ⟨u, he, hI, hb⟩
  · exact absurd leastS.sol (hn _ leastS.inb)
theorem solveT_any (v : Value) (w : World) (hv : IsS w v sysT) : Calls Try.prog 10 #[v] w fun e w' => ∃ u N, e = .returned (.tuple #[.slice none 0 0, u, .bool false, .int .i64 0]) ∧ PfAt w.heap.size w' u N ∧ checkB sysT N = true ∧ Below w.heap.size w w' := by
  refine (solve_any v sysT w hv valT smaT).mono fun e w' h => ?_
  obtain ⟨hb, ⟨x, u, hx, -, -⟩ | ⟨-, u, N, he, hp, hc⟩⟩ := h
  · exact absurd hx.sol (noT _ hx.inb)
  · exact ⟨u, N, he, hp, hc, hb⟩
theorem projS_any (v : Value) (w : World) (hv : IsS w v sysS) : Calls Try.prog 18 #[v, .int .i64 1] w fun e w' => e = .returned (.tuple #[.int .i64 1, .int .i64 3, .bool true]) ∧ Below w.heap.size w w' := by
  refine (project_any sysS valS smaS v 1 3 w hv rfl).mono fun e w' h => ?_
  obtain ⟨⟨lo, hi, h1, h2, h3, he⟩ | ⟨h1, -⟩, hb⟩ := h
  · have e1 := (takesS lo).1 h1
    have e2 := (takesS hi).1 h2
    have e3 := h3 1 ((takesS 1).2 (by omega))
    have e4 := h3 3 ((takesS 3).2 (by omega))
    obtain rfl : lo = 1 := by omega
    obtain rfl : hi = 3 := by omega
    exact ⟨he, hb⟩
  · exact absurd ((takesS 1).2 (by omega)) (h1 1)
theorem projT_any (v : Value) (w : World) (hv : IsS w v sysT) : Calls Try.prog 18 #[v, .int .i64 0] w fun e w' => e = .returned (.tuple #[.int .i64 0, .int .i64 0, .bool false]) ∧ Below w.heap.size w w' := by
  refine (project_any sysT valT smaT v 0 5 w hv rfl).mono fun e w' h => ?_
  obtain ⟨⟨lo, hi, h1, -⟩ | ⟨-, he⟩, hb⟩ := h
  · exact absurd h1 (takesT lo)
  · exact ⟨he, hb⟩
end Go.Proofs.Ytmhhfommgdljkaa
