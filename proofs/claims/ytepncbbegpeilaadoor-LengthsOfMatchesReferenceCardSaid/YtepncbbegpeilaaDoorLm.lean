/-
  The law on least members: the walk.
-/
import Derived.Test.YtepncbbegpeilaaDoorLi
import Derived.Test.YtepncbbegpeilaaDoorRv
set_option linter.unusedSimpArgs false
set_option linter.unusedVariables false
namespace Go.Proofs.YtepncbbegpeilaaDoor
open Go.RowKit Go.Lib

/-- what Least returns, from a number of the searched ones on: the first member among the next ones, or -1 if there is none. -/
theorem firstFrom_some (f : Nat → Bool) : ∀ m k j, j < m → f (k + j) = true → (∀ i, i < j → f (k + i) = false) → firstFrom f k m = ((k + j : Nat) : Int)
  | 0, k, j, h, _, _ => by omega
  | m + 1, k, 0, _, h1, _ => by unfold firstFrom; rw [if_pos (by simpa using h1)]; rfl
  | m + 1, k, j + 1, h, h1, h2 => by
    have h0 := h2 0 (by omega)
    unfold firstFrom
    rw [if_neg (by rw [Nat.add_zero] at h0; rw [h0]; decide), firstFrom_some f m (k + 1) j (by omega) (by rw [← h1]; congr 1; omega) (fun i hi => by have := h2 (i + 1) (by omega); rw [← this]; congr 1; omega)]
    congr 1; omega
theorem firstFrom_none (f : Nat → Bool) : ∀ m k, (∀ i, i < m → f (k + i) = false) → firstFrom f k m = -1
  | 0, k, _ => rfl
  | m + 1, k, h => by
    have h0 := h 0 (by omega)
    unfold firstFrom
    rw [if_neg (by rw [Nat.add_zero] at h0; rw [h0]; decide)]
    exact firstFrom_none f m (k + 1) fun i hi => by have := h (i + 1) (by omega); rw [← this]; congr 1; omega
theorem leastS_found {h c : List Bool} {n : Int} {j : Nat} (ho : okLen h.length c.length = true) (hn : n ≤ 1099511627776) (hs : h.length + c.length ≤ 60) (hj : j < 60) (h1 : atL h c (n.toNat + j) = true) (h2 : ∀ i, i < j → atL h c (n.toNat + i) = false) : leastS h c n = ((n.toNat + j : Nat) : Int) := by
  unfold leastS
  rw [ho, decide_eq_true hn]
  show firstFrom _ _ _ = _
  obtain ⟨hc, -⟩ := okLen_pos ho
  have key : j < max n.toNat h.length + c.length - n.toNat := by
    rcases Nat.lt_or_ge j (max n.toNat h.length + c.length - n.toNat) with h3 | h3
    · exact h3
    · exfalso
      -- beyond: reduce by a cycle
      have h4 : h.length ≤ n.toNat + j - c.length := by omega
      have h5 := atL_add h c (n.toNat + j - c.length) hc h4
      rw [show n.toNat + j - c.length + c.length = n.toNat + j by omega, h1] at h5
      have h6 := h2 (j - c.length) (by omega)
      rw [show n.toNat + (j - c.length) = n.toNat + j - c.length by omega, ← h5] at h6
      cases h6
  exact firstFrom_some _ _ _ _ key h1 h2
theorem leastS_none {h c : List Bool} {n : Int} (ho : okLen h.length c.length = true) (hn : n ≤ 1099511627776) (hs : h.length + c.length ≤ 60) (h2 : ∀ i, i < 60 → atL h c (n.toNat + i) = false) : leastS h c n = -1 := by
  unfold leastS
  rw [ho, decide_eq_true hn]
  show firstFrom _ _ _ = _
  exact firstFrom_none _ _ _ fun i hi => h2 i (by omega)
theorem okLen_yes {h c : Nat} (h1 : 0 < c) (h2 : h + c ≤ 512) : okLen h c = true := decide_eq_true ⟨h1, h2⟩
end Go.Proofs.YtepncbbegpeilaaDoor
