/-
  The law on the lengths of words: the walk.
-/
import Derived.Test.YtepncbbegpeilaaDoorMa
import Derived.Test.YtepncbbegpeilaaDoorLo
set_option linter.unusedSimpArgs false
set_option linter.unusedVariables false
namespace Go.Proofs.YtepncbbegpeilaaDoor
open Go.RowKit Go.Lib

theorem nodup_or_rep (f : Nat → Nat) : ∀ m, ((List.range m).map f).Nodup ∨ ∃ i H, i < m ∧ H < i ∧ f i = f H
  | 0 => .inl (by simp)
  | m + 1 => by
    rcases nodup_or_rep f m with h | ⟨i, H, h1, h2, h3⟩
    · by_cases hin : f m ∈ (List.range m).map f
      · obtain ⟨H, hH, e⟩ := List.mem_map.1 hin
        exact .inr ⟨m, H, by omega, List.mem_range.1 hH, e.symm⟩
      · refine .inl ?_
        rw [List.range_succ, List.map_append, List.nodup_append]
        exact ⟨h, by simp, fun a ha b hb e => hin (by simp at hb; subst hb; subst e; exact ha)⟩
    · exact .inr ⟨i, H, by omega, h2, h3⟩
/-- the sets of states repeat soon. -/
theorem seq_rep {tb : List Nat} {n : Nat} (hn : 0 < n) (hn8 : n ≤ 8) (h : ∀ q, q < tb.length → tb.getD q 0 < 2 ^ n) : ∃ i H, i ≤ 256 ∧ H < i ∧ seqBits tb i = seqBits tb H := by
  rcases nodup_or_rep (seqBits tb) 257 with h1 | ⟨i, H, h1, h2, h3⟩
  · have h2 := distinct_le h1 (m := 2 ^ n) (fun x hx => by obtain ⟨j, _, rfl⟩ := List.mem_map.1 hx; exact seqBits_lt hn h j)
    have h3 : 2 ^ n ≤ 2 ^ 8 := Nat.pow_le_pow_right (by decide) hn8
    simp at h2
    omega
  · exact ⟨i, H, by omega, h2, h3⟩
/-- is some state of R below S accepting? -/
def accP (R : Nat) (ac : List Bool) (S : Nat) : Bool := (List.range S).any fun s => R.testBit s && ac.getD s false
/-- is t reached from some state of R below S? -/
def nextP (tb : List Nat) (R S t : Nat) : Bool := (List.range S).any fun q => R.testBit q && (tb.getD q 0).testBit t
theorem accP_succ (R : Nat) (ac : List Bool) (S : Nat) : accP R ac (S + 1) = (accP R ac S || (R.testBit S && ac.getD S false)) := by
  unfold accP; rw [List.range_succ, List.any_append]; simp
theorem nextP_succ (tb : List Nat) (R S t : Nat) : nextP tb R (S + 1) t = (nextP tb R S t || (R.testBit S && (tb.getD S 0).testBit t)) := by
  unfold nextP; rw [List.range_succ, List.any_append]; simp
theorem nextP_all (tb : List Nat) (R t : Nat) : nextP tb R tb.length t = (stepBits tb R).testBit t := (stepBits_bit tb R t).symm
theorem accP_all (tb : List Nat) (ac : List Bool) (n k : Nat) : accP (seqBits tb k) ac n = accN tb (accBits ac n) k := by
  unfold accN
  generalize seqBits tb k = R
  rw [Bool.eq_iff_iff]
  unfold accP
  rw [List.any_eq_true, decide_eq_true_iff]
  constructor
  · rintro ⟨s, hs, h⟩ h0
    rw [Bool.and_eq_true] at h
    have h1 : (R &&& accBits ac n).testBit s = true := by
      rw [Nat.testBit_and, h.1, accBits_bit, decide_eq_true (List.mem_range.1 hs), h.2]; rfl
    rw [h0, Nat.zero_testBit] at h1; cases h1
  · intro h0
    have h1 : ∃ s, (R &&& accBits ac n).testBit s = true := by
      apply Classical.byContradiction
      intro hno
      apply h0
      apply Nat.eq_of_testBit_eq
      intro s
      rw [Nat.zero_testBit]
      cases hc : (R &&& accBits ac n).testBit s
      · rfl
      · exact absurd ⟨s, hc⟩ hno
    obtain ⟨s, hs⟩ := h1
    rw [Nat.testBit_and, accBits_bit, Bool.and_eq_true, Bool.and_eq_true, decide_eq_true_iff] at hs
    exact ⟨s, List.mem_range.2 hs.2.1, by rw [hs.1, hs.2.2]; rfl⟩
theorem rowBits_take_bit (r : List Int) (C : Nat) (x : Int) (h : r[C]? = some x) (t : Nat) : (rowBits (r.take (C + 1))).testBit t = ((rowBits (r.take C)).testBit t || decide (x.toNat = t)) := by
  rw [rowBits_take h, Nat.testBit_or, testBit_pow]
/-- the made automaton is valid. -/
theorem machine_valid (l : List Int) (hb : ∀ z ∈ l, 0 ≤ z ∧ z < 256) : validD clsM ((List.range (mn l)).map (mrow l (mn l))) ((List.range (mn l)).map (macc l)) = true := by
  rw [validD_iff]
  obtain ⟨h1, h2⟩ := mn_pos l
  refine ⟨by kernel_rfl, by simp; omega, by simp; omega, by simp, fun r hr => ?_⟩
  obtain ⟨s, _, rfl⟩ := List.mem_map.1 hr
  refine ⟨rfl, fun t ht => ?_⟩
  have key : ∀ c, okTo ((List.range (mn l)).map (mrow l (mn l))).length (mcell l (mn l) s c : Int) := fun c => by
    unfold okTo mcell
    have := Nat.mod_lt (mb l (1 + 4 * s + c)) h1
    simp
    omega
  simp [mrow] at ht
  rcases ht with rfl | rfl | rfl
  · exact key 0
  · exact key 1
  · exact key 2
end Go.Proofs.YtepncbbegpeilaaDoor
