/-
  Canonical forms that are found by calculation. No program is named here.
-/
import Derived.Test.YtepncbbegpeilaaDoorMt
set_option linter.unusedSimpArgs false
set_option linter.unusedVariables false
namespace Go.Proofs.YtepncbbegpeilaaDoor

/-- the first p elements of the cycle repeat: calculated. -/
def goodB (c : List Bool) (p : Nat) : Bool := c.length % p == 0 && (List.range c.length).all fun i => decide (c.length ≤ i + p) || (c.getD (i + p) false == c.getD i false)
theorem goodB_iff (c : List Bool) (p : Nat) : goodB c p = true ↔ Good c p := by
  unfold goodB Good
  simp only [Bool.and_eq_true, beq_iff_eq, List.all_eq_true, List.mem_range, Bool.or_eq_true, decide_eq_true_eq]
  constructor
  · rintro ⟨h1, h2⟩
    refine ⟨h1, fun i hi => ?_⟩
    rcases h2 i (by omega) with h | h
    · omega
    · exact h
  · rintro ⟨h1, h2⟩
    refine ⟨h1, fun i hi => ?_⟩
    rcases Nat.lt_or_ge (i + p) c.length with h | h
    · exact .inr (h2 i h)
    · exact .inl h
def perB (c : List Bool) (p : Nat) : Bool := (decide (0 < p) && decide (p ≤ c.length)) && (goodB c p && (List.range p).all fun q => q == 0 || !goodB c q)
theorem perB_is {c : List Bool} {p : Nat} (h : perB c p = true) : IsPer c p := by
  unfold perB at h
  simp only [Bool.and_eq_true, decide_eq_true_eq, List.all_eq_true, List.mem_range, Bool.or_eq_true, beq_iff_eq, Bool.not_eq_true'] at h
  obtain ⟨⟨h1, h2⟩, h3, h4⟩ := h
  refine ⟨h1, h2, (goodB_iff c p).1 h3, fun q hq hqp hg => ?_⟩
  rcases h4 q hqp with h | h
  · omega
  · rw [(goodB_iff c q).2 hg] at h; cases h
theorem range_get (n : Nat) (f : Nat → Bool) (j : Nat) (hj : j < n) : ((List.range n).map f).getD j false = f j := by
  simp [List.getD_eq_getElem?_getD, hj]
/-- is this the canonical form of f, that repeats with P from H on? -/
def chk (f : Nat → Bool) (H P : Nat) (h c : List Bool) : Bool :=
  (decide (h.length ≤ H) && perB ((List.range P).map fun i => f (H + i)) c.length) && (((List.range (H - h.length)).all (fun i => f (h.length + i + c.length) == f (h.length + i)) &&
    (decide (h.length = 0) || !(f (h.length - 1) == f (h.length - 1 + c.length)))) && (decide (h = (List.range h.length).map f) && decide (c = (List.range c.length).map fun i => f (h.length + i))))
theorem chk_canon {f : Nat → Bool} {H P : Nat} {h c : List Bool} (hP : 0 < P) (hF : From f P H) (e : chk f H P h c = true) : IsCanon f h c := by
  unfold chk at e
  simp only [Bool.and_eq_true, decide_eq_true_eq, List.all_eq_true, List.mem_range, Bool.or_eq_true, beq_iff_eq, Bool.not_eq_true', beq_eq_false_iff_ne, ne_eq] at e
  obtain ⟨⟨e1, e2⟩, ⟨e3, e4⟩, e5, e6⟩ := e
  have r : Rep f ((List.range (H + P)).map f) H := rep_of_fun f H P hP hF _ (by simp) (fun n hn => range_get _ _ _ hn)
  have hd : ((List.range (H + P)).map f).drop H = (List.range P).map fun i => f (H + i) := by
    apply List.ext_getElem (by simp)
    intro i h1 h2
    simp
  have hp := perB_is e2
  rw [← hd] at hp
  have hFH := (per_least r hp).1
  have hFN : From f c.length h.length := by
    intro n hn
    rcases Nat.lt_or_ge n H with hlt | hge
    · have := e3 (n - h.length) (by omega)
      rw [show h.length + (n - h.length) = n by omega] at this
      exact this
    · exact hFH n hge
  have hple : c.length ≤ P := by have := hp.le; rw [hd] at this; simpa using this
  have key := canon_of r hp e1 hFN (by
    rcases e4 with h0 | h0
    · exact .inl h0
    · exact .inr h0)
  have k1 : ((List.range (H + P)).map f).take h.length = h := by
    conv => rhs; rw [e5]
    apply List.ext_getElem (by simp; omega)
    intro i h1 h2
    simp
  have k2 : (((List.range (H + P)).map f).drop h.length).take c.length = c := by
    conv => rhs; rw [e6]
    apply List.ext_getElem (by simp; omega)
    intro i h1 h2
    simp
  rw [k1, k2] at key
  exact key
end Go.Proofs.YtepncbbegpeilaaDoor
