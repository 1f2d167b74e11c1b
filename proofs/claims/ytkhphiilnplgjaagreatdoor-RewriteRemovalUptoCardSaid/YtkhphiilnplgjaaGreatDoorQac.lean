/-
  Texts of the proof, one behind another: Kn.
-/
import Derived.Test.YtkhphiilnplgjaaGreatDoorQab
import Derived.Lib.TrailingZeros
set_option linter.unusedSimpArgs false
set_option linter.unusedVariables false
namespace Go.Proofs.YtkhphiilnplgjaaGreatDoor

theorem filter_first (p : Nat → Bool) (k : Nat) (hk : p k = true) (hlt : ∀ j, j < k → p j = false) : ∀ n, k < n →
    (List.range n).filter p = k :: (List.range n).filter (fun j => p j && decide (j ≠ k))
  | 0, h => by omega
  | n + 1, h => by
    rw [List.range_succ, List.filter_append, List.filter_append]
    by_cases e : k = n
    · subst e
      have h1 : (List.range k).filter p = [] := by
        rw [List.filter_eq_nil_iff]; intro j hj; rw [hlt j (List.mem_range.1 hj)]; simp
      have h2 : (List.range k).filter (fun j => p j && decide (j ≠ k)) = [] := by
        rw [List.filter_eq_nil_iff]; intro j hj; rw [hlt j (List.mem_range.1 hj)]; simp
      rw [h1, h2]; simp [hk]
    · rw [filter_first p k hk hlt n (by omega)]
      have h3 : ¬ n = k := fun h => e h.symm
      simp [List.filter_cons, h3]

theorem low_bits (u : Nat) (h0 : u ≠ 0) (h : u < 2 ^ 64) : u.testBit (Lib.ctz 64 u) = true ∧ Lib.ctz 64 u < 64 ∧ (∀ j, j < Lib.ctz 64 u → u.testBit j = false) ∧
    ∀ j, (u &&& (u - 1)).testBit j = (u.testBit j && decide (j ≠ Lib.ctz 64 u)) := by
  obtain ⟨m, hm, hk⟩ := Lib.ctzFrom_spec 64 u (by omega) h
  have e : Lib.ctz 64 u = Lib.ctzFrom 64 u := by simp [Lib.ctz, h0]
  rw [← e] at hm hk
  generalize Lib.ctz 64 u = k at hm hk ⊢
  have hp : 0 < 2 ^ k := Nat.two_pow_pos k
  have hd : u - 1 = 2 ^ k * (2 * m) + (2 ^ k - 1) := by
    have : 2 ^ k * (2 * m + 1) = 2 ^ k * (2 * m) + 2 ^ k := by rw [Nat.mul_add, Nat.mul_one]
    omega
  have hu : ∀ j, u.testBit j = (decide (k ≤ j) && (2 * m + 1).testBit (j - k)) := fun j => by rw [hm, Nat.testBit_two_pow_mul]
  have hv : ∀ j, k ≤ j → (u - 1).testBit j = (2 * m).testBit (j - k) := fun j hj => by
    rw [hd, Nat.testBit_two_pow_mul_add _ (by omega), if_neg (by omega)]
  refine ⟨?_, hk, ?_, ?_⟩
  · rw [hu]; simp
  · intro j hj; rw [hu]; simp; omega
  · intro j
    rw [Nat.testBit_and]
    by_cases h1 : j < k
    · have : u.testBit j = false := by rw [hu]; simp; omega
      rw [this]; rfl
    · by_cases h2 : j = k
      · subst h2
        rw [hv j (Nat.le_refl _)]; simp
      · obtain ⟨d, hd2⟩ : ∃ d, j - k = d + 1 := ⟨j - k - 1, by omega⟩
        have e1 : (2 * m + 1).testBit (d + 1) = m.testBit d := by rw [Nat.testBit_succ]; congr 1; omega
        have e2 : (2 * m).testBit (d + 1) = m.testBit d := by rw [Nat.testBit_succ]; congr 1; omega
        rw [hv j (by omega), hu, hd2, e1, e2]
        have : decide (k ≤ j) = true := by simp; omega
        simp [this, h2]

/-- the members that word i, holding u, stands for. -/
def wm (i u : Nat) : List Int := ((List.range 64).filter (fun j => u.testBit j)).map fun (j : Nat) => ((64 * i + j : Nat) : Int)
theorem wm_zero (i : Nat) : wm i 0 = [] := by unfold wm; simp
theorem wm_step (i u : Nat) (h0 : u ≠ 0) (h : u < 2 ^ 64) : wm i u = ((64 * i + Lib.ctz 64 u : Nat) : Int) :: wm i (u &&& (u - 1)) := by
  obtain ⟨h1, h2, h3, h4⟩ := low_bits u h0 h
  unfold wm
  rw [filter_first (fun j => u.testBit j) _ h1 h3 64 h2]
  simp only [List.map_cons]
  congr 3
  funext j; rw [h4]
theorem and_pred_lt (u : Nat) (h0 : u ≠ 0) : u &&& (u - 1) < u := Nat.lt_of_le_of_lt Nat.and_le_right (by omega)

def wn (x : BitVec 256) (i : Nat) : Nat := (wv x i).toNat
theorem wn_lt (x : BitVec 256) (i : Nat) : wn x i < 2 ^ 64 := (wv x i).isLt
theorem wd_wn (x : BitVec 256) (i : Nat) : wd x i = ((wn x i : Nat) : Int) := rfl
theorem wn_bit (x : BitVec 256) (i j : Nat) (hj : j < 64) : (wn x i).testBit j = mem x (64 * i + j) := wv_bit x i j hj

def after (x : BitVec 256) : Nat → Nat → List Int
  | _, 0 => []
  | i, f + 1 => wm i (wn x i) ++ after x (i + 1) f
theorem mems_add (x : BitVec 256) (i : Nat) : mems x (64 * i + 64) = mems x (64 * i) ++ wm i (wn x i) := by
  unfold mems wm
  rw [List.range_add, List.filter_append, List.map_append]
  congr 1
  rw [List.filter_map, List.map_map]
  have : (List.range 64).filter (mem x ∘ fun j => 64 * i + j) = (List.range 64).filter (fun j => (wn x i).testBit j) := by
    apply List.filter_congr; intro j hj; simp only [Function.comp]; rw [wn_bit _ _ _ (List.mem_range.1 hj)]
  rw [this]; rfl
theorem mems_after (x : BitVec 256) : mems x 256 = after x 0 4 := by
  have h0 := mems_add x 0; have h1 := mems_add x 1; have h2 := mems_add x 2; have h3 := mems_add x 3
  have hz : mems x (64 * 0) = [] := rfl
  rw [hz] at h0
  show mems x (64 * 3 + 64) = _
  rw [h3]
  show mems x (64 * 2 + 64) ++ _ = _
  rw [h2]
  show mems x (64 * 1 + 64) ++ _ ++ _ = _
  rw [h1]
  show mems x (64 * 0 + 64) ++ _ ++ _ ++ _ = _
  rw [h0]
  simp [after]
end Go.Proofs.YtkhphiilnplgjaaGreatDoor
