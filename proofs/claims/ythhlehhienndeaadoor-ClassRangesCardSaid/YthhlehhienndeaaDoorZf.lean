/-
  The law on ranges: the facts on intervals, and the walk.
-/
import Derived.Test.YthhlehhienndeaaDoorZe
set_option linter.unusedSimpArgs false
set_option linter.unusedVariables false
namespace Go.Proofs.YthhlehhienndeaaDoor
open Go.RowKit Go.Shelf Go.Lib

theorem mem_rg (lo hi : Int) (h0 : 0 ≤ lo) (h1 : lo < 256) (h2 : 0 ≤ hi) (h3 : hi < 256) (j : Nat) : mem (rg lo hi) j = (decide (lo ≤ (j : Int)) && decide ((j : Int) ≤ hi)) := by
  unfold rg
  rcases Int.lt_or_le hi lo with hlt | hge
  · have e : (hi + 1 - lo).toNat = 0 := by omega
    rw [e, rng_zero, mem_zero]
    by_cases h : lo ≤ (j : Int)
    · have : ¬ (j : Int) ≤ hi := by omega
      simp only [this, decide_false, Bool.and_false]
    · simp only [h, decide_false, Bool.false_and]
  · rw [mem_rng lo h0 j _ (by omega)]
    congr 1
    have : ((j : Int) < lo + ((hi + 1 - lo).toNat : Int)) = ((j : Int) ≤ hi) := by apply propext; omega
    simp only [this]
theorem hasI_rg (lo hi b : Int) (h0 : 0 ≤ lo) (h1 : lo < 256) (h2 : 0 ≤ hi) (h3 : hi < 256) (hb : 0 ≤ b) : hasI (rg lo hi) b = (decide (lo ≤ b) && decide (b ≤ hi)) := by
  unfold hasI
  rw [mem_rg lo hi h0 h1 h2 h3, show ((b.toNat : Nat) : Int) = b by omega]
theorem filter_interval (p : Nat → Bool) (a c : Nat) (hp : ∀ j, p j = (decide (a ≤ j) && decide (j < c))) : ∀ n, (List.range n).filter p = List.range' a (min c n - a)
  | 0 => by simp
  | n + 1 => by
    rw [List.range_succ, List.filter_append, filter_interval p a c hp n]
    by_cases h : a ≤ n ∧ n < c
    · have hpn : p n = true := by rw [hp]; simp [h.1, h.2]
      have e1 : min c (n + 1) - a = (min c n - a) + 1 := by omega
      have e2 : a + (min c n - a) = n := by omega
      rw [List.filter_cons_of_pos (by simpa using hpn), List.filter_nil, e1, List.range'_1_concat, e2]
    · have hpn : p n = false := by
        rw [hp]
        by_cases h1 : a ≤ n
        · have h2 : ¬ n < c := fun h2 => h ⟨h1, h2⟩
          simp [h2]
        · simp [h1]
      have e1 : min c (n + 1) - a = min c n - a := by omega
      rw [List.filter_cons_of_neg (by simpa using hpn), List.filter_nil, List.append_nil, e1]
theorem mems_rg (lo hi : Int) (h0 : 0 ≤ lo) (h1 : lo < 256) (h2 : 0 ≤ hi) (h3 : hi < 256) : mems (rg lo hi) 256 = (List.range' lo.toNat (hi + 1 - lo).toNat).map fun (j : Nat) => (j : Int) := by
  unfold mems
  rw [filter_interval (mem (rg lo hi)) lo.toNat (hi + 1).toNat (fun j => by
    rw [mem_rg lo hi h0 h1 h2 h3]
    have e1 : (lo ≤ (j : Int)) = (lo.toNat ≤ j) := by apply propext; omega
    have e2 : ((j : Int) ≤ hi) = (j < (hi + 1).toNat) := by apply propext; omega
    simp only [e1, e2])]
  congr 2
  omega
theorem sizeI_rg (lo hi : Int) (h0 : 0 ≤ lo) (h1 : lo < 256) (h2 : 0 ≤ hi) (h3 : hi < 256) : sizeI (rg lo hi) = ((hi + 1 - lo).toNat : Int) := by
  unfold sizeI; rw [mems_rg lo hi h0 h1 h2 h3]; simp
theorem leastI_rg (lo hi : Int) (h0 : 0 ≤ lo) (h1 : lo < 256) (h2 : 0 ≤ hi) (h3 : hi < 256) (h : lo ≤ hi) : leastI (rg lo hi) = lo := by
  unfold leastI; rw [mems_rg lo hi h0 h1 h2 h3]
  have e : (hi + 1 - lo).toNat = (hi - lo).toNat + 1 := by omega
  rw [e, List.range'_succ]
  simp; omega
theorem union_rg (lo b hi : Int) (h0 : 0 ≤ lo) (h1 : lo ≤ b) (h2 : b ≤ hi) (h3 : hi < 256) : rg lo b ||| rg b hi = rg lo hi := by
  apply mem_ext; intro j _
  rw [mem_or, mem_rg lo b h0 (by omega) (by omega) (by omega), mem_rg b hi (by omega) (by omega) (by omega) h3, mem_rg lo hi h0 (by omega) (by omega) h3]
  rw [← Bool.decide_and, ← Bool.decide_and, ← Bool.decide_and, ← Bool.decide_or]
  congr 1; apply propext; omega
theorem inter_rg (lo b hi : Int) (h0 : 0 ≤ lo) (h1 : lo ≤ b) (h2 : b ≤ hi) (h3 : hi < 256) : rg lo b &&& rg b hi = ofV #[.int .u8 b] := by
  have e : ofV #[.int .u8 b] = bit b.toNat := by unfold ofV ofL; simp [intOf]
  rw [e]
  apply mem_ext; intro j _
  rw [mem_and, mem_rg lo b h0 (by omega) (by omega) (by omega), mem_rg b hi (by omega) (by omega) (by omega) h3, mem_bit _ _ (by omega)]
  rw [← Bool.decide_and, ← Bool.decide_and, ← Bool.decide_and]
  congr 1; apply propext; omega
end Go.Proofs.YthhlehhienndeaaDoor
