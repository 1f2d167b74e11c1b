/-
  Texts of the proof, one behind another: Ga.
-/
import Derived.Test.YtclfdffpcneeeaaGreatDoorYce
set_option linter.unusedSimpArgs false
set_option linter.unusedVariables false
/-
  Plain: whether a word matches an expression; the document's examples.
-/
namespace Go.Proofs.YtclfdffpcneeeaaGreatDoor

/-- the word matches the expression. -/
noncomputable def matchB (xs : List Nd) (b : List Int) : Bool := @decide (validE xs = 0 ∧ sp b (tr xs (xs.length - 1)) 0 b.length) (Classical.propDecidable _)
theorem matchB_true {xs : List Nd} {b : List Int} : matchB xs b = true ↔ validE xs = 0 ∧ sp b (tr xs (xs.length - 1)) 0 b.length := by
  unfold matchB
  exact @decide_eq_true_iff _ (Classical.propDecidable _)
theorem matchB_false {xs : List Nd} {b : List Int} (h : ¬ sp b (tr xs (xs.length - 1)) 0 b.length) : matchB xs b = false := by
  cases hm : matchB xs b
  · rfl
  · exact absurd (matchB_true.1 hm).2 h
def nCls (y : Nat) : Nd := ⟨3, bit y, 0, 0, 0, 0⟩
def exGroup : List Nd := [nCls 97, nCls 98, nCls 99, ⟨5, 0, 1, 2, 0, 0⟩, ⟨8, 0, 3, 0, 0, -1⟩, ⟨4, 0, 0, 4, 0, 0⟩]
def exBoth : List Nd := [nCls 97, ⟨8, 0, 0, 0, 0, -1⟩, ⟨7, 0, 1, 0, 0, 0⟩, ⟨3, BitVec.allOnes 256, 0, 0, 0, 0⟩, ⟨8, 0, 3, 0, 2, 2⟩, ⟨6, 0, 2, 4, 0, 0⟩]
def exStar : List Nd := [nCls 97, nCls 98, ⟨8, 0, 1, 0, 0, -1⟩, ⟨5, 0, 0, 2, 0, 0⟩]
theorem ex_group : parseS [97, 40, 98, 124, 99, 41, 42] 60 = some (.ok exGroup) := by kernel_rfl
theorem ex_both : parseS [126, 97, 42, 38, 46, 123, 50, 44, 50, 125] 60 = some (.ok exBoth) := by kernel_rfl
theorem ex_star : parseS [97, 124, 98, 42] 60 = some (.ok exStar) := by kernel_rfl
theorem ex_bar : parseS [97, 124, 124, 98] 60 = some (.error (2, 20)) := by kernel_rfl
theorem ex_open : parseS [40, 97] 60 = some (.error (2, 21)) := by kernel_rfl
theorem ex_bounds : parseS [97, 123, 51, 44, 50, 125] 60 = some (.error (4, 20)) := by kernel_rfl
theorem ex_big : parseS [97, 123, 49, 55, 44, 125] 60 = some (.error (2, 2)) := by kernel_rfl
theorem ex_ranges : parseS [91, 94, 92, 120, 48, 48, 45, 92, 120, 54, 48, 92, 120, 54, 50, 45, 92, 120, 102, 102, 93] 60 = some (.ok [nCls 97]) := by kernel_rfl
theorem tr_group : tr exGroup 5 = .cat (.cls (bit 97)) (.rep (.alt (.cls (bit 98)) (.cls (bit 99))) 0 none) := by kernel_rfl
theorem tr_both : tr exBoth 5 = .and (.not (.rep (.cls (bit 97)) 0 none)) (.rep (.cls (BitVec.allOnes 256)) 2 (some 2)) := by kernel_rfl
theorem sp_rep {b : List Int} {t : Rx} {lo : Nat} {hi : Option Nat} {i j : Nat} (k : Nat) (h0 : i ≤ b.length) (h1 : lo ≤ k) (h2 : ∀ h, hi = some h → k ≤ h) (hp : pow (sp b t) k i j) : sp b (.rep t lo hi) i j := ⟨h0, k, h1, h2, hp⟩
theorem match_abcb : matchB exGroup [97, 98, 99, 98] = true := by
  refine matchB_true.2 ⟨by kernel_rfl, ?_⟩
  rw [show exGroup.length - 1 = 5 from rfl, tr_group]
  refine ⟨1, ⟨rfl, 97, rfl, by kernel_rfl⟩, sp_rep 3 (by decide) (by omega) (fun h e => by cases e) ⟨2, .inl ⟨rfl, 98, rfl, by kernel_rfl⟩, 3, .inr ⟨rfl, 99, rfl, by kernel_rfl⟩, 4, .inl ⟨rfl, 98, rfl, by kernel_rfl⟩, rfl⟩⟩
theorem match_ba : matchB exGroup [98, 97] = false := by
  refine matchB_false ?_
  rw [show exGroup.length - 1 = 5 from rfl, tr_group]
  rintro ⟨m, ⟨_, y, hy, hm⟩, _⟩
  obtain rfl : 98 = y := by simpa using hy
  exact absurd hm (by decide +kernel)
theorem match_ab : matchB exBoth [97, 98] = true := by
  refine matchB_true.2 ⟨by kernel_rfl, ?_⟩
  rw [show exBoth.length - 1 = 5 from rfl, tr_both]
  refine ⟨⟨by decide, by decide, ?_⟩, by decide, 2, by omega, fun h e => by cases e; omega, 1, ⟨rfl, 97, rfl, by kernel_rfl⟩, 2, ⟨rfl, 98, rfl, by kernel_rfl⟩, rfl⟩
  rintro ⟨_, k, _, _, hp⟩
  rcases k with _ | _ | k
  · cases hp
  · obtain ⟨m, ⟨rfl, _⟩, h⟩ := hp
    cases h
  · obtain ⟨m, ⟨rfl, _⟩, m', ⟨_, y, hy, hm⟩, _⟩ := hp
    obtain rfl : 98 = y := by simpa using hy
    exact absurd hm (by decide +kernel)
theorem match_aa : matchB exBoth [97, 97] = false := by
  refine matchB_false ?_
  rw [show exBoth.length - 1 = 5 from rfl, tr_both]
  rintro ⟨⟨_, _, h⟩, _⟩
  exact h (sp_rep 2 (by decide) (by omega) (fun h e => by cases e) ⟨1, ⟨rfl, 97, rfl, by kernel_rfl⟩, 2, ⟨rfl, 97, rfl, by kernel_rfl⟩, rfl⟩)
end Go.Proofs.YtclfdffpcneeeaaGreatDoor
