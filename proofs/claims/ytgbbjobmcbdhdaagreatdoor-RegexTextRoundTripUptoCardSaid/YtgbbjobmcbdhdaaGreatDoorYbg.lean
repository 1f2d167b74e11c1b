/-
  Texts of the proof, one behind another: Vb.
-/
import Derived.Test.YtgbbjobmcbdhdaaGreatDoorYbe
import Derived.Test.YtgbbjobmcbdhdaaGreatDoorYbf
import Derived.Laws.StructEq
set_option linter.unusedSimpArgs false
set_option linter.unusedVariables false
/-
  Walks: what '==' says of two nodes; a node's operands.
-/
namespace Go.Proofs.YtgbbjobmcbdhdaaGreatDoor
open Go.RowKit

theorem nd_ext {a b : Nd} : (a.k = b.k ∧ (wd a.c 0 = wd b.c 0 ∧ wd a.c 1 = wd b.c 1 ∧ wd a.c 2 = wd b.c 2 ∧ wd a.c 3 = wd b.c 3) ∧ a.l = b.l ∧ a.r = b.r ∧ a.mn = b.mn ∧ a.mx = b.mx) ↔ a = b := by
  constructor
  · rintro ⟨h1, ⟨h2, h3, h4, h5⟩, h6, h7, h8, h9⟩
    cases a; cases b
    simp only at h1 h2 h3 h4 h5 h6 h7 h8 h9
    subst h1; subst h6; subst h7; subst h8; subst h9
    rw [wd_ext4 h2 h3 h4 h5]
  · rintro rfl
    exact ⟨rfl, ⟨rfl, rfl, rfl, rfl⟩, rfl, rfl, rfl, rfl⟩
set_option maxRecDepth 100000 in
set_option maxHeartbeats 1000000 in
theorem eq_nd (a b : Nd) (w : World) : (Op.equalIn 10000 45 (valN a) (valN b)).run Tryz.prog w = .ok (decide (a = b)) w := by
  have ut := Tryz.underlying45
  have ui := Tryz.underlying3
  have uc := Tryz.underlying43
  have ai := Tryz.isAgg3
  have zi := Tryz.sizeOf3
  have aa := Tryz.isAgg43
  have za := Tryz.sizeOf43
  have hf : Tryz.prog.underlying 45 = some (.struct (Tryz.prog.fieldsOf 45)) := by unfold Program.fieldsOf; rw [ut]
  have hA := eq_arrd 9997 (wd a.c 0) (wd a.c 1) (wd a.c 2) (wd a.c 3) (wd b.c 0) (wd b.c 1) (wd b.c 2) (wd b.c 3)
  rw [show (10000 : Nat) = 9999 + 1 from rfl, run_equalIn_struct w 9999 45 _ _ hf (by kernel_rfl)]
  unfold Program.fieldsOf
  rw [ut]
  simp only [Op.eqFields]
  go_simp
  by_cases h : a = b
  · subst h; simp
  · rw [decide_eq_false h]
    repeat' split
    all_goals first
      | rfl
      | (rename_i h1 h2 h3 h4 h5 h6
         have h7 : wd a.c 0 = wd b.c 0 ∧ wd a.c 1 = wd b.c 1 ∧ wd a.c 2 = wd b.c 2 ∧ wd a.c 3 = wd b.c 3 := by omega
         exact absurd (nd_ext.1 ⟨h1, h7, h3, h4, h5, h6⟩) h)
def opsN (n : Nd) : List Int := if n.k = 4 ∨ n.k = 5 ∨ n.k = 6 then [n.l, n.r] else if n.k = 7 ∨ n.k = 8 then [n.l] else []
/-- the value is a slice that reads as these integers. -/
def IsI (w : World) (v : Value) (l : List Int) : Prop :=
  (l = [] ∧ ∃ p cap, v = .slice p 0 cap) ∨ ∃ blk off cap, v = .slice (some ⟨blk, off, none⟩) l.length cap ∧ ∀ (k : Nat) (y : Int), l[k]? = some y → w.cell? ⟨blk, off + k, none⟩ = some (.int .i64 y)
set_option maxRecDepth 100000 in
set_option maxHeartbeats 1000000 in
theorem operands_any (n : Nd) (W : World) : Calls Tryz.prog 57 #[valN n] W fun e W' => (∃ v, e = .returned v ∧ IsI W' v (opsN n) ∧ ∀ a n c, v = .slice (some a) n c → W.heap.size < a.block) ∧ Below W.heap.size W W' := by
  obtain ⟨k, c, l, r, mn, mx⟩ := n
  by_cases h4 : k = 4 ∨ k = 5 ∨ k = 6
  · rcases h4 with rfl | rfl | rfl
    all_goals
      go_enter Tryz.func57, Tryz.ntmps57
      go_wp2
      go_ret
      refine ⟨⟨_, rfl, .inr ⟨W.heap.size + 1, 0, 2, rfl, ?_⟩, by intro a n c h; cases h; simp⟩, by go_grown⟩
      intro j y hj
      have hb := fun KK => Blk.alloc1 W #[.int .i64 KK, .int .u64 (wd c 0), .int .u64 (wd c 1), .int .u64 (wd c 2), .int .u64 (wd c 3), .int .i64 l, .int .i64 r, .int .i64 mn, .int .i64 mx] #[.int .i64 l, .int .i64 r] 45 3
      rw [Nat.zero_add]
      match j, hj with
      | 0, hj => cases hj; exact (hb _).cell 0 rfl
      | 1, hj => cases hj; exact (hb _).cell 1 rfl
      | j + 2, hj => simp [opsN] at hj
  · by_cases h7 : k = 7 ∨ k = 8
    · rcases h7 with rfl | rfl
      all_goals
        go_enter Tryz.func57, Tryz.ntmps57
        go_wp2
        go_ret
        refine ⟨⟨_, rfl, .inr ⟨W.heap.size + 1, 0, 1, rfl, ?_⟩, by intro a n c h; cases h; simp⟩, by go_grown⟩
        intro j y hj
        have hb := fun KK => Blk.alloc1 W #[.int .i64 KK, .int .u64 (wd c 0), .int .u64 (wd c 1), .int .u64 (wd c 2), .int .u64 (wd c 3), .int .i64 l, .int .i64 r, .int .i64 mn, .int .i64 mx] #[.int .i64 l] 45 3
        rw [Nat.zero_add]
        match j, hj with
        | 0, hj => cases hj; exact (hb _).cell 0 rfl
        | j + 1, hj => simp [opsN] at hj
    · have hx : opsN ⟨k, c, l, r, mn, mx⟩ = [] := by unfold opsN; rw [if_neg h4, if_neg h7]
      rw [hx]
      have e4 : (k == 4) = false := by simp; omega
      have e5 : (k == 5) = false := by simp; omega
      have e6 : (k == 6) = false := by simp; omega
      have e7 : (k == 7) = false := by simp; omega
      have e8 : (k == 8) = false := by simp; omega
      clear h4 h7 hx
      go_enter Tryz.func57, Tryz.ntmps57
      go_wp2
      go_ret
      exact ⟨⟨_, rfl, .inl ⟨rfl, none, 0, rfl⟩, by intro a n c h; cases h⟩, by go_grown⟩
end Go.Proofs.YtgbbjobmcbdhdaaGreatDoor
