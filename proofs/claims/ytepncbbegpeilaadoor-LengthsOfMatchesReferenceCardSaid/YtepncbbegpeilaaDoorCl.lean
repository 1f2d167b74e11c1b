/-
  Walks: rows of booleans copied and joined.
-/
import Derived.Test.YtepncbbegpeilaaDoorEq
import Derived.Lib.SliceRun
import Derived.Maps.AppendAt
set_option linter.unusedSimpArgs false
set_option linter.unusedVariables false
namespace Go.Proofs.YtepncbbegpeilaaDoor
open Go.RowKit

theorem readB_new {w : World} {blk off : Nat} {l : List Bool} (h : ReadsB w blk off l) : ∀ j u, (l.map Value.bool)[j]? = some u → w.cell? ((⟨blk, off, none⟩ : Addr).add j) = some u := by
  intro j u hu
  have hj : j < l.length := by have := (List.getElem?_eq_some_iff.1 hu).1; simpa using this
  have hadd : (⟨blk, off, none⟩ : Addr).add j = ⟨blk, off + j, none⟩ := by unfold Addr.add; split <;> simp_all
  rw [hadd, h j hj]
  rw [List.getElem?_map, get_getD hj] at hu
  exact hu
theorem map_one (l : List Bool) : ∀ u ∈ l.map Value.bool, u.oneCell' = true := by
  intro u hu
  obtain ⟨x, _, rfl⟩ := List.mem_map.1 hu
  rfl
set_option maxRecDepth 100000 in
set_option maxHeartbeats 1000000 in
/-- a copy of what lies somewhere (no nil slice). -/
theorem clone_any (blk off cap : Nat) (l : List Bool) (w : World) (hR : ReadsB w blk off l) (hl : l.length ≤ 1048576) :
    Calls Tryd.prog 35 #[.slice (some ⟨blk, off, none⟩) l.length cap] w fun e w' =>
      (∃ v, e = .returned v ∧ w'.ownsRow w.heap.size 4 1 v l.length (l.map Value.bool)) ∧ Below w.heap.size w w' := by
  obtain ⟨i0, hi, hz0, hz1, hz2⟩ := info_parts infoBool
  have HR := Lib.hid (fun W (hW : Below w.heap.size w W) => readB_new (w := W) (fun j hj => (hW.cell (lt_of_cell (hR j hj))).trans (hR j hj)))
  clear hR
  have q22 : ∀ (w : World) (a : Option Addr) (n c n' c' : Nat), (binOp .eql 26 (.slice a n c) (.slice none n' c')).run Tryd.prog w = .ok (.bool a.isNone) w := fun w a n c n' c' => Lib.run_eql_slice_nil w _ _ a n c n' c' Tryd.underlying26
  go_enter Tryd.func35, Tryd.ntmps35
  go_wp2_with (at_builtin; refine wpList_append_own _ rfl _ _ 26 rfl w.heap.size 4 i0 _ 1 1 Tryd.underlying26 hi hz0 hz1 hz2 rfl (by decide) _ _ _ rfl (World.ownsRow_made w #[] 0 (Nat.le_refl _) (Nat.zero_le _) rfl) ⟨blk, off, none⟩ l.length cap (l.map Value.bool) rfl (by simp) (HR.out _ ((Below.refl _ w).alloc (Nat.le_refl _) _)) (map_one l) (by unfold maxLen; omega) (by omega) (by simp) ?_; intro v' w1 hown hgrow _)
  go_ret
  exact ⟨⟨_, rfl, own_cast hown (by omega) (by simp)⟩, ((Below.refl _ w).alloc (Nat.le_refl _) _).grown hgrow (by simp) (fun k hk => own_ge (World.ownsRow_made (e := 4) (size := 1) w #[] 0 (Nat.le_refl _) (Nat.zero_le _) rfl) k hk)⟩
theorem clone_zero (a : Addr) (cap : Nat) (w : World) :
    Calls Tryd.prog 35 #[.slice (some a) 0 cap] w fun e w' =>
      (∃ v, e = .returned v ∧ w'.ownsRow w.heap.size 4 1 v 0 []) ∧ Below w.heap.size w w' := by
  obtain ⟨i0, hi, hz0, hz1, hz2⟩ := info_parts infoBool
  have q22 : ∀ (w : World) (a : Option Addr) (n c n' c' : Nat), (binOp .eql 26 (.slice a n c) (.slice none n' c')).run Tryd.prog w = .ok (.bool a.isNone) w := fun w a n c n' c' => Lib.run_eql_slice_nil w _ _ a n c n' c' Tryd.underlying26
  go_enter Tryd.func35, Tryd.ntmps35
  go_wp2_with (at_builtin; refine wpList_append_own _ rfl _ _ 26 rfl w.heap.size 4 i0 _ 1 1 Tryd.underlying26 hi hz0 hz1 hz2 rfl (by decide) _ _ _ rfl (World.ownsRow_made w #[] 0 (Nat.le_refl _) (Nat.zero_le _) rfl) a 0 cap [] rfl rfl (by intro j u hj; simp at hj) (by intro u hu; cases hu) (by unfold maxLen; omega) (by omega) (by simp) ?_; intro v' w1 hown hgrow _)
  go_ret
  exact ⟨⟨_, rfl, own_cast hown (by omega) (by simp)⟩, ((Below.refl _ w).alloc (Nat.le_refl _) _).grown hgrow (by simp) (fun k hk => own_ge (World.ownsRow_made (e := 4) (size := 1) w #[] 0 (Nat.le_refl _) (Nat.zero_le _) rfl) k hk)⟩
end Go.Proofs.YtepncbbegpeilaaDoor
