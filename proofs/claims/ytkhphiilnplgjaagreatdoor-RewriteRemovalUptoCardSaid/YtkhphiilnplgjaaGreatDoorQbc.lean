/-
  Texts of the proof, one behind another: Ke.
-/
import Derived.StillTailTactics
import Derived.Test.YtkhphiilnplgjaaGreatDoorQba
set_option linter.unusedSimpArgs false
set_option linter.unusedVariables false
namespace Go.Proofs.YtkhphiilnplgjaaGreatDoor
open Go.RowKit

theorem or_clo (a b : Int) (w : World) : Calls Tryz.prog 115 #[.int .u64 a, .int .u64 b] w fun e w' => e = .returned (.int .u64 (bits .or .u64 a b)) ∧ w' = w := by
  go_enter Tryz.func115, Tryz.ntmps115
  go_wp2
  go_ret
  exact ⟨rfl, rfl⟩
theorem and_clo (a b : Int) (w : World) : Calls Tryz.prog 114 #[.int .u64 a, .int .u64 b] w fun e w' => e = .returned (.int .u64 (bits .and .u64 a b)) ∧ w' = w := by
  go_enter Tryz.func114, Tryz.ntmps114
  go_wp2
  go_ret
  exact ⟨rfl, rfl⟩
theorem minus_clo (a b : Int) (w : World) : Calls Tryz.prog 135 #[.int .u64 a, .int .u64 b] w fun e w' => e = .returned (.int .u64 (bits .andNot .u64 a b)) ∧ w' = w := by
  go_enter Tryz.func135, Tryz.ntmps135
  go_wp2
  go_ret
  exact ⟨rfl, rfl⟩

/-- the word i when the words below k are done. -/
def cw (k i : Nat) (r : Int) : Int := if i < k then r else 0

set_option maxRecDepth 100000 in
set_option maxHeartbeats 1000000 in
theorem combine_any (g : Nat) (fo : Int → Int → Int) (hg : ∀ a b w, Calls Tryz.prog g #[.int .u64 a, .int .u64 b] w fun e w' => e = .returned (.int .u64 (fo a b)) ∧ w' = w)
    (eg : ∀ args w, (callFunc g args).run Tryz.prog w = .ok (.enter g args) w) (x0 x1 x2 x3 y0 y1 y2 y3 : Int) (w : World) :
    Calls Tryz.prog 113 #[.agg #[.int .u64 x0, .int .u64 x1, .int .u64 x2, .int .u64 x3], .agg #[.int .u64 y0, .int .u64 y1, .int .u64 y2, .int .u64 y3], .func (.func g) #[] #[]] w fun e w' =>
      e = .returned (.agg #[.int .u64 (fo x0 y0), .int .u64 (fo x1 y1), .int .u64 (fo x2 y2), .int .u64 (fo x3 y3)]) ∧ Below w.heap.size w w' := by
  have HG := Lib.hid hg
  clear hg
  go_enter Tryz.func113, Tryz.ntmps113
  go_wp2_with fail
  go_loopw [9] (fun i wr => ∃ k : Nat, k ≤ 4 ∧ i = .int .i64 k ∧ Blk wr (w.heap.size + 3) #[.int .u64 (cw k 0 (fo x0 y0)), .int .u64 (cw k 1 (fo x1 y1)), .int .u64 (cw k 2 (fo x2 y2)), .int .u64 (cw k 3 (fo x3 y3))] 27 ∧
      Blk wr w.heap.size #[.int .u64 x0, .int .u64 x1, .int .u64 x2, .int .u64 x3] 27 ∧ Blk wr (w.heap.size + 1) #[.int .u64 y0, .int .u64 y1, .int .u64 y2, .int .u64 y3] 27 ∧
      Blk wr (w.heap.size + 2) #[.int .u64 0, .int .u64 0, .int .u64 0, .int .u64 0] 27 ∧ Below w.heap.size w wr) (fun i _ => 4 - (intOf i).toNat)
  case atStart =>
    refine ⟨0, Nat.zero_le _, rfl, ?_, ?_, ?_, ?_, ?_⟩
    · exact Blk.alloc3 _ _ _ _ _ _
    · exact (((Blk.new w _ _).alloc _).alloc _).alloc _
    · exact ((Blk.alloc1 w _ _ _ _ _).alloc _).alloc _
    · exact (Blk.alloc2 _ _ _ _ _).alloc _
    · go_grown
  case round =>
    obtain ⟨k, hk, rfl, hC, hX, hY, hR, hbw⟩ := hrel
    obtain ⟨c0, c1, c2, c3, f0, f1, f2, f3⟩ := hC.four
    obtain ⟨a0, a1, a2, a3, -⟩ := hX.four
    obtain ⟨b0, b1, b2, b3, -⟩ := hY.four
    obtain ⟨d0, d1, d2, d3, g0, g1, g2, g3⟩ := hR.four
    have hk5 : k = 0 ∨ k = 1 ∨ k = 2 ∨ k = 3 ∨ k = 4 := by omega
    rcases hk5 with rfl | rfl | rfl | rfl | rfl
    case inr.inr.inr.inr =>
      go_wp2
      refine bodyPost_ret (results_cell_row rfl _ _ (w.heap.size + 2) 27 _ (0, 0) _ rfl (hR.set4 _ _ _ _).is Tryz.underlying27 rfl clsSize) rfl ⟨rfl, below_set4 hbw (by omega) _ _ _ _⟩
    · go_wp2_with fail
      go_still_tail 10, (by kernel_rfl)
      still_call (HG.out _ _ _)
      repeat still_step
      try refine wpStill_nil ?_
      go_wp2
      go_roundw
      case rel => exact ⟨1, by omega, by go_num, ((hC.set 0 (.int .u64 (fo x0 y0))).cast (by simp [cw])).drew, (hX.other (by simp; omega) _).drew, (hY.other (by simp) _).drew, (hR.other (by simp) _).drew, (hbw.setCell (by simp; omega) _).drew⟩
      case measure => simp [intOf]
    · go_wp2_with fail
      go_still_tail 10, (by kernel_rfl)
      still_call (HG.out _ _ _)
      repeat still_step
      try refine wpStill_nil ?_
      go_wp2
      go_roundw
      case rel => exact ⟨2, by omega, by go_num, ((hC.set 1 (.int .u64 (fo x1 y1))).cast (by simp [cw])).drew, (hX.other (by simp; omega) _).drew, (hY.other (by simp) _).drew, (hR.other (by simp) _).drew, (hbw.setCell (by simp; omega) _).drew⟩
      case measure => simp [intOf]
    · go_wp2_with fail
      go_still_tail 10, (by kernel_rfl)
      still_call (HG.out _ _ _)
      repeat still_step
      try refine wpStill_nil ?_
      go_wp2
      go_roundw
      case rel => exact ⟨3, by omega, by go_num, ((hC.set 2 (.int .u64 (fo x2 y2))).cast (by simp [cw])).drew, (hX.other (by simp; omega) _).drew, (hY.other (by simp) _).drew, (hR.other (by simp) _).drew, (hbw.setCell (by simp; omega) _).drew⟩
      case measure => simp [intOf]
    · go_wp2_with fail
      go_still_tail 10, (by kernel_rfl)
      still_call (HG.out _ _ _)
      repeat still_step
      try refine wpStill_nil ?_
      go_wp2
      go_roundw
      case rel => exact ⟨4, by omega, by go_num, ((hC.set 3 (.int .u64 (fo x3 y3))).cast (by simp [cw])).drew, (hX.other (by simp; omega) _).drew, (hY.other (by simp) _).drew, (hR.other (by simp) _).drew, (hbw.setCell (by simp; omega) _).drew⟩
      case measure => simp [intOf]
end Go.Proofs.YtkhphiilnplgjaaGreatDoor
