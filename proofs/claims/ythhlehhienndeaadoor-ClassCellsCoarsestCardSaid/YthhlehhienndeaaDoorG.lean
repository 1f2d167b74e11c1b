/-
  Walks: the reference's union, intersection, complement, difference: byte by byte.
-/
import Derived.Test.YthhlehhienndeaaDoorF
set_option linter.unusedSimpArgs false
set_option linter.unusedVariables false
namespace Go.Proofs.YthhlehhienndeaaDoor
open Go.RowKit

set_option maxRecDepth 100000 in
set_option maxHeartbeats 1000000 in
theorem runion_any (x y : BitVec 256) (w : World) : Calls Tryd.prog 17 #[.agg #[.int .u64 (wd x 0), .int .u64 (wd x 1), .int .u64 (wd x 2), .int .u64 (wd x 3)], .agg #[.int .u64 (wd y 0), .int .u64 (wd y 1), .int .u64 (wd y 2), .int .u64 (wd y 3)]] w fun e w' => e = .returned (.agg #[.int .u64 (wd (x ||| y) 0), .int .u64 (wd (x ||| y) 1), .int .u64 (wd (x ||| y) 2), .int .u64 (wd (x ||| y) 3)]) ∧ Below w.heap.size w w' := by
  have HF := Lib.hid (sel_eq (fun j => mem x j || mem y j) (x ||| y) fun j _ => BitVec.getLsbD_or)
  go_enter Tryd.func17, Tryd.ntmps17
  go_wp2
  go_loopw [6] (fun i wr => ∃ k : Nat, k ≤ 256 ∧ i = .int .i64 k ∧ Blk wr (w.heap.size + 3) #[.int .u64 (wd (sel (fun j => mem x j || mem y j) k) 0), .int .u64 (wd (sel (fun j => mem x j || mem y j) k) 1), .int .u64 (wd (sel (fun j => mem x j || mem y j) k) 2), .int .u64 (wd (sel (fun j => mem x j || mem y j) k) 3)] 24 ∧ Blk wr w.heap.size #[.int .u64 (wd x 0), .int .u64 (wd x 1), .int .u64 (wd x 2), .int .u64 (wd x 3)] 24 ∧ Blk wr (w.heap.size + 1) #[.int .u64 (wd y 0), .int .u64 (wd y 1), .int .u64 (wd y 2), .int .u64 (wd y 3)] 24 ∧
      Blk wr (w.heap.size + 2) #[.int .u64 0, .int .u64 0, .int .u64 0, .int .u64 0] 24 ∧ Below w.heap.size w wr) (fun i _ => 256 - (intOf i).toNat)
  case atStart =>
    refine ⟨0, Nat.zero_le _, rfl, ?_, ?_, ?_, ?_, ?_⟩
    · simp only [sel_zero, wd_zero]; exact Blk.alloc3 _ _ _ _ _ _
    · exact (((Blk.new w _ _).alloc _).alloc _).alloc _
    · exact ((Blk.alloc1 w _ _ _ _ _).alloc _).alloc _
    · exact (Blk.alloc2 _ _ _ _ _).alloc _
    · go_grown
  case round =>
    obtain ⟨k, hk, rfl, hC, hX, hY, hR, hbw⟩ := hrel
    obtain ⟨c0, c1, c2, c3, f0, f1, f2, f3⟩ := hC.four
    obtain ⟨a0, a1, a2, a3, -⟩ := hX.four
    obtain ⟨b0, b1, b2, b3, -⟩ := hY.four
    by_cases hlt : k < 256
    · cases hx : mem x k
      · cases hy : mem y k
        · have HS := Lib.hid (sel_no (fun j => mem x j || mem y j) k (by simp [hx, hy]))
          generalize sel (fun j => mem x j || mem y j) k = z at c0 c1 c2 c3 HS hC
          go_wp2_with (first | (go_at_call 41; refine (rhas_any _ _ _ (by omega) (by omega)).mono ?_; rintro e w1 ⟨rfl, hb1⟩; have hb2 := hbw.trans (hb1.mono hbw.size); clear hbw; have hbw := hb2; clear hb2; have hC2 := hC.grows hb1; clear hC; have hC := hC2; clear hC2; have hX2 := hX.grows hb1; clear hX; have hX := hX2; clear hX2; have hY2 := hY.grows hb1; clear hY; have hY := hY2; clear hY2; have hR2 := hR.grows hb1; clear hR; have hR := hR2; clear hR2; clear hb1 c0 c1 c2 c3 f0 f1 f2 f3 a0 a1 a2 a3 b0 b1 b2 b3; obtain ⟨c0, c1, c2, c3, f0, f1, f2, f3⟩ := hC.four; obtain ⟨a0, a1, a2, a3, -⟩ := hX.four; obtain ⟨b0, b1, b2, b3, -⟩ := hY.four) | (go_at_call 38; refine (rwith_any z _ _ (by omega) (by omega)).mono ?_; rintro e w1 ⟨rfl, hb1⟩; have hb2 := hbw.trans (hb1.mono hbw.size); clear hbw; have hbw := hb2; clear hb2; have hC2 := hC.grows hb1; clear hC; have hC := hC2; clear hC2; have hX2 := hX.grows hb1; clear hX; have hX := hX2; clear hX2; have hY2 := hY.grows hb1; clear hY; have hY := hY2; clear hY2; have hR2 := hR.grows hb1; clear hR; have hR := hR2; clear hR2; clear hb1 c0 c1 c2 c3 f0 f1 f2 f3 a0 a1 a2 a3 b0 b1 b2 b3; obtain ⟨c0, c1, c2, c3, f0, f1, f2, f3⟩ := hC.four))
          go_roundw
          case rel => exact ⟨k + 1, by omega, by go_num, by rw [HS.out]; exact hC, hX, hY, hR, hbw⟩
          case measure => simp [intOf]; omega
        · have HS := Lib.hid (sel_yes (fun j => mem x j || mem y j) k (by simp [hx, hy]))
          generalize sel (fun j => mem x j || mem y j) k = z at c0 c1 c2 c3 HS hC
          go_wp2_with (first | (go_at_call 41; refine (rhas_any _ _ _ (by omega) (by omega)).mono ?_; rintro e w1 ⟨rfl, hb1⟩; have hb2 := hbw.trans (hb1.mono hbw.size); clear hbw; have hbw := hb2; clear hb2; have hC2 := hC.grows hb1; clear hC; have hC := hC2; clear hC2; have hX2 := hX.grows hb1; clear hX; have hX := hX2; clear hX2; have hY2 := hY.grows hb1; clear hY; have hY := hY2; clear hY2; have hR2 := hR.grows hb1; clear hR; have hR := hR2; clear hR2; clear hb1 c0 c1 c2 c3 f0 f1 f2 f3 a0 a1 a2 a3 b0 b1 b2 b3; obtain ⟨c0, c1, c2, c3, f0, f1, f2, f3⟩ := hC.four; obtain ⟨a0, a1, a2, a3, -⟩ := hX.four; obtain ⟨b0, b1, b2, b3, -⟩ := hY.four) | (go_at_call 38; refine (rwith_any z _ _ (by omega) (by omega)).mono ?_; rintro e w1 ⟨rfl, hb1⟩; have hb2 := hbw.trans (hb1.mono hbw.size); clear hbw; have hbw := hb2; clear hb2; have hC2 := hC.grows hb1; clear hC; have hC := hC2; clear hC2; have hX2 := hX.grows hb1; clear hX; have hX := hX2; clear hX2; have hY2 := hY.grows hb1; clear hY; have hY := hY2; clear hY2; have hR2 := hR.grows hb1; clear hR; have hR := hR2; clear hR2; clear hb1 c0 c1 c2 c3 f0 f1 f2 f3 a0 a1 a2 a3 b0 b1 b2 b3; obtain ⟨c0, c1, c2, c3, f0, f1, f2, f3⟩ := hC.four))
          go_roundw
          case rel => exact ⟨k + 1, by omega, by go_num, by rw [HS.out]; exact hC.set4 _ _ _ _, hX.other4 (by omega) _ _ _ _, hY.other4 (by omega) _ _ _ _, hR.other4 (by omega) _ _ _ _, below_set4 hbw (by omega) _ _ _ _⟩
          case measure => simp [intOf]; omega
      · have HS := Lib.hid (sel_yes (fun j => mem x j || mem y j) k (by simp [hx]))
        generalize sel (fun j => mem x j || mem y j) k = z at c0 c1 c2 c3 HS hC
        go_wp2_with (first | (go_at_call 41; refine (rhas_any _ _ _ (by omega) (by omega)).mono ?_; rintro e w1 ⟨rfl, hb1⟩; have hb2 := hbw.trans (hb1.mono hbw.size); clear hbw; have hbw := hb2; clear hb2; have hC2 := hC.grows hb1; clear hC; have hC := hC2; clear hC2; have hX2 := hX.grows hb1; clear hX; have hX := hX2; clear hX2; have hY2 := hY.grows hb1; clear hY; have hY := hY2; clear hY2; have hR2 := hR.grows hb1; clear hR; have hR := hR2; clear hR2; clear hb1 c0 c1 c2 c3 f0 f1 f2 f3 a0 a1 a2 a3 b0 b1 b2 b3; obtain ⟨c0, c1, c2, c3, f0, f1, f2, f3⟩ := hC.four; obtain ⟨a0, a1, a2, a3, -⟩ := hX.four; obtain ⟨b0, b1, b2, b3, -⟩ := hY.four) | (go_at_call 38; refine (rwith_any z _ _ (by omega) (by omega)).mono ?_; rintro e w1 ⟨rfl, hb1⟩; have hb2 := hbw.trans (hb1.mono hbw.size); clear hbw; have hbw := hb2; clear hb2; have hC2 := hC.grows hb1; clear hC; have hC := hC2; clear hC2; have hX2 := hX.grows hb1; clear hX; have hX := hX2; clear hX2; have hY2 := hY.grows hb1; clear hY; have hY := hY2; clear hY2; have hR2 := hR.grows hb1; clear hR; have hR := hR2; clear hR2; clear hb1 c0 c1 c2 c3 f0 f1 f2 f3 a0 a1 a2 a3 b0 b1 b2 b3; obtain ⟨c0, c1, c2, c3, f0, f1, f2, f3⟩ := hC.four))
        go_roundw
        case rel => exact ⟨k + 1, by omega, by go_num, by rw [HS.out]; exact hC.set4 _ _ _ _, hX.other4 (by omega) _ _ _ _, hY.other4 (by omega) _ _ _ _, hR.other4 (by omega) _ _ _ _, below_set4 hbw (by omega) _ _ _ _⟩
        case measure => simp [intOf]; omega
    · obtain rfl : k = 256 := by omega
      rw [HF.out] at c0 c1 c2 c3 hC
      obtain ⟨d0, d1, d2, d3, g0, g1, g2, g3⟩ := hR.four
      go_wp2
      refine bodyPost_ret (results_cell_row rfl _ _ (w.heap.size + 2) 24 _ (0, 0) _ rfl (hR.set4 _ _ _ _).is Tryd.underlying24 rfl clsSize) rfl ⟨rfl, below_set4 hbw (by omega) _ _ _ _⟩

set_option maxRecDepth 100000 in
set_option maxHeartbeats 1000000 in
theorem rintersect_any (x y : BitVec 256) (w : World) : Calls Tryd.prog 19 #[.agg #[.int .u64 (wd x 0), .int .u64 (wd x 1), .int .u64 (wd x 2), .int .u64 (wd x 3)], .agg #[.int .u64 (wd y 0), .int .u64 (wd y 1), .int .u64 (wd y 2), .int .u64 (wd y 3)]] w fun e w' => e = .returned (.agg #[.int .u64 (wd (x &&& y) 0), .int .u64 (wd (x &&& y) 1), .int .u64 (wd (x &&& y) 2), .int .u64 (wd (x &&& y) 3)]) ∧ Below w.heap.size w w' := by
  have HF := Lib.hid (sel_eq (fun j => mem x j && mem y j) (x &&& y) fun j _ => BitVec.getLsbD_and)
  go_enter Tryd.func19, Tryd.ntmps19
  go_wp2
  go_loopw [6] (fun i wr => ∃ k : Nat, k ≤ 256 ∧ i = .int .i64 k ∧ Blk wr (w.heap.size + 3) #[.int .u64 (wd (sel (fun j => mem x j && mem y j) k) 0), .int .u64 (wd (sel (fun j => mem x j && mem y j) k) 1), .int .u64 (wd (sel (fun j => mem x j && mem y j) k) 2), .int .u64 (wd (sel (fun j => mem x j && mem y j) k) 3)] 24 ∧ Blk wr w.heap.size #[.int .u64 (wd x 0), .int .u64 (wd x 1), .int .u64 (wd x 2), .int .u64 (wd x 3)] 24 ∧ Blk wr (w.heap.size + 1) #[.int .u64 (wd y 0), .int .u64 (wd y 1), .int .u64 (wd y 2), .int .u64 (wd y 3)] 24 ∧
      Blk wr (w.heap.size + 2) #[.int .u64 0, .int .u64 0, .int .u64 0, .int .u64 0] 24 ∧ Below w.heap.size w wr) (fun i _ => 256 - (intOf i).toNat)
  case atStart =>
    refine ⟨0, Nat.zero_le _, rfl, ?_, ?_, ?_, ?_, ?_⟩
    · simp only [sel_zero, wd_zero]; exact Blk.alloc3 _ _ _ _ _ _
    · exact (((Blk.new w _ _).alloc _).alloc _).alloc _
    · exact ((Blk.alloc1 w _ _ _ _ _).alloc _).alloc _
    · exact (Blk.alloc2 _ _ _ _ _).alloc _
    · go_grown
  case round =>
    obtain ⟨k, hk, rfl, hC, hX, hY, hR, hbw⟩ := hrel
    obtain ⟨c0, c1, c2, c3, f0, f1, f2, f3⟩ := hC.four
    obtain ⟨a0, a1, a2, a3, -⟩ := hX.four
    obtain ⟨b0, b1, b2, b3, -⟩ := hY.four
    by_cases hlt : k < 256
    · cases hx : mem x k
      · have HS := Lib.hid (sel_no (fun j => mem x j && mem y j) k (by simp [hx]))
        generalize sel (fun j => mem x j && mem y j) k = z at c0 c1 c2 c3 HS hC
        go_wp2_with (first | (go_at_call 41; refine (rhas_any _ _ _ (by omega) (by omega)).mono ?_; rintro e w1 ⟨rfl, hb1⟩; have hb2 := hbw.trans (hb1.mono hbw.size); clear hbw; have hbw := hb2; clear hb2; have hC2 := hC.grows hb1; clear hC; have hC := hC2; clear hC2; have hX2 := hX.grows hb1; clear hX; have hX := hX2; clear hX2; have hY2 := hY.grows hb1; clear hY; have hY := hY2; clear hY2; have hR2 := hR.grows hb1; clear hR; have hR := hR2; clear hR2; clear hb1 c0 c1 c2 c3 f0 f1 f2 f3 a0 a1 a2 a3 b0 b1 b2 b3; obtain ⟨c0, c1, c2, c3, f0, f1, f2, f3⟩ := hC.four; obtain ⟨a0, a1, a2, a3, -⟩ := hX.four; obtain ⟨b0, b1, b2, b3, -⟩ := hY.four) | (go_at_call 38; refine (rwith_any z _ _ (by omega) (by omega)).mono ?_; rintro e w1 ⟨rfl, hb1⟩; have hb2 := hbw.trans (hb1.mono hbw.size); clear hbw; have hbw := hb2; clear hb2; have hC2 := hC.grows hb1; clear hC; have hC := hC2; clear hC2; have hX2 := hX.grows hb1; clear hX; have hX := hX2; clear hX2; have hY2 := hY.grows hb1; clear hY; have hY := hY2; clear hY2; have hR2 := hR.grows hb1; clear hR; have hR := hR2; clear hR2; clear hb1 c0 c1 c2 c3 f0 f1 f2 f3 a0 a1 a2 a3 b0 b1 b2 b3; obtain ⟨c0, c1, c2, c3, f0, f1, f2, f3⟩ := hC.four))
        go_roundw
        case rel => exact ⟨k + 1, by omega, by go_num, by rw [HS.out]; exact hC, hX, hY, hR, hbw⟩
        case measure => simp [intOf]; omega
      · cases hy : mem y k
        · have HS := Lib.hid (sel_no (fun j => mem x j && mem y j) k (by simp [hx, hy]))
          generalize sel (fun j => mem x j && mem y j) k = z at c0 c1 c2 c3 HS hC
          go_wp2_with (first | (go_at_call 41; refine (rhas_any _ _ _ (by omega) (by omega)).mono ?_; rintro e w1 ⟨rfl, hb1⟩; have hb2 := hbw.trans (hb1.mono hbw.size); clear hbw; have hbw := hb2; clear hb2; have hC2 := hC.grows hb1; clear hC; have hC := hC2; clear hC2; have hX2 := hX.grows hb1; clear hX; have hX := hX2; clear hX2; have hY2 := hY.grows hb1; clear hY; have hY := hY2; clear hY2; have hR2 := hR.grows hb1; clear hR; have hR := hR2; clear hR2; clear hb1 c0 c1 c2 c3 f0 f1 f2 f3 a0 a1 a2 a3 b0 b1 b2 b3; obtain ⟨c0, c1, c2, c3, f0, f1, f2, f3⟩ := hC.four; obtain ⟨a0, a1, a2, a3, -⟩ := hX.four; obtain ⟨b0, b1, b2, b3, -⟩ := hY.four) | (go_at_call 38; refine (rwith_any z _ _ (by omega) (by omega)).mono ?_; rintro e w1 ⟨rfl, hb1⟩; have hb2 := hbw.trans (hb1.mono hbw.size); clear hbw; have hbw := hb2; clear hb2; have hC2 := hC.grows hb1; clear hC; have hC := hC2; clear hC2; have hX2 := hX.grows hb1; clear hX; have hX := hX2; clear hX2; have hY2 := hY.grows hb1; clear hY; have hY := hY2; clear hY2; have hR2 := hR.grows hb1; clear hR; have hR := hR2; clear hR2; clear hb1 c0 c1 c2 c3 f0 f1 f2 f3 a0 a1 a2 a3 b0 b1 b2 b3; obtain ⟨c0, c1, c2, c3, f0, f1, f2, f3⟩ := hC.four))
          go_roundw
          case rel => exact ⟨k + 1, by omega, by go_num, by rw [HS.out]; exact hC, hX, hY, hR, hbw⟩
          case measure => simp [intOf]; omega
        · have HS := Lib.hid (sel_yes (fun j => mem x j && mem y j) k (by simp [hx, hy]))
          generalize sel (fun j => mem x j && mem y j) k = z at c0 c1 c2 c3 HS hC
          go_wp2_with (first | (go_at_call 41; refine (rhas_any _ _ _ (by omega) (by omega)).mono ?_; rintro e w1 ⟨rfl, hb1⟩; have hb2 := hbw.trans (hb1.mono hbw.size); clear hbw; have hbw := hb2; clear hb2; have hC2 := hC.grows hb1; clear hC; have hC := hC2; clear hC2; have hX2 := hX.grows hb1; clear hX; have hX := hX2; clear hX2; have hY2 := hY.grows hb1; clear hY; have hY := hY2; clear hY2; have hR2 := hR.grows hb1; clear hR; have hR := hR2; clear hR2; clear hb1 c0 c1 c2 c3 f0 f1 f2 f3 a0 a1 a2 a3 b0 b1 b2 b3; obtain ⟨c0, c1, c2, c3, f0, f1, f2, f3⟩ := hC.four; obtain ⟨a0, a1, a2, a3, -⟩ := hX.four; obtain ⟨b0, b1, b2, b3, -⟩ := hY.four) | (go_at_call 38; refine (rwith_any z _ _ (by omega) (by omega)).mono ?_; rintro e w1 ⟨rfl, hb1⟩; have hb2 := hbw.trans (hb1.mono hbw.size); clear hbw; have hbw := hb2; clear hb2; have hC2 := hC.grows hb1; clear hC; have hC := hC2; clear hC2; have hX2 := hX.grows hb1; clear hX; have hX := hX2; clear hX2; have hY2 := hY.grows hb1; clear hY; have hY := hY2; clear hY2; have hR2 := hR.grows hb1; clear hR; have hR := hR2; clear hR2; clear hb1 c0 c1 c2 c3 f0 f1 f2 f3 a0 a1 a2 a3 b0 b1 b2 b3; obtain ⟨c0, c1, c2, c3, f0, f1, f2, f3⟩ := hC.four))
          go_roundw
          case rel => exact ⟨k + 1, by omega, by go_num, by rw [HS.out]; exact hC.set4 _ _ _ _, hX.other4 (by omega) _ _ _ _, hY.other4 (by omega) _ _ _ _, hR.other4 (by omega) _ _ _ _, below_set4 hbw (by omega) _ _ _ _⟩
          case measure => simp [intOf]; omega
    · obtain rfl : k = 256 := by omega
      rw [HF.out] at c0 c1 c2 c3 hC
      obtain ⟨d0, d1, d2, d3, g0, g1, g2, g3⟩ := hR.four
      go_wp2
      refine bodyPost_ret (results_cell_row rfl _ _ (w.heap.size + 2) 24 _ (0, 0) _ rfl (hR.set4 _ _ _ _).is Tryd.underlying24 rfl clsSize) rfl ⟨rfl, below_set4 hbw (by omega) _ _ _ _⟩

end Go.Proofs.YthhlehhienndeaaDoor
