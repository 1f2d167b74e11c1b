/-
  Walk: sanity.
-/
import Derived.Test.YtmhhfommgdljkaaLs
set_option linter.unusedSimpArgs false
set_option linter.unusedVariables false
namespace Go.Proofs.Ytmhhfommgdljkaa
open Go Go.RowKit Go.Lib

set_option maxRecDepth 100000 in
set_option maxHeartbeats 8000000 in
theorem sanity_any (w : World) : Calls Try.prog 8 #[] w fun e w' => e = .returned (.bool true) ∧ Below w.heap.size w w' := by
  go_enter Try.func8, Try.ntmps8
  go_upto_region 2 with fail
  refine wp_world fun w1 hw1 => ?_
  have S1 : IsS w1 (.agg #[.slice (some ⟨w.heap.size, 0, none⟩) 2 2, .slice (some ⟨w.heap.size + 1 + 1 + 1, 0, none⟩) 2 2]) sysS := by
    rw [hw1]
    exact ⟨_, _, rfl, isI_blk (l := [3, 3]) (((((blk_at rfl).alloc _).alloc _).alloc _).alloc _) rfl (by omega), isRs_two (r := ⟨[1, 1], -4⟩) (q := ⟨[1, -1], 0⟩) ((blk_at (by simp)).alloc _) (isI_blk (l := [1, 1]) ((((blk_at (by simp)).alloc _).alloc _).alloc _) rfl (by omega)) (isI_blk (l := [1, -1]) (((blk_at (by simp)).alloc _).alloc _) rfl (by omega))⟩
  have B1 : Blk w1 (w.heap.size + 1 + 1 + 1 + 1) #[.slice (some ⟨w.heap.size, 0, none⟩) 2 2, .slice (some ⟨w.heap.size + 1 + 1 + 1, 0, none⟩) 2 2] 25 := by
    rw [hw1]; exact blk_at (by simp)
  have R1 : Blk w1 (w.heap.size + 1 + 1 + 1) #[.slice (some ⟨w.heap.size + 1, 0, none⟩) 2 2, .int .i64 (-4), .slice (some ⟨w.heap.size + 1 + 1, 0, none⟩) 2 2, .int .i64 0] 37 := by
    rw [hw1]; exact (blk_at (by simp)).alloc _
  have I1 : IsI w1 (.slice (some ⟨w.heap.size + 1, 0, none⟩) 2 2) [1, 1] := by
    rw [hw1]; exact isI_blk (l := [1, 1]) ((((blk_at (by simp)).alloc _).alloc _).alloc _) rfl (by omega)
  have hb1 : Below w.heap.size w w1 := by rw [hw1]; go_grown
  clear hw1
  obtain ⟨a0, ha0⟩ : ∃ b, w.heap.size = b := ⟨_, rfl⟩
  obtain ⟨a1, ha1⟩ : ∃ b, a0 + 1 = b := ⟨_, rfl⟩
  obtain ⟨a3, ha3⟩ : ∃ b, a1 + 1 + 1 = b := ⟨_, rfl⟩
  obtain ⟨a4, ha4⟩ : ∃ b, a3 + 1 = b := ⟨_, rfl⟩
  have HBa := Lib.hid hb1
  clear hb1
  simp only [ha0, ha1, ha3, ha4] at S1 B1 R1 I1 ⊢
  have HS1 := Lib.hid S1
  have HB1 := Lib.hid B1
  have HR1 := Lib.hid R1
  have HI1 := Lib.hid I1
  clear S1 B1 R1 I1 ha0 ha1 ha3 ha4
  go_upto_region 3 with fail
  refine wp_world fun w2 hw2 => ?_
  have S2 : IsS w2 (.agg #[.slice (some ⟨w1.heap.size, 0, none⟩) 1 1, .slice (some ⟨w1.heap.size + 1 + 1 + 1, 0, none⟩) 2 2]) sysT := by
    rw [hw2]
    exact ⟨_, _, rfl, isI_blk (l := [5]) (((((blk_at rfl).alloc _).alloc _).alloc _).alloc _) rfl (by omega), isRs_two (r := ⟨[2], -3⟩) (q := ⟨[-2], 3⟩) ((blk_at (by simp)).alloc _) (isI_blk (l := [2]) ((((blk_at (by simp)).alloc _).alloc _).alloc _) rfl (by omega)) (isI_blk (l := [-2]) (((blk_at (by simp)).alloc _).alloc _) rfl (by omega))⟩
  have B2 : Blk w2 (w1.heap.size + 1 + 1 + 1 + 1) #[.slice (some ⟨w1.heap.size, 0, none⟩) 1 1, .slice (some ⟨w1.heap.size + 1 + 1 + 1, 0, none⟩) 2 2] 25 := by
    rw [hw2]; exact blk_at (by simp)
  have hb2 : Below w1.heap.size w1 w2 := by rw [hw2]; go_grown
  clear hw2
  have HS1 := Lib.hid (HS1.out.grows hb2)
  have HB1 := Lib.hid (HB1.out.grows hb2)
  have HR1 := Lib.hid (HR1.out.grows hb2)
  have HI1 := Lib.hid (HI1.out.grows hb2)
  have HBa := Lib.hid (below_two HBa.out hb2)
  clear hb2
  obtain ⟨d0, ha0⟩ : ∃ b, w1.heap.size = b := ⟨_, rfl⟩
  obtain ⟨d3, ha3⟩ : ∃ b, d0 + 1 + 1 + 1 = b := ⟨_, rfl⟩
  obtain ⟨d4, ha4⟩ : ∃ b, d3 + 1 = b := ⟨_, rfl⟩
  simp only [ha0, ha3, ha4] at S2 B2 ⊢
  have HS2 := Lib.hid S2
  have HB2 := Lib.hid B2
  clear S2 B2 ha0 ha3 ha4
  go_upto_region 4 with fail
  refine wp_world fun w3 hw3 => ?_
  have P3 : IsP w3 (.slice (some ⟨w2.heap.size + 1, 0, none⟩) 3 3) prfP := by
    rw [hw3]
    exact isP_blk (t0 := ⟨2, [], 0, 2, 0, 0, 1, 0⟩) (t1 := ⟨1, [0, 1, 0, 0, 2], 0, 0, 0, 0, 2, 0⟩) (t2 := ⟨4, [], 0, 0, 0, 0, 0, 0⟩) (u0 := .slice none 0 0) (u2 := .slice none 0 0) (blk_at (by simp)) (IsI.nil _) (isI_blk (l := [0, 1, 0, 0, 2]) ((blk_at rfl).alloc _) rfl (by omega)) (IsI.nil _)
  have hb3 : Below w2.heap.size w2 w3 := by rw [hw3]; go_grown
  clear hw3
  have HS1 := Lib.hid (HS1.out.grows hb3)
  have HB1 := Lib.hid (HB1.out.grows hb3)
  have HR1 := Lib.hid (HR1.out.grows hb3)
  have HI1 := Lib.hid (HI1.out.grows hb3)
  have HS2 := Lib.hid (HS2.out.grows hb3)
  have HB2 := Lib.hid (HB2.out.grows hb3)
  have HBa := Lib.hid (below_two HBa.out hb3)
  clear hb3
  obtain ⟨q1, hq1⟩ : ∃ b, w2.heap.size + 1 = b := ⟨_, rfl⟩
  simp only [hq1] at P3 ⊢
  have HP := Lib.hid P3
  clear P3 hq1
  have c0 := HB1.out.cell 0 rfl
  have c1 := HB1.out.cell 1 rfl
  go_wp2_with fail
  refine (solveS_any _ w3 HS1.out).mono ?_
  rintro e w4 ⟨vx, rfl, hx, hb4⟩
  obtain ⟨px, cx, rfl, -⟩ := hx.shape
  have HX := Lib.hid hx
  have HS1 := Lib.hid (HS1.out.grows hb4)
  have HB1 := Lib.hid (HB1.out.grows hb4)
  have HR1 := Lib.hid (HR1.out.grows hb4)
  have HI1 := Lib.hid (HI1.out.grows hb4)
  have HS2 := Lib.hid (HS2.out.grows hb4)
  have HB2 := Lib.hid (HB2.out.grows hb4)
  have HP := Lib.hid (HP.out.grows hb4)
  have HBa := Lib.hid (below_two HBa.out hb4)
  clear hx hb4 c0 c1
  have c0 := HB2.out.cell 0 rfl
  have c1 := HB2.out.cell 1 rfl
  go_wp2_with fail
  refine (solveT_any _ w4 HS2.out).mono ?_
  rintro e w5 ⟨vq, N, rfl, hN, hNc, hb5⟩
  have HN := Lib.hid hN.isP
  have HNc := Lib.hid hNc
  obtain ⟨pq, cq, rfl, -⟩ := hN.isP.shape
  have HS1 := Lib.hid (HS1.out.grows hb5)
  have HB1 := Lib.hid (HB1.out.grows hb5)
  have HR1 := Lib.hid (HR1.out.grows hb5)
  have HI1 := Lib.hid (HI1.out.grows hb5)
  have HS2 := Lib.hid (HS2.out.grows hb5)
  have HB2 := Lib.hid (HB2.out.grows hb5)
  have HP := Lib.hid (HP.out.grows hb5)
  have HX := Lib.hid (HX.out.grows hb5)
  have HBa := Lib.hid (below_two HBa.out hb5)
  clear hN hNc hb5 c0 c1
  have c0 := HB1.out.cell 0 rfl
  have c1 := HB1.out.cell 1 rfl
  go_wp2_with fail
  refine (projS_any _ w5 HS1.out).mono ?_
  rintro e w6 ⟨rfl, hb6⟩
  have HS1 := Lib.hid (HS1.out.grows hb6)
  have HB1 := Lib.hid (HB1.out.grows hb6)
  have HR1 := Lib.hid (HR1.out.grows hb6)
  have HI1 := Lib.hid (HI1.out.grows hb6)
  have HS2 := Lib.hid (HS2.out.grows hb6)
  have HB2 := Lib.hid (HB2.out.grows hb6)
  have HP := Lib.hid (HP.out.grows hb6)
  have HX := Lib.hid (HX.out.grows hb6)
  have HN := Lib.hid (HN.out.grows hb6)
  have HBa := Lib.hid (below_two HBa.out hb6)
  clear hb6 c0 c1
  have c0 := HB2.out.cell 0 rfl
  have c1 := HB2.out.cell 1 rfl
  go_wp2_with fail
  refine (projT_any _ w6 HS2.out).mono ?_
  rintro e w7 ⟨rfl, hb7⟩
  have HS1 := Lib.hid (HS1.out.grows hb7)
  have HB1 := Lib.hid (HB1.out.grows hb7)
  have HR1 := Lib.hid (HR1.out.grows hb7)
  have HI1 := Lib.hid (HI1.out.grows hb7)
  have HS2 := Lib.hid (HS2.out.grows hb7)
  have HB2 := Lib.hid (HB2.out.grows hb7)
  have HP := Lib.hid (HP.out.grows hb7)
  have HX := Lib.hid (HX.out.grows hb7)
  have HN := Lib.hid (HN.out.grows hb7)
  have HBa := Lib.hid (below_two HBa.out hb7)
  clear hb7 c0 c1
  go_wp2_with fail
  refine (solve_bad _ ⟨[], []⟩ w7 ⟨_, _, rfl, IsI.nil _, IsRs.nil _⟩ ⟨by simp, by simp, by simp⟩ valE).mono ?_
  rintro e w8 ⟨hb8, rfl⟩
  have HS1 := Lib.hid (HS1.out.grows hb8)
  have HB1 := Lib.hid (HB1.out.grows hb8)
  have HR1 := Lib.hid (HR1.out.grows hb8)
  have HI1 := Lib.hid (HI1.out.grows hb8)
  have HS2 := Lib.hid (HS2.out.grows hb8)
  have HB2 := Lib.hid (HB2.out.grows hb8)
  have HP := Lib.hid (HP.out.grows hb8)
  have HX := Lib.hid (HX.out.grows hb8)
  have HN := Lib.hid (HN.out.grows hb8)
  have HBa := Lib.hid (below_two HBa.out hb8)
  clear hb8
  go_wp2_with fail
  have hba : Below w8.heap.size w8 (w8.alloc (.cells #[.int .i64 64, .int .i64 64, .int .i64 4] 3)) := by go_grown
  refine (solve_big _ ⟨[64, 64, 4], []⟩ _ ⟨_, _, rfl, isI_blk (n := 3) (l := [64, 64, 4]) (blk_at rfl) rfl (by omega), IsRs.nil _⟩ valB smaB).mono ?_
  rintro e w9 ⟨hb9', rfl⟩
  have hb9 := below_two hba hb9'
  have HS1 := Lib.hid (HS1.out.grows hb9)
  have HB1 := Lib.hid (HB1.out.grows hb9)
  have HR1 := Lib.hid (HR1.out.grows hb9)
  have HI1 := Lib.hid (HI1.out.grows hb9)
  have HS2 := Lib.hid (HS2.out.grows hb9)
  have HB2 := Lib.hid (HB2.out.grows hb9)
  have HP := Lib.hid (HP.out.grows hb9)
  have HX := Lib.hid (HX.out.grows hb9)
  have HN := Lib.hid (HN.out.grows hb9)
  have HBa := Lib.hid (below_two HBa.out hb9)
  clear hb9 hb9' hba
  go_wp2_with fail
  have HNl := Lib.hid (show N.length ≤ 65536 by
    have h := HNc.out
    unfold checkB shapedB at h
    simp only [Bool.and_eq_true, decide_eq_true_iff] at h
    exact h.2.1.1.2)
  refine to_named (regionIn Try.prog 8 10) (by kernel_rfl) ?_
  refine wp_region_rel (n0 := w9.heap.size) (sanR ⟨a0, a1, a3, a4, d0, d3, d4, q1, cx, cq, px, pq, N⟩) (by kernel_rfl) (Nat.le_refl _) (fun i v w w' h hb => Fact.grows _ v w w' h hb) (by kernel_rfl) (by kernel_rfl) (san_duties ⟨by kernel_rfl, by kernel_rfl, by kernel_rfl, by kernel_rfl, by kernel_rfl, by kernel_rfl, by kernel_rfl, by kernel_rfl, by kernel_rfl, by kernel_rfl, by kernel_rfl, by kernel_rfl, by kernel_rfl, by kernel_rfl, by kernel_rfl, by kernel_rfl, HS1.out, HB1.out, HR1.out, HI1.out, HS2.out, HB2.out, HP.out, HX.out, HN.out, HNl.out, HNc.out⟩) ?_
  intro a z hb hsz hdef hold hnew
  obtain ⟨v, e0, r0⟩ := hnew 91 0 (by kernel_rfl)
  obtain rfl : v = .bool true := r0
  have hend := below_two HBa.out hb
  obtain ⟨T, D⟩ := a
  obtain rfl : D = [] := hdef
  go_wp2
  exact ⟨rfl, .bool true, results_one (by kernel_rfl) e0, rfl, hend⟩
end Go.Proofs.Ytmhhfommgdljkaa
