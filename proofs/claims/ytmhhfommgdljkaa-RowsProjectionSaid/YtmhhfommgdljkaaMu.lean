/-
  Walk: the reference's Unit.
-/
import Derived.Test.YtmhhfommgdljkaaLa
set_option linter.unusedSimpArgs false
set_option linter.unusedVariables false
namespace Go.Proofs.Ytmhhfommgdljkaa
open Go.RowKit Go.Lib

set_option maxRecDepth 100000 in
set_option maxHeartbeats 1000000 in
theorem unit_any (n i : Nat) (a k : Int) (w : World) (hi : i < n) (hn : n ≤ 1000) :
    Calls Try.prog 19 #[.int .i64 n, .int .i64 i, .int .i64 a, .int .i64 k] w (RowRes w ⟨(List.replicate n 0).set i a, k⟩) := by
  obtain ⟨ii, hii, hi0, hi1, hi2⟩ := info_parts infoI
  have HMd := Lib.hid (made_ints n)
  go_enter Try.func19, Try.ntmps19
  go_upto_region 2 with (first
    | (at_make; refine wpList_make_row _ rfl _ _ 22 rfl 3 ii _ Try.underlying22 hii hi0 hi1 rfl _ _ n rfl rfl (by rw [hi2]; omega) (by omega) ?_; rw [HMd.out])
    | fail)
  refine wp_world fun w2 hw2 => ?_
  have R2 : Blk w2 w.heap.size #[.slice none 0 0, .int .i64 0] 37 := by rw [hw2]; exact ((Blk.new w _ _).alloc _).alloc _
  have M2 : Blk w2 (w.heap.size + 1) (intsA (List.replicate n 0)) 3 := by rw [hw2]; exact (Blk.alloc1 w _ _ _ _ _).alloc _
  have S2 : Blk w2 (w.heap.size + 1 + 1) #[.slice (some ⟨w.heap.size + 1, 0, none⟩) n n, .int .i64 k] 37 := by rw [hw2]; exact Blk.alloc2 w _ _ _ _
  have hb2 : Below w.heap.size w w2 := by rw [hw2]; go_grown
  clear hw2
  have s0 := S2.cell 0 rfl
  have m0 := M2.cell i (intsA_get (unit_at n i hi))
  have g0 := M2.free i
  have HM := Lib.hid M2
  have HS := Lib.hid S2
  have HR := Lib.hid R2
  have HB := Lib.hid hb2
  have hml := M2.lt
  clear M2 S2 R2 hb2
  go_upto_region 3 with fail
  refine wp_world fun w3 hw3 => ?_
  have M3 : Blk w3 (w.heap.size + 1) (intsA ((List.replicate n 0).set i a)) 3 := by rw [hw3, ← intsA_set]; exact HM.out.set i _
  have S3 : Blk w3 (w.heap.size + 1 + 1) #[.slice (some ⟨w.heap.size + 1, 0, none⟩) n n, .int .i64 k] 37 := by rw [hw3]; exact HS.out.other (by show _ ≠ w.heap.size + 1; omega) _
  have R3 : Blk w3 w.heap.size #[.slice none 0 0, .int .i64 0] 37 := by rw [hw3]; exact HR.out.other (by show _ ≠ w.heap.size + 1; omega) _
  have hb3 : Below w.heap.size w w3 := by rw [hw3]; exact HB.out.setCell (p := ⟨w.heap.size + 1, i, none⟩) (by show _ ≤ w.heap.size + 1; omega) _
  clear hw3 s0 m0 g0 hml HM HS HR HB
  have s0 := S3.cell 0 rfl
  have s1 := S3.cell 1 rfl
  have r0 := R3.cell 0 rfl
  have r1 := R3.cell 1 rfl
  have f0 := R3.free 0
  have f1 := R3.free 1
  have HR3 := Lib.hid ((R3.set 0 (.slice (some ⟨w.heap.size + 1, 0, none⟩) n n)).set 1 (.int .i64 k))
  have HM := Lib.hid (M3.other (a := ⟨w.heap.size, 0, none⟩) (by show _ ≠ w.heap.size; omega) (.slice (some ⟨w.heap.size + 1, 0, none⟩) n n) |>.other (a := ⟨w.heap.size, 1, none⟩) (by show _ ≠ w.heap.size; omega) (.int .i64 k))
  have HB := Lib.hid ((hb3.setCell (p := ⟨w.heap.size, 0, none⟩) (Nat.le_refl _) (.slice (some ⟨w.heap.size + 1, 0, none⟩) n n)).setCell (p := ⟨w.heap.size, 1, none⟩) (Nat.le_refl _) (.int .i64 k))
  have hlt := R3.lt
  clear M3 S3 R3 hb3
  go_wp2
  refine at_world fun W hW => ?_
  have RW : Blk W w.heap.size #[.slice (some ⟨w.heap.size + 1, 0, none⟩) n n, .int .i64 k] 37 := by rw [hW]; exact HR3.out
  have q0 := RW.cell 0 rfl
  have q1 := RW.cell 1 rfl
  have hI : OwnI w.heap.size W (.slice (some ⟨w.heap.size + 1, 0, none⟩) ((List.replicate n (0 : Int)).set i a).length ((List.replicate n (0 : Int)).set i a).length) ((List.replicate n (0 : Int)).set i a) := by
    rw [hW]; exact own_ints HM.out (by simp; unfold maxLen; omega) (by omega)
  have hBW : Below w.heap.size w W := by rw [hW]; exact HB.out
  have hI2 := hI
  simp only [List.length_set, List.length_replicate] at hI2
  clear hW RW hI s0 s1 r0 r1 f0 f1 hlt
  refine bodyPost_ret (v := .agg #[.slice (some ⟨w.heap.size + 1, 0, none⟩) n n, .int .i64 k]) ?_ rfl ⟨_, rfl, hI2, hBW⟩
  simp [results, Try.results19, go_sem, q0, q1]
end Go.Proofs.Ytmhhfommgdljkaa
