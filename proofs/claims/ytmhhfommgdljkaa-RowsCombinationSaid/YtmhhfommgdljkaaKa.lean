/-
  Walks: absurd, atLeast, atMost, split, children.
-/
import Derived.Test.YtmhhfommgdljkaaRg
set_option linter.unusedSimpArgs false
set_option linter.unusedVariables false
namespace Go.Proofs.Ytmhhfommgdljkaa
open Go.RowKit Go.Lib

set_option maxRecDepth 100000 in
set_option maxHeartbeats 1000000 in
theorem absurd_any (u : Value) (r : Rw) (w : World) (hu : IsI w u r.A) (hl : r.A.length ≤ 1000) :
    Calls Try.prog 42 #[.agg #[u, .int .i64 r.C]] w fun e w' => e = .returned (.bool (absurdB r)) ∧ Below w.heap.size w w' := by
  obtain ⟨p, cp, rfl, hcp⟩ := hu.shape
  have HU := Lib.hid (fun W (hW : Below w.heap.size w W) => hu.grows hW)
  clear hu
  go_enter Try.func42, Try.ntmps42
  go_wp2
  have hbw1 : Below w.heap.size w (w.alloc (.cells #[.slice p r.A.length cp, .int .i64 r.C] 37)) := by go_grown
  have D1 := Blk.new w #[.slice p r.A.length cp, .int .i64 r.C] 37
  generalize (w.alloc (.cells #[.slice p r.A.length cp, .int .i64 r.C] 37)) = w1 at D1 hbw1 ⊢
  have c1 := D1.cell 1 rfl
  have HW := Lib.hid hbw1
  clear D1 hbw1
  go_loop [8] (fun kv => ∃ k : Nat, k ≤ r.A.length ∧ kv = .int .i64 k ∧ ∀ (j : Nat) (y : Int), j < k → r.A[j]? = some y → decide (y ≤ 0) = true) (fun kv => r.A.length - (RowKit.intOf kv).toNat)
  case atStart => exact ⟨0, Nat.zero_le _, rfl, fun j y hj => by omega⟩
  case round =>
    obtain ⟨k, hk, rfl, hno⟩ := hrel
    have HN := Lib.hid hno
    clear hno
    by_cases hlt : k < r.A.length
    · obtain ⟨x, hx⟩ := get_of_lt hlt
      obtain ⟨b1, o1, rfl, cx⟩ := (HU.out _ HW.out).at hx
      have HX := Lib.hid hx
      clear hx
      by_cases h1 : 0 < x
      · have HF := Lib.hid (show absurdB r = false by unfold absurdB; rw [all_no HX.out (by simp; omega)]; rfl)
        go_wp2
        go_ret
        exact ⟨ret_bool HF.out.symm, HW.out⟩
      · go_wp2
        go_round
        case rel => exact ⟨k + 1, by omega, by go_num, all_snoc HN.out HX.out (by simp; omega)⟩
        case measure => simp [RowKit.intOf]; omega
    · have HE := Lib.hid (show absurdB r = decide (r.C < 0) by unfold absurdB; rw [all_of_get (by omega) HN.out]; rfl)
      obtain rfl : k = r.A.length := by omega
      go_wp2
      go_ret
      exact ⟨ret_bool HE.out.symm, HW.out⟩
theorem unit_at (n i : Nat) (hi : i < n) : (List.replicate n (0 : Int))[i]? = some 0 := by rw [List.getElem?_replicate, if_pos hi]
theorem OwnI.isI {base : Nat} {w : World} {v : Value} {l : List Int} (h : OwnI base w v l) : IsI w v l := own_isI h
theorem OwnI.grows {base : Nat} {w w' : World} {v : Value} {l : List Int} (h : OwnI base w v l) (hb : Below w.heap.size w w') : OwnI base w' v l := h.keep (KeptTy.below hb)
theorem OwnI.low {a b : Nat} {w : World} {v : Value} {l : List Int} (h : OwnI b w v l) (hab : a ≤ b) : OwnI a w v l := by
  refine ⟨h.1, ?_⟩
  rcases h.2 with h2 | ⟨g, cap, cur, hv, hb, r⟩
  · exact .inl h2
  · exact .inr ⟨g, cap, cur, hv, Nat.le_trans hab hb, r⟩
def RowRes (w : World) (r : Rw) (e : Ending) (w' : World) : Prop := ∃ u, e = .returned (.agg #[u, .int .i64 r.C]) ∧ OwnI w.heap.size w' u r.A ∧ Below w.heap.size w w'
set_option maxRecDepth 100000 in
set_option maxHeartbeats 1000000 in
theorem atLeast_any (n i : Nat) (k : Int) (w : World) (hi : i < n) (hn : n ≤ 1000) (hk : -2000000 ≤ k ∧ k ≤ 2000000) :
    Calls Try.prog 37 #[.int .i64 n, .int .i64 i, .int .i64 k] w (RowRes w (atLeast n i k)) := by
  obtain ⟨ii, hii, hi0, hi1, hi2⟩ := info_parts infoI
  obtain ⟨k1, k2⟩ := hk
  have HMd := Lib.hid (made_ints n)
  go_enter Try.func37, Try.ntmps37
  go_upto_region 2 with (first
    | (at_make; refine wpList_make_row _ rfl _ _ 22 rfl 3 ii _ Try.underlying22 hii hi0 hi1 rfl _ _ n rfl rfl (by rw [hi2]; omega) (by omega) ?_; rw [HMd.out])
    | fail)
  refine wp_world fun w2 hw2 => ?_
  have R2 : Blk w2 w.heap.size #[.slice none 0 0, .int .i64 0] 37 := by rw [hw2]; exact ((Blk.new w _ _).alloc _).alloc _
  have M2 : Blk w2 (w.heap.size + 1) (intsA (List.replicate n 0)) 3 := by rw [hw2]; exact (Blk.alloc1 w _ _ _ _ _).alloc _
  have S2 : Blk w2 (w.heap.size + 1 + 1) #[.slice (some ⟨w.heap.size + 1, 0, none⟩) n n, .int .i64 (-k)] 37 := by rw [hw2]; exact Blk.alloc2 w _ _ _ _
  have hb2 : Below w.heap.size w w2 := by rw [hw2]; go_grown
  clear hw2
  have s0 := S2.cell 0 rfl
  have m0 := M2.cell i (intsA_get (unit_at n i hi))
  have g0 := M2.free i
  have HM := Lib.hid M2
  have HS := Lib.hid S2
  have HR := Lib.hid R2
  have HB := Lib.hid hb2
  have hml := M2.lt
  clear M2 S2 R2 hb2
  go_upto_region 3 with fail
  refine wp_world fun w3 hw3 => ?_
  have M3 : Blk w3 (w.heap.size + 1) (intsA ((List.replicate n 0).set i 1)) 3 := by rw [hw3, ← intsA_set]; exact HM.out.set i _
  have S3 : Blk w3 (w.heap.size + 1 + 1) #[.slice (some ⟨w.heap.size + 1, 0, none⟩) n n, .int .i64 (-k)] 37 := by rw [hw3]; exact HS.out.other (by show _ ≠ w.heap.size + 1; omega) _
  have R3 : Blk w3 w.heap.size #[.slice none 0 0, .int .i64 0] 37 := by rw [hw3]; exact HR.out.other (by show _ ≠ w.heap.size + 1; omega) _
  have hb3 : Below w.heap.size w w3 := by rw [hw3]; exact HB.out.setCell (p := ⟨w.heap.size + 1, i, none⟩) (by show _ ≤ w.heap.size + 1; omega) _
  clear hw3 s0 m0 g0 hml HM HS HR HB
  have s0 := S3.cell 0 rfl
  have s1 := S3.cell 1 rfl
  have r0 := R3.cell 0 rfl
  have r1 := R3.cell 1 rfl
  have f0 := R3.free 0
  have f1 := R3.free 1
  have HR3 := Lib.hid ((R3.set 0 (.slice (some ⟨w.heap.size + 1, 0, none⟩) n n)).set 1 (.int .i64 (-k)))
  have HM := Lib.hid (M3.other (a := ⟨w.heap.size, 0, none⟩) (by show _ ≠ w.heap.size; omega) (.slice (some ⟨w.heap.size + 1, 0, none⟩) n n) |>.other (a := ⟨w.heap.size, 1, none⟩) (by show _ ≠ w.heap.size; omega) (.int .i64 (-k)))
  have HB := Lib.hid ((hb3.setCell (p := ⟨w.heap.size, 0, none⟩) (Nat.le_refl _) (.slice (some ⟨w.heap.size + 1, 0, none⟩) n n)).setCell (p := ⟨w.heap.size, 1, none⟩) (Nat.le_refl _) (.int .i64 (-k)))
  have hlt := R3.lt
  clear M3 S3 R3 hb3
  go_wp2
  refine at_world fun W hW => ?_
  have RW : Blk W w.heap.size #[.slice (some ⟨w.heap.size + 1, 0, none⟩) n n, .int .i64 (-k)] 37 := by rw [hW]; exact HR3.out
  have q0 := RW.cell 0 rfl
  have q1 := RW.cell 1 rfl
  have hI : OwnI w.heap.size W (.slice (some ⟨w.heap.size + 1, 0, none⟩) ((List.replicate n (0 : Int)).set i 1).length ((List.replicate n (0 : Int)).set i 1).length) ((List.replicate n (0 : Int)).set i 1) := by
    rw [hW]; exact own_ints HM.out (by simp; unfold maxLen; omega) (by omega)
  have hBW : Below w.heap.size w W := by rw [hW]; exact HB.out
  have hI2 := hI
  simp only [List.length_set, List.length_replicate] at hI2
  clear hW RW hI s0 s1 r0 r1 f0 f1 hlt
  refine bodyPost_ret (v := .agg #[.slice (some ⟨w.heap.size + 1, 0, none⟩) n n, .int .i64 (-k)]) ?_ rfl ⟨_, rfl, hI2, hBW⟩
  simp [results, Try.results37, go_sem, q0, q1]
set_option maxRecDepth 100000 in
set_option maxHeartbeats 1000000 in
theorem atMost_any (n i : Nat) (k : Int) (w : World) (hi : i < n) (hn : n ≤ 1000) (hk : -2000000 ≤ k ∧ k ≤ 2000000) :
    Calls Try.prog 38 #[.int .i64 n, .int .i64 i, .int .i64 k] w (RowRes w (atMost n i k)) := by
  obtain ⟨ii, hii, hi0, hi1, hi2⟩ := info_parts infoI
  obtain ⟨k1, k2⟩ := hk
  have HMd := Lib.hid (made_ints n)
  go_enter Try.func38, Try.ntmps38
  go_upto_region 2 with (first
    | (at_make; refine wpList_make_row _ rfl _ _ 22 rfl 3 ii _ Try.underlying22 hii hi0 hi1 rfl _ _ n rfl rfl (by rw [hi2]; omega) (by omega) ?_; rw [HMd.out])
    | fail)
  refine wp_world fun w2 hw2 => ?_
  have R2 : Blk w2 w.heap.size #[.slice none 0 0, .int .i64 0] 37 := by rw [hw2]; exact ((Blk.new w _ _).alloc _).alloc _
  have M2 : Blk w2 (w.heap.size + 1) (intsA (List.replicate n 0)) 3 := by rw [hw2]; exact (Blk.alloc1 w _ _ _ _ _).alloc _
  have S2 : Blk w2 (w.heap.size + 1 + 1) #[.slice (some ⟨w.heap.size + 1, 0, none⟩) n n, .int .i64 k] 37 := by rw [hw2]; exact Blk.alloc2 w _ _ _ _
  have hb2 : Below w.heap.size w w2 := by rw [hw2]; go_grown
  clear hw2
  have s0 := S2.cell 0 rfl
  have m0 := M2.cell i (intsA_get (unit_at n i hi))
  have g0 := M2.free i
  have HM := Lib.hid M2
  have HS := Lib.hid S2
  have HR := Lib.hid R2
  have HB := Lib.hid hb2
  have hml := M2.lt
  clear M2 S2 R2 hb2
  go_upto_region 3 with fail
  refine wp_world fun w3 hw3 => ?_
  have M3 : Blk w3 (w.heap.size + 1) (intsA ((List.replicate n 0).set i (-1))) 3 := by rw [hw3, ← intsA_set]; exact HM.out.set i _
  have S3 : Blk w3 (w.heap.size + 1 + 1) #[.slice (some ⟨w.heap.size + 1, 0, none⟩) n n, .int .i64 k] 37 := by rw [hw3]; exact HS.out.other (by show _ ≠ w.heap.size + 1; omega) _
  have R3 : Blk w3 w.heap.size #[.slice none 0 0, .int .i64 0] 37 := by rw [hw3]; exact HR.out.other (by show _ ≠ w.heap.size + 1; omega) _
  have hb3 : Below w.heap.size w w3 := by rw [hw3]; exact HB.out.setCell (p := ⟨w.heap.size + 1, i, none⟩) (by show _ ≤ w.heap.size + 1; omega) _
  clear hw3 s0 m0 g0 hml HM HS HR HB
  have s0 := S3.cell 0 rfl
  have s1 := S3.cell 1 rfl
  have r0 := R3.cell 0 rfl
  have r1 := R3.cell 1 rfl
  have f0 := R3.free 0
  have f1 := R3.free 1
  have HR3 := Lib.hid ((R3.set 0 (.slice (some ⟨w.heap.size + 1, 0, none⟩) n n)).set 1 (.int .i64 k))
  have HM := Lib.hid (M3.other (a := ⟨w.heap.size, 0, none⟩) (by show _ ≠ w.heap.size; omega) (.slice (some ⟨w.heap.size + 1, 0, none⟩) n n) |>.other (a := ⟨w.heap.size, 1, none⟩) (by show _ ≠ w.heap.size; omega) (.int .i64 k))
  have HB := Lib.hid ((hb3.setCell (p := ⟨w.heap.size, 0, none⟩) (Nat.le_refl _) (.slice (some ⟨w.heap.size + 1, 0, none⟩) n n)).setCell (p := ⟨w.heap.size, 1, none⟩) (Nat.le_refl _) (.int .i64 k))
  have hlt := R3.lt
  clear M3 S3 R3 hb3
  go_wp2
  refine at_world fun W hW => ?_
  have RW : Blk W w.heap.size #[.slice (some ⟨w.heap.size + 1, 0, none⟩) n n, .int .i64 k] 37 := by rw [hW]; exact HR3.out
  have q0 := RW.cell 0 rfl
  have q1 := RW.cell 1 rfl
  have hI : OwnI w.heap.size W (.slice (some ⟨w.heap.size + 1, 0, none⟩) ((List.replicate n (0 : Int)).set i (-1)).length ((List.replicate n (0 : Int)).set i (-1)).length) ((List.replicate n (0 : Int)).set i (-1)) := by
    rw [hW]; exact own_ints HM.out (by simp; unfold maxLen; omega) (by omega)
  have hBW : Below w.heap.size w W := by rw [hW]; exact HB.out
  have hI2 := hI
  simp only [List.length_set, List.length_replicate] at hI2
  clear hW RW hI s0 s1 r0 r1 f0 f1 hlt
  refine bodyPost_ret (v := .agg #[.slice (some ⟨w.heap.size + 1, 0, none⟩) n n, .int .i64 k]) ?_ rfl ⟨_, rfl, hI2, hBW⟩
  simp [results, Try.results38, go_sem, q0, q1]
end Go.Proofs.Ytmhhfommgdljkaa
