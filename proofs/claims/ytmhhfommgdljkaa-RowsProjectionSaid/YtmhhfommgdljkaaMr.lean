/-
  Walk: the reference's MadeRow.
-/
import Derived.Test.YtmhhfommgdljkaaMv
import Derived.Test.YtmhhfommgdljkaaLb
import Derived.Deep.DeepCutAuto
set_option linter.unusedSimpArgs false
set_option linter.unusedVariables false
namespace Go.Proofs.Ytmhhfommgdljkaa
open Go.RowKit Go.Lib

/-- a row with small numbers. -/
def SmallR (r : Rw) : Prop := (∀ a ∈ r.A, -6 ≤ a ∧ a ≤ 6) ∧ -20 ≤ r.C ∧ r.C ≤ 20
theorem small_set {y : List Int} {i : Nat} {b : Int} (h : ∀ a ∈ y, -6 ≤ a ∧ a ≤ 6) (hb : -6 ≤ b ∧ b ≤ 6) : ∀ a ∈ y.set i b, -6 ≤ a ∧ a ≤ 6 := fun a ha => by
  rcases List.mem_or_eq_of_mem_set ha with h1 | rfl
  · exact h a h1
  · exact hb
theorem small_zero (n : Nat) : ∀ a ∈ List.replicate n (0 : Int), -6 ≤ a ∧ a ≤ 6 := fun a ha => by
  have := (List.mem_replicate.1 ha).2
  omega
set_option maxRecDepth 100000 in
set_option maxHeartbeats 4000000 in
theorem madeRow_any (v : Value) (r : Rw) (n : Nat) (w : World) (hv : IsI w v r.A) (hn : n ≤ 1000) :
    Calls Try.prog 16 #[.agg #[v, .int .i64 r.C], .int .i64 n] w fun e w' => ∃ q, RowRes w q e w' ∧ q.A.length = n ∧ SmallR q := by
  obtain ⟨xp, xc, rfl, hxc⟩ := hv.shape
  obtain ⟨ii, hii, hi0, hi1, hi2⟩ := info_parts infoI
  have HMd := Lib.hid (made_ints n)
  have HX1 := Lib.hid (fun W (hW : Below w.heap.size w W) => hv.grows hW)
  clear hv
  have hmk := run_make_row (P := Try.prog) 22 3 ii _ Try.underlying22 hii hi0 hi1 rfl .i64 .i64 n (by rw [hi2]; omega) (by omega)
  rw [HMd.out] at hmk
  have HC := Lib.hid (fold_in r.C (lo := -20) (hi := 20) (by decide))
  go_enter Try.func16, Try.ntmps16
  go_upto_region 1 with fail
  go_cut [5] (fun s5 wx => ∃ g h : Nat, s5 = .pointer (some ⟨g, 0, none⟩) ∧ w.heap.size + 2 ≤ g ∧ w.heap.size + 2 ≤ h ∧ g ≠ h ∧ Blk wx g #[.slice (some ⟨h, 0, none⟩) n n, .int .i64 (foldS r.C (-20) 20)] 37 ∧ Blk wx h (intsA (List.replicate n 0)) 3 ∧ Blk wx w.heap.size #[.slice xp r.A.length xc, .int .i64 r.C] 37 ∧ Blk wx (w.heap.size + 1) #[.slice none 0 0, .int .i64 0] 37 ∧ Below w.heap.size w wx)
  case first =>
    go_region_with (first | ((with_reducible refine (fold_any r.C (-20) 20 _ (by decide) (by decide) (by decide)).mono ?_); rintro e w4 ⟨rfl, rfl⟩) | fail)
    all_goals go_wp2_with fail
    all_goals go_meet
    all_goals first
      | exact ⟨w.heap.size + 1 + 1 + 1, w.heap.size + 1 + 1, rfl, by omega, by omega, by omega, (blk_at (by simp)).drew, ((blk_at (by simp)).alloc _).drew, ((((blk_at rfl).alloc _).alloc _).alloc _).drew, (((blk_at (by simp)).alloc _).alloc _).drew, by go_grown⟩
      | exact ⟨w.heap.size + 1 + 1, w.heap.size + 1 + 1 + 1, rfl, by omega, by omega, by omega, ((blk_at (by simp)).alloc _).drew, (blk_at (by simp)).drew, ((((blk_at rfl).alloc _).alloc _).alloc _).drew, (((blk_at (by simp)).alloc _).alloc _).drew, by go_grown⟩
      | fail
  case rest =>
    obtain ⟨g, h, rfl, hg, hh, hgh, hG, hH, hX, hZ, hbw⟩ := hcut
    have HG := Lib.hid hG
    have HH := Lib.hid hH
    have HX := Lib.hid hX
    have HZ := Lib.hid hZ
    have HB := Lib.hid hbw
    have HN := Lib.hid (And.intro hg (And.intro hh hgh))
    clear hG hH hX hZ hbw hg hh hgh hmk
    generalize hcd : foldS r.C (-20) 20 = c at HC HG
    clear hcd
    go_wp2
    go_loopw [6] (fun iv wr => ∃ (i : Nat) (y : List Int), i ≤ n ∧ iv = .int .i64 i ∧ Blk wr h (intsA y) 3 ∧ y.length = n ∧ (∀ a ∈ y, -6 ≤ a ∧ a ≤ 6) ∧ Blk wr g #[.slice (some ⟨h, 0, none⟩) n n, .int .i64 c] 37 ∧ Blk wr w.heap.size #[.slice xp r.A.length xc, .int .i64 r.C] 37 ∧ Blk wr (w.heap.size + 1) #[.slice none 0 0, .int .i64 0] 37 ∧ Below w.heap.size w wr) (fun iv _ => n - (RowKit.intOf iv).toNat)
    case atStart => exact ⟨0, _, Nat.zero_le _, rfl, HH.out, List.length_replicate .., small_zero n, HG.out, HX.out, HZ.out, HB.out⟩
    case round =>
      obtain ⟨i, y, hi, rfl, hM, hy, hbox, hGr, hXr, hZr, hbw⟩ := hrel
      have HMr := Lib.hid hM
      have HGr := Lib.hid hGr
      have HXr := Lib.hid hXr
      have HZr := Lib.hid hZr
      have HWr := Lib.hid hbw
      have HY := Lib.hid hy
      have HBx := Lib.hid hbox
      have g0 := hGr.cell 0 rfl
      have g1 := hGr.cell 1 rfl
      have x0 := hXr.cell 0 rfl
      have z0 := hZr.cell 0 rfl
      have z1 := hZr.cell 1 rfl
      have y0 := hZr.free 0
      have y1 := hZr.free 1
      have zlt := hZr.lt
      clear hM hGr hXr hZr hbw hy hbox
      have fin : ∀ (Q : Prop), (∀ W : World, Blk W (w.heap.size + 1) #[.slice (some ⟨h, 0, none⟩) n n, .int .i64 c] 37 → OwnI w.heap.size W (.slice (some ⟨h, 0, none⟩) n n) y → Below w.heap.size w W → W = (wr.setCell ⟨w.heap.size + 1, 0, none⟩ (.slice (some ⟨h, 0, none⟩) n n)).setCell ⟨w.heap.size + 1, 1, none⟩ (.int .i64 c) → Q) → Q := fun Q hQ => by
        refine hQ _ ((HZr.out.set 0 _).set 1 _) ?_ ((HWr.out.setCell (p := ⟨w.heap.size + 1, 0, none⟩) (by show _ ≤ w.heap.size + 1; omega) _).setCell (p := ⟨w.heap.size + 1, 1, none⟩) (by show _ ≤ w.heap.size + 1; omega) _) rfl
        have hb := own_ints (base := w.heap.size) (HMr.out.other (a := ⟨w.heap.size + 1, 0, none⟩) (by show h ≠ w.heap.size + 1; have := HN.out; omega) (.slice (some ⟨h, 0, none⟩) n n) |>.other (a := ⟨w.heap.size + 1, 1, none⟩) (by show h ≠ w.heap.size + 1; have := HN.out; omega) (.int .i64 c)) (by rw [HY.out]; unfold maxLen; omega) (by have := HN.out; omega)
        rwa [HY.out] at hb
      have HF := Lib.hid fin
      clear fin
      by_cases hlt : i < n
      · by_cases hlx : i < r.A.length
        · obtain ⟨a, ha⟩ := get_of_lt hlx
          obtain ⟨k, hk⟩ := get_of_lt (show i < y.length by rw [HY.out]; exact hlt)
          obtain ⟨b1, o1, rfl, cx⟩ := (HX1.out _ HWr.out).at ha
          have m0 := HMr.out.cell i (intsA_get hk)
          have f0 := HMr.out.free i
          have hml := HMr.out.lt
          clear ha hk z0 z1 y0 y1 zlt
          go_wp2
          go_region_with (first | ((with_reducible refine (fold_any a (-6) 6 _ (by decide) (by decide) (by decide)).mono ?_); rintro e w4 ⟨rfl, rfl⟩) | fail)
          all_goals
            go_wp2
            go_roundw
            case rel =>
              refine ⟨i + 1, y.set i (foldS a (-6) 6), by omega, by go_num, ?_, by rw [List.length_set]; exact HY.out, small_set HBx.out (fold_in a (by decide)), ?_, ?_, ?_, ?_⟩
              · rw [← intsA_set]; exact HMr.out.drew.set i _
              · exact HGr.out.drew.other (by show g ≠ h; exact HN.out.2.2) _
              · exact HXr.out.drew.other (by show _ ≠ h; have := HN.out; omega) _
              · exact HZr.out.drew.other (by show _ ≠ h; have := HN.out; omega) _
              · exact (below_drew HWr.out).setCell (p := ⟨h, i, none⟩) (by show _ ≤ h; have := HN.out; omega) _
            case measure => simp [RowKit.intOf]; omega
        · go_wp2
          refine HF.out _ fun W hW1 hW2 hW3 hW => ?_
          rw [← hW]
          have q0 := hW1.cell 0 rfl
          have q1 := hW1.cell 1 rfl
          clear hW hW1 g0 g1 x0 z0 z1 y0 y1 zlt
          refine bodyPost_ret (v := .agg #[.slice (some ⟨h, 0, none⟩) n n, .int .i64 c]) ?_ rfl ⟨⟨y, c⟩, ⟨_, rfl, hW2, hW3⟩, HY.out, HBx.out, HC.out⟩
          simp [results, Try.results16, go_sem, q0, q1]
      · go_wp2
        refine HF.out _ fun W hW1 hW2 hW3 hW => ?_
        rw [← hW]
        have q0 := hW1.cell 0 rfl
        have q1 := hW1.cell 1 rfl
        clear hW hW1 g0 g1 x0 z0 z1 y0 y1 zlt
        refine bodyPost_ret (v := .agg #[.slice (some ⟨h, 0, none⟩) n n, .int .i64 c]) ?_ rfl ⟨⟨y, c⟩, ⟨_, rfl, hW2, hW3⟩, HY.out, HBx.out, HC.out⟩
        simp [results, Try.results16, go_sem, q0, q1]
end Go.Proofs.Ytmhhfommgdljkaa
