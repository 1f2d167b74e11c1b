/-
  Walk: the reference's MadePoint.
-/
import Derived.Test.YtmhhfommgdljkaaMu
set_option linter.unusedSimpArgs false
set_option linter.unusedVariables false
namespace Go.Proofs.Ytmhhfommgdljkaa
open Go.RowKit Go.Lib

/-- a point of a box. -/
def InBox (y T : List Int) : Prop := ∀ (j : Nat) (a t : Int), y[j]? = some a → T[j]? = some t → 0 ≤ a ∧ a ≤ t
theorem inBox_zero {T : List Int} {n : Nat} (h : ∀ t ∈ T, 0 ≤ t ∧ t ≤ 64) : InBox (List.replicate n 0) T := fun j a t ha ht => by
  have := (List.mem_replicate.1 (List.mem_of_getElem? ha)).2
  have := h t (List.mem_of_getElem? ht)
  omega
theorem inBox_set {y T : List Int} {i : Nat} {b t : Int} (h : InBox y T) (ht : T[i]? = some t) (hb : 0 ≤ b ∧ b ≤ t) : InBox (y.set i b) T := fun j a u ha hu => by
  rw [List.getElem?_set] at ha
  split at ha
  · rename_i e
    subst e
    rw [ht] at hu
    split at ha
    · simp only [Option.some.injEq] at ha hu
      subst ha; subst hu; exact hb
    · cases ha
  · exact h j a u ha hu
set_option maxRecDepth 100000 in
set_option maxHeartbeats 4000000 in
theorem madePoint_any (v x : Value) (s : Sy) (l : List Int) (w : World) (hs : IsS w v s) (hx : IsI w x l) (hn : s.T.length ≤ 1000) (hT : ∀ t ∈ s.T, 0 ≤ t ∧ t ≤ 64) :
    Calls Try.prog 14 #[v, x] w fun e w' => ∃ u y, e = .returned u ∧ OwnI w.heap.size w' u y ∧ y.length = s.T.length ∧ InBox y s.T ∧ Below w.heap.size w w' := by
  obtain ⟨tp, tc, rp, rc, rfl, htc, hrc, hT1, hR1⟩ := hs.shape
  obtain ⟨xp, xc, rfl, hxc⟩ := hx.shape
  obtain ⟨ii, hii, hi0, hi1, hi2⟩ := info_parts infoI
  obtain ⟨n, hnn⟩ : ∃ n, s.T.length = n := ⟨_, rfl⟩
  have HNn := Lib.hid hnn
  rw [hnn] at htc hn hT1 ⊢
  have HMd := Lib.hid (made_ints n)
  have HT1 := Lib.hid (fun W (hW : Below w.heap.size w W) => hT1.grows hW)
  have HX1 := Lib.hid (fun W (hW : Below w.heap.size w W) => hx.grows hW)
  have HTT := Lib.hid hT
  clear hs hx hT1 hR1 hT hnn
  go_enter Try.func14, Try.ntmps14
  go_upto_region 2 with (first
    | (at_make; refine wpList_make_row _ rfl _ _ 22 rfl 3 ii _ Try.underlying22 hii hi0 hi1 rfl _ _ n rfl rfl (by rw [hi2]; omega) (by omega) ?_; rw [HMd.out])
    | fail)
  refine wp_world fun w2 hw2 => ?_
  have D2 : Blk w2 w.heap.size #[.slice tp n tc, .slice rp s.R.length rc] 25 := by rw [hw2]; exact ((Blk.new w _ _)).alloc _
  have M2 : Blk w2 (w.heap.size + 1) (intsA (List.replicate n 0)) 3 := by rw [hw2]; exact (Blk.alloc1 w _ _ _ _)
  have hb2 : Below w.heap.size w w2 := by rw [hw2]; go_grown
  clear hw2
  have HD := Lib.hid D2
  have HM := Lib.hid M2
  have HB := Lib.hid hb2
  clear D2 M2 hb2
  go_wp2
  go_loopw [6] (fun iv wr => ∃ (i : Nat) (y : List Int), i ≤ n ∧ iv = .int .i64 i ∧ Blk wr (w.heap.size + 1) (intsA y) 3 ∧ y.length = n ∧ InBox y s.T ∧ Blk wr w.heap.size #[.slice tp n tc, .slice rp s.R.length rc] 25 ∧ Below w.heap.size w wr) (fun iv _ => n - (RowKit.intOf iv).toNat)
  case atStart => exact ⟨0, _, Nat.zero_le _, rfl, HM.out, List.length_replicate .., inBox_zero HTT.out, HD.out, HB.out⟩
  case round =>
    obtain ⟨i, y, hi, rfl, hM, hy, hbox, hD, hbw⟩ := hrel
    have HMr := Lib.hid hM
    have HDr := Lib.hid hD
    have HWr := Lib.hid hbw
    have HY := Lib.hid hy
    have HBx := Lib.hid hbox
    have d0 := hD.cell 0 rfl
    clear hM hD hbw hy hbox
    by_cases hlt : i < n
    · by_cases hlx : i < l.length
      · obtain ⟨a, ha⟩ := get_of_lt hlx
        obtain ⟨t, ht⟩ := get_of_lt (show i < s.T.length by rw [HNn.out]; exact hlt)
        obtain ⟨c, hc⟩ := get_of_lt (show i < y.length by rw [HY.out]; exact hlt)
        obtain ⟨b1, o1, rfl, cx⟩ := (HX1.out _ HWr.out).at ha
        have hT2 : IsI wr (.slice tp s.T.length tc) s.T := by have := HT1.out _ HWr.out; rwa [← HNn.out] at this
        obtain ⟨b2, o2, rfl, ct⟩ := hT2.at ht
        have m0 := HMr.out.cell i (intsA_get hc)
        have g0 := HMr.out.free i
        have hml := HMr.out.lt
        have ht2 := HTT.out t (List.mem_of_getElem? ht)
        have HA := Lib.hid (And.intro ha (And.intro ht hc))
        have HT2 := Lib.hid ht2
        clear ha ht hc hT2 ht2
        go_wp2
        go_region_with (first | ((with_reducible refine (fold_any a 0 t _ (by decide) HT2.out.1 (by have := HT2.out; omega)).mono ?_); rintro e w4 ⟨rfl, rfl⟩) | fail)
        all_goals
          go_wp2
          go_roundw
          case rel =>
            refine ⟨i + 1, y.set i (foldS a 0 t), by omega, by go_num, ?_, by rw [List.length_set]; exact HY.out, inBox_set HBx.out HA.out.2.1 (fold_in a HT2.out.1), ?_, ?_⟩
            · rw [← intsA_set]; exact HMr.out.drew.set i _
            · exact HDr.out.drew.other (by show _ ≠ w.heap.size + 1; omega) _
            · exact (below_drew HWr.out).setCell (p := ⟨w.heap.size + 1, i, none⟩) (by show _ ≤ w.heap.size + 1; omega) _
          case measure => simp [RowKit.intOf]; omega
      · go_wp2
        go_ret
        exact ⟨_, y, rfl, by have := own_ints (base := w.heap.size) HMr.out (by rw [HY.out]; unfold maxLen; omega) (by omega); rwa [HY.out] at this, HY.out, HBx.out, HWr.out⟩
    · go_wp2
      go_ret
      exact ⟨_, y, rfl, by have := own_ints (base := w.heap.size) HMr.out (by rw [HY.out]; unfold maxLen; omega) (by omega); rwa [HY.out] at this, HY.out, HBx.out, HWr.out⟩
end Go.Proofs.Ytmhhfommgdljkaa
