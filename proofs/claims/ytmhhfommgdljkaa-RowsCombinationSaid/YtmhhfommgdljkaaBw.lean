/-
  Walk: whole.
-/
import Derived.Test.YtmhhfommgdljkaaBz
set_option linter.unusedSimpArgs false
set_option linter.unusedVariables false
namespace Go.Proofs.Ytmhhfommgdljkaa
open Go.RowKit Go.Lib

theorem BxAt.set4 {w : World} {g : Nat} {B : List Iv} (h : BxAt w g B) {i : Nat} {v : Iv} (hv : B[i]? = some v) (a b c d : Int) :
    BxAt ((((w.setCell ⟨g, i * 4, none⟩ (.int .i64 a)).setCell ⟨g, i * 4 + 1, none⟩ (.int .i64 b)).setCell ⟨g, i * 4 + 2, none⟩ (.int .i64 c)).setCell ⟨g, i * 4 + 3, none⟩ (.int .i64 d)) g (B.set i ⟨a, b, c, d⟩) := by
  have h1 := (h.set hv a).1
  have e1 : (B.set i { v with lo := a })[i]? = some { v with lo := a } := by rw [set_at hv, if_pos rfl]
  have h2 := (h1.set e1 b).2.1
  have e2 : ((B.set i { v with lo := a }).set i { v with lo := a, hi := b })[i]? = some { v with lo := a, hi := b } := by rw [set_at e1, if_pos rfl]
  have h3 := (h2.set e2 c).2.2.1
  have e3 : (((B.set i { v with lo := a }).set i { v with lo := a, hi := b }).set i { v with lo := a, hi := b, lr := c })[i]? = some { v with lo := a, hi := b, lr := c } := by rw [set_at e2, if_pos rfl]
  have h4 := (h3.set e3 d).2.2.2
  simpa only [List.set_set] using h4
def zIv : Iv := ⟨0, 0, 0, 0⟩
theorem boxL_append : ∀ A B : List Iv, boxL (A ++ B) = boxL A ++ boxL B
  | [], _ => rfl
  | v :: A, B => by simp only [List.cons_append, boxL, boxL_append A B]
theorem box_zero : boxA (List.replicate 12 zIv) = zA := rfl
/-- the first k intervals of the whole box, the rest zero. -/
def wholeK (s : Sy) (k : Nat) : List Iv := (wholeB s).take k ++ List.replicate (12 - k) zIv
theorem wholeB_length (s : Sy) : (wholeB s).length = s.T.length := by simp [wholeB]
theorem wholeK_length {s : Sy} (hn : s.T.length ≤ 12) {k : Nat} (hk : k ≤ s.T.length) : (wholeK s k).length = 12 := by
  simp [wholeK, wholeB_length]; omega
theorem wholeK_next {s : Sy} (hn : s.T.length ≤ 12) {k : Nat} {t : Int} (ht : s.T[k]? = some t) : (wholeK s k).set k ⟨0, t, ((s.R.length + k : Nat) : Int), ((s.R.length + s.T.length + k : Nat) : Int)⟩ = wholeK s (k + 1) := by
  have hk := lt_of_get ht
  have hv : (wholeB s)[k]? = some ⟨0, t, ((s.R.length + k : Nat) : Int), ((s.R.length + s.T.length + k : Nat) : Int)⟩ := by
    unfold wholeB; rw [List.getElem?_mapIdx, ht]; rfl
  unfold wholeK
  rw [take_snoc hv, List.set_append_right _ _ (by simp [wholeB_length]; omega)]
  have e : k - ((wholeB s).take k).length = 0 := by simp [wholeB_length]; omega
  have e2 : 12 - k = (12 - (k + 1)) + 1 := by omega
  rw [e, e2, List.replicate_succ]
  simp
def wholeX (s : Sy) : List Iv := wholeK s s.T.length
theorem wholeX_take (s : Sy) : (wholeX s).take s.T.length = wholeB s := by
  unfold wholeX wholeK
  have e : (wholeB s).take s.T.length = wholeB s := List.take_of_length_le (by rw [wholeB_length]; exact Nat.le_refl _)
  rw [e, List.take_append_of_le_length (by rw [wholeB_length]; exact Nat.le_refl _), e]
set_option maxRecDepth 100000 in
set_option maxHeartbeats 2000000 in
theorem whole_any (v : Value) (s : Sy) (w : World) (hv : IsS w v s) (hV : validB s = true) :
    Calls Try.prog 23 #[v] w fun e w' => e = .returned (.tuple #[.agg (boxA (wholeX s)), .int .i64 ((s.R.length + 2 * s.T.length : Nat) : Int)]) ∧ Below w.heap.size w w' := by
  obtain ⟨tp, tc, rp, rc, rfl, htc, hrc, h1, h2⟩ := hv.shape
  have HU := Lib.hid (fun W (hW : Below w.heap.size w W) => h1.grows hW)
  clear hv h1 h2
  have hvi := valid_iff.1 hV
  obtain ⟨⟨hn1, hn2, hn3⟩, hT, -⟩ := hvi
  have HT := Lib.hid hT
  clear hV hT
  go_enter Try.func23, Try.ntmps23
  go_wp2
  refine wp_world fun w1 hw1 => ?_
  have D1 : BxAt w1 (w.heap.size + 1) (wholeK s 0) := by
    rw [hw1]; refine ⟨?_, by simp [wholeK]⟩
    have : boxA (wholeK s 0) = zA := by unfold wholeK; simp only [List.take_zero, List.nil_append, Nat.sub_zero]; exact box_zero
    rw [this]; exact Blk.alloc1 w _ zA _ _
  have hb1 : Below w.heap.size w w1 := by rw [hw1]; exact ((Below.refl _ w).alloc (Nat.le_refl _) _).alloc (by simp) _
  clear hw1
  go_loopw [16] (fun kv wr => ∃ k : Nat, k ≤ s.T.length ∧ kv = .int .i64 k ∧ BxAt wr (w.heap.size + 1) (wholeK s k) ∧ Below w.heap.size w wr) (fun kv _ => s.T.length - (RowKit.intOf kv).toNat)
  case atStart => exact ⟨0, Nat.zero_le _, rfl, D1, hb1⟩
  case round =>
    obtain ⟨k, hk, rfl, D, hb⟩ := hrel
    clear D1 hb1
    by_cases hlt : k < s.T.length
    · obtain ⟨t, ht⟩ := get_of_lt hlt
      obtain ⟨b1, o1, rfl, cx⟩ := (HU.out _ hb).at ht
      have HN := Lib.hid (wholeK_next hn2 ht)
      obtain ⟨q, hq⟩ := get_of_lt (l := wholeK s k) (k := k) (by rw [wholeK_length hn2 hk]; omega)
      obtain ⟨x0, x1, x2, x3⟩ := D.cells hq
      have f0 := D.free (k * 4)
      have f1 := D.free (k * 4 + 1)
      have f2 := D.free (k * 4 + 2)
      have f3 := D.free (k * 4 + 3)
      have k12 : k < 12 := by omega
      have k12' : (k : Int) < 12 := by omega
      have HD := Lib.hid (D.set4 hq 0 t ((s.R.length + k : Nat) : Int) ((s.R.length + s.T.length + k : Nat) : Int))
      have HB := Lib.hid hb
      have e1 : ((s.R.length + k : Nat) : Int) = (s.R.length : Int) + (k : Int) := by omega
      have e2 : ((s.R.length + s.T.length + k : Nat) : Int) = (s.R.length : Int) + (s.T.length : Int) + (k : Int) := by omega
      rw [e1, e2] at HD
      clear hq D hb ht e1 e2
      go_wp2
      go_roundw
      case rel =>
        exact ⟨k + 1, by omega, by go_num, by
          have e1 : ((s.R.length + k : Nat) : Int) = (s.R.length : Int) + (k : Int) := by omega
          have e2 : ((s.R.length + s.T.length + k : Nat) : Int) = (s.R.length : Int) + (s.T.length : Int) + (k : Int) := by omega
          rw [← HN.out, e1, e2]; exact HD.out, by
          have hge : w.heap.size ≤ w.heap.size + 1 := by omega
          exact (((HB.out.setCell (p := ⟨w.heap.size + 1, k * 4, none⟩) hge _).setCell (p := ⟨w.heap.size + 1, k * 4 + 1, none⟩) hge _).setCell (p := ⟨w.heap.size + 1, k * 4 + 2, none⟩) hge _).setCell (p := ⟨w.heap.size + 1, k * 4 + 3, none⟩) hge _⟩
      case measure => simp [RowKit.intOf]; omega
    · obtain rfl : k = s.T.length := by omega
      have hlen := wholeK_length hn2 hk
      go_wp2_with (first | (refine wpList_load_row rfl 58 _ rfl (w.heap.size + 1) rfl 58 _ (0, 0) _ D.1.is Try.underlying58 rfl (box_info hlen) ?_) | (refine wpList_store_row rfl 58 _ _ rfl (w.heap.size + 1) _ rfl rfl 58 _ D.1.is (box_info hlen) rfl (box_one _) ?_))
      have R := BxAt.row (B := wholeK s s.T.length) D.1 hlen
      have hl := R.load
      have HB := Lib.hid (below_row hb (g := w.heap.size + 1) (by omega) (boxA (wholeK s s.T.length)))
      clear R D hb
      refine bodyPost_ret (v := .tuple #[.agg (boxA (wholeX s)), .int .i64 ((s.R.length : Int) + 2 * (s.T.length : Int))]) ?_ rfl ⟨by congr 4, HB.out⟩
      simp [results, Try.results23, asAddr, hl, wholeX]
end Go.Proofs.Ytmhhfommgdljkaa
