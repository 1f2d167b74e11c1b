/-
  Walks: Valid, Holds.
-/
import Derived.Test.YtmhhfommgdljkaaVb
set_option linter.unusedSimpArgs false
set_option linter.unusedVariables false
namespace Go.Proofs.Ytmhhfommgdljkaa
open Go.RowKit Go.Lib

/-- nothing of a system is long. -/
def Mod (s : Sy) : Prop := s.T.length ≤ 1000 ∧ s.R.length ≤ 1000 ∧ ∀ r ∈ s.R, r.A.length ≤ 1000
theorem all_get {l : List Rw} {f : Rw → Bool} {k : Nat} (hk : k = l.length) (h : ∀ (j : Nat) (y : Rw), j < k → l[j]? = some y → f y = true) : l.all f = true := by
  rw [List.all_eq_true]
  intro y hy
  obtain ⟨j, hj, rfl⟩ := List.mem_iff_getElem.1 hy
  exact h j _ (by omega) (List.getElem?_eq_getElem hj)
theorem all_nor {l : List Rw} {f : Rw → Bool} {k : Nat} {x : Rw} (hx : l[k]? = some x) (hf : f x = false) : l.all f = false := by
  rw [List.all_eq_false]
  exact ⟨x, List.mem_of_getElem? hx, by simp [hf]⟩
theorem allr_snoc {l : List Rw} {f : Rw → Bool} {k : Nat} {x : Rw} (h : ∀ (j : Nat) (y : Rw), j < k → l[j]? = some y → f y = true) (hx : l[k]? = some x) (hf : f x = true) : ∀ (j : Nat) (y : Rw), j < k + 1 → l[j]? = some y → f y = true := by
  intro j y hj hy
  rcases Nat.lt_or_ge j k with h1 | h1
  · exact h j y h1 hy
  · obtain rfl : j = k := by omega
    rw [hx] at hy; cases hy; exact hf
set_option maxRecDepth 100000 in
set_option maxHeartbeats 2000000 in
theorem valid_any (v : Value) (s : Sy) (w : World) (hv : IsS w v s) (hl : Mod s) :
    Calls Try.prog 11 #[v] w fun e w' => e = .returned (.bool (validB s)) ∧ Below w.heap.size w w' := by
  obtain ⟨tp, tc, rp, rc, rfl, htc, hrc, h1, h2⟩ := hv.shape
  have HU := Lib.hid (fun W (hW : Below w.heap.size w W) => h1.grows hW)
  have HR := Lib.hid (fun W (hW : Below w.heap.size w W) => h2.grows hW)
  clear hv h1 h2
  obtain ⟨hm1, hm2, hm3⟩ := hl
  have HM := Lib.hid hm3
  clear hm3
  obtain ⟨T, R⟩ := s
  simp only at *
  have hno : ∀ P : Prop, (P → False) → (P → validB ⟨T, R⟩ = true) → True := fun _ _ _ => trivial
  clear hno
  by_cases c1 : 1 ≤ T.length ∧ T.length ≤ 12 ∧ R.length ≤ 24
  · obtain ⟨a1, a2, a3⟩ := c1
    have HE := Lib.hid (show validB ⟨T, R⟩ = (T.all okTop && R.all (okRow T.length)) by unfold validB; rw [decide_eq_true ⟨a1, a2, a3⟩, Bool.true_and])
    have d1 : decide ((T.length : Int) < 1) = false := by rw [decide_eq_false_iff_not]; omega
    have d2 : decide ((12 : Int) < (T.length : Int)) = false := by rw [decide_eq_false_iff_not]; omega
    have d3 : decide ((24 : Int) < (R.length : Int)) = false := by rw [decide_eq_false_iff_not]; omega
    go_enter Try.func11, Try.ntmps11
    go_wp2
    have hbw1 : Below w.heap.size w (w.alloc (.cells #[.slice tp T.length tc, .slice rp R.length rc] 25)) := by go_grown
    have D1 := Blk.new w #[.slice tp T.length tc, .slice rp R.length rc] 25
    generalize (w.alloc (.cells #[.slice tp T.length tc, .slice rp R.length rc] 25)) = w1 at hbw1 D1 ⊢
    have e1 := D1.cell 1 rfl
    have HW := Lib.hid hbw1
    clear hbw1 D1 d1 d2 d3
    go_loop [26] (fun kv => ∃ k : Nat, k ≤ T.length ∧ kv = .int .i64 k ∧ ∀ (j : Nat) (y : Int), j < k → T[j]? = some y → okTop y = true) (fun kv => T.length - (RowKit.intOf kv).toNat)
    case atStart => exact ⟨0, Nat.zero_le _, rfl, fun j y hj => by omega⟩
    case round =>
      obtain ⟨k, hk, rfl, hno⟩ := hrel
      have HN := Lib.hid hno
      clear hno
      by_cases hlt : k < T.length
      · obtain ⟨x, hx⟩ := get_of_lt hlt
        obtain ⟨b1, o1, rfl, cx⟩ := (HU.out _ HW.out).at hx
        have HX := Lib.hid hx
        clear hx
        by_cases q1 : x < 0
        · have HF := Lib.hid (show validB ⟨T, R⟩ = false by rw [HE.out, all_no HX.out (by unfold okTop; simp; omega), Bool.false_and])
          go_wp2
          go_ret
          exact ⟨ret_bool HF.out.symm, HW.out⟩
        · by_cases q2 : 64 < x
          · have HF := Lib.hid (show validB ⟨T, R⟩ = false by rw [HE.out, all_no HX.out (by unfold okTop; simp; omega), Bool.false_and])
            go_wp2
            go_ret
            exact ⟨ret_bool HF.out.symm, HW.out⟩
          · go_wp2
            go_round
            case rel => exact ⟨k + 1, by omega, by go_num, all_snoc HN.out HX.out (by unfold okTop; simp; omega)⟩
            case measure => simp [RowKit.intOf]; omega
      · have HE2 := Lib.hid (show validB ⟨T, R⟩ = R.all (okRow T.length) by rw [HE.out, all_of_get (by omega) HN.out, Bool.true_and])
        obtain rfl : k = T.length := by omega
        clear HN HE
        go_wp2
        go_loopw [40] (fun kv wr => ∃ k : Nat, k ≤ R.length ∧ kv = .int .i64 k ∧ (∀ (j : Nat) (y : Rw), j < k → R[j]? = some y → okRow T.length y = true) ∧ Below w.heap.size w wr) (fun kv _ => R.length - (RowKit.intOf kv).toNat)
        case atStart => exact ⟨0, Nat.zero_le _, rfl, fun j y hj => by omega, HW.out⟩
        case round =>
          obtain ⟨k, hk2, rfl, hno, hbw⟩ := hrel
          have HN := Lib.hid hno
          clear hno
          have HW2 := Lib.hid hbw
          by_cases hlt2 : k < R.length
          · obtain ⟨r, hx⟩ := get_of_lt hlt2
            obtain ⟨b2, o2, u, rfl, cx, cy, hu⟩ := (HR.out _ hbw).at hx
            have hrl := HM.out r (List.mem_of_getElem? hx)
            obtain ⟨pu, cu, rfl, hcu⟩ := hu.shape
            have HUu := Lib.hid hu
            have HX := Lib.hid hx
            clear hx hu hbw
            by_cases q1 : r.A.length = T.length
            · have d1 : ((r.A.length : Int) != (T.length : Int)) = false := by rw [q1]; simp
              have HQ := Lib.hid q1
              clear q1
              have hq : ∀ b, withinB r 1000 = b → okRow T.length r = b := fun b hb => by unfold okRow; rw [hb, decide_eq_true HQ.out, Bool.true_and]
              have HQ2 := Lib.hid hq
              clear hq
              go_wp2_with fail
              refine (within_any _ r 1000 _ (HUu.out.grows (by go_grown)) (by omega) (by omega)).mono ?_
              rintro e w2 ⟨rfl, hb2⟩
              have HB2 := Lib.hid (below_two HW2.out (below_one hb2))
              clear hb2
              cases hwb : withinB r 1000 with
              | true =>
                have HO := Lib.hid (HQ2.out _ hwb)
                clear hwb
                go_wp2
                go_roundw
                case rel => exact ⟨k + 1, by omega, by go_num, allr_snoc HN.out HX.out HO.out, HB2.out⟩
                case measure => simp [RowKit.intOf]; omega
              | false =>
                have HF := Lib.hid (show validB ⟨T, R⟩ = false by rw [HE2.out]; exact all_nor HX.out (HQ2.out _ hwb))
                clear hwb
                go_wp2
                go_ret
                exact ⟨ret_bool HF.out.symm, HB2.out⟩
            · have d1 : ((r.A.length : Int) != (T.length : Int)) = true := by rw [bne_iff_ne]; omega
              have HF := Lib.hid (show validB ⟨T, R⟩ = false by rw [HE2.out]; exact all_nor HX.out (by unfold okRow; rw [decide_eq_false q1, Bool.false_and]))
              clear q1
              go_wp2
              go_ret
              exact ⟨ret_bool HF.out.symm, HW2.out.alloc HW2.out.size _⟩
          · have HF := Lib.hid (show validB ⟨T, R⟩ = true by rw [HE2.out]; exact all_get (by omega) HN.out)
            obtain rfl : k = R.length := by omega
            go_wp2
            go_ret
            exact ⟨ret_bool HF.out.symm, HW2.out⟩
  · have HF := Lib.hid (show validB ⟨T, R⟩ = false by unfold validB; rw [decide_eq_false c1, Bool.false_and])
    by_cases a1 : 1 ≤ T.length
    · by_cases a2 : T.length ≤ 12
      · have a3 : 24 < R.length := by omega
        clear c1
        have d1 : decide ((T.length : Int) < 1) = false := by rw [decide_eq_false_iff_not]; omega
        have d2 : decide ((12 : Int) < (T.length : Int)) = false := by rw [decide_eq_false_iff_not]; omega
        have d3 : decide ((24 : Int) < (R.length : Int)) = true := by rw [decide_eq_true_iff]; omega
        go_enter Try.func11, Try.ntmps11
        go_wp2
        go_ret
        exact ⟨ret_bool HF.out.symm, by go_grown⟩
      · clear c1
        have d1 : decide ((T.length : Int) < 1) = false := by rw [decide_eq_false_iff_not]; omega
        have d2 : decide ((12 : Int) < (T.length : Int)) = true := by rw [decide_eq_true_iff]; omega
        go_enter Try.func11, Try.ntmps11
        go_wp2
        go_ret
        exact ⟨ret_bool HF.out.symm, by go_grown⟩
    · clear c1
      have d1 : decide ((T.length : Int) < 1) = true := by rw [decide_eq_true_iff]; omega
      go_enter Try.func11, Try.ntmps11
      go_wp2
      go_ret
      exact ⟨ret_bool HF.out.symm, by go_grown⟩
end Go.Proofs.Ytmhhfommgdljkaa
