/-
  Walks: the code's Has and Least.
-/
import Derived.Test.YtepncbbegpeilaaDoorVa
set_option linter.unusedSimpArgs false
set_option linter.unusedVariables false
namespace Go.Proofs.YtepncbbegpeilaaDoor
open Go.RowKit

/-- is the number a member of a valid set? -/
def hasB (h c : List Bool) (n : Int) : Bool := okLen h.length c.length && (decide (0 ≤ n) && atL h c n.toNat)
theorem okLen_pos {h c : Nat} (e : okLen h c = true) : 0 < c ∧ h + c ≤ 512 := of_decide_eq_true e
set_option maxHeartbeats 400000 in
theorem has_any (v : Value) (h c : List Bool) (n : Int) (w : World) (hv : IsSet w v h c) (h1 : h.length ≤ 1152921504606846976) (h2 : c.length ≤ 1152921504606846976) (hn : n ≤ 9223372036854775807) :
    Calls Tryd.prog 14 #[v, .int .i64 n] w fun e w' => e = .returned (.bool (hasB h c n)) ∧ Below w.heap.size w w' := by
  obtain ⟨hp, hk, cp, ck, rfl, a1, a2⟩ := hv.shape
  have HV := Lib.hid (fun W => valid_any hp cp h.length hk c.length ck W h1 h2)
  cases ho : okLen h.length c.length
  · rw [ho] at HV
    have HE := Lib.hid (show false = hasB h c n by unfold hasB; rw [ho]; rfl)
    clear ho hv a1 a2
    go_enter Tryd.func14, Tryd.ntmps14
    go_wp2_with (go_at_call 24; refine (HV.out _).mono ?_; rintro e w1 ⟨rfl, hb1⟩)
    go_ret
    exact ⟨ret_bool HE.out, below_one hb1⟩
  · rw [ho] at HV
    obtain ⟨hc, hs⟩ := okLen_pos ho
    by_cases hn0 : 0 ≤ n
    · obtain ⟨k, rfl⟩ := Int.eq_ofNat_of_zero_le hn0
      have HE := Lib.hid (show atL h c k = hasB h c (k : Int) by unfold hasB; rw [ho, decide_eq_true hn0]; rfl)
      have HM := Lib.hid (fun W (hW : Below w.heap.size w W) => member_any _ h c k W (hv.grows hW) hc h1 h2 (by omega))
      generalize atL h c k = b at HE HM
      clear ho hv a1 a2
      go_enter Tryd.func14, Tryd.ntmps14
      go_wp2_with (first | (go_at_call 24; refine (HV.out _).mono ?_; rintro e w1 ⟨rfl, hb1⟩; have hB1 := (Blk.new w _ _).grows hb1; have c0 := hB1.cell 0 rfl; have c1 := hB1.cell 1 rfl) | (go_at_call 32; refine (HM.out _ (below_one hb1)).mono ?_; rintro e w2 ⟨rfl, hb2⟩))
      go_ret
      exact ⟨ret_bool HE.out, below_two (below_one hb1) hb2⟩
    · have HE := Lib.hid (show false = hasB h c n by unfold hasB; rw [ho, decide_eq_false hn0]; rfl)
      clear ho hv a1 a2
      have hn1 : decide (0 ≤ n) = false := by simpa using hn0
      go_enter Tryd.func14, Tryd.ntmps14
      go_wp2_with (go_at_call 24; refine (HV.out _).mono ?_; rintro e w1 ⟨rfl, hb1⟩)
      go_ret
      exact ⟨ret_bool HE.out, below_one hb1⟩
end Go.Proofs.YtepncbbegpeilaaDoor
