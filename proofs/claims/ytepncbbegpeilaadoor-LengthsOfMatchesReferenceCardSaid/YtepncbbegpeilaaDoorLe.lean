/-
  Walks: the code's Least.
-/
import Derived.Test.YtepncbbegpeilaaDoorHa
set_option linter.unusedSimpArgs false
set_option linter.unusedVariables false
namespace Go.Proofs.YtepncbbegpeilaaDoor
open Go.RowKit

/-- the first of m numbers from k on at which f holds, or -1. -/
def firstFrom (f : Nat → Bool) (k : Nat) : Nat → Int
  | 0 => -1
  | m + 1 => if f k then (k : Int) else firstFrom f (k + 1) m
theorem firstFrom_yes (f : Nat → Bool) (k m : Nat) (hm : 0 < m) (h : f k = true) : firstFrom f k m = k := by
  cases m with
  | zero => omega
  | succ m => simp [firstFrom, h]
theorem firstFrom_no (f : Nat → Bool) (k m : Nat) (hm : 0 < m) (h : f k = false) : firstFrom f k m = firstFrom f (k + 1) (m - 1) := by
  cases m with
  | zero => omega
  | succ m => simp [firstFrom, h]
/-- the least member of a valid set that is at least the number, or -1. -/
def leastS (h c : List Bool) (n : Int) : Int := if okLen h.length c.length && decide (n ≤ 1099511627776) then firstFrom (atL h c) n.toNat (max n.toNat h.length + c.length - n.toNat) else -1
theorem leastS_loop (h c : List Bool) (n : Int) (ho : okLen h.length c.length = true) (hn : n ≤ 1099511627776) (hi : (-9223372036854775808 : Int) ≤ n) (w : World) (hp : Option Addr) (hk : Nat) (cp : Option Addr) (ck : Nat)
    (hv : IsSet w (.agg #[.slice hp h.length hk, .slice cp c.length ck]) h c) :
    Calls Tryd.prog 13 #[.agg #[.slice hp h.length hk, .slice cp c.length ck], .int .i64 n] w fun e w' => e = .returned (.int .i64 (leastS h c n)) ∧ Below w.heap.size w w' := by
  obtain ⟨hc, hs⟩ := okLen_pos ho
  have HV := Lib.hid (fun W => (ho ▸ valid_any hp cp h.length hk c.length ck W (by omega) (by omega)))
  have HM := Lib.hid (fun (k : Nat) (hk : k ≤ 9223372036854775807) W (hW : Below w.heap.size w W) => member_any _ h c k W (hv.grows hW) hc (by omega) (by omega) hk)
  have HE := Lib.hid (show leastS h c n = firstFrom (atL h c) n.toNat (max n.toNat h.length + c.length - n.toNat) by unfold leastS; rw [ho, decide_eq_true hn]; rfl)
  clear hv ho
  obtain ⟨k0, hk0⟩ : ∃ k0, n.toNat = k0 := ⟨_, rfl⟩
  rw [hk0] at HE
  obtain ⟨e, he⟩ : ∃ e, max k0 h.length + c.length = e := ⟨_, rfl⟩
  rw [he] at HE
  have hle : k0 ≤ e := by omega
  have h1 : decide (n > 1099511627776) = false := by simp; omega
  have hnk : n = (k0 : Int) ∨ (n < 0 ∧ k0 = 0) := by omega
  have hk1 : k0 ≤ 1099511627776 := by omega
  clear hk0
  have hsz : w.heap.size + 1 ≤ w.heap.size + 1 := Nat.le_refl _
  rcases hnk with rfl | ⟨hneg, hk00⟩
  all_goals
    go_enter Tryd.func13, Tryd.ntmps13
    go_wp2_with (go_at_call 24; refine (HV.out _).mono ?_; rintro e1 w1 ⟨rfl, hb1⟩; have hB1 := (Blk.new w _ _).grows hb1; have c0 := hB1.cell 0 rfl; have c1 := hB1.cell 1 rfl; have hbw := below_one hb1)
  all_goals
    go_loopw [5] (fun i wr => ∃ k : Nat, i = .int .i64 k ∧ k0 ≤ k ∧ k ≤ e ∧ firstFrom (atL h c) k0 (e - k0) = firstFrom (atL h c) k (e - k) ∧ Blk wr w.heap.size #[.slice hp h.length hk, .slice cp c.length ck] 31 ∧ Below w.heap.size w wr) (fun i _ => e - (intOf i).toNat)
    case atStart => exact ⟨k0, by first | rfl | (rw [hk00]; rfl), Nat.le_refl _, hle, rfl, hB1, hbw⟩
    case round =>
      clear c0 c1 hB1 hbw hb1
      obtain ⟨k, rfl, hk0, hke, hfirst, hB, hbr⟩ := hrel
      have c0 := hB.cell 0 rfl
      have c1 := hB.cell 1 rfl
      have HF := Lib.hid hfirst
      clear hfirst
      by_cases hlt : k < e
      · have HMk := Lib.hid (HM.out k (by omega))
        cases hb : atL h c k
        · rw [hb] at HMk
          have HN := Lib.hid (firstFrom_no (atL h c) k (e - k) (by omega) hb)
          clear hb
          go_wp2_with (go_at_call 32; refine (HMk.out _ hbr).mono ?_; rintro e2 w2 ⟨rfl, hb2⟩)
          all_goals
            go_roundw
            case rel => exact ⟨k + 1, by go_num, by omega, by omega, by rw [HF.out, HN.out, Nat.sub_sub], hB.grows hb2, below_two hbr hb2⟩
            case measure => simp [intOf]; omega
        · rw [hb] at HMk
          have HY := Lib.hid (firstFrom_yes (atL h c) k (e - k) (by omega) hb)
          clear hb
          go_wp2_with (go_at_call 32; refine (HMk.out _ hbr).mono ?_; rintro e2 w2 ⟨rfl, hb2⟩)
          all_goals
            go_ret
            exact ⟨ret_int (by rw [HE.out, HF.out, HY.out]), below_two hbr hb2⟩
      · obtain rfl : k = e := by omega
        go_wp2
        all_goals
          go_ret
          exact ⟨ret_int (by rw [HE.out, HF.out, Nat.sub_self]; rfl), hbr⟩

set_option maxHeartbeats 400000 in
theorem least_any (v : Value) (h c : List Bool) (n : Int) (w : World) (hv : IsSet w v h c) (h1 : h.length ≤ 1152921504606846976) (h2 : c.length ≤ 1152921504606846976) (hi : (-9223372036854775808 : Int) ≤ n) :
    Calls Tryd.prog 13 #[v, .int .i64 n] w fun e w' => e = .returned (.int .i64 (leastS h c n)) ∧ Below w.heap.size w w' := by
  obtain ⟨hp, hk, cp, ck, rfl, a1, a2⟩ := hv.shape
  cases ho : okLen h.length c.length
  · have HV := Lib.hid (fun W => ho ▸ valid_any hp cp h.length hk c.length ck W h1 h2)
    have HE := Lib.hid (show -1 = leastS h c n by unfold leastS; rw [ho]; rfl)
    clear ho hv a1 a2
    go_enter Tryd.func13, Tryd.ntmps13
    go_wp2_with (go_at_call 24; refine (HV.out _).mono ?_; rintro e w1 ⟨rfl, hb1⟩)
    go_ret
    exact ⟨ret_int HE.out, below_one hb1⟩
  · by_cases hn : n ≤ 1099511627776
    · exact leastS_loop h c n ho hn hi w hp hk cp ck hv
    · have HV := Lib.hid (fun W => ho ▸ valid_any hp cp h.length hk c.length ck W h1 h2)
      have HE := Lib.hid (show -1 = leastS h c n by unfold leastS; rw [ho, decide_eq_false hn]; rfl)
      have hn1 : decide (n > 1099511627776) = true := by simpa using hn
      clear ho hv a1 a2
      go_enter Tryd.func13, Tryd.ntmps13
      go_wp2_with (go_at_call 24; refine (HV.out _).mono ?_; rintro e w1 ⟨rfl, hb1⟩)
      go_ret
      exact ⟨ret_int HE.out, below_one hb1⟩
end Go.Proofs.YtepncbbegpeilaaDoor
