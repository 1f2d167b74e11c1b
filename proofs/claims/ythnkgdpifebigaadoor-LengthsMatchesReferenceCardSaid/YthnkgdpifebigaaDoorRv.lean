/-
  Walks: the reference's Valid, at, Has.
-/
import Derived.Test.YthnkgdpifebigaaDoorHa
set_option linter.unusedSimpArgs false
set_option linter.unusedVariables false
namespace Go.Proofs.YthnkgdpifebigaaDoor
open Go.RowKit

set_option maxHeartbeats 400000 in
theorem rvalid_any (hp cp : Option Addr) (hn hk cn ck : Nat) (w : World) (h1 : hn ≤ 1152921504606846976) (h2 : cn ≤ 1152921504606846976) :
    Calls Tryd.prog 18 #[.agg #[.slice hp hn hk, .slice cp cn ck]] w fun e w' => e = .returned (.bool (okLen hn cn)) ∧ Below w.heap.size w w' := by
  by_cases hc : 0 < cn
  · by_cases hs : hn + cn ≤ 512
    · have HE := Lib.hid (show true = okLen hn cn from (decide_eq_true ⟨hc, hs⟩).symm)
      have d1 : decide (0 < (cn : Int)) = true := by simp; omega
      have d2 : decide ((hn : Int) + (cn : Int) ≤ 512) = true := by simp; omega
      have d3 : decide ((hn : Int) ≤ 512) = true := by simp; omega
      have d4 : decide ((cn : Int) ≤ 512) = true := by simp; omega
      go_enter Tryd.func18, Tryd.ntmps18
      go_wp2
      go_ret
      exact ⟨ret_bool HE.out, by go_grown⟩
    · have HE := Lib.hid (show false = okLen hn cn from (decide_eq_false fun h => hs h.2).symm)
      have d1 : decide (0 < (cn : Int)) = true := by simp; omega
      have d2 : decide ((hn : Int) + (cn : Int) ≤ 512) = false := by simp; omega
      by_cases k3 : hn ≤ 512
      · have d3 : decide ((hn : Int) ≤ 512) = true := by simp; omega
        by_cases k4 : cn ≤ 512
        · have d4 : decide ((cn : Int) ≤ 512) = true := by simp; omega
          go_enter Tryd.func18, Tryd.ntmps18
          go_wp2
          go_ret
          exact ⟨ret_bool HE.out, by go_grown⟩
        · have d4 : decide ((cn : Int) ≤ 512) = false := by simp; omega
          go_enter Tryd.func18, Tryd.ntmps18
          go_wp2
          go_ret
          exact ⟨ret_bool HE.out, by go_grown⟩
      · have d3 : decide ((hn : Int) ≤ 512) = false := by simp; omega
        go_enter Tryd.func18, Tryd.ntmps18
        go_wp2
        go_ret
        exact ⟨ret_bool HE.out, by go_grown⟩
  · obtain rfl : cn = 0 := by omega
    have HE := Lib.hid (show false = okLen hn 0 from (decide_eq_false fun h => hc h.1).symm)
    clear hc
    go_enter Tryd.func18, Tryd.ntmps18
    go_wp2
    go_ret
    exact ⟨ret_bool HE.out, by go_grown⟩

set_option maxHeartbeats 400000 in
theorem at_any (v : Value) (h c : List Bool) (n : Nat) (w : World) (hv : IsSet w v h c) (hc : 0 < c.length) (h1 : h.length ≤ 1152921504606846976) (h2 : c.length ≤ 1152921504606846976) (hn : n ≤ 9223372036854775807) :
    Calls Tryd.prog 37 #[v, .int .i64 (n : Int)] w fun e w' => e = .returned (.bool (atL h c n)) ∧ Below w.heap.size w w' := by
  obtain ⟨hp, hk, cp, ck, rfl, a1, a2⟩ := hv.shape
  by_cases hlt : n < h.length
  · obtain ⟨blk, off, rfl, hcell⟩ := a1.at hlt
    have HE := Lib.hid (atL_head h c n hlt).symm
    have hlk := lt_of_cell hcell
    generalize h.getD n false = b at hcell HE
    have hcell2 : ∀ o : Obj, (w.alloc o).cell? ⟨blk, off + n, none⟩ = some (.bool b) := fun o => (cell_lay hcell o)
    clear hv a1 a2 hcell
    go_enter Tryd.func37, Tryd.ntmps37
    go_wp2
    go_ret
    exact ⟨ret_bool HE.out, by go_grown⟩
  · have hm : (n - h.length) % c.length < c.length := Nat.mod_lt _ hc
    obtain ⟨blk, off, rfl, hcell⟩ := a2.at hm
    have HE := Lib.hid (show c.getD ((n - h.length) % c.length) false = atL h c n by unfold atL; rw [if_neg hlt])
    have hz : (c.length : Int) ≠ 0 := by omega
    have hi : ((n : Int) - (h.length : Int)) % (c.length : Int) = (((n - h.length) % c.length : Nat) : Int) := by
      rw [Int.natCast_emod, Int.ofNat_sub (by omega)]
    generalize c.getD ((n - h.length) % c.length) false = b at hcell HE
    generalize (n - h.length) % c.length = k at hcell hm hi
    have hcell2 : ∀ o : Obj, (w.alloc o).cell? ⟨blk, off + k, none⟩ = some (.bool b) := fun o => (cell_lay hcell o)
    clear hv a1 a2 hcell
    go_enter Tryd.func37, Tryd.ntmps37
    go_wp2
    go_quiet (fail)
    go_wp2
    go_ret
    exact ⟨ret_bool HE.out, below_drews (by go_grown) _⟩
set_option maxHeartbeats 400000 in
theorem rhas_any (v : Value) (h c : List Bool) (n : Int) (w : World) (hv : IsSet w v h c) (h1 : h.length ≤ 1152921504606846976) (h2 : c.length ≤ 1152921504606846976) (hn : n ≤ 9223372036854775807) :
    Calls Tryd.prog 20 #[v, .int .i64 n] w fun e w' => e = .returned (.bool (hasB h c n)) ∧ Below w.heap.size w w' := by
  obtain ⟨hp, hk, cp, ck, rfl, a1, a2⟩ := hv.shape
  have HV := Lib.hid (fun W => rvalid_any hp cp h.length hk c.length ck W h1 h2)
  cases ho : okLen h.length c.length
  · rw [ho] at HV
    have HE := Lib.hid (show false = hasB h c n by unfold hasB; rw [ho]; rfl)
    clear ho hv a1 a2
    go_enter Tryd.func20, Tryd.ntmps20
    go_wp2_with (go_at_call 18; refine (HV.out _).mono ?_; rintro e w1 ⟨rfl, hb1⟩)
    go_ret
    exact ⟨ret_bool HE.out, below_one hb1⟩
  · rw [ho] at HV
    obtain ⟨hc, hs⟩ := okLen_pos ho
    by_cases hn0 : 0 ≤ n
    · obtain ⟨k, rfl⟩ := Int.eq_ofNat_of_zero_le hn0
      have HE := Lib.hid (show atL h c k = hasB h c (k : Int) by unfold hasB; rw [ho, decide_eq_true hn0]; rfl)
      have HM := Lib.hid (fun W (hW : Below w.heap.size w W) => at_any _ h c k W (hv.grows hW) hc h1 h2 (by omega))
      generalize atL h c k = b at HE HM
      clear ho hv a1 a2
      go_enter Tryd.func20, Tryd.ntmps20
      go_wp2_with (first | (go_at_call 18; refine (HV.out _).mono ?_; rintro e w1 ⟨rfl, hb1⟩; have hB1 := (Blk.new w _ _).grows hb1; have c0 := hB1.cell 0 rfl; have c1 := hB1.cell 1 rfl) | (go_at_call 37; refine (HM.out _ (below_one hb1)).mono ?_; rintro e w2 ⟨rfl, hb2⟩))
      go_ret
      exact ⟨ret_bool HE.out, below_two (below_one hb1) hb2⟩
    · have HE := Lib.hid (show false = hasB h c n by unfold hasB; rw [ho, decide_eq_false hn0]; rfl)
      clear ho hv a1 a2
      have hn1 : decide (0 ≤ n) = false := by simpa using hn0
      go_enter Tryd.func20, Tryd.ntmps20
      go_wp2_with (go_at_call 18; refine (HV.out _).mono ?_; rintro e w1 ⟨rfl, hb1⟩)
      go_ret
      exact ⟨ret_bool HE.out, below_one hb1⟩
end Go.Proofs.YthnkgdpifebigaaDoor
