/-
  Walks: the reference's Valid, at, Has.
-/
import Derived.Test.YtepncbbegpeilaaDoorHa
set_option linter.unusedSimpArgs false
set_option linter.unusedVariables false
namespace Go.Proofs.YtepncbbegpeilaaDoor
open Go.RowKit

set_option maxHeartbeats 400000 in
theorem rvalid_any (hp cp : Option Addr) (hn hk cn ck : Nat) (w : World) (h1 : hn ≤ 1152921504606846976) (h2 : cn ≤ 1152921504606846976) :
    Calls Tryd.prog 38 #[.agg #[.slice hp hn hk, .slice cp cn ck]] w fun e w' => e = .returned (.bool (okLen hn cn)) ∧ Below w.heap.size w w' := by
  by_cases hc : 0 < cn
  · by_cases hs : hn + cn ≤ 512
    · have HE := Lib.hid (show true = okLen hn cn from (decide_eq_true ⟨hc, hs⟩).symm)
      have d1 : decide (0 < (cn : Int)) = true := by simp; omega
      have d2 : decide ((hn : Int) + (cn : Int) ≤ 512) = true := by simp; omega
      have d3 : decide ((hn : Int) ≤ 512) = true := by simp; omega
      have d4 : decide ((cn : Int) ≤ 512) = true := by simp; omega
      go_enter Tryd.func38, Tryd.ntmps38
      go_wp2
      go_ret
      exact ⟨ret_bool HE.out, by go_grown⟩
    · have HE := Lib.hid (show false = okLen hn cn from (decide_eq_false fun h => hs h.2).symm)
      have d1 : decide (0 < (cn : Int)) = true := by simp; omega
      have d2 : decide ((hn : Int) + (cn : Int) ≤ 512) = false := by simp; omega
      by_cases k3 : hn ≤ 512
      · have d3 : decide ((hn : Int) ≤ 512) = true := by simp; omega
        by_cases k4 : cn ≤ 512
        · have d4 : decide ((cn : Int) ≤ 512) = true := by simp; omega
          go_enter Tryd.func38, Tryd.ntmps38
          go_wp2
          go_ret
          exact ⟨ret_bool HE.out, by go_grown⟩
        · have d4 : decide ((cn : Int) ≤ 512) = false := by simp; omega
          go_enter Tryd.func38, Tryd.ntmps38
          go_wp2
          go_ret
          exact ⟨ret_bool HE.out, by go_grown⟩
      · have d3 : decide ((hn : Int) ≤ 512) = false := by simp; omega
        go_enter Tryd.func38, Tryd.ntmps38
        go_wp2
        go_ret
        exact ⟨ret_bool HE.out, by go_grown⟩
  · obtain rfl : cn = 0 := by omega
    have HE := Lib.hid (show false = okLen hn 0 from (decide_eq_false fun h => hc h.1).symm)
    clear hc
    go_enter Tryd.func38, Tryd.ntmps38
    go_wp2
    go_ret
    exact ⟨ret_bool HE.out, by go_grown⟩

set_option maxHeartbeats 400000 in
theorem at_any (v : Value) (h c : List Bool) (n : Nat) (w : World) (hv : IsSet w v h c) (hc : 0 < c.length) (h1 : h.length ≤ 1152921504606846976) (h2 : c.length ≤ 1152921504606846976) (hn : n ≤ 9223372036854775807) :
    Calls Tryd.prog 46 #[v, .int .i64 (n : Int)] w fun e w' => e = .returned (.bool (atL h c n)) ∧ Below w.heap.size w w' := by
  obtain ⟨hp, hk, cp, ck, rfl, a1, a2⟩ := hv.shape
  by_cases hlt : n < h.length
  · obtain ⟨blk, off, rfl, hcell⟩ := a1.at hlt
    have HE := Lib.hid (atL_head h c n hlt).symm
    have hlk := lt_of_cell hcell
    generalize h.getD n false = b at hcell HE
    have hcell2 : ∀ o : Obj, (w.alloc o).cell? ⟨blk, off + n, none⟩ = some (.bool b) := fun o => (cell_lay hcell o)
    clear hv a1 a2 hcell
    go_enter Tryd.func46, Tryd.ntmps46
    go_wp2
    go_ret
    exact ⟨ret_bool HE.out, by go_grown⟩
  · have hm : (n - h.length) % c.length < c.length := Nat.mod_lt _ hc
    obtain ⟨blk, off, rfl, hcell⟩ := a2.at hm
    have HE := Lib.hid (show c.getD ((n - h.length) % c.length) false = atL h c n by unfold atL; rw [if_neg hlt])
    have hz : (c.length : Int) ≠ 0 := by omega
    have hi : ((n : Int) - (h.length : Int)) % (c.length : Int) = (((n - h.length) % c.length : Nat) : Int) := by
      rw [Int.natCast_emod, Int.ofNat_sub (by omega)]
    generalize c.getD ((n - h.length) % c.length) false = b at hcell HE
    generalize (n - h.length) % c.length = k at hcell hm hi
    have hcell2 : ∀ o : Obj, (w.alloc o).cell? ⟨blk, off + k, none⟩ = some (.bool b) := fun o => (cell_lay hcell o)
    clear hv a1 a2 hcell
    go_enter Tryd.func46, Tryd.ntmps46
    go_wp2
    go_quiet (fail)
    go_wp2
    go_ret
    exact ⟨ret_bool HE.out, below_drews (by go_grown) _⟩
end Go.Proofs.YtepncbbegpeilaaDoor
