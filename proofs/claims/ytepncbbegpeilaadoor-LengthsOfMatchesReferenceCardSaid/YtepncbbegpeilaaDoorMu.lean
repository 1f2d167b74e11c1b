/-
  Walks: a common multiple; the closures of And and Or.
-/
import Derived.Test.YtepncbbegpeilaaDoorVa
set_option linter.unusedSimpArgs false
set_option linter.unusedVariables false
namespace Go.Proofs.YtepncbbegpeilaaDoor
open Go.RowKit

/-- a common multiple. -/
def mulOf (a b : Nat) : Nat := a / Nat.gcd a b * b
theorem mulOf_left (a b : Nat) : a ∣ mulOf a b := by
  unfold mulOf
  obtain ⟨k, hk⟩ := Nat.gcd_dvd_right a b
  rcases Nat.eq_zero_or_pos (Nat.gcd a b) with h | h
  · have := Nat.eq_zero_of_gcd_eq_zero_left h; subst this; simp
  · refine ⟨k, ?_⟩
    have h1 : a / Nat.gcd a b * Nat.gcd a b = a := Nat.div_mul_cancel (Nat.gcd_dvd_left a b)
    conv => lhs; rw [hk]
    rw [← Nat.mul_assoc]
    have h2 : Nat.gcd a (Nat.gcd a b * k) = Nat.gcd a b := by rw [← hk]
    rw [h2, h1]
theorem mulOf_right (a b : Nat) : b ∣ mulOf a b := ⟨a / Nat.gcd a b, by unfold mulOf; rw [Nat.mul_comm]⟩
theorem mulOf_pos (a b : Nat) (ha : 0 < a) (hb : 0 < b) : 0 < mulOf a b := by
  unfold mulOf
  have hg : 0 < Nat.gcd a b := Nat.gcd_pos_of_pos_left _ ha
  exact Nat.mul_pos (Nat.div_pos (Nat.le_of_dvd ha (Nat.gcd_dvd_left a b)) hg) hb
theorem mulOf_le (a b : Nat) : mulOf a b ≤ a * b := Nat.mul_le_mul_right _ (Nat.div_le_self _ _)
theorem mulOf_comm (a b : Nat) (ha : 0 < a) (hb : 0 < b) : mulOf a b = mulOf b a := by
  unfold mulOf
  rw [Nat.gcd_comm b a]
  have hg : 0 < Nat.gcd a b := Nat.gcd_pos_of_pos_left _ ha
  obtain ⟨x, hx⟩ := Nat.gcd_dvd_left a b
  obtain ⟨y, hy⟩ := Nat.gcd_dvd_right a b
  generalize Nat.gcd a b = g at *
  subst hx; subst hy
  rw [Nat.mul_div_cancel_left _ hg, Nat.mul_div_cancel_left _ hg, Nat.mul_left_comm, Nat.mul_left_comm y, Nat.mul_comm x y]
set_option maxHeartbeats 1000000 in
theorem multiple_any (a b : Nat) (w : World) (ha : 0 < a) (hb : 0 < b) (ha2 : a ≤ 512) (hb2 : b ≤ 512) :
    Calls Tryd.prog 26 #[.int .i64 (a : Int), .int .i64 (b : Int)] w fun e w' => e = .returned (.int .i64 ((mulOf a b : Nat) : Int)) ∧ Below w.heap.size w w' := by
  go_enter Tryd.func26, Tryd.ntmps26
  go_wp2
  go_loopw [5, 6] (fun i j wr => ∃ x y : Nat, i = .int .i64 x ∧ j = .int .i64 y ∧ 0 < x ∧ x ≤ 512 ∧ y ≤ 512 ∧ Nat.gcd x y = Nat.gcd a b ∧ Below w.heap.size w wr) (fun _ j _ => (RowKit.intOf j).toNat)
  case atStart => exact ⟨a, b, rfl, rfl, ha, ha2, hb2, rfl, Below.refl _ _⟩
  case round =>
    obtain ⟨x, y, rfl, rfl, hx, hx2, hy2, hg, hbw⟩ := hrel
    by_cases hy : 0 < y
    · have HG := Lib.hid (show Nat.gcd y (x % y) = Nat.gcd a b by rw [← hg, Nat.gcd_comm x y, Nat.gcd_rec y x, Nat.gcd_comm])
      have hyz : ((y : Int) == 0) = false := by rw [beq_eq_false_iff_ne]; omega
      have hyn : (y : Int) ≠ 0 := by omega
      have hlt := Nat.mod_lt x hy
      have hm : (x : Int) % (y : Int) = ((x % y : Nat) : Int) := Int.natCast_emod x y |>.symm
      clear hg
      generalize x % y = z at hm hlt HG
      go_wp2_with fail
      go_quiet (fail)
      go_wp2
      go_roundw
      case rel => exact ⟨y, z, rfl, by first | rfl | rw [hm] | (rw [Int.tmod_eq_emod_of_nonneg (by omega), hm]), hy, hy2, by omega, HG.out, below_drews hbw _⟩
      case measure => simp [RowKit.intOf]; omega
    · obtain rfl : y = 0 := by omega
      have hgx : Nat.gcd a b = x := by rw [← hg, Nat.gcd_zero_right]
      have HE := Lib.hid (show mulOf a b = a / x * b by unfold mulOf; rw [hgx])
      have hle : a / x * b ≤ 512 * 512 := Nat.mul_le_mul (Nat.le_trans (Nat.div_le_self _ _) ha2) hb2
      have hdl : a / x ≤ 512 := Nat.le_trans (Nat.div_le_self _ _) ha2
      have hd : (a : Int) / (x : Int) = ((a / x : Nat) : Int) := (Int.natCast_ediv a x).symm
      have hmu : ((a / x : Nat) : Int) * (b : Int) = ((a / x * b : Nat) : Int) := (Int.natCast_mul _ _).symm
      clear hg hgx
      generalize a / x = q at hd hmu HE hle hdl
      generalize q * b = r at hmu HE hle
      go_wp2
      go_ret
      exact ⟨ret_int (by rw [HE.out]), hbw⟩
theorem andB_clo (x y : Bool) (w : World) : Calls Tryd.prog 30 #[.bool x, .bool y] w fun e w' => e = .returned (.bool (x && y)) ∧ Below w.heap.size w w' := by
  cases x <;> cases y
  all_goals
    go_enter Tryd.func30, Tryd.ntmps30
    go_wp2
    go_ret
    exact ⟨rfl, Below.refl _ _⟩
theorem orB_clo (x y : Bool) (w : World) : Calls Tryd.prog 31 #[.bool x, .bool y] w fun e w' => e = .returned (.bool (x || y)) ∧ Below w.heap.size w w' := by
  cases x <;> cases y
  all_goals
    go_enter Tryd.func31, Tryd.ntmps31
    go_wp2
    go_ret
    exact ⟨rfl, Below.refl _ _⟩
end Go.Proofs.YtepncbbegpeilaaDoor
