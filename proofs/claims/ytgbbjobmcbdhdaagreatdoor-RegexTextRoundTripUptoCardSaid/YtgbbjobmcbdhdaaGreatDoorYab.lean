/-
  Texts of the proof, one behind another: A.
-/
import Derived.Test.YtgbbjobmcbdhdaaGreatDoorRows
import Derived.Test.YtgbbjobmcbdhdaaGreatDoorYaa
import Derived.WalkKit
import Derived.WalkSpells
import Derived.WalkLawsBesides
import Derived.Handy
set_option linter.unusedSimpArgs false
set_option linter.unusedVariables false
/-
  Walks: one byte put into a class, one byte asked for: the code's functions and the reference's.
-/
namespace Go.Proofs.YtgbbjobmcbdhdaaGreatDoor
open Go.RowKit

theorem agg4 {a b c d a' b' c' d' : Int} (h0 : a = a') (h1 : b = b') (h2 : c = c') (h3 : d = d') :
    Ending.returned (.agg #[.int .u64 a, .int .u64 b, .int .u64 c, .int .u64 d]) = .returned (.agg #[.int .u64 a', .int .u64 b', .int .u64 c', .int .u64 d']) := by
  rw [h0, h1, h2, h3]
theorem ret_bool {a b : Bool} (h : a = b) : Ending.returned (.bool a) = .returned (.bool b) := by rw [h]
theorem ret_int {k : IntKind} {a b : Int} (h : a = b) : Ending.returned (.int k a) = .returned (.int k b) := by rw [h]
theorem byte_mod (b : Int) (h0 : 0 ≤ b) : (b % 64).toNat = b.toNat % 64 := by omega
theorem has_and' (x : BitVec 256) (b : Int) (h0 : 0 ≤ b) (q : Nat) (hq : b / 64 = q) : (bits .and .u64 (wd x q / 2 ^ (b % 64).toNat) 1 == 1) = x.getLsbD b.toNat := by
  rw [byte_mod b h0, ← has_and x b.toNat, show b.toNat / 64 = q by omega]
theorem has_mod' (x : BitVec 256) (b : Int) (h0 : 0 ≤ b) (q : Nat) (hq : b / 64 = q) : ((wd x q / 2 ^ (b % 64).toNat).tmod 2 == 1) = x.getLsbD b.toNat := by
  rw [Int.tmod_eq_emod_of_nonneg (Int.ediv_nonneg (wd_nonneg x q) (Int.pow_nonneg (by decide))), byte_mod b h0, ← has_mod x b.toNat, show b.toNat / 64 = q by omega]
theorem byte_div (b : Int) (h0 : 0 ≤ b) {q : Int} (hq : b / 64 = q) : b.toNat / 64 = q.toNat := by omega
theorem same_of (x : BitVec 256) (b : Int) (h0 : 0 ≤ b) (h1 : b < 256) (q : Nat) (hq : b / 64 = q) :
    bits .or .u64 (wd x q) (IntKind.u64.wrap (2 ^ (b % 64).toNat)) = wd (x ||| bit b.toNat) q := by
  rw [byte_mod b h0]; exact wd_with_same x b.toNat (by omega) q (by omega)
theorem other_of (x : BitVec 256) (b : Int) (h0 : 0 ≤ b) (h1 : b < 256) (q : Nat) (hq : b / 64 ≠ q) : wd x q = wd (x ||| bit b.toNat) q :=
  (wd_with_other x b.toNat (by omega) q (by omega)).symm

set_option maxHeartbeats 400000 in
theorem with_any (x : BitVec 256) (b : Int) (w : World) (h0 : 0 ≤ b) (h1 : b < 256) :
    Calls Tryz.prog 175 #[.agg #[.int .u64 (wd x 0), .int .u64 (wd x 1), .int .u64 (wd x 2), .int .u64 (wd x 3)], .int .u8 b] w fun e w' => e = .returned (.agg #[.int .u64 (wd (x ||| bit b.toNat) 0), .int .u64 (wd (x ||| bit b.toNat) 1), .int .u64 (wd (x ||| bit b.toNat) 2), .int .u64 (wd (x ||| bit b.toNat) 3)]) ∧ Below w.heap.size w w' := by
  have hq : b / 64 = 0 ∨ b / 64 = 1 ∨ b / 64 = 2 ∨ b / 64 = 3 := by omega
  rcases hq with hq | hq | hq | hq
  all_goals
    go_enter Tryz.func175, Tryz.ntmps175
    go_wp2
    go_returns
    refine ⟨agg4 ?_ ?_ ?_ ?_, ?_⟩
  all_goals first | exact same_of x b h0 h1 _ hq | (refine other_of x b h0 h1 _ ?_; omega) | go_grown

set_option maxHeartbeats 400000 in
theorem has_any (x : BitVec 256) (b : Int) (w : World) (h0 : 0 ≤ b) (h1 : b < 256) :
    Calls Tryz.prog 82 #[.agg #[.int .u64 (wd x 0), .int .u64 (wd x 1), .int .u64 (wd x 2), .int .u64 (wd x 3)], .int .u8 b] w fun e w' => e = .returned (.bool (mem x b.toNat)) ∧ Below w.heap.size w w' := by
  have hq : b / 64 = 0 ∨ b / 64 = 1 ∨ b / 64 = 2 ∨ b / 64 = 3 := by omega
  rcases hq with hq | hq | hq | hq
  all_goals
    go_enter Tryz.func82, Tryz.ntmps82
    go_wp2
    go_returns
    refine ⟨ret_bool (has_and' x b h0 _ hq), ?_⟩
    go_grown

end Go.Proofs.YtgbbjobmcbdhdaaGreatDoor
