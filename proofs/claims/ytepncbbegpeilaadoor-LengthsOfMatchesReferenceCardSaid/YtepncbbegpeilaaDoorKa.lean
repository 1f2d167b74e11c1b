/-
  Walks: one byte put into a class, one byte asked for: the code's functions and the reference's.
-/
import Derived.Test.YtepncbbegpeilaaDoorBo
import Derived.Test.YtepncbbegpeilaaDoorKm
import Derived.WalkKit
import Derived.WalkSpells
import Derived.WalkLawsBesides
import Derived.Handy
set_option linter.unusedSimpArgs false
set_option linter.unusedVariables false
namespace Go.Proofs.YtepncbbegpeilaaDoor
open Go.RowKit

theorem agg4 {a b c d a' b' c' d' : Int} (h0 : a = a') (h1 : b = b') (h2 : c = c') (h3 : d = d') :
    Ending.returned (.agg #[.int .u64 a, .int .u64 b, .int .u64 c, .int .u64 d]) = .returned (.agg #[.int .u64 a', .int .u64 b', .int .u64 c', .int .u64 d']) := by
  rw [h0, h1, h2, h3]
theorem byte_mod (b : Int) (h0 : 0 ≤ b) : (b % 64).toNat = b.toNat % 64 := by omega
theorem has_and' (x : BitVec 256) (b : Int) (h0 : 0 ≤ b) (q : Nat) (hq : b / 64 = q) : (bits .and .u64 (wd x q / 2 ^ (b % 64).toNat) 1 == 1) = x.getLsbD b.toNat := by
  rw [byte_mod b h0, ← has_and x b.toNat, show b.toNat / 64 = q by omega]
theorem has_mod' (x : BitVec 256) (b : Int) (h0 : 0 ≤ b) (q : Nat) (hq : b / 64 = q) : ((wd x q / 2 ^ (b % 64).toNat).tmod 2 == 1) = x.getLsbD b.toNat := by
  rw [Int.tmod_eq_emod_of_nonneg (Int.ediv_nonneg (wd_nonneg x q) (Int.pow_nonneg (by decide))), byte_mod b h0, ← has_mod x b.toNat, show b.toNat / 64 = q by omega]
theorem byte_div (b : Int) (h0 : 0 ≤ b) {q : Int} (hq : b / 64 = q) : b.toNat / 64 = q.toNat := by omega
theorem same_of (x : BitVec 256) (b : Int) (h0 : 0 ≤ b) (h1 : b < 256) (q : Nat) (hq : b / 64 = q) :
    bits .or .u64 (wd x q) (IntKind.u64.wrap (2 ^ (b % 64).toNat)) = wd (x ||| bit b.toNat) q := by
  rw [byte_mod b h0]; exact wd_with_same x b.toNat (by omega) q (by omega)
theorem other_of (x : BitVec 256) (b : Int) (h0 : 0 ≤ b) (h1 : b < 256) (q : Nat) (hq : b / 64 ≠ q) : wd x q = wd (x ||| bit b.toNat) q :=
  (wd_with_other x b.toNat (by omega) q (by omega)).symm

end Go.Proofs.YtepncbbegpeilaaDoor
