/-
  What '==' says of two classes.
-/
import Derived.Test.YtepncbbegpeilaaDoorKa
import Derived.Laws.Tables
import Derived.Laws.Cover2
set_option linter.unusedSimpArgs false
set_option linter.unusedVariables false
namespace Go.Proofs.YtepncbbegpeilaaDoor
open Go.RowKit

theorem eq_arr (a0 a1 a2 a3 b0 b1 b2 b3 : Int) (w : World) :
    (Op.equalIn 10000 41 (.agg #[.int .u64 a0, .int .u64 a1, .int .u64 a2, .int .u64 a3]) (.agg #[.int .u64 b0, .int .u64 b1, .int .u64 b2, .int .u64 b3])).run Tryd.prog w =
      .ok (a0 == b0 && (a1 == b1 && (a2 == b2 && a3 == b3))) w := by
  have ut := Tryd.underlying41
  have ue := Tryd.underlying39
  have ae := Tryd.isAgg39
  have ze := Tryd.sizeOf39
  rw [show (10000 : Nat) = 9999 + 1 from rfl, Op.equalIn]
  simp only [Sem.run_bind, run_underlying ut, Result.andThen_ok]
  simp only [Std.Legacy.Range.forIn_eq_forIn_range', Std.Legacy.Range.size, Nat.sub_zero, Nat.add_sub_cancel, Nat.div_one, List.range'_succ, List.range'_zero, List.forIn_cons, List.forIn_nil]
  go_simp
  by_cases h0 : a0 = b0 <;> by_cases h1 : a1 = b1 <;> by_cases h2 : a2 = b2 <;> by_cases h3 : a3 = b3 <;> simp [h0, h1, h2, h3]
/-- .. as classes. -/
theorem eq_cls (x y : BitVec 256) (w : World) : (Op.equalIn 10000 41 (.agg #[.int .u64 (wd x 0), .int .u64 (wd x 1), .int .u64 (wd x 2), .int .u64 (wd x 3)]) (.agg #[.int .u64 (wd y 0), .int .u64 (wd y 1), .int .u64 (wd y 2), .int .u64 (wd y 3)])).run Tryd.prog w = .ok (decide (x = y)) w := by
  rw [eq_arr]
  congr 1
  by_cases h : x = y
  · subst h; simp
  · have hn : ¬ (wd x 0 = wd y 0 ∧ wd x 1 = wd y 1 ∧ wd x 2 = wd y 2 ∧ wd x 3 = wd y 3) := fun ⟨h0, h1, h2, h3⟩ => h (wd_ext4 h0 h1 h2 h3)
    rw [decide_eq_false h]
    simp only [Bool.and_eq_false_iff, beq_eq_false_iff_ne, ne_eq]
    omega
theorem eq_cls0 (x : BitVec 256) (w : World) : (Op.equalIn 10000 41 (.agg #[.int .u64 (wd x 0), .int .u64 (wd x 1), .int .u64 (wd x 2), .int .u64 (wd x 3)]) (.agg #[.int .u64 0, .int .u64 0, .int .u64 0, .int .u64 0])).run Tryd.prog w = .ok (decide (x = 0)) w := by
  have h := eq_cls x 0 w
  simp only [wd_zero] at h
  exact h
end Go.Proofs.YtepncbbegpeilaaDoor
