/-
  Bytes as arguments; RowsProjection for a byte given as an integer.
-/
import Derived.Test.YtmhhfommgdljkaaOa
import Derived.Test.YtmhhfommgdljkaaDe
set_option linter.unusedSimpArgs false
set_option linter.unusedVariables false
namespace Go.Proofs.Ytmhhfommgdljkaa
open Go.RowKit Go.Lib

theorem u8_bounds {y : Int} (h : (Lit.int .u8 y).wf = true) : 0 ≤ y ∧ y < 256 := by
  simp [Lit.wf, IntKind.min, IntKind.max, IntKind.signed, IntKind.bits] at h; omega
theorem projection_int (v : Value) (s : Sy) (y : Int) (w : World) (hs : IsS w v s) (hy : 0 ≤ y ∧ y < 256) :
    Calls Try.prog 7 #[v, .int .u8 y] w fun e w' => e = .returned (.bool true) ∧ Below w.heap.size w w' := by
  obtain ⟨a, rfl⟩ := Int.eq_ofNat_of_zero_le hy.1
  exact projection_walk v s a w hs (by omega)
end Go.Proofs.Ytmhhfommgdljkaa
