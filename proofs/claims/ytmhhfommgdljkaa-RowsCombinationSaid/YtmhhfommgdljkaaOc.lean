/-
  Bytes as arguments; RowsCombination for bytes given as integers.
-/
import Derived.Test.YtmhhfommgdljkaaOa
import Derived.Test.YtmhhfommgdljkaaDd
set_option linter.unusedSimpArgs false
set_option linter.unusedVariables false
namespace Go.Proofs.Ytmhhfommgdljkaa
open Go.RowKit Go.Lib

theorem u8_bounds {y : Int} (h : (Lit.int .u8 y).wf = true) : 0 ≤ y ∧ y < 256 := by
  simp [Lit.wf, IntKind.min, IntKind.max, IntKind.signed, IntKind.bits] at h; omega
theorem combination_int (v : Value) (s : Sy) (y z : Int) (w : World) (hs : IsS w v s) (hy : 0 ≤ y ∧ y < 256) (hz : 0 ≤ z ∧ z < 256) :
    Calls Try.prog 6 #[v, .int .u8 y, .int .u8 z] w fun e w' => e = .returned (.bool true) ∧ Below w.heap.size w w' := by
  obtain ⟨a, rfl⟩ := Int.eq_ofNat_of_zero_le hy.1
  obtain ⟨b, rfl⟩ := Int.eq_ofNat_of_zero_le hz.1
  exact combination_walk v s a b w hs (by omega) (by omega)
end Go.Proofs.Ytmhhfommgdljkaa
