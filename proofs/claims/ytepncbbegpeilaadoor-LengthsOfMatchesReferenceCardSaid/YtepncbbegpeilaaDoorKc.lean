/-
  Walks: a class out of bytes: the code's Of and the reference's.
-/
import Derived.Test.YtepncbbegpeilaaDoorKa
import Derived.Test.YtepncbbegpeilaaDoorB
import Derived.Lib.Hide
set_option linter.unusedSimpArgs false
set_option linter.unusedVariables false
namespace Go.Proofs.YtepncbbegpeilaaDoor
open Go.RowKit

/-- the class of a list of bytes. -/
def ofL (l : List Int) : BitVec 256 := l.foldl (fun c b => c ||| bit b.toNat) 0
theorem ofL_nil : ofL [] = 0 := rfl
theorem ofL_snoc (l : List Int) (b : Int) : ofL (l ++ [b]) = ofL l ||| bit b.toNat := by unfold ofL; rw [List.foldl_append]; rfl
theorem ofL_take (zs : List Int) (k : Nat) (h : k < zs.length) : ofL (zs.take (k + 1)) = ofL (zs.take k) ||| bit (zs.getD k 0).toNat := by
  rw [List.take_succ_eq_append_getElem h, ofL_snoc, List.getD_eq_getElem?_getD, List.getElem?_eq_getElem h]; rfl

theorem clsSize : (Tryd.prog.info? 41).map (·.size) = some 4 := by kernel_rfl

end Go.Proofs.YtepncbbegpeilaaDoor
