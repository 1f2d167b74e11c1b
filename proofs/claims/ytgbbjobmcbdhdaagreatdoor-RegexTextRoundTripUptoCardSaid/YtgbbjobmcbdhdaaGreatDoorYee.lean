/-
  Texts of the proof, one behind another: Tb.
-/
import Derived.Test.YtgbbjobmcbdhdaaGreatDoorCards
import Derived.Test.YtgbbjobmcbdhdaaGreatDoorTie
import Derived.WalkKit
import Derived.ProofKit
import Derived.OpenShut
import Derived.LaidSub
import Derived.Deep.DeepHandedRow
import Derived.Lib.LaidTab
import Derived.Lib.AppendIntMem
import Derived.Below
import Derived.Shelf.Spec.TrailingZeros
set_option linter.unusedSimpArgs false
set_option linter.unusedVariables false
/-
  What the rows' listed tables give, and a world for the witness.
-/
namespace Go.Proofs.YtgbbjobmcbdhdaaGreatDoor
open Go.ChangeShapes Go.WideShapes Go.ChangeAt Go.RowKit

theorem ownKnobNone : ownKnob Tryz.prog.godebug = none := by kernel_rfl
theorem gTab : Tryz.prog.globalNamed "math/bits.deBruijn64tab" = some 0 := by kernel_rfl
theorem gTabType : (Tryz.prog.globals[0]?).map (·.type) = some 156 := by kernel_rfl
theorem cellsTab : Tryz.prog.cellsOf 156 = 64 := by kernel_rfl
theorem cellsByte : Tryz.prog.cellsOf 5 = 1 := by kernel_rfl
theorem gPow : Tryz.prog.globalNamed "internal/strconv.uint64pow10" = some 1 := by kernel_rfl
theorem gPowType : (Tryz.prog.globals[1]?).map (·.type) = some 177 := by kernel_rfl
theorem cellsPow : Tryz.prog.cellsOf 177 = 20 := by kernel_rfl
theorem cellsWord : Tryz.prog.cellsOf 41 = 1 := by kernel_rfl
def tabInts : List Int := Lib.deBruijn64tab.map fun (n : Nat) => (n : Int)
def laidL : List (String × DataW Unit) := [("math/bits.deBruijn32tab", Rows.laid_math_bits_deBruijn32tab), ("math/bits.deBruijn64tab", Rows.laid_math_bits_deBruijn64tab), ("internal/strconv.uint64pow10", Rows.laid_internal_strconv_uint64pow10)]

set_option maxRecDepth 100000 in
theorem tableIs {W : World} (h : laidMetH Tryz.prog [("math/bits.deBruijn64tab", Rows.laid_math_bits_deBruijn64tab)] W) : Lib.TabIs Tryz.prog W "math/bits.deBruijn64tab" .u8 tabInts :=
  Lib.tabIs_of_head (rest := []) gTab gTabType Tryz.underlying156 Tryz.underlying5 cellsByte cellsTab h
theorem table {W : World} (h0 : laidMetH Tryz.prog laidL W) : TabAt 0 Lib.deBruijn64tab W := by
  have h : laidMetH Tryz.prog [("math/bits.deBruijn64tab", Rows.laid_math_bits_deBruijn64tab)] W := by
    have h1 := h0.filter (fun p => p.1 == "math/bits.deBruijn64tab")
    rwa [show laidL.filter (fun p => p.1 == "math/bits.deBruijn64tab") = [("math/bits.deBruijn64tab", Rows.laid_math_bits_deBruijn64tab)] by kernel_rfl] at h1
  intro j hj
  have h2 := (tableIs h).cell gTab j (by unfold tabInts; rw [List.length_map]; exact hj)
  rw [h2]
  unfold tabInts
  rw [List.getD_eq_getElem?_getD, List.getElem?_map, List.getD_eq_getElem?_getD, List.getElem?_eq_getElem hj]
  rfl
theorem table_lt {W : World} (h : TabAt 0 Lib.deBruijn64tab W) : 0 < W.heap.size := by
  have h0 := h 0 (by decide)
  rcases Nat.lt_or_ge 0 W.heap.size with hlt | hge
  · exact hlt
  · unfold World.cell? at h0; rw [Array.getElem?_eq_none hge] at h0; cases h0
set_option maxRecDepth 100000 in
theorem powers {W : World} (h0 : laidMetH Tryz.prog laidL W) : Lib.TabBelow Tryz.prog W.heap.size W "internal/strconv.uint64pow10" .u64 Lib.pow10Tab := by
  have h : laidMetH Tryz.prog [("internal/strconv.uint64pow10", Lib.tabData .u64 Lib.pow10Tab)] W := by
    have h1 := h0.filter (fun p => p.1 == "internal/strconv.uint64pow10")
    rwa [show laidL.filter (fun p => p.1 == "internal/strconv.uint64pow10") = [("internal/strconv.uint64pow10", Lib.tabData .u64 Lib.pow10Tab)] by kernel_rfl] at h1
  exact Lib.tabBelow_of_tabIs (Lib.tabIs_of_head (rest := []) gPow gPowType Tryz.underlying177 Tryz.underlying41 cellsWord cellsPow h)

def putCells (cs : List Value) : Obj → Obj
  | .cells _ t frozen => .cells cs.toArray t frozen
  | o => o
def tab32 : List Int := [0, 1, 28, 2, 29, 14, 24, 3, 30, 22, 20, 15, 25, 17, 4, 8, 31, 27, 13, 23, 21, 19, 16, 7, 26, 12, 18, 6, 11, 5, 10, 9]
def laidHeap (h : Array Obj) : Array Obj :=
  ((h.modify 0 (putCells (tabInts.map (Value.int .u8)))).modify 1 (putCells (Lib.pow10Tab.map (Value.int .u64)))).modify 3 (putCells (tab32.map (Value.int .u8)))
/-- A world for the witness: the settled one, the tables holding what their initialisers lay. -/
noncomputable def laidWorld (os : Os) : World :=
  { World.holding Tryz.prog os ⟨#[], #[], []⟩ with heap := laidHeap (World.holding Tryz.prog os ⟨#[], #[], []⟩).heap }
end Go.Proofs.YtgbbjobmcbdhdaaGreatDoor
