/-
  Walks: the lowest bit; a word of a class by its index.
-/
import Derived.Shelf.Abstract
import Derived.Test.YtepncbbegpeilaaDoorKn
import Derived.Test.YtepncbbegpeilaaDoorKc
import Derived.Test.YtepncbbegpeilaaDoorShelf
set_option linter.unusedSimpArgs false
set_option linter.unusedVariables false
namespace Go.Proofs.YtepncbbegpeilaaDoor
open Go.RowKit Go.Shelf

theorem tz_any (u : Nat) (hu : u < 2 ^ 64) (w : World) (hT : TabAt 0 Lib.deBruijn64tab w) :
    Calls Tryd.prog 16 #[.int .u64 (u : Int)] w fun e w' => e = .returned (.int .i64 (Lib.ctz 64 u : Nat)) ∧ w' = w :=
  Any7.bits_TrailingZeros64 Tryd.lays7n29 u hu w (fun _ => hT)

theorem tab_below {w w' : World} {B : Nat} (h : TabAt 0 Lib.deBruijn64tab w) (hb : Below B w w') (h0 : 0 < B) : TabAt 0 Lib.deBruijn64tab w' :=
  fun j hj => (hb.cell (p := ⟨0, j, none⟩) h0).trans (h j hj)

theorem index_word0 (a b c d : Int) (w : World) : (Instr.index 41 (.agg #[.int .u64 a, .int .u64 b, .int .u64 c, .int .u64 d]) (.int .i64 0)).run Tryd.prog w = .ok (.int .u64 a) w := by kernel_rfl
theorem index_word1 (a b c d : Int) (w : World) : (Instr.index 41 (.agg #[.int .u64 a, .int .u64 b, .int .u64 c, .int .u64 d]) (.int .i64 1)).run Tryd.prog w = .ok (.int .u64 b) w := by kernel_rfl
theorem index_word2 (a b c d : Int) (w : World) : (Instr.index 41 (.agg #[.int .u64 a, .int .u64 b, .int .u64 c, .int .u64 d]) (.int .i64 2)).run Tryd.prog w = .ok (.int .u64 c) w := by kernel_rfl
theorem index_word3 (a b c d : Int) (w : World) : (Instr.index 41 (.agg #[.int .u64 a, .int .u64 b, .int .u64 c, .int .u64 d]) (.int .i64 3)).run Tryd.prog w = .ok (.int .u64 d) w := by kernel_rfl
theorem index_word (x : BitVec 256) (i : Nat) (hi : i < 4) (w : World) : (Instr.index 41 (.agg #[.int .u64 (wd x 0), .int .u64 (wd x 1), .int .u64 (wd x 2), .int .u64 (wd x 3)]) (.int .i64 (i : Int))).run Tryd.prog w = .ok (.int .u64 ((wn x i : Nat) : Int)) w := by
  have h : i = 0 ∨ i = 1 ∨ i = 2 ∨ i = 3 := by omega
  rcases h with rfl | rfl | rfl | rfl
  · exact index_word0 _ _ _ _ w
  · exact index_word1 _ _ _ _ w
  · exact index_word2 _ _ _ _ w
  · exact index_word3 _ _ _ _ w

end Go.Proofs.YtepncbbegpeilaaDoor
