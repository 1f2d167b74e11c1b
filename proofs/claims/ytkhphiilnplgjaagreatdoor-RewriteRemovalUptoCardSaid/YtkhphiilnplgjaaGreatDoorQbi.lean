/-
  Texts of the proof, one behind another: Ki, Kk.
-/
import Derived.Shelf.Abstract
import Derived.Test.YtkhphiilnplgjaaGreatDoorQac
import Derived.Test.YtkhphiilnplgjaaGreatDoorQba
import Derived.Test.YtkhphiilnplgjaaGreatDoorShelf
import Derived.Test.YtkhphiilnplgjaaGreatDoorQad
set_option linter.unusedSimpArgs false
set_option linter.unusedVariables false
namespace Go.Proofs.YtkhphiilnplgjaaGreatDoor
open Go.RowKit Go.Shelf

theorem tz_any (u : Nat) (hu : u < 2 ^ 64) (w : World) (hT : TabAt 0 Lib.deBruijn64tab w) :
    Calls Tryz.prog 122 #[.int .u64 (u : Int)] w fun e w' => e = .returned (.int .i64 (Lib.ctz 64 u : Nat)) ∧ w' = w :=
  Any7.bits_TrailingZeros64 Tryz.lays7n29 u hu w (fun _ => hT)

theorem tab_below {w w' : World} {B : Nat} (h : TabAt 0 Lib.deBruijn64tab w) (hb : Below B w w') (h0 : 0 < B) : TabAt 0 Lib.deBruijn64tab w' :=
  fun j hj => (hb.cell (p := ⟨0, j, none⟩) h0).trans (h j hj)

theorem index_word0 (a b c d : Int) (w : World) : (Instr.index 27 (.agg #[.int .u64 a, .int .u64 b, .int .u64 c, .int .u64 d]) (.int .i64 0)).run Tryz.prog w = .ok (.int .u64 a) w := by kernel_rfl
theorem index_word1 (a b c d : Int) (w : World) : (Instr.index 27 (.agg #[.int .u64 a, .int .u64 b, .int .u64 c, .int .u64 d]) (.int .i64 1)).run Tryz.prog w = .ok (.int .u64 b) w := by kernel_rfl
theorem index_word2 (a b c d : Int) (w : World) : (Instr.index 27 (.agg #[.int .u64 a, .int .u64 b, .int .u64 c, .int .u64 d]) (.int .i64 2)).run Tryz.prog w = .ok (.int .u64 c) w := by kernel_rfl
theorem index_word3 (a b c d : Int) (w : World) : (Instr.index 27 (.agg #[.int .u64 a, .int .u64 b, .int .u64 c, .int .u64 d]) (.int .i64 3)).run Tryz.prog w = .ok (.int .u64 d) w := by kernel_rfl
theorem index_word (x : BitVec 256) (i : Nat) (hi : i < 4) (w : World) : (Instr.index 27 (.agg #[.int .u64 (wd x 0), .int .u64 (wd x 1), .int .u64 (wd x 2), .int .u64 (wd x 3)]) (.int .i64 (i : Int))).run Tryz.prog w = .ok (.int .u64 ((wn x i : Nat) : Int)) w := by
  have h : i = 0 ∨ i = 1 ∨ i = 2 ∨ i = 3 := by omega
  rcases h with rfl | rfl | rfl | rfl
  · exact index_word0 _ _ _ _ w
  · exact index_word1 _ _ _ _ w
  · exact index_word2 _ _ _ _ w
  · exact index_word3 _ _ _ _ w

end Go.Proofs.YtkhphiilnplgjaaGreatDoor

namespace Go.Proofs.YtkhphiilnplgjaaGreatDoor
open Go.RowKit

theorem popc_le (u : Nat) : popc u ≤ 64 := Nat.le_trans (List.length_filter_le _ _) (by simp)
theorem wm_len (i u : Nat) : (wm i u).length = popc u := by unfold wm popc; rw [List.length_map]

set_option maxHeartbeats 400000 in
theorem ones_any (u : Nat) (hu : u < 2 ^ 64) (w : World) :
    Calls Tryz.prog 116 #[.int .u64 (u : Int)] w fun e w' => e = .returned (.int .i64 (popc u : Nat)) ∧ w = w' := by
  have HF := Lib.hid (ones_fin u hu)
  go_enter Tryz.func116, Tryz.ntmps116
  go_wp2
  go_ret
  exact ⟨ret_int HF.out, rfl⟩

/-- the sum over the words below i. -/
def cnt (x : BitVec 256) (i : Nat) : Nat := ((List.range i).map fun q => popc (wn x q)).sum
theorem cnt_succ (x : BitVec 256) (i : Nat) : cnt x (i + 1) = cnt x i + popc (wn x i) := by
  unfold cnt; rw [List.range_succ, List.map_append, List.sum_append]; simp
theorem cnt_le (x : BitVec 256) : ∀ i, cnt x i ≤ 64 * i
  | 0 => by simp [cnt]
  | i + 1 => by rw [cnt_succ]; have := cnt_le x i; have := popc_le (wn x i); omega
theorem cnt_four (x : BitVec 256) : cnt x 4 = (mems x 256).length := by
  rw [mems_after]; simp only [after, List.length_append, wm_len, List.length_nil, Nat.zero_add, Nat.reduceAdd]
  rw [cnt_succ, cnt_succ, cnt_succ, cnt_succ, show cnt x 0 = 0 from rfl]; omega

set_option maxRecDepth 100000 in
set_option maxHeartbeats 400000 in
theorem size_any (x : BitVec 256) (w : World) :
    Calls Tryz.prog 76 #[.agg #[.int .u64 (wd x 0), .int .u64 (wd x 1), .int .u64 (wd x 2), .int .u64 (wd x 3)]] w fun e w' => e = .returned (.int .i64 (mems x 256).length) ∧ Below w.heap.size w w' := by
  have HF := Lib.hid (cnt_four x)
  go_enter Tryz.func76, Tryz.ntmps76
  go_wp2
  go_loopw [3, 7] (fun n q wr => ∃ i : Nat, i ≤ 4 ∧ q = .int .i64 i ∧ n = .int .i64 (cnt x i : Nat) ∧ Below w.heap.size w wr) (fun _ q _ => 4 - (intOf q).toNat)
  case atStart => exact ⟨0, Nat.zero_le _, rfl, rfl, by go_grown⟩
  case round =>
    obtain ⟨i, hi, rfl, rfl, hbw⟩ := hrel
    have hle := cnt_le x i
    by_cases hlt : i < 4
    · have hix := index_word x i hlt
      have HU := Lib.hid (ones_any (wn x i) (wn_lt x i))
      have hpo := popc_le (wn x i)
      have HS := Lib.hid (cnt_succ x i)
      generalize wn x i = u at hix HU HS hpo
      generalize popc u = pu at HU HS hpo
      generalize cnt x i = ci at HS hle
      have hd : decide ((i : Int) < 4) = true := by rw [decide_eq_true_iff]; omega
      go_wp2_with (go_at_call 116; refine (HU.out _).mono ?_; rintro e w1 ⟨rfl, rfl⟩)
      go_roundw
      case rel => exact ⟨i + 1, by omega, by go_num, by rw [HS.out]; go_num, hbw⟩
      case measure => simp [intOf]; omega
    · obtain rfl : i = 4 := by omega
      rw [HF.out]
      go_wp2
      go_ret
      exact ⟨rfl, hbw⟩
end Go.Proofs.YtkhphiilnplgjaaGreatDoor
