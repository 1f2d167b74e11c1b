/-
  Walks: the number of members.
-/
import Derived.Test.YtepncbbegpeilaaDoorKi
import Derived.Test.YtepncbbegpeilaaDoorKq
set_option linter.unusedSimpArgs false
set_option linter.unusedVariables false
namespace Go.Proofs.YtepncbbegpeilaaDoor
open Go.RowKit

theorem popc_le (u : Nat) : popc u ≤ 64 := Nat.le_trans (List.length_filter_le _ _) (by simp)
theorem wm_len (i u : Nat) : (wm i u).length = popc u := by unfold wm popc; rw [List.length_map]

set_option maxHeartbeats 400000 in
theorem ones_any (u : Nat) (hu : u < 2 ^ 64) (w : World) :
    Calls Tryd.prog 50 #[.int .u64 (u : Int)] w fun e w' => e = .returned (.int .i64 (popc u : Nat)) ∧ w = w' := by
  have HF := Lib.hid (ones_fin u hu)
  go_enter Tryd.func50, Tryd.ntmps50
  go_wp2
  go_ret
  exact ⟨ret_int HF.out, rfl⟩

/-- the sum over the words below i. -/
def cnt (x : BitVec 256) (i : Nat) : Nat := ((List.range i).map fun q => popc (wn x q)).sum
theorem cnt_succ (x : BitVec 256) (i : Nat) : cnt x (i + 1) = cnt x i + popc (wn x i) := by
  unfold cnt; rw [List.range_succ, List.map_append, List.sum_append]; simp
theorem cnt_le (x : BitVec 256) : ∀ i, cnt x i ≤ 64 * i
  | 0 => by simp [cnt]
  | i + 1 => by rw [cnt_succ]; have := cnt_le x i; have := popc_le (wn x i); omega
theorem cnt_four (x : BitVec 256) : cnt x 4 = (mems x 256).length := by
  rw [mems_after]; simp only [after, List.length_append, wm_len, List.length_nil, Nat.zero_add, Nat.reduceAdd]
  rw [cnt_succ, cnt_succ, cnt_succ, cnt_succ, show cnt x 0 = 0 from rfl]; omega

set_option maxRecDepth 100000 in
set_option maxHeartbeats 400000 in
theorem size_any (x : BitVec 256) (w : World) :
    Calls Tryd.prog 42 #[.agg #[.int .u64 (wd x 0), .int .u64 (wd x 1), .int .u64 (wd x 2), .int .u64 (wd x 3)]] w fun e w' => e = .returned (.int .i64 (mems x 256).length) ∧ Below w.heap.size w w' := by
  have HF := Lib.hid (cnt_four x)
  go_enter Tryd.func42, Tryd.ntmps42
  go_wp2
  go_loopw [3, 7] (fun n q wr => ∃ i : Nat, i ≤ 4 ∧ q = .int .i64 i ∧ n = .int .i64 (cnt x i : Nat) ∧ Below w.heap.size w wr) (fun _ q _ => 4 - (intOf q).toNat)
  case atStart => exact ⟨0, Nat.zero_le _, rfl, rfl, by go_grown⟩
  case round =>
    obtain ⟨i, hi, rfl, rfl, hbw⟩ := hrel
    have hle := cnt_le x i
    by_cases hlt : i < 4
    · have hix := index_word x i hlt
      have HU := Lib.hid (ones_any (wn x i) (wn_lt x i))
      have hpo := popc_le (wn x i)
      have HS := Lib.hid (cnt_succ x i)
      generalize wn x i = u at hix HU HS hpo
      generalize popc u = pu at HU HS hpo
      generalize cnt x i = ci at HS hle
      have hd : decide ((i : Int) < 4) = true := by rw [decide_eq_true_iff]; omega
      go_wp2_with (go_at_call 50; refine (HU.out _).mono ?_; rintro e w1 ⟨rfl, rfl⟩)
      go_roundw
      case rel => exact ⟨i + 1, by omega, by go_num, by rw [HS.out]; go_num, hbw⟩
      case measure => simp [intOf]; omega
    · obtain rfl : i = 4 := by omega
      rw [HF.out]
      go_wp2
      go_ret
      exact ⟨rfl, hbw⟩
end Go.Proofs.YtepncbbegpeilaaDoor
