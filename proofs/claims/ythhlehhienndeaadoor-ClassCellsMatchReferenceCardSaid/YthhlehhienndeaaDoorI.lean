/-
  Walks: the iterator over the members of a class.
-/
import Derived.RangeFuncNested
import Derived.RangeFuncBound
import Derived.RangeFuncCalls
import Derived.RangeFuncLeaves
import Derived.Shelf.Abstract
import Derived.Shelf.RegionOpen
import Derived.OwnWalkIn
import Derived.TacticsInMore
import Derived.LoopNIn
import Derived.LoopIn
import Derived.Test.YthhlehhienndeaaDoorH
import Derived.Test.YthhlehhienndeaaDoorN
import Derived.Test.YthhlehhienndeaaDoorShelf
set_option linter.unusedSimpArgs false
set_option linter.unusedVariables false
namespace Go.Proofs.YthhlehhienndeaaDoor
open Go.RowKit Go.Shelf
attribute [local go_sem] Oper.semAt_some

/-- a byte. -/
def B8 : Type := { x : Int // 0 ≤ x ∧ x < 256 }

theorem tz_any (u : Nat) (hu : u < 2 ^ 64) (w : World) (hT : TabAt 0 Lib.deBruijn64tab w) :
    Calls Tryd.prog 54 #[.int .u64 (u : Int)] w fun e w' => e = .returned (.int .i64 (Lib.ctz 64 u : Nat)) ∧ w' = w :=
  Any7.bits_TrailingZeros64 Tryd.lays7n29 u hu w (fun _ => hT)

theorem tab_below {w w' : World} {B : Nat} (h : TabAt 0 Lib.deBruijn64tab w) (hb : Below B w w') (h0 : 0 < B) : TabAt 0 Lib.deBruijn64tab w' :=
  fun j hj => (hb.cell (p := ⟨0, j, none⟩) h0).trans (h j hj)

theorem index_word0 (a b c d : Int) (w : World) : (Instr.index 24 (.agg #[.int .u64 a, .int .u64 b, .int .u64 c, .int .u64 d]) (.int .i64 0)).run Tryd.prog w = .ok (.int .u64 a) w := by kernel_rfl
theorem index_word1 (a b c d : Int) (w : World) : (Instr.index 24 (.agg #[.int .u64 a, .int .u64 b, .int .u64 c, .int .u64 d]) (.int .i64 1)).run Tryd.prog w = .ok (.int .u64 b) w := by kernel_rfl
theorem index_word2 (a b c d : Int) (w : World) : (Instr.index 24 (.agg #[.int .u64 a, .int .u64 b, .int .u64 c, .int .u64 d]) (.int .i64 2)).run Tryd.prog w = .ok (.int .u64 c) w := by kernel_rfl
theorem index_word3 (a b c d : Int) (w : World) : (Instr.index 24 (.agg #[.int .u64 a, .int .u64 b, .int .u64 c, .int .u64 d]) (.int .i64 3)).run Tryd.prog w = .ok (.int .u64 d) w := by kernel_rfl
theorem index_word (x : BitVec 256) (i : Nat) (hi : i < 4) (w : World) : (Instr.index 24 (.agg #[.int .u64 (wd x 0), .int .u64 (wd x 1), .int .u64 (wd x 2), .int .u64 (wd x 3)]) (.int .i64 (i : Int))).run Tryd.prog w = .ok (.int .u64 ((wn x i : Nat) : Int)) w := by
  have h : i = 0 ∨ i = 1 ∨ i = 2 ∨ i = 3 := by omega
  rcases h with rfl | rfl | rfl | rfl
  · exact index_word0 _ _ _ _ w
  · exact index_word1 _ _ _ _ w
  · exact index_word2 _ _ _ _ w
  · exact index_word3 _ _ _ _ w

theorem and_word (u : Nat) (h0 : u ≠ 0) (hu : u < 2 ^ 64) : Value.int .u64 (bits BinOp.and .u64 (u : Int) ((u : Int) - 1)) = Value.int .u64 ((u &&& (u - 1) : Nat) : Int) := by
  have h1 : u < 18446744073709551616 := hu
  rw [show (u : Int) - 1 = ((u - 1 : Nat) : Int) by omega, u64_and_nat u (u - 1) h1 (by omega)]

set_option maxRecDepth 100000 in
set_option maxHeartbeats 1000000 in
theorem members1_in (n : Nat) (hn : 2 ≤ n) (l Bn n₀ : Nat) (x : BitVec 256) (J Jx : List B8 → World → Prop)
    (hY : ∀ pre (y : B8) W, J pre W → pre.length < (mems x 256).length → YieldAt Fence.wide (n - 1) Tryd.prog l #[.int .u8 y.1] W fun e W' =>
      (e = .returned (.bool true) ∧ J (pre ++ [y]) W' ∧ Below n₀ W W') ∨ (e = .returned (.bool false) ∧ Jx (pre ++ [y]) W'))
    (W : World) (hB : Blk W Bn #[.int .u64 (wd x 0), .int .u64 (wd x 1), .int .u64 (wd x 2), .int .u64 (wd x 3)] 24) (hT : TabAt 0 Lib.deBruijn64tab W) (h0 : 0 < n₀) (hJ : J [] W) :
    CallsIn Fence.wide n Tryd.prog 53 #[.func (.yield l) #[] #[], .pointer (some ⟨Bn, 0, none⟩)] W fun e W' => (∃ v, e = .returned v) ∧
      ((∃ ys : List B8, ys.map (·.1) = mems x 256 ∧ J ys W') ∨ (∃ pre : List B8, pre.map (·.1) <+: mems x 256 ∧ Jx pre W')) := by
  obtain ⟨c0, c1, c2, c3, -⟩ := hB.four
  have hfn : ∀ k, Fence.wide.fn k := fun _ => trivial
  have hn1 : 1 ≤ n := by omega
  refine callsIn_of_wp Tryd.func53 rfl trivial ?_ rfl
  simp only [Tryd.ntmps53, List.size_toArray, List.length_cons, List.length_nil, Nat.reduceAdd, Nat.reduceSub, Array.replicate_succ, Array.replicate_zero, List.push_toArray, List.append_toArray, List.nil_append, List.cons_append]
  gi_wp2
  gi_loopw [6] (fun q wr => ∃ (i : Nat) (pre : List B8), i ≤ 4 ∧ q = .int .i64 i ∧ pre.map (·.1) ++ after x i (4 - i) = mems x 256 ∧ J pre wr ∧ TabAt 0 Lib.deBruijn64tab wr)
    (fun q _ => 4 - (intOf q).toNat)
  case atStart =>
    exact ⟨0, [], Nat.zero_le _, rfl, (mems_after x).symm, hJ, hT⟩
  case round =>
    obtain ⟨i, pre, hi, rfl, hpre, hJr, hTr⟩ := hrel
    by_cases hlt : i < 4
    · have hix := index_word x i hlt
      have HP := Lib.hid hpre
      clear hpre
      have hwn := wn_lt x i
      have HS := Lib.hid (show pre.map (·.1) ++ (wm i (wn x i) ++ after x (i + 1) (3 - i)) = mems x 256 by
        rw [← HP.out, show 4 - i = (3 - i) + 1 by omega]; rfl)
      clear HP
      generalize wn x i = u0 at hix hwn HS
      have hd : decide ((i : Int) < 4) = true := by rw [decide_eq_true_iff]; omega
      gi_wp2
      obtain ⟨wo, rfl⟩ : ∃ wo : World, wo = wr := ⟨_, rfl⟩
      gi_loopw [4] (fun v wr => ∃ (u : Nat) (pre : List B8), v = .int .u64 (u : Int) ∧ u < 2 ^ 64 ∧ pre.map (·.1) ++ (wm i u ++ after x (i + 1) (3 - i)) = mems x 256 ∧ J pre wr ∧ TabAt 0 Lib.deBruijn64tab wr)
        (fun v _ => (intOf v).toNat)
      case atStart => exact ⟨u0, pre, rfl, hwn, HS.out, hJr, hTr⟩
      case round =>
        obtain ⟨u, pre2, rfl, hu, hpre2, hJ2, hT2⟩ := hrel
        clear HS hJr hTr hix
        have HP := Lib.hid hpre2
        clear hpre2
        by_cases hu0 : u = 0
        · subst hu0
          have hz : (((0 : Nat) : Int) != 0) = false := by decide
          rw [wm_zero, List.nil_append] at HP
          gi_wp2
          go_roundw
          case rel => exact ⟨i + 1, pre2, by omega, by go_num, by rw [show 4 - (i + 1) = 3 - i by omega]; exact HP.out, hJ2, hT2⟩
          case measure => simp [intOf]; omega
        · have ht : ((u : Int) != 0) = true := by simp; omega
          obtain ⟨-, hk64, -⟩ := low_bits u hu0 hu
          have HT := Lib.hid (tz_any u hu)
          have HS := Lib.hid (show pre2.map (·.1) ++ (((64 * i + Lib.ctz 64 u : Nat) : Int) :: (wm i (u &&& (u - 1)) ++ after x (i + 1) (3 - i))) = mems x 256 by
            rw [← HP.out, wm_step i u hu0 hu]; rfl)
          clear HP
          generalize Lib.ctz 64 u = k at hk64 HT HS
          have hlen : pre2.length < (mems x 256).length := by rw [← HS.out]; simp
          obtain ⟨fn, tmps, assign, body, hy, hR⟩ := hY pre2 ⟨64 * (i : Int) + (k : Int), by omega, by omega⟩ _ hJ2 hlen
          dsimp only at hy
          have hTo := Lib.hid hT2
          have hYo := Lib.hid hY
          clear hlen hY hT2
          gi_wp2_with (gi_at_call 54; refine (callsIn_wide.2 (HT.out _ hTo.out)).mono ?_; rintro e w' ⟨rfl, rfl⟩)
          refine hR.mono ?_
          rintro e W3 (⟨rfl, hJ3, hk3⟩ | ⟨rfl, hJx3⟩)
          · gi_wp2
            go_roundw
            case rel => exact ⟨u &&& (u - 1), pre2 ++ [⟨64 * (i : Int) + (k : Int), by omega, by omega⟩], and_word u hu0 hu, Nat.lt_trans (and_pred_lt u hu0) hu, by rw [← HS.out]; simp; rfl, hJ3, tab_below hTo.out hk3 h0⟩
            case measure =>
              have h1 := and_pred_lt u hu0
              have h2 := and_word u hu0 hu
              simp only [Value.int.injEq, true_and] at h2
              simp [intOf, h2]; omega
          · gi_wp2
            refine bodyPost_ret (results_none rfl _ _ _) rfl ?_
            exact ⟨⟨_, rfl⟩, .inr ⟨pre2 ++ [⟨64 * (i : Int) + (k : Int), by omega, by omega⟩], ⟨wm i (u &&& (u - 1)) ++ after x (i + 1) (3 - i), by rw [← HS.out]; simp; rfl⟩, hJx3⟩⟩
    · obtain rfl : i = 4 := by omega
      simp only [Nat.sub_self, after, List.append_nil] at hpre
      have HP := Lib.hid hpre
      clear hpre
      gi_wp2
      refine bodyPost_end (results_none rfl _ _ _) rfl ?_
      exact ⟨⟨_, rfl⟩, .inl ⟨pre, HP.out, hJr⟩⟩
end Go.Proofs.YthhlehhienndeaaDoor
