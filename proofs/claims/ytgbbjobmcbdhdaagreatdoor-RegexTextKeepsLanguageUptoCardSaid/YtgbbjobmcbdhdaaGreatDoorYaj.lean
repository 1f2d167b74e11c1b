/-
  Texts of the proof, one behind another: I, J, Fh.
-/
import Derived.RangeFuncNested
import Derived.RangeFuncBound
import Derived.RangeFuncCalls
import Derived.RangeFuncLeaves
import Derived.Shelf.Abstract
import Derived.Shelf.RegionOpen
import Derived.OwnWalkIn
import Derived.TacticsInMore
import Derived.LoopNIn
import Derived.LoopIn
import Derived.Test.YtgbbjobmcbdhdaaGreatDoorYah
import Derived.Test.YtgbbjobmcbdhdaaGreatDoorYai
import Derived.Test.YtgbbjobmcbdhdaaGreatDoorShelf
import Derived.RangeFuncBox
import Derived.Maps.AppendAt
import Derived.Test.YtgbbjobmcbdhdaaGreatDoorYae
import Derived.Deep.QuietTactic
import Derived.BigQuiet
set_option linter.unusedSimpArgs false
set_option linter.unusedVariables false
/-
  Walks: the iterator over the members of a class.
-/
namespace Go.Proofs.YtgbbjobmcbdhdaaGreatDoor
open Go.RowKit Go.Shelf
attribute [local go_sem] Oper.semAt_some

/-- a byte. -/
def B8 : Type := { x : Int // 0 ≤ x ∧ x < 256 }

theorem tz_any (u : Nat) (hu : u < 2 ^ 64) (w : World) (hT : TabAt 0 Lib.deBruijn64tab w) :
    Calls Tryz.prog 116 #[.int .u64 (u : Int)] w fun e w' => e = .returned (.int .i64 (Lib.ctz 64 u : Nat)) ∧ w' = w :=
  Any7.bits_TrailingZeros64 Tryz.lays7n29 u hu w (fun _ => hT)

theorem tab_below {w w' : World} {B : Nat} (h : TabAt 0 Lib.deBruijn64tab w) (hb : Below B w w') (h0 : 0 < B) : TabAt 0 Lib.deBruijn64tab w' :=
  fun j hj => (hb.cell (p := ⟨0, j, none⟩) h0).trans (h j hj)

theorem index_word0 (a b c d : Int) (w : World) : (Instr.index 43 (.agg #[.int .u64 a, .int .u64 b, .int .u64 c, .int .u64 d]) (.int .i64 0)).run Tryz.prog w = .ok (.int .u64 a) w := by kernel_rfl
theorem index_word1 (a b c d : Int) (w : World) : (Instr.index 43 (.agg #[.int .u64 a, .int .u64 b, .int .u64 c, .int .u64 d]) (.int .i64 1)).run Tryz.prog w = .ok (.int .u64 b) w := by kernel_rfl
theorem index_word2 (a b c d : Int) (w : World) : (Instr.index 43 (.agg #[.int .u64 a, .int .u64 b, .int .u64 c, .int .u64 d]) (.int .i64 2)).run Tryz.prog w = .ok (.int .u64 c) w := by kernel_rfl
theorem index_word3 (a b c d : Int) (w : World) : (Instr.index 43 (.agg #[.int .u64 a, .int .u64 b, .int .u64 c, .int .u64 d]) (.int .i64 3)).run Tryz.prog w = .ok (.int .u64 d) w := by kernel_rfl
theorem index_word (x : BitVec 256) (i : Nat) (hi : i < 4) (w : World) : (Instr.index 43 (.agg #[.int .u64 (wd x 0), .int .u64 (wd x 1), .int .u64 (wd x 2), .int .u64 (wd x 3)]) (.int .i64 (i : Int))).run Tryz.prog w = .ok (.int .u64 ((wn x i : Nat) : Int)) w := by
  have h : i = 0 ∨ i = 1 ∨ i = 2 ∨ i = 3 := by omega
  rcases h with rfl | rfl | rfl | rfl
  · exact index_word0 _ _ _ _ w
  · exact index_word1 _ _ _ _ w
  · exact index_word2 _ _ _ _ w
  · exact index_word3 _ _ _ _ w

theorem and_word (u : Nat) (h0 : u ≠ 0) (hu : u < 2 ^ 64) : Value.int .u64 (bits BinOp.and .u64 (u : Int) ((u : Int) - 1)) = Value.int .u64 ((u &&& (u - 1) : Nat) : Int) := by
  have h1 : u < 18446744073709551616 := hu
  rw [show (u : Int) - 1 = ((u - 1 : Nat) : Int) by omega, u64_and_nat u (u - 1) h1 (by omega)]

set_option maxRecDepth 100000 in
set_option maxHeartbeats 1000000 in
theorem members1_in (n : Nat) (hn : 2 ≤ n) (l Bn n₀ : Nat) (x : BitVec 256) (J Jx : List B8 → World → Prop)
    (hY : ∀ pre (y : B8) W, J pre W → pre.length < (mems x 256).length → YieldAt Fence.wide (n - 1) Tryz.prog l #[.int .u8 y.1] W fun e W' =>
      (e = .returned (.bool true) ∧ J (pre ++ [y]) W' ∧ Below n₀ W W') ∨ (e = .returned (.bool false) ∧ Jx (pre ++ [y]) W'))
    (W : World) (hB : Blk W Bn #[.int .u64 (wd x 0), .int .u64 (wd x 1), .int .u64 (wd x 2), .int .u64 (wd x 3)] 43) (hT : TabAt 0 Lib.deBruijn64tab W) (h0 : 0 < n₀) (hJ : J [] W) :
    CallsIn Fence.wide n Tryz.prog 115 #[.func (.yield l) #[] #[], .pointer (some ⟨Bn, 0, none⟩)] W fun e W' => (∃ v, e = .returned v) ∧
      ((∃ ys : List B8, ys.map (·.1) = mems x 256 ∧ J ys W') ∨ (∃ pre : List B8, pre.map (·.1) <+: mems x 256 ∧ Jx pre W')) := by
  obtain ⟨c0, c1, c2, c3, -⟩ := hB.four
  have hfn : ∀ k, Fence.wide.fn k := fun _ => trivial
  have hn1 : 1 ≤ n := by omega
  refine callsIn_of_wp Tryz.func115 rfl trivial ?_ rfl
  simp only [Tryz.ntmps115, List.size_toArray, List.length_cons, List.length_nil, Nat.reduceAdd, Nat.reduceSub, Array.replicate_succ, Array.replicate_zero, List.push_toArray, List.append_toArray, List.nil_append, List.cons_append]
  gi_wp2
  gi_loopw [6] (fun q wr => ∃ (i : Nat) (pre : List B8), i ≤ 4 ∧ q = .int .i64 i ∧ pre.map (·.1) ++ after x i (4 - i) = mems x 256 ∧ J pre wr ∧ TabAt 0 Lib.deBruijn64tab wr)
    (fun q _ => 4 - (intOf q).toNat)
  case atStart =>
    exact ⟨0, [], Nat.zero_le _, rfl, (mems_after x).symm, hJ, hT⟩
  case round =>
    obtain ⟨i, pre, hi, rfl, hpre, hJr, hTr⟩ := hrel
    by_cases hlt : i < 4
    · have hix := index_word x i hlt
      have HP := Lib.hid hpre
      clear hpre
      have hwn := wn_lt x i
      have HS := Lib.hid (show pre.map (·.1) ++ (wm i (wn x i) ++ after x (i + 1) (3 - i)) = mems x 256 by
        rw [← HP.out, show 4 - i = (3 - i) + 1 by omega]; rfl)
      clear HP
      generalize wn x i = u0 at hix hwn HS
      have hd : decide ((i : Int) < 4) = true := by rw [decide_eq_true_iff]; omega
      gi_wp2
      obtain ⟨wo, rfl⟩ : ∃ wo : World, wo = wr := ⟨_, rfl⟩
      gi_loopw [4] (fun v wr => ∃ (u : Nat) (pre : List B8), v = .int .u64 (u : Int) ∧ u < 2 ^ 64 ∧ pre.map (·.1) ++ (wm i u ++ after x (i + 1) (3 - i)) = mems x 256 ∧ J pre wr ∧ TabAt 0 Lib.deBruijn64tab wr)
        (fun v _ => (intOf v).toNat)
      case atStart => exact ⟨u0, pre, rfl, hwn, HS.out, hJr, hTr⟩
      case round =>
        obtain ⟨u, pre2, rfl, hu, hpre2, hJ2, hT2⟩ := hrel
        clear HS hJr hTr hix
        have HP := Lib.hid hpre2
        clear hpre2
        by_cases hu0 : u = 0
        · subst hu0
          have hz : (((0 : Nat) : Int) != 0) = false := by decide
          rw [wm_zero, List.nil_append] at HP
          gi_wp2
          go_roundw
          case rel => exact ⟨i + 1, pre2, by omega, by go_num, by rw [show 4 - (i + 1) = 3 - i by omega]; exact HP.out, hJ2, hT2⟩
          case measure => simp [intOf]; omega
        · have ht : ((u : Int) != 0) = true := by simp; omega
          obtain ⟨-, hk64, -⟩ := low_bits u hu0 hu
          have HT := Lib.hid (tz_any u hu)
          have HS := Lib.hid (show pre2.map (·.1) ++ (((64 * i + Lib.ctz 64 u : Nat) : Int) :: (wm i (u &&& (u - 1)) ++ after x (i + 1) (3 - i))) = mems x 256 by
            rw [← HP.out, wm_step i u hu0 hu]; rfl)
          clear HP
          generalize Lib.ctz 64 u = k at hk64 HT HS
          have hlen : pre2.length < (mems x 256).length := by rw [← HS.out]; simp
          obtain ⟨fn, tmps, assign, body, hy, hR⟩ := hY pre2 ⟨64 * (i : Int) + (k : Int), by omega, by omega⟩ _ hJ2 hlen
          dsimp only at hy
          have hTo := Lib.hid hT2
          have hYo := Lib.hid hY
          clear hlen hY hT2
          gi_wp2_with (gi_at_call 116; refine (callsIn_wide.2 (HT.out _ hTo.out)).mono ?_; rintro e w' ⟨rfl, rfl⟩)
          refine hR.mono ?_
          rintro e W3 (⟨rfl, hJ3, hk3⟩ | ⟨rfl, hJx3⟩)
          · gi_wp2
            go_roundw
            case rel => exact ⟨u &&& (u - 1), pre2 ++ [⟨64 * (i : Int) + (k : Int), by omega, by omega⟩], and_word u hu0 hu, Nat.lt_trans (and_pred_lt u hu0) hu, by rw [← HS.out]; simp; rfl, hJ3, tab_below hTo.out hk3 h0⟩
            case measure =>
              have h1 := and_pred_lt u hu0
              have h2 := and_word u hu0 hu
              simp only [Value.int.injEq, true_and] at h2
              simp [intOf, h2]; omega
          · gi_wp2
            refine bodyPost_ret (results_none rfl _ _ _) rfl ?_
            exact ⟨⟨_, rfl⟩, .inr ⟨pre2 ++ [⟨64 * (i : Int) + (k : Int), by omega, by omega⟩], ⟨wm i (u &&& (u - 1)) ++ after x (i + 1) (3 - i), by rw [← HS.out]; simp; rfl⟩, hJx3⟩⟩
    · obtain rfl : i = 4 := by omega
      simp only [Nat.sub_self, after, List.append_nil] at hpre
      have HP := Lib.hid hpre
      clear hpre
      gi_wp2
      refine bodyPost_end (results_none rfl _ _ _) rfl ?_
      exact ⟨⟨_, rfl⟩, .inl ⟨pre, HP.out, hJr⟩⟩
end Go.Proofs.YtgbbjobmcbdhdaaGreatDoor

/-
  Walks: the least member and the list of members, over the iterator.
-/
namespace Go.Proofs.YtgbbjobmcbdhdaaGreatDoor
open Go.RowKit Go.Shelf
attribute [local go_sem] Oper.semAt_some

theorem members_in (n : Nat) (x : BitVec 256) (w : World) :
    CallsIn Fence.wide n Tryz.prog 100 #[.agg #[.int .u64 (wd x 0), .int .u64 (wd x 1), .int .u64 (wd x 2), .int .u64 (wd x 3)]] w fun e w' => e = .returned (.func (.func 115) #[] #[.pointer (some ⟨w.heap.size, 0, none⟩)]) ∧ w' = w.alloc (.cells #[.int .u64 (wd x 0), .int .u64 (wd x 1), .int .u64 (wd x 2), .int .u64 (wd x 3)] 43) := by
  refine callsIn_of_wp Tryz.func100 rfl trivial ?_ rfl
  simp only [Tryz.ntmps100, List.size_toArray, List.length_cons, List.length_nil, Nat.reduceAdd, Nat.reduceSub, Array.replicate_succ, Array.replicate_zero, List.push_toArray, List.append_toArray, List.nil_append, List.cons_append]
  gi_wp2
  go_ret
  exact ⟨rfl, rfl⟩

theorem members_stops (n : Nat) (hn : 2 ≤ n) (Bn n₀ : Nat) (x : BitVec 256) (w : World) (hB : Blk w Bn #[.int .u64 (wd x 0), .int .u64 (wd x 1), .int .u64 (wd x 2), .int .u64 (wd x 3)] 43) (hT : TabAt 0 Lib.deBruijn64tab w) (h0 : 0 < n₀) (hn0 : n₀ ≤ w.heap.size) :
    SeqStopsK Fence.wide n Tryz.prog 115 #[.pointer (some ⟨Bn, 0, none⟩)] (fun y : B8 => #[Value.int .u8 y.1]) (Below n₀) (fun ys => ys.map (·.1) = mems x 256) (fun pre => pre.map (·.1) <+: mems x 256) (mems x 256).length w :=
  fun l J Jx W hW _ _ hY hJ => members1_in n hn l Bn n₀ x J Jx hY W (hB.grows hW) (tab_below hT hW (by omega)) h0 hJ

set_option maxRecDepth 100000 in
set_option maxHeartbeats 1000000 in
theorem bytes_any (x : BitVec 256) (w : World) (hT : TabAt 0 Lib.deBruijn64tab w) (hg : 0 < w.heap.size) :
    Calls Tryz.prog 74 #[.agg #[.int .u64 (wd x 0), .int .u64 (wd x 1), .int .u64 (wd x 2), .int .u64 (wd x 3)]] w fun e w' => (∃ v, e = .returned v ∧ w'.ownsRow w.heap.size 5 1 v (mems x 256).length ((mems x 256).map (Value.int .u8))) ∧ Below w.heap.size w w' := by
  have HT := Lib.hid hT
  clear hT
  obtain ⟨i0, hi, hz0, hz1, hz2⟩ := info_parts infoByte
  refine (callsIn_wide (n := 4)).1 ?_
  have hfn : ∀ k, Fence.wide.fn k := fun _ => trivial
  refine callsIn_of_wp_marks Tryz.func74 rfl trivial ?_ rfl
  simp only [Tryz.ntmps74, List.size_toArray, List.length_cons, List.length_nil, Nat.reduceAdd, Nat.reduceSub, Array.replicate_succ, Array.replicate_zero, List.push_toArray, List.append_toArray, List.nil_append, List.cons_append]
  gi_wp2_with (gi_at_call 100; refine (members_in _ x _).mono ?_; rintro e w' ⟨rfl, rfl⟩)
  have hbox := Blk.alloc2 w (.cells #[.int .u64 (wd x 0), .int .u64 (wd x 1), .int .u64 (wd x 2), .int .u64 (wd x 3)] 43) (.cells #[.slice none 0 0] 24) #[.int .u64 (wd x 0), .int .u64 (wd x 1), .int .u64 (wd x 2), .int .u64 (wd x 3)] 43
  have bO : Boxed ((w.alloc (.cells #[.int .u64 (wd x 0), .int .u64 (wd x 1), .int .u64 (wd x 2), .int .u64 (wd x 3)] 43)).alloc (.cells #[.slice none 0 0] 24)) (w.heap.size + 1) 24 (.slice none 0 0) := by
    have := Boxed.new (w.alloc (.cells #[.int .u64 (wd x 0), .int .u64 (wd x 1), .int .u64 (wd x 2), .int .u64 (wd x 3)] 43)) 24 (.slice none 0 0)
    simpa using this
  have hB0 : Below w.heap.size w (((w.alloc (.cells #[.int .u64 (wd x 0), .int .u64 (wd x 1), .int .u64 (wd x 2), .int .u64 (wd x 3)] 43)).alloc (.cells #[.slice none 0 0] 24)).alloc (.cells #[.int .u64 (wd x 0), .int .u64 (wd x 1), .int .u64 (wd x 2), .int .u64 (wd x 3)] 43)) := by go_grown
  have hml := mems_len x 256
  refine wpIn_rangeFunc_ownG rfl (by decide) (gf := 115) (lb := #[.pointer (some ⟨w.heap.size + 1 + 1, 0, none⟩)]) rfl trivial (enters_of Tryz.func115 (by kernel_rfl) rfl)
    (members_stops 3 (by decide) (w.heap.size + 1 + 1) w.heap.size x _ hbox (tab_below HT.out hB0 hg) hg (by simp; omega)) belowK_t (belowK_b (by simp; omega)) (Below.refl _ _) (fun _ => rfl)
    (fun pre W => (∃ v, Boxed W (w.heap.size + 1) 24 v ∧ W.ownsRow w.heap.size 5 1 v pre.length (pre.map fun y => Value.int .u8 y.1) ∧ True) ∧ Below w.heap.size w W)
    (fun _ _ _ => False)
    (OwnFrom.and (Own.from (holdsRow_own w.heap.size (w.heap.size + 1) 24 5 1 (fun (pre : List B8) => pre.length) (fun pre => pre.map fun y => Value.int .u8 y.1) (fun _ _ => True)) _) (ownFrom_below (Nat.le_refl _) (by simp; omega)))
    (fun _ _ _ _ _ hs _ _ => hs)
    ⟨⟨_, bO.alloc _, World.ownsRow_nil _ _ _ _, trivial⟩, hB0⟩
    (fun y => { tmps := #[.agg #[.int .u64 (wd x 0), .int .u64 (wd x 1), .int .u64 (wd x 2), .int .u64 (wd x 3)], .pointer (some ⟨w.heap.size, 0, none⟩), .slice none 0 0, .pointer (some ⟨w.heap.size + 1, 0, none⟩), .int .u8 y.1, .agg #[.int .u64 (wd x 0), .int .u64 (wd x 1), .int .u64 (wd x 2), .int .u64 (wd x 3)], .func (.func 115) #[] #[.pointer (some ⟨w.heap.size + 1 + 1, 0, none⟩)], .int .u8 y.1, undef, undef, undef, undef, undef], defers := [] }) ?assign ?body ?done ?stop
  case assign =>
    intro l y W K hK
    gi_wp2
    exact hK
  case body =>
    rintro l pre y W ⟨⟨v, hv, hrow, -⟩, hB⟩ hlt
    have hc := hv.cell
    obtain ⟨y, hy⟩ := y
    dsimp only
    gi_wp2_with (gi_at_builtin; refine wpListIn_append_own _ rfl _ _ 24 rfl w.heap.size 5 i0 (.int .u8 0) 1 1 Tryz.underlying24 hi hz0 hz1 hz2 rfl (by decide) _ _ _ rfl (hrow.alloc _) ⟨W.heap.size, 0, none⟩ 1 1 [.int .u8 y] rfl rfl (cell_one_new _ _ _) (by simp [Value.oneCell']) (by unfold maxLen; omega) (by omega) (by have := hB.size; simp; omega) ?_; intro v' w1 hown' hgrow _; obtain ⟨g', cap', rfl⟩ := ownsRow_succ hown'; obtain ⟨hv1, hv2, hr2, hk2, hb2⟩ := hv.appended (by decide) hrow hB.size (by omega) hown' hgrow; have hc1 := hv1.cell; have hf1 := hv1.frozen)
    exact ⟨hk2.from _, hb2, ⟨_, hv2, own_cast hr2 (by rw [List.length_append]; rfl) (by rw [List.map_append]; rfl), trivial⟩, hB.trans hb2⟩
  case done =>
    rintro D ys W hD hys ⟨⟨v, hv, hrow, -⟩, hB⟩ hK
    have hc := hv.cell
    have hr2 : W.ownsRow w.heap.size 5 1 v (mems x 256).length ((mems x 256).map (Value.int .u8)) := own_cast hrow (by rw [← hys]; simp) (by rw [← hys]; simp)
    clear hys hrow
    gi_wp2
    refine ⟨by simp, .inl ⟨_, _, rfl, run_takeDeferred hK, ?_⟩⟩
    exact ⟨_, results_tmp rfl _ _ _, ⟨v, rfl, ownsRow_putObj hr2 _ hK rfl⟩, hB.trans (belowK_b (w := w) (Nat.le_refl _) W D _ _ (by simp at hD; omega) hK rfl rfl)⟩
  case stop =>
    rintro D c pre W _ _ h _
    exact h.elim
end Go.Proofs.YtgbbjobmcbdhdaaGreatDoor

/-
  Walks: canonical texts: a byte of the examples, classes of one and of no byte, a repetition without bounds.
-/
namespace Go.Proofs.YtgbbjobmcbdhdaaGreatDoor
open Go.RowKit Go.Shelf Go.Lib

theorem below_drews' {B : Nat} {a w : World} (h : Below B a w) (n : Nat) : Below B a (w.drewN n) := ⟨h.os, h.tape, h.output, h.size, h.block⟩
set_option maxRecDepth 100000 in
set_option maxHeartbeats 1000000 in
theorem char_dash (W : World) : Calls Tryz.prog 75 #[.int .u8 45] W fun e W' => e = .returned (.string ⟨#[92, 120, 50, 100]⟩) ∧ Below W.heap.size W W' := by
  have hp : ∀ w, Calls Tryz.prog 101 #[.int .u8 45] w fun e W' => e = .returned (.bool false) ∧ W' = w := fun w => plain_any 45 w
  go_enter Tryz.func75, Tryz.ntmps75
  go_wp2_with (go_at_call 101; refine (hp _).mono ?_; rintro e w' ⟨rfl, rfl⟩)
  go_quiet (fail)
  go_wp2
  go_ret
  exact ⟨by kernel_rfl, below_drews' (Below.refl _ _) _⟩
theorem own_one {w : World} {base : Nat} {e : TypeId} {v u : Value} (h : w.ownsRow base e 1 v 1 [u]) : ∃ g cap, v = .slice (some ⟨g, 0, none⟩) 1 cap ∧ w.cell? ⟨g, 0, none⟩ = some u := by
  rcases h.2 with ⟨_, h0⟩ | ⟨g, cap, cur, rfl, _⟩
  · cases h0
  · exact ⟨g, cap, rfl, by simpa [Addr.add] using h.cells (g := g) rfl 0 u rfl⟩
set_option maxRecDepth 100000 in
set_option maxHeartbeats 1000000 in
theorem class_one (c : BitVec 256) (y : Int) (T : ByteArray) (hm : mems c 256 = [y]) (hch : ∀ w, Calls Tryz.prog 75 #[.int .u8 y] w fun e W' => e = .returned (.string T) ∧ Below w.heap.size w W')
    (W : World) (hT : TabAt 0 Lib.deBruijn64tab W) (hg : 0 < W.heap.size) :
    Calls Tryz.prog 50 #[.agg #[.int .u64 (wd c 0), .int .u64 (wd c 1), .int .u64 (wd c 2), .int .u64 (wd c 3)]] W fun e W' => e = .returned (.string T) ∧ Below W.heap.size W W' := by
  have HT := Lib.hid hT
  clear hT
  go_enter Tryz.func50, Tryz.ntmps50
  go_wp2_with fail
  have hbx : Below W.heap.size W (W.alloc (.cells #[.int .u64 (wd c 0), .int .u64 (wd c 1), .int .u64 (wd c 2), .int .u64 (wd c 3)] 43)) := (Below.refl _ W).alloc (Nat.le_refl _) _
  generalize hW1 : (W.alloc (.cells #[.int .u64 (wd c 0), .int .u64 (wd c 1), .int .u64 (wd c 2), .int .u64 (wd c 3)] 43)) = W1 at hbx ⊢
  have HB := Lib.hid (bytes_any c W1 (tab_below HT.out hbx hg) (by have := hbx.size; omega))
  clear hW1
  go_wp2_with (go_at_call 74; refine HB.out.mono ?_; rintro e W2 ⟨⟨v, rfl, hown⟩, hb2⟩; rw [hm] at hown; obtain ⟨g, cap, rfl, hgc⟩ := own_one hown)
  go_wp2_with (go_at_call 75; refine (hch _).mono ?_; rintro e W3 ⟨rfl, hb3⟩)
  go_ret
  exact ⟨rfl, (hbx.trans (hb2.mono hbx.size)).trans (hb3.mono (hbx.trans (hb2.mono hbx.size)).size)⟩
set_option maxRecDepth 100000 in
set_option maxHeartbeats 1000000 in
theorem class_none (c : BitVec 256) (hm : mems c 256 = [])
    (W : World) (hT : TabAt 0 Lib.deBruijn64tab W) (hg : 0 < W.heap.size) :
    Calls Tryz.prog 50 #[.agg #[.int .u64 (wd c 0), .int .u64 (wd c 1), .int .u64 (wd c 2), .int .u64 (wd c 3)]] W fun e W' => e = .returned (.string ⟨#[91, 93]⟩) ∧ Below W.heap.size W W' := by
  have HT := Lib.hid hT
  clear hT
  go_enter Tryz.func50, Tryz.ntmps50
  go_wp2_with fail
  have hbx : Below W.heap.size W (W.alloc (.cells #[.int .u64 (wd c 0), .int .u64 (wd c 1), .int .u64 (wd c 2), .int .u64 (wd c 3)] 43)) := (Below.refl _ W).alloc (Nat.le_refl _) _
  generalize hW1 : (W.alloc (.cells #[.int .u64 (wd c 0), .int .u64 (wd c 1), .int .u64 (wd c 2), .int .u64 (wd c 3)] 43)) = W1 at hbx ⊢
  have HB := Lib.hid (bytes_any c W1 (tab_below HT.out hbx hg) (by have := hbx.size; omega))
  clear hW1
  go_wp2_with (go_at_call 74; refine HB.out.mono ?_; rintro e W2 ⟨⟨v, rfl, hown⟩, hb2⟩; rw [hm] at hown; obtain ⟨pv, cv, rfl⟩ := own_shape hown; simp only [List.length_nil])
  refine wp_loop_rounds 1 ?_
  rw [rounds_succ]
  go_wp2_with fail
  go_ret
  exact ⟨congrArg (fun s => Ending.returned (.string s)) (show (⟨#[91]⟩ ++ ⟨#[93]⟩ : ByteArray) = ⟨#[91, 93]⟩ by kernel_rfl), hbx.trans (hb2.mono hbx.size)⟩
theorem eq_pair (a0 a1 b0 b1 : Int) (w : World) :
    (Op.equalIn 10000 112 (.agg #[.int .i64 a0, .int .i64 a1]) (.agg #[.int .i64 b0, .int .i64 b1])).run Tryz.prog w = .ok (a0 == b0 && a1 == b1) w := by
  have ut := Tryz.underlying112
  have ue := Tryz.underlying3
  have ae := Tryz.isAgg3
  have ze := Tryz.sizeOf3
  rw [show (10000 : Nat) = 9999 + 1 from rfl, Op.equalIn]
  simp only [Sem.run_bind, run_underlying ut, Result.andThen_ok]
  simp only [Std.Legacy.Range.forIn_eq_forIn_range', Std.Legacy.Range.size, Nat.sub_zero, Nat.add_sub_cancel, Nat.div_one, List.range'_succ, List.range'_zero, List.forIn_cons, List.forIn_nil]
  go_simp
  by_cases h0 : a0 = b0 <;> by_cases h1 : a1 = b1 <;> simp [h0, h1]
set_option maxRecDepth 100000 in
set_option maxHeartbeats 1000000 in
theorem rep_star (W : World) : Calls Tryz.prog 51 #[.int .i64 0, .int .i64 (-1)] W fun e W' => e = .returned (.string ⟨#[42]⟩) ∧ W' = W := by
  have heq : ∀ w, (Op.equalIn 10000 112 (.agg #[.int .i64 0, .int .i64 (-1)]) (.agg #[.int .i64 0, .int .i64 (-1)])).run Tryz.prog w = .ok true w := fun w => eq_pair _ _ _ _ w
  go_enter Tryz.func51, Tryz.ntmps51
  go_wp2
  go_ret
  exact ⟨rfl, rfl⟩
end Go.Proofs.YtgbbjobmcbdhdaaGreatDoor
