/-
  Texts of the proof, one behind another: Ci, Cj, Cs.
-/
import Derived.Test.YtkhphiilnplgjaaGreatDoorQbj
import Derived.Test.YtkhphiilnplgjaaGreatDoorQbi
import Derived.RangeFuncNested
import Derived.RangeFuncBound
import Derived.RangeFuncCalls
import Derived.RangeFuncLeaves
import Derived.Shelf.Abstract
import Derived.Shelf.RegionOpen
import Derived.OwnWalkIn
import Derived.TacticsInMore
import Derived.LoopNIn
import Derived.LoopIn
import Derived.Test.YtkhphiilnplgjaaGreatDoorQbe
import Derived.Test.YtkhphiilnplgjaaGreatDoorQac
import Derived.Test.YtkhphiilnplgjaaGreatDoorShelf
import Derived.RangeFuncBox
import Derived.Maps.AppendAt
import Derived.Test.YtkhphiilnplgjaaGreatDoorQaf
set_option linter.unusedSimpArgs false
set_option linter.unusedVariables false
namespace Go.Proofs.YtkhphiilnplgjaaGreatDoor
open Go.RowKit Go.Shelf
attribute [local go_sem] Oper.semAt_some

/-- a byte. -/
def B8 : Type := { x : Int // 0 ≤ x ∧ x < 256 }

theorem and_word (u : Nat) (h0 : u ≠ 0) (hu : u < 2 ^ 64) : Value.int .u64 (bits BinOp.and .u64 (u : Int) ((u : Int) - 1)) = Value.int .u64 ((u &&& (u - 1) : Nat) : Int) := by
  have h1 : u < 18446744073709551616 := hu
  rw [show (u : Int) - 1 = ((u - 1 : Nat) : Int) by omega, u64_and_nat u (u - 1) h1 (by omega)]

set_option maxRecDepth 100000 in
set_option maxHeartbeats 1000000 in
theorem members1_in (n : Nat) (hn : 2 ≤ n) (l Bn n₀ : Nat) (x : BitVec 256) (J Jx : List B8 → World → Prop)
    (hY : ∀ pre (y : B8) W, J pre W → pre.length < (mems x 256).length → YieldAt Fence.wide (n - 1) Tryz.prog l #[.int .u8 y.1] W fun e W' =>
      (e = .returned (.bool true) ∧ J (pre ++ [y]) W' ∧ Below n₀ W W') ∨ (e = .returned (.bool false) ∧ Jx (pre ++ [y]) W'))
    (W : World) (hB : Blk W Bn #[.int .u64 (wd x 0), .int .u64 (wd x 1), .int .u64 (wd x 2), .int .u64 (wd x 3)] 27) (hT : TabAt 0 Lib.deBruijn64tab W) (h0 : 0 < n₀) (hJ : J [] W) :
    CallsIn Fence.wide n Tryz.prog 121 #[.func (.yield l) #[] #[], .pointer (some ⟨Bn, 0, none⟩)] W fun e W' => (∃ v, e = .returned v) ∧
      ((∃ ys : List B8, ys.map (·.1) = mems x 256 ∧ J ys W') ∨ (∃ pre : List B8, pre.map (·.1) <+: mems x 256 ∧ Jx pre W')) := by
  obtain ⟨c0, c1, c2, c3, -⟩ := hB.four
  have hfn : ∀ k, Fence.wide.fn k := fun _ => trivial
  have hn1 : 1 ≤ n := by omega
  refine callsIn_of_wp Tryz.func121 rfl trivial ?_ rfl
  simp only [Tryz.ntmps121, List.size_toArray, List.length_cons, List.length_nil, Nat.reduceAdd, Nat.reduceSub, Array.replicate_succ, Array.replicate_zero, List.push_toArray, List.append_toArray, List.nil_append, List.cons_append]
  gi_wp2
  gi_loopw [6] (fun q wr => ∃ (i : Nat) (pre : List B8), i ≤ 4 ∧ q = .int .i64 i ∧ pre.map (·.1) ++ after x i (4 - i) = mems x 256 ∧ J pre wr ∧ TabAt 0 Lib.deBruijn64tab wr)
    (fun q _ => 4 - (intOf q).toNat)
  case atStart =>
    exact ⟨0, [], Nat.zero_le _, rfl, (mems_after x).symm, hJ, hT⟩
  case round =>
    obtain ⟨i, pre, hi, rfl, hpre, hJr, hTr⟩ := hrel
    by_cases hlt : i < 4
    · have hix := index_word x i hlt
      have HP := Lib.hid hpre
      clear hpre
      have hwn := wn_lt x i
      have HS := Lib.hid (show pre.map (·.1) ++ (wm i (wn x i) ++ after x (i + 1) (3 - i)) = mems x 256 by
        rw [← HP.out, show 4 - i = (3 - i) + 1 by omega]; rfl)
      clear HP
      generalize wn x i = u0 at hix hwn HS
      have hd : decide ((i : Int) < 4) = true := by rw [decide_eq_true_iff]; omega
      gi_wp2
      obtain ⟨wo, rfl⟩ : ∃ wo : World, wo = wr := ⟨_, rfl⟩
      gi_loopw [4] (fun v wr => ∃ (u : Nat) (pre : List B8), v = .int .u64 (u : Int) ∧ u < 2 ^ 64 ∧ pre.map (·.1) ++ (wm i u ++ after x (i + 1) (3 - i)) = mems x 256 ∧ J pre wr ∧ TabAt 0 Lib.deBruijn64tab wr)
        (fun v _ => (intOf v).toNat)
      case atStart => exact ⟨u0, pre, rfl, hwn, HS.out, hJr, hTr⟩
      case round =>
        obtain ⟨u, pre2, rfl, hu, hpre2, hJ2, hT2⟩ := hrel
        clear HS hJr hTr hix
        have HP := Lib.hid hpre2
        clear hpre2
        by_cases hu0 : u = 0
        · subst hu0
          have hz : (((0 : Nat) : Int) != 0) = false := by decide
          rw [wm_zero, List.nil_append] at HP
          gi_wp2
          go_roundw
          case rel => exact ⟨i + 1, pre2, by omega, by go_num, by rw [show 4 - (i + 1) = 3 - i by omega]; exact HP.out, hJ2, hT2⟩
          case measure => simp [intOf]; omega
        · have ht : ((u : Int) != 0) = true := by simp; omega
          obtain ⟨-, hk64, -⟩ := low_bits u hu0 hu
          have HT := Lib.hid (tz_any u hu)
          have HS := Lib.hid (show pre2.map (·.1) ++ (((64 * i + Lib.ctz 64 u : Nat) : Int) :: (wm i (u &&& (u - 1)) ++ after x (i + 1) (3 - i))) = mems x 256 by
            rw [← HP.out, wm_step i u hu0 hu]; rfl)
          clear HP
          generalize Lib.ctz 64 u = k at hk64 HT HS
          have hlen : pre2.length < (mems x 256).length := by rw [← HS.out]; simp
          obtain ⟨fn, tmps, assign, body, hy, hR⟩ := hY pre2 ⟨64 * (i : Int) + (k : Int), by omega, by omega⟩ _ hJ2 hlen
          dsimp only at hy
          have hTo := Lib.hid hT2
          have hYo := Lib.hid hY
          clear hlen hY hT2
          gi_wp2_with (gi_at_call 122; refine (callsIn_wide.2 (HT.out _ hTo.out)).mono ?_; rintro e w' ⟨rfl, rfl⟩)
          refine hR.mono ?_
          rintro e W3 (⟨rfl, hJ3, hk3⟩ | ⟨rfl, hJx3⟩)
          · gi_wp2
            go_roundw
            case rel => exact ⟨u &&& (u - 1), pre2 ++ [⟨64 * (i : Int) + (k : Int), by omega, by omega⟩], and_word u hu0 hu, Nat.lt_trans (and_pred_lt u hu0) hu, by rw [← HS.out]; simp; rfl, hJ3, tab_below hTo.out hk3 h0⟩
            case measure =>
              have h1 := and_pred_lt u hu0
              have h2 := and_word u hu0 hu
              simp only [Value.int.injEq, true_and] at h2
              simp [intOf, h2]; omega
          · gi_wp2
            refine bodyPost_ret (results_none rfl _ _ _) rfl ?_
            exact ⟨⟨_, rfl⟩, .inr ⟨pre2 ++ [⟨64 * (i : Int) + (k : Int), by omega, by omega⟩], ⟨wm i (u &&& (u - 1)) ++ after x (i + 1) (3 - i), by rw [← HS.out]; simp; rfl⟩, hJx3⟩⟩
    · obtain rfl : i = 4 := by omega
      simp only [Nat.sub_self, after, List.append_nil] at hpre
      have HP := Lib.hid hpre
      clear hpre
      gi_wp2
      refine bodyPost_end (results_none rfl _ _ _) rfl ?_
      exact ⟨⟨_, rfl⟩, .inl ⟨pre, HP.out, hJr⟩⟩
end Go.Proofs.YtkhphiilnplgjaaGreatDoor

namespace Go.Proofs.YtkhphiilnplgjaaGreatDoor
open Go.RowKit Go.Shelf
attribute [local go_sem] Oper.semAt_some

theorem members_in (n : Nat) (x : BitVec 256) (w : World) :
    CallsIn Fence.wide n Tryz.prog 85 #[.agg #[.int .u64 (wd x 0), .int .u64 (wd x 1), .int .u64 (wd x 2), .int .u64 (wd x 3)]] w fun e w' => e = .returned (.func (.func 121) #[] #[.pointer (some ⟨w.heap.size, 0, none⟩)]) ∧ w' = w.alloc (.cells #[.int .u64 (wd x 0), .int .u64 (wd x 1), .int .u64 (wd x 2), .int .u64 (wd x 3)] 27) := by
  refine callsIn_of_wp Tryz.func85 rfl trivial ?_ rfl
  simp only [Tryz.ntmps85, List.size_toArray, List.length_cons, List.length_nil, Nat.reduceAdd, Nat.reduceSub, Array.replicate_succ, Array.replicate_zero, List.push_toArray, List.append_toArray, List.nil_append, List.cons_append]
  gi_wp2
  go_ret
  exact ⟨rfl, rfl⟩

theorem members_stops (n : Nat) (hn : 2 ≤ n) (Bn n₀ : Nat) (x : BitVec 256) (w : World) (hB : Blk w Bn #[.int .u64 (wd x 0), .int .u64 (wd x 1), .int .u64 (wd x 2), .int .u64 (wd x 3)] 27) (hT : TabAt 0 Lib.deBruijn64tab w) (h0 : 0 < n₀) (hn0 : n₀ ≤ w.heap.size) :
    SeqStopsK Fence.wide n Tryz.prog 121 #[.pointer (some ⟨Bn, 0, none⟩)] (fun y : B8 => #[Value.int .u8 y.1]) (Below n₀) (fun ys => ys.map (·.1) = mems x 256) (fun pre => pre.map (·.1) <+: mems x 256) (mems x 256).length w :=
  fun l J Jx W hW _ _ hY hJ => members1_in n hn l Bn n₀ x J Jx hY W (hB.grows hW) (tab_below hT hW (by omega)) h0 hJ

set_option maxRecDepth 100000 in
set_option maxHeartbeats 1000000 in
theorem least_any (x : BitVec 256) (w : World) (hT : TabAt 0 Lib.deBruijn64tab w) (hg : 0 < w.heap.size) :
    Calls Tryz.prog 63 #[.agg #[.int .u64 (wd x 0), .int .u64 (wd x 1), .int .u64 (wd x 2), .int .u64 (wd x 3)]] w fun e w' => e = .returned (.int .i64 (leastI x)) ∧ Below w.heap.size w w' := by
  have HT := Lib.hid hT
  clear hT
  refine (callsIn_wide (n := 4)).1 ?_
  have hfn : ∀ k, Fence.wide.fn k := fun _ => trivial
  refine callsIn_of_wp_marks Tryz.func63 rfl trivial ?_ rfl
  simp only [Tryz.ntmps63, List.size_toArray, List.length_cons, List.length_nil, Nat.reduceAdd, Nat.reduceSub, Array.replicate_succ, Array.replicate_zero, List.push_toArray, List.append_toArray, List.nil_append, List.cons_append]
  gi_wp2_with (gi_at_call 85; refine (members_in _ x _).mono ?_; rintro e w' ⟨rfl, rfl⟩)
  have hbox := Blk.alloc2 w (.cells #[.int .u64 (wd x 0), .int .u64 (wd x 1), .int .u64 (wd x 2), .int .u64 (wd x 3)] 27) (.cells #[.int .i64 0] 3) #[.int .u64 (wd x 0), .int .u64 (wd x 1), .int .u64 (wd x 2), .int .u64 (wd x 3)] 27
  have hres := (Blk.alloc1 w #[.int .u64 (wd x 0), .int .u64 (wd x 1), .int .u64 (wd x 2), .int .u64 (wd x 3)] #[.int .i64 0] 27 3).alloc (.cells #[.int .u64 (wd x 0), .int .u64 (wd x 1), .int .u64 (wd x 2), .int .u64 (wd x 3)] 27)
  have hB0 : Below w.heap.size w (((w.alloc (.cells #[.int .u64 (wd x 0), .int .u64 (wd x 1), .int .u64 (wd x 2), .int .u64 (wd x 3)] 27)).alloc (.cells #[.int .i64 0] 3)).alloc (.cells #[.int .u64 (wd x 0), .int .u64 (wd x 1), .int .u64 (wd x 2), .int .u64 (wd x 3)] 27)) := by go_grown
  refine wpIn_rangeFunc_ownF rfl (by decide) (gf := 121) (lb := #[.pointer (some ⟨w.heap.size + 1 + 1, 0, none⟩)]) rfl trivial (enters_of Tryz.func121 (by kernel_rfl) rfl)
    (members_stops 3 (by decide) (w.heap.size + 1 + 1) w.heap.size x _ hbox (tab_below HT.out hB0 hg) hg (by simp; omega)) belowK_t (belowK_b (by simp; omega)) (Below.refl _ _) (fun _ => rfl)
    (fun pre W => (pre = [] ∧ W.cell? ⟨w.heap.size + 1, 0, none⟩ = some (.int .i64 0) ∧ W.frozen? ⟨w.heap.size + 1, 0, none⟩ = false) ∧ Below w.heap.size w W)
    (fun c pre W => (c = .ret ∧ ∃ y : B8, pre = [y] ∧ W.cell? ⟨w.heap.size + 1, 0, none⟩ = some (.int .i64 y.1)) ∧ Below w.heap.size w W)
    (OwnFrom.and (Own.from (fun s A B row hs hg hr => ⟨hs.1, cell_kept hs.2.1 hg hr, (frozen_kept hs.2.1 hg hr).trans hs.2.2⟩) _) (ownFrom_below (Nat.le_refl _) (by simp; omega)))
    (fun c => OwnFrom.and (Own.from (fun s A B row hs hg hr => ⟨hs.1, by obtain ⟨y, h1, h2⟩ := hs.2; exact ⟨y, h1, cell_kept h2 hg hr⟩⟩) _) (ownFrom_below (Nat.le_refl _) (by simp; omega)))
    ⟨⟨rfl, hres.cell 0 rfl, hres.free 0⟩, hB0⟩
    (fun y => { tmps := #[.agg #[.int .u64 (wd x 0), .int .u64 (wd x 1), .int .u64 (wd x 2), .int .u64 (wd x 3)], .pointer (some ⟨w.heap.size, 0, none⟩), .pointer (some ⟨w.heap.size + 1, 0, none⟩), .int .u8 y.1, .agg #[.int .u64 (wd x 0), .int .u64 (wd x 1), .int .u64 (wd x 2), .int .u64 (wd x 3)], .func (.func 121) #[] #[.pointer (some ⟨w.heap.size + 1 + 1, 0, none⟩)], .int .u8 y.1, undef, undef], defers := [] }) ?assign ?body ?done ?stop
  case assign =>
    intro l y W K hK
    gi_wp2
    exact hK
  case body =>
    rintro l pre y W ⟨⟨rfl, hcr, hfr⟩, hB⟩ _
    obtain ⟨y, hy⟩ := y
    dsimp only
    gi_wp2
    exact ⟨KeepsOthers.setCell _ _ _, ⟨rfl, ⟨y, hy⟩, rfl, World.cell?_setCell_same' _ _ _ (by rw [hcr]; rfl)⟩, hB.setCell (p := ⟨w.heap.size + 1, 0, none⟩) (by simp) _⟩
  case done =>
    rintro D ys W hD hys ⟨⟨rfl, hcr, hfr⟩, hB⟩ hK
    have hl : leastI x = -1 := by unfold leastI; rw [← hys]; rfl
    have HL := Lib.hid hl
    clear hl hys
    gi_wp2
    have hK' := (KeepsOthers.setCell W ⟨w.heap.size + 1, 0, none⟩ (.int .i64 (-1))).same D _ hK rfl
    refine ⟨by simp, .inl ⟨_, _, rfl, run_takeDeferred hK', ?_⟩⟩
    have hc5 := cell_kept (World.cell?_setCell_same' W ⟨w.heap.size + 1, 0, none⟩ (.int .i64 (-1)) (by rw [hcr]; rfl)) (grownBy_putObj' _ D (.deferred none)) (fun r e => by cases e; exact ⟨_, hK', rfl⟩)
    refine ⟨.int .i64 (-1), ?_, by rw [HL.out], (hB.setCell (p := ⟨w.heap.size + 1, 0, none⟩) (by simp) _).trans (belowK_b (w := w) (Nat.le_refl _) _ D _ _ (by simp at hD; omega) hK' rfl rfl)⟩
    simp [results, Tryz.f63, go_sem, hc5]
  case stop =>
    rintro D c pre W hD hpre ⟨⟨rfl, y, rfl, hcr⟩, hB⟩ hK
    have hl : leastI x = y.1 := by
      obtain ⟨t, ht⟩ := hpre
      unfold leastI; rw [← ht]; rfl
    have HL := Lib.hid hl
    clear hl hpre
    obtain ⟨y, hy⟩ := y
    dsimp only at hcr
    gi_wp2
    refine ⟨by simp, .inl ⟨_, _, rfl, run_takeDeferred hK, ?_⟩⟩
    have hc5 := cell_kept hcr (grownBy_putObj' _ D (.deferred none)) (fun r e => by cases e; exact ⟨_, hK, rfl⟩)
    refine ⟨.int .i64 y, ?_, by rw [HL.out], hB.trans (belowK_b (w := w) (Nat.le_refl _) W D _ _ (by simp at hD; omega) hK rfl rfl)⟩
    simp [results, Tryz.f63, go_sem, hc5]

end Go.Proofs.YtkhphiilnplgjaaGreatDoor

namespace Go.Proofs.YtkhphiilnplgjaaGreatDoor
open Go.RowKit Go.Shelf Go.Lib Go.Sort
attribute [local go_sem] Oper.semAt_some

theorem below_put {B : Nat} (W : World) (l : Nat) (o' : Obj) (hl : B ≤ l) : Below B W (W.putObj l o') :=
  ⟨rfl, rfl, rfl, by simp, fun k hk => World.putObj_heap_other (by omega)⟩
theorem belowP {n₀ : Nat} {w : World} (hn : n₀ ≤ w.heap.size) (W : World) (l : Nat) (o o' : Obj) (hl : w.heap.size ≤ l) (_ : W.heap[l]? = some o) (_ : o.isCells = false) : Below n₀ W (W.putObj l o') := below_put W l o' (by omega)
theorem cell_put {W : World} {p : Addr} {v : Value} {l : Nat} {o : Obj} (h : W.cell? p = some v) (ho : W.heap[l]? = some o) (hc : o.isCells = false) (o' : Obj) : (W.putObj l o').cell? p = some v :=
  cell_kept h (grownBy_putObj' W l o') (fun r e => by cases e; exact ⟨o, ho, hc⟩)
theorem frozen_put {W : World} {p : Addr} {v : Value} {l : Nat} {o : Obj} (h : W.cell? p = some v) (ho : W.heap[l]? = some o) (hc : o.isCells = false) (o' : Obj) : (W.putObj l o').frozen? p = W.frozen? p :=
  frozen_kept h (grownBy_putObj' W l o') (fun r e => by cases e; exact ⟨o, ho, hc⟩)
theorem cell_lay {W : World} {p : Addr} {v : Value} (h : W.cell? p = some v) (o : Obj) : (W.alloc o).cell? p = some v := cell_kept h (World.grownBy_alloc W o none) (fun r e => by cases e)
theorem frozen_lay {W : World} {p : Addr} {v : Value} (h : W.cell? p = some v) (o : Obj) : (W.alloc o).frozen? p = W.frozen? p := frozen_kept h (World.grownBy_alloc W o none) (fun r e => by cases e)

set_option maxRecDepth 100000 in
set_option maxHeartbeats 1000000 in
theorem least_drawn (x : BitVec 256) (w : World) (hT : TabAt 0 Lib.deBruijn64tab w) (hg : 0 < w.heap.size) :
    Calls Tryz.prog 63 #[.agg #[.int .u64 (wd x 0), .int .u64 (wd x 1), .int .u64 (wd x 2), .int .u64 (wd x 3)]] w fun e w' => e = .returned (.int .i64 (leastI x)) ∧ Below w.heap.size w w' ∧ w'.drawn = w.drawn := by
  have HT := Lib.hid hT
  clear hT
  refine (callsIn_wide (n := 4)).1 ?_
  have hfn : ∀ k, Fence.wide.fn k := fun _ => trivial
  refine callsIn_of_wp_marks Tryz.func63 rfl trivial ?_ rfl
  simp only [Tryz.ntmps63, List.size_toArray, List.length_cons, List.length_nil, Nat.reduceAdd, Nat.reduceSub, Array.replicate_succ, Array.replicate_zero, List.push_toArray, List.append_toArray, List.nil_append, List.cons_append]
  gi_wp2_with (gi_at_call 85; refine (members_in _ x _).mono ?_; rintro e w' ⟨rfl, rfl⟩)
  have hbox := Blk.alloc2 w (.cells #[.int .u64 (wd x 0), .int .u64 (wd x 1), .int .u64 (wd x 2), .int .u64 (wd x 3)] 27) (.cells #[.int .i64 0] 3) #[.int .u64 (wd x 0), .int .u64 (wd x 1), .int .u64 (wd x 2), .int .u64 (wd x 3)] 27
  have hres := (Blk.alloc1 w #[.int .u64 (wd x 0), .int .u64 (wd x 1), .int .u64 (wd x 2), .int .u64 (wd x 3)] #[.int .i64 0] 27 3).alloc (.cells #[.int .u64 (wd x 0), .int .u64 (wd x 1), .int .u64 (wd x 2), .int .u64 (wd x 3)] 27)
  have hB0 : Below w.heap.size w (((w.alloc (.cells #[.int .u64 (wd x 0), .int .u64 (wd x 1), .int .u64 (wd x 2), .int .u64 (wd x 3)] 27)).alloc (.cells #[.int .i64 0] 3)).alloc (.cells #[.int .u64 (wd x 0), .int .u64 (wd x 1), .int .u64 (wd x 2), .int .u64 (wd x 3)] 27)) := by go_grown
  refine range_law (Kp := Below w.heap.size) (S := fun ys : List B8 => ys.map (·.1) = mems x 256) (Sp := fun pre : List B8 => pre.map (·.1) <+: mems x 256) (N := (mems x 256).length) (by decide) (gf := 121) (lb := #[.pointer (some ⟨w.heap.size + 1 + 1, 0, none⟩)]) rfl (enters_of Tryz.func121 (by kernel_rfl) rfl)
    (encs := fun y : B8 => #[Value.int .u8 y.1]) (fun _ => rfl) belowK_t (belowP (by simp; omega))
    (fun l J Jx W hW hY hJ => members1_in 3 (by decide) l (w.heap.size + 1 + 1) w.heap.size x J Jx hY W (hbox.grows hW) (tab_below (tab_below HT.out hB0 hg) hW (by simp)) hg hJ)
    (fun pre W => (pre = [] ∧ W.cell? ⟨w.heap.size + 1, 0, none⟩ = some (.int .i64 0) ∧ W.frozen? ⟨w.heap.size + 1, 0, none⟩ = false) ∧ Below w.heap.size w W ∧ W.drawn = w.drawn)
    (fun c pre W => (c = .ret ∧ ∃ y : B8, pre = [y] ∧ W.cell? ⟨w.heap.size + 1, 0, none⟩ = some (.int .i64 y.1)) ∧ Below w.heap.size w W ∧ W.drawn = w.drawn)
    ⟨fun s A l o o' hs hl ho hc => ⟨⟨hs.1.1, cell_put hs.1.2.1 ho hc o', (frozen_put hs.1.2.1 ho hc o').trans hs.1.2.2⟩, hs.2.1.trans (below_put A l o' (Nat.le_trans (by simp; omega) hl)), hs.2.2⟩,
     fun s A o hs hl => ⟨⟨hs.1.1, cell_lay hs.1.2.1 o, (frozen_lay hs.1.2.1 o).trans hs.1.2.2⟩, hs.2.1.alloc (by simp at hl; omega) o, hs.2.2⟩⟩
    (fun c => ⟨fun s A l o o' hs hl ho hc => ⟨⟨hs.1.1, by obtain ⟨y, h1, h2⟩ := hs.1.2; exact ⟨y, h1, cell_put h2 ho hc o'⟩⟩, hs.2.1.trans (below_put A l o' (Nat.le_trans (by simp; omega) hl)), hs.2.2⟩,
     fun s A o hs hl => ⟨⟨hs.1.1, by obtain ⟨y, h1, h2⟩ := hs.1.2; exact ⟨y, h1, cell_lay h2 o⟩⟩, hs.2.1.alloc (by simp at hl; omega) o, hs.2.2⟩⟩)
    ⟨⟨rfl, hres.cell 0 rfl, hres.free 0⟩, hB0, rfl⟩
    (fun y => { tmps := #[.agg #[.int .u64 (wd x 0), .int .u64 (wd x 1), .int .u64 (wd x 2), .int .u64 (wd x 3)], .pointer (some ⟨w.heap.size, 0, none⟩), .pointer (some ⟨w.heap.size + 1, 0, none⟩), .int .u8 y.1, .agg #[.int .u64 (wd x 0), .int .u64 (wd x 1), .int .u64 (wd x 2), .int .u64 (wd x 3)], .func (.func 121) #[] #[.pointer (some ⟨w.heap.size + 1 + 1, 0, none⟩)], .int .u8 y.1, undef, undef], defers := [] }) ?assign ?body ?done ?stop
  case assign =>
    intro l y W K hK
    gi_wp2
    exact hK
  case body =>
    rintro l pre y W ⟨⟨rfl, hcr, hfr⟩, hB, hdr⟩ _
    obtain ⟨y, hy⟩ := y
    have HD := Lib.hid hdr
    clear hdr
    dsimp only
    gi_wp2
    exact ⟨(KeepsOthers.setCell _ _ _).from _, ⟨rfl, ⟨y, hy⟩, rfl, World.cell?_setCell_same' _ _ _ (by rw [hcr]; rfl)⟩, hB.setCell (p := ⟨w.heap.size + 1, 0, none⟩) (by simp) _, HD.out⟩
  case done =>
    rintro D ys W hD hys ⟨⟨rfl, hcr, hfr⟩, hB, hdr⟩ hK
    have hl : leastI x = -1 := by unfold leastI; rw [← hys]; rfl
    have HL := Lib.hid hl
    have HD := Lib.hid hdr
    clear hl hys hdr
    gi_wp2
    have hK' := (KeepsOthers.setCell W ⟨w.heap.size + 1, 0, none⟩ (.int .i64 (-1))).same D _ hK rfl
    refine ⟨by simp, .inl ⟨_, _, rfl, run_takeDeferred hK', ?_⟩⟩
    have hc5 := cell_kept (World.cell?_setCell_same' W ⟨w.heap.size + 1, 0, none⟩ (.int .i64 (-1)) (by rw [hcr]; rfl)) (grownBy_putObj' _ D (.deferred none)) (fun r e => by cases e; exact ⟨_, hK', rfl⟩)
    refine ⟨.int .i64 (-1), ?_, by rw [HL.out], (hB.setCell (p := ⟨w.heap.size + 1, 0, none⟩) (by simp) _).trans (belowK_b (w := w) (Nat.le_refl _) _ D _ _ (by simp at hD; omega) hK' rfl rfl), HD.out⟩
    simp [results, Tryz.f63, go_sem, hc5]
  case stop =>
    rintro D c pre W hD hpre ⟨⟨rfl, y, rfl, hcr⟩, hB, hdr⟩ hK
    have hl : leastI x = y.1 := by
      obtain ⟨t, ht⟩ := hpre
      unfold leastI; rw [← ht]; rfl
    have HL := Lib.hid hl
    have HD := Lib.hid hdr
    clear hl hpre hdr
    obtain ⟨y, hy⟩ := y
    dsimp only at hcr
    gi_wp2
    refine ⟨by simp, .inl ⟨_, _, rfl, run_takeDeferred hK, ?_⟩⟩
    have hc5 := cell_kept hcr (grownBy_putObj' _ D (.deferred none)) (fun r e => by cases e; exact ⟨_, hK, rfl⟩)
    refine ⟨.int .i64 y, ?_, by rw [HL.out], hB.trans (belowK_b (w := w) (Nat.le_refl _) W D _ _ (by simp at hD; omega) hK rfl rfl), HD.out⟩
    simp [results, Tryz.f63, go_sem, hc5]
end Go.Proofs.YtkhphiilnplgjaaGreatDoor
