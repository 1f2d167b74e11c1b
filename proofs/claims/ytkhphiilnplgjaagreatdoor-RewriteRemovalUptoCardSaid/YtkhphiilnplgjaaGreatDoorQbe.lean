/-
  Texts of the proof, one behind another: Kf, Ch.
-/
import Derived.Test.YtkhphiilnplgjaaGreatDoorQba
import Derived.Test.YtkhphiilnplgjaaGreatDoorQbc
import Derived.RegionTactic
import Derived.Shelf.Abstract
import Derived.Deep.RegionWith
import Derived.Deep.RegionHeld3
set_option linter.unusedSimpArgs false
set_option linter.unusedVariables false
namespace Go.Proofs.YtkhphiilnplgjaaGreatDoor
open Go.RowKit

theorem eg_or : ∀ args w, (callFunc 115 args).run Tryz.prog w = .ok (.enter 115 args) w := enters_of Tryz.func115 (by kernel_rfl) rfl
theorem eg_and : ∀ args w, (callFunc 114 args).run Tryz.prog w = .ok (.enter 114 args) w := enters_of Tryz.func114 (by kernel_rfl) rfl
theorem eg_minus : ∀ args w, (callFunc 135 args).run Tryz.prog w = .ok (.enter 135 args) w := enters_of Tryz.func135 (by kernel_rfl) rfl

theorem combine_or (x y : BitVec 256) (w : World) : Calls Tryz.prog 113 #[.agg #[.int .u64 (wd x 0), .int .u64 (wd x 1), .int .u64 (wd x 2), .int .u64 (wd x 3)], .agg #[.int .u64 (wd y 0), .int .u64 (wd y 1), .int .u64 (wd y 2), .int .u64 (wd y 3)], .func (.func 115) #[] #[]] w fun e w' => e = .returned (.agg #[.int .u64 (wd (x ||| y) 0), .int .u64 (wd (x ||| y) 1), .int .u64 (wd (x ||| y) 2), .int .u64 (wd (x ||| y) 3)]) ∧ Below w.heap.size w w' :=
  (combine_any _ _ or_clo eg_or _ _ _ _ _ _ _ _ w).mono fun _ _ ⟨he, hb⟩ => ⟨he.trans (agg4 (wd_or _ _ _) (wd_or _ _ _) (wd_or _ _ _) (wd_or _ _ _)), hb⟩
theorem combine_and (x y : BitVec 256) (w : World) : Calls Tryz.prog 113 #[.agg #[.int .u64 (wd x 0), .int .u64 (wd x 1), .int .u64 (wd x 2), .int .u64 (wd x 3)], .agg #[.int .u64 (wd y 0), .int .u64 (wd y 1), .int .u64 (wd y 2), .int .u64 (wd y 3)], .func (.func 114) #[] #[]] w fun e w' => e = .returned (.agg #[.int .u64 (wd (x &&& y) 0), .int .u64 (wd (x &&& y) 1), .int .u64 (wd (x &&& y) 2), .int .u64 (wd (x &&& y) 3)]) ∧ Below w.heap.size w w' :=
  (combine_any _ _ and_clo eg_and _ _ _ _ _ _ _ _ w).mono fun _ _ ⟨he, hb⟩ => ⟨he.trans (agg4 (wd_and _ _ _) (wd_and _ _ _) (wd_and _ _ _) (wd_and _ _ _)), hb⟩
theorem combine_minus (x y : BitVec 256) (w : World) : Calls Tryz.prog 113 #[.agg #[.int .u64 (wd x 0), .int .u64 (wd x 1), .int .u64 (wd x 2), .int .u64 (wd x 3)], .agg #[.int .u64 (wd y 0), .int .u64 (wd y 1), .int .u64 (wd y 2), .int .u64 (wd y 3)], .func (.func 135) #[] #[]] w fun e w' => e = .returned (.agg #[.int .u64 (wd (x &&& ~~~y) 0), .int .u64 (wd (x &&& ~~~y) 1), .int .u64 (wd (x &&& ~~~y) 2), .int .u64 (wd (x &&& ~~~y) 3)]) ∧ Below w.heap.size w w' :=
  (combine_any _ _ minus_clo eg_minus _ _ _ _ _ _ _ _ w).mono fun _ _ ⟨he, hb⟩ => ⟨he.trans (agg4 (wd_andNot _ _ _ (by decide)) (wd_andNot _ _ _ (by decide)) (wd_andNot _ _ _ (by decide)) (wd_andNot _ _ _ (by decide))), hb⟩

set_option maxHeartbeats 400000 in
theorem union_any (x y : BitVec 256) (w : World) : Calls Tryz.prog 75 #[.agg #[.int .u64 (wd x 0), .int .u64 (wd x 1), .int .u64 (wd x 2), .int .u64 (wd x 3)], .agg #[.int .u64 (wd y 0), .int .u64 (wd y 1), .int .u64 (wd y 2), .int .u64 (wd y 3)]] w fun e w' => e = .returned (.agg #[.int .u64 (wd (x ||| y) 0), .int .u64 (wd (x ||| y) 1), .int .u64 (wd (x ||| y) 2), .int .u64 (wd (x ||| y) 3)]) ∧ Below w.heap.size w w' := by
  go_enter Tryz.func75, Tryz.ntmps75
  go_wp2_with (go_at_call 113; refine (combine_or x y _).mono ?_; rintro e w1 ⟨rfl, hb1⟩; have hR := (Blk.alloc2 w _ _ #[.int .u64 0, .int .u64 0, .int .u64 0, .int .u64 0] 27).grows hb1; obtain ⟨d0, d1, d2, d3, g0, g1, g2, g3⟩ := hR.four)
  refine bodyPost_ret (results_cell_row rfl _ _ (w.heap.size + 2) 27 _ (0, 0) _ rfl (hR.set4 _ _ _ _).is Tryz.underlying27 rfl clsSize) rfl ⟨rfl, below_set4 (Below.trans (by go_grown) (hb1.mono (by simp; omega))) (by omega) _ _ _ _⟩
set_option maxHeartbeats 400000 in
theorem intersect_any (x y : BitVec 256) (w : World) : Calls Tryz.prog 74 #[.agg #[.int .u64 (wd x 0), .int .u64 (wd x 1), .int .u64 (wd x 2), .int .u64 (wd x 3)], .agg #[.int .u64 (wd y 0), .int .u64 (wd y 1), .int .u64 (wd y 2), .int .u64 (wd y 3)]] w fun e w' => e = .returned (.agg #[.int .u64 (wd (x &&& y) 0), .int .u64 (wd (x &&& y) 1), .int .u64 (wd (x &&& y) 2), .int .u64 (wd (x &&& y) 3)]) ∧ Below w.heap.size w w' := by
  go_enter Tryz.func74, Tryz.ntmps74
  go_wp2_with (go_at_call 113; refine (combine_and x y _).mono ?_; rintro e w1 ⟨rfl, hb1⟩; have hR := (Blk.alloc2 w _ _ #[.int .u64 0, .int .u64 0, .int .u64 0, .int .u64 0] 27).grows hb1; obtain ⟨d0, d1, d2, d3, g0, g1, g2, g3⟩ := hR.four)
  refine bodyPost_ret (results_cell_row rfl _ _ (w.heap.size + 2) 27 _ (0, 0) _ rfl (hR.set4 _ _ _ _).is Tryz.underlying27 rfl clsSize) rfl ⟨rfl, below_set4 (Below.trans (by go_grown) (hb1.mono (by simp; omega))) (by omega) _ _ _ _⟩
set_option maxHeartbeats 400000 in
theorem minus_any (x y : BitVec 256) (w : World) : Calls Tryz.prog 117 #[.agg #[.int .u64 (wd x 0), .int .u64 (wd x 1), .int .u64 (wd x 2), .int .u64 (wd x 3)], .agg #[.int .u64 (wd y 0), .int .u64 (wd y 1), .int .u64 (wd y 2), .int .u64 (wd y 3)]] w fun e w' => e = .returned (.agg #[.int .u64 (wd (x &&& ~~~y) 0), .int .u64 (wd (x &&& ~~~y) 1), .int .u64 (wd (x &&& ~~~y) 2), .int .u64 (wd (x &&& ~~~y) 3)]) ∧ Below w.heap.size w w' := by
  go_enter Tryz.func117, Tryz.ntmps117
  go_wp2_with (go_at_call 113; refine (combine_minus x y _).mono ?_; rintro e w1 ⟨rfl, hb1⟩; have hR := (Blk.alloc2 w _ _ #[.int .u64 0, .int .u64 0, .int .u64 0, .int .u64 0] 27).grows hb1; obtain ⟨d0, d1, d2, d3, g0, g1, g2, g3⟩ := hR.four)
  refine bodyPost_ret (results_cell_row rfl _ _ (w.heap.size + 2) 27 _ (0, 0) _ rfl (hR.set4 _ _ _ _).is Tryz.underlying27 rfl clsSize) rfl ⟨rfl, below_set4 (Below.trans (by go_grown) (hb1.mono (by simp; omega))) (by omega) _ _ _ _⟩

/-- k bytes from lo on. -/
def rng (lo : Int) (k : Nat) : BitVec 256 := ofL ((List.range k).map fun (j : Nat) => lo + (j : Int))
theorem rng_succ (lo : Int) (k : Nat) : rng lo (k + 1) = rng lo k ||| bit (lo + (k : Int)).toNat := by
  unfold rng; rw [List.range_succ, List.map_append, List.map_singleton, ofL_snoc]
theorem rng_zero (lo : Int) : rng lo 0 = 0 := rfl

set_option maxHeartbeats 400000 in
theorem range_any (lo hi : Int) (w : World) (h0 : 0 ≤ lo) (h1 : lo < 256) (h2 : 0 ≤ hi) (h3 : hi < 256) :
    Calls Tryz.prog 48 #[.int .u8 lo, .int .u8 hi] w fun e w' => e = .returned (.agg #[.int .u64 (wd (rng lo (hi + 1 - lo).toNat) 0), .int .u64 (wd (rng lo (hi + 1 - lo).toNat) 1), .int .u64 (wd (rng lo (hi + 1 - lo).toNat) 2), .int .u64 (wd (rng lo (hi + 1 - lo).toNat) 3)]) ∧ Below w.heap.size w w' := by
  go_enter Tryz.func48, Tryz.ntmps48
  go_wp2
  go_loopw [6] (fun i wr => ∃ k : Nat, k ≤ (hi + 1 - lo).toNat ∧ i = .int .i64 (lo + k) ∧ Blk wr (w.heap.size + 1) #[.int .u64 (wd (rng lo k) 0), .int .u64 (wd (rng lo k) 1), .int .u64 (wd (rng lo k) 2), .int .u64 (wd (rng lo k) 3)] 27 ∧ Blk wr w.heap.size #[.int .u64 0, .int .u64 0, .int .u64 0, .int .u64 0] 27 ∧ Below w.heap.size w wr) (fun i _ => (hi + 1 - intOf i).toNat)
  case atStart =>
    refine ⟨0, Nat.zero_le _, by simp, ?_, ?_, ?_⟩
    · simp only [rng_zero, wd_zero]; exact Blk.alloc1 w _ _ _ _ _
    · exact (Blk.new w _ _).alloc _
    · go_grown
  case round =>
    obtain ⟨k, hk, rfl, hB1, hB0, hbw⟩ := hrel
    obtain ⟨c0, c1, c2, c3, f0, f1, f2, f3⟩ := hB1.four
    obtain ⟨d0, d1, d2, d3, g0, g1, g2, g3⟩ := hB0.four
    by_cases hlt : lo + (k : Int) ≤ hi
    · have HS := Lib.hid (rng_succ lo k)
      generalize rng lo k = x at c0 c1 c2 c3 HS hB1
      go_wp2_with (go_at_call 58; refine (with_any x _ _ (by omega) (by omega)).mono ?_; rintro e w1 ⟨rfl, hb1⟩; obtain ⟨c0, c1, c2, c3, f0, f1, f2, f3⟩ := (hB1.grows hb1).four)
      go_roundw
      case rel => 
        exact ⟨k + 1, by omega, by go_num, by rw [HS.out]; exact (hB1.grows hb1).set4 _ _ _ _, (hB0.grows hb1).other4 (by omega) _ _ _ _, below_set4 (hbw.trans (hb1.mono hbw.size)) (by omega) _ _ _ _⟩
      case measure => simp [intOf]; omega
    · obtain rfl : k = (hi + 1 - lo).toNat := by omega
      go_wp2
      refine bodyPost_ret (results_cell_row rfl _ _ w.heap.size 27 _ (0, 0) _ rfl (hB0.set4 _ _ _ _).is Tryz.underlying27 rfl clsSize) rfl ⟨rfl, below_set4 hbw (Nat.le_refl _) _ _ _ _⟩
end Go.Proofs.YtkhphiilnplgjaaGreatDoor

namespace Go.Proofs.YtkhphiilnplgjaaGreatDoor
open Go.RowKit

theorem infoByte : (Tryz.prog.info? 5).map (fun i => (i.zero, i.size, i.bytes)) = some (some (.int .u8 0), 1, 1) := by kernel_rfl

/-- the least member, or -1. -/
def leastI (x : BitVec 256) : Int := (mems x 256).headD (-1)

/-- what an owned row of one cell an element says, element by element. -/
theorem own_read {w : World} {base : Nat} {e : TypeId} {v : Value} {n : Nat} {xs : List Value} (h : w.ownsRow base e 1 v n xs) (h0 : 0 < n) :
    ∃ g cap, v = .slice (some ⟨g, 0, none⟩) n cap ∧ base ≤ g ∧ g < w.heap.size ∧ n ≤ cap ∧ ∀ i y, xs[i]? = some y → w.cell? ⟨g, i, none⟩ = some y := by
  obtain ⟨hl, ⟨rfl, hn⟩ | ⟨g, cap, cur, rfl, hg, hh, hcap, hm, hsz, htk⟩⟩ := h
  · omega
  · refine ⟨g, cap, rfl, hg, Blk.lt (vs := cur) (t := e) ⟨hh⟩, hcap, fun i y hy => Blk.cell (vs := cur) (t := e) ⟨hh⟩ i ?_⟩
    have h2 := congrArg (fun q => q[i]?) htk
    have hi : i < n * 1 := by
      have := (List.getElem?_eq_some_iff.1 hy).1; omega
    rw [List.getElem?_take_of_lt hi, hy] at h2
    simpa using h2

end Go.Proofs.YtkhphiilnplgjaaGreatDoor
