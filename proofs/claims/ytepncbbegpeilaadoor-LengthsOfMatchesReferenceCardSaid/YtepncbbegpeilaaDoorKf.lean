/-
  Walks: union, intersection, difference, range, complement.
-/
import Derived.Test.YtepncbbegpeilaaDoorKe
import Derived.RegionTactic
import Derived.Shelf.Abstract
import Derived.Deep.RegionWith
import Derived.Deep.RegionHeld3
set_option linter.unusedSimpArgs false
set_option linter.unusedVariables false
namespace Go.Proofs.YtepncbbegpeilaaDoor
open Go.RowKit

theorem eg_or : ∀ args w, (callFunc 49 args).run Tryd.prog w = .ok (.enter 49 args) w := enters_of Tryd.func49 (by kernel_rfl) rfl
theorem eg_and : ∀ args w, (callFunc 48 args).run Tryd.prog w = .ok (.enter 48 args) w := enters_of Tryd.func48 (by kernel_rfl) rfl
theorem combine_or (x y : BitVec 256) (w : World) : Calls Tryd.prog 47 #[.agg #[.int .u64 (wd x 0), .int .u64 (wd x 1), .int .u64 (wd x 2), .int .u64 (wd x 3)], .agg #[.int .u64 (wd y 0), .int .u64 (wd y 1), .int .u64 (wd y 2), .int .u64 (wd y 3)], .func (.func 49) #[] #[]] w fun e w' => e = .returned (.agg #[.int .u64 (wd (x ||| y) 0), .int .u64 (wd (x ||| y) 1), .int .u64 (wd (x ||| y) 2), .int .u64 (wd (x ||| y) 3)]) ∧ Below w.heap.size w w' :=
  (combine_any _ _ or_clo eg_or _ _ _ _ _ _ _ _ w).mono fun _ _ ⟨he, hb⟩ => ⟨he.trans (agg4 (wd_or _ _ _) (wd_or _ _ _) (wd_or _ _ _) (wd_or _ _ _)), hb⟩
theorem combine_and (x y : BitVec 256) (w : World) : Calls Tryd.prog 47 #[.agg #[.int .u64 (wd x 0), .int .u64 (wd x 1), .int .u64 (wd x 2), .int .u64 (wd x 3)], .agg #[.int .u64 (wd y 0), .int .u64 (wd y 1), .int .u64 (wd y 2), .int .u64 (wd y 3)], .func (.func 48) #[] #[]] w fun e w' => e = .returned (.agg #[.int .u64 (wd (x &&& y) 0), .int .u64 (wd (x &&& y) 1), .int .u64 (wd (x &&& y) 2), .int .u64 (wd (x &&& y) 3)]) ∧ Below w.heap.size w w' :=
  (combine_any _ _ and_clo eg_and _ _ _ _ _ _ _ _ w).mono fun _ _ ⟨he, hb⟩ => ⟨he.trans (agg4 (wd_and _ _ _) (wd_and _ _ _) (wd_and _ _ _) (wd_and _ _ _)), hb⟩
set_option maxHeartbeats 400000 in
theorem union_any (x y : BitVec 256) (w : World) : Calls Tryd.prog 41 #[.agg #[.int .u64 (wd x 0), .int .u64 (wd x 1), .int .u64 (wd x 2), .int .u64 (wd x 3)], .agg #[.int .u64 (wd y 0), .int .u64 (wd y 1), .int .u64 (wd y 2), .int .u64 (wd y 3)]] w fun e w' => e = .returned (.agg #[.int .u64 (wd (x ||| y) 0), .int .u64 (wd (x ||| y) 1), .int .u64 (wd (x ||| y) 2), .int .u64 (wd (x ||| y) 3)]) ∧ Below w.heap.size w w' := by
  go_enter Tryd.func41, Tryd.ntmps41
  go_wp2_with (go_at_call 47; refine (combine_or x y _).mono ?_; rintro e w1 ⟨rfl, hb1⟩; have hR := (Blk.alloc2 w _ _ #[.int .u64 0, .int .u64 0, .int .u64 0, .int .u64 0] 41).grows hb1; obtain ⟨d0, d1, d2, d3, g0, g1, g2, g3⟩ := hR.four)
  refine bodyPost_ret (results_cell_row rfl _ _ (w.heap.size + 2) 41 _ (0, 0) _ rfl (hR.set4 _ _ _ _).is Tryd.underlying41 rfl clsSize) rfl ⟨rfl, below_set4 (Below.trans (by go_grown) (hb1.mono (by simp; omega))) (by omega) _ _ _ _⟩
set_option maxHeartbeats 400000 in
theorem intersect_any (x y : BitVec 256) (w : World) : Calls Tryd.prog 40 #[.agg #[.int .u64 (wd x 0), .int .u64 (wd x 1), .int .u64 (wd x 2), .int .u64 (wd x 3)], .agg #[.int .u64 (wd y 0), .int .u64 (wd y 1), .int .u64 (wd y 2), .int .u64 (wd y 3)]] w fun e w' => e = .returned (.agg #[.int .u64 (wd (x &&& y) 0), .int .u64 (wd (x &&& y) 1), .int .u64 (wd (x &&& y) 2), .int .u64 (wd (x &&& y) 3)]) ∧ Below w.heap.size w w' := by
  go_enter Tryd.func40, Tryd.ntmps40
  go_wp2_with (go_at_call 47; refine (combine_and x y _).mono ?_; rintro e w1 ⟨rfl, hb1⟩; have hR := (Blk.alloc2 w _ _ #[.int .u64 0, .int .u64 0, .int .u64 0, .int .u64 0] 41).grows hb1; obtain ⟨d0, d1, d2, d3, g0, g1, g2, g3⟩ := hR.four)
  refine bodyPost_ret (results_cell_row rfl _ _ (w.heap.size + 2) 41 _ (0, 0) _ rfl (hR.set4 _ _ _ _).is Tryd.underlying41 rfl clsSize) rfl ⟨rfl, below_set4 (Below.trans (by go_grown) (hb1.mono (by simp; omega))) (by omega) _ _ _ _⟩
/-- k bytes from lo on. -/
def rng (lo : Int) (k : Nat) : BitVec 256 := ofL ((List.range k).map fun (j : Nat) => lo + (j : Int))
theorem rng_succ (lo : Int) (k : Nat) : rng lo (k + 1) = rng lo k ||| bit (lo + (k : Int)).toNat := by
  unfold rng; rw [List.range_succ, List.map_append, List.map_singleton, ofL_snoc]
theorem rng_zero (lo : Int) : rng lo 0 = 0 := rfl

end Go.Proofs.YtepncbbegpeilaaDoor
