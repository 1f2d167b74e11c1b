/-
  Walks: the comparison by least members; the sort by it.
-/
import Derived.Test.YthhlehhienndeaaDoorS
import Derived.Lib.QuietBelow
set_option linter.unusedSimpArgs false
set_option linter.unusedVariables false
namespace Go.Proofs.YthhlehhienndeaaDoor
open Go.RowKit Go.Shelf Go.Lib Go.Sort

theorem lays_of_below {w w' : World} (h : Below w.heap.size w w') (hd : w.drawn ≤ w'.drawn) : ∃ q os, w' = grow (w.drewN q) os := by
  obtain ⟨p, hp⟩ := regrown_of_below h
  have e : w'.drawn = p.d := by rw [hp]; rfl
  refine ⟨p.d - w.drawn, p.os, ?_⟩
  rw [hp]
  have : w.drewN (p.d - w.drawn) = redrawn w p.d := by
    unfold World.drewN redrawn; rw [show w.drawn + (p.d - w.drawn) = p.d by omega]
  rw [this]

set_option maxRecDepth 100000 in
set_option maxHeartbeats 1000000 in
theorem cmp_clo (x y : BitVec 256) (w : World) (hT : TabAt 0 Lib.deBruijn64tab w) (hg : 0 < w.heap.size) :
    Calls Tryd.prog 48 #[.agg #[.int .u64 (wd x 0), .int .u64 (wd x 1), .int .u64 (wd x 2), .int .u64 (wd x 3)], .agg #[.int .u64 (wd y 0), .int .u64 (wd y 1), .int .u64 (wd y 2), .int .u64 (wd y 3)]] w fun e w' => e = .returned (.int .i64 (Lib.compareInt (leastI x) (leastI y))) ∧ Below w.heap.size w w' ∧ w.drawn ≤ w'.drawn := by
  have HT := Lib.hid hT
  clear hT
  have hb0 : Below w.heap.size w (((w.alloc (.cells #[.int .u64 (wd x 0), .int .u64 (wd x 1), .int .u64 (wd x 2), .int .u64 (wd x 3)] 24)).alloc (.cells #[.int .u64 (wd y 0), .int .u64 (wd y 1), .int .u64 (wd y 2), .int .u64 (wd y 3)] 24)).drew) := by go_grown
  have hY0 := (Blk.alloc1 w #[.int .u64 (wd x 0), .int .u64 (wd x 1), .int .u64 (wd x 2), .int .u64 (wd x 3)] #[.int .u64 (wd y 0), .int .u64 (wd y 1), .int .u64 (wd y 2), .int .u64 (wd y 3)] 24 24).drew
  go_enter Tryd.func48, Tryd.ntmps48
  go_wp2_with fail
  go_region_with (first
    | (go_at_call_of 26 (wd x 0); refine (least_drawn x _ (tab_below HT.out hb0 hg) (by simp)).mono ?_; rintro e w1 ⟨rfl, hb1, hd1⟩; have hb01 := hb0.trans (hb1.mono hb0.size); obtain ⟨y0, y1, y2, y3, -⟩ := (hY0.grows hb1).four)
    | (go_at_call_of 26 (wd y 0); refine (least_drawn y _ (tab_below HT.out hb01 hg) (by have := hb01.size; omega)).mono ?_; rintro e w2 ⟨rfl, hb2, hd2⟩)
    | (go_at_call 49; refine (Tryd.cmp_Compare_int _ _ _).mono ?_; rintro e w3 ⟨rfl, rfl⟩))
  all_goals
    go_wp2
    go_ret
    exact ⟨rfl, hb01.trans (hb2.mono hb01.size), by rw [hd2, hd1]; simp⟩

/-- a class's four cells. -/
def encC (x : BitVec 256) : List Value := [.int .u64 (wd x 0), .int .u64 (wd x 1), .int .u64 (wd x 2), .int .u64 (wd x 3)]
theorem encC_len (x : BitVec 256) : (encC x).length = 4 := rfl
theorem encC_one (x : BitVec 256) : ∀ v ∈ encC x, v.oneCell' = true := by
  intro v hv; simp [encC] at hv; rcases hv with rfl | rfl | rfl | rfl <;> rfl
def cf (x y : BitVec 256) : Int := Lib.compareInt (leastI x) (leastI y)
theorem lt_cf (x y : BitVec 256) : ltOf cf x y = decide (leastI x < leastI y) := by
  unfold ltOf cf Lib.compareInt
  by_cases h1 : leastI x < leastI y
  · simp [h1]
  · by_cases h2 : leastI y < leastI x <;> simp [h1, h2]
theorem swo_cf : SWO (ltOf cf) where
  irrefl x := by rw [lt_cf]; simp
  trans x y z h1 h2 := by rw [lt_cf] at *; simp at *; omega
  ntrans x y z h1 h2 := by rw [lt_cf] at *; simp at *; omega
theorem isAggC : ∀ w, (isAgg 24).run Tryd.prog w = .ok true w := fun _ => by kernel_rfl
theorem sizeOfC : ∀ w, (Go.sizeOf 24).run Tryd.prog w = .ok 4 w := fun _ => by kernel_rfl
theorem eg_cmp : ∀ args w, (callFunc 48 args).run Tryd.prog w = .ok (.enter 48 args) w := enters_of Tryd.func48 (by kernel_rfl) rfl

theorem cmpLays (blk off size : Nat) (w : World) (hT : TabAt 0 Lib.deBruijn64tab w) (hg : 0 < w.heap.size) (hblk : 0 ≠ blk) :
    CmpLays Tryd.prog 48 #[] encC 4 cf blk off size w := by
  intro m os dk _ x y
  have hT' : TabAt 0 Lib.deBruijn64tab (sortWorldK encC 4 w blk off m dk os) := by
    intro j hj
    rw [cell?_sortWorldK_other encC 4 w blk off m dk os _ hblk hg]; exact hT j hj
  have hg' : 0 < (sortWorldK encC 4 w blk off m dk os).heap.size := Nat.lt_of_lt_of_le hg (size_sortWorldK_c _ _ _ _ _ _ _ _)
  exact (cmp_clo x y _ hT' hg').mono fun e w' ⟨he, hb, hd⟩ => ⟨he, lays_of_below hb hd⟩
end Go.Proofs.YthhlehhienndeaaDoor
