/-
  The law on counting: the walk.
-/
import Derived.Test.YthhlehhienndeaaDoorLd
import Derived.Lib.QuietBelow
import Derived.BigQuiet
set_option linter.unusedSimpArgs false
set_option linter.unusedVariables false
namespace Go.Proofs.YthhlehhienndeaaDoor
open Go.RowKit Go.Shelf Go.Lib

attribute [local irreducible] rg ofV hasI ixI sizeI leastI rng mem mems canon ix ofL bit uni itr sbt cpl
set_option maxRecDepth 100000 in
set_option maxHeartbeats 1000000 in
theorem counting_walk (x y : BitVec 256) (w : World) (hT : TabAt 0 Lib.deBruijn64tab w) (hg0 : 0 < w.heap.size) :
    Calls Tryd.prog 8 #[.agg #[.int .u64 (wd x 0), .int .u64 (wd x 1), .int .u64 (wd x 2), .int .u64 (wd x 3)], .agg #[.int .u64 (wd y 0), .int .u64 (wd y 1), .int .u64 (wd y 2), .int .u64 (wd y 3)]] w fun e w' => e = .returned (.bool true) ∧ Below w.heap.size w w' := by
  have HT := Lib.hid hT
  clear hT
  have e1 : (sizeI (uni x y) + sizeI (itr x y) == sizeI x + sizeI y) = true := by simp [size_two]
  have e2 : (sizeI x + sizeI (cpl x) == 256) = true := by simp [size_not]
  have e3 : (sizeI (sbt x y) == sizeI x - sizeI (itr x y)) = true := by simp [size_sbt]
  obtain ⟨b1, b2⟩ := size_nat x
  obtain ⟨b3, b4⟩ := size_nat y
  obtain ⟨b5, b6⟩ := size_nat (uni x y)
  obtain ⟨b7, b8⟩ := size_nat (itr x y)
  obtain ⟨b9, b10⟩ := size_nat (cpl x)
  obtain ⟨b11, b12⟩ := size_nat (sbt x y)
  go_enter Tryd.func8, Tryd.ntmps8
  go_wp2_with (go_at_call 13; refine (sanity_any _ ?_ ?_).mono ?_; exact tab_below HT.out (up_al (up_al (Below.refl w.heap.size w) _) _) hg0; exact Nat.lt_of_lt_of_le hg0 (up_al (up_al (Below.refl w.heap.size w) _) _).size; rintro e a ⟨rfl, hb1⟩; have HB := Lib.hid (up_call (up_al (up_al (Below.refl w.heap.size w) _) _) hb1); have hX := ((Blk.new w #[.int .u64 (wd x 0), .int .u64 (wd x 1), .int .u64 (wd x 2), .int .u64 (wd x 3)] 24).alloc (.cells #[.int .u64 (wd y 0), .int .u64 (wd y 1), .int .u64 (wd y 2), .int .u64 (wd y 3)] 24)).grows hb1; have hY := (Blk.alloc1 w #[.int .u64 (wd x 0), .int .u64 (wd x 1), .int .u64 (wd x 2), .int .u64 (wd x 3)] #[.int .u64 (wd y 0), .int .u64 (wd y 1), .int .u64 (wd y 2), .int .u64 (wd y 3)] 24 24).grows hb1; clear hb1)
  obtain ⟨x0, x1, x2, x3, -⟩ := hX.four
  obtain ⟨y0, y1, y2, y3, -⟩ := hY.four
  have k0 := cell_regrown x0
  have k1 := cell_regrown x1
  have k2 := cell_regrown x2
  have k3 := cell_regrown x3
  have k4 := cell_regrown y0
  have k5 := cell_regrown y1
  have k6 := cell_regrown y2
  have k7 := cell_regrown y3
  clear x0 x1 x2 x3 y0 y1 y2 y3
  have HU := Lib.hid (fun (p q : BitVec 256) d os => Calls.regrown_of (union_u p q (Go.Sort.grow (redrawn a d) os)))
  have HI := Lib.hid (fun (p q : BitVec 256) d os => Calls.regrown_of (inter_u p q (Go.Sort.grow (redrawn a d) os)))
  have HM := Lib.hid (fun (p q : BitVec 256) d os => Calls.regrown_of (minus_u p q (Go.Sort.grow (redrawn a d) os)))
  have HN := Lib.hid (fun (p : BitVec 256) d os => Calls.regrown_of (not_u p (Go.Sort.grow (redrawn a d) os)))
  have HS := Lib.hid (fun (p : BitVec 256) d os => Calls.regrown_of (size_i p (Go.Sort.grow (redrawn a d) os)))
  refine wp_region_quiet_below (by kernel_rfl) (by kernel_rfl) ?_
  repeat (go_big_quiet_step (first | exact HU.out _ _ _ _ | exact HI.out _ _ _ _ | exact HM.out _ _ _ _ | exact HN.out _ _ _ | exact HS.out _ _ _))
  refine wpQuiet_nil ?_
  intro _ hw'
  obtain ⟨⟨dq, osq⟩, hw''⟩ := hw'
  subst hw''
  go_wp2
  go_ret
  exact ⟨rfl, up_call HB.out (below_regrown a dq osq)⟩
end Go.Proofs.YthhlehhienndeaaDoor
