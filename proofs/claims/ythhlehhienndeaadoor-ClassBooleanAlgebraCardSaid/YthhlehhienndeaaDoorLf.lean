/-
  The law on Boolean algebra: the walk.
-/
import Derived.Test.YthhlehhienndeaaDoorLd
import Derived.Lib.QuietBelow
import Derived.BigQuiet
set_option linter.unusedSimpArgs false
set_option linter.unusedVariables false
namespace Go.Proofs.YthhlehhienndeaaDoor
open Go.RowKit Go.Shelf Go.Lib

theorem union_0 (x : BitVec 256) (W : World) : Calls Tryd.prog 16 #[.agg #[.int .u64 (wd x 0), .int .u64 (wd x 1), .int .u64 (wd x 2), .int .u64 (wd x 3)], .agg #[.int .u64 0, .int .u64 0, .int .u64 0, .int .u64 0]] W fun e w' => e = .returned (.agg #[.int .u64 (wd x 0), .int .u64 (wd x 1), .int .u64 (wd x 2), .int .u64 (wd x 3)]) ∧ Below W.heap.size W w' := by
  have h := union_u x 0 W
  rw [b_u0, ← none_u] at h
  exact h
theorem eq_yes0 {x : BitVec 256} (h : x = 0) (w : World) : (Op.equalIn 10000 24 (.agg #[.int .u64 (wd x 0), .int .u64 (wd x 1), .int .u64 (wd x 2), .int .u64 (wd x 3)]) (.agg #[.int .u64 0, .int .u64 0, .int .u64 0, .int .u64 0])).run Tryd.prog w = .ok true w := by
  rw [none_u]; exact eq_yes h w
theorem four_of {w : World} {b : Nat} {v0 v1 v2 v3 : Value} {t : TypeId} (h : Blk w b #[v0, v1, v2, v3] t) (d : Nat) (os : Array Obj) :
    (Go.Sort.grow (redrawn w d) os).cell? ⟨b, 0, none⟩ = some v0 ∧ (Go.Sort.grow (redrawn w d) os).cell? ⟨b, 1, none⟩ = some v1 ∧ (Go.Sort.grow (redrawn w d) os).cell? ⟨b, 2, none⟩ = some v2 ∧ (Go.Sort.grow (redrawn w d) os).cell? ⟨b, 3, none⟩ = some v3 := by
  obtain ⟨x0, x1, x2, x3, -⟩ := h.four
  exact ⟨cell_regrown x0 d os, cell_regrown x1 d os, cell_regrown x2 d os, cell_regrown x3 d os⟩
/-- what stands while the law goes on. -/
structure BF (x y z : BitVec 256) (w : World) (n m0 m1 : Nat) (a : World) : Prop where
  bel : Below w.heap.size w a
  bx : Blk a n #[.int .u64 (wd x 0), .int .u64 (wd x 1), .int .u64 (wd x 2), .int .u64 (wd x 3)] 24
  by' : Blk a (n + 1) #[.int .u64 (wd y 0), .int .u64 (wd y 1), .int .u64 (wd y 2), .int .u64 (wd y 3)] 24
  bz : Blk a (n + 1 + 1) #[.int .u64 (wd z 0), .int .u64 (wd z 1), .int .u64 (wd z 2), .int .u64 (wd z 3)] 24
  b0 : Blk a m0 #[.int .u64 0, .int .u64 0, .int .u64 0, .int .u64 0] 24
  b1 : Blk a m1 #[.int .u64 (wd (rg 0 255) 0), .int .u64 (wd (rg 0 255) 1), .int .u64 (wd (rg 0 255) 2), .int .u64 (wd (rg 0 255) 3)] 24
theorem BF.grows {x y z : BitVec 256} {w a W : World} {n m0 m1 : Nat} (h : BF x y z w n m0 m1 a) (hb : Below a.heap.size a W) : BF x y z w n m0 m1 W := ⟨up_call h.bel hb, h.bx.grows hb, h.by'.grows hb, h.bz.grows hb, h.b0.grows hb, h.b1.grows hb⟩
theorem BF.start (x y z : BitVec 256) (w : World) {a a1 : World} (h : Below (((w.alloc (.cells #[.int .u64 (wd x 0), .int .u64 (wd x 1), .int .u64 (wd x 2), .int .u64 (wd x 3)] 24)).alloc (.cells #[.int .u64 (wd y 0), .int .u64 (wd y 1), .int .u64 (wd y 2), .int .u64 (wd y 3)] 24)).alloc (.cells #[.int .u64 (wd z 0), .int .u64 (wd z 1), .int .u64 (wd z 2), .int .u64 (wd z 3)] 24)).heap.size (((w.alloc (.cells #[.int .u64 (wd x 0), .int .u64 (wd x 1), .int .u64 (wd x 2), .int .u64 (wd x 3)] 24)).alloc (.cells #[.int .u64 (wd y 0), .int .u64 (wd y 1), .int .u64 (wd y 2), .int .u64 (wd y 3)] 24)).alloc (.cells #[.int .u64 (wd z 0), .int .u64 (wd z 1), .int .u64 (wd z 2), .int .u64 (wd z 3)] 24)) a)
    (h1 : Below (a.alloc (.cells #[.int .u64 0, .int .u64 0, .int .u64 0, .int .u64 0] 24)).heap.size (a.alloc (.cells #[.int .u64 0, .int .u64 0, .int .u64 0, .int .u64 0] 24)) a1) :
    BF x y z w w.heap.size a.heap.size a1.heap.size (a1.alloc (.cells #[.int .u64 (wd (rg 0 255) 0), .int .u64 (wd (rg 0 255) 1), .int .u64 (wd (rg 0 255) 2), .int .u64 (wd (rg 0 255) 3)] 24)) where
  bel := up_al (up_call (up_al (up_call (up_al (up_al (up_al (Below.refl w.heap.size w) _) _) _) h) _) h1) _
  bx := ((((((Blk.new w _ _).alloc _).alloc _).grows h).alloc _).grows h1).alloc _
  by' := (((((Blk.alloc1 w _ _ _ _).alloc _).grows h).alloc _).grows h1).alloc _
  bz := ((((Blk.alloc2 w _ _ _ _).grows h).alloc _).grows h1).alloc _
  b0 := ((Blk.new a _ _).grows h1).alloc _
  b1 := Blk.new a1 _ _

attribute [local irreducible] rg ofV hasI ixI sizeI leastI rng mem mems canon ix ofL bit uni itr sbt cpl
set_option maxRecDepth 100000 in
set_option maxHeartbeats 4000000 in
theorem algebra_walk (x y z : BitVec 256) (w : World) (hT : TabAt 0 Lib.deBruijn64tab w) (hg0 : 0 < w.heap.size) :
    Calls Tryd.prog 5 #[.agg #[.int .u64 (wd x 0), .int .u64 (wd x 1), .int .u64 (wd x 2), .int .u64 (wd x 3)], .agg #[.int .u64 (wd y 0), .int .u64 (wd y 1), .int .u64 (wd y 2), .int .u64 (wd y 3)], .agg #[.int .u64 (wd z 0), .int .u64 (wd z 1), .int .u64 (wd z 2), .int .u64 (wd z 3)]] w fun e w' => e = .returned (.bool true) ∧ Below w.heap.size w w' := by
  have HT := Lib.hid hT
  clear hT
  go_enter Tryd.func5, Tryd.ntmps5
  go_wp2_with (first
    | (go_at_call 13; refine (sanity_any _ ?_ ?_).mono ?_; exact tab_below HT.out (up_al (up_al (up_al (Below.refl w.heap.size w) _) _) _) hg0; exact Nat.lt_of_lt_of_le hg0 (up_al (up_al (up_al (Below.refl w.heap.size w) _) _) _).size; rintro e a ⟨rfl, hb1⟩; have HB := Lib.hid hb1; clear hb1)
    | (go_at_call 22; refine (not_n _).mono ?_; rintro e a1 ⟨rfl, hb1⟩; have HC := Lib.hid hb1; clear hb1))
  have HF := BF.start x y z w HB.out HC.out
  clear HB HC
  generalize a1.alloc (.cells #[.int .u64 (wd (rg 0 255) 0), .int .u64 (wd (rg 0 255) 1), .int .u64 (wd (rg 0 255) 2), .int .u64 (wd (rg 0 255) 3)] 24) = W1 at HF ⊢
  generalize a.heap.size = m0 at HF ⊢
  generalize a1.heap.size = m1 at HF ⊢
  have HU := Lib.hid (fun W (p q : BitVec 256) d os => Calls.regrown_of (union_u p q (Go.Sort.grow (redrawn W d) os)))
  have H0 := Lib.hid (fun W (p : BitVec 256) d os => Calls.regrown_of (union_0 p (Go.Sort.grow (redrawn W d) os)))
  have HI := Lib.hid (fun W (p q : BitVec 256) d os => Calls.regrown_of (inter_u p q (Go.Sort.grow (redrawn W d) os)))
  have HM := Lib.hid (fun W (p q : BitVec 256) d os => Calls.regrown_of (minus_u p q (Go.Sort.grow (redrawn W d) os)))
  have HN := Lib.hid (fun W (p : BitVec 256) d os => Calls.regrown_of (not_u p (Go.Sort.grow (redrawn W d) os)))
  have q0 := eq_yes (b_union x y)
  have q1 := eq_yes (b_inter x y)
  have q2 := eq_yes (b_uu x)
  have q3 := eq_yes (b_ii x)
  obtain ⟨x0, x1, x2, x3, -⟩ := HF.bx.four
  have kx0 := cell_regrown x0
  have kx1 := cell_regrown x1
  have kx2 := cell_regrown x2
  have kx3 := cell_regrown x3
  obtain ⟨y0, y1, y2, y3, -⟩ := HF.by'.four
  have ky0 := cell_regrown y0
  have ky1 := cell_regrown y1
  have ky2 := cell_regrown y2
  have ky3 := cell_regrown y3
  obtain ⟨z0, z1, z2, z3, -⟩ := HF.bz.four
  have kz0 := cell_regrown z0
  have kz1 := cell_regrown z1
  have kz2 := cell_regrown z2
  have kz3 := cell_regrown z3
  clear x0 x1 x2 x3 y0 y1 y2 y3 z0 z1 z2 z3
  have HH := Lib.hid HF
  clear HF
  refine wp_region_quiet_below (by kernel_rfl) (by kernel_rfl) ?_
  repeat (go_big_quiet_step (first | with_reducible exact H0.out _ _ _ _ | with_reducible exact HU.out _ _ _ _ _ | with_reducible exact HI.out _ _ _ _ _ | with_reducible exact HM.out _ _ _ _ _ | with_reducible exact HN.out _ _ _ _))
  refine wpQuiet_nil ?_
  intro _ hw'
  obtain ⟨⟨dq, osq⟩, hw''⟩ := hw'
  subst hw''
  clear kx0 kx1 kx2 kx3 ky0 ky1 ky2 ky3 kz0 kz1 kz2 kz3 q0 q1 q2 q3
  have HF := HH.out.grows (below_regrown W1 dq osq)
  clear HH
  generalize Go.Sort.grow (redrawn W1 dq) osq = W2 at HF ⊢
  clear dq osq
  go_wp2_with fail
  have q0 := eq_yes (b_uassoc x y z)
  have q1 := eq_yes (b_iassoc x y z)
  obtain ⟨x0, x1, x2, x3, -⟩ := HF.bx.four
  have kx0 := cell_regrown x0
  have kx1 := cell_regrown x1
  have kx2 := cell_regrown x2
  have kx3 := cell_regrown x3
  obtain ⟨y0, y1, y2, y3, -⟩ := HF.by'.four
  have ky0 := cell_regrown y0
  have ky1 := cell_regrown y1
  have ky2 := cell_regrown y2
  have ky3 := cell_regrown y3
  obtain ⟨z0, z1, z2, z3, -⟩ := HF.bz.four
  have kz0 := cell_regrown z0
  have kz1 := cell_regrown z1
  have kz2 := cell_regrown z2
  have kz3 := cell_regrown z3
  clear x0 x1 x2 x3 y0 y1 y2 y3 z0 z1 z2 z3
  have HH := Lib.hid HF
  clear HF
  refine wp_region_quiet_below (by kernel_rfl) (by kernel_rfl) ?_
  repeat (go_big_quiet_step (first | with_reducible exact H0.out _ _ _ _ | with_reducible exact HU.out _ _ _ _ _ | with_reducible exact HI.out _ _ _ _ _ | with_reducible exact HM.out _ _ _ _ _ | with_reducible exact HN.out _ _ _ _))
  refine wpQuiet_nil ?_
  intro _ hw'
  obtain ⟨⟨dq, osq⟩, hw''⟩ := hw'
  subst hw''
  clear kx0 kx1 kx2 kx3 ky0 ky1 ky2 ky3 kz0 kz1 kz2 kz3 q0 q1
  have HF := HH.out.grows (below_regrown W2 dq osq)
  clear HH
  generalize Go.Sort.grow (redrawn W2 dq) osq = W3 at HF ⊢
  clear dq osq
  go_wp2_with fail
  have q0 := eq_yes (b_iu x y z)
  have q1 := eq_yes (b_ui x y z)
  obtain ⟨x0, x1, x2, x3, -⟩ := HF.bx.four
  have kx0 := cell_regrown x0
  have kx1 := cell_regrown x1
  have kx2 := cell_regrown x2
  have kx3 := cell_regrown x3
  obtain ⟨y0, y1, y2, y3, -⟩ := HF.by'.four
  have ky0 := cell_regrown y0
  have ky1 := cell_regrown y1
  have ky2 := cell_regrown y2
  have ky3 := cell_regrown y3
  obtain ⟨z0, z1, z2, z3, -⟩ := HF.bz.four
  have kz0 := cell_regrown z0
  have kz1 := cell_regrown z1
  have kz2 := cell_regrown z2
  have kz3 := cell_regrown z3
  clear x0 x1 x2 x3 y0 y1 y2 y3 z0 z1 z2 z3
  have HH := Lib.hid HF
  clear HF
  refine wp_region_quiet_below (by kernel_rfl) (by kernel_rfl) ?_
  repeat (go_big_quiet_step (first | with_reducible exact H0.out _ _ _ _ | with_reducible exact HU.out _ _ _ _ _ | with_reducible exact HI.out _ _ _ _ _ | with_reducible exact HM.out _ _ _ _ _ | with_reducible exact HN.out _ _ _ _))
  refine wpQuiet_nil ?_
  intro _ hw'
  obtain ⟨⟨dq, osq⟩, hw''⟩ := hw'
  subst hw''
  clear kx0 kx1 kx2 kx3 ky0 ky1 ky2 ky3 kz0 kz1 kz2 kz3 q0 q1
  have HF := HH.out.grows (below_regrown W3 dq osq)
  clear HH
  generalize Go.Sort.grow (redrawn W3 dq) osq = W4 at HF ⊢
  clear dq osq
  go_wp2_with fail
  have q0 := eq_yes (b_dm x y)
  have q1 := eq_yes (b_cc x)
  have q2 := eq_yes (b_top x)
  have q3 := eq_yes0 (b_bot x)
  have q4 := eq_yes (b_minus x y)
  have q5 := eq_yes (Eq.refl x)
  have q6 := eq_yes (b_i1 x)
  obtain ⟨x0, x1, x2, x3, -⟩ := HF.bx.four
  have kx0 := cell_regrown x0
  have kx1 := cell_regrown x1
  have kx2 := cell_regrown x2
  have kx3 := cell_regrown x3
  obtain ⟨y0, y1, y2, y3, -⟩ := HF.by'.four
  have ky0 := cell_regrown y0
  have ky1 := cell_regrown y1
  have ky2 := cell_regrown y2
  have ky3 := cell_regrown y3
  obtain ⟨z0, z1, z2, z3, -⟩ := HF.bz.four
  have kz0 := cell_regrown z0
  have kz1 := cell_regrown z1
  have kz2 := cell_regrown z2
  have kz3 := cell_regrown z3
  obtain ⟨o0, o1, o2, o3, -⟩ := HF.b0.four
  have ko0 := cell_regrown o0
  have ko1 := cell_regrown o1
  have ko2 := cell_regrown o2
  have ko3 := cell_regrown o3
  obtain ⟨p0, p1, p2, p3, -⟩ := HF.b1.four
  have kp0 := cell_regrown p0
  have kp1 := cell_regrown p1
  have kp2 := cell_regrown p2
  have kp3 := cell_regrown p3
  clear x0 x1 x2 x3 y0 y1 y2 y3 z0 z1 z2 z3 o0 o1 o2 o3 p0 p1 p2 p3
  have HH := Lib.hid HF
  clear HF
  refine wp_region_quiet_below (by kernel_rfl) (by kernel_rfl) ?_
  repeat (go_big_quiet_step (first | with_reducible exact H0.out _ _ _ _ | with_reducible exact HU.out _ _ _ _ _ | with_reducible exact HI.out _ _ _ _ _ | with_reducible exact HM.out _ _ _ _ _ | with_reducible exact HN.out _ _ _ _))
  refine wpQuiet_nil ?_
  intro _ hw'
  obtain ⟨⟨dq, osq⟩, hw''⟩ := hw'
  subst hw''
  clear kx0 kx1 kx2 kx3 ky0 ky1 ky2 ky3 kz0 kz1 kz2 kz3 ko0 ko1 ko2 ko3 kp0 kp1 kp2 kp3 q0 q1 q2 q3 q4 q5 q6
  go_wp2
  go_ret
  exact ⟨rfl, up_call HH.out.bel (below_regrown W4 dq osq)⟩
end Go.Proofs.YthhlehhienndeaaDoor
