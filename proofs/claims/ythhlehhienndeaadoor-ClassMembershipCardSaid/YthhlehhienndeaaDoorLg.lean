/-
  The law on membership: the walk.
-/
import Derived.Test.YthhlehhienndeaaDoorLm
import Derived.Test.YthhlehhienndeaaDoorLj
import Derived.Test.YthhlehhienndeaaDoorLb
import Derived.Lib.QuietBelow
import Derived.BigQuiet
set_option linter.unusedSimpArgs false
set_option linter.unusedVariables false
namespace Go.Proofs.YthhlehhienndeaaDoor
open Go.RowKit Go.Shelf Go.Lib

theorem one_filter (m : Nat) : ∀ n, ((List.range n).filter fun j => decide (m = j)).length = if m < n then 1 else 0
  | 0 => by simp
  | n + 1 => by
    rw [List.range_succ, List.filter_append, List.length_append, one_filter m n]
    by_cases h : m = n
    · subst h; simp
    · have : ([n].filter fun j => decide (m = j)) = [] := by simp [h]
      rw [this]
      by_cases h1 : m < n
      · rw [if_pos h1, if_pos (by omega)]; rfl
      · rw [if_neg h1, if_neg (by omega)]; rfl
theorem any_filter (f : Int → Nat) (n : Nat) : ∀ l : List Int, ((List.range n).filter fun j => l.any fun z => decide (f z = j)).length ≤ l.length
  | [] => by simp
  | z :: l => by
    have h := two_filters (fun j => decide (f z = j)) (fun j => l.any fun z => decide (f z = j)) (List.range n)
    have ih := any_filter f n l
    have h1 := one_filter (f z) n
    simp only [List.any_cons, List.length_cons]
    split at h1 <;> omega
theorem size_ofL (l : List Int) (h : ∀ z ∈ l, 0 ≤ z ∧ z < 256) : sizeI (ofL l) ≤ l.length := by
  rw [size_mems, filter_ext (fun j _ => mem_ofL l h j)]
  have := any_filter Int.toNat 256 l
  omega
theorem has_ofL (l : List Int) (h : ∀ z ∈ l, 0 ≤ z ∧ z < 256) {z : Int} (hz : z ∈ l) : hasI (ofL l) z = true := by
  show mem (ofL l) z.toNat = true
  rw [mem_ofL l h, List.any_eq_true]
  exact ⟨z, hz, by simp⟩
theorem h_uni (x y : BitVec 256) (z : Int) : hasI (uni x y) z = (hasI x z || hasI y z) := mem_uni x y _
theorem h_itr (x y : BitVec 256) (z : Int) : hasI (itr x y) z = (hasI x z && hasI y z) := mem_itr x y _
theorem h_sbt (x y : BitVec 256) (z : Int) (hz : 0 ≤ z ∧ z < 256) : hasI (sbt x y) z = (hasI x z && !hasI y z) := mem_sbt x y _ (by omega)
theorem h_cpl (x : BitVec 256) (z : Int) (hz : 0 ≤ z ∧ z < 256) : hasI (cpl x) z = !hasI x z := mem_cpl x _ (by omega)
/-- what stands when the class of the bytes has been laid. -/
structure MO (x y o : BitVec 256) (n m : Nat) (v : Value) (l : List Int) (a : World) : Prop where
  bb : MB x y n a
  bo : Blk a m #[.int .u64 (wd o 0), .int .u64 (wd o 1), .int .u64 (wd o 2), .int .u64 (wd o 3)] 24
  row : IsB a v l
theorem MO.grows {x y o : BitVec 256} {n m : Nat} {v : Value} {l : List Int} {a W : World} (h : MO x y o n m v l a) (hb : Below a.heap.size a W) : MO x y o n m v l W := ⟨h.bb.grows hb, h.bo.grows hb, h.row.grows hb⟩

attribute [local irreducible] rg ofV hasI ixI sizeI leastI rng mem mems canon ix ofL bit uni itr sbt cpl
set_option maxRecDepth 100000 in
set_option maxHeartbeats 4000000 in
theorem member_walk (x y : BitVec 256) (v : Value) (l : List Int) (w : World) (hv : IsB w v l) (hm : l.length ≤ maxLen) (hz : ∀ z ∈ l, 0 ≤ z ∧ z < 256)
    (hT : TabAt 0 Lib.deBruijn64tab w) (hg0 : 0 < w.heap.size) :
    Calls Tryd.prog 6 #[.agg #[.int .u64 (wd x 0), .int .u64 (wd x 1), .int .u64 (wd x 2), .int .u64 (wd x 3)], .agg #[.int .u64 (wd y 0), .int .u64 (wd y 1), .int .u64 (wd y 2), .int .u64 (wd y 3)], v] w fun e w' => e = .returned (.bool true) ∧ Below w.heap.size w w' := by
  have HT := Lib.hid hT
  clear hT
  obtain ⟨pp, cp, rfl⟩ := hv.shape
  have HM := Lib.hid (And.intro hm hz)
  have hs := size_ofL l hz
  clear hz
  unfold maxLen at hm
  generalize hn : l.length = n at hv hm hs ⊢
  obtain ⟨s, hse⟩ : ∃ s, sizeI (ofL l) = s := ⟨_, rfl⟩
  rw [hse] at hs
  have HV := Lib.hid hv
  have HN := Lib.hid (And.intro hn hse)
  clear hv hn hse
  go_enter Tryd.func6, Tryd.ntmps6
  go_wp2_with (first
    | (go_at_call 13; refine (sanity_any _ ?_ ?_).mono ?_; exact tab_below HT.out (up_al (up_al (Below.refl w.heap.size w) _) _) hg0; exact Nat.lt_of_lt_of_le hg0 (up_al (up_al (Below.refl w.heap.size w) _) _).size; rintro e a ⟨rfl, hb1⟩; have HB := Lib.hid (up_call (up_al (up_al (Below.refl w.heap.size w) _) _) hb1); have HD := Lib.hid ((MB.new x y w).grows hb1); clear hb1)
    | (go_at_call 14; refine (of_isB (l := l) ?_ HB.out HM.out.1 HM.out.2).mono ?_; exact HV.out; rintro e a1 ⟨rfl, hb1⟩; replace HB := Lib.hid (up_call HB.out hb1); replace HD := Lib.hid (HD.out.grows hb1); clear hb1; have g := Blk.new a1 #[.int .u64 0, .int .u64 0, .int .u64 0, .int .u64 0] 24; obtain ⟨g0, g1, g2, g3, f0, f1, f2, f3⟩ := g.four))
  have HF := Lib.hid (show MO x y (ofL l) w.heap.size a1.heap.size (.slice pp n cp) l (a1.alloc (.cells #[.int .u64 (wd (ofL l) 0), .int .u64 (wd (ofL l) 1), .int .u64 (wd (ofL l) 2), .int .u64 (wd (ofL l) 3)] 24)) from ⟨HD.out.grows (up_al (Below.refl a1.heap.size a1) _), Blk.new a1 _ _, HV.out.grows (up_al HB.out _)⟩)
  replace HB := Lib.hid (up_al HB.out (.cells #[.int .u64 (wd (ofL l) 0), .int .u64 (wd (ofL l) 1), .int .u64 (wd (ofL l) 2), .int .u64 (wd (ofL l) 3)] 24))
  clear HD HV g0 g1 g2 g3 f0 f1 f2 f3 g
  generalize a1.alloc (.cells #[.int .u64 (wd (ofL l) 0), .int .u64 (wd (ofL l) 1), .int .u64 (wd (ofL l) 2), .int .u64 (wd (ofL l) 3)] 24) = b at HF HB ⊢
  generalize a1.heap.size = m at HF ⊢
  have HU := Lib.hid (fun W (p q : BitVec 256) d os => Calls.regrown_of (union_u p q (Go.Sort.grow (redrawn W d) os)))
  have HI := Lib.hid (fun W (p q : BitVec 256) d os => Calls.regrown_of (inter_u p q (Go.Sort.grow (redrawn W d) os)))
  have HS := Lib.hid (fun W (p q : BitVec 256) d os => Calls.regrown_of (minus_u p q (Go.Sort.grow (redrawn W d) os)))
  have HC := Lib.hid (fun W (p : BitVec 256) d os => Calls.regrown_of (not_u p (Go.Sort.grow (redrawn W d) os)))
  go_loopw [9] (fun i wr => ∃ k : Nat, k ≤ n ∧ k ≤ 200 ∧ i = .int .i64 k ∧ Below b.heap.size b wr) (fun i _ => n - (intOf i).toNat)
  case atStart => exact ⟨0, Nat.zero_le _, by omega, rfl, Below.refl _ _⟩
  case round =>
    obtain ⟨k, hk, hk2, rfl, hbw⟩ := hrel
    by_cases hgo : k < n ∧ k < 200
    · obtain ⟨hlt, h2⟩ := hgo
      have hd1 : decide ((k : Int) < (n : Int)) = true := by simp; omega
      have hd2 : decide ((k : Int) < 200) = true := by simp; omega
      obtain ⟨z, hz⟩ : ∃ z, l[k]? = some z := ⟨_, List.getElem?_eq_getElem (by rw [HN.out.1]; exact hlt)⟩
      have hzz := HM.out.2 z (List.mem_of_getElem? hz)
      have hof := has_ofL l HM.out.2 (List.mem_of_getElem? hz)
      have hF := HF.out.grows hbw
      obtain ⟨blk, off, rfl, hc⟩ := hF.row.at hz
      obtain ⟨x0, x1, x2, x3, y0, y1, y2, y3⟩ := hF.bb.cells
      obtain ⟨o0, o1, o2, o3, -⟩ := hF.bo.four
      have hu := h_uni x y z
      have hi := h_itr x y z
      have hsb := h_sbt x y z hzz
      have hcp := h_cpl x z hzz
      obtain ⟨bx, hbx⟩ : ∃ b, hasI x z = b := ⟨_, rfl⟩
      obtain ⟨by', hby⟩ : ∃ b, hasI y z = b := ⟨_, rfl⟩
      rw [hbx, hby] at hu hi hsb
      rw [hbx] at hcp
      have kz := cell_regrown hc
      have kx0 := cell_regrown x0
      have kx1 := cell_regrown x1
      have kx2 := cell_regrown x2
      have kx3 := cell_regrown x3
      have ky0 := cell_regrown y0
      have ky1 := cell_regrown y1
      have ky2 := cell_regrown y2
      have ky3 := cell_regrown y3
      have ko0 := cell_regrown o0
      have ko1 := cell_regrown o1
      have ko2 := cell_regrown o2
      have ko3 := cell_regrown o3
      clear hz hF
      cases bx <;> cases by'
      · have e1 : hasI (uni x y) z = false := hu
        have e2 : hasI (itr x y) z = false := hi
        have e3 : hasI (sbt x y) z = false := hsb
        have e4 : hasI (cpl x) z = true := hcp
        have H0 := Lib.hid (fun W d os => Calls.regrown_of (has_b x z _ hbx hzz (Go.Sort.grow (redrawn W d) os)))
        have H1 := Lib.hid (fun W d os => Calls.regrown_of (has_b y z _ hby hzz (Go.Sort.grow (redrawn W d) os)))
        have H2 := Lib.hid (fun W d os => Calls.regrown_of (has_b (ofL l) z _ hof hzz (Go.Sort.grow (redrawn W d) os)))
        have H3 := Lib.hid (fun W d os => Calls.regrown_of (has_b (uni x y) z _ e1 hzz (Go.Sort.grow (redrawn W d) os)))
        have H4 := Lib.hid (fun W d os => Calls.regrown_of (has_b (itr x y) z _ e2 hzz (Go.Sort.grow (redrawn W d) os)))
        have H5 := Lib.hid (fun W d os => Calls.regrown_of (has_b (sbt x y) z _ e3 hzz (Go.Sort.grow (redrawn W d) os)))
        have H6 := Lib.hid (fun W d os => Calls.regrown_of (has_b (cpl x) z _ e4 hzz (Go.Sort.grow (redrawn W d) os)))
        clear hbx hby hof e1 e2 e3 e4 hu hi hsb hcp
        go_wp2_with fail
        refine wp_region_quiet_below (by kernel_rfl) (by kernel_rfl) ?_
        repeat (go_big_quiet_step (first | with_reducible exact H0.out _ _ _))
        refine wpQuiet_nil ?_
        intro _ hw'
        obtain ⟨⟨dq, osq⟩, hw''⟩ := hw'
        subst hw''
        have px0 := kx0 dq osq
        have px1 := kx1 dq osq
        have px2 := kx2 dq osq
        have px3 := kx3 dq osq
        have py0 := ky0 dq osq
        have py1 := ky1 dq osq
        have py2 := ky2 dq osq
        have py3 := ky3 dq osq
        have po0 := ko0 dq osq
        have po1 := ko1 dq osq
        have po2 := ko2 dq osq
        have po3 := ko3 dq osq
        have pz := kz dq osq
        clear kx0 kx1 kx2 kx3 ky0 ky1 ky2 ky3 ko0 ko1 ko2 ko3 kz x0 x1 x2 x3 y0 y1 y2 y3 o0 o1 o2 o3 hc
        have hb2 := up_call hbw (below_regrown wr dq osq)
        clear hbw
        generalize Go.Sort.grow (redrawn wr dq) osq = W2 at hb2 px0 px1 px2 px3 py0 py1 py2 py3 po0 po1 po2 po3 pz ⊢
        clear dq osq
        go_wp2_with fail
        have kx0 := cell_regrown px0
        have kx1 := cell_regrown px1
        have kx2 := cell_regrown px2
        have kx3 := cell_regrown px3
        have ky0 := cell_regrown py0
        have ky1 := cell_regrown py1
        have ky2 := cell_regrown py2
        have ky3 := cell_regrown py3
        have ko0 := cell_regrown po0
        have ko1 := cell_regrown po1
        have ko2 := cell_regrown po2
        have ko3 := cell_regrown po3
        have kz := cell_regrown pz
        clear px0 px1 px2 px3 py0 py1 py2 py3 po0 po1 po2 po3 pz
        refine wp_region_quiet_below (by kernel_rfl) (by kernel_rfl) ?_
        repeat (go_big_quiet_step (first | with_reducible exact H1.out _ _ _))
        refine wpQuiet_nil ?_
        intro _ hw'
        obtain ⟨⟨dq, osq⟩, hw''⟩ := hw'
        subst hw''
        have px0 := kx0 dq osq
        have px1 := kx1 dq osq
        have px2 := kx2 dq osq
        have px3 := kx3 dq osq
        have py0 := ky0 dq osq
        have py1 := ky1 dq osq
        have py2 := ky2 dq osq
        have py3 := ky3 dq osq
        have po0 := ko0 dq osq
        have po1 := ko1 dq osq
        have po2 := ko2 dq osq
        have po3 := ko3 dq osq
        have pz := kz dq osq
        clear kx0 kx1 kx2 kx3 ky0 ky1 ky2 ky3 ko0 ko1 ko2 ko3 kz 
        have hb3 := up_call hb2 (below_regrown W2 dq osq)
        clear hb2
        generalize Go.Sort.grow (redrawn W2 dq) osq = W3 at hb3 px0 px1 px2 px3 py0 py1 py2 py3 po0 po1 po2 po3 pz ⊢
        clear dq osq
        go_wp2_with fail
        have kx0 := cell_regrown px0
        have kx1 := cell_regrown px1
        have kx2 := cell_regrown px2
        have kx3 := cell_regrown px3
        have ky0 := cell_regrown py0
        have ky1 := cell_regrown py1
        have ky2 := cell_regrown py2
        have ky3 := cell_regrown py3
        have ko0 := cell_regrown po0
        have ko1 := cell_regrown po1
        have ko2 := cell_regrown po2
        have ko3 := cell_regrown po3
        have kz := cell_regrown pz
        clear px0 px1 px2 px3 py0 py1 py2 py3 po0 po1 po2 po3 pz
        refine wp_region_quiet_below (by kernel_rfl) (by kernel_rfl) ?_
        simp only [List.append_eq, List.cons_append, List.nil_append]
        repeat (go_big_quiet_step (first | with_reducible exact HU.out _ _ _ _ _ | with_reducible exact HI.out _ _ _ _ _ | with_reducible exact HS.out _ _ _ _ _ | with_reducible exact HC.out _ _ _ _ | with_reducible exact H2.out _ _ _ | with_reducible exact H3.out _ _ _ | with_reducible exact H4.out _ _ _ | with_reducible exact H5.out _ _ _ | with_reducible exact H6.out _ _ _))
        refine wpQuiet_nil ?_
        intro _ hw'
        obtain ⟨⟨dq, osq⟩, hw''⟩ := hw'
        subst hw''
        clear kx0 kx1 kx2 kx3 ky0 ky1 ky2 ky3 ko0 ko1 ko2 ko3 kz
        go_wp2
        go_roundw
        case rel => exact ⟨k + 1, by omega, by omega, by go_num, up_call hb3 (below_regrown W3 dq osq)⟩
        case measure => simp [intOf]; omega
      · have e1 : hasI (uni x y) z = true := hu
        have e2 : hasI (itr x y) z = false := hi
        have e3 : hasI (sbt x y) z = false := hsb
        have e4 : hasI (cpl x) z = true := hcp
        have H0 := Lib.hid (fun W d os => Calls.regrown_of (has_b x z _ hbx hzz (Go.Sort.grow (redrawn W d) os)))
        have H1 := Lib.hid (fun W d os => Calls.regrown_of (has_b y z _ hby hzz (Go.Sort.grow (redrawn W d) os)))
        have H2 := Lib.hid (fun W d os => Calls.regrown_of (has_b (ofL l) z _ hof hzz (Go.Sort.grow (redrawn W d) os)))
        have H3 := Lib.hid (fun W d os => Calls.regrown_of (has_b (uni x y) z _ e1 hzz (Go.Sort.grow (redrawn W d) os)))
        have H4 := Lib.hid (fun W d os => Calls.regrown_of (has_b (itr x y) z _ e2 hzz (Go.Sort.grow (redrawn W d) os)))
        have H5 := Lib.hid (fun W d os => Calls.regrown_of (has_b (sbt x y) z _ e3 hzz (Go.Sort.grow (redrawn W d) os)))
        have H6 := Lib.hid (fun W d os => Calls.regrown_of (has_b (cpl x) z _ e4 hzz (Go.Sort.grow (redrawn W d) os)))
        clear hbx hby hof e1 e2 e3 e4 hu hi hsb hcp
        go_wp2_with fail
        refine wp_region_quiet_below (by kernel_rfl) (by kernel_rfl) ?_
        repeat (go_big_quiet_step (first | with_reducible exact H0.out _ _ _))
        refine wpQuiet_nil ?_
        intro _ hw'
        obtain ⟨⟨dq, osq⟩, hw''⟩ := hw'
        subst hw''
        have px0 := kx0 dq osq
        have px1 := kx1 dq osq
        have px2 := kx2 dq osq
        have px3 := kx3 dq osq
        have py0 := ky0 dq osq
        have py1 := ky1 dq osq
        have py2 := ky2 dq osq
        have py3 := ky3 dq osq
        have po0 := ko0 dq osq
        have po1 := ko1 dq osq
        have po2 := ko2 dq osq
        have po3 := ko3 dq osq
        have pz := kz dq osq
        clear kx0 kx1 kx2 kx3 ky0 ky1 ky2 ky3 ko0 ko1 ko2 ko3 kz x0 x1 x2 x3 y0 y1 y2 y3 o0 o1 o2 o3 hc
        have hb2 := up_call hbw (below_regrown wr dq osq)
        clear hbw
        generalize Go.Sort.grow (redrawn wr dq) osq = W2 at hb2 px0 px1 px2 px3 py0 py1 py2 py3 po0 po1 po2 po3 pz ⊢
        clear dq osq
        go_wp2_with fail
        have kx0 := cell_regrown px0
        have kx1 := cell_regrown px1
        have kx2 := cell_regrown px2
        have kx3 := cell_regrown px3
        have ky0 := cell_regrown py0
        have ky1 := cell_regrown py1
        have ky2 := cell_regrown py2
        have ky3 := cell_regrown py3
        have ko0 := cell_regrown po0
        have ko1 := cell_regrown po1
        have ko2 := cell_regrown po2
        have ko3 := cell_regrown po3
        have kz := cell_regrown pz
        clear px0 px1 px2 px3 py0 py1 py2 py3 po0 po1 po2 po3 pz
        refine wp_region_quiet_below (by kernel_rfl) (by kernel_rfl) ?_
        repeat (go_big_quiet_step (first | with_reducible exact H1.out _ _ _))
        refine wpQuiet_nil ?_
        intro _ hw'
        obtain ⟨⟨dq, osq⟩, hw''⟩ := hw'
        subst hw''
        have px0 := kx0 dq osq
        have px1 := kx1 dq osq
        have px2 := kx2 dq osq
        have px3 := kx3 dq osq
        have py0 := ky0 dq osq
        have py1 := ky1 dq osq
        have py2 := ky2 dq osq
        have py3 := ky3 dq osq
        have po0 := ko0 dq osq
        have po1 := ko1 dq osq
        have po2 := ko2 dq osq
        have po3 := ko3 dq osq
        have pz := kz dq osq
        clear kx0 kx1 kx2 kx3 ky0 ky1 ky2 ky3 ko0 ko1 ko2 ko3 kz 
        have hb3 := up_call hb2 (below_regrown W2 dq osq)
        clear hb2
        generalize Go.Sort.grow (redrawn W2 dq) osq = W3 at hb3 px0 px1 px2 px3 py0 py1 py2 py3 po0 po1 po2 po3 pz ⊢
        clear dq osq
        go_wp2_with fail
        have kx0 := cell_regrown px0
        have kx1 := cell_regrown px1
        have kx2 := cell_regrown px2
        have kx3 := cell_regrown px3
        have ky0 := cell_regrown py0
        have ky1 := cell_regrown py1
        have ky2 := cell_regrown py2
        have ky3 := cell_regrown py3
        have ko0 := cell_regrown po0
        have ko1 := cell_regrown po1
        have ko2 := cell_regrown po2
        have ko3 := cell_regrown po3
        have kz := cell_regrown pz
        clear px0 px1 px2 px3 py0 py1 py2 py3 po0 po1 po2 po3 pz
        refine wp_region_quiet_below (by kernel_rfl) (by kernel_rfl) ?_
        simp only [List.append_eq, List.cons_append, List.nil_append]
        repeat (go_big_quiet_step (first | with_reducible exact HU.out _ _ _ _ _ | with_reducible exact HI.out _ _ _ _ _ | with_reducible exact HS.out _ _ _ _ _ | with_reducible exact HC.out _ _ _ _ | with_reducible exact H2.out _ _ _ | with_reducible exact H3.out _ _ _ | with_reducible exact H4.out _ _ _ | with_reducible exact H5.out _ _ _ | with_reducible exact H6.out _ _ _))
        refine wpQuiet_nil ?_
        intro _ hw'
        obtain ⟨⟨dq, osq⟩, hw''⟩ := hw'
        subst hw''
        clear kx0 kx1 kx2 kx3 ky0 ky1 ky2 ky3 ko0 ko1 ko2 ko3 kz
        go_wp2
        go_roundw
        case rel => exact ⟨k + 1, by omega, by omega, by go_num, up_call hb3 (below_regrown W3 dq osq)⟩
        case measure => simp [intOf]; omega
      · have e1 : hasI (uni x y) z = true := hu
        have e2 : hasI (itr x y) z = false := hi
        have e3 : hasI (sbt x y) z = true := hsb
        have e4 : hasI (cpl x) z = false := hcp
        have H0 := Lib.hid (fun W d os => Calls.regrown_of (has_b x z _ hbx hzz (Go.Sort.grow (redrawn W d) os)))
        have H1 := Lib.hid (fun W d os => Calls.regrown_of (has_b y z _ hby hzz (Go.Sort.grow (redrawn W d) os)))
        have H2 := Lib.hid (fun W d os => Calls.regrown_of (has_b (ofL l) z _ hof hzz (Go.Sort.grow (redrawn W d) os)))
        have H3 := Lib.hid (fun W d os => Calls.regrown_of (has_b (uni x y) z _ e1 hzz (Go.Sort.grow (redrawn W d) os)))
        have H4 := Lib.hid (fun W d os => Calls.regrown_of (has_b (itr x y) z _ e2 hzz (Go.Sort.grow (redrawn W d) os)))
        have H5 := Lib.hid (fun W d os => Calls.regrown_of (has_b (sbt x y) z _ e3 hzz (Go.Sort.grow (redrawn W d) os)))
        have H6 := Lib.hid (fun W d os => Calls.regrown_of (has_b (cpl x) z _ e4 hzz (Go.Sort.grow (redrawn W d) os)))
        clear hbx hby hof e1 e2 e3 e4 hu hi hsb hcp
        go_wp2_with fail
        refine wp_region_quiet_below (by kernel_rfl) (by kernel_rfl) ?_
        repeat (go_big_quiet_step (first | with_reducible exact H0.out _ _ _))
        refine wpQuiet_nil ?_
        intro _ hw'
        obtain ⟨⟨dq, osq⟩, hw''⟩ := hw'
        subst hw''
        have px0 := kx0 dq osq
        have px1 := kx1 dq osq
        have px2 := kx2 dq osq
        have px3 := kx3 dq osq
        have py0 := ky0 dq osq
        have py1 := ky1 dq osq
        have py2 := ky2 dq osq
        have py3 := ky3 dq osq
        have po0 := ko0 dq osq
        have po1 := ko1 dq osq
        have po2 := ko2 dq osq
        have po3 := ko3 dq osq
        have pz := kz dq osq
        clear kx0 kx1 kx2 kx3 ky0 ky1 ky2 ky3 ko0 ko1 ko2 ko3 kz x0 x1 x2 x3 y0 y1 y2 y3 o0 o1 o2 o3 hc
        have hb2 := up_call hbw (below_regrown wr dq osq)
        clear hbw
        generalize Go.Sort.grow (redrawn wr dq) osq = W2 at hb2 px0 px1 px2 px3 py0 py1 py2 py3 po0 po1 po2 po3 pz ⊢
        clear dq osq
        go_wp2_with fail
        have kx0 := cell_regrown px0
        have kx1 := cell_regrown px1
        have kx2 := cell_regrown px2
        have kx3 := cell_regrown px3
        have ky0 := cell_regrown py0
        have ky1 := cell_regrown py1
        have ky2 := cell_regrown py2
        have ky3 := cell_regrown py3
        have ko0 := cell_regrown po0
        have ko1 := cell_regrown po1
        have ko2 := cell_regrown po2
        have ko3 := cell_regrown po3
        have kz := cell_regrown pz
        clear px0 px1 px2 px3 py0 py1 py2 py3 po0 po1 po2 po3 pz
        refine wp_region_quiet_below (by kernel_rfl) (by kernel_rfl) ?_
        repeat (go_big_quiet_step (first | with_reducible exact H1.out _ _ _))
        refine wpQuiet_nil ?_
        intro _ hw'
        obtain ⟨⟨dq, osq⟩, hw''⟩ := hw'
        subst hw''
        have px0 := kx0 dq osq
        have px1 := kx1 dq osq
        have px2 := kx2 dq osq
        have px3 := kx3 dq osq
        have py0 := ky0 dq osq
        have py1 := ky1 dq osq
        have py2 := ky2 dq osq
        have py3 := ky3 dq osq
        have po0 := ko0 dq osq
        have po1 := ko1 dq osq
        have po2 := ko2 dq osq
        have po3 := ko3 dq osq
        have pz := kz dq osq
        clear kx0 kx1 kx2 kx3 ky0 ky1 ky2 ky3 ko0 ko1 ko2 ko3 kz 
        have hb3 := up_call hb2 (below_regrown W2 dq osq)
        clear hb2
        generalize Go.Sort.grow (redrawn W2 dq) osq = W3 at hb3 px0 px1 px2 px3 py0 py1 py2 py3 po0 po1 po2 po3 pz ⊢
        clear dq osq
        go_wp2_with fail
        have kx0 := cell_regrown px0
        have kx1 := cell_regrown px1
        have kx2 := cell_regrown px2
        have kx3 := cell_regrown px3
        have ky0 := cell_regrown py0
        have ky1 := cell_regrown py1
        have ky2 := cell_regrown py2
        have ky3 := cell_regrown py3
        have ko0 := cell_regrown po0
        have ko1 := cell_regrown po1
        have ko2 := cell_regrown po2
        have ko3 := cell_regrown po3
        have kz := cell_regrown pz
        clear px0 px1 px2 px3 py0 py1 py2 py3 po0 po1 po2 po3 pz
        refine wp_region_quiet_below (by kernel_rfl) (by kernel_rfl) ?_
        simp only [List.append_eq, List.cons_append, List.nil_append]
        repeat (go_big_quiet_step (first | with_reducible exact HU.out _ _ _ _ _ | with_reducible exact HI.out _ _ _ _ _ | with_reducible exact HS.out _ _ _ _ _ | with_reducible exact HC.out _ _ _ _ | with_reducible exact H2.out _ _ _ | with_reducible exact H3.out _ _ _ | with_reducible exact H4.out _ _ _ | with_reducible exact H5.out _ _ _ | with_reducible exact H6.out _ _ _))
        refine wpQuiet_nil ?_
        intro _ hw'
        obtain ⟨⟨dq, osq⟩, hw''⟩ := hw'
        subst hw''
        clear kx0 kx1 kx2 kx3 ky0 ky1 ky2 ky3 ko0 ko1 ko2 ko3 kz
        go_wp2
        go_roundw
        case rel => exact ⟨k + 1, by omega, by omega, by go_num, up_call hb3 (below_regrown W3 dq osq)⟩
        case measure => simp [intOf]; omega
      · have e1 : hasI (uni x y) z = true := hu
        have e2 : hasI (itr x y) z = true := hi
        have e3 : hasI (sbt x y) z = false := hsb
        have e4 : hasI (cpl x) z = false := hcp
        have H0 := Lib.hid (fun W d os => Calls.regrown_of (has_b x z _ hbx hzz (Go.Sort.grow (redrawn W d) os)))
        have H1 := Lib.hid (fun W d os => Calls.regrown_of (has_b y z _ hby hzz (Go.Sort.grow (redrawn W d) os)))
        have H2 := Lib.hid (fun W d os => Calls.regrown_of (has_b (ofL l) z _ hof hzz (Go.Sort.grow (redrawn W d) os)))
        have H3 := Lib.hid (fun W d os => Calls.regrown_of (has_b (uni x y) z _ e1 hzz (Go.Sort.grow (redrawn W d) os)))
        have H4 := Lib.hid (fun W d os => Calls.regrown_of (has_b (itr x y) z _ e2 hzz (Go.Sort.grow (redrawn W d) os)))
        have H5 := Lib.hid (fun W d os => Calls.regrown_of (has_b (sbt x y) z _ e3 hzz (Go.Sort.grow (redrawn W d) os)))
        have H6 := Lib.hid (fun W d os => Calls.regrown_of (has_b (cpl x) z _ e4 hzz (Go.Sort.grow (redrawn W d) os)))
        clear hbx hby hof e1 e2 e3 e4 hu hi hsb hcp
        go_wp2_with fail
        refine wp_region_quiet_below (by kernel_rfl) (by kernel_rfl) ?_
        repeat (go_big_quiet_step (first | with_reducible exact H0.out _ _ _))
        refine wpQuiet_nil ?_
        intro _ hw'
        obtain ⟨⟨dq, osq⟩, hw''⟩ := hw'
        subst hw''
        have px0 := kx0 dq osq
        have px1 := kx1 dq osq
        have px2 := kx2 dq osq
        have px3 := kx3 dq osq
        have py0 := ky0 dq osq
        have py1 := ky1 dq osq
        have py2 := ky2 dq osq
        have py3 := ky3 dq osq
        have po0 := ko0 dq osq
        have po1 := ko1 dq osq
        have po2 := ko2 dq osq
        have po3 := ko3 dq osq
        have pz := kz dq osq
        clear kx0 kx1 kx2 kx3 ky0 ky1 ky2 ky3 ko0 ko1 ko2 ko3 kz x0 x1 x2 x3 y0 y1 y2 y3 o0 o1 o2 o3 hc
        have hb2 := up_call hbw (below_regrown wr dq osq)
        clear hbw
        generalize Go.Sort.grow (redrawn wr dq) osq = W2 at hb2 px0 px1 px2 px3 py0 py1 py2 py3 po0 po1 po2 po3 pz ⊢
        clear dq osq
        go_wp2_with fail
        have kx0 := cell_regrown px0
        have kx1 := cell_regrown px1
        have kx2 := cell_regrown px2
        have kx3 := cell_regrown px3
        have ky0 := cell_regrown py0
        have ky1 := cell_regrown py1
        have ky2 := cell_regrown py2
        have ky3 := cell_regrown py3
        have ko0 := cell_regrown po0
        have ko1 := cell_regrown po1
        have ko2 := cell_regrown po2
        have ko3 := cell_regrown po3
        have kz := cell_regrown pz
        clear px0 px1 px2 px3 py0 py1 py2 py3 po0 po1 po2 po3 pz
        refine wp_region_quiet_below (by kernel_rfl) (by kernel_rfl) ?_
        repeat (go_big_quiet_step (first | with_reducible exact H1.out _ _ _))
        refine wpQuiet_nil ?_
        intro _ hw'
        obtain ⟨⟨dq, osq⟩, hw''⟩ := hw'
        subst hw''
        have px0 := kx0 dq osq
        have px1 := kx1 dq osq
        have px2 := kx2 dq osq
        have px3 := kx3 dq osq
        have py0 := ky0 dq osq
        have py1 := ky1 dq osq
        have py2 := ky2 dq osq
        have py3 := ky3 dq osq
        have po0 := ko0 dq osq
        have po1 := ko1 dq osq
        have po2 := ko2 dq osq
        have po3 := ko3 dq osq
        have pz := kz dq osq
        clear kx0 kx1 kx2 kx3 ky0 ky1 ky2 ky3 ko0 ko1 ko2 ko3 kz 
        have hb3 := up_call hb2 (below_regrown W2 dq osq)
        clear hb2
        generalize Go.Sort.grow (redrawn W2 dq) osq = W3 at hb3 px0 px1 px2 px3 py0 py1 py2 py3 po0 po1 po2 po3 pz ⊢
        clear dq osq
        go_wp2_with fail
        have kx0 := cell_regrown px0
        have kx1 := cell_regrown px1
        have kx2 := cell_regrown px2
        have kx3 := cell_regrown px3
        have ky0 := cell_regrown py0
        have ky1 := cell_regrown py1
        have ky2 := cell_regrown py2
        have ky3 := cell_regrown py3
        have ko0 := cell_regrown po0
        have ko1 := cell_regrown po1
        have ko2 := cell_regrown po2
        have ko3 := cell_regrown po3
        have kz := cell_regrown pz
        clear px0 px1 px2 px3 py0 py1 py2 py3 po0 po1 po2 po3 pz
        refine wp_region_quiet_below (by kernel_rfl) (by kernel_rfl) ?_
        simp only [List.append_eq, List.cons_append, List.nil_append]
        repeat (go_big_quiet_step (first | with_reducible exact HU.out _ _ _ _ _ | with_reducible exact HI.out _ _ _ _ _ | with_reducible exact HS.out _ _ _ _ _ | with_reducible exact HC.out _ _ _ _ | with_reducible exact H2.out _ _ _ | with_reducible exact H3.out _ _ _ | with_reducible exact H4.out _ _ _ | with_reducible exact H5.out _ _ _ | with_reducible exact H6.out _ _ _))
        refine wpQuiet_nil ?_
        intro _ hw'
        obtain ⟨⟨dq, osq⟩, hw''⟩ := hw'
        subst hw''
        clear kx0 kx1 kx2 kx3 ky0 ky1 ky2 ky3 ko0 ko1 ko2 ko3 kz
        go_wp2
        go_roundw
        case rel => exact ⟨k + 1, by omega, by omega, by go_num, up_call hb3 (below_regrown W3 dq osq)⟩
        case measure => simp [intOf]; omega
    · have hF := HF.out.grows hbw
      obtain ⟨o0, o1, o2, o3, -⟩ := hF.bo.four
      have hle : decide (s ≤ (n : Int)) = true := by simp; omega
      clear hF
      by_cases hlt : k < n
      · have hd1 : decide ((k : Int) < (n : Int)) = true := by simp; omega
        have hd2 : decide ((k : Int) < 200) = false := by simp; omega
        clear hgo hs
        go_wp2_with (go_at_call 24; refine (size_i _ _).mono ?_; rintro e w3 ⟨rfl, hb1⟩; rw [HN.out.2]; have HB3 := Lib.hid (up_call (up_call HB.out hbw) hb1); clear hb1)
        go_ret
        exact ⟨rfl, HB3.out⟩
      · have hd1 : decide ((k : Int) < (n : Int)) = false := by simp; omega
        clear hgo hs
        go_wp2_with (go_at_call 24; refine (size_i _ _).mono ?_; rintro e w3 ⟨rfl, hb1⟩; rw [HN.out.2]; have HB3 := Lib.hid (up_call (up_call HB.out hbw) hb1); clear hb1)
        go_ret
        exact ⟨rfl, HB3.out⟩
end Go.Proofs.YthhlehhienndeaaDoor
