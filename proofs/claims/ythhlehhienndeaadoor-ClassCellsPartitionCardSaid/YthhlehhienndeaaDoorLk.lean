/-
  The law that the cells are a partition: the walk.
-/
import Derived.Test.YthhlehhienndeaaDoorLj
import Derived.StillTailTactics
set_option linter.unusedSimpArgs false
set_option linter.unusedVariables false
namespace Go.Proofs.YthhlehhienndeaaDoor
open Go.RowKit Go.Shelf Go.Lib

theorem cells_as (v : Value) (l : List (BitVec 256)) {m : Nat} (hm : (canon l).length = m) {a W : World} (hv : IsC a v l) (hw : Below a.heap.size a W) (hl : l.length ≤ 1000) (hT : TabAt 0 Lib.deBruijn64tab a) (hg0 : 0 < a.heap.size) :
    Calls Tryd.prog 31 #[v] W fun e w' => (∃ p cap, e = .returned (.slice p m cap) ∧ IsC w' (.slice p m cap) (canon l)) ∧ Below W.heap.size W w' := by
  refine (cells_any v l W (hv.grows hw) hl (tab_below hT hw hg0) (Nat.lt_of_lt_of_le hg0 hw.size)).mono ?_
  rintro e w' ⟨v1, rfl, hown, hb⟩
  have hc := own_isC hown
  obtain ⟨p, cap, rfl⟩ := own_shape hown
  rw [hm] at hc ⊢
  exact ⟨⟨p, cap, rfl, hc⟩, hb⟩
theorem eq_no0 {x : BitVec 256} (h : ¬ x = 0) (w : World) : (Op.equalIn 10000 24 (.agg #[.int .u64 (wd x 0), .int .u64 (wd x 1), .int .u64 (wd x 2), .int .u64 (wd x 3)]) (.agg #[.int .u64 0, .int .u64 0, .int .u64 0, .int .u64 0])).run Tryd.prog w = .ok false w := by
  rw [eq_cls0, decide_eq_false h]
theorem eq_is0 {x : BitVec 256} (h : x = 0) (w : World) : (Op.equalIn 10000 24 (.agg #[.int .u64 (wd x 0), .int .u64 (wd x 1), .int .u64 (wd x 2), .int .u64 (wd x 3)]) (.agg #[.int .u64 0, .int .u64 0, .int .u64 0, .int .u64 0])).run Tryd.prog w = .ok true w := by
  rw [eq_cls0, decide_eq_true h]
theorem ups_0 (l : List (BitVec 256)) : ups l 0 = 0 := rfl
theorem mets_0 (l : List (BitVec 256)) (c : BitVec 256) : mets l c 0 = 0 := rfl
theorem ups_u (l : List (BitVec 256)) (k : Nat) (p : BitVec 256) (h : l[k]? = some p) : ups l (k + 1) = uni (ups l k) p := ups_step l k p h
theorem mets_h (l : List (BitVec 256)) (c : BitVec 256) (k : Nat) (p : BitVec 256) (h : l[k]? = some p) (hp : ¬ itr p c = 0) : mets l c (k + 1) = uni (mets l c k) p := mets_hit l c k p h hp
theorem mets_m (l : List (BitVec 256)) (c : BitVec 256) (k : Nat) (p : BitVec 256) (h : l[k]? = some p) (hp : itr p c = 0) : mets l c (k + 1) = mets l c k := mets_miss l c k p h hp
theorem ups_top (l : List (BitVec 256)) : ups (canon l) (canon l).length = rg 0 255 := by
  rw [(canon_inv l).ups_all, ← e_eq2]
  exact mem_ext fun j hj => by simp only [mem_and, mem_all j hj, mem_not _ _ hj, mem_zero]; rfl
theorem ups_off (l : List (BitVec 256)) (k : Nat) (x : BitVec 256) (h : (canon l)[k]? = some x) : itr (ups (canon l) k) x = 0 := (canon_inv l).ups_apart h
theorem size_pos {l : List (BitVec 256)} {k : Nat} {x : BitVec 256} (h : (canon l)[k]? = some x) : (sizeI x == 0) = false := by
  obtain ⟨j, hj⟩ := exists_mem ((canon_inv l).ne x (List.mem_of_getElem? h))
  have hjl := mem_lt hj
  have : 0 < ((List.range 256).filter (mem x)).length := List.length_pos_of_mem (List.mem_filter.2 ⟨List.mem_range.2 hjl, hj⟩)
  rw [beq_eq_false_iff_ne, size_mems]; omega
theorem least_step {l : List (BitVec 256)} {k : Nat} {x y : BitVec 256} (hy : (canon l)[k]? = some y) (hx : (canon l)[k + 1]? = some x) : decide (leastI x ≤ leastI y) = false := by
  obtain ⟨h1, rfl⟩ := List.getElem?_eq_some_iff.1 hy
  obtain ⟨h2, rfl⟩ := List.getElem?_eq_some_iff.1 hx
  have := List.pairwise_iff_getElem.1 (canon_incr l) k (k + 1) h1 h2 (by omega)
  rw [← leastI_eq, ← leastI_eq] at this
  exact decide_eq_false (by omega)
theorem mets_top {l : List (BitVec 256)} {k : Nat} {z : BitVec 256} (h : l[k]? = some z) : mets (canon l) z (canon l).length = z := (canon_inv l).mets_all (List.mem_of_getElem? h)

attribute [local irreducible] rg ofV hasI ixI sizeI leastI rng mem mems canon ix ofL bit uni itr sbt cpl ups mets
set_option maxRecDepth 100000 in
set_option maxHeartbeats 4000000 in
theorem partition_walk (v : Value) (l : List (BitVec 256)) (w : World) (hv : IsC w v l) (hm : l.length ≤ maxLen)
    (hT : TabAt 0 Lib.deBruijn64tab w) (hg0 : 0 < w.heap.size) :
    Calls Tryd.prog 9 #[v] w fun e w' => e = .returned (.bool true) ∧ Below w.heap.size w w' := by
  have HT := Lib.hid hT
  clear hT
  obtain ⟨pp, cp, rfl⟩ := hv.shape
  unfold maxLen at hm
  generalize hn : l.length = n at hv hm ⊢
  obtain ⟨m, hmm⟩ : ∃ m, (canon l).length = m := ⟨_, rfl⟩
  have hm256 : m ≤ 256 := hmm ▸ canon_len l
  have HV := Lib.hid hv
  have HN := Lib.hid (And.intro hn hmm)
  have HC := Lib.hid (And.intro (fun (k : Nat) x => ups_u (canon l) k x) (And.intro (ups_off l) (And.intro (hmm ▸ ups_top l : ups (canon l) m = rg 0 255) (fun (k : Nat) z (h : l[k]? = some z) => (hmm ▸ mets_top h : mets (canon l) z m = z)))))
  clear hv hn hmm
  go_enter Tryd.func9, Tryd.ntmps9
  by_cases h12 : 12 < n
  · have hd : decide ((12 : Int) < (n : Int)) = true := by simp; omega
    go_wp2_with (go_at_call 13; refine (sanity_any _ HT.out hg0).mono ?_; rintro e a ⟨rfl, hb1⟩; have HB := Lib.hid hb1; clear hb1)
    go_ret
    exact ⟨rfl, HB.out⟩
  · have hd : decide ((12 : Int) < (n : Int)) = false := by simp; omega
    have h1000 : l.length ≤ 1000 := by rw [HN.out.1]; omega
    have HL := Lib.hid h1000
    clear h1000
    go_wp2_with (first
      | (go_at_call 13; refine (sanity_any _ HT.out hg0).mono ?_; rintro e a ⟨rfl, hb1⟩; have HW := Lib.hid hb1; clear hb1)
      | (go_at_call 31; refine (cells_as _ l HN.out.2 HV.out HW.out HL.out HT.out hg0).mono ?_; rintro e a1 ⟨⟨p1, c1, rfl, hI⟩, hb1⟩; replace HW := Lib.hid (up_call HW.out hb1); have HO := Lib.hid hI; clear hI hb1))
    have HU := Lib.hid (fun W (p q : BitVec 256) d os => Calls.regrown_of (union_u p q (Go.Sort.grow (redrawn W d) os)))
    have HI := Lib.hid (fun W (p q : BitVec 256) d os => Calls.regrown_of (inter_u p q (Go.Sort.grow (redrawn W d) os)))
    have HS := Lib.hid (fun W (p : BitVec 256) d os => Calls.regrown_of (size_i p (Go.Sort.grow (redrawn W d) os)))
    have HN0 := Lib.hid (fun W d os => Calls.regrown_of (not_n (Go.Sort.grow (redrawn W d) os)))
    go_loopw [6] (fun i wr => ∃ k : Nat, k ≤ m ∧ i = .int .i64 k ∧ Below a1.heap.size a1 wr ∧ Blk wr a1.heap.size #[.int .u64 (wd (ups (canon l) k) 0), .int .u64 (wd (ups (canon l) k) 1), .int .u64 (wd (ups (canon l) k) 2), .int .u64 (wd (ups (canon l) k) 3)] 24) (fun i _ => m - (intOf i).toNat)
    case atStart =>
      refine ⟨0, Nat.zero_le _, rfl, up_al (Below.refl _ _) _, ?_⟩
      simp only [ups_0, wd_zero]
      exact Blk.new a1 _ _
    case round =>
      obtain ⟨k, hk, rfl, hbw, hB⟩ := hrel
      by_cases hlt : k < m
      · have hd1 : decide ((k : Int) < (m : Int)) = true := by simp; omega
        obtain ⟨x, hx⟩ : ∃ x, (canon l)[k]? = some x := ⟨_, List.getElem?_eq_getElem (by rw [HN.out.2]; exact hlt)⟩
        have hO := HO.out.grows hbw
        obtain ⟨blk, off, rfl, x0, x1, x2, x3⟩ := isC_at hO hx
        obtain ⟨u0, u1, u2, u3, -⟩ := hB.four
        have hsz := size_pos hx
        have qi := eq_is0 (HC.out.2.1 k x hx)
        have hup := HC.out.1 k x hx
        have HLe := Lib.hid (fun (p : BitVec 256) d os => Calls.regrown_of (least_i p HT.out hg0 (up_call (up_call HW.out hbw) (below_regrown wr d os))))
        have kx0 := cell_regrown x0
        have kx1 := cell_regrown x1
        have kx2 := cell_regrown x2
        have kx3 := cell_regrown x3
        have ku0 := cell_regrown u0
        have ku1 := cell_regrown u1
        have ku2 := cell_regrown u2
        have ku3 := cell_regrown u3
        clear u0 u1 u2 u3
        rcases Nat.eq_zero_or_pos k with h0 | hpos
        · have hd2 : decide ((0 : Int) < (k : Int)) = false := by simp; omega
          have hd3 : decide (0 < k) = false := by simp; omega
          have hX := Lib.hid (And.intro hx (And.intro hup hbw))
          have hB1 := Lib.hid hB
          clear hx hup hO x0 x1 x2 x3 hB hbw h0
          go_wp2_with fail
          refine wp_region_quiet_below (by kernel_rfl) (by kernel_rfl) ?_
          repeat (go_big_quiet_step (first | with_reducible exact HS.out _ _ _ _ | with_reducible exact HI.out _ _ _ _ _ | with_reducible exact HLe.out _ _ _))
          refine wpQuiet_nil ?_
          intro _ hw'
          obtain ⟨⟨dq, osq⟩, hw''⟩ := hw'
          subst hw''
          obtain ⟨hx, hup, hbw⟩ := hX.out
          have hB2 := hB1.out.grows (below_regrown wr dq osq)
          have hb2 := up_call hbw (below_regrown wr dq osq)
          have z0 := kx0 dq osq
          have z1 := kx1 dq osq
          have z2 := kx2 dq osq
          have z3 := kx3 dq osq
          clear kx0 kx1 kx2 kx3 ku0 ku1 ku2 ku3 hX hB1 HLe hbw hx qi hsz hd2 hd3
          generalize Go.Sort.grow (redrawn wr dq) osq = W2 at hB2 hb2 z0 z1 z2 z3 ⊢
          clear dq osq
          go_wp2_with fail
          obtain ⟨u0, u1, u2, u3, f0, f1, f2, f3⟩ := hB2.four
          have hB3 := Lib.hid hB2
          clear hB2
          go_still_tail 5, (by kernel_rfl)
          go_wp2_with (go_at_call 16; refine (union_u _ _ _).mono ?_; rintro e w1 ⟨rfl, hb1⟩; have hB4 := hB3.out.drew.grows hb1; obtain ⟨g0, g1, g2, g3, h0, h1, h2, h3⟩ := hB4.four)
          go_roundw
          case rel => exact ⟨k + 1, by omega, by go_num, below_set4 (hb2.drew.trans (hb1.mono hb2.size)) (Nat.le_refl _) _ _ _ _, by rw [hup]; exact hB4.set4 _ _ _ _⟩
          case measure => simp [intOf]; omega
        · obtain ⟨j, rfl⟩ : ∃ j, k = j + 1 := ⟨k - 1, by omega⟩
          have hd2 : decide ((0 : Int) < ((j : Int) + 1)) = true := by apply decide_eq_true; omega
          obtain ⟨y, hy⟩ : ∃ y, (canon l)[j]? = some y := ⟨_, List.getElem?_eq_getElem (by rw [HN.out.2]; omega)⟩
          obtain ⟨blk', off', hbo, y0, y1, y2, y3⟩ := isC_at hO hy
          simp only [Option.some.injEq, Addr.mk.injEq, and_true] at hbo
          obtain ⟨rfl, rfl⟩ := hbo
          have hls := least_step hy hx
          have ky0 := cell_regrown y0
          have ky1 := cell_regrown y1
          have ky2 := cell_regrown y2
          have ky3 := cell_regrown y3
          have hX := Lib.hid (And.intro hx (And.intro hup hbw))
          have hB1 := Lib.hid hB
          clear hx hup hO x0 x1 x2 x3 y0 y1 y2 y3 hy hB hbw
          go_wp2_with fail
          refine wp_region_quiet_below (by kernel_rfl) (by kernel_rfl) ?_
          repeat (go_big_quiet_step (first | with_reducible exact HS.out _ _ _ _ | with_reducible exact HI.out _ _ _ _ _ | with_reducible exact HLe.out _ _ _))
          refine wpQuiet_nil ?_
          intro _ hw'
          obtain ⟨⟨dq, osq⟩, hw''⟩ := hw'
          subst hw''
          obtain ⟨hx, hup, hbw⟩ := hX.out
          have hB2 := hB1.out.grows (below_regrown wr dq osq)
          have hb2 := up_call hbw (below_regrown wr dq osq)
          have z0 := kx0 dq osq
          have z1 := kx1 dq osq
          have z2 := kx2 dq osq
          have z3 := kx3 dq osq
          clear kx0 kx1 kx2 kx3 ku0 ku1 ku2 ku3 hX hB1 HLe hbw hx qi hsz hd2 hls ky0 ky1 ky2 ky3
          generalize Go.Sort.grow (redrawn wr dq) osq = W2 at hB2 hb2 z0 z1 z2 z3 ⊢
          clear dq osq
          go_wp2_with fail
          rw [show (j : Int) + 1 = ((j + 1 : Nat) : Int) from by omega]
          generalize hkj : j + 1 = k at hlt hup hB2 z0 z1 z2 z3 ⊢
          obtain ⟨u0, u1, u2, u3, f0, f1, f2, f3⟩ := hB2.four
          have hB3 := Lib.hid hB2
          clear hB2
          go_still_tail 5, (by kernel_rfl)
          go_wp2_with (go_at_call 16; refine (union_u _ _ _).mono ?_; rintro e w1 ⟨rfl, hb1⟩; have hB4 := hB3.out.drew.grows hb1; obtain ⟨g0, g1, g2, g3, h0, h1, h2, h3⟩ := hB4.four)
          go_roundw
          case rel => exact ⟨k + 1, by omega, by go_num, below_set4 (hb2.drew.trans (hb1.mono hb2.size)) (Nat.le_refl _) _ _ _ _, by rw [hup]; exact hB4.set4 _ _ _ _⟩
          case measure => simp [intOf]; omega
      · obtain rfl : k = m := by omega
        have hd1 : decide ((k : Int) < (k : Int)) = false := by simp
        rw [HC.out.2.2.1] at hB
        obtain ⟨b, rfl⟩ : ∃ b, b = wr := ⟨_, rfl⟩
        have HA := Lib.hid (And.intro hbw hB)
        clear hbw hB
        go_wp2_with fail
        go_loopw [7] (fun i wr => ∃ j : Nat, j ≤ n ∧ i = .int .i64 j ∧ Below b.heap.size b wr) (fun i _ => n - (intOf i).toNat)
        case atStart => exact ⟨0, Nat.zero_le _, rfl, Below.refl _ _⟩
        case round =>
          obtain ⟨j, hj, rfl, hbo⟩ := hrel
          by_cases hjn : j < n
          · have hd2 : decide ((j : Int) < (n : Int)) = true := by simp; omega
            obtain ⟨z, hz⟩ : ∃ z, l[j]? = some z := ⟨_, List.getElem?_eq_getElem (by rw [HN.out.1]; exact hjn)⟩
            obtain ⟨wo, rfl⟩ : ∃ wo, wo = wr := ⟨_, rfl⟩
            have hmt := HC.out.2.2.2 j z hz
            have hV := HV.out.grows (up_call (up_call HW.out HA.out.1) hbo)
            have hO := HO.out.grows (up_call HA.out.1 hbo)
            obtain ⟨bz, oz, rfl, -⟩ := isC_at hV hz
            have HX := Lib.hid (And.intro hV (And.intro hO (And.intro hz (And.intro hmt hbo))))
            clear hV hO hz hmt hbo
            go_wp2_with fail
            go_loopw [9] (fun i wr => ∃ q : Nat, q ≤ k ∧ i = .int .i64 q ∧ Below wo.heap.size wo wr ∧ Blk wr wo.heap.size #[.int .u64 (wd (mets (canon l) z q) 0), .int .u64 (wd (mets (canon l) z q) 1), .int .u64 (wd (mets (canon l) z q) 2), .int .u64 (wd (mets (canon l) z q) 3)] 24) (fun i _ => k - (intOf i).toNat)
            case atStart =>
              refine ⟨0, Nat.zero_le _, rfl, up_al (Below.refl _ _) _, ?_⟩
              simp only [mets_0, wd_zero]
              exact Blk.new wo _ _
            case round =>
              obtain ⟨q, hq, rfl, hbi, hM⟩ := hrel
              obtain ⟨bz', oz', hbz, z0, z1, z2, z3⟩ := isC_at (HX.out.1.grows hbi) HX.out.2.2.1
              simp only [Option.some.injEq, Addr.mk.injEq, and_true] at hbz
              obtain ⟨rfl, rfl⟩ := hbz
              have kz0 := cell_regrown z0
              have kz1 := cell_regrown z1
              have kz2 := cell_regrown z2
              have kz3 := cell_regrown z3
              by_cases hqk : q < k
              · have hd3 : decide ((q : Int) < (k : Int)) = true := by simp; omega
                obtain ⟨x, hx⟩ : ∃ x, (canon l)[q]? = some x := ⟨_, List.getElem?_eq_getElem (by rw [HN.out.2]; exact hqk)⟩
                obtain ⟨bx, ox, rfl, x0, x1, x2, x3⟩ := isC_at (HX.out.2.1.grows hbi) hx
                have kx0 := cell_regrown x0
                have kx1 := cell_regrown x1
                have kx2 := cell_regrown x2
                have kx3 := cell_regrown x3
                by_cases hxz : itr x z = 0
                · have qi := eq_is0 hxz
                  have HM := Lib.hid (And.intro (mets_m _ _ q x hx hxz) (And.intro hM hbi))
                  clear hx hxz hM hbi x0 x1 x2 x3 z0 z1 z2 z3
                  go_wp2_with fail
                  refine wp_region_quiet_below (by kernel_rfl) (by kernel_rfl) ?_
                  repeat (go_big_quiet_step (first | with_reducible exact HI.out _ _ _ _ _))
                  refine wpQuiet_nil ?_
                  intro _ hw'
                  obtain ⟨⟨dq, osq⟩, hw''⟩ := hw'
                  subst hw''
                  obtain ⟨hme, hM, hbi⟩ := HM.out
                  go_wp2
                  go_roundw
                  case rel => exact ⟨q + 1, by omega, by go_num, up_call hbi (below_regrown wr dq osq), by rw [hme]; exact hM.grows (below_regrown wr dq osq)⟩
                  case measure => simp [intOf]; omega
                · have qi := eq_no0 hxz
                  have HM := Lib.hid (And.intro (mets_h _ _ q x hx hxz) (And.intro hM hbi))
                  clear hx hxz hM hbi x0 x1 x2 x3 z0 z1 z2 z3
                  go_wp2_with fail
                  refine wp_region_quiet_below (by kernel_rfl) (by kernel_rfl) ?_
                  repeat (go_big_quiet_step (first | with_reducible exact HI.out _ _ _ _ _))
                  refine wpQuiet_nil ?_
                  intro _ hw'
                  obtain ⟨⟨dq, osq⟩, hw''⟩ := hw'
                  subst hw''
                  obtain ⟨hme, hM, hbi⟩ := HM.out
                  have hB2 := hM.grows (below_regrown wr dq osq)
                  have hb2 := up_call hbi (below_regrown wr dq osq)
                  have x0 := kx0 dq osq
                  have x1 := kx1 dq osq
                  have x2 := kx2 dq osq
                  have x3 := kx3 dq osq
                  clear kx0 kx1 kx2 kx3 kz0 kz1 kz2 kz3 HM hM hbi qi
                  generalize Go.Sort.grow (redrawn wr dq) osq = W2 at hB2 hb2 x0 x1 x2 x3 ⊢
                  clear dq osq
                  go_wp2_with fail
                  obtain ⟨u0, u1, u2, u3, f0, f1, f2, f3⟩ := hB2.four
                  have hB3 := Lib.hid hB2
                  clear hB2
                  go_still_tail 5, (by kernel_rfl)
                  go_wp2_with (go_at_call 16; refine (union_u _ _ _).mono ?_; rintro e w1 ⟨rfl, hb1⟩; have hB4 := hB3.out.drew.grows hb1; obtain ⟨g0, g1, g2, g3, h0, h1, h2, h3⟩ := hB4.four)
                  go_roundw
                  case rel => exact ⟨q + 1, by omega, by go_num, below_set4 (hb2.drew.trans (hb1.mono hb2.size)) (Nat.le_refl _) _ _ _ _, by rw [hme]; exact hB4.set4 _ _ _ _⟩
                  case measure => simp [intOf]; omega
              · obtain rfl : q = k := by omega
                have hd3 : decide ((q : Int) < (q : Int)) = false := by simp
                rw [HX.out.2.2.2.1] at hM
                obtain ⟨u0, u1, u2, u3, -⟩ := hM.four
                have ku0 := cell_regrown u0
                have ku1 := cell_regrown u1
                have ku2 := cell_regrown u2
                have ku3 := cell_regrown u3
                have qe := eq_yes (Eq.refl z)
                have HM := Lib.hid hbi
                clear hM hbi u0 u1 u2 u3 z0 z1 z2 z3
                go_wp2_with fail
                refine wp_region_quiet_below (by kernel_rfl) (by kernel_rfl) ?_
                repeat (go_big_quiet_step (fail))
                refine wpQuiet_nil ?_
                intro _ hw'
                obtain ⟨⟨dq, osq⟩, hw''⟩ := hw'
                subst hw''
                go_wp2
                go_roundw
                case rel => exact ⟨j + 1, by omega, by go_num, up_call (up_call HX.out.2.2.2.2 HM.out) (below_regrown wr dq osq)⟩
                case measure => simp [intOf]; omega
          · obtain rfl : j = n := by omega
            have hd2 : decide ((j : Int) < (j : Int)) = false := by simp
            obtain ⟨u0, u1, u2, u3, -⟩ := (HA.out.2.grows hbo).four
            have ku0 := cell_regrown u0
            have ku1 := cell_regrown u1
            have ku2 := cell_regrown u2
            have ku3 := cell_regrown u3
            have qe := eq_yes (Eq.refl (rg 0 255))
            have HM := Lib.hid hbo
            clear u0 u1 u2 u3 hbo
            go_wp2_with fail
            refine wp_region_quiet_below (by kernel_rfl) (by kernel_rfl) ?_
            repeat (go_big_quiet_step (first | with_reducible exact HN0.out _ _ _))
            refine wpQuiet_nil ?_
            intro _ hw'
            obtain ⟨⟨dq, osq⟩, hw''⟩ := hw'
            subst hw''
            go_wp2
            go_ret
            exact ⟨rfl, up_call (up_call (up_call HW.out HA.out.1) HM.out) (below_regrown wr dq osq)⟩
end Go.Proofs.YthhlehhienndeaaDoor
