/-
  Texts of the proof, one behind another: Yn.
-/
import Derived.Test.YtkhphiilnplgjaaGreatDoorQca
import Derived.Lib.QuietBelow
import Derived.BigQuiet
set_option linter.unusedSimpArgs false
set_option linter.unusedVariables false
namespace Go.Proofs.YtkhphiilnplgjaaGreatDoor
open Go.RowKit Go.Lib

theorem IsY.empty (w : World) (p : Option Addr) (cap : Nat) (h : p = none → cap = 0) : IsY w (.slice p 0 cap) [] := ⟨Byt.nil, fun _ _ _ e h' => (by cases e; exact h h'), p, cap, rfl, Nat.zero_le _, fun j x hx => by simp at hx⟩
theorem clone_isY (v : Value) (l : List Int) (w : World) (hv : IsY w v l) (hl : l.length ≤ 140737488351232) : Calls Tryz.prog 40 #[v] w fun e w' =>
    ∃ u, e = .returned u ∧ IsY w' u l ∧ Below w.heap.size w w' :=
  (clone_any v l w hv hl).mono fun _ _ ⟨u, he, ho, hb⟩ => ⟨u, he, own_isY hv.byt ho, hb⟩
set_option maxRecDepth 100000 in
set_option maxHeartbeats 4000000 in
theorem trim_any (u : Value) (c : BitVec 256) (b : List Int) (w : World) (hu : IsY w u b) (hb : b.length ≤ 140737488351232) :
    Calls Tryz.prog 19 #[.agg #[.int .u64 (wd c 0), .int .u64 (wd c 1), .int .u64 (wd c 2), .int .u64 (wd c 3)], u] w fun e w' => ∃ f t r, TrimIs (fun z => mem c z.toNat) b f t ∧ e = .returned r ∧ IsY w' r ((b.take t).drop f) ∧ Below w.heap.size w w' := by
  obtain ⟨pb, cb, rfl, c3⟩ := hu.shape
  have hbw1 : Below w.heap.size w (w.alloc (.cells #[.int .u64 (wd c 0), .int .u64 (wd c 1), .int .u64 (wd c 2), .int .u64 (wd c 3)] 27)) := by go_grown
  have D1 := Blk.new w #[.int .u64 (wd c 0), .int .u64 (wd c 1), .int .u64 (wd c 2), .int .u64 (wd c 3)] 27
  have HV := Lib.hid (fun W (hW : Below w.heap.size w W) => hu.grows hW)
  have HY := Lib.hid hu.byt
  have HNl := Lib.hid (hu.nl _ _ _ rfl)
  clear hu
  go_enter Tryz.func19, Tryz.ntmps19
  go_wp2_with fail
  generalize (w.alloc (.cells #[.int .u64 (wd c 0), .int .u64 (wd c 1), .int .u64 (wd c 2), .int .u64 (wd c 3)] 27)) = w1 at D1 hbw1 ⊢
  go_loopw [5] (fun iv wr => ∃ i : Nat, i ≤ b.length ∧ iv = .int .i64 (i : Int) ∧ (∀ j, j < i → ∀ x, b[j]? = some x → mem c x.toNat = true) ∧ Blk wr w.heap.size #[.int .u64 (wd c 0), .int .u64 (wd c 1), .int .u64 (wd c 2), .int .u64 (wd c 3)] 27 ∧ Below w.heap.size w wr) (fun iv _ => b.length - (RowKit.intOf iv).toNat)
  case atStart => exact ⟨0, Nat.zero_le _, rfl, fun j hj => by omega, D1, hbw1⟩
  case round =>
    clear D1 hbw1
    obtain ⟨i, hil, rfl, hinv, C, hbw⟩ := hrel
    have HN := Lib.hid hinv
    have HC := Lib.hid C
    obtain ⟨a0, a1, a2, a3, -⟩ := C.four
    have k0 := cell_regrown a0
    have k1 := cell_regrown a1
    have k2 := cell_regrown a2
    have k3 := cell_regrown a3
    clear hinv C a0 a1 a2 a3
    have go : ∀ (wr : World), Blk wr w.heap.size #[.int .u64 (wd c 0), .int .u64 (wd c 1), .int .u64 (wd c 2), .int .u64 (wd c 3)] 27 → Below w.heap.size w wr → (∀ x, b[i]? = some x → mem c x.toNat = false) → True := fun _ _ _ _ => trivial
    clear go
    by_cases hlt : i < b.length
    · obtain ⟨x, hx⟩ := get_of_lt hlt
      obtain ⟨bb, oo, rfl, cx⟩ := (HV.out wr hbw).at hx
      have hx8 := HY.out.at hx
      have HX := Lib.hid hx
      have kx := cell_regrown cx
      clear hx cx
      have hd : decide ((i : Int) < (b.length : Int)) = true := by rw [decide_eq_true_iff]; omega
      have HH := Lib.hid (fun d os => Calls.regrown_of (has_any c x (Go.Sort.grow (redrawn wr d) os) hx8.1 hx8.2))
      cases hm : mem c x.toNat
      · rw [hm] at HH
        have HM := Lib.hid (show ∀ y, b[i]? = some y → mem c y.toNat = false from fun y hy => by
          rw [HX.out] at hy; cases hy; exact hm)
        clear hm
        go_wp2_with fail
        refine wp_region_quiet_below (by kernel_rfl) (by kernel_rfl) ?_
        repeat (go_big_quiet_step (first | with_reducible exact HH.out _ _))
        refine wpQuiet_nil ?_
        intro _ hw'
        obtain ⟨⟨dq, osq⟩, hw''⟩ := hw'
        subst hw''
        have HCq := Lib.hid (HC.out.grows (below_regrown wr dq osq))
        have HBq := Lib.hid (below_two hbw (below_regrown wr dq osq))
        clear kx k0 k1 k2 k3 HH hbw
        generalize Go.Sort.grow (redrawn wr dq) osq = w4 at HCq HBq ⊢
        clear dq osq
        clear HC
        go_wp2_with fail
        go_loopw [6] (fun tv wr => ∃ t : Nat, i ≤ t ∧ t ≤ b.length ∧ tv = .int .i64 (t : Int) ∧ (∀ j, t ≤ j → ∀ x, b[j]? = some x → mem c x.toNat = true) ∧ Blk wr w.heap.size #[.int .u64 (wd c 0), .int .u64 (wd c 1), .int .u64 (wd c 2), .int .u64 (wd c 3)] 27 ∧ Below w.heap.size w wr) (fun tv _ => (RowKit.intOf tv).toNat)
        case atStart => exact ⟨b.length, by omega, Nat.le_refl _, rfl, fun j hj y hy => (by rw [List.getElem?_eq_none hj] at hy; cases hy), HCq.out, HBq.out⟩
        case round =>
          clear HCq HBq
          obtain ⟨t, hit, htl, rfl, hinv, C, hbw⟩ := hrel
          have HT := Lib.hid hinv
          have HC := Lib.hid C
          obtain ⟨a0, a1, a2, a3, -⟩ := C.four
          have k0 := cell_regrown a0
          have k1 := cell_regrown a1
          have k2 := cell_regrown a2
          have k3 := cell_regrown a3
          clear hinv C a0 a1 a2 a3
          by_cases hft : i < t
          · obtain ⟨z, hz⟩ := get_of_lt (l := b) (k := t - 1) (by omega)
            have hz8 := HY.out.at hz
            obtain ⟨b2, o2, e2, cz⟩ := (HV.out wr hbw).at hz
            simp only [Option.some.injEq, Addr.mk.injEq, and_true] at e2
            obtain ⟨rfl, rfl⟩ := e2
            have HZ := Lib.hid hz
            have kx := cell_regrown cz
            clear hz cz
            have hd2 : decide ((i : Int) < (t : Int)) = true := by rw [decide_eq_true_iff]; omega
            have t1 : (0 : Int) ≤ (t : Int) - 1 := by omega
            have t2 : (t : Int) - 1 < (b.length : Int) := by omega
            have t3 : ((t : Int) - 1).toNat = t - 1 := by omega
            have HH := Lib.hid (fun d os => Calls.regrown_of (has_any c z (Go.Sort.grow (redrawn wr d) os) hz8.1 hz8.2))
            cases hm : mem c z.toNat
            · rw [hm] at HH
              have HMz := Lib.hid (show ∀ y, b[t - 1]? = some y → mem c y.toNat = false from fun y hy => by
                rw [HZ.out] at hy; cases hy; exact hm)
              clear hm
              go_wp2_with fail
              refine wp_region_quiet_below (by kernel_rfl) (by kernel_rfl) ?_
              repeat (go_big_quiet_step (first | with_reducible exact HH.out _ _))
              refine wpQuiet_nil ?_
              intro _ hw'
              obtain ⟨⟨dq, osq⟩, hw''⟩ := hw'
              subst hw''
              have HCq := Lib.hid (HC.out.grows (below_regrown wr dq osq))
              have HBq := Lib.hid (below_two hbw (below_regrown wr dq osq))
              clear kx k0 k1 k2 k3 HH hbw
              generalize Go.Sort.grow (redrawn wr dq) osq = w4 at HCq HBq ⊢
              clear dq osq
              clear t1 t2 t3
              have HTI := Lib.hid (show TrimIs (fun z => mem c z.toNat) b (i) (t) from ⟨by omega, by omega, HN.out, HM.out, HT.out, fun _ => HMz.out⟩)
              have HI := Lib.hid ((HV.out w4 HBq.out).mid (i) (t) (by omega) (by omega))
              go_wp2_with fail
              refine (clone_isY _ ((b.take (t)).drop (i)) w4 (by have h := HI.out; unfold tailA at h; simp only [Option.map_some, addr_add] at h; rw [if_neg (by omega)] at h; exact h) (by rw [List.length_drop, List.length_take]; omega)).mono ?_
              rintro e w5 ⟨r, rfl, hY5, hb5⟩
              have HF := Lib.hid (And.intro hY5 (below_two HBq.out hb5))
              clear hY5 hb5
              go_wp2
              go_ret
              exact ⟨_, _, _, HTI.out, rfl, HF.out.1, HF.out.2⟩
            · rw [hm] at HH
              have HMz := Lib.hid hm
              clear hm
              go_wp2_with fail
              refine wp_region_quiet_below (by kernel_rfl) (by kernel_rfl) ?_
              repeat (go_big_quiet_step (first | with_reducible exact HH.out _ _))
              refine wpQuiet_nil ?_
              intro _ hw'
              obtain ⟨⟨dq, osq⟩, hw''⟩ := hw'
              subst hw''
              have HCq := Lib.hid (HC.out.grows (below_regrown wr dq osq))
              have HBq := Lib.hid (below_two hbw (below_regrown wr dq osq))
              clear kx k0 k1 k2 k3 HH hbw
              generalize Go.Sort.grow (redrawn wr dq) osq = w4 at HCq HBq ⊢
              clear dq osq
              clear t3
              go_wp2
              go_roundw
              case rel => exact ⟨t - 1, by omega, by omega, by go_num, fun j hj y hy => by
                rcases Nat.lt_or_ge j t with h | h
                · obtain rfl : j = t - 1 := by omega
                  rw [HZ.out] at hy; cases hy; exact HMz.out
                · exact HT.out j h y hy, HCq.out, HBq.out⟩
              case measure => simp [RowKit.intOf]; omega
          · obtain rfl : t = i := by omega
            go_wp2_with fail
            clear k0 k1 k2 k3
            go_quiet (fail)
            rename_i nq
            have HBq := Lib.hid (below_drews hbw nq)
            clear hbw
            generalize wr.drewN nq = w4 at HBq ⊢
            have HTI := Lib.hid (show TrimIs (fun z => mem c z.toNat) b (t) (t) from ⟨by omega, by omega, HN.out, HM.out, HT.out, fun h => by omega⟩)
            go_wp2_with fail
            all_goals
              refine (clone_isY _ [] w4 (IsY.empty _ _ _ (fun h => by first | (cases h; done) | (have := HNl.out (by simpa using h); omega))) (by simp)).mono ?_
              rintro e w5 ⟨r, rfl, hY5, hb5⟩
              have HF := Lib.hid (And.intro hY5 (below_two HBq.out hb5))
              clear hY5 hb5
              go_wp2
              go_ret
              exact ⟨_, _, _, HTI.out, rfl, (by rw [show (b.take (t)).drop (t) = [] from List.drop_eq_nil_of_le (by rw [List.length_take]; omega)]; exact HF.out.1), HF.out.2⟩
      · rw [hm] at HH
        have HM := Lib.hid hm
        clear hm
        go_wp2_with fail
        refine wp_region_quiet_below (by kernel_rfl) (by kernel_rfl) ?_
        repeat (go_big_quiet_step (first | with_reducible exact HH.out _ _))
        refine wpQuiet_nil ?_
        intro _ hw'
        obtain ⟨⟨dq, osq⟩, hw''⟩ := hw'
        subst hw''
        have HCq := Lib.hid (HC.out.grows (below_regrown wr dq osq))
        have HBq := Lib.hid (below_two hbw (below_regrown wr dq osq))
        clear kx k0 k1 k2 k3 HH hbw
        generalize Go.Sort.grow (redrawn wr dq) osq = w4 at HCq HBq ⊢
        clear dq osq
        go_wp2
        go_roundw
        case rel => exact ⟨i + 1, by omega, by go_num, fun j hj y hy => by
          rcases Nat.lt_or_ge j i with h | h
          · exact HN.out j h y hy
          · obtain rfl : j = i := by omega
            rw [HX.out] at hy; cases hy; exact HM.out, HCq.out, HBq.out⟩
        case measure => simp [RowKit.intOf]; omega
    · obtain rfl : i = b.length := by omega
      have HM := Lib.hid (show ∀ y, b[b.length]? = some y → mem c y.toNat = false from fun y hy => by
        rw [List.getElem?_eq_none (Nat.le_refl _)] at hy; cases hy)
      go_wp2_with fail
      clear k0 k1 k2 k3
      go_quiet (fail)
      rename_i nq
      have HCq := Lib.hid (HC.out.grows (below_drews (Below.refl _ wr) nq))
      have HBq := Lib.hid (below_drews hbw nq)
      clear hbw
      generalize wr.drewN nq = w4 at HCq HBq ⊢
      clear HC
      go_wp2_with fail
      go_loopw [6] (fun tv wr => ∃ t : Nat, b.length ≤ t ∧ t ≤ b.length ∧ tv = .int .i64 (t : Int) ∧ (∀ j, t ≤ j → ∀ x, b[j]? = some x → mem c x.toNat = true) ∧ Blk wr w.heap.size #[.int .u64 (wd c 0), .int .u64 (wd c 1), .int .u64 (wd c 2), .int .u64 (wd c 3)] 27 ∧ Below w.heap.size w wr) (fun tv _ => (RowKit.intOf tv).toNat)
      case atStart => exact ⟨b.length, by omega, Nat.le_refl _, rfl, fun j hj y hy => (by rw [List.getElem?_eq_none hj] at hy; cases hy), HCq.out, HBq.out⟩
      case round =>
        clear HCq HBq
        obtain ⟨t, hit, htl, rfl, hinv, C, hbw⟩ := hrel
        have HT := Lib.hid hinv
        have HC := Lib.hid C
        obtain ⟨a0, a1, a2, a3, -⟩ := C.four
        have k0 := cell_regrown a0
        have k1 := cell_regrown a1
        have k2 := cell_regrown a2
        have k3 := cell_regrown a3
        clear hinv C a0 a1 a2 a3
        by_cases hft : b.length < t
        · exfalso; omega
        · obtain rfl : t = b.length := by omega
          go_wp2_with fail
          clear k0 k1 k2 k3
          go_quiet (fail)
          rename_i nq
          have HBq := Lib.hid (below_drews hbw nq)
          clear hbw
          generalize wr.drewN nq = w4 at HBq ⊢
          have HTI := Lib.hid (show TrimIs (fun z => mem c z.toNat) b (b.length) (b.length) from ⟨by omega, by omega, HN.out, HM.out, HT.out, fun h => by omega⟩)
          go_wp2_with fail
          all_goals
            refine (clone_isY _ [] w4 (IsY.empty _ _ _ (fun h => by first | (cases h; done) | (have := HNl.out (by simpa using h); omega))) (by simp)).mono ?_
            rintro e w5 ⟨r, rfl, hY5, hb5⟩
            have HF := Lib.hid (And.intro hY5 (below_two HBq.out hb5))
            clear hY5 hb5
            go_wp2
            go_ret
            exact ⟨_, _, _, HTI.out, rfl, (by rw [show (b.take (b.length)).drop (b.length) = [] from List.drop_eq_nil_of_le (by rw [List.length_take]; omega)]; exact HF.out.1), HF.out.2⟩
set_option maxRecDepth 100000 in
set_option maxHeartbeats 4000000 in
theorem rtrim_any (u : Value) (c : BitVec 256) (b : List Int) (w : World) (hu : IsY w u b) (hb : b.length ≤ 140737488351232) :
    Calls Tryz.prog 20 #[.agg #[.int .u64 (wd c 0), .int .u64 (wd c 1), .int .u64 (wd c 2), .int .u64 (wd c 3)], u] w fun e w' => ∃ f t r, TrimIs (fun z => mem c z.toNat) b f t ∧ e = .returned r ∧ IsY w' r ((b.take t).drop f) ∧ Below w.heap.size w w' := by
  obtain ⟨pb, cb, rfl, c3⟩ := hu.shape
  have hbw1 : Below w.heap.size w (w.alloc (.cells #[.int .u64 (wd c 0), .int .u64 (wd c 1), .int .u64 (wd c 2), .int .u64 (wd c 3)] 27)) := by go_grown
  have D1 := Blk.new w #[.int .u64 (wd c 0), .int .u64 (wd c 1), .int .u64 (wd c 2), .int .u64 (wd c 3)] 27
  have HV := Lib.hid (fun W (hW : Below w.heap.size w W) => hu.grows hW)
  have HY := Lib.hid hu.byt
  have HNl := Lib.hid (hu.nl _ _ _ rfl)
  clear hu
  go_enter Tryz.func20, Tryz.ntmps20
  go_wp2_with fail
  generalize (w.alloc (.cells #[.int .u64 (wd c 0), .int .u64 (wd c 1), .int .u64 (wd c 2), .int .u64 (wd c 3)] 27)) = w1 at D1 hbw1 ⊢
  go_loopw [5] (fun iv wr => ∃ i : Nat, i ≤ b.length ∧ iv = .int .i64 (i : Int) ∧ (∀ j, j < i → ∀ x, b[j]? = some x → mem c x.toNat = true) ∧ Blk wr w.heap.size #[.int .u64 (wd c 0), .int .u64 (wd c 1), .int .u64 (wd c 2), .int .u64 (wd c 3)] 27 ∧ Below w.heap.size w wr) (fun iv _ => b.length - (RowKit.intOf iv).toNat)
  case atStart => exact ⟨0, Nat.zero_le _, rfl, fun j hj => by omega, D1, hbw1⟩
  case round =>
    clear D1 hbw1
    obtain ⟨i, hil, rfl, hinv, C, hbw⟩ := hrel
    have HN := Lib.hid hinv
    have HC := Lib.hid C
    obtain ⟨a0, a1, a2, a3, -⟩ := C.four
    have k0 := cell_regrown a0
    have k1 := cell_regrown a1
    have k2 := cell_regrown a2
    have k3 := cell_regrown a3
    clear hinv C a0 a1 a2 a3
    have go : ∀ (wr : World), Blk wr w.heap.size #[.int .u64 (wd c 0), .int .u64 (wd c 1), .int .u64 (wd c 2), .int .u64 (wd c 3)] 27 → Below w.heap.size w wr → (∀ x, b[i]? = some x → mem c x.toNat = false) → True := fun _ _ _ _ => trivial
    clear go
    by_cases hlt : i < b.length
    · obtain ⟨x, hx⟩ := get_of_lt hlt
      obtain ⟨bb, oo, rfl, cx⟩ := (HV.out wr hbw).at hx
      have hx8 := HY.out.at hx
      have HX := Lib.hid hx
      have kx := cell_regrown cx
      clear hx cx
      have hd : decide ((i : Int) < (b.length : Int)) = true := by rw [decide_eq_true_iff]; omega
      have HH := Lib.hid (fun d os => Calls.regrown_of (rhas8_any c x (Go.Sort.grow (redrawn wr d) os) hx8.1 hx8.2))
      cases hm : mem c x.toNat
      · rw [hm] at HH
        have HM := Lib.hid (show ∀ y, b[i]? = some y → mem c y.toNat = false from fun y hy => by
          rw [HX.out] at hy; cases hy; exact hm)
        clear hm
        go_wp2_with fail
        refine wp_region_quiet_below (by kernel_rfl) (by kernel_rfl) ?_
        repeat (go_big_quiet_step (first | with_reducible exact HH.out _ _))
        refine wpQuiet_nil ?_
        intro _ hw'
        obtain ⟨⟨dq, osq⟩, hw''⟩ := hw'
        subst hw''
        have HCq := Lib.hid (HC.out.grows (below_regrown wr dq osq))
        have HBq := Lib.hid (below_two hbw (below_regrown wr dq osq))
        clear kx k0 k1 k2 k3 HH hbw
        generalize Go.Sort.grow (redrawn wr dq) osq = w4 at HCq HBq ⊢
        clear dq osq
        clear HC
        go_wp2_with fail
        go_loopw [6] (fun tv wr => ∃ t : Nat, i ≤ t ∧ t ≤ b.length ∧ tv = .int .i64 (t : Int) ∧ (∀ j, t ≤ j → ∀ x, b[j]? = some x → mem c x.toNat = true) ∧ Blk wr w.heap.size #[.int .u64 (wd c 0), .int .u64 (wd c 1), .int .u64 (wd c 2), .int .u64 (wd c 3)] 27 ∧ Below w.heap.size w wr) (fun tv _ => (RowKit.intOf tv).toNat)
        case atStart => exact ⟨b.length, by omega, Nat.le_refl _, rfl, fun j hj y hy => (by rw [List.getElem?_eq_none hj] at hy; cases hy), HCq.out, HBq.out⟩
        case round =>
          clear HCq HBq
          obtain ⟨t, hit, htl, rfl, hinv, C, hbw⟩ := hrel
          have HT := Lib.hid hinv
          have HC := Lib.hid C
          obtain ⟨a0, a1, a2, a3, -⟩ := C.four
          have k0 := cell_regrown a0
          have k1 := cell_regrown a1
          have k2 := cell_regrown a2
          have k3 := cell_regrown a3
          clear hinv C a0 a1 a2 a3
          by_cases hft : i < t
          · obtain ⟨z, hz⟩ := get_of_lt (l := b) (k := t - 1) (by omega)
            have hz8 := HY.out.at hz
            obtain ⟨b2, o2, e2, cz⟩ := (HV.out wr hbw).at hz
            simp only [Option.some.injEq, Addr.mk.injEq, and_true] at e2
            obtain ⟨rfl, rfl⟩ := e2
            have HZ := Lib.hid hz
            have kx := cell_regrown cz
            clear hz cz
            have hd2 : decide ((i : Int) < (t : Int)) = true := by rw [decide_eq_true_iff]; omega
            have t1 : (0 : Int) ≤ (t : Int) - 1 := by omega
            have t2 : (t : Int) - 1 < (b.length : Int) := by omega
            have t3 : ((t : Int) - 1).toNat = t - 1 := by omega
            have HH := Lib.hid (fun d os => Calls.regrown_of (rhas8_any c z (Go.Sort.grow (redrawn wr d) os) hz8.1 hz8.2))
            cases hm : mem c z.toNat
            · rw [hm] at HH
              have HMz := Lib.hid (show ∀ y, b[t - 1]? = some y → mem c y.toNat = false from fun y hy => by
                rw [HZ.out] at hy; cases hy; exact hm)
              clear hm
              go_wp2_with fail
              refine wp_region_quiet_below (by kernel_rfl) (by kernel_rfl) ?_
              repeat (go_big_quiet_step (first | with_reducible exact HH.out _ _))
              refine wpQuiet_nil ?_
              intro _ hw'
              obtain ⟨⟨dq, osq⟩, hw''⟩ := hw'
              subst hw''
              have HCq := Lib.hid (HC.out.grows (below_regrown wr dq osq))
              have HBq := Lib.hid (below_two hbw (below_regrown wr dq osq))
              clear kx k0 k1 k2 k3 HH hbw
              generalize Go.Sort.grow (redrawn wr dq) osq = w4 at HCq HBq ⊢
              clear dq osq
              clear t1 t2 t3
              have HTI := Lib.hid (show TrimIs (fun z => mem c z.toNat) b (i) (t) from ⟨by omega, by omega, HN.out, HM.out, HT.out, fun _ => HMz.out⟩)
              have HI := Lib.hid ((HV.out w4 HBq.out).mid (i) (t) (by omega) (by omega))
              go_wp2_with fail
              refine (copy_any _ ((b.take (t)).drop (i)) w4 (by have h := HI.out; unfold tailA at h; simp only [Option.map_some, addr_add] at h; rw [if_neg (by omega)] at h; exact h) (by rw [List.length_drop, List.length_take]; omega)).mono ?_
              rintro e w5 ⟨r, rfl, hY5, hb5⟩
              have HF := Lib.hid (And.intro hY5 (below_two HBq.out hb5))
              clear hY5 hb5
              go_wp2
              go_ret
              exact ⟨_, _, _, HTI.out, rfl, HF.out.1, HF.out.2⟩
            · rw [hm] at HH
              have HMz := Lib.hid hm
              clear hm
              go_wp2_with fail
              refine wp_region_quiet_below (by kernel_rfl) (by kernel_rfl) ?_
              repeat (go_big_quiet_step (first | with_reducible exact HH.out _ _))
              refine wpQuiet_nil ?_
              intro _ hw'
              obtain ⟨⟨dq, osq⟩, hw''⟩ := hw'
              subst hw''
              have HCq := Lib.hid (HC.out.grows (below_regrown wr dq osq))
              have HBq := Lib.hid (below_two hbw (below_regrown wr dq osq))
              clear kx k0 k1 k2 k3 HH hbw
              generalize Go.Sort.grow (redrawn wr dq) osq = w4 at HCq HBq ⊢
              clear dq osq
              clear t3
              go_wp2
              go_roundw
              case rel => exact ⟨t - 1, by omega, by omega, by go_num, fun j hj y hy => by
                rcases Nat.lt_or_ge j t with h | h
                · obtain rfl : j = t - 1 := by omega
                  rw [HZ.out] at hy; cases hy; exact HMz.out
                · exact HT.out j h y hy, HCq.out, HBq.out⟩
              case measure => simp [RowKit.intOf]; omega
          · obtain rfl : t = i := by omega
            go_wp2_with fail
            clear k0 k1 k2 k3
            go_quiet (fail)
            rename_i nq
            have HBq := Lib.hid (below_drews hbw nq)
            clear hbw
            generalize wr.drewN nq = w4 at HBq ⊢
            have HTI := Lib.hid (show TrimIs (fun z => mem c z.toNat) b (t) (t) from ⟨by omega, by omega, HN.out, HM.out, HT.out, fun h => by omega⟩)
            go_wp2_with fail
            all_goals
              refine (copy_any _ [] w4 (IsY.empty _ _ _ (fun h => by first | (cases h; done) | (have := HNl.out (by simpa using h); omega))) (by simp)).mono ?_
              rintro e w5 ⟨r, rfl, hY5, hb5⟩
              have HF := Lib.hid (And.intro hY5 (below_two HBq.out hb5))
              clear hY5 hb5
              go_wp2
              go_ret
              exact ⟨_, _, _, HTI.out, rfl, (by rw [show (b.take (t)).drop (t) = [] from List.drop_eq_nil_of_le (by rw [List.length_take]; omega)]; exact HF.out.1), HF.out.2⟩
      · rw [hm] at HH
        have HM := Lib.hid hm
        clear hm
        go_wp2_with fail
        refine wp_region_quiet_below (by kernel_rfl) (by kernel_rfl) ?_
        repeat (go_big_quiet_step (first | with_reducible exact HH.out _ _))
        refine wpQuiet_nil ?_
        intro _ hw'
        obtain ⟨⟨dq, osq⟩, hw''⟩ := hw'
        subst hw''
        have HCq := Lib.hid (HC.out.grows (below_regrown wr dq osq))
        have HBq := Lib.hid (below_two hbw (below_regrown wr dq osq))
        clear kx k0 k1 k2 k3 HH hbw
        generalize Go.Sort.grow (redrawn wr dq) osq = w4 at HCq HBq ⊢
        clear dq osq
        go_wp2
        go_roundw
        case rel => exact ⟨i + 1, by omega, by go_num, fun j hj y hy => by
          rcases Nat.lt_or_ge j i with h | h
          · exact HN.out j h y hy
          · obtain rfl : j = i := by omega
            rw [HX.out] at hy; cases hy; exact HM.out, HCq.out, HBq.out⟩
        case measure => simp [RowKit.intOf]; omega
    · obtain rfl : i = b.length := by omega
      have HM := Lib.hid (show ∀ y, b[b.length]? = some y → mem c y.toNat = false from fun y hy => by
        rw [List.getElem?_eq_none (Nat.le_refl _)] at hy; cases hy)
      go_wp2_with fail
      clear k0 k1 k2 k3
      go_quiet (fail)
      rename_i nq
      have HCq := Lib.hid (HC.out.grows (below_drews (Below.refl _ wr) nq))
      have HBq := Lib.hid (below_drews hbw nq)
      clear hbw
      generalize wr.drewN nq = w4 at HCq HBq ⊢
      clear HC
      go_wp2_with fail
      go_loopw [6] (fun tv wr => ∃ t : Nat, b.length ≤ t ∧ t ≤ b.length ∧ tv = .int .i64 (t : Int) ∧ (∀ j, t ≤ j → ∀ x, b[j]? = some x → mem c x.toNat = true) ∧ Blk wr w.heap.size #[.int .u64 (wd c 0), .int .u64 (wd c 1), .int .u64 (wd c 2), .int .u64 (wd c 3)] 27 ∧ Below w.heap.size w wr) (fun tv _ => (RowKit.intOf tv).toNat)
      case atStart => exact ⟨b.length, by omega, Nat.le_refl _, rfl, fun j hj y hy => (by rw [List.getElem?_eq_none hj] at hy; cases hy), HCq.out, HBq.out⟩
      case round =>
        clear HCq HBq
        obtain ⟨t, hit, htl, rfl, hinv, C, hbw⟩ := hrel
        have HT := Lib.hid hinv
        have HC := Lib.hid C
        obtain ⟨a0, a1, a2, a3, -⟩ := C.four
        have k0 := cell_regrown a0
        have k1 := cell_regrown a1
        have k2 := cell_regrown a2
        have k3 := cell_regrown a3
        clear hinv C a0 a1 a2 a3
        by_cases hft : b.length < t
        · exfalso; omega
        · obtain rfl : t = b.length := by omega
          go_wp2_with fail
          clear k0 k1 k2 k3
          go_quiet (fail)
          rename_i nq
          have HBq := Lib.hid (below_drews hbw nq)
          clear hbw
          generalize wr.drewN nq = w4 at HBq ⊢
          have HTI := Lib.hid (show TrimIs (fun z => mem c z.toNat) b (b.length) (b.length) from ⟨by omega, by omega, HN.out, HM.out, HT.out, fun h => by omega⟩)
          go_wp2_with fail
          all_goals
            refine (copy_any _ [] w4 (IsY.empty _ _ _ (fun h => by first | (cases h; done) | (have := HNl.out (by simpa using h); omega))) (by simp)).mono ?_
            rintro e w5 ⟨r, rfl, hY5, hb5⟩
            have HF := Lib.hid (And.intro hY5 (below_two HBq.out hb5))
            clear hY5 hb5
            go_wp2
            go_ret
            exact ⟨_, _, _, HTI.out, rfl, (by rw [show (b.take (b.length)).drop (b.length) = [] from List.drop_eq_nil_of_le (by rw [List.length_take]; omega)]; exact HF.out.1), HF.out.2⟩
end Go.Proofs.YtkhphiilnplgjaaGreatDoor
