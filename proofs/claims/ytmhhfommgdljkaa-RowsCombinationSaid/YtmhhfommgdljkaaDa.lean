/-
  Walk: the law RowsDecides.
-/
import Derived.Test.YtmhhfommgdljkaaPx
set_option linter.unusedSimpArgs false
set_option linter.unusedVariables false
namespace Go.Proofs.Ytmhhfommgdljkaa
open Go.RowKit Go.Lib

theorem check_len {s : Sy} {N : List Sp} (h : checkB s N = true) : N.length ≤ 65536 := by
  unfold checkB shapedB at h
  simp only [Bool.and_eq_true, decide_eq_true_iff] at h
  exact h.2.1.1.2
set_option maxRecDepth 100000 in
set_option maxHeartbeats 4000000 in
theorem decides_walk (v : Value) (s : Sy) (w : World) (hs : IsS w v s) :
    Calls Try.prog 3 #[v] w fun e w' => e = .returned (.bool true) ∧ Below w.heap.size w w' := by
  obtain ⟨tp, tc, rp, rc, rfl, htc, hrc, -, -⟩ := hs.shape
  have HS := Lib.hid (fun W (hW : Below w.heap.size w W) => hs.grows hW)
  clear hs
  go_enter Try.func3, Try.ntmps3
  go_upto_region 1 with fail
  have hb1 : Below w.heap.size w (w.alloc (.cells #[.slice tp s.T.length tc, .slice rp s.R.length rc] 25)) := by go_grown
  have B1 := Blk.new w #[.slice tp s.T.length tc, .slice rp s.R.length rc] 25
  generalize w.alloc (.cells #[.slice tp s.T.length tc, .slice rp s.R.length rc] 25) = w1 at hb1 B1 ⊢
  go_wp2_with fail
  refine (sanity_any w1).mono ?_
  rintro e w2 ⟨rfl, hb2⟩
  have HB2 := Lib.hid (below_two hb1 hb2)
  have c0 := (B1.grows hb2).cell 0 rfl
  have c1 := (B1.grows hb2).cell 1 rfl
  clear hb1 hb2 B1
  go_wp2_with fail
  refine (made_any _ s w2 (HS.out w2 HB2.out)).mono ?_
  rintro e w3 ⟨u, m, rfl, hm, hsm, hb3⟩
  obtain ⟨mp, mc, np, nc, rfl, hmc, hnc, hmT, hmR⟩ := hm.shape
  have HM := Lib.hid hm
  have HSm := Lib.hid hsm
  have HB3 := Lib.hid (below_two HB2.out hb3)
  clear hm hsm hb3 c0 c1 hmT hmR
  go_upto_region 3 with fail
  have hb4 : Below w3.heap.size w3 (w3.alloc (.cells #[.slice mp m.T.length mc, .slice np m.R.length nc] 25)) := by go_grown
  have B4 := Blk.new w3 #[.slice mp m.T.length mc, .slice np m.R.length nc] 25
  obtain ⟨q, hq⟩ : ∃ q, w3.heap.size = q := ⟨_, rfl⟩
  have HM4 := Lib.hid (HM.out.grows hb4)
  have HB4 := Lib.hid (below_two HB3.out hb4)
  clear hb4 HM HB3
  generalize w3.alloc (.cells #[.slice mp m.T.length mc, .slice np m.R.length nc] 25) = w4 at B4 HM4 HB4 ⊢
  rw [hq] at B4
  simp only [hq]
  clear hq
  have c0 := B4.cell 0 rfl
  have c1 := B4.cell 1 rfl
  have HB := Lib.hid B4
  clear B4
  go_wp2_with fail
  refine (solve_any _ m w4 HM4.out HSm.out.valid HSm.out.small).mono ?_
  rintro e w5 ⟨hb5, ⟨x, vx, hL, rfl, hx⟩ | ⟨hN, vp, N, rfl, hP, hC⟩⟩
  · obtain ⟨xp, xc, rfl, hxc⟩ := hx.shape
    have HX := Lib.hid hx
    have HL := Lib.hid hL
    have hcd := cand_iff.1 hL.inb
    have HC := Lib.hid hcd
    have HB5 := Lib.hid (HB.out.grows hb5)
    have HM5 := Lib.hid (HM4.out.grows hb5)
    have HW5 := Lib.hid (below_two HB4.out hb5)
    have c0 := HB5.out.cell 0 rfl
    have c1 := HB5.out.cell 1 rfl
    clear hx hL hb5 HM4 HB4 HB
    go_wp2_with fail
    refine (valid_any _ m w5 HM5.out (mod_of HSm.out.valid)).mono ?_
    rintro e w6 ⟨rfl, hb6⟩
    rw [HSm.out.valid]
    have HB6 := Lib.hid (HB5.out.grows hb6)
    have HM6 := Lib.hid (HM5.out.grows hb6)
    have HX6 := Lib.hid (HX.out.grows hb6)
    have HW6 := Lib.hid (below_two HW5.out hb6)
    clear c0 c1 hb6 HB5 HM5 HX HW5
    have c0 := HB6.out.cell 0 rfl
    have c1 := HB6.out.cell 1 rfl
    obtain ⟨n, hn⟩ : ∃ n, m.T.length = n := ⟨_, rfl⟩
    have hxl : x.length = n := by rw [hcd.1]; exact hn
    rw [hxl] at hxc HX6 ⊢
    rw [hn] at hmc c0 HB6 ⊢
    have HN := Lib.hid (And.intro hn hxl)
    clear hn hxl hcd
    have hn4 : n ≤ 4 := by have := HSm.out.len; have := HN.out.1; omega
    have hr6 : m.R.length ≤ 6 := HSm.out.rows
    go_wp2
    go_loopw [9] (fun iv wr => ∃ i : Nat, i ≤ n ∧ iv = .int .i64 i ∧ Below w6.heap.size w6 wr) (fun iv _ => n - (RowKit.intOf iv).toNat)
    case atStart => exact ⟨0, Nat.zero_le _, rfl, Below.refl _ _⟩
    case round =>
      obtain ⟨i, hi, rfl, hbr⟩ := hrel
      have HWr := Lib.hid hbr
      have HBr := Lib.hid (HB6.out.grows hbr)
      have d0 := HBr.out.cell 0 rfl
      have d1 := HBr.out.cell 1 rfl
      clear c0 c1 hbr
      by_cases hlt : i < n
      · obtain ⟨a, ha⟩ := get_of_lt (show i < x.length by rw [HN.out.2]; exact hlt)
        obtain ⟨t, ht⟩ := get_of_lt (show i < m.T.length by rw [HN.out.1]; exact hlt)
        have h3 := HC.out.2 i t a ht ha
        obtain ⟨b1, o1, rfl, x1⟩ := (show IsI wr (.slice xp x.length xc) x by rw [HN.out.2]; exact HX6.out.grows HWr.out).at ha
        obtain ⟨tv, nv, he, hT6, -⟩ := HM6.out.grows HWr.out
        simp only [Value.agg.injEq, Array.mk.injEq, List.cons.injEq, and_true] at he
        obtain ⟨rfl, rfl⟩ := he
        obtain ⟨b2, o2, rfl, x2⟩ := hT6.at ht
        have e1 : decide (a < 0) = false := by rw [decide_eq_false_iff_not]; omega
        have e2 : decide (t < a) = false := by rw [decide_eq_false_iff_not]; omega
        have e3 : ¬ a < 0 := by omega
        have e4 : ¬ t < a := by omega
        clear ha ht h3 hT6
        go_wp2_with fail
        go_quiet (fail)
        all_goals
          go_wp2
          go_roundw
          case rel => exact ⟨i + 1, by omega, by go_num, below_drews HWr.out _⟩
          case measure => simp [RowKit.intOf]; omega
      · obtain rfl : i = n := by omega
        go_wp2
        go_loopw [10] (fun kv wx => ∃ k : Nat, k ≤ m.R.length ∧ kv = .int .i64 k ∧ Below w6.heap.size w6 wx) (fun kv _ => m.R.length - (RowKit.intOf kv).toNat)
        case atStart => exact ⟨0, Nat.zero_le _, rfl, HWr.out⟩
        case round =>
          obtain ⟨k, hk, rfl, hbx⟩ := hrel
          have HWx := Lib.hid hbx
          have HBx := Lib.hid (HB6.out.grows hbx)
          have f0 := HBx.out.cell 0 rfl
          have f1 := HBx.out.cell 1 rfl
          clear d0 d1 hbx
          by_cases hkl : k < m.R.length
          · obtain ⟨r, hr⟩ := get_of_lt hkl
            obtain ⟨tv, nv, he, -, hR6⟩ := HM6.out.grows HWx.out
            simp only [Value.agg.injEq, Array.mk.injEq, List.cons.injEq, and_true] at he
            obtain ⟨rfl, rfl⟩ := he
            obtain ⟨b3, o3, us, rfl, y0, y1, hIr⟩ := hR6.at hr
            obtain ⟨ps, cs, rfl, -⟩ := hIr.shape
            have hrow := HSm.out.row r (List.mem_of_getElem? hr)
            have hv : holdsB r x = true := by
              rw [holds_small hrow.1 hrow.2 HSm.out.len HSm.out.top HC.out, decide_eq_true_iff]
              exact HL.out.sol r (List.mem_of_getElem? hr)
            have HV := Lib.hid hv
            have HI := Lib.hid hIr
            have HXx := Lib.hid (HX6.out.grows HWx.out)
            have HRl := Lib.hid (show r.A.length ≤ 1000 by rw [hrow.1]; have := HSm.out.len; omega)
            clear hr hR6 hIr hrow hv
            go_wp2_with fail
            refine (holds_any _ _ r x _ HI.out HXx.out HRl.out (by have := HN.out.2; have := HSm.out.len; have := HN.out.1; omega)).mono ?_
            rintro e w7 ⟨rfl, hb7⟩
            rw [HV.out]
            have HW7 := Lib.hid (HWx.out.trans (hb7.mono HWx.out.size))
            clear hb7
            go_wp2
            go_roundw
            case rel => exact ⟨k + 1, by omega, by go_num, HW7.out⟩
            case measure => simp [RowKit.intOf]; omega
          · go_wp2
            go_ret
            exact ⟨rfl, HW6.out.trans (HWx.out.mono HW6.out.size)⟩
  · have HP := Lib.hid hP.isP
    have HC := Lib.hid hC
    obtain ⟨pp, pc, rfl, -⟩ := hP.isP.shape
    have HB5 := Lib.hid (HB.out.grows hb5)
    have HM5 := Lib.hid (HM4.out.grows hb5)
    have HW5 := Lib.hid (below_two HB4.out hb5)
    have c0 := HB5.out.cell 0 rfl
    have c1 := HB5.out.cell 1 rfl
    clear hP hC hN hb5 HM4 HB4 HB
    go_wp2_with fail
    refine (valid_any _ m w5 HM5.out (mod_of HSm.out.valid)).mono ?_
    rintro e w6 ⟨rfl, hb6⟩
    rw [HSm.out.valid]
    have HB6 := Lib.hid (HB5.out.grows hb6)
    have HM6 := Lib.hid (HM5.out.grows hb6)
    have HP6 := Lib.hid (HP.out.grows hb6)
    have HW6 := Lib.hid (below_two HW5.out hb6)
    clear c0 c1 hb6 HB5 HM5 HP HW5
    have c0 := HB6.out.cell 0 rfl
    have c1 := HB6.out.cell 1 rfl
    go_wp2_with fail
    refine (check_any _ _ m N w6 HM6.out HP6.out (by have := check_len HC.out; omega) (mod_of HSm.out.valid)).mono ?_
    rintro e w7 ⟨rfl, hb7⟩
    rw [HC.out]
    have HW7 := Lib.hid (below_two HW6.out hb7)
    clear hb7 c0 c1
    go_wp2
    go_ret
    exact ⟨rfl, HW7.out⟩
end Go.Proofs.Ytmhhfommgdljkaa
