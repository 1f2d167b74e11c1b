/-
  Walk: the law RowsLeast.
-/
import Derived.Test.YtmhhfommgdljkaaDa
set_option linter.unusedSimpArgs false
set_option linter.unusedVariables false
namespace Go.Proofs.Ytmhhfommgdljkaa
open Go.RowKit Go.Lib

set_option maxRecDepth 100000 in
set_option maxHeartbeats 4000000 in
theorem least_walk (v vp : Value) (s : Sy) (l : List Int) (w : World) (hs : IsS w v s) (hp : IsI w vp l) :
    Calls Try.prog 4 #[v, vp] w fun e w' => e = .returned (.bool true) ∧ Below w.heap.size w w' := by
  have HPt := Lib.hid (fun W (hW : Below w.heap.size w W) => hp.grows hW)
  clear hp
  obtain ⟨tp, tc, rp, rc, rfl, htc, hrc, -, -⟩ := hs.shape
  have HS := Lib.hid (fun W (hW : Below w.heap.size w W) => hs.grows hW)
  clear hs
  go_enter Try.func4, Try.ntmps4
  go_upto_region 1 with fail
  have hb1 : Below w.heap.size w (w.alloc (.cells #[.slice tp s.T.length tc, .slice rp s.R.length rc] 25)) := by go_grown
  have B1 := Blk.new w #[.slice tp s.T.length tc, .slice rp s.R.length rc] 25
  generalize w.alloc (.cells #[.slice tp s.T.length tc, .slice rp s.R.length rc] 25) = w1 at hb1 B1 ⊢
  go_wp2_with fail
  refine (sanity_any w1).mono ?_
  rintro e w2 ⟨rfl, hb2⟩
  have HB2 := Lib.hid (below_two hb1 hb2)
  have c0 := (B1.grows hb2).cell 0 rfl
  have c1 := (B1.grows hb2).cell 1 rfl
  clear hb1 hb2 B1
  go_wp2_with fail
  refine (made_any _ s w2 (HS.out w2 HB2.out)).mono ?_
  rintro e w3 ⟨u, m, rfl, hm, hsm, hb3⟩
  obtain ⟨mp, mc, np, nc, rfl, hmc, hnc, hmT, hmR⟩ := hm.shape
  have HM := Lib.hid hm
  have HSm := Lib.hid hsm
  have HB3 := Lib.hid (below_two HB2.out hb3)
  clear hm hsm hb3 c0 c1 hmT hmR
  go_upto_region 3 with fail
  have hb4 : Below w3.heap.size w3 (w3.alloc (.cells #[.slice mp m.T.length mc, .slice np m.R.length nc] 25)) := by go_grown
  have B4 := Blk.new w3 #[.slice mp m.T.length mc, .slice np m.R.length nc] 25
  obtain ⟨q, hq⟩ : ∃ q, w3.heap.size = q := ⟨_, rfl⟩
  have HM4 := Lib.hid (HM.out.grows hb4)
  have HB4 := Lib.hid (below_two HB3.out hb4)
  clear hb4 HM HB3
  generalize w3.alloc (.cells #[.slice mp m.T.length mc, .slice np m.R.length nc] 25) = w4 at B4 HM4 HB4 ⊢
  rw [hq] at B4
  simp only [hq]
  clear hq
  have c0 := B4.cell 0 rfl
  have c1 := B4.cell 1 rfl
  have HB := Lib.hid B4
  clear B4
  go_wp2_with fail
  refine (madePoint_any _ vp m l w4 HM4.out (HPt.out w4 HB4.out) (by have := HSm.out.len; omega) (fun t ht => by have := HSm.out.top t ht; omega)).mono ?_
  rintro e w5 ⟨u, x, rfl, hx, hxl, hbox, hb5⟩
  obtain ⟨n, hn⟩ : ∃ n, m.T.length = n := ⟨_, rfl⟩
  have HX := Lib.hid hx.isI
  have HC := Lib.hid (hbox.cand hxl)
  obtain ⟨xp, xc, rfl, hxc⟩ := hx.isI.shape
  have hxn : x.length = n := by rw [hxl]; exact hn
  rw [hxn] at HX ⊢
  have HN := Lib.hid (And.intro hn hxn)
  have HB5 := Lib.hid (HB.out.grows hb5)
  have HM5 := Lib.hid (HM4.out.grows hb5)
  have HW5 := Lib.hid (below_two HB4.out hb5)
  clear hx hxl hbox hb5 HM4 HB4 HB c0 c1 hxn hxc hn
  have hn4 : n ≤ 4 := by have := HSm.out.len; have := HN.out.1; omega
  have hr6 : m.R.length ≤ 6 := HSm.out.rows
  go_wp2
  go_loopw [8] (fun kv wr => ∃ k : Nat, k ≤ m.R.length ∧ kv = .int .i64 k ∧ (∀ (j : Nat) (r : Rw), j < k → m.R[j]? = some r → 0 ≤ val r x) ∧ Below w5.heap.size w5 wr) (fun kv _ => m.R.length - (RowKit.intOf kv).toNat)
  case atStart => exact ⟨0, Nat.zero_le _, rfl, fun j r hj => by omega, Below.refl _ _⟩
  case round =>
    obtain ⟨k, hk, rfl, hall, hbx⟩ := hrel
    have HWx := Lib.hid hbx
    have HAll := Lib.hid hall
    have HBx := Lib.hid (HB5.out.grows hbx)
    have f0 := HBx.out.cell 0 rfl
    have f1 := HBx.out.cell 1 rfl
    clear hbx hall
    by_cases hkl : k < m.R.length
    · obtain ⟨r, hr⟩ := get_of_lt hkl
      obtain ⟨tv, nv, he, -, hR6⟩ := HM5.out.grows HWx.out
      simp only [Value.agg.injEq, Array.mk.injEq, List.cons.injEq, and_true] at he
      obtain ⟨rfl, rfl⟩ := he
      obtain ⟨b3, o3, us, rfl, y0, y1, hIr⟩ := hR6.at hr
      obtain ⟨ps, cs, rfl, -⟩ := hIr.shape
      have hrow := HSm.out.row r (List.mem_of_getElem? hr)
      have HV := Lib.hid (holds_small hrow.1 hrow.2 HSm.out.len HSm.out.top HC.out)
      have HI := Lib.hid hIr
      have HXx := Lib.hid (show IsI wr (.slice xp x.length xc) x by rw [HN.out.2]; exact HX.out.grows HWx.out)
      have HRl := Lib.hid (show r.A.length ≤ 1000 by rw [hrow.1]; have := HSm.out.len; omega)
      have HR := Lib.hid hr
      clear hr hR6 hIr hrow
      by_cases hv : 0 ≤ val r x
      · have HVv := Lib.hid hv
        have hvd : holdsB r x = true := by rw [HV.out, decide_eq_true_iff]; exact hv
        have HVd := Lib.hid hvd
        clear hv hvd
        go_wp2_with fail
        have hq := holds_any _ _ r x _ HI.out HXx.out HRl.out (by have := HN.out.2; omega)
        rw [HN.out.2] at hq
        refine hq.mono ?_
        rintro e w7 ⟨rfl, hb7⟩
        rw [HVd.out]
        have HW7 := Lib.hid (HWx.out.trans (hb7.mono HWx.out.size))
        clear hb7 hq
        go_wp2
        go_roundw
        case rel => exact ⟨k + 1, by omega, by go_num, fun j q hj hq => by
          rcases Nat.lt_or_ge j k with h1 | h1
          · exact HAll.out j q h1 hq
          · obtain rfl : j = k := by omega
            have h2 := HR.out; rw [hq] at h2; cases h2; exact HVv.out, HW7.out⟩
        case measure => simp [RowKit.intOf]; omega
      · have hvd : holdsB r x = false := by rw [HV.out, decide_eq_false_iff_not]; exact hv
        have HVd := Lib.hid hvd
        clear hv hvd
        go_wp2_with fail
        have hq := holds_any _ _ r x _ HI.out HXx.out HRl.out (by have := HN.out.2; omega)
        rw [HN.out.2] at hq
        refine hq.mono ?_
        rintro e w7 ⟨rfl, hb7⟩
        rw [HVd.out]
        have HW7 := Lib.hid (HW5.out.trans ((HWx.out.trans (hb7.mono HWx.out.size)).mono HW5.out.size))
        clear hb7 hq
        go_wp2
        go_ret
        exact ⟨rfl, HW7.out⟩
    · have HSol := Lib.hid (sol_all (rs := m.R) (x := x) fun j r hj => HAll.out j r (by have := lt_of_get hj; omega) hj)
      have HM6 := Lib.hid (HM5.out.grows HWx.out)
      have HX6 := Lib.hid (HX.out.grows HWx.out)
      have HW6 := Lib.hid (HW5.out.trans (HWx.out.mono HW5.out.size))
      go_wp2_with fail
      refine (solve_any _ m _ HM6.out HSm.out.valid HSm.out.small).mono ?_
      rintro e w7 ⟨hb7, ⟨y, vy, hL, rfl, hy⟩ | ⟨hN, -⟩⟩
      · have hyl : y.length = n := by rw [(cand_iff.1 hL.inb).1]; exact HN.out.1
        have HL := Lib.hid (hL.least x (cand_iff.2 HC.out) HSol.out)
        obtain ⟨yp, yc, rfl, hyc⟩ := hy.shape
        rw [hyl] at hy hyc ⊢
        have HY := Lib.hid hy
        have HX7 := Lib.hid (HX6.out.grows hb7)
        have HW7 := Lib.hid (HW6.out.trans (hb7.mono HW6.out.size))
        have HYl := Lib.hid hyl
        clear hy hL hb7 hyl f0 f1
        go_wp2_with fail
        have hq := less_any (.slice xp x.length xc) (.slice yp y.length yc) x y w7 (by rw [HN.out.2]; exact HX7.out) (by rw [HYl.out]; exact HY.out) (by have := HN.out.2; omega) (by have := HYl.out; omega)
        rw [HN.out.2, HYl.out] at hq
        refine hq.mono ?_
        rintro e w8 ⟨rfl, hb8⟩
        rw [HL.out]
        have HW8 := Lib.hid (HW7.out.trans (hb8.mono HW7.out.size))
        clear hb8 hq
        go_wp2
        go_ret
        exact ⟨rfl, HW8.out⟩
      · exact (hN x (cand_iff.2 HC.out) HSol.out).elim
end Go.Proofs.Ytmhhfommgdljkaa
