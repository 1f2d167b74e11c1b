/-
  Walk: the law RowsProjection.
-/
import Derived.Test.YtmhhfommgdljkaaDc
set_option linter.unusedSimpArgs false
set_option linter.unusedVariables false
namespace Go.Proofs.Ytmhhfommgdljkaa
open Go.RowKit Go.Lib

def unitR (n i : Nat) (a k : Int) : Rw := ⟨(List.replicate n 0).set i a, k⟩
theorem dot_zero : ∀ (n : Nat) (z : List Int), dot (List.replicate n 0) z = 0
  | 0, z => by simp [dot]
  | n + 1, [] => by simp [List.replicate_succ, dot]
  | n + 1, y :: z => by rw [List.replicate_succ]; show 0 * y + dot (List.replicate n 0) z = 0; rw [dot_zero n z]; omega
theorem dot_unit : ∀ {n i : Nat} {a y : Int} {z : List Int}, i < n → z[i]? = some y → dot ((List.replicate n 0).set i a) z = a * y
  | 0, _, _, _, _, h, _ => by omega
  | n + 1, i, a, y, [], _, h => by simp at h
  | n + 1, 0, a, y, x :: z, _, h => by
    simp at h; subst h
    rw [List.replicate_succ, List.set_cons_zero]
    show a * x + dot (List.replicate n 0) z = a * x
    rw [dot_zero]; omega
  | n + 1, i + 1, a, y, x :: z, h1, h => by
    rw [List.replicate_succ, List.set_cons_succ]
    show 0 * x + dot ((List.replicate n 0).set i a) z = a * y
    rw [dot_unit (n := n) (i := i) (by omega) (by simpa using h)]; omega
theorem val_unit {n i : Nat} {a k y : Int} {z : List Int} (h : i < n) (hz : z[i]? = some y) : val (unitR n i a k) z = k + a * y := by
  show k + dot ((List.replicate n 0).set i a) z = k + a * y
  rw [dot_unit h hz]
def limitS (n i : Nat) (lo hi : Int) : List Rw := [unitR n i (-1) lo, unitR n i 1 (-hi), unitR n i (-1) (lo - 1), unitR n i 1 (-hi - 1)]
theorem limit_big {n i : Nat} {lo hi : Int} (h1 : 0 ≤ lo ∧ lo ≤ 64) (h2 : 0 ≤ hi ∧ hi ≤ 64) {k : Nat} {U : Rw} (h : (limitS n i lo hi)[k]? = some U) : U.A.length = n ∧ (∀ a ∈ U.A, -1000 ≤ a ∧ a ≤ 1000) ∧ -1000 ≤ U.C ∧ U.C ≤ 1000 := by
  have hset : ∀ a : Int, -1 ≤ a → a ≤ 1 → ∀ b ∈ (List.replicate n (0 : Int)).set i a, -1000 ≤ b ∧ b ≤ 1000 := fun a ha1 ha2 b hb => by
    rcases List.mem_or_eq_of_mem_set hb with h3 | rfl
    · have := (List.mem_replicate.1 h3).2; omega
    · omega
  have hlen : ∀ a : Int, ((List.replicate n (0 : Int)).set i a).length = n := fun a => by simp
  have : k = 0 ∨ k = 1 ∨ k = 2 ∨ k = 3 := by have := lt_of_get h; simp [limitS] at this; omega
  rcases this with rfl | rfl | rfl | rfl <;> (simp only [limitS, List.getElem?_cons_zero, List.getElem?_cons_succ, Option.some.injEq] at h; subst h)
  · exact ⟨hlen _, hset _ (by omega) (by omega), by show -1000 ≤ lo; omega, by show lo ≤ 1000; omega⟩
  · exact ⟨hlen _, hset _ (by omega) (by omega), by show -1000 ≤ -hi; omega, by show -hi ≤ 1000; omega⟩
  · exact ⟨hlen _, hset _ (by omega) (by omega), by show -1000 ≤ lo - 1; omega, by show lo - 1 ≤ 1000; omega⟩
  · exact ⟨hlen _, hset _ (by omega) (by omega), by show -1000 ≤ -hi - 1; omega, by show -hi - 1 ≤ 1000; omega⟩
theorem sol_snoc {R : List Rw} {U : Rw} {z : List Int} : Sol (R ++ [U]) z ↔ Sol R z ∧ 0 ≤ val U z :=
  ⟨fun h => ⟨fun r hr => h r (List.mem_append_left _ hr), h U (by simp)⟩, fun h r hr => by
    rcases List.mem_append.1 hr with h1 | h1
    · exact h.1 r h1
    · rw [List.mem_singleton] at h1; subst h1; exact h.2⟩
/-- which further limit has a solution. -/
theorem limit_found {m : Sy} {i : Nat} {lo hi : Int} (hi' : i < m.T.length) (h1 : Takes m i lo) (h2 : Takes m i hi) (hb : ∀ y, Takes m i y → lo ≤ y ∧ y ≤ hi) {k : Nat} {U : Rw} (h : (limitS m.T.length i lo hi)[k]? = some U) :
    (k < 2 → ∃ z, Cand m.T z ∧ Sol (m.R ++ [U]) z) ∧ (2 ≤ k → ∀ z, Cand m.T z → ¬ Sol (m.R ++ [U]) z) := by
  obtain ⟨z1, c1, s1, e1⟩ := h1
  obtain ⟨z2, c2, s2, e2⟩ := h2
  have this : k = 0 ∨ k = 1 ∨ k = 2 ∨ k = 3 := by have := lt_of_get h; simp [limitS] at this; omega
  have hno : ∀ (z : List Int), Cand m.T z → Sol m.R z → ∃ y, z[i]? = some y ∧ lo ≤ y ∧ y ≤ hi := fun z hz hs => by
    obtain ⟨y, hy⟩ := get_of_lt (show i < z.length by rw [hz.1]; exact hi')
    exact ⟨y, hy, hb y ⟨z, hz, hs, hy⟩⟩
  rcases this with rfl | rfl | rfl | rfl <;> (simp only [limitS, List.getElem?_cons_zero, List.getElem?_cons_succ, Option.some.injEq] at h; subst h)
  · refine ⟨fun _ => ⟨z1, c1, sol_snoc.2 ⟨s1, ?_⟩⟩, fun h => by omega⟩
    rw [val_unit hi' e1]; omega
  · refine ⟨fun _ => ⟨z2, c2, sol_snoc.2 ⟨s2, ?_⟩⟩, fun h => by omega⟩
    rw [val_unit hi' e2]; omega
  · refine ⟨fun h => by omega, fun _ z hz hs => ?_⟩
    obtain ⟨hs1, hs2⟩ := sol_snoc.1 hs
    obtain ⟨y, hy, h3, h4⟩ := hno z hz hs1
    rw [val_unit hi' hy] at hs2; omega
  · refine ⟨fun h => by omega, fun _ z hz hs => ?_⟩
    obtain ⟨hs1, hs2⟩ := sol_snoc.1 hs
    obtain ⟨y, hy, h3, h4⟩ := hno z hz hs1
    rw [val_unit hi' hy] at hs2; omega
set_option maxRecDepth 100000 in
set_option maxHeartbeats 40000000 in
theorem projection_walk (v : Value) (s : Sy) (y : Nat) (w : World) (hs : IsS w v s) (h0 : y < 256) :
    Calls Try.prog 7 #[v, .int .u8 y] w fun e w' => e = .returned (.bool true) ∧ Below w.heap.size w w' := by
  obtain ⟨tp, tc, rp, rc, rfl, htc, hrc, -, -⟩ := hs.shape
  have HS := Lib.hid (fun W (hW : Below w.heap.size w W) => hs.grows hW)
  clear hs
  go_enter Try.func7, Try.ntmps7
  go_upto_region 1 with fail
  have hb1 : Below w.heap.size w (w.alloc (.cells #[.slice tp s.T.length tc, .slice rp s.R.length rc] 25)) := by go_grown
  have B1 := Blk.new w #[.slice tp s.T.length tc, .slice rp s.R.length rc] 25
  generalize w.alloc (.cells #[.slice tp s.T.length tc, .slice rp s.R.length rc] 25) = w1 at hb1 B1 ⊢
  go_wp2_with fail
  refine (sanity_any w1).mono ?_
  rintro e w2 ⟨rfl, hb2⟩
  have HB2 := Lib.hid (below_two hb1 hb2)
  have c0 := (B1.grows hb2).cell 0 rfl
  have c1 := (B1.grows hb2).cell 1 rfl
  clear hb1 hb2 B1
  go_wp2_with fail
  refine (made_any _ s w2 (HS.out w2 HB2.out)).mono ?_
  rintro e w3 ⟨u, m, rfl, hm, hsm, hb3⟩
  obtain ⟨mp, mc, np, nc, rfl, hmc, hnc, hmT, hmR⟩ := hm.shape
  have HM := Lib.hid hm
  have HSm := Lib.hid hsm
  have HB3 := Lib.hid (below_two HB2.out hb3)
  have HMp := Lib.hid hmR
  have HMt := Lib.hid hmT
  clear hm hsm hb3 c0 c1 hmT hmR
  go_upto_region 3 with fail
  have hb4 : Below w3.heap.size w3 (w3.alloc (.cells #[.slice mp m.T.length mc, .slice np m.R.length nc] 25)) := by go_grown
  have B4 := Blk.new w3 #[.slice mp m.T.length mc, .slice np m.R.length nc] 25
  obtain ⟨q, hq⟩ : ∃ q, w3.heap.size = q := ⟨_, rfl⟩
  have HM4 := Lib.hid (HM.out.grows hb4)
  have HB4 := Lib.hid (below_two HB3.out hb4)
  have HMp4 := Lib.hid (HMp.out.grows hb4)
  have HMt4 := Lib.hid (HMt.out.grows hb4)
  clear hb4 HM HB3 HMp HMt
  generalize w3.alloc (.cells #[.slice mp m.T.length mc, .slice np m.R.length nc] 25) = w4 at B4 HM4 HB4 HMp4 HMt4 ⊢
  rw [hq] at B4
  simp only [hq]
  clear hq
  have c0 := B4.cell 0 rfl
  have c1 := B4.cell 1 rfl
  have HB := Lib.hid B4
  clear B4
  have hn1 := HSm.out.pos
  have hn4 := HSm.out.len
  have hr6 := HSm.out.rows
  obtain ⟨ia, hia⟩ : ∃ ia, y % m.T.length = ia := ⟨_, rfl⟩
  have hil : ia < m.T.length := by rw [← hia]; exact Nat.mod_lt _ (by omega)
  have ht0 : ((y : Nat) : Int).tmod (m.T.length : Int) = (ia : Int) := by rw [← hia]; exact (Int.ofNat_tmod y m.T.length).symm
  have ht1 : (IntKind.i64.wrap (y : Int)).tmod (m.T.length : Int) = (ia : Int) := by rw [IntWalk.i64_in _ (by omega)]; exact ht0
  have hne : ¬ ((m.T.length : Int) = 0) := by omega
  have hne2 : ¬ (m.T.length = 0) := by omega
  obtain ⟨t, ht⟩ := get_of_lt hil
  have HT := Lib.hid ht
  clear hia ht
  go_wp2_with fail
  refine (solve_any _ m w4 HM4.out HSm.out.valid HSm.out.small).mono ?_
  rintro e w5 ⟨hb5, hres5⟩
  have HR5 := Lib.hid hres5
  have HB5 := Lib.hid (HB.out.grows hb5)
  have HM5 := Lib.hid (HM4.out.grows hb5)
  have HW5 := Lib.hid (below_two HB4.out hb5)
  have HP5 := Lib.hid (HMp4.out.grows hb5)
  have HT5 := Lib.hid (HMt4.out.grows hb5)
  clear hres5 hb5 c0 c1 HB HM4 HMp4 HMt4 HB4
  have c0 := HB5.out.cell 0 rfl
  have c1 := HB5.out.cell 1 rfl
  rcases HR5.out with ⟨x, vx, hL, rfl, hx⟩ | ⟨hN, vq, N0, rfl, -, -⟩
  · have HL := Lib.hid hL
    obtain ⟨xp, xc, rfl, hxc⟩ := hx.shape
    clear hL hx HR5
    go_wp2_with fail
    refine (project_any m HSm.out.valid HSm.out.small _ ia t w5 HM5.out HT.out).mono ?_
    rintro e w6 ⟨⟨lo, hi, hlo, hhi, hbd, rfl⟩ | ⟨hno, -⟩, hb6⟩
    · obtain ⟨l1, l2⟩ := takes_in HT.out hlo
      obtain ⟨l3, l4⟩ := takes_in HT.out hhi
      have l5 := (hbd hi hhi).1
      have ht5 := HSm.out.top t (List.mem_of_getElem? HT.out)
      have HTk := Lib.hid (And.intro hlo (And.intro hhi hbd))
      have HB6 := Lib.hid (HB5.out.grows hb6)
      have HM6 := Lib.hid (HM5.out.grows hb6)
      have HW6 := Lib.hid (below_two HW5.out hb6)
      have HP6 := Lib.hid (HP5.out.grows hb6)
      have HT6 := Lib.hid (HT5.out.grows hb6)
      obtain ⟨tb, tof, rfl, tx⟩ := HT6.out.at HT.out
      clear hlo hhi hbd hb6 c0 c1 HB5 HM5 HW5 HP5 HT5
      have c0 := HB6.out.cell 0 rfl
      have c1 := HB6.out.cell 1 rfl
      have e1 : decide (hi < lo) = false := by rw [decide_eq_false_iff_not]; omega
      have e2 : decide (lo < 0) = false := by rw [decide_eq_false_iff_not]; omega
      have e3 : decide (t < hi) = false := by rw [decide_eq_false_iff_not]; omega
      have n1 : ¬ hi < lo := by omega
      have n2 : ¬ lo < 0 := by omega
      have n3 : ¬ t < hi := by omega
      go_wp2_with fail
      refine (unit_any m.T.length ia (-1) lo w6 hil (by omega)).mono ?_
      rintro e w7 ⟨u0, rfl, hu0, hb7⟩
      obtain ⟨p0, k0, rfl, -⟩ := hu0.isI.shape
      have HU0 := Lib.hid hu0
      have HW7 := Lib.hid hb7
      clear hu0 hb7
      go_wp2_with fail
      refine (unit_any m.T.length ia 1 (-hi) w7 hil (by omega)).mono ?_
      rintro e w8 ⟨u1, rfl, hu1, hb8⟩
      obtain ⟨p1, k1, rfl, -⟩ := hu1.isI.shape
      have HU1 := Lib.hid (hu1.low HW7.out.size)
      have HU0 := Lib.hid (HU0.out.grows hb8)
      have HW8 := Lib.hid (below_two HW7.out hb8)
      clear hu1 hb8 HW7
      go_wp2_with fail
      refine (unit_any m.T.length ia (-1) (lo - 1) w8 hil (by omega)).mono ?_
      rintro e w9 ⟨u2, rfl, hu2, hb9⟩
      obtain ⟨p2, k2, rfl, -⟩ := hu2.isI.shape
      have HU2 := Lib.hid (hu2.low HW8.out.size)
      have HU1 := Lib.hid (HU1.out.grows hb9)
      have HU0 := Lib.hid (HU0.out.grows hb9)
      have HW9 := Lib.hid (below_two HW8.out hb9)
      clear hu2 hb9 HW8
      go_wp2_with fail
      refine (unit_any m.T.length ia 1 (-hi - 1) w9 hil (by omega)).mono ?_
      rintro e wa ⟨u3, rfl, hu3, hba⟩
      obtain ⟨p3, k3, rfl, -⟩ := hu3.isI.shape
      have HU3 := Lib.hid (hu3.low HW9.out.size)
      have HU2 := Lib.hid (HU2.out.grows hba)
      have HU1 := Lib.hid (HU1.out.grows hba)
      have HU0 := Lib.hid (HU0.out.grows hba)
      have HWa := Lib.hid (below_two HW9.out hba)
      clear hu3 hba HW9
      go_upto_region 12 with fail
      simp only [List.length_set, List.length_replicate] at HU0 HU1 HU2 HU3
      have LB : Blk (wa.alloc (.cells #[.slice p0 m.T.length k0, .int .i64 lo, .slice p1 m.T.length k1, .int .i64 (-hi), .slice p2 m.T.length k2, .int .i64 (lo - 1), .slice p3 m.T.length k3, .int .i64 (-hi - 1)] 37)) wa.heap.size #[.slice p0 m.T.length k0, .int .i64 lo, .slice p1 m.T.length k1, .int .i64 (-hi), .slice p2 m.T.length k2, .int .i64 (lo - 1), .slice p3 m.T.length k3, .int .i64 (-hi - 1)] 37 := Blk.new wa _ _
      have hbb : Below wa.heap.size wa (wa.alloc (.cells #[.slice p0 m.T.length k0, .int .i64 lo, .slice p1 m.T.length k1, .int .i64 (-hi), .slice p2 m.T.length k2, .int .i64 (lo - 1), .slice p3 m.T.length k3, .int .i64 (-hi - 1)] 37)) := by go_grown
      generalize wa.alloc (.cells #[.slice p0 m.T.length k0, .int .i64 lo, .slice p1 m.T.length k1, .int .i64 (-hi), .slice p2 m.T.length k2, .int .i64 (lo - 1), .slice p3 m.T.length k3, .int .i64 (-hi - 1)] 37) = wb at LB hbb ⊢
      have hLim : BrAt w6 wb (.slice (some ⟨wa.heap.size, 0, none⟩) 4 4) (limitS m.T.length ia lo hi) := by
        refine ⟨[(.slice p0 m.T.length k0, unitR m.T.length ia (-1) lo), (.slice p1 m.T.length k1, unitR m.T.length ia 1 (-hi)), (.slice p2 m.T.length k2, unitR m.T.length ia (-1) (lo - 1)), (.slice p3 m.T.length k3, unitR m.T.length ia 1 (-hi - 1))], rfl, own_of_blk (base := w6.heap.size) LB 4 2 rfl (by decide) HWa.out.size, fun q hq => .inr ?_⟩
        simp only [List.mem_cons, List.not_mem_nil, or_false] at hq
        rcases hq with rfl | rfl | rfl | rfl
        · exact HU0.out.grows hbb
        · exact HU1.out.grows hbb
        · exact HU2.out.grows hbb
        · exact HU3.out.grows hbb
      have HWb := Lib.hid (below_two HWa.out hbb)
      have HLm := Lib.hid (hLim.isRs HWb.out)
      have HBb := Lib.hid (HB6.out.grows HWb.out)
      have HPb := Lib.hid (HP6.out.grows HWb.out)
      have HTb := Lib.hid (HT6.out.grows HWb.out)
      have HWo := Lib.hid (HW6.out.trans (HWb.out.mono HW6.out.size))
      obtain ⟨bl, hbl⟩ : ∃ b, wa.heap.size = b := ⟨_, rfl⟩
      rw [hbl] at HLm
      simp only [hbl]
      clear LB hbb hLim hbl c0 c1 tx HWa HWb HU0 HU1 HU2 HU3 HB6 HM6 HP6 HT6 HW6
      obtain ⟨ir, hir, hr0, hr1, hr2⟩ := info_parts infoRow
      have HLo := Lib.hid (show (0 ≤ lo ∧ lo ≤ 64) ∧ (0 ≤ hi ∧ hi ≤ 64) by omega)
      clear e1 e2 e3 n1 n2 n3 l1 l2 l3 l4 l5 ht0 ht1 hne hne2
      obtain ⟨kk, hkk⟩ : ∃ j, m.R.length = j := ⟨_, rfl⟩
      have HKK := Lib.hid hkk
      rw [hkk] at HBb HPb ⊢
      rw [hkk] at hr6 hnc
      clear hkk
      go_wp2_with fail
      go_loopw [17] (fun iv wr => ∃ k : Nat, k ≤ 4 ∧ iv = .int .i64 k ∧ Below wb.heap.size wb wr) (fun iv _ => 4 - (RowKit.intOf iv).toNat)
      case atStart => exact ⟨0, Nat.zero_le _, rfl, Below.refl _ _⟩
      case round =>
        obtain ⟨k, hk, rfl, hbw⟩ := hrel
        have HWr := Lib.hid hbw
        have HBw := Lib.hid (HBb.out.grows hbw)
        have HMw := Lib.hid (HPb.out.grows hbw)
        have c0 := HBw.out.cell 0 rfl
        have c1 := HBw.out.cell 1 rfl
        clear hbw
        by_cases hk4 : k < 4
        · obtain ⟨U, hU⟩ := get_of_lt (show k < (limitS m.T.length ia lo hi).length from hk4)
          have HUk := Lib.hid hU
          clear hU
          go_upto_region 15 with fail
          go_cut [18] (fun s7 wx => ∃ (g : Nat) (vt : Value), s7 = .pointer (some ⟨g, 0, none⟩) ∧ wr.heap.size ≤ g ∧ Blk wx g #[.slice (some ⟨tb, tof, none⟩) m.T.length mc, vt] 25 ∧ BrAt wr wx vt m.R ∧ Below wr.heap.size wr wx)
          case first =>
            have hqlt := HBw.out.lt
            obtain ⟨np', nc', he, hnc', hnp, -⟩ := HMw.out.is
            simp only [Value.slice.injEq, true_and] at he
            obtain ⟨rfl, -, rfl⟩ := he
            rw [HKK.out] at hnc'
            have hr6 : kk ≤ 6 := by have := HSm.out.rows; have := HKK.out; omega
            obtain ⟨L, hL, hLi, hLc⟩ := BrAt.first HMw.out
            have hLl : L.length = kk := by rw [← HKK.out, ← hL, List.length_map]
            have HL := Lib.hid (And.intro hL (And.intro hLi (And.intro hLc hLl)))
            clear hL hLi hLc hLl
            have hS : ∀ W, Below wr.heap.size wr W → W.cell? ⟨q, 0, none⟩ = some (.slice (some ⟨tb, tof, none⟩) m.T.length mc) ∧ W.cell? ⟨q, 1, none⟩ = some (.slice np kk nc) := fun W hW => ⟨(HBw.out.grows hW).cell 0 rfl, (HBw.out.grows hW).cell 1 rfl⟩
            have HS := Lib.hid hS
            clear hS
            rcases np with _ | ad
            · obtain rfl : nc = 0 := hnp rfl
              obtain rfl : kk = 0 := by omega
              have HR0 := Lib.hid (List.length_eq_zero_iff.1 HKK.out)
              clear hr6 hnc'
              go_region_held3 (fun W => W.cell? ⟨q, 0, none⟩ = some (.slice (some ⟨tb, tof, none⟩) m.T.length mc) ∧ W.cell? ⟨q, 1, none⟩ = some (.slice none 0 0))
                (first | exact HS.out _ (below_drew (Below.refl _ _)) | exact HS.out _ (by go_grown) | fail)
                (first | fail)
              all_goals go_wp2_with fail
              all_goals go_meet
              all_goals rw [HR0.out]
              all_goals first
                | exact ⟨wr.heap.size + 1, _, rfl, by omega, (blk_at (by simp)).drew, ⟨[], rfl, own_of_blk (cs := #[]) (e := 37) ((blk_at rfl).alloc _).drew 0 2 rfl (by decide) (Nat.le_refl _), fun q hq => (by cases hq)⟩, by go_grown⟩
                | exact ⟨wr.heap.size, _, rfl, by omega, ((blk_at rfl).alloc _).drew, ⟨[], rfl, own_of_blk (cs := #[]) (e := 37) (blk_at (by simp)).drew 0 2 rfl (by decide) (by omega), fun q hq => (by cases hq)⟩, by go_grown⟩
                | fail
            · go_region_held3 (fun W => W.cell? ⟨q, 0, none⟩ = some (.slice (some ⟨tb, tof, none⟩) m.T.length mc) ∧ W.cell? ⟨q, 1, none⟩ = some (.slice (some ad) kk nc))
                (first | (with_reducible exact HS.out _ H7.out.1) | (with_reducible exact HS.out _ (H7.out.1.alloc H7.out.1.size _)) | (with_reducible exact HS.out _ ((H7.out.1.setCell (p := ⟨wr.heap.size, 0, none⟩) (Nat.le_refl _) _).setCell (p := ⟨wr.heap.size, 1, none⟩) (Nat.le_refl _) _)) | (with_reducible exact HS.out _ ((H7.out.1.setCell (p := ⟨wr.heap.size + 1, 0, none⟩) (Nat.le_succ _) _).setCell (p := ⟨wr.heap.size + 1, 1, none⟩) (Nat.le_succ _) _)) | exact HS.out _ (below_drew (Below.refl _ _)) | exact HS.out _ (by go_grown) | fail)
                (first
                  | ((refine grow_step rfl _ _ 23 rfl rfl wr.heap.size 37 ir (.agg #[.slice none 0 0, .int .i64 0]) 2 32 Try.underlying23 hir hr0 hr1 hr2 rfl (by decide) _ 0 [] rfl (own_of_blk (base := wr.heap.size) (cs := #[]) (e := 37) (by first | exact (blk_at rfl).drew | exact ((blk_at rfl).alloc _).drew | exact (blk_at (by simp)).drew) 0 2 rfl (by decide) (by omega)) ad kk nc (rwCells L) rfl (by rw [rwCells_len, HL.out.2.2.2]) (fun j x hx => by have h := HL.out.2.2.1 ad nc kk rfl j x hx; exact (Below.cell (B := wr.heap.size) (by go_grown) (lt_of_cell h)).trans h) (rwCells_one HL.out.2.1) (by unfold maxLen; omega) (by omega) (by simp; try omega) ?_); intro v7 w7 hown7 hg7; rw [Nat.zero_add] at hown7; (try (have Z7 : Blk w7 (wr.heap.size + 1) #[.slice none 0 0, .slice none 0 0] 25 := Blk.grownBy (blk_at (by simp)).drew hg7 (fun k hk => by have h9 : wr.heap.size = k := Option.some.inj hk; omega); have z0 := Z7.cell 0 rfl; have z1 := Z7.cell 1 rfl; have y0 := Z7.free 0; have y1 := Z7.free 1; have zl := Z7.lt; have HZ7 := Lib.hid Z7; clear Z7)); (try (have Z7 : Blk w7 (wr.heap.size) #[.slice none 0 0, .slice none 0 0] 25 := Blk.grownBy ((blk_at rfl).alloc _).drew hg7 (fun k hk => by have h9 : wr.heap.size + 1 = k := Option.some.inj hk; omega); have z0 := Z7.cell 0 rfl; have z1 := Z7.cell 1 rfl; have y0 := Z7.free 0; have y1 := Z7.free 1; have zl := Z7.lt; have HZ7 := Lib.hid Z7; clear Z7)); have H7 := Lib.hid (copy_grown (by go_grown) (by omega) hg7 hown7 HL.out.1 HL.out.2.1 HL.out.2.2.2); have hs7 := HS.out _ H7.out.1; have s70 := hs7.1; have s71 := hs7.2; have l7 := lt_of_cell s70; clear hs7; obtain ⟨p7, c7, rfl⟩ := own_shape hown7; clear hown7 hg7)
                  | fail)
              all_goals go_wp2_with fail
              all_goals go_meet
              all_goals first
                | exact ⟨w7.heap.size, _, rfl, H7.out.1.size, blk_at rfl, H7.out.2.grows ((Below.refl _ w7).alloc (Nat.le_refl _) _), H7.out.1.alloc H7.out.1.size _⟩
                | exact ⟨wr.heap.size + 1, _, rfl, by omega, (HZ7.out.set 0 _).set 1 _, BrAt.keepS H7.out.2 ((KeptTy.set (p := ⟨wr.heap.size + 1, 0, none⟩) HZ7.out KS_sys _).trans (KeptTy.set (p := ⟨wr.heap.size + 1, 1, none⟩) (HZ7.out.set 0 _) KS_sys _)) ((KeptTy.set (p := ⟨wr.heap.size + 1, 0, none⟩) HZ7.out (by decide) _).trans (KeptTy.set (p := ⟨wr.heap.size + 1, 1, none⟩) (HZ7.out.set 0 _) (by decide) _)), (H7.out.1.setCell (p := ⟨wr.heap.size + 1, 0, none⟩) (Nat.le_succ _) _).setCell (p := ⟨wr.heap.size + 1, 1, none⟩) (Nat.le_succ _) _⟩
                | exact ⟨wr.heap.size, _, rfl, by omega, (HZ7.out.set 0 _).set 1 _, BrAt.keepS H7.out.2 ((KeptTy.set (p := ⟨wr.heap.size, 0, none⟩) HZ7.out KS_sys _).trans (KeptTy.set (p := ⟨wr.heap.size, 1, none⟩) (HZ7.out.set 0 _) KS_sys _)) ((KeptTy.set (p := ⟨wr.heap.size, 0, none⟩) HZ7.out (by decide) _).trans (KeptTy.set (p := ⟨wr.heap.size, 1, none⟩) (HZ7.out.set 0 _) (by decide) _)), (H7.out.1.setCell (p := ⟨wr.heap.size, 0, none⟩) (Nat.le_refl _) _).setCell (p := ⟨wr.heap.size, 1, none⟩) (Nat.le_refl _) _⟩
                | fail
          case rest =>
            obtain ⟨g, vt, rfl, hg4, hG, hBr, hbx⟩ := hcut
            have HG := Lib.hid hG
            have HW := Lib.hid hbx
            obtain ⟨vp, vc, L, rfl, hL⟩ := hBr.parts
            have HL := Lib.hid hL
            have HWx := Lib.hid (HWr.out.trans (hbx.mono HWr.out.size))
            obtain ⟨b3, o3, us, he3, x0, x1, hIu⟩ := (HLm.out.grows HWr.out).at HUk.out
            obtain ⟨rfl, rfl⟩ : bl = b3 ∧ 0 = o3 := by simpa using he3
            rw [Nat.zero_add] at x0 x1
            have x2 := (HW.out.cell (lt_of_cell x0)).trans x0
            have x3 := (HW.out.cell (lt_of_cell x1)).trans x1
            obtain ⟨pu, cu, rfl, -⟩ := hIu.shape
            have HIu := Lib.hid hIu
            have g0 := HG.out.cell 0 rfl
            have g1 := HG.out.cell 1 rfl
            have f1 := HG.out.free 1
            have glt := HG.out.lt
            have bll := lt_of_cell x2
            have hws := HW.out.size
            have hkk6 : kk ≤ 6 := hr6
            rw [HKK.out] at HL HG g1
            clear hG hBr hL hbx hIu he3 c0 c1 x0 x1
            go_upto_region 16 with fail
            go_cut [] (fun wx => ∃ vt : Value, Blk wx g #[.slice (some ⟨tb, tof, none⟩) m.T.length mc, vt] 25 ∧ BrAt wr wx vt (m.R ++ [U]) ∧ Below wr.heap.size wr wx)
            case first =>
              go_region_law (first | ((refine grow_step rfl _ _ 23 rfl rfl wr.heap.size 37 ir (.agg #[.slice none 0 0, .int .i64 0]) 2 32 Try.underlying23 hir hr0 hr1 hr2 rfl (by decide) (.slice vp kk vc) kk (rwCells L) rfl (own_alloc HL.out.2.2.1 _) ⟨wc.heap.size, 0, none⟩ 1 1 _ rfl rfl (cells_new _ _ _ _ rfl) (one_all rfl) (by unfold maxLen; omega) (by omega) (by simp; omega) ?_); intro v7 w7 hown7 hg7; obtain ⟨p7, c7, rfl⟩ := own_shape hown7; have hF7 := push_grown (wm := wc.drew) HL.out.1 HL.out.2.1 HL.out.2.2.1 HL.out.2.2.2 HW.out (below_drew (Below.refl _ _)) (.inl HIu.out) HG.out hown7 hg7; have y1 := hF7.2.1.cell 1 rfl; have z1 := hF7.2.1.free 1; have l7 := hF7.2.1.lt; have HF7 := Lib.hid hF7; clear hown7 hg7 hF7) | fail)
              all_goals go_wp2_with fail
              all_goals go_meet
              all_goals exact ⟨_, HF7.out.2.1.set 1 _, BrAt.keepS HF7.out.1 (KeptTy.set (p := ⟨g, 1, none⟩) HF7.out.2.1 KS_sys _) (KeptTy.set (p := ⟨g, 1, none⟩) HF7.out.2.1 (by decide) _), HF7.out.2.2.setCell (p := ⟨g, 1, none⟩) hg4 _⟩
            case rest =>
              obtain ⟨vt2, hG2, hBr2, hby⟩ := hcut
              have HW2 := Lib.hid (HWr.out.trans (hby.mono HWr.out.size))
              have hRs := hBr2.isRs hby
              obtain ⟨vp2, vc2, rfl, -⟩ := hRs.shape
              have HTs := Lib.hid (show IsS wc (.agg #[.slice (some ⟨tb, tof, none⟩) m.T.length mc, .slice vp2 (m.R ++ [U]).length vc2]) ⟨m.T, m.R ++ [U]⟩ from ⟨_, _, rfl, HTb.out.grows HW2.out, hRs⟩)
              have HV := Lib.hid (show validB ⟨m.T, m.R ++ [U]⟩ = true from valid_of HSm.out.pos HSm.out.len HSm.out.top (by have := HSm.out.rows; simp; omega) (fun y hy => by
                rcases List.mem_append.1 hy with h1 | h1
                · exact SmallR.big (HSm.out.row y h1)
                · rw [List.mem_singleton] at h1; subst h1; exact limit_big HLo.out.1 HLo.out.2 HUk.out))
              have HGx := Lib.hid hG2
              have HF := Lib.hid (limit_found hil HTk.out.1 HTk.out.2.1 HTk.out.2.2 HUk.out)
              obtain ⟨j2, hj2⟩ : ∃ j, (m.R ++ [U]).length = j := ⟨_, rfl⟩
              rw [hj2] at HTs HGx
              clear hj2
              have g2 := HGx.out.cell 0 rfl
              have g3 := HGx.out.cell 1 rfl
              clear hG2 hBr2 hby hRs g0 g1 f1 glt x2 x3 bll hws
              go_wp2_with fail
              refine (solve_any _ ⟨m.T, m.R ++ [U]⟩ _ HTs.out HV.out HSm.out.small).mono ?_
              rintro e w7 ⟨hb7, hres7⟩
              have HR7 := Lib.hid hres7
              have HW7 := Lib.hid (HW2.out.trans (hb7.mono HW2.out.size))
              clear hres7 hb7 g2 g3
              by_cases hk2 : k < 2
              · have hd2 : decide ((k : Int) < 2) = true := by rw [decide_eq_true_iff]; omega
                rcases HR7.out with ⟨x7, vx7, hL7, rfl, -⟩ | ⟨hN7, -⟩
                · clear hL7 HR7
                  go_wp2
                  go_roundw
                  case rel => exact ⟨k + 1, by omega, by go_num, HW7.out⟩
                  case measure => simp [RowKit.intOf]; omega
                · obtain ⟨z, hz, hsz⟩ := HF.out.1 hk2
                  exact (hN7 z ((cand_iff (s := ⟨m.T, m.R ++ [U]⟩)).2 hz) hsz).elim
              · have hd2 : decide ((k : Int) < 2) = false := by rw [decide_eq_false_iff_not]; omega
                rcases HR7.out with ⟨x7, vx7, hL7, -, -⟩ | ⟨hN7, vq7, N7, rfl, -, -⟩
                · exact (HF.out.2 (by omega) x7 ((cand_iff (s := ⟨m.T, m.R ++ [U]⟩)).1 hL7.inb) hL7.sol).elim
                · clear hN7 HR7
                  go_wp2
                  go_roundw
                  case rel => exact ⟨k + 1, by omega, by go_num, HW7.out⟩
                  case measure => simp [RowKit.intOf]; omega
        · obtain rfl : k = 4 := by omega
          go_wp2
          go_ret
          exact ⟨rfl, HWo.out.trans (HWr.out.mono HWo.out.size)⟩
    · obtain ⟨yy, hy⟩ := get_of_lt (show ia < x.length by rw [(cand_iff.1 HL.out.inb).1]; exact hil)
      exact (hno yy ⟨x, cand_iff.1 HL.out.inb, HL.out.sol, hy⟩).elim
  · have HN := Lib.hid hN
    clear hN HR5
    go_wp2_with fail
    refine (project_any m HSm.out.valid HSm.out.small _ ia t w5 HM5.out HT.out).mono ?_
    rintro e w6 ⟨⟨lo, hi, ⟨z, hz, hsz, -⟩, -, -, -⟩ | ⟨-, rfl⟩, hb6⟩
    · exact (HN.out z (cand_iff.2 hz) hsz).elim
    · have HW6 := Lib.hid (below_two HW5.out hb6)
      clear hb6 c0 c1
      go_wp2
      go_ret
      exact ⟨rfl, HW6.out⟩
end Go.Proofs.Ytmhhfommgdljkaa
