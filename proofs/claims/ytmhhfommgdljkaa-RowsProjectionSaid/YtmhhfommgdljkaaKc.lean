/-
  Walk: cut.
-/
import Derived.Test.YtmhhfommgdljkaaKb
set_option linter.unusedSimpArgs false
set_option linter.unusedVariables false
namespace Go.Proofs.Ytmhhfommgdljkaa
open Go.RowKit Go.Lib

theorem div_in {a d B : Int} (hd : 2 ≤ d) (hB : 0 ≤ B) (h : -B ≤ a ∧ a ≤ B) : -B ≤ a / d ∧ a / d ≤ B := by
  have hBd : B ≤ B * d := by have := Int.mul_le_mul_of_nonneg_left (show (1 : Int) ≤ d by omega) hB; omega
  constructor
  · refine (Int.le_ediv_iff_mul_le (by omega)).2 ?_
    rw [Int.neg_mul]; omega
  · exact Int.ediv_le_of_le_mul (by omega) (by omega)
theorem tdiv_neg {a d : Int} (hd : 0 < d) (h : a.tmod d < 0) : a.tdiv d - 1 = a / d := by
  have h1 := tmod_neg hd h
  have h2 := Int.mul_tdiv_add_tmod a d
  have h3 := Int.mul_ediv_add_emod a d
  have h4 : d * (a.tdiv d - 1) = d * (a / d) := by rw [Int.mul_sub, Int.mul_one]; omega
  exact Int.eq_of_mul_eq_mul_left (by omega) h4
theorem tdiv_pos {a d : Int} (hd : 0 < d) (h : ¬ a.tmod d < 0) : a.tdiv d = a / d := by
  have h1 := tmod_pos hd h
  have h2 := Int.mul_tdiv_add_tmod a d
  have h3 := Int.mul_ediv_add_emod a d
  exact Int.eq_of_mul_eq_mul_left (show d ≠ 0 by omega) (by omega)
theorem tmod_zero {a d : Int} (hd : 0 < d) : a.tmod d = 0 ↔ a % d = 0 := by
  rw [← Int.dvd_iff_tmod_eq_zero, ← Int.dvd_iff_emod_eq_zero]
/-- what cut answers. -/
def CutRes (w : World) : Option Rw → Ending → World → Prop
  | none, e, w' => Below w.heap.size w w' ∧ ∃ v, e = .returned (.tuple #[.agg #[.slice none 0 0, .int .i64 0], .bool v]) ∧ v = false
  | some r, e, w' => Below w.heap.size w w' ∧ ∃ u, e = .returned (.tuple #[.agg #[u, .int .i64 r.C], .bool true]) ∧ OwnI w.heap.size w' u r.A
/-- no row of a branch is too large. -/
def Good (n : Nat) (br : List Rw) : Prop := ∀ r ∈ br, r.A.length = n ∧ withinB r big = true
set_option maxRecDepth 100000 in
set_option maxHeartbeats 4000000 in
theorem cut_any (k d : Int) (v : Value) (br : List Rw) (n : Nat) (w : World) (hv : IsRs w v br) (hG : Good n br) (hn : n ≤ 1000) (hl : br.length ≤ 140737488351232) :
    Calls Try.prog 40 #[.int .i64 k, .int .i64 d, v] w (CutRes w (cutS k d br)) := by
  obtain ⟨p, cp, rfl, hcp⟩ := hv.shape
  have H0 := Lib.hid (Blk.new w #[.slice none 0 0, .int .i64 0] 37)
  have hbw : Below w.heap.size w (w.alloc (.cells #[.slice none 0 0, .int .i64 0] 37)) := by go_grown
  have HW := Lib.hid hbw
  have z0 := H0.out.cell 0 rfl
  have z1 := H0.out.cell 1 rfl
  clear hbw
  have HNo := Lib.hid (fun (a : Act) (ha : a.defers = []) (hq : (results Try.f40 a.tmps).run Try.prog (w.alloc (.cells #[.slice none 0 0, .int .i64 0] 37)) = .ok (.tuple #[.agg #[.slice none 0 0, .int .i64 0], .bool false]) (w.alloc (.cells #[.slice none 0 0, .int .i64 0] 37))) => trivial)
  clear HNo
  by_cases h1 : k < 0
  · have HS := Lib.hid (show cutS k d br = none by unfold cutS; rw [if_neg (by omega)])
    go_enter Try.func40, Try.ntmps40
    go_wp2
    rw [HS.out]
    refine bodyPost_ret (v := .tuple #[.agg #[.slice none 0 0, .int .i64 0], .bool false]) (by simp [results, Try.results40, go_sem, z0, z1]) rfl ⟨HW.out, _, rfl, rfl⟩
  · by_cases h2 : (br.length : Int) ≤ k
    · have HS := Lib.hid (show cutS k d br = none by unfold cutS; split; rw [List.getElem?_eq_none (by omega)]; rfl)
      have d1 : decide ((br.length : Int) ≤ k) = true := by rw [decide_eq_true_iff]; exact h2
      go_enter Try.func40, Try.ntmps40
      go_wp2
      rw [HS.out]
      refine bodyPost_ret (v := .tuple #[.agg #[.slice none 0 0, .int .i64 0], .bool false]) (by simp [results, Try.results40, go_sem, z0, z1]) rfl ⟨HW.out, _, rfl, rfl⟩
    · by_cases h3 : d < 2
      · have HS := Lib.hid (show cutS k d br = none by unfold cutS; rw [if_neg (by omega)])
        have d1 : decide ((br.length : Int) ≤ k) = false := by rw [decide_eq_false_iff_not]; exact h2
        go_enter Try.func40, Try.ntmps40
        go_wp2
        rw [HS.out]
        refine bodyPost_ret (v := .tuple #[.agg #[.slice none 0 0, .int .i64 0], .bool false]) (by simp [results, Try.results40, go_sem, z0, z1]) rfl ⟨HW.out, _, rfl, rfl⟩
      · obtain ⟨kk, rfl⟩ : ∃ i : Nat, k = (i : Int) := ⟨k.toNat, by omega⟩
        have hkl : kk < br.length := by omega
        obtain ⟨r, hr⟩ := get_of_lt hkl
        have HS := Lib.hid (show cutS (kk : Int) d br = if r.A.all (fun a => decide (a % d = 0)) = true then some ⟨r.A.map (· / d), r.C / d⟩ else none by
          unfold cutS; rw [if_pos (by omega), Int.toNat_natCast, hr])
        obtain ⟨hlen, hwi⟩ := hG r (List.mem_of_getElem? hr)
        obtain ⟨hwa, hc1, hc2⟩ := within_iff.1 hwi
        unfold big at hc1 hc2
        have HA := Lib.hid hwa
        obtain ⟨b1, o1, u1, rfl, cx, cy, hu⟩ := hv.at hr
        obtain ⟨pu, cu, rfl, hcu⟩ := hu.shape
        have HU := Lib.hid (fun W (hW : Below w.heap.size w W) => hu.grows hW)
        have HLen := Lib.hid hlen
        have hrl : r.A.length ≤ 1000 := by omega
        obtain ⟨q1, q2⟩ := div_in (a := r.C) (d := d) (B := 1099511627776) (by omega) (by omega) ⟨hc1, hc2⟩
        have d1 : decide (br.length ≤ kk) = false := by rw [decide_eq_false_iff_not]; omega
        have d2 : (d == 0) = false := by rw [beq_eq_false_iff_ne]; omega
        have d3 : ¬ d = 0 := by omega
        have cxx := (HW.out.cell (lt_of_cell cx)).trans cx
        have cyy := (HW.out.cell (lt_of_cell cy)).trans cy
        have HCx := Lib.hid (And.intro cx cy)
        have HZ := Lib.hid (And.intro (tdiv_neg (a := r.C) (d := d) (by omega)) (tdiv_pos (a := r.C) (d := d) (by omega)))
        have HLb := Lib.hid (And.intro (lt_of_cell cx) (lt_of_cell cy))
        clear cx cy hr hv hG hwi hwa hu hlen hcp
        have hlb : b1 < w.heap.size := HLb.out.1
        obtain ⟨ii, hii, hi0, hi1, hi2⟩ := info_parts infoI
        by_cases hm : r.C.tmod d < 0
        · have q3 : r.C.tdiv d = r.C / d + 1 := by have := HZ.out.1 hm; omega
          have HQ3 := Lib.hid q3
          clear q3
          have q4 : -1099511627776 ≤ r.C.tdiv d := by have := HQ3.out; omega
          have q5 : r.C.tdiv d ≤ 1099511627777 := by have := HQ3.out; omega
          go_enter Try.func40, Try.ntmps40
          go_upto_region 6 with fail
          refine wp_world fun w3 hw3 => ?_
          have Z3 : Blk w3 w.heap.size #[.slice none 0 0, .int .i64 0] 37 := by rw [hw3]; exact (Blk.new w _ _).alloc _
          have R3 : Blk w3 (w.heap.size + 1) #[.slice none 0 0, .int .i64 (r.C / d)] 37 := by
            rw [hw3, show r.C / d = r.C.tdiv d - 1 by have := HQ3.out; omega]; exact Blk.alloc1 w _ _ _ _
          have hbw3 : Below w.heap.size w w3 := by rw [hw3]; go_grown
          clear hw3 q4 q5 HQ3
          have hb3 : Below w.heap.size w w3 := hbw3
          have HW3 := Lib.hid hb3
          have HZ3 := Lib.hid Z3
          have HR3 := Lib.hid R3
          have cx3 := (hb3.cell (lt_of_cell HCx.out.1)).trans HCx.out.1
          clear hb3 hbw3 Z3 R3 cxx cyy z0 z1
          go_wp2
          clear cx3
          go_loopw [50] (fun iv wr => ∃ (i : Nat) (u : Value), i ≤ r.A.length ∧ iv = .int .i64 i ∧ Blk wr (w.heap.size + 1) #[u, .int .i64 (r.C / d)] 37 ∧ wr.ownsRow w.heap.size 3 1 u i (((r.A.take i).map (· / d)).map (Value.int .i64)) ∧ (∀ (j : Nat) (y : Int), j < i → r.A[j]? = some y → decide (y % d = 0) = true) ∧ Blk wr w.heap.size #[.slice none 0 0, .int .i64 0] 37 ∧ Below w.heap.size w wr) (fun iv _ => r.A.length - (RowKit.intOf iv).toNat)
          case atStart => exact ⟨0, _, Nat.zero_le _, rfl, HR3.out, World.ownsRow_nil _ _ _ _, fun j y hj => by omega, HZ3.out, HW3.out⟩
          case round =>
            obtain ⟨i, u, hi, rfl, hR, hown, hall, hZ, hbw⟩ := hrel
            have HNn := Lib.hid hall
            have HO := Lib.hid hown
            have HRr := Lib.hid hR
            have HZr := Lib.hid hZ
            have HWr := Lib.hid hbw
            obtain ⟨up, uc, rfl⟩ := own_shape hown
            clear hall hown hR hZ hbw
            by_cases hlt : i < r.A.length
            · obtain ⟨a, ha⟩ := get_of_lt hlt
              obtain ⟨ub, uo, hue, ca⟩ := (HU.out _ HWr.out).at ha
              subst hue
              obtain ⟨ha1, ha2⟩ := HA.out a (List.mem_of_getElem? ha)
              unfold big at ha1 ha2
              have HXx := Lib.hid ha
              clear ha
              by_cases hz : a % d = 0
              · have ht := (tmod_zero (a := a) (d := d) (by omega)).2 hz
                have e1 : (a.tmod d != 0) = false := by rw [ht]; rfl
                have HT := Lib.hid (show a.tdiv d = a / d from tdiv_pos (by omega) (by omega))
                have HTk := Lib.hid (show (r.A.take (i + 1)).map (· / d) = (r.A.take i).map (· / d) ++ [a / d] by rw [take_snoc HXx.out, List.map_append]; rfl)
                generalize (r.A.take i).map (· / d) = m at HO HTk
                have r0 := HRr.out.cell 0 rfl
                have fr := HRr.out.free 0
                have hrlt := HRr.out.lt
                have hws := HWr.out.size
                have HFg := Lib.hid (fun (o : Obj) (w7 : World) (hg : (wr.drew.alloc o).grownBy w7 (Value.slice up i uc).ownBlock) => (show Blk w7 (w.heap.size + 1) #[.slice up i uc, .int .i64 (r.C / d)] 37 ∧ Blk w7 w.heap.size #[.slice none 0 0, .int .i64 0] 37 ∧ Below w.heap.size w w7 from
                  ⟨(HRr.out.drew.alloc o).grownBy hg (own_ne (own_alloc HO.out o) (HRr.out.alloc o) (by decide)), (HZr.out.drew.alloc o).grownBy hg (own_ne (own_alloc HO.out o) (HZr.out.alloc o) (by decide)), ((below_drew HWr.out).alloc hws o).grown hg (by show _ ≤ _; simp; omega) (own_ge HO.out)⟩))
                have HCa := Lib.hid ca
                have HH := Lib.hid (And.intro hz ht)
                clear hz ht
                go_wp2
                clear e1
                go_region_law (first | ((refine grow_step rfl _ _ 22 rfl rfl w.heap.size 3 ii (.int .i64 0) 1 8 Try.underlying22 hii hi0 hi1 hi2 rfl (by decide) (.slice up i uc) i (m.map (Value.int .i64)) rfl (own_alloc HO.out _) ⟨wr.heap.size, 0, none⟩ 1 1 [.int .i64 (IntKind.i64.wrap (a.tdiv d))] rfl rfl (cells_new _ _ _ _ rfl) (one_all rfl) (by unfold maxLen; omega) (by omega) (by simp; omega) ?_; intro v7 w7 hown7 hg7; obtain ⟨p7, c7, rfl⟩ := own_shape hown7; have hF7 := HFg.out _ _ hg7; have f7 := hF7.1.cell 0 rfl; have g7 := hF7.1.free 0; have hl7 := hF7.1.lt; have HO7 := Lib.hid hown7; have HF7 := Lib.hid hF7; clear hown7 hg7 hF7)) | fail)
                all_goals
                  go_wp2
                  go_roundw
                  case rel =>
                    obtain ⟨g1, g2, g3⟩ := HF7.out
                    refine ⟨i + 1, .slice p7 (i + 1) c7, by omega, by go_num, g1.set 0 _, ?_, ?_, g2.other (by show _ ≠ w.heap.size + 1; omega) _, g3.setCell (p := ⟨w.heap.size + 1, 0, none⟩) (by show _ ≤ w.heap.size + 1; omega) _⟩
                    · have hq := div_in (a := a) (d := d) (B := 1099511627776) (by omega) (by omega) ⟨by omega, by omega⟩
                      have hwq : IntKind.i64.wrap (a.tdiv d) = a / d := by rw [HT.out, IntWalk.i64_in _ (by omega)]
                      have ho := HO7.out
                      rw [hwq] at ho
                      rw [HTk.out, List.map_append]
                      exact own_keep (S := fun t => t = 3) ho (KeptTy.set g1 (by decide) _) rfl
                    · exact all_snoc HNn.out HXx.out (by rw [decide_eq_true_iff]; exact HH.out.1)
                  case measure => simp [RowKit.intOf]; omega
              · have e1 : (a.tmod d != 0) = true := by rw [bne_iff_ne]; intro h0; exact hz ((tmod_zero (by omega)).1 h0)
                have HX2 := Lib.hid (show cutS (kk : Int) d br = none by rw [HS.out, if_neg]; rw [all_no HXx.out (by simpa using hz)]; simp)
                have z0 := HZr.out.cell 0 rfl
                have z1 := HZr.out.cell 1 rfl
                have y0 := HZr.out.free 0
                have y1 := HZr.out.free 1
                have ylt := HZr.out.lt
                clear hz
                go_wp2
                refine at_world fun W hW => ?_
                have RW : Blk W w.heap.size #[.slice none 0 0, .int .i64 0] 37 := by rw [hW]; exact (HZr.out.set 0 _).set 1 _
                have hBW : Below w.heap.size w W := by rw [hW]; exact (HWr.out.setCell (p := ⟨w.heap.size, 0, none⟩) (Nat.le_refl _) _).setCell (p := ⟨w.heap.size, 1, none⟩) (Nat.le_refl _) _
                have q0 := RW.cell 0 rfl
                have q1 := RW.cell 1 rfl
                clear hW RW
                rw [HX2.out]
                refine bodyPost_ret (v := .tuple #[.agg #[.slice none 0 0, .int .i64 0], .bool false]) (by simp [results, Try.results40, go_sem, q0, q1]) rfl ⟨hBW, _, rfl, rfl⟩
            · have HX2 := Lib.hid (show cutS (kk : Int) d br = some ⟨r.A.map (· / d), r.C / d⟩ by rw [HS.out, if_pos (all_of_get (by omega) HNn.out)])
              have HE := Lib.hid (show r.A.take i = r.A from List.take_of_length_le (by omega))
              have hil : i = r.A.length := by omega
              have HIl := Lib.hid hil
              have z0 := HRr.out.cell 0 rfl
              have z1 := HRr.out.cell 1 rfl
              have x0 := HZr.out.cell 0 rfl
              have x1 := HZr.out.cell 1 rfl
              have y0 := HZr.out.free 0
              have y1 := HZr.out.free 1
              have ylt := HZr.out.lt
              clear hil
              go_wp2
              refine at_world fun W hW => ?_
              have RW : Blk W w.heap.size #[.slice up i uc, .int .i64 (r.C / d)] 37 := by rw [hW]; exact (HZr.out.set 0 _).set 1 _
              have hBW : Below w.heap.size w W := by rw [hW]; exact (HWr.out.setCell (p := ⟨w.heap.size, 0, none⟩) (Nat.le_refl _) _).setCell (p := ⟨w.heap.size, 1, none⟩) (Nat.le_refl _) _
              have hOW : W.ownsRow w.heap.size 3 1 (.slice up i uc) i (((r.A.take i).map (· / d)).map (Value.int .i64)) := by
                rw [hW]
                exact own_keep (S := fun t => t = 3) HO.out ((KeptTy.set (p := ⟨w.heap.size, 0, none⟩) HZr.out (by decide) _).trans (KeptTy.set (p := ⟨w.heap.size, 1, none⟩) (HZr.out.set 0 _) (by decide) _)) rfl
              have q0 := RW.cell 0 rfl
              have q1 := RW.cell 1 rfl
              clear hW RW x0 x1 y0 y1 ylt z0 z1
              rw [HX2.out]
              have hI : OwnI w.heap.size W (.slice up i uc) (r.A.map (· / d)) := by
                rw [HE.out] at hOW
                unfold OwnI
                rw [List.length_map, ← HIl.out]; exact hOW
              refine bodyPost_ret (v := .tuple #[.agg #[.slice up i uc, .int .i64 (r.C / d)], .bool true]) (by simp [results, Try.results40, go_sem, q0, q1]) rfl ⟨hBW, _, rfl, hI⟩
        · have q3 : r.C.tdiv d = r.C / d := HZ.out.2 hm
          have HQ3 := Lib.hid q3
          clear q3
          go_enter Try.func40, Try.ntmps40
          go_upto_region 6 with fail
          refine wp_world fun w3 hw3 => ?_
          have Z3 : Blk w3 w.heap.size #[.slice none 0 0, .int .i64 0] 37 := by rw [hw3]; exact (Blk.new w _ _).alloc _
          have R3 : Blk w3 (w.heap.size + 1) #[.slice none 0 0, .int .i64 (r.C / d)] 37 := by
            rw [hw3, ← HQ3.out]; exact Blk.alloc1 w _ _ _ _
          have hbw3 : Below w.heap.size w w3 := by rw [hw3]; go_grown
          clear hw3 HQ3
          have hb3 : Below w.heap.size w w3 := hbw3
          have HW3 := Lib.hid hb3
          have HZ3 := Lib.hid Z3
          have HR3 := Lib.hid R3
          have cx3 := (hb3.cell (lt_of_cell HCx.out.1)).trans HCx.out.1
          clear hb3 hbw3 Z3 R3 cxx cyy z0 z1
          go_wp2
          clear cx3
          go_loopw [50] (fun iv wr => ∃ (i : Nat) (u : Value), i ≤ r.A.length ∧ iv = .int .i64 i ∧ Blk wr (w.heap.size + 1) #[u, .int .i64 (r.C / d)] 37 ∧ wr.ownsRow w.heap.size 3 1 u i (((r.A.take i).map (· / d)).map (Value.int .i64)) ∧ (∀ (j : Nat) (y : Int), j < i → r.A[j]? = some y → decide (y % d = 0) = true) ∧ Blk wr w.heap.size #[.slice none 0 0, .int .i64 0] 37 ∧ Below w.heap.size w wr) (fun iv _ => r.A.length - (RowKit.intOf iv).toNat)
          case atStart => exact ⟨0, _, Nat.zero_le _, rfl, HR3.out, World.ownsRow_nil _ _ _ _, fun j y hj => by omega, HZ3.out, HW3.out⟩
          case round =>
            obtain ⟨i, u, hi, rfl, hR, hown, hall, hZ, hbw⟩ := hrel
            have HNn := Lib.hid hall
            have HO := Lib.hid hown
            have HRr := Lib.hid hR
            have HZr := Lib.hid hZ
            have HWr := Lib.hid hbw
            obtain ⟨up, uc, rfl⟩ := own_shape hown
            clear hall hown hR hZ hbw
            by_cases hlt : i < r.A.length
            · obtain ⟨a, ha⟩ := get_of_lt hlt
              obtain ⟨ub, uo, hue, ca⟩ := (HU.out _ HWr.out).at ha
              subst hue
              obtain ⟨ha1, ha2⟩ := HA.out a (List.mem_of_getElem? ha)
              unfold big at ha1 ha2
              have HXx := Lib.hid ha
              clear ha
              by_cases hz : a % d = 0
              · have ht := (tmod_zero (a := a) (d := d) (by omega)).2 hz
                have e1 : (a.tmod d != 0) = false := by rw [ht]; rfl
                have HT := Lib.hid (show a.tdiv d = a / d from tdiv_pos (by omega) (by omega))
                have HTk := Lib.hid (show (r.A.take (i + 1)).map (· / d) = (r.A.take i).map (· / d) ++ [a / d] by rw [take_snoc HXx.out, List.map_append]; rfl)
                generalize (r.A.take i).map (· / d) = m at HO HTk
                have r0 := HRr.out.cell 0 rfl
                have fr := HRr.out.free 0
                have hrlt := HRr.out.lt
                have hws := HWr.out.size
                have HFg := Lib.hid (fun (o : Obj) (w7 : World) (hg : (wr.drew.alloc o).grownBy w7 (Value.slice up i uc).ownBlock) => (show Blk w7 (w.heap.size + 1) #[.slice up i uc, .int .i64 (r.C / d)] 37 ∧ Blk w7 w.heap.size #[.slice none 0 0, .int .i64 0] 37 ∧ Below w.heap.size w w7 from
                  ⟨(HRr.out.drew.alloc o).grownBy hg (own_ne (own_alloc HO.out o) (HRr.out.alloc o) (by decide)), (HZr.out.drew.alloc o).grownBy hg (own_ne (own_alloc HO.out o) (HZr.out.alloc o) (by decide)), ((below_drew HWr.out).alloc hws o).grown hg (by show _ ≤ _; simp; omega) (own_ge HO.out)⟩))
                have HCa := Lib.hid ca
                have HH := Lib.hid (And.intro hz ht)
                clear hz ht
                go_wp2
                clear e1
                go_region_law (first | ((refine grow_step rfl _ _ 22 rfl rfl w.heap.size 3 ii (.int .i64 0) 1 8 Try.underlying22 hii hi0 hi1 hi2 rfl (by decide) (.slice up i uc) i (m.map (Value.int .i64)) rfl (own_alloc HO.out _) ⟨wr.heap.size, 0, none⟩ 1 1 [.int .i64 (IntKind.i64.wrap (a.tdiv d))] rfl rfl (cells_new _ _ _ _ rfl) (one_all rfl) (by unfold maxLen; omega) (by omega) (by simp; omega) ?_; intro v7 w7 hown7 hg7; obtain ⟨p7, c7, rfl⟩ := own_shape hown7; have hF7 := HFg.out _ _ hg7; have f7 := hF7.1.cell 0 rfl; have g7 := hF7.1.free 0; have hl7 := hF7.1.lt; have HO7 := Lib.hid hown7; have HF7 := Lib.hid hF7; clear hown7 hg7 hF7)) | fail)
                all_goals
                  go_wp2
                  go_roundw
                  case rel =>
                    obtain ⟨g1, g2, g3⟩ := HF7.out
                    refine ⟨i + 1, .slice p7 (i + 1) c7, by omega, by go_num, g1.set 0 _, ?_, ?_, g2.other (by show _ ≠ w.heap.size + 1; omega) _, g3.setCell (p := ⟨w.heap.size + 1, 0, none⟩) (by show _ ≤ w.heap.size + 1; omega) _⟩
                    · have hq := div_in (a := a) (d := d) (B := 1099511627776) (by omega) (by omega) ⟨by omega, by omega⟩
                      have hwq : IntKind.i64.wrap (a.tdiv d) = a / d := by rw [HT.out, IntWalk.i64_in _ (by omega)]
                      have ho := HO7.out
                      rw [hwq] at ho
                      rw [HTk.out, List.map_append]
                      exact own_keep (S := fun t => t = 3) ho (KeptTy.set g1 (by decide) _) rfl
                    · exact all_snoc HNn.out HXx.out (by rw [decide_eq_true_iff]; exact HH.out.1)
                  case measure => simp [RowKit.intOf]; omega
              · have e1 : (a.tmod d != 0) = true := by rw [bne_iff_ne]; intro h0; exact hz ((tmod_zero (by omega)).1 h0)
                have HX2 := Lib.hid (show cutS (kk : Int) d br = none by rw [HS.out, if_neg]; rw [all_no HXx.out (by simpa using hz)]; simp)
                have z0 := HZr.out.cell 0 rfl
                have z1 := HZr.out.cell 1 rfl
                have y0 := HZr.out.free 0
                have y1 := HZr.out.free 1
                have ylt := HZr.out.lt
                clear hz
                go_wp2
                refine at_world fun W hW => ?_
                have RW : Blk W w.heap.size #[.slice none 0 0, .int .i64 0] 37 := by rw [hW]; exact (HZr.out.set 0 _).set 1 _
                have hBW : Below w.heap.size w W := by rw [hW]; exact (HWr.out.setCell (p := ⟨w.heap.size, 0, none⟩) (Nat.le_refl _) _).setCell (p := ⟨w.heap.size, 1, none⟩) (Nat.le_refl _) _
                have q0 := RW.cell 0 rfl
                have q1 := RW.cell 1 rfl
                clear hW RW
                rw [HX2.out]
                refine bodyPost_ret (v := .tuple #[.agg #[.slice none 0 0, .int .i64 0], .bool false]) (by simp [results, Try.results40, go_sem, q0, q1]) rfl ⟨hBW, _, rfl, rfl⟩
            · have HX2 := Lib.hid (show cutS (kk : Int) d br = some ⟨r.A.map (· / d), r.C / d⟩ by rw [HS.out, if_pos (all_of_get (by omega) HNn.out)])
              have HE := Lib.hid (show r.A.take i = r.A from List.take_of_length_le (by omega))
              have hil : i = r.A.length := by omega
              have HIl := Lib.hid hil
              have z0 := HRr.out.cell 0 rfl
              have z1 := HRr.out.cell 1 rfl
              have x0 := HZr.out.cell 0 rfl
              have x1 := HZr.out.cell 1 rfl
              have y0 := HZr.out.free 0
              have y1 := HZr.out.free 1
              have ylt := HZr.out.lt
              clear hil
              go_wp2
              refine at_world fun W hW => ?_
              have RW : Blk W w.heap.size #[.slice up i uc, .int .i64 (r.C / d)] 37 := by rw [hW]; exact (HZr.out.set 0 _).set 1 _
              have hBW : Below w.heap.size w W := by rw [hW]; exact (HWr.out.setCell (p := ⟨w.heap.size, 0, none⟩) (Nat.le_refl _) _).setCell (p := ⟨w.heap.size, 1, none⟩) (Nat.le_refl _) _
              have hOW : W.ownsRow w.heap.size 3 1 (.slice up i uc) i (((r.A.take i).map (· / d)).map (Value.int .i64)) := by
                rw [hW]
                exact own_keep (S := fun t => t = 3) HO.out ((KeptTy.set (p := ⟨w.heap.size, 0, none⟩) HZr.out (by decide) _).trans (KeptTy.set (p := ⟨w.heap.size, 1, none⟩) (HZr.out.set 0 _) (by decide) _)) rfl
              have q0 := RW.cell 0 rfl
              have q1 := RW.cell 1 rfl
              clear hW RW x0 x1 y0 y1 ylt z0 z1
              rw [HX2.out]
              have hI : OwnI w.heap.size W (.slice up i uc) (r.A.map (· / d)) := by
                rw [HE.out] at hOW
                unfold OwnI
                rw [List.length_map, ← HIl.out]; exact hOW
              refine bodyPost_ret (v := .tuple #[.agg #[.slice up i uc, .int .i64 (r.C / d)], .bool true]) (by simp [results, Try.results40, go_sem, q0, q1]) rfl ⟨hBW, _, rfl, hI⟩
end Go.Proofs.Ytmhhfommgdljkaa
