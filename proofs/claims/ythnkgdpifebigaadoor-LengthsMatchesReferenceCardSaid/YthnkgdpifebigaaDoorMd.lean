/-
  Walks: the reference's Made: a valid set out of any.
-/
import Derived.Test.YthnkgdpifebigaaDoorPa
import Derived.Test.YthnkgdpifebigaaDoorCo
import Derived.Deep.RegionLaw
import Derived.Deep.AppendLies
set_option linter.unusedSimpArgs false
set_option linter.unusedVariables false
namespace Go.Proofs.YthnkgdpifebigaaDoor
open Go.RowKit

/-- an empty cycle becomes a false one. -/
def cycOf : List Bool → List Bool
  | [] => [false]
  | b :: l => b :: l
theorem cycOf_nil {l : List Bool} (h : l.length = 0) : cycOf l = [false] := by rw [List.length_eq_zero_iff.1 h]; rfl
theorem cycOf_pos {l : List Bool} (h : 0 < l.length) : cycOf l = l := by cases l with
  | nil => simp at h
  | cons b l => rfl
theorem cycOf_len (l : List Bool) : 0 < (cycOf l).length ∧ (cycOf l).length ≤ max 1 l.length := by
  cases l with
  | nil => simp [cycOf]
  | cons b l => simp [cycOf]
theorem cells_newB (W : World) (a : Value) (t : TypeId) (m : Nat) (hm : m = W.heap.size) : ∀ j u, [a][j]? = some u → (W.alloc (.cells #[a] t)).cell? ((⟨m, 0, none⟩ : Addr).add j) = some u := by
  subst hm; exact cells_new1 W a t
theorem bool_one (b : Bool) : ∀ u ∈ [Value.bool b], u.oneCell' = true := by intro u hu; simp at hu; subst hu; rfl
theorem take_snocB {l : List Bool} {k : Nat} (hk : k < l.length) : l.take (k + 1) = l.take k ++ [l.getD k false] := by
  rw [List.take_succ_eq_append_getElem hk, List.getD_eq_getElem?_getD, List.getElem?_eq_getElem hk]; rfl
theorem take_same {l : List Bool} {k n : Nat} (h1 : k ≤ l.length) (h2 : k ≤ n) (h : k = n ∨ k = l.length) : l.take k = l.take n := by
  rcases h with rfl | rfl
  · rfl
  · rw [List.take_length, List.take_of_length_le h2]

set_option maxRecDepth 100000 in
set_option maxHeartbeats 4000000 in
theorem made_any (v : Value) (h c : List Bool) (hd cy : Nat) (w : World) (hv : IsSet w v h c) (h1 : h.length ≤ 1152921504606846976) (h2 : c.length ≤ 1152921504606846976) (hhd : hd ≤ 1000) (hcy : cy ≤ 1000) :
    Calls Tryd.prog 13 #[v, .int .i64 (hd : Int), .int .i64 (cy : Int)] w fun e w' =>
      (∃ vo, e = .returned vo ∧ OwnSet w' w.heap.size vo (h.take hd) (cycOf (c.take cy))) ∧ Below w.heap.size w w' := by
  obtain ⟨hp, hk, cp, ck, rfl, a1, a2⟩ := hv.shape
  obtain ⟨i0, hi, hz0, hz1, hz2⟩ := info_parts infoBool
  have HA := Lib.hid (fun W (hW : Below w.heap.size w W) k (hk : k < h.length) => (a1.grows hW).at hk)
  have HC := Lib.hid (fun W (hW : Below w.heap.size w W) k (hk : k < c.length) => (a2.grows hW).at hk)
  clear hv a1 a2
  obtain ⟨hs, hhs⟩ : ∃ hs, h.take hd = hs := ⟨_, rfl⟩
  obtain ⟨cs, hcs⟩ : ∃ cs, c.take cy = cs := ⟨_, rfl⟩
  obtain ⟨cz, hcz⟩ : ∃ cz, cycOf cs = cz := ⟨_, rfl⟩
  rw [hhs, hcs, hcz]
  have htl0 : hs.length ≤ 1000 := by rw [← hhs, List.length_take]; omega
  have htc0 : cs.length ≤ 1000 := by rw [← hcs, List.length_take]; omega
  have HHs := Lib.hid hhs
  have HCs := Lib.hid hcs
  have HCz := Lib.hid hcz
  clear hhs hcs hcz
  have X := ((Blk.new w #[.slice hp h.length hk, .slice cp c.length ck] 24).alloc (.cells #[.slice none 0 0, .slice none 0 0] 24)).alloc (.cells #[.slice none 0 0, .slice none 0 0] 24)
  have R := (Blk.alloc1 w #[.slice hp h.length hk, .slice cp c.length ck] #[.slice none 0 0, .slice none 0 0] 24 24).alloc (.cells #[.slice none 0 0, .slice none 0 0] 24)
  have P := Blk.alloc2 w (.cells #[.slice hp h.length hk, .slice cp c.length ck] 24) (.cells #[.slice none 0 0, .slice none 0 0] 24) #[.slice none 0 0, .slice none 0 0] 24
  have hbw : Below w.heap.size w (((w.alloc (.cells #[.slice hp h.length hk, .slice cp c.length ck] 24)).alloc (.cells #[.slice none 0 0, .slice none 0 0] 24)).alloc (.cells #[.slice none 0 0, .slice none 0 0] 24)) := by go_grown
  have hBw : w.heap.size + 3 ≤ (((w.alloc (.cells #[.slice hp h.length hk, .slice cp c.length ck] 24)).alloc (.cells #[.slice none 0 0, .slice none 0 0] 24)).alloc (.cells #[.slice none 0 0, .slice none 0 0] 24)).heap.size := by simp
  go_enter Tryd.func13, Tryd.ntmps13
  go_wp2
  generalize (((w.alloc (.cells #[.slice hp h.length hk, .slice cp c.length ck] 24)).alloc (.cells #[.slice none 0 0, .slice none 0 0] 24)).alloc (.cells #[.slice none 0 0, .slice none 0 0] 24)) = w4 at X R P hbw hBw ⊢
  obtain ⟨B, hB⟩ : ∃ B, B = w.heap.size + 3 := ⟨_, rfl⟩
  rw [← hB] at hBw
  have hqB : w.heap.size + 1 + 1 < B := by omega
  have hsq : w.heap.size + 1 < w.heap.size + 1 + 1 := by omega
  have P : Blk w4 (w.heap.size + 1 + 1) _ _ := P
  generalize w.heap.size + 1 + 1 = q at P hqB hsq ⊢
  have O := World.ownsRow_nil w4 B 4 1
  go_loopw [8] (fun i wr => ∃ (k : Nat) (u : Value), i = .int .i64 k ∧ k ≤ h.length ∧ k ≤ hd ∧ Blk wr w.heap.size #[.slice hp h.length hk, .slice cp c.length ck] 24 ∧ Blk wr (w.heap.size + 1) #[.slice none 0 0, .slice none 0 0] 24 ∧ Blk wr q #[u, .slice none 0 0] 24 ∧
      wr.ownsRow B 4 1 u (h.take k).length ((h.take k).map Value.bool) ∧ B ≤ wr.heap.size ∧ Below w.heap.size w wr) (fun i _ => h.length - (RowKit.intOf i).toNat)
  case atStart => exact ⟨0, _, rfl, Nat.zero_le _, Nat.zero_le _, X, R, P, own_cast O rfl rfl, hBw, hbw⟩
  case round =>
    clear X R P hbw hBw O
    obtain ⟨k, u, rfl, hkl, hkd, X, R, P, O, hBw, hbw⟩ := hrel
    obtain ⟨p0, k0, rfl⟩ := own_shape O
    have x0 := X.cell 0 rfl
    have x1 := X.cell 1 rfl
    by_cases hlt : k < h.length ∧ k < hd
    · obtain ⟨hlt1, hlt2⟩ := hlt
      have d1 : decide ((k : Int) < (h.length : Int)) = true := by simp; omega
      have d2 : decide ((k : Int) < (hd : Int)) = true := by simp; omega
      obtain ⟨blk, off, rfl, hcell⟩ := HA.out _ hbw k hlt1
      have hcl := lt_of_cell hcell
      have HT := Lib.hid (take_snocB hlt1)
      have htl : (h.take k).length ≤ 1000 := by rw [List.length_take]; omega
      have hq1 := P.lt
      have p0 := P.cell 0 rfl
      have p1 := P.cell 1 rfl
      have f0 := P.free 0
      have f1 := P.free 1
      have hx := X.lt
      generalize h.getD k false = b at hcell HT
      generalize h.take k = xs at O HT htl P p0
      have HO := Lib.hid O
      have hge := own_ge O
      clear O
      go_wp2
      go_region_law (first | (refine step_append_lies _ rfl _ _ 22 rfl B 4 i0 _ 1 1 Tryd.underlying22 hi hz0 hz1 hz2 rfl (by decide) _ _ _ rfl (own_alloc HO.out _) ⟨wr.heap.size, 0, none⟩ 1 1 [.bool b] rfl rfl (cells_newB _ _ _ _ rfl) (bool_one b) (by decide) (by unfold maxLen; omega) (by omega) (by simp; omega) _ rfl ?_; intro g cap w6 hown2 hgrow hat hlt2; have P6 := ((P.drew).alloc (.cells #[.bool b] 4)).grownBy hgrow (fun g e => by have := hge g e; omega); have q0 := P6.cell 0 rfl; have f6 := P6.free 0))
      all_goals
        go_wp2
        go_roundw
        case rel => exact ⟨k + 1, _, by go_num, by omega, by omega,
          (((X.drew).alloc (.cells #[.bool b] 4)).grownBy hgrow (fun g e => by have := hge g e; omega)).other (by show w.heap.size ≠ q; omega) _,
          (((R.drew).alloc (.cells #[.bool b] 4)).grownBy hgrow (fun g e => by have := hge g e; omega)).other (by show w.heap.size + 1 ≠ q; omega) _,
          P6.set 0 _,
          by rw [HT.out]; exact own_cast (own_set (p := ⟨q, 0, none⟩) hown2 hqB _) (by simp) (by simp),
          by have h7 := hgrow.size; simp at h7 ⊢; omega,
          ((((hbw.drew).alloc (by have := hbw.size; simp; omega) (.cells #[.bool b] 4))).grown hgrow (by have h8 := hbw.size; simp; omega) (fun g e => by have := hge g e; omega)).setCell (by show w.heap.size ≤ q; omega) _⟩
        case measure => simp [RowKit.intOf]; omega
    · have hend : k = hd ∨ k = h.length := by omega
      have HT := Lib.hid ((take_same hkl hkd hend).trans HHs.out)
      rw [HT.out] at O P
      have hout : (k < h.length ∧ ¬ k < hd) ∨ ¬ k < h.length := by omega
      clear hkl hkd hend hlt HT HA
      rcases hout with ⟨d1, d2⟩ | d1
      all_goals
        have hge := own_ge O
        obtain ⟨e0, he0⟩ : ∃ e0, e0 = Value.slice p0 hs.length k0 := ⟨_, rfl⟩
        rw [← he0] at O P hge
        have O2 := World.ownsRow_nil wr B 4 1
        have hap : Apart (.slice none 0 0) e0 := apart_nil _
        have hcyc : 0 ≤ c.length := Nat.zero_le _
        go_wp2_with fail
        go_loopw [9] (fun i wr => ∃ (k : Nat) (u : Value), i = .int .i64 k ∧ k ≤ c.length ∧ k ≤ cy ∧ Blk wr w.heap.size #[.slice hp h.length hk, .slice cp c.length ck] 24 ∧ Blk wr (w.heap.size + 1) #[.slice none 0 0, .slice none 0 0] 24 ∧ Blk wr q #[e0, u] 24 ∧
            wr.ownsRow B 4 1 e0 hs.length (hs.map Value.bool) ∧ wr.ownsRow B 4 1 u (c.take k).length ((c.take k).map Value.bool) ∧ Apart u e0 ∧ B ≤ wr.heap.size ∧ Below w.heap.size w wr) (fun i _ => c.length - (RowKit.intOf i).toNat)
        case atStart => exact ⟨0, _, rfl, Nat.zero_le _, Nat.zero_le _, X, R, P, O, own_cast O2 rfl rfl, hap, hBw, hbw⟩
        case round =>
          clear X R P hbw hBw O O2 hap hge x0 x1
          obtain ⟨j, u, rfl, hjl, hjd, X, R, P, O, O2, hap, hBw, hbw⟩ := hrel
          obtain ⟨p2, k2, rfl⟩ := own_shape O2
          have x0 := X.cell 0 rfl
          have x1 := X.cell 1 rfl
          by_cases hlt : j < c.length ∧ j < cy
          · obtain ⟨hlt1, hlt2⟩ := hlt
            obtain ⟨blk, off, rfl, hcell⟩ := HC.out _ hbw j hlt1
            have hcl := lt_of_cell hcell
            have HT := Lib.hid (take_snocB hlt1)
            have htc : (c.take j).length ≤ 1000 := by rw [List.length_take]; omega
            have hq1 := P.lt
            have p0 := P.cell 0 rfl
            have p1 := P.cell 1 rfl
            have f0 := P.free 0
            have f1 := P.free 1
            have hx := X.lt
            generalize c.getD j false = b at hcell HT
            generalize c.take j = xs at O2 HT htc P p1 hap
            have HO := Lib.hid O
            have HO2 := Lib.hid O2
            have HAp := Lib.hid hap
            have hge := own_ge O2
            clear O O2 hap
            go_wp2
            go_region_law (first | (refine step_append_lies _ rfl _ _ 22 rfl B 4 i0 _ 1 1 Tryd.underlying22 hi hz0 hz1 hz2 rfl (by decide) _ _ _ rfl (own_alloc HO2.out _) ⟨wr.heap.size, 0, none⟩ 1 1 [.bool b] rfl rfl (cells_newB _ _ _ _ rfl) (bool_one b) (by decide) (by unfold maxLen; omega) (by omega) (by simp; omega) _ rfl ?_; intro g cap w6 hown2 hgrow hat hlt2; have P6 := ((P.drew).alloc (.cells #[.bool b] 4)).grownBy hgrow (fun g e => by have := hge g e; omega); have q0 := P6.cell 0 rfl; have q1 := P6.cell 1 rfl; have f6 := P6.free 0; have f7 := P6.free 1))
            all_goals
              go_wp2
              go_roundw
              case rel => exact ⟨j + 1, _, by go_num, by omega, by omega,
                (((X.drew).alloc (.cells #[.bool b] 4)).grownBy hgrow (fun g e => by have := hge g e; omega)).other (by show w.heap.size ≠ q; omega) _,
                (((R.drew).alloc (.cells #[.bool b] 4)).grownBy hgrow (fun g e => by have := hge g e; omega)).other (by show w.heap.size + 1 ≠ q; omega) _,
                P6.set 1 _,
                own_set (p := ⟨q, 1, none⟩) (own_grown (w := (wr.alloc (.cells #[.bool b] 4)).drew) (own_alloc HO.out (.cells #[.bool b] 4)) hgrow (fun g' e1 e2 => HAp.out g' e1 e2)) hqB _,
                by rw [HT.out]; exact own_cast (own_set (p := ⟨q, 1, none⟩) hown2 hqB _) (by simp) (by simp),
                apart_new (W := wr.drew) (o := .cells #[.bool b] 4) HAp.out (by rcases hat with h | h; exact .inl h.symm; exact .inr (congrArg some h)) HO.out,
                by have h7 := hgrow.size; simp at h7 ⊢; omega,
                ((((hbw.drew).alloc (by have := hbw.size; simp; omega) (.cells #[.bool b] 4))).grown hgrow (by have h8 := hbw.size; simp; omega) (fun g e => by have := hge g e; omega)).setCell (by show w.heap.size ≤ q; omega) _⟩
              case measure => simp [RowKit.intOf]; omega
          · have hend : j = cy ∨ j = c.length := by omega
            have HT := Lib.hid ((take_same hjl hjd hend).trans HCs.out)
            rw [HT.out] at O2 P hap
            have hout2 : (j < c.length ∧ ¬ j < cy) ∨ ¬ j < c.length := by omega
            clear hjl hjd hend hlt HT HC
            have hge := own_ge O2
            subst he0
            have pc0 := P.cell 0 rfl
            have pc1 := P.cell 1 rfl
            have f0 := P.free 0
            have f1 := P.free 1
            have r0 := R.cell 0 rfl
            have r1 := R.cell 1 rfl
            have z0 := R.free 0
            have z1 := R.free 1
            have hsB : w.heap.size + 1 < B := by omega
            have HO := Lib.hid (And.intro O O2)
            have HAp := Lib.hid hap
            clear O O2 hap
            by_cases hz : cs.length = 0
            · have HZ := Lib.hid (HCz.out.symm.trans (cycOf_nil hz))
              have hnil := List.length_eq_zero_iff.1 hz
              have HO2 := Lib.hid (own_cast (m := 0) (ys := []) HO.out.2 hz (by rw [hnil]; rfl))
              clear hnil HCs HCz
              rw [hz] at P HO2 HAp hge pc1
              have HO1 := Lib.hid HO.out.1
              clear HO hz htc0
              rcases hout2 with ⟨d3, d4⟩ | d3
              all_goals
                go_wp2_with (at_builtin; refine wpList_append_own_at _ rfl _ _ 22 rfl B 4 i0 _ 1 1 Tryd.underlying22 hi hz0 hz1 hz2 rfl (by decide) _ _ _ rfl (own_alloc HO2.out _) ⟨wr.heap.size, 0, none⟩ 1 1 [.bool false] rfl rfl (cells_newB _ _ _ _ rfl) (bool_one false) (by unfold maxLen; omega) (by omega) (by simp; omega) ?_; intro v' w6 hown2 hgrow _ hat; obtain ⟨p6, k6, rfl⟩ := own_shape hown2; have P6 := (P.alloc (.cells #[.bool false] 4)).grownBy hgrow (fun g e => by have := hge g e; omega); have R6 := (R.alloc (.cells #[.bool false] 4)).grownBy hgrow (fun g e => by have := hge g e; omega); have R7 := R6.other (a := ⟨q, 1, none⟩) (by show w.heap.size + 1 ≠ q; omega) (.slice p6 (0 + 1) k6); have b0 := P6.cell 0 rfl; have b1 := P6.cell 1 rfl; have c0 := P6.free 0; have c1 := P6.free 1; have b2 := R7.cell 0 rfl; have b3 := R7.cell 1 rfl; have c2 := R7.free 0; have c3 := R7.free 1)
                have q0 : ((w6.setCell ⟨q, 1, none⟩ (.slice p6 1 k6)).setCell ⟨w.heap.size + 1, 0, none⟩ (.slice p0 hs.length k0)).cell? ⟨w.heap.size + 1, 0, none⟩ = some (.slice p0 hs.length k0) := (R7.set 0 _).cell 0 rfl
                have q1 : (((w6.setCell ⟨q, 1, none⟩ (.slice p6 1 k6)).setCell ⟨w.heap.size + 1, 0, none⟩ (.slice p0 hs.length k0)).setCell ⟨w.heap.size + 1, 1, none⟩ (.slice p6 1 k6)).cell? ⟨w.heap.size + 1, 1, none⟩ = some (.slice p6 1 k6) := ((R7.set 0 _).set 1 _).cell 1 rfl
                have hE := own_grown (own_alloc HO1.out (.cells #[.bool false] 4)) hgrow (fun g' e1 e2 => HAp.out g' e1 e2)
                have hbw6 := ((hbw.alloc hbw.size (.cells #[.bool false] 4)).grown hgrow (by have h8 := hbw.size; simp; omega) (fun g e => by have := hge g e; omega)).setCell (p := ⟨q, 1, none⟩) (by show w.heap.size ≤ q; omega) (.slice p6 1 k6)
                refine bodyPost_ret (v := .agg #[.slice p0 hs.length k0, .slice p6 1 k6]) (by simp [results, Tryd.results13, go_sem, q0, q1]) rfl ⟨⟨_, rfl, _, _, rfl, own_mono (own_set (own_set (own_set hE hqB _) hsB _) hsB _) (by omega), by rw [HZ.out]; exact own_mono (own_set (own_set (own_set hown2 hqB _) hsB _) hsB _) (by omega)⟩, (hbw6.setCell (Nat.le_add_right _ 1) _).setCell (Nat.le_add_right _ 1) _⟩
            · have HZ := Lib.hid (HCz.out.symm.trans (cycOf_pos (Nat.pos_of_ne_zero hz)))
              have hz' : ¬ (cs.length : Int) = 0 := by omega
              rcases hout2 with ⟨d3, d4⟩ | d3
              all_goals
                go_wp2
                have q0 : (wr.setCell ⟨w.heap.size + 1, 0, none⟩ (.slice p0 hs.length k0)).cell? ⟨w.heap.size + 1, 0, none⟩ = some (.slice p0 hs.length k0) := (R.set 0 _).cell 0 rfl
                have q1 : ((wr.setCell ⟨w.heap.size + 1, 0, none⟩ (.slice p0 hs.length k0)).setCell ⟨w.heap.size + 1, 1, none⟩ (.slice p2 cs.length k2)).cell? ⟨w.heap.size + 1, 1, none⟩ = some (.slice p2 cs.length k2) := ((R.set 0 _).set 1 _).cell 1 rfl
                refine bodyPost_ret (v := .agg #[.slice p0 hs.length k0, .slice p2 cs.length k2]) (by simp [results, Tryd.results13, go_sem, q0, q1]) rfl ⟨⟨_, rfl, _, _, rfl, own_mono (own_set (own_set HO.out.1 hsB _) hsB _) (by omega), by rw [HZ.out]; exact own_mono (own_set (own_set HO.out.2 hsB _) hsB _) (by omega)⟩, (hbw.setCell (Nat.le_add_right _ 1) _).setCell (Nat.le_add_right _ 1) _⟩
end Go.Proofs.YthnkgdpifebigaaDoor
