/-
  Walks: the closure of Project, Project.
-/
import Derived.Test.YtmhhfommgdljkaaBv
set_option linter.unusedSimpArgs false
set_option linter.unusedVariables false
namespace Go.Proofs.Ytmhhfommgdljkaa
open Go.RowKit Go.Lib

/-- does a solution take this value? -/
def Takes (s : Sy) (i : Nat) (y : Int) : Prop := ∃ z, Cand s.T z ∧ Sol s.R z ∧ z[i]? = some y
def TakesR (s : Sy) (i : Nat) (y : Int) (q : Bool) : Prop := (q = true ∧ Takes s i y) ∨ (q = false ∧ ¬ Takes s i y)
def TakesRes (w : World) (s : Sy) (i : Nat) (y : Int) (e : Ending) (w' : World) : Prop := ∃ q, TakesR s i y q ∧ e = .returned (.bool q) ∧ Below w.heap.size w w'
theorem fix_in {b : List Iv} {i : Nat} {v : Iv} {z : List Int} (hv : b[i]? = some v) {y : Int} (hy : v.lo ≤ y ∧ y ≤ v.hi) : InB (b.set i { v with lo := y, hi := y }) z ↔ InB b z ∧ z[i]? = some y := by
  rw [InB.iff, InB.iff]
  simp only [List.length_set]
  constructor
  · intro ⟨h1, h2⟩
    have hi := lt_of_get hv
    obtain ⟨u, hu⟩ := get_of_lt (l := z) (k := i) (by omega)
    have h3 := h2 i _ u (by rw [set_at hv, if_pos rfl]) hu
    simp only at h3
    obtain rfl : u = y := by omega
    refine ⟨⟨h1, fun j w x hw hx => ?_⟩, hu⟩
    by_cases e : j = i
    · subst e; rw [hv] at hw; cases hw; rw [hu] at hx; cases hx; exact hy
    · exact h2 j w x (by rw [set_at hv, if_neg e]; exact hw) hx
  · intro ⟨⟨h1, h2⟩, h3⟩
    refine ⟨h1, fun j w x hw hx => ?_⟩
    rw [set_at hv] at hw
    by_cases e : j = i
    · subst e; rw [if_pos rfl] at hw; cases hw; rw [h3] at hx; cases hx; exact ⟨Int.le_refl _, Int.le_refl _⟩
    · rw [if_neg e] at hw; exact h2 j w x hw hx
theorem takes_of {s : Sy} {i : Nat} {v : Iv} {y : Int} {q : Bool} (hv : (wholeB s)[i]? = some v) (hy : v.lo ≤ y ∧ y ≤ v.hi) (h : SolvR s.R ((wholeB s).set i { v with lo := y, hi := y }) q) : TakesR s i y q := by
  rcases h with ⟨rfl, z, h1, h2⟩ | ⟨rfl, h1⟩
  · obtain ⟨h3, h4⟩ := (fix_in hv hy).1 h1
    exact .inl ⟨rfl, z, cand_iff.1 h3, h2, h4⟩
  · exact .inr ⟨rfl, fun ⟨z, h2, h3, h4⟩ => h1 z ((fix_in hv hy).2 ⟨cand_iff.2 h2, h4⟩) h3⟩
theorem whole_get {s : Sy} {i : Nat} {t : Int} (h : s.T[i]? = some t) : (wholeB s)[i]? = some ⟨0, t, ((s.R.length + i : Nat) : Int), ((s.R.length + s.T.length + i : Nat) : Int)⟩ := by
  unfold wholeB; rw [List.getElem?_mapIdx, h]; rfl
theorem wholeX_get {s : Sy} {i : Nat} {t : Int} (h : s.T[i]? = some t) : (wholeX s)[i]? = some ⟨0, t, ((s.R.length + i : Nat) : Int), ((s.R.length + s.T.length + i : Nat) : Int)⟩ := by
  have e := whole_get h
  rw [← wholeX_take, List.getElem?_take_of_lt (lt_of_get h)] at e
  exact e
theorem wholeX_length {s : Sy} (hn : s.T.length ≤ 12) : (wholeX s).length = 12 := wholeK_length hn (Nat.le_refl _)
set_option maxRecDepth 100000 in
set_option maxHeartbeats 4000000 in
theorem taken_any (s : Sy) (hV : validB s = true) (tp rp : Option Addr) (tc rc gs gx i : Nat) (t y : Int) (w : World) (hS : IsS w (.agg #[.slice tp s.T.length tc, .slice rp s.R.length rc]) s)
    (hs : Blk w gs #[.slice tp s.T.length tc, .slice rp s.R.length rc] 25) (hx : Blk w gx #[.int .i64 i] 3) (ht : s.T[i]? = some t) (hy : 0 ≤ y ∧ y ≤ t) :
    Calls Try.prog 30 #[.int .i64 y, .pointer (some ⟨gs, 0, none⟩), .pointer (some ⟨gx, 0, none⟩)] w (TakesRes w s i y) := by
  have hvi := valid_iff.1 hV
  obtain ⟨⟨hn1, hn2, hn3⟩, hT, -⟩ := hvi
  have hil := lt_of_get ht
  have ht1 := hT t (List.mem_of_getElem? ht)
  have HS := Lib.hid hS
  have Hs := Lib.hid hs
  have Hx := Lib.hid hx
  have HV := Lib.hid hV
  have HT := Lib.hid ht
  have HF := Lib.hid (whole_full hV)
  have hs0 := hs.cell 0 rfl
  have hs1 := hs.cell 1 rfl
  clear hT hS hs hx hV ht
  go_enter Try.func30, Try.ntmps30
  go_wp2_with fail
  refine (whole_any _ s w HS.out HV.out).mono ?_
  rintro e w2 ⟨rfl, hb2⟩
  have hXl := wholeX_length hn2
  have HXl := Lib.hid hXl
  have HX := Lib.hid (wholeX_get HT.out)
  have HXt := Lib.hid (wholeX_take s)
  generalize wholeX s = X at HX HXl HXt hXl ⊢
  have Hs2 := Lib.hid (Hs.out.grows hb2)
  have Hx2 := Lib.hid (Hx.out.grows hb2)
  have HB2 := Lib.hid hb2
  clear hb2 hs0 hs1
  go_upto_region 2 with (first
    | (refine wpList_store_row rfl 58 _ _ rfl w2.heap.size (boxA X) rfl rfl 58 zA (Blk.new w2 zA 58).is (box_info hXl) (by rw [boxA_size, hXl]; rfl) (box_one X) ?_)
    | fail)
  refine wp_world fun w3 hw3 => ?_
  have F : BxAt w3 w2.heap.size X := by rw [hw3]; exact BxAt.row (B := X) (Blk.new w2 zA _) hXl
  have hb3 : Below w2.heap.size w2 w3 := by rw [hw3]; exact below_row (((Below.refl _ w2).alloc (Nat.le_refl _) _)) (Nat.le_refl _) _
  clear hw3
  have x0 := (Hx2.out.grows hb3).cell 0 rfl
  obtain ⟨c0, c1, -, -⟩ := F.cells HX.out
  have f0 := F.free (i * 4)
  have f1 := F.free (i * 4 + 1)
  have hgx : gx ≠ w2.heap.size := by have := Hx2.out.lt; omega
  have x1 := ((Hx2.out.grows hb3).other (a := ⟨w2.heap.size, i * 4, none⟩) hgx (.int .i64 y)).cell 0 rfl
  have x2 := ((Hx2.out.grows hb3).other (a := ⟨w2.heap.size, i * 4 + 1, none⟩) hgx (.int .i64 y)).cell 0 rfl
  have HFx := Lib.hid F
  have HB3 := Lib.hid hb3
  have i12 : i < 12 := by omega
  have i12' : (i : Int) < 12 := by omega
  have hlt := F.1.lt
  clear F hb3 hXl
  go_wp2
  go_region
  refine at_world fun w4 hw4 => ?_
  have F4 : BxAt w4 w2.heap.size (X.set i ⟨y, y, ((s.R.length + i : Nat) : Int), ((s.R.length + s.T.length + i : Nat) : Int)⟩) := by
    rw [hw4]
    have h1 := (HFx.out.set HX.out y).1
    have e1 : (X.set i ⟨y, t, ((s.R.length + i : Nat) : Int), ((s.R.length + s.T.length + i : Nat) : Int)⟩)[i]? = some ⟨y, t, ((s.R.length + i : Nat) : Int), ((s.R.length + s.T.length + i : Nat) : Int)⟩ := by rw [set_at HX.out, if_pos rfl]
    have h2 := (h1.set e1 y).2.1
    rw [List.set_set] at h2
    exact ⟨h2.1.drew, h2.2⟩
  have hb4 : Below w2.heap.size w2 w4 := by
    rw [hw4]
    exact below_drew ((HB3.out.setCell (p := ⟨w2.heap.size, i * 4, none⟩) (Nat.le_refl _) _).setCell (p := ⟨w2.heap.size, i * 4 + 1, none⟩) (Nat.le_refl _) _)
  clear hw4
  have hXy : (X.set i ⟨y, y, ((s.R.length + i : Nat) : Int), ((s.R.length + s.T.length + i : Nat) : Int)⟩).length = 12 := by simp [HXl.out]
  have HW4 := Lib.hid (below_two HB2.out hb4)
  have hs0 := (Hs2.out.grows hb4).cell 0 rfl
  have hs1 := (Hs2.out.grows hb4).cell 1 rfl
  have htk : (X.set i ⟨y, y, ((s.R.length + i : Nat) : Int), ((s.R.length + s.T.length + i : Nat) : Int)⟩).take s.T.length = (wholeB s).set i ⟨y, y, ((s.R.length + i : Nat) : Int), ((s.R.length + s.T.length + i : Nat) : Int)⟩ := by rw [List.take_set, HXt.out]
  have HTk := Lib.hid htk
  have HF4 := Lib.hid (And.intro F4 hXy)
  have HFu := Lib.hid (show Full ((wholeB s).set i ⟨y, y, ((s.R.length + i : Nat) : Int), ((s.R.length + s.T.length + i : Nat) : Int)⟩) from fun u hu => by
    rcases mem_set_of hu with h | rfl
    · exact HF.out u h
    · simp only; omega)
  clear htk F4 hb4 hXy f0 f1 c0 c1 x0 x1 x2 hgx hlt
  generalize X.set i ⟨y, y, ((s.R.length + i : Nat) : Int), ((s.R.length + s.T.length + i : Nat) : Int)⟩ = Y at HTk HF4
  go_wp2_with (first | (refine wpList_load_row rfl 58 _ rfl w2.heap.size rfl 58 _ (0, 0) _ HF4.out.1.1.is Try.underlying58 rfl (box_info HF4.out.2) ?_) | fail)
  refine (solvable_any s HV.out _ _ Y w4 (Nat.le_refl _) (HS.out.grows HW4.out) HF4.out.2 (by rw [HTk.out]; exact HFu.out)).mono ?_
  rintro e w5 ⟨q, hq, rfl, hb5⟩
  rw [HTk.out] at hq
  have HQ := Lib.hid (takes_of (whole_get HT.out) hy hq)
  have HW5 := Lib.hid (below_two HW4.out hb5)
  clear hq hb5
  go_wp2
  go_ret
  exact ⟨q, HQ.out, rfl, HW5.out⟩

theorem ilt (a b : Int) : a < b ∨ b ≤ a := by omega
/-- what Project answers. -/
def ProjRes (w : World) (s : Sy) (i : Nat) (e : Ending) (w' : World) : Prop :=
  ((∃ lo hi, Takes s i lo ∧ Takes s i hi ∧ (∀ y, Takes s i y → lo ≤ y ∧ y ≤ hi) ∧ e = .returned (.tuple #[.int .i64 lo, .int .i64 hi, .bool true])) ∨ ((∀ y, ¬ Takes s i y) ∧ e = .returned (.tuple #[.int .i64 0, .int .i64 0, .bool false]))) ∧ Below w.heap.size w w'
theorem mod_of {s : Sy} (h : validB s = true) : Mod s := by
  obtain ⟨⟨h1, h2, h3⟩, _, h5⟩ := valid_iff.1 h
  exact ⟨by omega, by omega, fun r hr => by have := (okRow_iff.1 (h5 r hr)).1; omega⟩
theorem takes_in {s : Sy} {i : Nat} {t y : Int} (ht : s.T[i]? = some t) (h : Takes s i y) : 0 ≤ y ∧ y ≤ t := by
  obtain ⟨z, h1, h2, h3⟩ := h
  exact h1.2 i t y ht h3
set_option maxRecDepth 100000 in
set_option maxHeartbeats 4000000 in
theorem project_any (s : Sy) (hV : validB s = true) (hSm : smallB s.T = true) (v : Value) (i : Nat) (t : Int) (w : World) (hv : IsS w v s) (ht : s.T[i]? = some t) :
    Calls Try.prog 18 #[v, .int .i64 i] w (ProjRes w s i) := by
  have hvi := valid_iff.1 hV
  obtain ⟨⟨hn1, hn2, hn3⟩, hT, -⟩ := hvi
  have hil := lt_of_get ht
  obtain ⟨ht0, ht1⟩ := hT t (List.mem_of_getElem? ht)
  obtain ⟨tp, tc, rp, rc, rfl, htc, hrc, h1, h2⟩ := hv.shape
  have HS := Lib.hid (fun W (hW : Below w.heap.size w W) => hv.grows hW)
  have HU := Lib.hid (fun W (hW : Below w.heap.size w W) => h1.grows hW)
  have HV := Lib.hid hV
  have HM := Lib.hid (mod_of hV)
  have HT0 := Lib.hid hT
  have HSm := Lib.hid hSm
  have HT := Lib.hid ht
  have hb1 : Below w.heap.size w ((w.alloc (.cells #[.slice tp s.T.length tc, .slice rp s.R.length rc] 25)).alloc (.cells #[.int .i64 i] 3)) := by go_grown
  have S1 := (Blk.new w #[.slice tp s.T.length tc, .slice rp s.R.length rc] 25).alloc (.cells #[.int .i64 i] 3)
  have X1 := Blk.alloc1 w #[.slice tp s.T.length tc, .slice rp s.R.length rc] #[.int .i64 i] 25 3
  clear hv h1 h2 hV hT hSm ht
  have HW1 := Lib.hid hb1
  have HS1 := Lib.hid S1
  have HX1 := Lib.hid X1
  clear hb1 S1 X1
  go_enter Try.func18, Try.ntmps18
  go_wp2_with fail
  generalize ((w.alloc (.cells #[.slice tp s.T.length tc, .slice rp s.R.length rc] 25)).alloc (.cells #[.int .i64 i] 3)) = w1 at HW1 HS1 HX1 ⊢
  refine (valid_any _ s w1 (HS.out _ HW1.out) HM.out).mono ?_
  rintro e w2 ⟨rfl, hb2⟩
  rw [HV.out]
  have HS2 := Lib.hid (HS1.out.grows hb2)
  have HX2 := Lib.hid (HX1.out.grows hb2)
  have HW2 := Lib.hid (below_two HW1.out hb2)
  have s0 := HS2.out.cell 0 rfl
  have s1 := HS2.out.cell 1 rfl
  clear hb2 HS1 HX1 HW1
  go_wp2_with fail
  refine (small_any _ s w2 (HS.out _ HW2.out) (by omega) HT0.out).mono ?_
  rintro e w3 ⟨rfl, hb3⟩
  rw [HSm.out]
  have HS3 := Lib.hid (HS2.out.grows hb3)
  have HX3 := Lib.hid (HX2.out.grows hb3)
  have HW3 := Lib.hid (below_two HW2.out hb3)
  clear hb3 HS2 HX2 HW2 s0 s1
  have s0 := HS3.out.cell 0 rfl
  have x0 := HX3.out.cell 0 rfl
  have d1 : decide ((i : Int) < 0) = false := by rw [decide_eq_false_iff_not]; omega
  have d2 : decide (s.T.length ≤ i) = false := by rw [decide_eq_false_iff_not]; omega
  go_wp2_with fail
  clear s0 x0 d1 d2
  go_loopw [8] (fun kv wr => ∃ k : Nat, (k : Int) ≤ t + 1 ∧ kv = .int .i64 k ∧ (∀ y, y < (k : Int) → ¬ Takes s i y) ∧ Below w3.heap.size w3 wr) (fun kv _ => (t + 1).toNat - (RowKit.intOf kv).toNat)
  case atStart => exact ⟨0, by omega, rfl, fun y hy h => by have := takes_in HT.out h; omega, Below.refl _ _⟩
  case round =>
    obtain ⟨k, hk, rfl, hno, hbw⟩ := hrel
    have HN := Lib.hid hno
    have HSr := Lib.hid (HS3.out.grows hbw)
    have HXr := Lib.hid (HX3.out.grows hbw)
    have HWr := Lib.hid hbw
    have HWW := Lib.hid (below_two HW3.out hbw)
    obtain ⟨tb, tof, hte, ct⟩ := (HU.out wr HWW.out).at HT.out
    subst hte
    have s0 := HSr.out.cell 0 rfl
    have x0 := HXr.out.cell 0 rfl
    clear hno hbw
    by_cases hle : (k : Int) ≤ t
    · go_wp2_with fail
      refine (taken_any s HV.out _ _ tc rc w.heap.size (w.heap.size + 1) i t k wr (HS.out _ HWW.out) HSr.out HXr.out HT.out ⟨by omega, hle⟩).mono ?_
      rintro e w4 ⟨q, hq, rfl, hb4⟩
      have HS4 := Lib.hid (HSr.out.grows hb4)
      have HX4 := Lib.hid (HXr.out.grows hb4)
      have HW4 := Lib.hid (below_two HWr.out hb4)
      have HWW4 := Lib.hid (below_two HWW.out hb4)
      have HQ := Lib.hid hq
      clear hq hb4 s0 x0 ct
      cases q with
      | false =>
        have HQ2 := Lib.hid (show ¬ Takes s i (k : Int) from by rcases HQ.out with ⟨e, _⟩ | ⟨_, h⟩; cases e; exact h)
        go_wp2
        go_roundw
        case rel => exact ⟨k + 1, by omega, by go_num, fun y hy h => by
          rcases ilt y (k : Int) with h1 | h1
          · exact HN.out y h1 h
          · obtain rfl : y = (k : Int) := by omega
            exact HQ2.out h, HW4.out⟩
        case measure => simp [RowKit.intOf]; omega
      | true =>
        have HQ2 := Lib.hid (show Takes s i (k : Int) from by rcases HQ.out with ⟨_, h⟩ | ⟨e, _⟩; exact h; cases e)
        obtain ⟨tb2, tof2, hte, ct⟩ := (HU.out w4 HWW4.out).at HT.out
        cases hte
        have s0 := HS4.out.cell 0 rfl
        have x0 := HX4.out.cell 0 rfl
        clear HQ
        go_wp2_with fail
        obtain ⟨wo, rfl⟩ : ∃ wo : World, wo = wr := ⟨_, rfl⟩
        clear s0 x0 ct
        go_loopw [9] (fun gv wr => ∃ g : Nat, k ≤ g ∧ (g : Int) ≤ t ∧ gv = .int .i64 g ∧ (∀ y, (g : Int) < y → ¬ Takes s i y) ∧ Below w4.heap.size w4 wr) (fun gv _ => (RowKit.intOf gv).toNat)
        case atStart => exact ⟨t.toNat, by omega, by omega, by rw [Int.toNat_of_nonneg ht0], fun y hy h => by have := takes_in HT.out h; omega, Below.refl _ _⟩
        case round =>
          obtain ⟨g, hg1, hg2, rfl, hno2, hbw2⟩ := hrel
          have HN2 := Lib.hid hno2
          have HSq := Lib.hid (HS4.out.grows hbw2)
          have HXq := Lib.hid (HX4.out.grows hbw2)
          have HWq := Lib.hid hbw2
          have HWWq := Lib.hid (below_two HWW4.out hbw2)
          clear hno2 hbw2
          go_wp2_with fail
          refine (taken_any s HV.out _ _ tc rc w.heap.size (w.heap.size + 1) i t g wr (HS.out _ HWWq.out) HSq.out HXq.out HT.out ⟨by omega, hg2⟩).mono ?_
          rintro e w5 ⟨q, hq, rfl, hb5⟩
          have HW5 := Lib.hid (below_two HWq.out hb5)
          have HWW5 := Lib.hid (below_two HWWq.out hb5)
          have HQ := Lib.hid hq
          clear hq hb5
          cases q with
          | false =>
            have HQ3 := Lib.hid (show ¬ Takes s i (g : Int) from by rcases HQ.out with ⟨e, _⟩ | ⟨_, h⟩; cases e; exact h)
            have hkg : k < g := by
              rcases Nat.lt_or_ge k g with h | h
              · exact h
              · exfalso; obtain rfl : g = k := by omega
                exact HQ3.out HQ2.out
            go_wp2
            go_roundw
            case rel => exact ⟨g - 1, by omega, by omega, by rw [show ((g - 1 : Nat) : Int) = (g : Int) - 1 by omega], fun y hy h => by
              rcases ilt (g : Int) y with h1 | h1
              · exact HN2.out y h1 h
              · obtain rfl : y = (g : Int) := by omega
                exact HQ3.out h, HW5.out⟩
            case measure => simp [RowKit.intOf]; omega
          | true =>
            have HQ3 := Lib.hid (show Takes s i (g : Int) from by rcases HQ.out with ⟨_, h⟩ | ⟨e, _⟩; exact h; cases e)
            go_wp2
            go_ret3
            exact ⟨.inl ⟨k, g, HQ2.out, HQ3.out, fun y hy => ⟨by
              rcases ilt y (k : Int) with h1 | h1
              · exact absurd hy (HN.out y h1)
              · exact h1, by
              rcases ilt (g : Int) y with h1 | h1
              · exact absurd hy (HN2.out y h1)
              · exact h1⟩, rfl⟩, HWW5.out⟩
    · go_wp2
      go_ret3
      exact ⟨.inr ⟨fun y h => by have := takes_in HT.out h; exact HN.out y (by omega) h, rfl⟩, HWW.out⟩
end Go.Proofs.Ytmhhfommgdljkaa
