/-
  Texts of the proof, one behind another: Oq, Lb, Lc, Le, Ox, Ld.
-/
import Derived.Test.YtgbkjgfiofncdaaGreatDoorYdi
import Derived.Test.YtgbkjgfiofncdaaGreatDoorYdg
import Derived.Deep.RegionHeld3
set_option linter.unusedSimpArgs false
set_option linter.unusedVariables false
/-
  A slice of bytes as an argument, with its capacity and its bulk.
-/
namespace Go.Proofs.YtgbkjgfiofncdaaGreatDoor
open Go.ChangeShapes Go.WideShapes Go.ChangeAt Go.RowKit

theorem u8_bounds {y : Int} (h : (Lit.int .u8 y).wf = true) : 0 ≤ y ∧ y < 256 := by
  simp [Lit.wf, IntKind.min, IntKind.max, IntKind.signed, IntKind.bits] at h; omega
set_option maxRecDepth 100000 in
theorem open_bytes_arg {H : Type} {enc : TypeId × Value → H} {W : World} {base : Nat} {sp : Nat → Bool} {held : Bool} {r : Reach} {b0 : Nat} {v : Value} {d : DataW H} {ps : List MemPlace}
    (hval : Value.okWide Tryz.prog W r b0 24 v) (hd : DataW.Trod enc Tryz.prog W base sp held 24 v d ps) :
    ∃ p c l, v = .slice p l.length c ∧ IsB W (.slice p l.length c) l ∧ l.length ≤ c ∧ (∀ z ∈ l, 0 ≤ z ∧ z < 256) ∧ l.length ≤ Rows.uptoBulk d := by
  have us := Tryz.underlying24
  have ue := Tryz.underlying5
  obtain ⟨p, len, cap, rfl⟩ := okWide_slice us hval
  obtain ⟨fuel, hf⟩ := hd
  rcases open_ints us ue cellsU8 hf with ⟨hcs, _⟩ | ⟨a, len', cap', zs, hcs, _, hl, hm, hz, hd, hcell, hwz⟩
  · simp [Value.cells] at hcs
    obtain ⟨rfl, rfl, rfl⟩ := hcs
    exact ⟨none, 0, [], rfl, .inl ⟨rfl, none, 0, rfl⟩, by simp, by simp, by simp⟩
  · simp [Value.cells] at hcs
    obtain ⟨rfl, rfl, rfl⟩ := hcs
    have hzl : len ≤ zs.length := by rw [hz]; split <;> omega
    have hlen : (zs.take len).length = len := by simp; omega
    simp only [Prod.mk.injEq] at hd
    obtain ⟨rfl, -⟩ := hd
    refine ⟨some a, cap, zs.take len, by rw [hlen], ?_, by omega, fun z hz => ?_, ?_⟩
    · rw [hlen]
      rcases Nat.eq_zero_or_pos len with h0 | hp
      · subst h0
        exact .inl ⟨by simp, _, _, rfl⟩
      · obtain ⟨b, off, rfl, hc⟩ := ints_at hcell (by omega)
        refine .inr ⟨b, off, cap, by rw [hlen], fun k y hk => ?_⟩
        rw [List.getElem?_take] at hk
        split at hk
        · rw [hc k (by omega), List.getD_eq_getElem?_getD, hk]; rfl
        · cases hk
    · have := hwz z (List.mem_of_mem_take hz)
      simp [Lit.wf, IntKind.min, IntKind.max, IntKind.signed, IntKind.bits] at this; omega
    · have h1 := bulk_slice (H := H) (lits IntKind.u8 (zs.take len)) (lits IntKind.u8 (zs.drop len))
      unfold lits at h1 ⊢
      rw [List.length_map] at h1
      omega
end Go.Proofs.YtgbkjgfiofncdaaGreatDoor

/-
  The law on concatenations: the walk.
-/
namespace Go.Proofs.YtgbkjgfiofncdaaGreatDoor
open Go.RowKit Go.Shelf
attribute [local go_sem] Oper.semAt_some

set_option maxRecDepth 100000 in
set_option maxHeartbeats 4000000 in
theorem concat_walk (W : World) (lp mp bp : Option Addr) (lc mc bc : Nat) (l m b : List Int) (hl : BytesArg W lp lc l) (hm : BytesArg W mp mc m) (hb : BytesArg W bp bc b) (hG : Given W) :
    Calls Tryz.prog 8 #[.slice lp l.length lc, .slice mp m.length mc, .slice bp b.length bc] W fun e W' => e = .returned (.bool true) ∧ Below W.heap.size W W' := by
  have HS := Lib.hid (sanity_any W hG.bruijn hG.bruijn_lt hG.powers)
  have HL := Lib.hid hl
  have HM := Lib.hid hm
  have HB := Lib.hid hb
  have HG := Lib.hid hG
  obtain ⟨u, hu⟩ : ∃ u, b.take 8 = u := ⟨_, rfl⟩
  have HSm := Lib.hid (fun w => by
    have h := small_any bp bc b 8 (by omega) w hb.cap hb.len
    rw [hu] at h
    exact h)
  have huc : u.length ≤ bc := by have := hb.cap; rw [← hu, List.length_take]; omega
  have hu8 : u.length ≤ 8 := by rw [← hu, List.length_take]; omega
  have HU := Lib.hid hu
  clear hl hm hb hG hu
  go_enter Tryz.func8, Tryz.ntmps8
  go_wp2_with fail
  refine HS.out.mono ?_
  rintro e W1 ⟨rfl, hb1⟩
  go_wp2_with fail
  refine (HSm.out W1).mono ?_
  rintro e _ ⟨rfl, rfl⟩
  go_wp2_with fail
  refine (HL.out.made hb1 20 (by omega) (by omega)).mono ?_
  rintro e W2 ⟨⟨xq, xc, xs, rfl, hx, hxw, hxl, -⟩, hb2⟩
  have hB2 := hb1.trans (hb2.mono hb1.size)
  go_wp2_with fail
  refine (HM.out.made hB2 20 (by omega) (by omega)).mono ?_
  rintro e W3 ⟨⟨yq, yc, ys, rfl, hy, hyw, hyl, -⟩, hb3⟩
  have hB3 := hB2.trans (hb3.mono hB2.size)
  have hx3 := hx.grows hb3
  have hw3 : IsB W3 (.slice bp u.length bc) u := by rw [← HU.out]; exact isB_small (HB.out.at hB3).is 8
  have hwb : ∀ y ∈ u, 0 ≤ y ∧ y < 256 := fun y hy => HB.out.byte y (by rw [← HU.out] at hy; exact List.mem_of_mem_take hy)
  have e4 := match_cat hxw hyw (by omega) u
  have HBin := Lib.hid (fun kd w (hw : Below W3.heap.size W3 w) => rbin_is kd _ _ xs ys w (hx3.grows hw) (hy.grows hw) (by omega) (by omega) hxw hyw)
  have HMt := Lib.hid (fun w (hw : Below W3.heap.size W3 w) wv z (hz : IsB W3 wv z) (hzb : ∀ y ∈ z, 0 ≤ y ∧ y < 256) (hzl : z.length ≤ 1048576) zv zs (hz2 : IsX w zv zs) (hzl2 : zs.length ≤ 200) => match_is hz hzb hzl hw (HG.out.at (hB3.trans (hw.mono hB3.size))) hz2 hzl2)
  have HX := Lib.hid hx3
  have HY := Lib.hid hy
  have HB3 := Lib.hid hB3
  have HLen := Lib.hid (And.intro hxl hyl)
  have HW3 := Lib.hid (And.intro hw3 hwb)
  have HE4 := Lib.hid e4
  have HBx := Lib.hid (show (bin 4 xs ys).length ≤ 200 by rw [bin_len]; omega)
  have hp : (u.length = 0 ∨ ∃ blk off, bp = some ⟨blk, off, none⟩) := by
    rcases u with _ | ⟨y, u⟩
    · exact .inl rfl
    · obtain ⟨blk, off, h, _⟩ := hw3.at (k := 0) (y := y) rfl
      exact .inr ⟨blk, off, h⟩
  clear hwb hx hy hx3 hb1 hb2 hb3 hB2 hB3 HS hxl hyl e4 hw3
  go_wp2_with fail
  go_loopw [11, 12] (fun sv i wr => ∃ k : Nat, k ≤ u.length + 1 ∧ i = .int .i64 k ∧ sv = .bool (splitB xs ys u k) ∧ Below W3.heap.size W3 wr) (fun _ i _ => u.length + 1 - (intOf i).toNat)
  case atStart => exact ⟨0, Nat.zero_le _, rfl, rfl, Below.refl _ _⟩
  case round =>
    obtain ⟨k, hk, rfl, rfl, hcur⟩ := hrel
    by_cases hlt : k ≤ u.length
    · have hz1 := Lib.hid (isB_take HW3.out.1 hlt)
      have HC1 := Lib.hid (fun w hw => HMt.out w hw _ _ hz1.out (fun y hy => HW3.out.2 y (List.mem_of_mem_take hy)) (by rw [List.length_take]; omega) _ xs (HX.out.grows hw) (by have := HLen.out.1; omega))
      have hs := show splitB xs ys u (k + 1) = (splitB xs ys u k || (matchB xs (u.take k) && matchB ys (u.drop k))) from rfl
      have HSp := Lib.hid hs
      clear hs
      rcases hp with hu0 | ⟨blk, off, rfl⟩
      · have HU0 := Lib.hid hu0
        clear hu0
        rcases bp with _ | ⟨blk, off, _ | spot⟩
        · go_wp2_with fail
          refine (HC1.out _ hcur).mono ?_
          rintro e W4 ⟨rfl, hbn⟩
          have hcur := hcur.trans (hbn.mono hcur.size)
          clear hbn
          go_wp2_with fail
          refine (HMt.out _ hcur _ (u.drop k) (by rw [show u.length - k = 0 by have := HU0.out; omega, List.drop_eq_nil_of_le (by have := HU0.out; omega)]; exact .inl ⟨rfl, _, _, rfl⟩) (fun y hy => HW3.out.2 y (List.mem_of_mem_drop hy)) (by rw [List.length_drop]; omega) _ ys (HY.out.grows hcur) (by have := HLen.out.2; omega)).mono ?_
          rintro e W5 ⟨rfl, hbn⟩
          have hcur := hcur.trans (hbn.mono hcur.size)
          clear hbn
          have hs := HSp.out
          generalize hg0 : splitB xs ys u k = s0 at hs
          generalize hg1 : matchB xs (u.take k) = p0 at hs
          generalize hg2 : matchB ys (u.drop k) = q0 at hs
          have HS2 := Lib.hid hs
          clear hs
          cases s0 <;> cases p0 <;> cases q0
          all_goals
            go_wp2_with fail
            exact ⟨⟨k + 1, by omega, by go_num, by rw [HS2.out]; rfl, hcur⟩, by simp [intOf]; omega⟩
        · go_wp2_with fail
          refine (HC1.out _ hcur).mono ?_
          rintro e W4 ⟨rfl, hbn⟩
          have hcur := hcur.trans (hbn.mono hcur.size)
          clear hbn
          go_wp2_with fail
          case inl h =>
            subst h
            have hzd : IsB W3 (.slice (some ⟨blk, off, none⟩) (u.length - bc) 0) (u.drop bc) := by
              rw [show u.length - bc = 0 by omega, List.drop_eq_nil_of_le (by omega)]
              exact .inl ⟨rfl, _, _, rfl⟩
            refine (HMt.out _ hcur _ _ hzd (fun y hy => HW3.out.2 y (List.mem_of_mem_drop hy)) (by rw [List.length_drop]; omega) _ ys (HY.out.grows hcur) (by have := HLen.out.2; omega)).mono ?_
            rintro e W5 ⟨rfl, hbn⟩
            have hcur := hcur.trans (hbn.mono hcur.size)
            clear hbn
            have hs := HSp.out
            generalize hg0 : splitB xs ys u bc = s0 at hs
            generalize hg1 : matchB xs (u.take bc) = p0 at hs
            generalize hg2 : matchB ys (u.drop bc) = q0 at hs
            have HS2 := Lib.hid hs
            clear hs
            cases s0 <;> cases p0 <;> cases q0
            all_goals
              go_wp2_with fail
              exact ⟨⟨bc + 1, by omega, by go_num, by rw [HS2.out]; rfl, hcur⟩, by simp [intOf]; omega⟩
          case inr h =>
            have hzd := isB_drop HW3.out.1 hlt
            refine (HMt.out _ hcur _ _ hzd (fun y hy => HW3.out.2 y (List.mem_of_mem_drop hy)) (by rw [List.length_drop]; omega) _ ys (HY.out.grows hcur) (by have := HLen.out.2; omega)).mono ?_
            rintro e W5 ⟨rfl, hbn⟩
            have hcur := hcur.trans (hbn.mono hcur.size)
            clear hbn
            have hs := HSp.out
            generalize hg0 : splitB xs ys u k = s0 at hs
            generalize hg1 : matchB xs (u.take k) = p0 at hs
            generalize hg2 : matchB ys (u.drop k) = q0 at hs
            have HS2 := Lib.hid hs
            clear hs
            cases s0 <;> cases p0 <;> cases q0
            all_goals
              go_wp2_with fail
              exact ⟨⟨k + 1, by omega, by go_num, by rw [HS2.out]; rfl, hcur⟩, by simp [intOf]; omega⟩
        · go_wp2_with fail
          refine (HC1.out _ hcur).mono ?_
          rintro e W4 ⟨rfl, hbn⟩
          have hcur := hcur.trans (hbn.mono hcur.size)
          clear hbn
          go_wp2_with fail
          case inl h =>
            subst h
            refine (HMt.out _ hcur _ (u.drop bc) (by rw [show u.length - bc = 0 by have := HU0.out; omega, List.drop_eq_nil_of_le (by have := HU0.out; omega)]; exact .inl ⟨rfl, _, _, rfl⟩) (fun y hy => HW3.out.2 y (List.mem_of_mem_drop hy)) (by rw [List.length_drop]; omega) _ ys (HY.out.grows hcur) (by have := HLen.out.2; omega)).mono ?_
            rintro e W5 ⟨rfl, hbn⟩
            have hcur := hcur.trans (hbn.mono hcur.size)
            clear hbn
            have hs := HSp.out
            generalize hg0 : splitB xs ys u bc = s0 at hs
            generalize hg1 : matchB xs (u.take bc) = p0 at hs
            generalize hg2 : matchB ys (u.drop bc) = q0 at hs
            have HS2 := Lib.hid hs
            clear hs
            cases s0 <;> cases p0 <;> cases q0
            all_goals
              go_wp2_with fail
              exact ⟨⟨bc + 1, by omega, by go_num, by rw [HS2.out]; rfl, hcur⟩, by simp [intOf]; omega⟩
          case inr h =>
            refine (HMt.out _ hcur _ (u.drop k) (by rw [show u.length - k = 0 by have := HU0.out; omega, List.drop_eq_nil_of_le (by have := HU0.out; omega)]; exact .inl ⟨rfl, _, _, rfl⟩) (fun y hy => HW3.out.2 y (List.mem_of_mem_drop hy)) (by rw [List.length_drop]; omega) _ ys (HY.out.grows hcur) (by have := HLen.out.2; omega)).mono ?_
            rintro e W5 ⟨rfl, hbn⟩
            have hcur := hcur.trans (hbn.mono hcur.size)
            clear hbn
            have hs := HSp.out
            generalize hg0 : splitB xs ys u k = s0 at hs
            generalize hg1 : matchB xs (u.take k) = p0 at hs
            generalize hg2 : matchB ys (u.drop k) = q0 at hs
            have HS2 := Lib.hid hs
            clear hs
            cases s0 <;> cases p0 <;> cases q0
            all_goals
              go_wp2_with fail
              exact ⟨⟨k + 1, by omega, by go_num, by rw [HS2.out]; rfl, hcur⟩, by simp [intOf]; omega⟩
      · go_wp2_with fail
        refine (HC1.out _ hcur).mono ?_
        rintro e W4 ⟨rfl, hbn⟩
        have hcur := hcur.trans (hbn.mono hcur.size)
        clear hbn
        go_wp2_with fail
        case inl h =>
          subst h
          have hzd : IsB W3 (.slice (some ⟨blk, off, none⟩) (u.length - bc) 0) (u.drop bc) := by
            rw [show u.length - bc = 0 by omega, List.drop_eq_nil_of_le (by omega)]
            exact .inl ⟨rfl, _, _, rfl⟩
          refine (HMt.out _ hcur _ _ hzd (fun y hy => HW3.out.2 y (List.mem_of_mem_drop hy)) (by rw [List.length_drop]; omega) _ ys (HY.out.grows hcur) (by have := HLen.out.2; omega)).mono ?_
          rintro e W5 ⟨rfl, hbn⟩
          have hcur := hcur.trans (hbn.mono hcur.size)
          clear hbn
          have hs := HSp.out
          generalize hg0 : splitB xs ys u bc = s0 at hs
          generalize hg1 : matchB xs (u.take bc) = p0 at hs
          generalize hg2 : matchB ys (u.drop bc) = q0 at hs
          have HS2 := Lib.hid hs
          clear hs
          cases s0 <;> cases p0 <;> cases q0
          all_goals
            go_wp2_with fail
            exact ⟨⟨bc + 1, by omega, by go_num, by rw [HS2.out]; rfl, hcur⟩, by simp [intOf]; omega⟩
        case inr h =>
          have hzd := isB_drop HW3.out.1 hlt
          refine (HMt.out _ hcur _ _ hzd (fun y hy => HW3.out.2 y (List.mem_of_mem_drop hy)) (by rw [List.length_drop]; omega) _ ys (HY.out.grows hcur) (by have := HLen.out.2; omega)).mono ?_
          rintro e W5 ⟨rfl, hbn⟩
          have hcur := hcur.trans (hbn.mono hcur.size)
          clear hbn
          have hs := HSp.out
          generalize hg0 : splitB xs ys u k = s0 at hs
          generalize hg1 : matchB xs (u.take k) = p0 at hs
          generalize hg2 : matchB ys (u.drop k) = q0 at hs
          have HS2 := Lib.hid hs
          clear hs
          cases s0 <;> cases p0 <;> cases q0
          all_goals
            go_wp2_with fail
            exact ⟨⟨k + 1, by omega, by go_num, by rw [HS2.out]; rfl, hcur⟩, by simp [intOf]; omega⟩
    · obtain rfl : k = u.length + 1 := by omega
      have e4 := HE4.out
      generalize hg0 : splitB xs ys u (u.length + 1) = s0 at e4
      have hHb := fun w hw zv hz2 => HMt.out w hw _ _ HW3.out.1 HW3.out.2 (by omega) zv (bin 4 xs ys) hz2 HBx.out
      rw [e4] at hHb
      have HF := Lib.hid hHb
      clear hHb e4
      cases s0
      all_goals
        go_wp2_with (first
          | (go_at_call 28; refine (HBin.out _ _ hcur).mono ?_; rintro e wn ⟨⟨zq, zc, rfl, hz, -⟩, hbn⟩; have hcur := hcur.trans (hbn.mono hcur.size); clear hbn)
          | (go_at_call 21; refine (HF.out _ hcur _ hz).mono ?_; rintro e wn ⟨rfl, hbn⟩; have hcur := hcur.trans (hbn.mono hcur.size); clear hbn hz))
        go_ret
        exact ⟨rfl, HB3.out.trans (hcur.mono HB3.out.size)⟩
end Go.Proofs.YtgbkjgfiofncdaaGreatDoor

/-
  The law on repetitions: the walk.
-/
namespace Go.Proofs.YtgbkjgfiofncdaaGreatDoor
open Go.RowKit Go.Shelf
attribute [local go_sem] Oper.semAt_some

theorem repeat_is (mn mx : Int) (v : Value) (xs : List Nd) (W : World) (hv : IsX W v xs) (hl : xs.length ≤ 1099511627776) :
    Calls Tryz.prog 29 #[.agg #[.int .i64 8, .int .u64 0, .int .u64 0, .int .u64 0, .int .u64 0, .int .i64 0, .int .i64 0, .int .i64 mn, .int .i64 mx], v] W
      fun e W' => (∃ p c, e = .returned (.slice p (xs.length + 1) c) ∧ IsX W' (.slice p (xs.length + 1) c) (un (repN mn mx) xs) ∧ xs.length + 1 ≤ c) ∧ Below W.heap.size W W' := by
  have h := runary_is (repN mn mx) v xs W hv hl
  have e : valN (repN mn mx) = .agg #[.int .i64 8, .int .u64 0, .int .u64 0, .int .u64 0, .int .u64 0, .int .i64 0, .int .i64 0, .int .i64 mn, .int .i64 mx] := by
    unfold repN
    simp only [valN, wd_zero]
  rw [e] at h
  exact h

set_option maxRecDepth 100000 in
set_option maxHeartbeats 4000000 in
theorem repeat_walk (W : World) (lp bp : Option Addr) (lc bc : Nat) (l b : List Int) (y : Int) (hy0 : 0 ≤ y ∧ y < 256) (hl : BytesArg W lp lc l) (hb : BytesArg W bp bc b) (hG : Given W) :
    Calls Tryz.prog 9 #[.slice lp l.length lc, .int .u8 y, .slice bp b.length bc] W fun e W' => e = .returned (.bool true) ∧ Below W.heap.size W W' := by
  have HS := Lib.hid (sanity_any W hG.bruijn hG.bruijn_lt hG.powers)
  have HL := Lib.hid hl
  have HB := Lib.hid hb
  have HG := Lib.hid hG
  obtain ⟨u, hu⟩ : ∃ u, b.take 8 = u := ⟨_, rfl⟩
  have HSm := Lib.hid (fun w => by
    have h := small_any bp bc b 8 (by omega) w hb.cap hb.len
    rw [hu] at h
    exact h)
  have hu8 : u.length ≤ 8 := by rw [← hu, List.length_take]; omega
  have HU := Lib.hid hu
  obtain ⟨m0, e0⟩ : ∃ m0, y.tmod 4 = m0 := ⟨_, rfl⟩
  obtain ⟨m1, e1⟩ : ∃ m1, (y / 4).tmod 4 = m1 := ⟨_, rfl⟩
  have i0 : 0 ≤ m0 ∧ m0 ≤ 3 := by rw [← e0, Int.tmod_eq_emod_of_nonneg (by omega)]; omega
  have i1 : 0 ≤ m1 ∧ m1 ≤ 3 := by rw [← e1, Int.tmod_eq_emod_of_nonneg (by omega)]; omega
  obtain ⟨mx, ex⟩ : ∃ mx, IntKind.i64.wrap (m0 + m1) = mx := ⟨_, rfl⟩
  have hmx : mx = m0 + m1 := by rw [← ex, IntWalk.i64_in _ (by omega)]
  obtain ⟨my, ey⟩ : ∃ my, IntKind.i64.wrap (mx - 1) = my := ⟨_, rfl⟩
  have hmy : my = mx - 1 := by rw [← ey, IntWalk.i64_in _ (by omega)]
  obtain ⟨mz, ez⟩ : ∃ mz, IntKind.i64.wrap (m0 - 1) = mz := ⟨_, rfl⟩
  have hmz : mz = m0 - 1 := by rw [← ez, IntWalk.i64_in _ (by omega)]
  obtain ⟨mw, ew⟩ : ∃ mw, max mz 0 = mw := ⟨_, rfl⟩
  have hmw : mw = max (m0 - 1) 0 := by rw [← ew, hmz]
  have HN := Lib.hid (And.intro hmx (And.intro hmy hmw))
  clear hl hb hG hu hmx hmy hmz hmw
  go_enter Tryz.func9, Tryz.ntmps9
  go_wp2_with fail
  refine HS.out.mono ?_
  rintro e W1 ⟨rfl, hb1⟩
  go_wp2_with fail
  refine (HSm.out W1).mono ?_
  rintro e _ ⟨rfl, rfl⟩
  go_wp2_with fail
  refine (HL.out.made hb1 12 (by omega) (by omega)).mono ?_
  rintro e W3 ⟨⟨xq, xc, xs, rfl, hx, hxw, hxl, -⟩, hb2⟩
  have hB3 := hb1.trans (hb2.mono hb1.size)
  have hw3 : IsB W3 (.slice bp u.length bc) u := by rw [← HU.out]; exact isB_small (HB.out.at hB3).is 8
  have hwb : ∀ y ∈ u, 0 ≤ y ∧ y < 256 := fun y hy => HB.out.byte y (by rw [← HU.out] at hy; exact List.mem_of_mem_take hy)
  have HMt := Lib.hid (fun w (hw : Below W3.heap.size W3 w) zv zs (hz : IsX w zv zs) (hzl : zs.length ≤ 200) => match_is hw3 hwb (by omega) hw (HG.out.at (hB3.trans (hw.mono hB3.size))) hz hzl)
  have HBin := Lib.hid (fun mn mx (hr : Wf (un (repN mn mx) xs)) w (hw : Below W3.heap.size W3 w) zv (hz : IsX w zv (un (repN mn mx) xs)) => rbin_is 4 _ zv xs (un (repN mn mx) xs) w (hx.grows hw) hz (by omega) (by rw [un_len]; omega) hxw hr)
  have HUn := Lib.hid (fun mn mx w (hw : Below W3.heap.size W3 w) => repeat_is mn mx _ xs w (hx.grows hw) (by omega))
  have HB3 := Lib.hid hB3
  have HXw := Lib.hid (And.intro hxw hxl)
  clear hw3 hwb hx hb1 hb2 hB3 HS hxw hxl
  by_cases h128 : 128 ≤ y
  · have t128 : decide ((128 : Int) ≤ y) = true := by simp; omega
    go_wp2_with fail
    have hbA := Blk.new W3 #[.int .i64 8, .int .u64 0, .int .u64 0, .int .u64 0, .int .u64 0, .int .i64 0, .int .i64 0, .int .i64 m0, .int .i64 (-1)] 45
    have hbC : Below W3.heap.size W3 ((W3.alloc (.cells #[.int .i64 8, .int .u64 0, .int .u64 0, .int .u64 0, .int .u64 0, .int .i64 0, .int .i64 0, .int .i64 m0, .int .i64 (-1)] 45)).alloc (.cells #[.int .i64 8, .int .u64 0, .int .u64 0, .int .u64 0, .int .u64 0, .int .i64 0, .int .i64 0, .int .i64 mw, .int .i64 (-1)] 45)) := ((Below.refl _ W3).alloc (Nat.le_refl _) _).alloc (by simp) _
    have hO := hbA.alloc (.cells #[.int .i64 8, .int .u64 0, .int .u64 0, .int .u64 0, .int .u64 0, .int .i64 0, .int .i64 0, .int .i64 mw, .int .i64 (-1)] 45)
    have hR : Blk ((W3.alloc (.cells #[.int .i64 8, .int .u64 0, .int .u64 0, .int .u64 0, .int .u64 0, .int .i64 0, .int .i64 0, .int .i64 m0, .int .i64 (-1)] 45)).alloc (.cells #[.int .i64 8, .int .u64 0, .int .u64 0, .int .u64 0, .int .u64 0, .int .i64 0, .int .i64 0, .int .i64 mw, .int .i64 (-1)] 45)) (W3.heap.size + 1) #[.int .i64 8, .int .u64 0, .int .u64 0, .int .u64 0, .int .u64 0, .int .i64 0, .int .i64 0, .int .i64 mw, .int .i64 (-1)] 45 := Blk.alloc1 W3 _ _ _ _
    refine (HUn.out m0 (-1) _ hbC).mono ?_
    rintro e W5 ⟨⟨zq, zc, rfl, hz, -⟩, hbn⟩
    have hcur := hbC.trans (hbn.mono hbC.size)
    have hO := hO.grows hbn
    have hR := hR.grows hbn
    clear hbn hbA hbC
    go_wp2_with fail
    refine (HMt.out _ hcur _ _ hz (by rw [un_len]; have := HXw.out.2; omega)).mono ?_
    rintro e W6 ⟨rfl, hbn⟩
    have hcur := hcur.trans (hbn.mono hcur.size)
    have hO := hO.grows hbn
    have hR := hR.grows hbn
    clear hbn hz
    obtain ⟨o0, o1, o2, o3, o4, o5, o6, o7, o8⟩ := hO.nine
    obtain ⟨r0, r1, r2, r3, r4, r5, r6, r7, r8⟩ := hR.nine
    clear hO hR
    have em := match_unfold HXw.out.1 (by have := HXw.out.2; omega) (mn := m0) (mx := (-1)) (mn' := mw) (mx' := (-1)) (by omega) (.inl rfl) (by decide) (by have := HN.out; omega) (.inl ⟨rfl, rfl⟩) u
    have HWf := Lib.hid (wf_rep HXw.out.1 (mn := mw) (mx := (-1)) (by have := HN.out; omega) (by have := HN.out; omega))
    have HBx := Lib.hid (show (bin 4 xs (un (repN mw (-1)) xs)).length ≤ 200 by rw [bin_len, un_len]; have := HXw.out.2; omega)
    by_cases hz : m0 = 0 ∧ u.length = 0
    · have t0 : (m0 == 0) = true := by rw [beq_iff_eq]; exact hz.1
      have tu : ((u.length : Int) == 0) = true := by rw [beq_iff_eq]; have := hz.2; omega
      rw [decide_eq_true hz.1, decide_eq_true hz.2, Bool.true_and, Bool.true_or] at em
      clear hz
      go_wp2_with (first
        | (go_at_call 29; refine (HUn.out _ _ _ hcur).mono ?_; rintro e wn ⟨⟨zq, zc, rfl, hz, -⟩, hbn⟩; have hcur := hcur.trans (hbn.mono hcur.size); clear hbn)
        | (go_at_call 28; refine (HBin.out _ _ HWf.out _ hcur _ hz).mono ?_; rintro e wn ⟨⟨zq, zc, rfl, hz, -⟩, hbn⟩; have hcur := hcur.trans (hbn.mono hcur.size); clear hbn)
        | (go_at_call 21; refine (HMt.out _ hcur _ _ hz HBx.out).mono ?_; rintro e wn ⟨rfl, hbn⟩; have hcur := hcur.trans (hbn.mono hcur.size); clear hbn hz))
      go_ret
      exact ⟨rfl, HB3.out.trans (hcur.mono HB3.out.size)⟩
    · have ez0 : (decide (m0 = 0) && decide (u.length = 0)) = false := by
        rw [Bool.eq_false_iff]
        intro h
        rw [Bool.and_eq_true, decide_eq_true_iff, decide_eq_true_iff] at h
        exact hz h
      rw [ez0, Bool.false_or] at em
      clear ez0
      by_cases h0 : m0 = 0
      · have t0 : (m0 == 0) = true := by rw [beq_iff_eq]; exact h0
        have tu : ((u.length : Int) == 0) = false := by rw [beq_eq_false_iff_ne]; omega
        clear hz h0
        obtain ⟨r, hr⟩ : ∃ r, matchB (bin 4 xs (un (repN mw (-1)) xs)) u = r := ⟨_, rfl⟩
        rw [hr] at em
        cases r
        all_goals
          go_wp2_with (first
            | (go_at_call 29; refine (HUn.out _ _ _ hcur).mono ?_; rintro e wn ⟨⟨zq, zc, rfl, hz, -⟩, hbn⟩; have hcur := hcur.trans (hbn.mono hcur.size); clear hbn)
            | (go_at_call 28; refine (HBin.out _ _ HWf.out _ hcur _ hz).mono ?_; rintro e wn ⟨⟨zq, zc, rfl, hz, -⟩, hbn⟩; have hcur := hcur.trans (hbn.mono hcur.size); clear hbn)
            | (go_at_call 21; refine (HMt.out _ hcur _ _ hz HBx.out).mono ?_; rintro e wn ⟨rfl, hbn⟩; have hcur := hcur.trans (hbn.mono hcur.size); clear hbn hz))
          go_ret
          exact ⟨rfl, HB3.out.trans (hcur.mono HB3.out.size)⟩
      · have t0 : (m0 == 0) = false := by rw [beq_eq_false_iff_ne]; exact h0
        clear hz h0
        obtain ⟨r, hr⟩ : ∃ r, matchB (bin 4 xs (un (repN mw (-1)) xs)) u = r := ⟨_, rfl⟩
        rw [hr] at em
        cases r
        all_goals
          go_wp2_with (first
            | (go_at_call 29; refine (HUn.out _ _ _ hcur).mono ?_; rintro e wn ⟨⟨zq, zc, rfl, hz, -⟩, hbn⟩; have hcur := hcur.trans (hbn.mono hcur.size); clear hbn)
            | (go_at_call 28; refine (HBin.out _ _ HWf.out _ hcur _ hz).mono ?_; rintro e wn ⟨⟨zq, zc, rfl, hz, -⟩, hbn⟩; have hcur := hcur.trans (hbn.mono hcur.size); clear hbn)
            | (go_at_call 21; refine (HMt.out _ hcur _ _ hz HBx.out).mono ?_; rintro e wn ⟨rfl, hbn⟩; have hcur := hcur.trans (hbn.mono hcur.size); clear hbn hz))
          go_ret
          exact ⟨rfl, HB3.out.trans (hcur.mono HB3.out.size)⟩
  · have t128 : decide ((128 : Int) ≤ y) = false := by simp; omega
    go_wp2_with fail
    have hbA := Blk.new W3 #[.int .i64 8, .int .u64 0, .int .u64 0, .int .u64 0, .int .u64 0, .int .i64 0, .int .i64 0, .int .i64 m0, .int .i64 mx] 45
    have hbC : Below W3.heap.size W3 ((W3.alloc (.cells #[.int .i64 8, .int .u64 0, .int .u64 0, .int .u64 0, .int .u64 0, .int .i64 0, .int .i64 0, .int .i64 m0, .int .i64 mx] 45)).alloc (.cells #[.int .i64 8, .int .u64 0, .int .u64 0, .int .u64 0, .int .u64 0, .int .i64 0, .int .i64 0, .int .i64 mw, .int .i64 my] 45)) := ((Below.refl _ W3).alloc (Nat.le_refl _) _).alloc (by simp) _
    have hO := hbA.alloc (.cells #[.int .i64 8, .int .u64 0, .int .u64 0, .int .u64 0, .int .u64 0, .int .i64 0, .int .i64 0, .int .i64 mw, .int .i64 my] 45)
    have hR : Blk ((W3.alloc (.cells #[.int .i64 8, .int .u64 0, .int .u64 0, .int .u64 0, .int .u64 0, .int .i64 0, .int .i64 0, .int .i64 m0, .int .i64 mx] 45)).alloc (.cells #[.int .i64 8, .int .u64 0, .int .u64 0, .int .u64 0, .int .u64 0, .int .i64 0, .int .i64 0, .int .i64 mw, .int .i64 my] 45)) (W3.heap.size + 1) #[.int .i64 8, .int .u64 0, .int .u64 0, .int .u64 0, .int .u64 0, .int .i64 0, .int .i64 0, .int .i64 mw, .int .i64 my] 45 := Blk.alloc1 W3 _ _ _ _
    refine (HUn.out m0 mx _ hbC).mono ?_
    rintro e W5 ⟨⟨zq, zc, rfl, hz, -⟩, hbn⟩
    have hcur := hbC.trans (hbn.mono hbC.size)
    have hO := hO.grows hbn
    have hR := hR.grows hbn
    clear hbn hbA hbC
    go_wp2_with fail
    refine (HMt.out _ hcur _ _ hz (by rw [un_len]; have := HXw.out.2; omega)).mono ?_
    rintro e W6 ⟨rfl, hbn⟩
    have hcur := hcur.trans (hbn.mono hcur.size)
    have hO := hO.grows hbn
    have hR := hR.grows hbn
    clear hbn hz
    obtain ⟨o0, o1, o2, o3, o4, o5, o6, o7, o8⟩ := hO.nine
    obtain ⟨r0, r1, r2, r3, r4, r5, r6, r7, r8⟩ := hR.nine
    clear hO hR
    by_cases hx0 : mx = 0
    · have tx : (mx == 0) = true := by rw [beq_iff_eq]; exact hx0
      have hm0 : m0 = 0 := by have := HN.out; omega
      have t0 : (m0 == 0) = true := by rw [beq_iff_eq]; exact hm0
      have em := match_zero HXw.out.1 (by have := HXw.out.2; omega) u
      have em : matchB (un (repN m0 mx) xs) u = decide (u.length = 0) := by rw [hm0, hx0]; exact em
      clear hx0 hm0
      by_cases hz : u.length = 0
      · have tu : ((u.length : Int) == 0) = true := by rw [beq_iff_eq]; omega
        rw [decide_eq_true hz] at em
        clear hz
        go_wp2_with (first
          | (go_at_call 29; refine (HUn.out _ _ _ hcur).mono ?_; rintro e wn ⟨⟨zq, zc, rfl, hz, -⟩, hbn⟩; have hcur := hcur.trans (hbn.mono hcur.size); clear hbn)
          | (go_at_call 28; refine (HBin.out _ _ HWf.out _ hcur _ hz).mono ?_; rintro e wn ⟨⟨zq, zc, rfl, hz, -⟩, hbn⟩; have hcur := hcur.trans (hbn.mono hcur.size); clear hbn)
          | (go_at_call 21; refine (HMt.out _ hcur _ _ hz HBx.out).mono ?_; rintro e wn ⟨rfl, hbn⟩; have hcur := hcur.trans (hbn.mono hcur.size); clear hbn hz))
        go_ret
        exact ⟨rfl, HB3.out.trans (hcur.mono HB3.out.size)⟩
      · have tu : ((u.length : Int) == 0) = false := by rw [beq_eq_false_iff_ne]; omega
        rw [decide_eq_false hz] at em
        clear hz
        go_wp2_with (first
          | (go_at_call 29; refine (HUn.out _ _ _ hcur).mono ?_; rintro e wn ⟨⟨zq, zc, rfl, hz, -⟩, hbn⟩; have hcur := hcur.trans (hbn.mono hcur.size); clear hbn)
          | (go_at_call 28; refine (HBin.out _ _ HWf.out _ hcur _ hz).mono ?_; rintro e wn ⟨⟨zq, zc, rfl, hz, -⟩, hbn⟩; have hcur := hcur.trans (hbn.mono hcur.size); clear hbn)
          | (go_at_call 21; refine (HMt.out _ hcur _ _ hz HBx.out).mono ?_; rintro e wn ⟨rfl, hbn⟩; have hcur := hcur.trans (hbn.mono hcur.size); clear hbn hz))
        go_ret
        exact ⟨rfl, HB3.out.trans (hcur.mono HB3.out.size)⟩
    · have tx : (mx == 0) = false := by rw [beq_eq_false_iff_ne]; exact hx0
      have em := match_unfold HXw.out.1 (by have := HXw.out.2; omega) (mn := m0) (mx := mx) (mn' := mw) (mx' := my) (by omega) (.inr (by have := HN.out; omega)) hx0 (by have := HN.out; omega) (.inr (by have := HN.out; omega)) u
      have HWf := Lib.hid (wf_rep HXw.out.1 (mn := mw) (mx := my) (by have := HN.out; omega) (by have := HN.out; omega))
      have HBx := Lib.hid (show (bin 4 xs (un (repN mw my) xs)).length ≤ 200 by rw [bin_len, un_len]; have := HXw.out.2; omega)
      by_cases hz : m0 = 0 ∧ u.length = 0
      · have t0 : (m0 == 0) = true := by rw [beq_iff_eq]; exact hz.1
        have tu : ((u.length : Int) == 0) = true := by rw [beq_iff_eq]; have := hz.2; omega
        rw [decide_eq_true hz.1, decide_eq_true hz.2, Bool.true_and, Bool.true_or] at em
        clear hz
        go_wp2_with (first
          | (go_at_call 29; refine (HUn.out _ _ _ hcur).mono ?_; rintro e wn ⟨⟨zq, zc, rfl, hz, -⟩, hbn⟩; have hcur := hcur.trans (hbn.mono hcur.size); clear hbn)
          | (go_at_call 28; refine (HBin.out _ _ HWf.out _ hcur _ hz).mono ?_; rintro e wn ⟨⟨zq, zc, rfl, hz, -⟩, hbn⟩; have hcur := hcur.trans (hbn.mono hcur.size); clear hbn)
          | (go_at_call 21; refine (HMt.out _ hcur _ _ hz HBx.out).mono ?_; rintro e wn ⟨rfl, hbn⟩; have hcur := hcur.trans (hbn.mono hcur.size); clear hbn hz))
        go_ret
        exact ⟨rfl, HB3.out.trans (hcur.mono HB3.out.size)⟩
      · have ez0 : (decide (m0 = 0) && decide (u.length = 0)) = false := by
          rw [Bool.eq_false_iff]
          intro h
          rw [Bool.and_eq_true, decide_eq_true_iff, decide_eq_true_iff] at h
          exact hz h
        rw [ez0, Bool.false_or] at em
        clear ez0
        by_cases h0 : m0 = 0
        · have t0 : (m0 == 0) = true := by rw [beq_iff_eq]; exact h0
          have tu : ((u.length : Int) == 0) = false := by rw [beq_eq_false_iff_ne]; omega
          clear hz h0
          obtain ⟨r, hr⟩ : ∃ r, matchB (bin 4 xs (un (repN mw my) xs)) u = r := ⟨_, rfl⟩
          rw [hr] at em
          cases r
          all_goals
            go_wp2_with (first
              | (go_at_call 29; refine (HUn.out _ _ _ hcur).mono ?_; rintro e wn ⟨⟨zq, zc, rfl, hz, -⟩, hbn⟩; have hcur := hcur.trans (hbn.mono hcur.size); clear hbn)
              | (go_at_call 28; refine (HBin.out _ _ HWf.out _ hcur _ hz).mono ?_; rintro e wn ⟨⟨zq, zc, rfl, hz, -⟩, hbn⟩; have hcur := hcur.trans (hbn.mono hcur.size); clear hbn)
              | (go_at_call 21; refine (HMt.out _ hcur _ _ hz HBx.out).mono ?_; rintro e wn ⟨rfl, hbn⟩; have hcur := hcur.trans (hbn.mono hcur.size); clear hbn hz))
            go_ret
            exact ⟨rfl, HB3.out.trans (hcur.mono HB3.out.size)⟩
        · have t0 : (m0 == 0) = false := by rw [beq_eq_false_iff_ne]; exact h0
          clear hz h0
          obtain ⟨r, hr⟩ : ∃ r, matchB (bin 4 xs (un (repN mw my) xs)) u = r := ⟨_, rfl⟩
          rw [hr] at em
          cases r
          all_goals
            go_wp2_with (first
              | (go_at_call 29; refine (HUn.out _ _ _ hcur).mono ?_; rintro e wn ⟨⟨zq, zc, rfl, hz, -⟩, hbn⟩; have hcur := hcur.trans (hbn.mono hcur.size); clear hbn)
              | (go_at_call 28; refine (HBin.out _ _ HWf.out _ hcur _ hz).mono ?_; rintro e wn ⟨⟨zq, zc, rfl, hz, -⟩, hbn⟩; have hcur := hcur.trans (hbn.mono hcur.size); clear hbn)
              | (go_at_call 21; refine (HMt.out _ hcur _ _ hz HBx.out).mono ?_; rintro e wn ⟨rfl, hbn⟩; have hcur := hcur.trans (hbn.mono hcur.size); clear hbn hz))
            go_ret
            exact ⟨rfl, HB3.out.trans (hcur.mono HB3.out.size)⟩
end Go.Proofs.YtgbkjgfiofncdaaGreatDoor

/-
  The law on the empty word: the walk.
-/
namespace Go.Proofs.YtgbkjgfiofncdaaGreatDoor
open Go.RowKit Go.Shelf
attribute [local go_sem] Oper.semAt_some

set_option maxRecDepth 100000 in
set_option maxHeartbeats 4000000 in
theorem empty_walk (W : World) (v : Value) (x : List Nd) (lp : Option Addr) (lc : Nat) (l : List Int) (hv : IsX W v x) (hx : x.length ≤ maxLen) (hl : BytesArg W lp lc l) (hG : Given W) :
    Calls Tryz.prog 10 #[v, .slice lp l.length lc] W fun e W' => e = .returned (.bool true) ∧ Below W.heap.size W W' := by
  obtain ⟨vp, vc, rfl⟩ := hv.shape
  have HS := Lib.hid (sanity_any W hG.bruijn hG.bruijn_lt hG.powers)
  have HL := Lib.hid hl
  have HG := Lib.hid hG
  have HN := Lib.hid (fun w (hw : Below W.heap.size W w) => nullable_any _ x w (hv.kept fun _ _ h => (hw.cell (lt_of_cell h)).trans h) hx (hG.at hw))
  have HM := Lib.hid (fun w (hw : Below W.heap.size W w) => match_any _ (.slice none 0 0) x [] w (hv.kept fun _ _ h => (hw.cell (lt_of_cell h)).trans h) hx (.inl ⟨rfl, none, 0, rfl⟩) (fun y hy => by cases hy) (by simp) (hG.at hw))
  clear hv hl hG hx
  go_enter Tryz.func10, Tryz.ntmps10
  go_wp2_with fail
  refine HS.out.mono ?_
  rintro e W1 ⟨rfl, hb1⟩
  go_wp2_with fail
  refine (HL.out.made hb1 60 (by omega) (by omega)).mono ?_
  rintro e W2 ⟨⟨xq, xc, xs, rfl, hx, hxw, hxl, -⟩, hb2⟩
  have hcur := hb1.trans (hb2.mono hb1.size)
  have HN2 := Lib.hid (fun w (hw : Below W2.heap.size W2 w) => nullable_any _ xs w (hx.grows hw) (by unfold maxLen; omega) (HG.out.at (hcur.trans (hw.mono hcur.size))))
  have HM2 := Lib.hid (fun w (hw : Below W2.heap.size W2 w) (p : Option Addr) (c : Nat) => match_any _ (.slice p 0 c) xs [] w (hx.grows hw) (by unfold maxLen; omega) (.inl ⟨rfl, p, c, rfl⟩) (fun y hy => by cases hy) (by simp) (HG.out.at (hcur.trans (hw.mono hcur.size))))
  have hc2 : Below W2.heap.size W2 W2 := Below.refl _ _
  obtain ⟨r1, e1⟩ : ∃ r, matchB x [] = r := ⟨_, rfl⟩
  obtain ⟨r2, e2⟩ : ∃ r, matchB xs [] = r := ⟨_, rfl⟩
  rw [e1] at HN HM
  rw [e2] at HN2 HM2
  have HC := Lib.hid hcur
  clear hx hb1 hb2 HS
  cases r1 <;> cases r2
  all_goals
    go_wp2_with fail
    refine (HN.out _ hcur).mono ?_
    rintro e W3 ⟨rfl, hbn⟩
    have hc2 := hc2.trans (hbn.mono hc2.size)
    have hcur := HC.out.trans (hc2.mono HC.out.size)
    clear hbn
    go_wp2_with fail
    refine (HM.out _ hcur).mono ?_
    rintro e W4 ⟨rfl, hbn⟩
    have hc2 := hc2.trans (hbn.mono hc2.size)
    have hcur := HC.out.trans (hc2.mono HC.out.size)
    clear hbn
    go_wp2_with fail
    refine (HN2.out _ hc2).mono ?_
    rintro e W5 ⟨rfl, hbn⟩
    have hc2 := hc2.trans (hbn.mono hc2.size)
    have hc3 : Below W2.heap.size W2 (W5.alloc (.cells #[] 5)) := hc2.alloc hc2.size _
    clear hbn
    go_wp2_with fail
    trace_state
    refine (HM2.out _ hc3 _ _).mono ?_
    rintro e W6 ⟨rfl, hbn⟩
    have hc4 := hc3.trans (hbn.mono hc3.size)
    go_wp2_with fail
    go_ret
    exact ⟨rfl, HC.out.trans (hc4.mono HC.out.size)⟩
end Go.Proofs.YtgbkjgfiofncdaaGreatDoor

/-
  An expression as an argument: opened.
-/
namespace Go.Proofs.YtgbkjgfiofncdaaGreatDoor
open Go.ChangeShapes Go.WideShapes Go.ChangeAt Go.RowKit

theorem cellsNd : Tryz.prog.cellsOf 45 = 9 := by kernel_rfl
theorem cellsInt : Tryz.prog.cellsOf 3 = 1 := by kernel_rfl
set_option maxRecDepth 100000 in
theorem nd_of_trod {H : Type} {enc : TypeId × Value → H} {W : World} {base : Nat} {sp : Nat → Bool} {held : Bool} {fuel : Nat} {cs : List Value} {y : DataW H × List MemPlace} (hl : cs.length = 9)
    (hf : DataW.trod enc Tryz.prog W base sp held fuel 45 cs = some y) : ∃ x : Nd, cs = encN x := by
  have ut := Tryz.underlying45
  have uc := Tryz.underlying43
  have ue := Tryz.underlying41
  have ui := Tryz.underlying3
  match cs, hl with
  | [e0, e1, e2, e3, e4, e5, e6, e7, e8], _ =>
    obtain ⟨xs, n, _, _, _, hlen, hx⟩ := DataW.trod_struct ut hf
    have h0 := hx 0 _ rfl
    have h1 := hx 1 _ rfl
    have h2 := hx 2 _ rfl
    have h3 := hx 3 _ rfl
    have h4 := hx 4 _ rfl
    have h5 := hx 5 _ rfl
    have g : ∀ i, i < xs.length → ∃ y, xs[i]? = some y := fun i hi => ⟨_, List.getElem?_eq_getElem hi⟩
    have hn : xs.length = 6 := hlen
    obtain ⟨y0, g0⟩ := g 0 (by omega)
    obtain ⟨y1, g1⟩ := g 1 (by omega)
    obtain ⟨y2, g2⟩ := g 2 (by omega)
    obtain ⟨y3, g3⟩ := g 3 (by omega)
    obtain ⟨y4, g4⟩ := g 4 (by omega)
    obtain ⟨y5, g5⟩ := g 5 (by omega)
    rw [g0] at h0
    rw [g1] at h1
    rw [g2] at h2
    rw [g3] at h3
    rw [g4] at h4
    rw [g5] at h5
    simp only [List.getElem_toArray, List.getElem_cons_zero, List.getElem_cons_succ, cellsInt, cellsCls] at h0 h1 h2 h3 h4 h5
    obtain ⟨a0, ea0, _, _⟩ := DataW.trod_int ui h0
    obtain ⟨z0, z1, z2, z3, m, _, k0, k1, k2, k3⟩ := trod_array4 uc cellsU64 (show DataW.trod enc Tryz.prog W base sp held n 43 [e1, e2, e3, e4] = some y1 from h1)
    obtain ⟨w0, q0, _, v0⟩ := DataW.trod_int ue k0
    obtain ⟨w1, q1, _, v1⟩ := DataW.trod_int ue k1
    obtain ⟨w2, q2, _, v2⟩ := DataW.trod_int ue k2
    obtain ⟨w3, q3, _, v3⟩ := DataW.trod_int ue k3
    obtain ⟨a2, ea2, _, _⟩ := DataW.trod_int ui h2
    obtain ⟨a3, ea3, _, _⟩ := DataW.trod_int ui h3
    obtain ⟨a4, ea4, _, _⟩ := DataW.trod_int ui h4
    obtain ⟨a5, ea5, _, _⟩ := DataW.trod_int ui h5
    obtain ⟨c, rfl, rfl, rfl, rfl⟩ := ofWords w0 w1 w2 w3 (wf_u64 v0) (wf_u64 v1) (wf_u64 v2) (wf_u64 v3)
    simp at q0 q1 q2 q3 ea0 ea2 ea3 ea4 ea5
    subst q0 q1 q2 q3 ea0 ea2 ea3 ea4 ea5
    exact ⟨⟨a0, c, a2, a3, a4, a5⟩, rfl⟩
set_option maxRecDepth 100000 in
theorem open_regex {H : Type} {enc : TypeId × Value → H} {W : World} {base : Nat} {sp : Nat → Bool} {held : Bool} {r : Reach} {b0 : Nat} {v : Value} {d : DataW H} {ps : List MemPlace}
    (hval : Value.okWide Tryz.prog W r b0 23 v) (hd : DataW.Trod enc Tryz.prog W base sp held 23 v d ps) : ∃ l, IsX W v l ∧ l.length ≤ Rows.uptoBulk d := by
  have us := Tryz.underlying23
  obtain ⟨p, len, cap, rfl⟩ := okWide_slice us hval
  obtain ⟨fuel, hf⟩ := hd
  rcases DataW.trod_slice us hf with ⟨hcs, _⟩ | ⟨a, len', cap', elems, rest, n, _, hcs, hx, hb, hl, hm, hlen, hel, hsp, hns⟩
  · simp [Value.cells] at hcs
    obtain ⟨rfl, rfl, rfl⟩ := hcs
    exact ⟨[], .inl ⟨rfl, none, 0, rfl⟩, by simp⟩
  · simp [Value.cells] at hcs
    obtain ⟨rfl, rfl, rfl⟩ := hcs
    simp only [Prod.mk.injEq] at hx
    obtain ⟨rfl, -⟩ := hx
    have each : ∀ i, i < len → ∃ x : Nd, ∀ j u, (encN x)[j]? = some u → W.cell? ((a.add (i * 9)).add j) = some u := by
      intro i hi
      have h := hel i hi
      rw [cellsNd] at h
      obtain ⟨y, hy⟩ : ∃ y, elems[i]? = some y := ⟨_, List.getElem?_eq_getElem (by omega)⟩
      rw [hy, Option.bind_eq_some_iff] at h
      obtain ⟨cs, hcs, hy'⟩ := h
      obtain ⟨_, hlen9, hcell⟩ := World.cells?_some hcs
      obtain ⟨x, rfl⟩ := nd_of_trod hlen9 hy'
      exact ⟨x, fun j u hj => (hcell j (List.getElem?_eq_some_iff.1 hj).1).trans hj⟩
    have hf : ∃ f : Nat → Nd, ∀ i, i < len → ∀ j u, (encN (f i))[j]? = some u → W.cell? ((a.add (i * 9)).add j) = some u := by
      refine ⟨fun i => if h : i < len then Classical.choose (each i h) else ⟨0, 0, 0, 0, 0, 0⟩, fun i hi => ?_⟩
      simp only [dif_pos hi]
      exact Classical.choose_spec (each i hi)
    obtain ⟨f, hf⟩ := hf
    have hll : ((List.range len).map f).length = len := by simp
    refine ⟨(List.range len).map f, ?_, ?_⟩
    · rcases Nat.eq_zero_or_pos len with h0 | hp
      · subst h0
        exact .inl ⟨rfl, _, _, rfl⟩
      · obtain ⟨b, off, spot⟩ := a
        have hspot : spot = none := by simpa [Addr.add] using World.cell?_spot (hf 0 hp 0 _ rfl)
        subst hspot
        refine .inr ⟨b, off, cap, by rw [hll], fun j x hj i u hi => ?_⟩
        have hjl : j < len := by rw [← hll]; exact (List.getElem?_eq_some_iff.1 hj).1
        rw [List.getElem?_map, List.getElem?_range hjl] at hj
        cases hj
        have := hf j hjl i u hi
        rw [add_plain, add_plain] at this
        exact this
    · have h1 := bulk_slice (H := H) (elems.map (·.1)) (rest.map (·.1))
      rw [List.length_map] at h1
      omega
end Go.Proofs.YtgbkjgfiofncdaaGreatDoor

/-
  The law on spoiled expressions: the walk.
-/
namespace Go.Proofs.YtgbkjgfiofncdaaGreatDoor
open Go.RowKit Go.Shelf
attribute [local go_sem] Oper.semAt_some

theorem isX_take {W : World} {blk off n c : Nat} {l : List Nd} (h : IsX W (.slice (some ⟨blk, off, none⟩) n c) l) {k : Nat} (hk : k ≤ l.length) : IsX W (.slice (some ⟨blk, off, none⟩) k c) (l.take k) := by
  rcases Nat.eq_zero_or_pos k with h0 | h0
  · subst h0; exact .inl ⟨by simp, _, _, rfl⟩
  · rcases h with ⟨rfl, _⟩ | ⟨blk', off', cap, he, hr⟩
    · simp at hk; omega
    · simp only [Value.slice.injEq, Option.some.injEq, Addr.mk.injEq] at he
      obtain ⟨⟨rfl, rfl, _⟩, _, rfl⟩ := he
      refine .inr ⟨blk, off, c, by rw [List.length_take, Nat.min_eq_left hk], fun j x hj i v hi => ?_⟩
      rw [List.getElem?_take] at hj
      split at hj
      · exact hr j x hj i v hi
      · cases hj
/-- With, as the law wants it. -/
theorem with_is (n : Nd) (v : Value) (xs : List Nd) (W : World) (hv : IsX W v xs) (hl : xs.length ≤ 1099511627776) :
    Calls Tryz.prog 31 #[v, valN n] W fun e W' => (∃ b o c, e = .returned (.slice (some ⟨b, o, none⟩) (xs.length + 1) c) ∧ IsX W' (.slice (some ⟨b, o, none⟩) (xs.length + 1) c) (xs ++ [n]) ∧ xs.length + 1 ≤ c) ∧ Below W.heap.size W W' :=
  (rwith_any n v xs W hv hl).mono (R' := fun e W' => (∃ b o c, e = .returned (.slice (some ⟨b, o, none⟩) (xs.length + 1) c) ∧ IsX W' (.slice (some ⟨b, o, none⟩) (xs.length + 1) c) (xs ++ [n]) ∧ xs.length + 1 ≤ c) ∧ Below W.heap.size W W') (fun e W' ⟨⟨v', he, ho⟩, hb⟩ => by
    have hx := own_isX (l := xs ++ [n]) (own_cast ho (by simp) rfl)
    obtain ⟨p, c, rfl⟩ := own_shape ho
    have hc := own_cap ho
    obtain ⟨b, o, hp, _⟩ := hx.at (k := xs.length) (x := n) (by rw [List.getElem?_append_right (by omega)]; simp)
    subst hp
    exact ⟨⟨b, o, c, he, hx, hc⟩, hb⟩)
theorem with_zero (k l r mn mx : Int) (v : Value) (xs : List Nd) (W : World) (hv : IsX W v xs) (hl : xs.length ≤ 1099511627776) :
    Calls Tryz.prog 31 #[v, .agg #[.int .i64 k, .int .u64 0, .int .u64 0, .int .u64 0, .int .u64 0, .int .i64 l, .int .i64 r, .int .i64 mn, .int .i64 mx]] W fun e W' => (∃ b o c, e = .returned (.slice (some ⟨b, o, none⟩) (xs.length + 1) c) ∧ IsX W' (.slice (some ⟨b, o, none⟩) (xs.length + 1) c) (xs ++ [⟨k, 0, l, r, mn, mx⟩]) ∧ xs.length + 1 ≤ c) ∧ Below W.heap.size W W' := by
  have h := with_is ⟨k, 0, l, r, mn, mx⟩ v xs W hv hl
  have e : valN ⟨k, 0, l, r, mn, mx⟩ = .agg #[.int .i64 k, .int .u64 0, .int .u64 0, .int .u64 0, .int .u64 0, .int .i64 l, .int .i64 r, .int .i64 mn, .int .i64 mx] := by
    simp only [valN, wd_zero]
  rw [e] at h
  exact h

theorem match_no {zs : List Nd} {b : List Int} (h : validE zs ≠ 0) : matchB zs b = false := by
  rw [Bool.eq_false_iff]
  intro hm
  exact h (matchB_true.1 hm).1

set_option maxRecDepth 100000 in
set_option maxHeartbeats 4000000 in
theorem rejects_walk (W : World) (lp bp : Option Addr) (lc bc : Nat) (l b : List Int) (y : Int) (hy0 : 0 ≤ y ∧ y < 256) (hl : BytesArg W lp lc l) (hb : BytesArg W bp bc b) (hG : Given W) :
    Calls Tryz.prog 12 #[.slice lp l.length lc, .int .u8 y, .slice bp b.length bc] W fun e W' => e = .returned (.bool true) ∧ Below W.heap.size W W' := by
  have HS := Lib.hid (sanity_any W hG.bruijn hG.bruijn_lt hG.powers)
  have HL := Lib.hid hl
  have HB := Lib.hid hb
  have HG := Lib.hid hG
  obtain ⟨kk, e0⟩ : ∃ kk, y.tmod 6 = kk := ⟨_, rfl⟩
  obtain ⟨q, e1⟩ : ∃ q, y / 6 = q := ⟨_, rfl⟩
  have hkk : 0 ≤ kk ∧ kk < 6 := by rw [← e0, Int.tmod_eq_emod_of_nonneg (by omega)]; omega
  have hq : 0 ≤ q ∧ q < 43 := by omega
  have hwq8 : IntKind.u8.wrap q = q := by rw [IntKind.wrap_u8]; omega
  have hwq : IntKind.i64.wrap q = q := IntWalk.i64_in _ (by omega)
  clear hl hb hG
  have hcase : kk = 0 ∨ kk = 1 ∨ kk = 2 ∨ kk = 3 ∨ kk = 4 ∨ kk = 5 := by omega
  go_enter Tryz.func12, Tryz.ntmps12
  go_wp2_with fail
  refine HS.out.mono ?_
  rintro e W1 ⟨rfl, hb1⟩
  go_wp2_with fail
  refine (HL.out.made hb1 30 (by omega) (by omega)).mono ?_
  rintro e W2 ⟨⟨xq, xc, xs, rfl, hx, hxw, hxl, hxc⟩, hb2⟩
  have hB2 := hb1.trans (hb2.mono hb1.size)
  obtain ⟨m, hm⟩ : ∃ m, m = xs.length - 1 := ⟨_, rfl⟩
  have hpos := hxw.pos
  obtain ⟨rt, hrt⟩ : ∃ rt, xs[m]? = some rt := ⟨_, List.getElem?_eq_getElem (by omega)⟩
  obtain ⟨xb, xo, hxq, a0, a1, a2, a3, a4, a5, a6, a7, a8⟩ := hx.at hrt
  subst hxq
  obtain ⟨k, cc, lf, rf, mn, mx⟩ := rt
  dsimp only at a0 a1 a2 a3 a4 a5 a6 a7 a8
  obtain ⟨n, hn⟩ : ∃ n, n = xs.length := ⟨_, rfl⟩
  rw [← hn] at hx hxl hxc hm hpos ⊢
  have hw1 : IntKind.i64.wrap ((n : Int) - 1) = (m : Int) := by rw [IntWalk.i64_in _ (by omega)]; omega
  have hmn : m < n := by omega
  have hmc : m ≤ xc := by omega
  have HX := Lib.hid hx
  have HB2 := Lib.hid hB2
  have HWf := Lib.hid hxw
  have HN := Lib.hid (And.intro hm hn)
  have HNb : Hid (n ≤ 30 ∧ 1 ≤ n) := Lib.hid ⟨hxl, hpos⟩
  have HMt := Lib.hid (fun w (hw : Below W2.heap.size W2 w) zv zs (hz : IsX w zv zs) (hzl : zs.length ≤ 200) => match_is (HB.out.at hB2).is HB.out.byte HB.out.len hw (HG.out.at (hB2.trans (hw.mono hB2.size))) hz hzl)
  have HNu := Lib.hid (fun w (hw : Below W2.heap.size W2 w) zv zs (hz : IsX w zv zs) (hzl : zs.length ≤ 200) => nullable_any zv zs w hz (by unfold maxLen; omega) (HG.out.at (hB2.trans (hw.mono hB2.size))))
  have HVa := Lib.hid (fun w zv zs (hz : IsX w zv zs) (hzl : zs.length ≤ 200) => valid_any zv zs w hz (by unfold maxLen; omega))
  have HFo := Lib.hid (fun w zv zs (hz : IsX w zv zs) (hzl : zs.length ≤ 200) (h0 : validE zs ≠ 0) => format_bad zv zs w hz (by unfold maxLen; omega) h0)
  clear hx hb1 hb2 hB2 HS hxw hxl hxc hm hn hrt hpos
  rcases hcase with rfl | rfl | rfl | rfl | rfl | rfl
  · have hkv : ∃ kv, 9 * (q % 2) = kv ∧ (kv = 0 ∨ kv = 9) := by
      refine ⟨_, rfl, ?_⟩
      have h2 : q % 2 = 0 ∨ q % 2 = 1 := by omega
      rcases h2 with h2 | h2 <;> rw [h2]
      · exact .inl rfl
      · exact .inr rfl
    obtain ⟨kv, ekv, hkv⟩ := hkv
    have hkn : knownB kv = false := by rcases hkv with rfl | rfl <;> rfl
    clear hkv
    have HZ := Lib.hid (show validE (xs.take m ++ [(⟨kv, cc, lf, rf, mn, mx⟩ : Nd)]) = 1 from by rw [show m = xs.length - 1 by have := HN.out; omega, spoiled_root HWf.out (by have := HNb.out; have := HN.out; omega) (by rw [(chk_kind (n := ⟨kv, cc, lf, rf, mn, mx⟩) hkn)]; decide)]; exact (chk_kind (n := ⟨kv, cc, lf, rf, mn, mx⟩) hkn))
    have HZl := Lib.hid (show (xs.take m ++ [(⟨kv, cc, lf, rf, mn, mx⟩ : Nd)]).length ≤ 200 from by rw [List.length_append, List.length_take, List.length_singleton]; have := HNb.out; have := HN.out; omega)
    have HMf := Lib.hid (show matchB (xs.take m ++ [(⟨kv, cc, lf, rf, mn, mx⟩ : Nd)]) b = false from match_no (by rw [HZ.out]; decide))
    have HMe := Lib.hid (show matchB (xs.take m ++ [(⟨kv, cc, lf, rf, mn, mx⟩ : Nd)]) [] = false from match_no (by rw [HZ.out]; decide))
    have HW := Lib.hid (fun w (hw : Below W2.heap.size W2 w) => by
      have h := with_is ⟨kv, cc, lf, rf, mn, mx⟩ _ (xs.take m) w (isX_take (HX.out.grows hw) (by have := HN.out; omega)) (by rw [List.length_take]; have := HNb.out; have := HN.out; omega)
      rw [List.length_take, show min m xs.length = m by have := HN.out; omega] at h
      exact h)
    have hblk := (Blk.new W2 #[.int .i64 kv, .int .u64 (wd cc 0), .int .u64 (wd cc 1), .int .u64 (wd cc 2), .int .u64 (wd cc 3), .int .i64 lf, .int .i64 rf, .int .i64 mn, .int .i64 mx] 45).drew
    obtain ⟨n0, n1, n2, n3, n4, n5, n6, n7, n8⟩ := hblk.nine
    have hcur : Below W2.heap.size W2 (W2.alloc (.cells #[.int .i64 kv, .int .u64 (wd cc 0), .int .u64 (wd cc 1), .int .u64 (wd cc 2), .int .u64 (wd cc 3), .int .i64 lf, .int .i64 rf, .int .i64 mn, .int .i64 mx] 45)).drew := ((Below.refl _ W2).alloc (Nat.le_refl _) _).drew
    clear hblk
    go_wp2_with fail
    go_region_held3 (fun W' => W'.cell? ⟨W2.heap.size, 0, none⟩ = some (.int .i64 kv) ∧ W'.cell? ⟨W2.heap.size, 1, none⟩ = some (.int .u64 (wd cc 0)) ∧ W'.cell? ⟨W2.heap.size, 2, none⟩ = some (.int .u64 (wd cc 1)) ∧ W'.cell? ⟨W2.heap.size, 3, none⟩ = some (.int .u64 (wd cc 2)) ∧ W'.cell? ⟨W2.heap.size, 4, none⟩ = some (.int .u64 (wd cc 3)) ∧ W'.cell? ⟨W2.heap.size, 5, none⟩ = some (.int .i64 lf) ∧ W'.cell? ⟨W2.heap.size, 6, none⟩ = some (.int .i64 rf) ∧ W'.cell? ⟨W2.heap.size, 7, none⟩ = some (.int .i64 mn) ∧ W'.cell? ⟨W2.heap.size, 8, none⟩ = some (.int .i64 mx)) (first | exact ⟨n0, n1, n2, n3, n4, n5, n6, n7, n8⟩) (first
      | (go_at_call 31; ((with_reducible refine (HW.out _ hcur).mono ?_)); rintro e wn ⟨⟨zb, zo, zc, rfl, hz, hzc⟩, hbn⟩; have n0 := (hbn.cell (lt_of_cell n0)).trans n0; have n1 := (hbn.cell (lt_of_cell n1)).trans n1; have n2 := (hbn.cell (lt_of_cell n2)).trans n2; have n3 := (hbn.cell (lt_of_cell n3)).trans n3; have n4 := (hbn.cell (lt_of_cell n4)).trans n4; have n5 := (hbn.cell (lt_of_cell n5)).trans n5; have n6 := (hbn.cell (lt_of_cell n6)).trans n6; have n7 := (hbn.cell (lt_of_cell n7)).trans n7; have n8 := (hbn.cell (lt_of_cell n8)).trans n8; have hcur := hcur.trans (hbn.mono hcur.size); clear hbn))
    all_goals
      have HZx := Lib.hid hz
      clear hz hzc
      go_wp2_with fail
      refine (HFo.out _ _ _ HZx.out HZl.out (by rw [HZ.out]; decide)).mono ?_
      rw [HZ.out]
      rintro e W5 ⟨rfl, hbn⟩
      have HZx := Lib.hid (HZx.out.grows hbn)
      have hcur := hcur.trans (hbn.mono hcur.size)
      clear hbn
      go_wp2_with fail
      refine (HVa.out _ _ _ HZx.out HZl.out).mono ?_
      rw [HZ.out]
      rintro e W6 ⟨rfl, hbn⟩
      have HZx := Lib.hid (HZx.out.grows hbn)
      have hcur := hcur.trans (hbn.mono hcur.size)
      clear hbn
      go_wp2_with fail
      refine (HMt.out _ hcur _ _ HZx.out HZl.out).mono ?_
      rw [HMf.out]
      rintro e W7 ⟨rfl, hbn⟩
      have HZx := Lib.hid (HZx.out.grows hbn)
      have hcur := hcur.trans (hbn.mono hcur.size)
      clear hbn
      go_wp2_with fail
      refine (HNu.out _ hcur _ _ HZx.out HZl.out).mono ?_
      rw [HMe.out]
      rintro e W8 ⟨rfl, hbn⟩
      have hcur := hcur.trans (hbn.mono hcur.size)
      clear hbn
      go_wp2_with fail
      go_ret
      exact ⟨rfl, HB2.out.trans (hcur.mono HB2.out.size)⟩
  · obtain ⟨lv, elv⟩ : ∃ lv, (n : Int) + q = lv := ⟨_, rfl⟩
    have hlv : lv = (n : Int) + q := elv.symm
    have hwl : IntKind.i64.wrap lv = lv := IntWalk.i64_in _ (by have := HNb.out; omega)
    have hck : chkN ⟨k, cc, lv, rf, mn, mx⟩ ((xs.length : Int) - 1) = 1 := chk_left (show lv ≠ 0 by have := HNb.out; omega) (.inr (show (xs.length : Int) - 1 ≤ lv by have := HN.out; omega))
    clear hlv
    have HZ := Lib.hid (show validE (xs.take m ++ [(⟨k, cc, lv, rf, mn, mx⟩ : Nd)]) = 1 from by rw [show m = xs.length - 1 by have := HN.out; omega, spoiled_root HWf.out (by have := HNb.out; have := HN.out; omega) (by rw [hck]; decide)]; exact hck)
    have HZl := Lib.hid (show (xs.take m ++ [(⟨k, cc, lv, rf, mn, mx⟩ : Nd)]).length ≤ 200 from by rw [List.length_append, List.length_take, List.length_singleton]; have := HNb.out; have := HN.out; omega)
    have HMf := Lib.hid (show matchB (xs.take m ++ [(⟨k, cc, lv, rf, mn, mx⟩ : Nd)]) b = false from match_no (by rw [HZ.out]; decide))
    have HMe := Lib.hid (show matchB (xs.take m ++ [(⟨k, cc, lv, rf, mn, mx⟩ : Nd)]) [] = false from match_no (by rw [HZ.out]; decide))
    have HW := Lib.hid (fun w (hw : Below W2.heap.size W2 w) => by
      have h := with_is ⟨k, cc, lv, rf, mn, mx⟩ _ (xs.take m) w (isX_take (HX.out.grows hw) (by have := HN.out; omega)) (by rw [List.length_take]; have := HNb.out; have := HN.out; omega)
      rw [List.length_take, show min m xs.length = m by have := HN.out; omega] at h
      exact h)
    have hblk := (Blk.new W2 #[.int .i64 k, .int .u64 (wd cc 0), .int .u64 (wd cc 1), .int .u64 (wd cc 2), .int .u64 (wd cc 3), .int .i64 lv, .int .i64 rf, .int .i64 mn, .int .i64 mx] 45).drew
    obtain ⟨n0, n1, n2, n3, n4, n5, n6, n7, n8⟩ := hblk.nine
    have hcur : Below W2.heap.size W2 (W2.alloc (.cells #[.int .i64 k, .int .u64 (wd cc 0), .int .u64 (wd cc 1), .int .u64 (wd cc 2), .int .u64 (wd cc 3), .int .i64 lv, .int .i64 rf, .int .i64 mn, .int .i64 mx] 45)).drew := ((Below.refl _ W2).alloc (Nat.le_refl _) _).drew
    clear hblk
    go_wp2_with fail
    go_region_held3 (fun W' => W'.cell? ⟨W2.heap.size, 0, none⟩ = some (.int .i64 k) ∧ W'.cell? ⟨W2.heap.size, 1, none⟩ = some (.int .u64 (wd cc 0)) ∧ W'.cell? ⟨W2.heap.size, 2, none⟩ = some (.int .u64 (wd cc 1)) ∧ W'.cell? ⟨W2.heap.size, 3, none⟩ = some (.int .u64 (wd cc 2)) ∧ W'.cell? ⟨W2.heap.size, 4, none⟩ = some (.int .u64 (wd cc 3)) ∧ W'.cell? ⟨W2.heap.size, 5, none⟩ = some (.int .i64 lv) ∧ W'.cell? ⟨W2.heap.size, 6, none⟩ = some (.int .i64 rf) ∧ W'.cell? ⟨W2.heap.size, 7, none⟩ = some (.int .i64 mn) ∧ W'.cell? ⟨W2.heap.size, 8, none⟩ = some (.int .i64 mx)) (first | exact ⟨n0, n1, n2, n3, n4, n5, n6, n7, n8⟩) (first
      | (go_at_call 31; ((with_reducible refine (HW.out _ hcur).mono ?_)); rintro e wn ⟨⟨zb, zo, zc, rfl, hz, hzc⟩, hbn⟩; have n0 := (hbn.cell (lt_of_cell n0)).trans n0; have n1 := (hbn.cell (lt_of_cell n1)).trans n1; have n2 := (hbn.cell (lt_of_cell n2)).trans n2; have n3 := (hbn.cell (lt_of_cell n3)).trans n3; have n4 := (hbn.cell (lt_of_cell n4)).trans n4; have n5 := (hbn.cell (lt_of_cell n5)).trans n5; have n6 := (hbn.cell (lt_of_cell n6)).trans n6; have n7 := (hbn.cell (lt_of_cell n7)).trans n7; have n8 := (hbn.cell (lt_of_cell n8)).trans n8; have hcur := hcur.trans (hbn.mono hcur.size); clear hbn))
    all_goals
      have HZx := Lib.hid hz
      clear hz hzc
      go_wp2_with fail
      refine (HFo.out _ _ _ HZx.out HZl.out (by rw [HZ.out]; decide)).mono ?_
      rw [HZ.out]
      rintro e W5 ⟨rfl, hbn⟩
      have HZx := Lib.hid (HZx.out.grows hbn)
      have hcur := hcur.trans (hbn.mono hcur.size)
      clear hbn
      go_wp2_with fail
      refine (HVa.out _ _ _ HZx.out HZl.out).mono ?_
      rw [HZ.out]
      rintro e W6 ⟨rfl, hbn⟩
      have HZx := Lib.hid (HZx.out.grows hbn)
      have hcur := hcur.trans (hbn.mono hcur.size)
      clear hbn
      go_wp2_with fail
      refine (HMt.out _ hcur _ _ HZx.out HZl.out).mono ?_
      rw [HMf.out]
      rintro e W7 ⟨rfl, hbn⟩
      have HZx := Lib.hid (HZx.out.grows hbn)
      have hcur := hcur.trans (hbn.mono hcur.size)
      clear hbn
      go_wp2_with fail
      refine (HNu.out _ hcur _ _ HZx.out HZl.out).mono ?_
      rw [HMe.out]
      rintro e W8 ⟨rfl, hbn⟩
      have hcur := hcur.trans (hbn.mono hcur.size)
      clear hbn
      go_wp2_with fail
      go_ret
      exact ⟨rfl, HB2.out.trans (hcur.mono HB2.out.size)⟩
  · obtain ⟨lv, elv⟩ : ∃ lv, -1 - q = lv := ⟨_, rfl⟩
    have hlv : lv = -1 - q := elv.symm
    have hwl : IntKind.i64.wrap lv = lv := IntWalk.i64_in _ (by omega)
    have hck : chkN ⟨k, cc, lv, rf, mn, mx⟩ ((xs.length : Int) - 1) = 1 := chk_left (show lv ≠ 0 by omega) (.inl (show lv < 0 by omega))
    clear hlv
    have HZ := Lib.hid (show validE (xs.take m ++ [(⟨k, cc, lv, rf, mn, mx⟩ : Nd)]) = 1 from by rw [show m = xs.length - 1 by have := HN.out; omega, spoiled_root HWf.out (by have := HNb.out; have := HN.out; omega) (by rw [hck]; decide)]; exact hck)
    have HZl := Lib.hid (show (xs.take m ++ [(⟨k, cc, lv, rf, mn, mx⟩ : Nd)]).length ≤ 200 from by rw [List.length_append, List.length_take, List.length_singleton]; have := HNb.out; have := HN.out; omega)
    have HMf := Lib.hid (show matchB (xs.take m ++ [(⟨k, cc, lv, rf, mn, mx⟩ : Nd)]) b = false from match_no (by rw [HZ.out]; decide))
    have HMe := Lib.hid (show matchB (xs.take m ++ [(⟨k, cc, lv, rf, mn, mx⟩ : Nd)]) [] = false from match_no (by rw [HZ.out]; decide))
    have HW := Lib.hid (fun w (hw : Below W2.heap.size W2 w) => by
      have h := with_is ⟨k, cc, lv, rf, mn, mx⟩ _ (xs.take m) w (isX_take (HX.out.grows hw) (by have := HN.out; omega)) (by rw [List.length_take]; have := HNb.out; have := HN.out; omega)
      rw [List.length_take, show min m xs.length = m by have := HN.out; omega] at h
      exact h)
    have hblk := (Blk.new W2 #[.int .i64 k, .int .u64 (wd cc 0), .int .u64 (wd cc 1), .int .u64 (wd cc 2), .int .u64 (wd cc 3), .int .i64 lv, .int .i64 rf, .int .i64 mn, .int .i64 mx] 45).drew
    obtain ⟨n0, n1, n2, n3, n4, n5, n6, n7, n8⟩ := hblk.nine
    have hcur : Below W2.heap.size W2 (W2.alloc (.cells #[.int .i64 k, .int .u64 (wd cc 0), .int .u64 (wd cc 1), .int .u64 (wd cc 2), .int .u64 (wd cc 3), .int .i64 lv, .int .i64 rf, .int .i64 mn, .int .i64 mx] 45)).drew := ((Below.refl _ W2).alloc (Nat.le_refl _) _).drew
    clear hblk
    go_wp2_with fail
    go_region_held3 (fun W' => W'.cell? ⟨W2.heap.size, 0, none⟩ = some (.int .i64 k) ∧ W'.cell? ⟨W2.heap.size, 1, none⟩ = some (.int .u64 (wd cc 0)) ∧ W'.cell? ⟨W2.heap.size, 2, none⟩ = some (.int .u64 (wd cc 1)) ∧ W'.cell? ⟨W2.heap.size, 3, none⟩ = some (.int .u64 (wd cc 2)) ∧ W'.cell? ⟨W2.heap.size, 4, none⟩ = some (.int .u64 (wd cc 3)) ∧ W'.cell? ⟨W2.heap.size, 5, none⟩ = some (.int .i64 lv) ∧ W'.cell? ⟨W2.heap.size, 6, none⟩ = some (.int .i64 rf) ∧ W'.cell? ⟨W2.heap.size, 7, none⟩ = some (.int .i64 mn) ∧ W'.cell? ⟨W2.heap.size, 8, none⟩ = some (.int .i64 mx)) (first | exact ⟨n0, n1, n2, n3, n4, n5, n6, n7, n8⟩) (first
      | (go_at_call 31; ((with_reducible refine (HW.out _ hcur).mono ?_)); rintro e wn ⟨⟨zb, zo, zc, rfl, hz, hzc⟩, hbn⟩; have n0 := (hbn.cell (lt_of_cell n0)).trans n0; have n1 := (hbn.cell (lt_of_cell n1)).trans n1; have n2 := (hbn.cell (lt_of_cell n2)).trans n2; have n3 := (hbn.cell (lt_of_cell n3)).trans n3; have n4 := (hbn.cell (lt_of_cell n4)).trans n4; have n5 := (hbn.cell (lt_of_cell n5)).trans n5; have n6 := (hbn.cell (lt_of_cell n6)).trans n6; have n7 := (hbn.cell (lt_of_cell n7)).trans n7; have n8 := (hbn.cell (lt_of_cell n8)).trans n8; have hcur := hcur.trans (hbn.mono hcur.size); clear hbn))
    all_goals
      have HZx := Lib.hid hz
      clear hz hzc
      go_wp2_with fail
      refine (HFo.out _ _ _ HZx.out HZl.out (by rw [HZ.out]; decide)).mono ?_
      rw [HZ.out]
      rintro e W5 ⟨rfl, hbn⟩
      have HZx := Lib.hid (HZx.out.grows hbn)
      have hcur := hcur.trans (hbn.mono hcur.size)
      clear hbn
      go_wp2_with fail
      refine (HVa.out _ _ _ HZx.out HZl.out).mono ?_
      rw [HZ.out]
      rintro e W6 ⟨rfl, hbn⟩
      have HZx := Lib.hid (HZx.out.grows hbn)
      have hcur := hcur.trans (hbn.mono hcur.size)
      clear hbn
      go_wp2_with fail
      refine (HMt.out _ hcur _ _ HZx.out HZl.out).mono ?_
      rw [HMf.out]
      rintro e W7 ⟨rfl, hbn⟩
      have HZx := Lib.hid (HZx.out.grows hbn)
      have hcur := hcur.trans (hbn.mono hcur.size)
      clear hbn
      go_wp2_with fail
      refine (HNu.out _ hcur _ _ HZx.out HZl.out).mono ?_
      rw [HMe.out]
      rintro e W8 ⟨rfl, hbn⟩
      have hcur := hcur.trans (hbn.mono hcur.size)
      clear hbn
      go_wp2_with fail
      go_ret
      exact ⟨rfl, HB2.out.trans (hcur.mono HB2.out.size)⟩
  · have HZ := Lib.hid (show validE (xs ++ [(⟨8, 0, (m : Int), 0, 17, 0⟩ : Nd)]) = 2 from by rw [spoiled_more HWf.out (by have := HNb.out; have := HN.out; omega) (by rw [chk_bounds (by have := HN.out; have := HNb.out; omega)]; exact (by decide : (2 : Int) ≠ 0))]; rw [chk_bounds (by have := HN.out; have := HNb.out; omega)]; rfl)
    have HZl := Lib.hid (show (xs ++ [(⟨8, 0, (m : Int), 0, 17, 0⟩ : Nd)]).length ≤ 200 from by rw [List.length_append, List.length_singleton]; have := HNb.out; have := HN.out; omega)
    have HMf := Lib.hid (show matchB (xs ++ [(⟨8, 0, (m : Int), 0, 17, 0⟩ : Nd)]) b = false from match_no (by rw [HZ.out]; decide))
    have HMe := Lib.hid (show matchB (xs ++ [(⟨8, 0, (m : Int), 0, 17, 0⟩ : Nd)]) [] = false from match_no (by rw [HZ.out]; decide))
    obtain ⟨nq, hnq⟩ : ∃ nq, nq = n + 1 := ⟨_, rfl⟩
    have HW1 := Lib.hid (fun w (hw : Below W2.heap.size W2 w) => by
      have h := with_zero 8 (m : Int) 0 17 0 _ xs w (HX.out.grows hw) (by have := HNb.out; have := HN.out; omega)
      rw [show xs.length = n by have := HN.out; omega, ← hnq] at h
      exact h)
    have hblk := Blk.new W2 #[.int .i64 8, .int .u64 0, .int .u64 0, .int .u64 0, .int .u64 0, .int .i64 (m : Int), .int .i64 0, .int .i64 17, .int .i64 0] 45
    have hcur : Below W2.heap.size W2 (W2.alloc (.cells #[.int .i64 8, .int .u64 0, .int .u64 0, .int .u64 0, .int .u64 0, .int .i64 (m : Int), .int .i64 0, .int .i64 17, .int .i64 0] 45)) := (Below.refl _ W2).alloc (Nat.le_refl _) _
    go_wp2_with fail
    refine (HW1.out _ hcur).mono ?_
    rintro e W3 ⟨⟨zb0, zo0, zc0, rfl, hz0, hzc0⟩, hbn⟩
    have hcur := (hcur.trans (hbn.mono hcur.size)).drew
    have hblk := (hblk.grows hbn).drew
    obtain ⟨n0, n1, n2, n3, n4, n5, n6, n7, n8⟩ := hblk.nine
    have hw2 : IntKind.i64.wrap ((nq : Int) - 1) = (n : Int) := by rw [IntWalk.i64_in _ (by have := HNb.out; omega)]; omega
    have hnc : n ≤ zc0 := by omega
    have HW := Lib.hid (fun w (hw : Below W3.heap.size W3 w) => by
      have h := with_zero 8 (m : Int) 0 17 0 _ xs w (by
        have h2 := isX_take (k := xs.length) (hz0.grows hw) (by rw [List.length_append]; omega)
        rw [List.take_left' rfl] at h2
        exact h2) (by have := HNb.out; have := HN.out; omega)
      rw [show xs.length = n by have := HN.out; omega] at h
      exact h)
    have hnlt : n < nq := by omega
    clear hblk hbn hzc0 hz0 hnq
    go_wp2_with fail
    have hc3 : Below W3.heap.size W3 W3.drew := (Below.refl _ W3).drew
    go_region_held3 (fun W' => W'.cell? ⟨W2.heap.size, 0, none⟩ = some (.int .i64 8) ∧ W'.cell? ⟨W2.heap.size, 1, none⟩ = some (.int .u64 0) ∧ W'.cell? ⟨W2.heap.size, 2, none⟩ = some (.int .u64 0) ∧ W'.cell? ⟨W2.heap.size, 3, none⟩ = some (.int .u64 0) ∧ W'.cell? ⟨W2.heap.size, 4, none⟩ = some (.int .u64 0) ∧ W'.cell? ⟨W2.heap.size, 5, none⟩ = some (.int .i64 (m : Int)) ∧ W'.cell? ⟨W2.heap.size, 6, none⟩ = some (.int .i64 0) ∧ W'.cell? ⟨W2.heap.size, 7, none⟩ = some (.int .i64 17) ∧ W'.cell? ⟨W2.heap.size, 8, none⟩ = some (.int .i64 0)) (first | exact ⟨n0, n1, n2, n3, n4, n5, n6, n7, n8⟩) (first
      | (go_at_call 31; ((with_reducible refine (HW.out _ hc3).mono ?_)); rintro e wn ⟨⟨zb, zo, zc, rfl, hz, hzc⟩, hbn⟩; have n0 := (hbn.cell (lt_of_cell n0)).trans n0; have n1 := (hbn.cell (lt_of_cell n1)).trans n1; have n2 := (hbn.cell (lt_of_cell n2)).trans n2; have n3 := (hbn.cell (lt_of_cell n3)).trans n3; have n4 := (hbn.cell (lt_of_cell n4)).trans n4; have n5 := (hbn.cell (lt_of_cell n5)).trans n5; have n6 := (hbn.cell (lt_of_cell n6)).trans n6; have n7 := (hbn.cell (lt_of_cell n7)).trans n7; have n8 := (hbn.cell (lt_of_cell n8)).trans n8; have hcur := hcur.trans (hbn.mono hcur.size); have hc3 := hc3.trans (hbn.mono hc3.size); clear hbn))
    all_goals
      have HZx := Lib.hid hz
      clear hz hzc
      go_wp2_with fail
      refine (HFo.out _ _ _ HZx.out HZl.out (by rw [HZ.out]; decide)).mono ?_
      rw [HZ.out]
      rintro e W5 ⟨rfl, hbn⟩
      have HZx := Lib.hid (HZx.out.grows hbn)
      have hcur := hcur.trans (hbn.mono hcur.size)
      clear hbn
      go_wp2_with fail
      refine (HVa.out _ _ _ HZx.out HZl.out).mono ?_
      rw [HZ.out]
      rintro e W6 ⟨rfl, hbn⟩
      have HZx := Lib.hid (HZx.out.grows hbn)
      have hcur := hcur.trans (hbn.mono hcur.size)
      clear hbn
      go_wp2_with fail
      refine (HMt.out _ hcur _ _ HZx.out HZl.out).mono ?_
      rw [HMf.out]
      rintro e W7 ⟨rfl, hbn⟩
      have HZx := Lib.hid (HZx.out.grows hbn)
      have hcur := hcur.trans (hbn.mono hcur.size)
      clear hbn
      go_wp2_with fail
      refine (HNu.out _ hcur _ _ HZx.out HZl.out).mono ?_
      rw [HMe.out]
      rintro e W8 ⟨rfl, hbn⟩
      have hcur := hcur.trans (hbn.mono hcur.size)
      clear hbn
      go_wp2_with fail
      go_ret
      exact ⟨rfl, HB2.out.trans (hcur.mono HB2.out.size)⟩
  · have HZ := Lib.hid (show validE (xs ++ [(⟨8, 0, (m : Int), 0, 2, 1⟩ : Nd)]) = 1 from by rw [spoiled_more HWf.out (by have := HNb.out; have := HN.out; omega) (by rw [chk_bounds (by have := HN.out; have := HNb.out; omega)]; exact (by decide : (1 : Int) ≠ 0))]; rw [chk_bounds (by have := HN.out; have := HNb.out; omega)]; rfl)
    have HZl := Lib.hid (show (xs ++ [(⟨8, 0, (m : Int), 0, 2, 1⟩ : Nd)]).length ≤ 200 from by rw [List.length_append, List.length_singleton]; have := HNb.out; have := HN.out; omega)
    have HMf := Lib.hid (show matchB (xs ++ [(⟨8, 0, (m : Int), 0, 2, 1⟩ : Nd)]) b = false from match_no (by rw [HZ.out]; decide))
    have HMe := Lib.hid (show matchB (xs ++ [(⟨8, 0, (m : Int), 0, 2, 1⟩ : Nd)]) [] = false from match_no (by rw [HZ.out]; decide))
    obtain ⟨nq, hnq⟩ : ∃ nq, nq = n + 1 := ⟨_, rfl⟩
    have HW1 := Lib.hid (fun w (hw : Below W2.heap.size W2 w) => by
      have h := with_zero 8 (m : Int) 0 2 1 _ xs w (HX.out.grows hw) (by have := HNb.out; have := HN.out; omega)
      rw [show xs.length = n by have := HN.out; omega, ← hnq] at h
      exact h)
    have hblk := Blk.new W2 #[.int .i64 8, .int .u64 0, .int .u64 0, .int .u64 0, .int .u64 0, .int .i64 (m : Int), .int .i64 0, .int .i64 2, .int .i64 1] 45
    have hcur : Below W2.heap.size W2 (W2.alloc (.cells #[.int .i64 8, .int .u64 0, .int .u64 0, .int .u64 0, .int .u64 0, .int .i64 (m : Int), .int .i64 0, .int .i64 2, .int .i64 1] 45)) := (Below.refl _ W2).alloc (Nat.le_refl _) _
    go_wp2_with fail
    refine (HW1.out _ hcur).mono ?_
    rintro e W3 ⟨⟨zb0, zo0, zc0, rfl, hz0, hzc0⟩, hbn⟩
    have hcur := (hcur.trans (hbn.mono hcur.size)).drew
    have hblk := (hblk.grows hbn).drew
    obtain ⟨n0, n1, n2, n3, n4, n5, n6, n7, n8⟩ := hblk.nine
    have hw2 : IntKind.i64.wrap ((nq : Int) - 1) = (n : Int) := by rw [IntWalk.i64_in _ (by have := HNb.out; omega)]; omega
    have hnc : n ≤ zc0 := by omega
    have HW := Lib.hid (fun w (hw : Below W3.heap.size W3 w) => by
      have h := with_zero 8 (m : Int) 0 2 1 _ xs w (by
        have h2 := isX_take (k := xs.length) (hz0.grows hw) (by rw [List.length_append]; omega)
        rw [List.take_left' rfl] at h2
        exact h2) (by have := HNb.out; have := HN.out; omega)
      rw [show xs.length = n by have := HN.out; omega] at h
      exact h)
    have hnlt : n < nq := by omega
    clear hblk hbn hzc0 hz0 hnq
    go_wp2_with fail
    have hc3 : Below W3.heap.size W3 W3.drew := (Below.refl _ W3).drew
    go_region_held3 (fun W' => W'.cell? ⟨W2.heap.size, 0, none⟩ = some (.int .i64 8) ∧ W'.cell? ⟨W2.heap.size, 1, none⟩ = some (.int .u64 0) ∧ W'.cell? ⟨W2.heap.size, 2, none⟩ = some (.int .u64 0) ∧ W'.cell? ⟨W2.heap.size, 3, none⟩ = some (.int .u64 0) ∧ W'.cell? ⟨W2.heap.size, 4, none⟩ = some (.int .u64 0) ∧ W'.cell? ⟨W2.heap.size, 5, none⟩ = some (.int .i64 (m : Int)) ∧ W'.cell? ⟨W2.heap.size, 6, none⟩ = some (.int .i64 0) ∧ W'.cell? ⟨W2.heap.size, 7, none⟩ = some (.int .i64 2) ∧ W'.cell? ⟨W2.heap.size, 8, none⟩ = some (.int .i64 1)) (first | exact ⟨n0, n1, n2, n3, n4, n5, n6, n7, n8⟩) (first
      | (go_at_call 31; ((with_reducible refine (HW.out _ hc3).mono ?_)); rintro e wn ⟨⟨zb, zo, zc, rfl, hz, hzc⟩, hbn⟩; have n0 := (hbn.cell (lt_of_cell n0)).trans n0; have n1 := (hbn.cell (lt_of_cell n1)).trans n1; have n2 := (hbn.cell (lt_of_cell n2)).trans n2; have n3 := (hbn.cell (lt_of_cell n3)).trans n3; have n4 := (hbn.cell (lt_of_cell n4)).trans n4; have n5 := (hbn.cell (lt_of_cell n5)).trans n5; have n6 := (hbn.cell (lt_of_cell n6)).trans n6; have n7 := (hbn.cell (lt_of_cell n7)).trans n7; have n8 := (hbn.cell (lt_of_cell n8)).trans n8; have hcur := hcur.trans (hbn.mono hcur.size); have hc3 := hc3.trans (hbn.mono hc3.size); clear hbn))
    all_goals
      have HZx := Lib.hid hz
      clear hz hzc
      go_wp2_with fail
      refine (HFo.out _ _ _ HZx.out HZl.out (by rw [HZ.out]; decide)).mono ?_
      rw [HZ.out]
      rintro e W5 ⟨rfl, hbn⟩
      have HZx := Lib.hid (HZx.out.grows hbn)
      have hcur := hcur.trans (hbn.mono hcur.size)
      clear hbn
      go_wp2_with fail
      refine (HVa.out _ _ _ HZx.out HZl.out).mono ?_
      rw [HZ.out]
      rintro e W6 ⟨rfl, hbn⟩
      have HZx := Lib.hid (HZx.out.grows hbn)
      have hcur := hcur.trans (hbn.mono hcur.size)
      clear hbn
      go_wp2_with fail
      refine (HMt.out _ hcur _ _ HZx.out HZl.out).mono ?_
      rw [HMf.out]
      rintro e W7 ⟨rfl, hbn⟩
      have HZx := Lib.hid (HZx.out.grows hbn)
      have hcur := hcur.trans (hbn.mono hcur.size)
      clear hbn
      go_wp2_with fail
      refine (HNu.out _ hcur _ _ HZx.out HZl.out).mono ?_
      rw [HMe.out]
      rintro e W8 ⟨rfl, hbn⟩
      have hcur := hcur.trans (hbn.mono hcur.size)
      clear hbn
      go_wp2_with fail
      go_ret
      exact ⟨rfl, HB2.out.trans (hcur.mono HB2.out.size)⟩
  · have HZ := Lib.hid (show validE (xs ++ [(⟨2, 0, 0, 0, 0, 0⟩ : Nd)]) = 1 from spoiled_leaf HWf.out (by have := HNb.out; have := HN.out; omega))
    have HZl := Lib.hid (show (xs ++ [(⟨2, 0, 0, 0, 0, 0⟩ : Nd)]).length ≤ 200 from by rw [List.length_append, List.length_singleton]; have := HNb.out; have := HN.out; omega)
    have HMf := Lib.hid (show matchB (xs ++ [(⟨2, 0, 0, 0, 0, 0⟩ : Nd)]) b = false from match_no (by rw [HZ.out]; decide))
    have HMe := Lib.hid (show matchB (xs ++ [(⟨2, 0, 0, 0, 0, 0⟩ : Nd)]) [] = false from match_no (by rw [HZ.out]; decide))
    obtain ⟨nq, hnq⟩ : ∃ nq, nq = n + 1 := ⟨_, rfl⟩
    have HW1 := Lib.hid (fun w (hw : Below W2.heap.size W2 w) => by
      have h := with_zero 2 0 0 0 0 _ xs w (HX.out.grows hw) (by have := HNb.out; have := HN.out; omega)
      rw [show xs.length = n by have := HN.out; omega, ← hnq] at h
      exact h)
    have hblk := Blk.new W2 #[.int .i64 2, .int .u64 0, .int .u64 0, .int .u64 0, .int .u64 0, .int .i64 0, .int .i64 0, .int .i64 0, .int .i64 0] 45
    have hcur : Below W2.heap.size W2 (W2.alloc (.cells #[.int .i64 2, .int .u64 0, .int .u64 0, .int .u64 0, .int .u64 0, .int .i64 0, .int .i64 0, .int .i64 0, .int .i64 0] 45)) := (Below.refl _ W2).alloc (Nat.le_refl _) _
    go_wp2_with fail
    refine (HW1.out _ hcur).mono ?_
    rintro e W3 ⟨⟨zb0, zo0, zc0, rfl, hz0, hzc0⟩, hbn⟩
    have hcur := (hcur.trans (hbn.mono hcur.size)).drew
    have hblk := (hblk.grows hbn).drew
    obtain ⟨n0, n1, n2, n3, n4, n5, n6, n7, n8⟩ := hblk.nine
    have hw2 : IntKind.i64.wrap ((nq : Int) - 1) = (n : Int) := by rw [IntWalk.i64_in _ (by have := HNb.out; omega)]; omega
    have hnc : n ≤ zc0 := by omega
    have HW := Lib.hid (fun w (hw : Below W3.heap.size W3 w) => by
      have h := with_zero 2 0 0 0 0 _ xs w (by
        have h2 := isX_take (k := xs.length) (hz0.grows hw) (by rw [List.length_append]; omega)
        rw [List.take_left' rfl] at h2
        exact h2) (by have := HNb.out; have := HN.out; omega)
      rw [show xs.length = n by have := HN.out; omega] at h
      exact h)
    have hnlt : n < nq := by omega
    clear hblk hbn hzc0 hz0 hnq
    go_wp2_with fail
    have hc3 : Below W3.heap.size W3 W3.drew := (Below.refl _ W3).drew
    go_region_held3 (fun W' => W'.cell? ⟨W2.heap.size, 0, none⟩ = some (.int .i64 2) ∧ W'.cell? ⟨W2.heap.size, 1, none⟩ = some (.int .u64 0) ∧ W'.cell? ⟨W2.heap.size, 2, none⟩ = some (.int .u64 0) ∧ W'.cell? ⟨W2.heap.size, 3, none⟩ = some (.int .u64 0) ∧ W'.cell? ⟨W2.heap.size, 4, none⟩ = some (.int .u64 0) ∧ W'.cell? ⟨W2.heap.size, 5, none⟩ = some (.int .i64 0) ∧ W'.cell? ⟨W2.heap.size, 6, none⟩ = some (.int .i64 0) ∧ W'.cell? ⟨W2.heap.size, 7, none⟩ = some (.int .i64 0) ∧ W'.cell? ⟨W2.heap.size, 8, none⟩ = some (.int .i64 0)) (first | exact ⟨n0, n1, n2, n3, n4, n5, n6, n7, n8⟩) (first
      | (go_at_call 31; ((with_reducible refine (HW.out _ hc3).mono ?_)); rintro e wn ⟨⟨zb, zo, zc, rfl, hz, hzc⟩, hbn⟩; have n0 := (hbn.cell (lt_of_cell n0)).trans n0; have n1 := (hbn.cell (lt_of_cell n1)).trans n1; have n2 := (hbn.cell (lt_of_cell n2)).trans n2; have n3 := (hbn.cell (lt_of_cell n3)).trans n3; have n4 := (hbn.cell (lt_of_cell n4)).trans n4; have n5 := (hbn.cell (lt_of_cell n5)).trans n5; have n6 := (hbn.cell (lt_of_cell n6)).trans n6; have n7 := (hbn.cell (lt_of_cell n7)).trans n7; have n8 := (hbn.cell (lt_of_cell n8)).trans n8; have hcur := hcur.trans (hbn.mono hcur.size); have hc3 := hc3.trans (hbn.mono hc3.size); clear hbn))
    all_goals
      have HZx := Lib.hid hz
      clear hz hzc
      go_wp2_with fail
      refine (HFo.out _ _ _ HZx.out HZl.out (by rw [HZ.out]; decide)).mono ?_
      rw [HZ.out]
      rintro e W5 ⟨rfl, hbn⟩
      have HZx := Lib.hid (HZx.out.grows hbn)
      have hcur := hcur.trans (hbn.mono hcur.size)
      clear hbn
      go_wp2_with fail
      refine (HVa.out _ _ _ HZx.out HZl.out).mono ?_
      rw [HZ.out]
      rintro e W6 ⟨rfl, hbn⟩
      have HZx := Lib.hid (HZx.out.grows hbn)
      have hcur := hcur.trans (hbn.mono hcur.size)
      clear hbn
      go_wp2_with fail
      refine (HMt.out _ hcur _ _ HZx.out HZl.out).mono ?_
      rw [HMf.out]
      rintro e W7 ⟨rfl, hbn⟩
      have HZx := Lib.hid (HZx.out.grows hbn)
      have hcur := hcur.trans (hbn.mono hcur.size)
      clear hbn
      go_wp2_with fail
      refine (HNu.out _ hcur _ _ HZx.out HZl.out).mono ?_
      rw [HMe.out]
      rintro e W8 ⟨rfl, hbn⟩
      have hcur := hcur.trans (hbn.mono hcur.size)
      clear hbn
      go_wp2_with fail
      go_ret
      exact ⟨rfl, HB2.out.trans (hcur.mono HB2.out.size)⟩
end Go.Proofs.YtgbkjgfiofncdaaGreatDoor
