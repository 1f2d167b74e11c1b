/-
  Texts of the proof, one behind another: Sc, La.
-/
import Derived.Test.YtgbkjgfiofncdaaGreatDoorYcg
import Derived.Test.YtgbkjgfiofncdaaGreatDoorYdc
import Derived.Test.YtgbkjgfiofncdaaGreatDoorYdf
import Derived.Lib.SlBytesConst
import Derived.Test.YtgbkjgfiofncdaaGreatDoorYcb
set_option linter.unusedSimpArgs false
set_option linter.unusedVariables false
/-
  Walks: sanity: the document's examples hold.
-/
namespace Go.Proofs.YtgbkjgfiofncdaaGreatDoor
open Go.RowKit Go.Shelf

theorem isX_new (w : World) (xs : List Nd) (cs : Array Value) (t : TypeId) (n c : Nat) (hn : n = xs.length) (h : cs.toList = xs.flatMap encN) : IsX (w.alloc (.cells cs t)) (.slice (some ⟨w.heap.size, 0, none⟩) n c) xs := by
  subst hn
  refine .inr ⟨_, 0, c, rfl, fun j x hj i v hi => ?_⟩
  have h2 := flat_getN xs j x i v hj hi
  rw [← h] at h2
  rw [Nat.zero_add]
  exact (Blk.new w cs t).cell _ (by simpa using h2)
theorem isB_new (w : World) (l : List Int) (cs : Array Value) (t : TypeId) (m : Nat × Nat) (n c : Nat) (hn : n = l.length) (h : cs.toList = l.map (.int .u8)) : IsB (w.alloc (.cells cs t m)) (.slice (some ⟨w.heap.size, 0, none⟩) n c) l := by
  subst hn
  refine .inr ⟨_, 0, c, rfl, fun k y hk => ?_⟩
  have h2 : cs.toList[k]? = some (.int .u8 y) := by rw [h, List.getElem?_map, hk]; rfl
  rw [Nat.zero_add]
  unfold World.cell?
  rw [heap_alloc_new]
  simpa using h2
theorem valid_nil (W : World) : Calls Tryz.prog 17 #[.slice none 0 0] W fun e W' => e = .returned (.int .i64 1) ∧ Below W.heap.size W W' :=
  valid_any (.slice none 0 0) [] W (.inl ⟨rfl, none, 0, rfl⟩) (by decide)
theorem radd0 (b : Nat) (h : b < 256) (w : World) : Calls Tryz.prog 32 #[.agg #[.int .u64 0, .int .u64 0, .int .u64 0, .int .u64 0], .int .u8 (b : Int)] w fun e w' => e = .returned (.agg #[.int .u64 (wd ((bit b)) 0), .int .u64 (wd ((bit b)) 1), .int .u64 (wd ((bit b)) 2), .int .u64 (wd ((bit b)) 3)]) ∧ Below w.heap.size w w' := by
  have h1 := radd_any 0 (b : Int) w (by omega) (by omega)
  simp only [wd_zero] at h1
  refine h1.mono ?_
  rintro e w' ⟨rfl, hb⟩
  refine ⟨?_, hb⟩
  rw [show (0 : BitVec 256) ||| bit ((b : Int).toNat) = bit b by simp]

set_option maxRecDepth 100000 in
set_option maxHeartbeats 8000000 in
theorem sanity_any (W : World) (hT : TabAt 0 Lib.deBruijn64tab W) (hg : 0 < W.heap.size) (htab : Lib.TabBelow Tryz.prog W.heap.size W "internal/strconv.uint64pow10" .u64 Lib.pow10Tab) :
    Calls Tryz.prog 13 #[] W fun e W' => e = .returned (.bool true) ∧ Below W.heap.size W W' := by
  have HT := Lib.hid (fun w (hb : Below W.heap.size W w) => And.intro (tab_below hT hb hg) (show 0 < w.heap.size by have := hb.size; omega))
  have HP := Lib.hid (fun w (hb : Below W.heap.size W w) => Lib.tabBelow_of_tabIs (htab.on hb).here)
  clear hT htab hg
  have hcv := fun (w : World) (C : Array Value) (n c : Nat) => Lib.run_convert_bytes_const (P := Tryz.prog) w 24 5 C n c Tryz.underlying24 Tryz.underlying5
  go_enter Tryz.func13, Tryz.ntmps13
  go_wp2_with fail
  refine (radd0 97 (by decide) _).mono ?_
  rintro e w1 ⟨rfl, hb1⟩
  go_wp2_with fail
  refine (radd0 98 (by decide) _).mono ?_
  rintro e w2 ⟨rfl, hb2⟩
  go_wp2_with fail
  refine (radd0 45 (by decide) _).mono ?_
  rintro e w3 ⟨rfl, hb3⟩
  go_wp2_with fail
  have hA := ((((Blk.new w1 #[.int .i64 3, .int .u64 (wd ((bit 97)) 0), .int .u64 (wd ((bit 97)) 1), .int .u64 (wd ((bit 97)) 2), .int .u64 (wd ((bit 97)) 3), .int .i64 0, .int .i64 0, .int .i64 0, .int .i64 0] 45).grows hb2).alloc (.cells #[.int .i64 3, .int .u64 (wd ((bit 98)) 0), .int .u64 (wd ((bit 98)) 1), .int .u64 (wd ((bit 98)) 2), .int .u64 (wd ((bit 98)) 3), .int .i64 0, .int .i64 0, .int .i64 0, .int .i64 0] 45)).grows hb3).alloc (.cells #[.int .i64 3, .int .u64 (wd ((bit 45)) 0), .int .u64 (wd ((bit 45)) 1), .int .u64 (wd ((bit 45)) 2), .int .u64 (wd ((bit 45)) 3), .int .i64 0, .int .i64 0, .int .i64 0, .int .i64 0] 45) |>.alloc (.cells #[.int .i64 8, .int .u64 0, .int .u64 0, .int .u64 0, .int .u64 0, .int .i64 1, .int .i64 0, .int .i64 0, .int .i64 (-1)] 45)
  have hB := ((Blk.new w2 #[.int .i64 3, .int .u64 (wd ((bit 98)) 0), .int .u64 (wd ((bit 98)) 1), .int .u64 (wd ((bit 98)) 2), .int .u64 (wd ((bit 98)) 3), .int .i64 0, .int .i64 0, .int .i64 0, .int .i64 0] 45).grows hb3).alloc (.cells #[.int .i64 3, .int .u64 (wd ((bit 45)) 0), .int .u64 (wd ((bit 45)) 1), .int .u64 (wd ((bit 45)) 2), .int .u64 (wd ((bit 45)) 3), .int .i64 0, .int .i64 0, .int .i64 0, .int .i64 0] 45) |>.alloc (.cells #[.int .i64 8, .int .u64 0, .int .u64 0, .int .u64 0, .int .u64 0, .int .i64 1, .int .i64 0, .int .i64 0, .int .i64 (-1)] 45)
  have hD := (Blk.new w3 #[.int .i64 3, .int .u64 (wd ((bit 45)) 0), .int .u64 (wd ((bit 45)) 1), .int .u64 (wd ((bit 45)) 2), .int .u64 (wd ((bit 45)) 3), .int .i64 0, .int .i64 0, .int .i64 0, .int .i64 0] 45).alloc (.cells #[.int .i64 8, .int .u64 0, .int .u64 0, .int .u64 0, .int .u64 0, .int .i64 1, .int .i64 0, .int .i64 0, .int .i64 (-1)] 45)
  have hS := Blk.alloc1 w3 #[.int .i64 3, .int .u64 (wd ((bit 45)) 0), .int .u64 (wd ((bit 45)) 1), .int .u64 (wd ((bit 45)) 2), .int .u64 (wd ((bit 45)) 3), .int .i64 0, .int .i64 0, .int .i64 0, .int .i64 0] #[.int .i64 8, .int .u64 0, .int .u64 0, .int .u64 0, .int .u64 0, .int .i64 1, .int .i64 0, .int .i64 0, .int .i64 (-1)] 45 45
  have h2 : Below W.heap.size W w2 := hb1.trans (Below.trans ((Below.refl _ w1).alloc (Nat.le_refl _) _) (hb2.mono (by simp)) |>.mono hb1.size)
  have h3 : Below W.heap.size W w3 := h2.trans (Below.trans ((Below.refl _ w2).alloc (Nat.le_refl _) _) (hb3.mono (by simp)) |>.mono h2.size)
  have h4 : Below W.heap.size W ((w3.alloc (.cells #[.int .i64 3, .int .u64 (wd ((bit 45)) 0), .int .u64 (wd ((bit 45)) 1), .int .u64 (wd ((bit 45)) 2), .int .u64 (wd ((bit 45)) 3), .int .i64 0, .int .i64 0, .int .i64 0, .int .i64 0] 45)).alloc (.cells #[.int .i64 8, .int .u64 0, .int .u64 0, .int .u64 0, .int .u64 0, .int .i64 1, .int .i64 0, .int .i64 0, .int .i64 (-1)] 45)) := h3.trans ((((Below.refl _ w3).alloc (Nat.le_refl _) _).alloc (by simp) _).mono h3.size)
  generalize ((w3.alloc (.cells #[.int .i64 3, .int .u64 (wd ((bit 45)) 0), .int .u64 (wd ((bit 45)) 1), .int .u64 (wd ((bit 45)) 2), .int .u64 (wd ((bit 45)) 3), .int .i64 0, .int .i64 0, .int .i64 0, .int .i64 0] 45)).alloc (.cells #[.int .i64 8, .int .u64 0, .int .u64 0, .int .u64 0, .int .u64 0, .int .i64 1, .int .i64 0, .int .i64 0, .int .i64 (-1)] 45)) = w4 at hA hB hD hS h4 ⊢
  clear hb1 hb2 hb3 h2 h3
  generalize w1.heap.size = bA at hA ⊢
  generalize w2.heap.size = bB at hB ⊢
  generalize w3.heap.size = bD at hD hS ⊢
  refine (parse_any ⟨#[97, 40, 98, 124, 99, 41, 42]⟩ _ (by decide) 60 _ ex_group).mono ?_
  rintro e w5 ⟨⟨vG, rfl, hown⟩, hb5⟩
  have xG := own_isX hown
  clear hown
  replace hA := hA.grows hb5
  replace hB := hB.grows hb5
  replace hD := hD.grows hb5
  replace hS := hS.grows hb5
  have h5 := h4.trans (hb5.mono h4.size)
  clear hb5 h4
  go_wp2_with fail
  refine (parse_any ⟨#[126, 97, 42, 38, 46, 123, 50, 44, 50, 125]⟩ _ (by decide) 60 _ ex_both).mono ?_
  rintro e w6 ⟨⟨vB, rfl, hown⟩, hb6⟩
  have xB := own_isX hown
  clear hown
  replace xG := xG.grows hb6
  replace hA := hA.grows hb6
  replace hB := hB.grows hb6
  replace hD := hD.grows hb6
  replace hS := hS.grows hb6
  have h6 := h5.trans (hb6.mono h5.size)
  clear hb6 h5
  obtain ⟨d0, d1, d2, d3, d4, d5, d6, d7, d8⟩ := hD.nine
  obtain ⟨s0, s1, s2, s3, s4, s5, s6, s7, s8⟩ := hS.nine
  have HA := Lib.hid hA
  have HB := Lib.hid hB
  have HS := Lib.hid hS
  have XG := Lib.hid xG
  have XB := Lib.hid xB
  have H6 := Lib.hid h6
  clear hA hB hD hS xG xB h6
  go_wp2_with fail
  refine (format_ok _ exForm _ (isX_new w6 exForm _ _ 3 3 rfl (by kernel_rfl)) exForm_ok ⟨#[40, 126, 92, 120, 50, 100, 41, 42]⟩ (by decide) form_text (HT.out _ (H6.out.trans (((Below.refl _ w6).alloc (by simp) _).mono H6.out.size))).1 (HT.out _ (H6.out.trans (((Below.refl _ w6).alloc (by simp) _).mono H6.out.size))).2).mono ?_
  rintro e w7 ⟨rfl, hb⟩
  have hw : Below w6.heap.size w6 w7 := Below.trans ((Below.refl _ w6).alloc (by simp) _) (hb.mono (by simp))
  have H7 := Lib.hid (H6.out.trans (hw.mono H6.out.size))
  replace HA := Lib.hid (HA.out.grows hw)
  replace HB := Lib.hid (HB.out.grows hw)
  replace HS := Lib.hid (HS.out.grows hw)
  replace XG := Lib.hid (XG.out.grows hw)
  replace XB := Lib.hid (XB.out.grows hw)
  clear hb hw
  go_wp2_with fail
  refine (format_ok _ exEmpty _ (isX_new w7 exEmpty _ _ 1 1 rfl (by kernel_rfl)) exEmpty_ok ⟨#[91, 93]⟩ (by decide) empty_text (HT.out _ (H7.out.trans (((Below.refl _ w7).alloc (by simp) _).mono H7.out.size))).1 (HT.out _ (H7.out.trans (((Below.refl _ w7).alloc (by simp) _).mono H7.out.size))).2).mono ?_
  rintro e w8 ⟨rfl, hb⟩
  have hw : Below w7.heap.size w7 w8 := Below.trans ((Below.refl _ w7).alloc (by simp) _) (hb.mono (by simp))
  have H8 := Lib.hid (H7.out.trans (hw.mono H7.out.size))
  replace HA := Lib.hid (HA.out.grows hw)
  replace HB := Lib.hid (HB.out.grows hw)
  replace HS := Lib.hid (HS.out.grows hw)
  replace XG := Lib.hid (XG.out.grows hw)
  replace XB := Lib.hid (XB.out.grows hw)
  clear hb hw
  obtain ⟨a0, a1, a2, a3, a4, a5, a6, a7, a8⟩ := HA.out.nine
  obtain ⟨b0, b1, b2, b3, b4, b5, b6, b7, b8⟩ := HB.out.nine
  obtain ⟨s0, s1, s2, s3, s4, s5, s6, s7, s8⟩ := HS.out.nine
  go_wp2_with fail
  refine (parsed_eq ⟨#[97, 124, 98, 42]⟩ (by decide) 60 exStar ex_star _ _ (isX_new w8 exStar _ _ 4 4 rfl (by kernel_rfl))).mono ?_
  rintro e w9 ⟨rfl, hb⟩
  clear a0 a1 a2 a3 a4 a5 a6 a7 a8 b0 b1 b2 b3 b4 b5 b6 b7 b8 s0 s1 s2 s3 s4 s5 s6 s7 s8
  have hw : Below w8.heap.size w8 w9 := Below.trans ((Below.refl _ w8).alloc (by simp) _) (hb.mono (by simp))
  have H9 := Lib.hid (H8.out.trans (hw.mono H8.out.size))
  replace HA := Lib.hid (HA.out.grows hw)
  replace XG := Lib.hid (XG.out.grows hw)
  replace XB := Lib.hid (XB.out.grows hw)
  clear hb hw
  go_wp2_with fail
  refine (refused_at ⟨#[97, 124, 124, 98]⟩ (by decide) 60 2 20 ex_bar _).mono ?_
  rintro e w10 ⟨rfl, hb⟩
  have hw : Below w9.heap.size w9 w10 := hb
  have H10 := Lib.hid (H9.out.trans (hw.mono H9.out.size))
  replace HA := Lib.hid (HA.out.grows hw)
  replace XG := Lib.hid (XG.out.grows hw)
  replace XB := Lib.hid (XB.out.grows hw)
  clear hb hw
  go_wp2_with fail
  refine (refused_at ⟨#[40, 97]⟩ (by decide) 60 2 21 ex_open _).mono ?_
  rintro e w11 ⟨rfl, hb⟩
  have hw : Below w10.heap.size w10 w11 := hb
  have H11 := Lib.hid (H10.out.trans (hw.mono H10.out.size))
  replace HA := Lib.hid (HA.out.grows hw)
  replace XG := Lib.hid (XG.out.grows hw)
  replace XB := Lib.hid (XB.out.grows hw)
  clear hb hw
  go_wp2_with fail
  refine (refused_at ⟨#[97, 123, 51, 44, 50, 125]⟩ (by decide) 60 4 20 ex_bounds _).mono ?_
  rintro e w12 ⟨rfl, hb⟩
  have hw : Below w11.heap.size w11 w12 := hb
  have H12 := Lib.hid (H11.out.trans (hw.mono H11.out.size))
  replace HA := Lib.hid (HA.out.grows hw)
  replace XG := Lib.hid (XG.out.grows hw)
  replace XB := Lib.hid (XB.out.grows hw)
  clear hb hw
  go_wp2_with fail
  refine (refused_at ⟨#[97, 123, 49, 55, 44, 125]⟩ (by decide) 60 2 2 ex_big _).mono ?_
  rintro e w13 ⟨rfl, hb⟩
  have hw : Below w12.heap.size w12 w13 := hb
  have H13 := Lib.hid (H12.out.trans (hw.mono H12.out.size))
  replace HA := Lib.hid (HA.out.grows hw)
  replace XG := Lib.hid (XG.out.grows hw)
  replace XB := Lib.hid (XB.out.grows hw)
  clear hb hw
  go_wp2_with fail
  refine (match_any _ _ exGroup [97, 98, 99, 98] _ (XG.out.grows ((Below.refl _ w13).alloc (Nat.le_refl _) _)) (by unfold maxLen; decide) (isB_new w13 [97, 98, 99, 98] _ _ _ 4 4 rfl (by kernel_rfl)) (by decide) (by decide) (HP.out _ (H13.out.trans (((Below.refl _ w13).alloc (by simp) _).mono H13.out.size)))).mono ?_
  rintro e w14 ⟨rfl, hb⟩
  rw [match_abcb]
  have hw : Below w13.heap.size w13 w14 := Below.trans ((Below.refl _ w13).alloc (by simp) _) (hb.mono (by simp))
  have H14 := Lib.hid (H13.out.trans (hw.mono H13.out.size))
  replace HA := Lib.hid (HA.out.grows hw)
  replace XG := Lib.hid (XG.out.grows hw)
  replace XB := Lib.hid (XB.out.grows hw)
  clear hb hw
  go_wp2_with fail
  refine (match_any _ _ exGroup [98, 97] _ (XG.out.grows ((Below.refl _ w14).alloc (Nat.le_refl _) _)) (by unfold maxLen; decide) (isB_new w14 [98, 97] _ _ _ 2 2 rfl (by kernel_rfl)) (by decide) (by decide) (HP.out _ (H14.out.trans (((Below.refl _ w14).alloc (by simp) _).mono H14.out.size)))).mono ?_
  rintro e w15 ⟨rfl, hb⟩
  rw [match_ba]
  have hw : Below w14.heap.size w14 w15 := Below.trans ((Below.refl _ w14).alloc (by simp) _) (hb.mono (by simp))
  have H15 := Lib.hid (H14.out.trans (hw.mono H14.out.size))
  replace HA := Lib.hid (HA.out.grows hw)
  replace XG := Lib.hid (XG.out.grows hw)
  replace XB := Lib.hid (XB.out.grows hw)
  clear hb hw
  go_wp2_with fail
  refine (match_any _ _ exBoth [97, 98] _ (XB.out.grows ((Below.refl _ w15).alloc (Nat.le_refl _) _)) (by unfold maxLen; decide) (isB_new w15 [97, 98] _ _ _ 2 2 rfl (by kernel_rfl)) (by decide) (by decide) (HP.out _ (H15.out.trans (((Below.refl _ w15).alloc (by simp) _).mono H15.out.size)))).mono ?_
  rintro e w16 ⟨rfl, hb⟩
  rw [match_ab]
  have hw : Below w15.heap.size w15 w16 := Below.trans ((Below.refl _ w15).alloc (by simp) _) (hb.mono (by simp))
  have H16 := Lib.hid (H15.out.trans (hw.mono H15.out.size))
  replace HA := Lib.hid (HA.out.grows hw)
  replace XG := Lib.hid (XG.out.grows hw)
  replace XB := Lib.hid (XB.out.grows hw)
  clear hb hw
  go_wp2_with fail
  refine (match_any _ _ exBoth [97, 97] _ (XB.out.grows ((Below.refl _ w16).alloc (Nat.le_refl _) _)) (by unfold maxLen; decide) (isB_new w16 [97, 97] _ _ _ 2 2 rfl (by kernel_rfl)) (by decide) (by decide) (HP.out _ (H16.out.trans (((Below.refl _ w16).alloc (by simp) _).mono H16.out.size)))).mono ?_
  rintro e w17 ⟨rfl, hb⟩
  rw [match_aa]
  have hw : Below w16.heap.size w16 w17 := Below.trans ((Below.refl _ w16).alloc (by simp) _) (hb.mono (by simp))
  have H17 := Lib.hid (H16.out.trans (hw.mono H16.out.size))
  replace HA := Lib.hid (HA.out.grows hw)
  replace XG := Lib.hid (XG.out.grows hw)
  replace XB := Lib.hid (XB.out.grows hw)
  clear hb hw
  obtain ⟨a0, a1, a2, a3, a4, a5, a6, a7, a8⟩ := HA.out.nine
  go_wp2_with fail
  refine (parsed_eq ⟨#[91, 94, 92, 120, 48, 48, 45, 92, 120, 54, 48, 92, 120, 54, 50, 45, 92, 120, 102, 102, 93]⟩ (by decide) 60 [nCls 97] ex_ranges _ _ (isX_new w17 [nCls 97] _ _ 1 1 rfl (by kernel_rfl))).mono ?_
  rintro e w18 ⟨rfl, hb⟩
  clear a0 a1 a2 a3 a4 a5 a6 a7 a8
  have hw : Below w17.heap.size w17 w18 := Below.trans ((Below.refl _ w17).alloc (by simp) _) (hb.mono (by simp))
  have H18 := Lib.hid (H17.out.trans (hw.mono H17.out.size))
  clear hb hw
  go_wp2_with fail
  refine (valid_nil _).mono ?_
  rintro e w19 ⟨rfl, hb⟩
  have H19 := Lib.hid (H18.out.trans (hb.mono H18.out.size))
  clear hb
  go_wp2
  go_ret
  exact ⟨rfl, H19.out⟩
end Go.Proofs.YtgbkjgfiofncdaaGreatDoor

/-
  The laws over made expressions: what they have in common; the law on Boolean operations: the walk.
-/
namespace Go.Proofs.YtgbkjgfiofncdaaGreatDoor
open Go.RowKit Go.Shelf
attribute [local go_sem] Oper.semAt_some

theorem small_any (p : Option Addr) (c : Nat) (l : List Int) (n : Nat) (hn : n ≤ 1000) (W : World) (hc : l.length ≤ c) (hl : l.length ≤ 1048576) :
    Calls Tryz.prog 14 #[.slice p l.length c, .int .i64 (n : Int)] W fun e W' => e = .returned (.slice p (l.take n).length c) ∧ W' = W := by
  rw [List.length_take]
  generalize l.length = k at hc hl ⊢
  have e : (min (k : Int) (n : Int)).toNat = min n k := by omega
  rcases p with _ | ⟨blk, off, lay⟩
  · go_enter Tryz.func14, Tryz.ntmps14
    go_wp2
    go_ret
    exact ⟨rfl, rfl⟩
  · go_enter Tryz.func14, Tryz.ntmps14
    go_wp2
    go_ret
    exact ⟨rfl, rfl⟩
theorem isB_small {W : World} {p : Option Addr} {c : Nat} {l : List Int} (h : IsB W (.slice p l.length c) l) (n : Nat) : IsB W (.slice p (l.take n).length c) (l.take n) := by
  rcases Nat.lt_or_ge l.length n with h1 | h1
  · rw [List.take_of_length_le (by omega)]; exact h
  · rw [List.length_take, Nat.min_eq_left h1]; exact isB_take h h1
/-- Binary, as the laws want it. -/
theorem rbin_is (kd : Int) (v u : Value) (xs ys : List Nd) (W : World) (hv : IsX W v xs) (hu : IsX W u ys) (hl : xs.length ≤ 100) (hm : ys.length ≤ 100) (hw : Wf xs) (hw' : Wf ys) :
    Calls Tryz.prog 28 #[.int .i64 kd, v, u] W fun e W' => (∃ p c, e = .returned (.slice p (xs.length + ys.length + 1) c) ∧ IsX W' (.slice p (xs.length + ys.length + 1) c) (bin kd xs ys) ∧ xs.length + ys.length + 1 ≤ c) ∧ Below W.heap.size W W' :=
  (rbinary_any kd v u xs ys W hv hu (by omega) (by omega) hw.pos (fun i n hi j hj => by
    have h1 := chk_zero (hw'.chk i n hi) j hj
    have h2 := (List.getElem?_eq_some_iff.1 hi).1
    omega)).mono (R' := fun e W' => (∃ p c, e = .returned (.slice p (xs.length + ys.length + 1) c) ∧ IsX W' (.slice p (xs.length + ys.length + 1) c) (bin kd xs ys) ∧ xs.length + ys.length + 1 ≤ c) ∧ Below W.heap.size W W') (fun e W' ⟨⟨v', he, ho⟩, hb⟩ => by
      obtain ⟨p, c, rfl⟩ := own_shape ho
      exact ⟨⟨p, c, he, own_isX (own_cast ho (by rw [bin_len]) rfl), own_cap ho⟩, hb⟩)
/-- Match over a word that is kept. -/
theorem match_is {B W : World} {wv : Value} {b : List Int} (hb : IsB B wv b) (hbb : ∀ y ∈ b, 0 ≤ y ∧ y < 256) (hl : b.length ≤ 1048576) (hB : Below B.heap.size B W) (htab : Lib.TabBelow Tryz.prog W.heap.size W "internal/strconv.uint64pow10" .u64 Lib.pow10Tab)
    {zv : Value} {zs : List Nd} (hz : IsX W zv zs) (hzl : zs.length ≤ 200) :
    Calls Tryz.prog 21 #[zv, wv] W fun e W' => e = .returned (.bool (matchB zs b)) ∧ Below W.heap.size W W' :=
  match_any zv wv zs b W hz (by unfold maxLen; omega) (hb.kept fun _ _ h => (hB.cell (lt_of_cell h)).trans h) hbb hl htab
/-- what a law over made expressions is given. -/
structure Given (W : World) : Prop where
  bruijn : TabAt 0 Lib.deBruijn64tab W
  bruijn_lt : 0 < W.heap.size
  powers : Lib.TabBelow Tryz.prog W.heap.size W "internal/strconv.uint64pow10" .u64 Lib.pow10Tab
theorem Given.at {W : World} (h : Given W) {w : World} (hb : Below W.heap.size W w) : Lib.TabBelow Tryz.prog w.heap.size w "internal/strconv.uint64pow10" .u64 Lib.pow10Tab := Lib.tabBelow_of_tabIs (h.powers.on hb).here
/-- a slice of bytes as an argument. -/
structure BytesArg (W : World) (p : Option Addr) (c : Nat) (l : List Int) : Prop where
  is : IsB W (.slice p l.length c) l
  cap : l.length ≤ c
  byte : ∀ y ∈ l, 0 ≤ y ∧ y < 256
  len : l.length ≤ 1048576
theorem BytesArg.at {W : World} {p : Option Addr} {c : Nat} {l : List Int} (h : BytesArg W p c l) {w : World} (hb : Below W.heap.size W w) : BytesArg w p c l :=
  ⟨h.is.kept fun _ _ hc => (hb.cell (lt_of_cell hc)).trans hc, h.cap, h.byte, h.len⟩
theorem BytesArg.made {W : World} {p : Option Addr} {c : Nat} {l : List Int} (h : BytesArg W p c l) {w : World} (hb : Below W.heap.size W w) (most : Nat) (h1 : 1 ≤ most) (h2 : most ≤ 1048576) :
    Calls Tryz.prog 26 #[.slice p l.length c, .int .i64 (most : Int)] w (MadeP most w) :=
  made_any (l.length + 1) p c l most w (by omega) (h.at hb).is h.cap h.byte h.len h1 h2

set_option maxRecDepth 100000 in
set_option maxHeartbeats 4000000 in
theorem boolean_walk (W : World) (lp mp bp : Option Addr) (lc mc bc : Nat) (l m b : List Int) (hl : BytesArg W lp lc l) (hm : BytesArg W mp mc m) (hb : BytesArg W bp bc b) (hG : Given W) :
    Calls Tryz.prog 7 #[.slice lp l.length lc, .slice mp m.length mc, .slice bp b.length bc] W fun e W' => e = .returned (.bool true) ∧ Below W.heap.size W W' := by
  have HS := Lib.hid (sanity_any W hG.bruijn hG.bruijn_lt hG.powers)
  have HL := Lib.hid hl
  have HM := Lib.hid hm
  have HB := Lib.hid hb
  have HG := Lib.hid hG
  obtain ⟨u, hu⟩ : ∃ u, b.take 10 = u := ⟨_, rfl⟩
  have HSm := Lib.hid (fun w => by
    have h := small_any bp bc b 10 (by omega) w hb.cap hb.len
    rw [hu] at h
    exact h)
  have HU := Lib.hid hu
  clear hl hm hb hG hu
  go_enter Tryz.func7, Tryz.ntmps7
  go_wp2_with fail
  refine HS.out.mono ?_
  rintro e W1 ⟨rfl, hb1⟩
  go_wp2_with fail
  refine (HSm.out W1).mono ?_
  rintro e _ ⟨rfl, rfl⟩
  go_wp2_with fail
  refine (HL.out.made hb1 20 (by omega) (by omega)).mono ?_
  rintro e W2 ⟨⟨xq, xc, xs, rfl, hx, hxw, hxl, -⟩, hb2⟩
  have hB2 := hb1.trans (hb2.mono hb1.size)
  go_wp2_with fail
  refine (HM.out.made hB2 20 (by omega) (by omega)).mono ?_
  rintro e W3 ⟨⟨yq, yc, ys, rfl, hy, hyw, hyl, -⟩, hb3⟩
  have hB3 := hB2.trans (hb3.mono hB2.size)
  have hx3 := hx.grows hb3
  have hw3 : IsB W3 (.slice bp u.length bc) u := by rw [← HU.out]; exact isB_small (HB.out.at hB3).is 10
  have hwb : ∀ y ∈ u, 0 ≤ y ∧ y < 256 := fun y hy => HB.out.byte y (by rw [← HU.out] at hy; exact List.mem_of_mem_take hy)
  have hwl : u.length ≤ 1048576 := by rw [← HU.out, List.length_take]; omega
  have e5 := match_alt hxw hyw (by omega) u
  have e6 := match_and hxw hyw (by omega) u
  have e7 : matchB (un ⟨7, 0#256, 0, 0, 0, 0⟩ xs) u = !matchB xs u := match_not hxw (by omega) u
  have HBin := Lib.hid (fun kd w (hw : Below W3.heap.size W3 w) => rbin_is kd _ _ xs ys w (hx3.grows hw) (hy.grows hw) (by omega) (by omega) hxw hyw)
  have HUn := Lib.hid (fun w (hw : Below W3.heap.size W3 w) => by
    have h := runary_is notN _ xs w (hx3.grows hw) (by omega)
    simp only [notN, valN, wd_zero] at h
    exact h)
  have HMt := Lib.hid (fun w (hw : Below W3.heap.size W3 w) zv zs (hz : IsX w zv zs) (hzl : zs.length ≤ 200) => match_is hw3 hwb hwl hw (HG.out.at (hB3.trans (hw.mono hB3.size))) hz hzl)
  have HX := Lib.hid hx3
  have HY := Lib.hid hy
  have HB3 := Lib.hid hB3
  have hcur : Below W3.heap.size W3 W3 := Below.refl _ _
  have HLen := Lib.hid (And.intro hxl hyl)
  have HBx := Lib.hid (And.intro (show ∀ kd, (bin kd xs ys).length ≤ 200 from fun kd => by rw [bin_len]; omega) (show (un notN xs).length ≤ 200 by rw [un_len]; omega))
  clear hw3 hwb hwl hx hy hx3 hb1 hb2 hb3 hB2 hB3 HS hxl hyl
  go_wp2_with fail
  refine (HMt.out _ hcur _ xs (HX.out.grows hcur) (by have := HLen.out.1; omega)).mono ?_
  rintro e W4 ⟨rfl, hbn⟩
  have hcur := hcur.trans (hbn.mono hcur.size)
  clear hbn
  go_wp2_with fail
  refine (HMt.out _ hcur _ ys (HY.out.grows hcur) (by have := HLen.out.2; omega)).mono ?_
  rintro e W5 ⟨rfl, hbn⟩
  have hcur := hcur.trans (hbn.mono hcur.size)
  clear hbn
  generalize matchB xs u = p at *
  generalize matchB ys u = q at *
  cases p <;> cases q
  all_goals
    go_wp2_with (first
      | (go_at_call 28; refine (HBin.out _ _ hcur).mono ?_; rintro e wn ⟨⟨zq, zc, rfl, hz, -⟩, hbn⟩; have hcur := hcur.trans (hbn.mono hcur.size); clear hbn)
      | (go_at_call 29; refine (HUn.out _ hcur).mono ?_; rintro e wn ⟨⟨zq, zc, rfl, hz, -⟩, hbn⟩; have hcur := hcur.trans (hbn.mono hcur.size); clear hbn)
      | (go_at_call 21; refine (HMt.out _ hcur _ _ hz (by first | exact HBx.out.1 _ | exact HBx.out.2)).mono ?_; rintro e wn ⟨rfl, hbn⟩; have hcur := hcur.trans (hbn.mono hcur.size); clear hbn hz))
    go_ret
    exact ⟨rfl, HB3.out.trans (hcur.mono HB3.out.size)⟩
end Go.Proofs.YtgbkjgfiofncdaaGreatDoor
