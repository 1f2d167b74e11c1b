/-
  Texts of the proof, one behind another: Sc, Wa.
-/
import Derived.Test.YtclfdffpcneeeaaGreatDoorYbi
import Derived.Test.YtclfdffpcneeeaaGreatDoorYdc
import Derived.Test.YtclfdffpcneeeaaGreatDoorYdf
import Derived.Lib.SlBytesConst
import Derived.Deep.RegionHeld3
set_option linter.unusedSimpArgs false
set_option linter.unusedVariables false
/-
  Walks: sanity: the document's examples hold.
-/
namespace Go.Proofs.YtclfdffpcneeeaaGreatDoor
open Go.RowKit Go.Shelf

theorem isX_new (w : World) (xs : List Nd) (cs : Array Value) (t : TypeId) (n c : Nat) (hn : n = xs.length) (h : cs.toList = xs.flatMap encN) : IsX (w.alloc (.cells cs t)) (.slice (some ⟨w.heap.size, 0, none⟩) n c) xs := by
  subst hn
  refine .inr ⟨_, 0, c, rfl, fun j x hj i v hi => ?_⟩
  have h2 := flat_getN xs j x i v hj hi
  rw [← h] at h2
  rw [Nat.zero_add]
  exact (Blk.new w cs t).cell _ (by simpa using h2)
theorem isB_new (w : World) (l : List Int) (cs : Array Value) (t : TypeId) (m : Nat × Nat) (n c : Nat) (hn : n = l.length) (h : cs.toList = l.map (.int .u8)) : IsB (w.alloc (.cells cs t m)) (.slice (some ⟨w.heap.size, 0, none⟩) n c) l := by
  subst hn
  refine .inr ⟨_, 0, c, rfl, fun k y hk => ?_⟩
  have h2 : cs.toList[k]? = some (.int .u8 y) := by rw [h, List.getElem?_map, hk]; rfl
  rw [Nat.zero_add]
  unfold World.cell?
  rw [heap_alloc_new]
  simpa using h2
theorem valid_nil (W : World) : Calls Tryz.prog 17 #[.slice none 0 0] W fun e W' => e = .returned (.int .i64 1) ∧ Below W.heap.size W W' :=
  valid_any (.slice none 0 0) [] W (.inl ⟨rfl, none, 0, rfl⟩) (by decide)
theorem radd0 (b : Nat) (h : b < 256) (w : World) : Calls Tryz.prog 32 #[.agg #[.int .u64 0, .int .u64 0, .int .u64 0, .int .u64 0], .int .u8 (b : Int)] w fun e w' => e = .returned (.agg #[.int .u64 (wd ((bit b)) 0), .int .u64 (wd ((bit b)) 1), .int .u64 (wd ((bit b)) 2), .int .u64 (wd ((bit b)) 3)]) ∧ Below w.heap.size w w' := by
  have h1 := radd_any 0 (b : Int) w (by omega) (by omega)
  simp only [wd_zero] at h1
  refine h1.mono ?_
  rintro e w' ⟨rfl, hb⟩
  refine ⟨?_, hb⟩
  rw [show (0 : BitVec 256) ||| bit ((b : Int).toNat) = bit b by simp]

set_option maxRecDepth 100000 in
set_option maxHeartbeats 8000000 in
theorem sanity_any (W : World) (hT : TabAt 0 Lib.deBruijn64tab W) (hg : 0 < W.heap.size) (htab : Lib.TabBelow Tryz.prog W.heap.size W "internal/strconv.uint64pow10" .u64 Lib.pow10Tab) :
    Calls Tryz.prog 13 #[] W fun e W' => e = .returned (.bool true) ∧ Below W.heap.size W W' := by
  have HT := Lib.hid (fun w (hb : Below W.heap.size W w) => And.intro (tab_below hT hb hg) (show 0 < w.heap.size by have := hb.size; omega))
  have HP := Lib.hid (fun w (hb : Below W.heap.size W w) => Lib.tabBelow_of_tabIs (htab.on hb).here)
  clear hT htab hg
  have hcv := fun (w : World) (C : Array Value) (n c : Nat) => Lib.run_convert_bytes_const (P := Tryz.prog) w 24 5 C n c Tryz.underlying24 Tryz.underlying5
  go_enter Tryz.func13, Tryz.ntmps13
  go_wp2_with fail
  refine (radd0 97 (by decide) _).mono ?_
  rintro e w1 ⟨rfl, hb1⟩
  go_wp2_with fail
  refine (radd0 98 (by decide) _).mono ?_
  rintro e w2 ⟨rfl, hb2⟩
  go_wp2_with fail
  refine (radd0 45 (by decide) _).mono ?_
  rintro e w3 ⟨rfl, hb3⟩
  go_wp2_with fail
  have hA := ((((Blk.new w1 #[.int .i64 3, .int .u64 (wd ((bit 97)) 0), .int .u64 (wd ((bit 97)) 1), .int .u64 (wd ((bit 97)) 2), .int .u64 (wd ((bit 97)) 3), .int .i64 0, .int .i64 0, .int .i64 0, .int .i64 0] 45).grows hb2).alloc (.cells #[.int .i64 3, .int .u64 (wd ((bit 98)) 0), .int .u64 (wd ((bit 98)) 1), .int .u64 (wd ((bit 98)) 2), .int .u64 (wd ((bit 98)) 3), .int .i64 0, .int .i64 0, .int .i64 0, .int .i64 0] 45)).grows hb3).alloc (.cells #[.int .i64 3, .int .u64 (wd ((bit 45)) 0), .int .u64 (wd ((bit 45)) 1), .int .u64 (wd ((bit 45)) 2), .int .u64 (wd ((bit 45)) 3), .int .i64 0, .int .i64 0, .int .i64 0, .int .i64 0] 45) |>.alloc (.cells #[.int .i64 8, .int .u64 0, .int .u64 0, .int .u64 0, .int .u64 0, .int .i64 1, .int .i64 0, .int .i64 0, .int .i64 (-1)] 45)
  have hB := ((Blk.new w2 #[.int .i64 3, .int .u64 (wd ((bit 98)) 0), .int .u64 (wd ((bit 98)) 1), .int .u64 (wd ((bit 98)) 2), .int .u64 (wd ((bit 98)) 3), .int .i64 0, .int .i64 0, .int .i64 0, .int .i64 0] 45).grows hb3).alloc (.cells #[.int .i64 3, .int .u64 (wd ((bit 45)) 0), .int .u64 (wd ((bit 45)) 1), .int .u64 (wd ((bit 45)) 2), .int .u64 (wd ((bit 45)) 3), .int .i64 0, .int .i64 0, .int .i64 0, .int .i64 0] 45) |>.alloc (.cells #[.int .i64 8, .int .u64 0, .int .u64 0, .int .u64 0, .int .u64 0, .int .i64 1, .int .i64 0, .int .i64 0, .int .i64 (-1)] 45)
  have hD := (Blk.new w3 #[.int .i64 3, .int .u64 (wd ((bit 45)) 0), .int .u64 (wd ((bit 45)) 1), .int .u64 (wd ((bit 45)) 2), .int .u64 (wd ((bit 45)) 3), .int .i64 0, .int .i64 0, .int .i64 0, .int .i64 0] 45).alloc (.cells #[.int .i64 8, .int .u64 0, .int .u64 0, .int .u64 0, .int .u64 0, .int .i64 1, .int .i64 0, .int .i64 0, .int .i64 (-1)] 45)
  have hS := Blk.alloc1 w3 #[.int .i64 3, .int .u64 (wd ((bit 45)) 0), .int .u64 (wd ((bit 45)) 1), .int .u64 (wd ((bit 45)) 2), .int .u64 (wd ((bit 45)) 3), .int .i64 0, .int .i64 0, .int .i64 0, .int .i64 0] #[.int .i64 8, .int .u64 0, .int .u64 0, .int .u64 0, .int .u64 0, .int .i64 1, .int .i64 0, .int .i64 0, .int .i64 (-1)] 45 45
  have h2 : Below W.heap.size W w2 := hb1.trans (Below.trans ((Below.refl _ w1).alloc (Nat.le_refl _) _) (hb2.mono (by simp)) |>.mono hb1.size)
  have h3 : Below W.heap.size W w3 := h2.trans (Below.trans ((Below.refl _ w2).alloc (Nat.le_refl _) _) (hb3.mono (by simp)) |>.mono h2.size)
  have h4 : Below W.heap.size W ((w3.alloc (.cells #[.int .i64 3, .int .u64 (wd ((bit 45)) 0), .int .u64 (wd ((bit 45)) 1), .int .u64 (wd ((bit 45)) 2), .int .u64 (wd ((bit 45)) 3), .int .i64 0, .int .i64 0, .int .i64 0, .int .i64 0] 45)).alloc (.cells #[.int .i64 8, .int .u64 0, .int .u64 0, .int .u64 0, .int .u64 0, .int .i64 1, .int .i64 0, .int .i64 0, .int .i64 (-1)] 45)) := h3.trans ((((Below.refl _ w3).alloc (Nat.le_refl _) _).alloc (by simp) _).mono h3.size)
  generalize ((w3.alloc (.cells #[.int .i64 3, .int .u64 (wd ((bit 45)) 0), .int .u64 (wd ((bit 45)) 1), .int .u64 (wd ((bit 45)) 2), .int .u64 (wd ((bit 45)) 3), .int .i64 0, .int .i64 0, .int .i64 0, .int .i64 0] 45)).alloc (.cells #[.int .i64 8, .int .u64 0, .int .u64 0, .int .u64 0, .int .u64 0, .int .i64 1, .int .i64 0, .int .i64 0, .int .i64 (-1)] 45)) = w4 at hA hB hD hS h4 ⊢
  clear hb1 hb2 hb3 h2 h3
  generalize w1.heap.size = bA at hA ⊢
  generalize w2.heap.size = bB at hB ⊢
  generalize w3.heap.size = bD at hD hS ⊢
  refine (parse_any ⟨#[97, 40, 98, 124, 99, 41, 42]⟩ _ (by decide) 60 _ ex_group).mono ?_
  rintro e w5 ⟨⟨vG, rfl, hown⟩, hb5⟩
  have xG := own_isX hown
  clear hown
  replace hA := hA.grows hb5
  replace hB := hB.grows hb5
  replace hD := hD.grows hb5
  replace hS := hS.grows hb5
  have h5 := h4.trans (hb5.mono h4.size)
  clear hb5 h4
  go_wp2_with fail
  refine (parse_any ⟨#[126, 97, 42, 38, 46, 123, 50, 44, 50, 125]⟩ _ (by decide) 60 _ ex_both).mono ?_
  rintro e w6 ⟨⟨vB, rfl, hown⟩, hb6⟩
  have xB := own_isX hown
  clear hown
  replace xG := xG.grows hb6
  replace hA := hA.grows hb6
  replace hB := hB.grows hb6
  replace hD := hD.grows hb6
  replace hS := hS.grows hb6
  have h6 := h5.trans (hb6.mono h5.size)
  clear hb6 h5
  obtain ⟨d0, d1, d2, d3, d4, d5, d6, d7, d8⟩ := hD.nine
  obtain ⟨s0, s1, s2, s3, s4, s5, s6, s7, s8⟩ := hS.nine
  have HA := Lib.hid hA
  have HB := Lib.hid hB
  have HS := Lib.hid hS
  have XG := Lib.hid xG
  have XB := Lib.hid xB
  have H6 := Lib.hid h6
  clear hA hB hD hS xG xB h6
  go_wp2_with fail
  refine (format_ok _ exForm _ (isX_new w6 exForm _ _ 3 3 rfl (by kernel_rfl)) exForm_ok ⟨#[40, 126, 92, 120, 50, 100, 41, 42]⟩ (by decide) form_text (HT.out _ (H6.out.trans (((Below.refl _ w6).alloc (by simp) _).mono H6.out.size))).1 (HT.out _ (H6.out.trans (((Below.refl _ w6).alloc (by simp) _).mono H6.out.size))).2).mono ?_
  rintro e w7 ⟨rfl, hb⟩
  have hw : Below w6.heap.size w6 w7 := Below.trans ((Below.refl _ w6).alloc (by simp) _) (hb.mono (by simp))
  have H7 := Lib.hid (H6.out.trans (hw.mono H6.out.size))
  replace HA := Lib.hid (HA.out.grows hw)
  replace HB := Lib.hid (HB.out.grows hw)
  replace HS := Lib.hid (HS.out.grows hw)
  replace XG := Lib.hid (XG.out.grows hw)
  replace XB := Lib.hid (XB.out.grows hw)
  clear hb hw
  go_wp2_with fail
  refine (format_ok _ exEmpty _ (isX_new w7 exEmpty _ _ 1 1 rfl (by kernel_rfl)) exEmpty_ok ⟨#[91, 93]⟩ (by decide) empty_text (HT.out _ (H7.out.trans (((Below.refl _ w7).alloc (by simp) _).mono H7.out.size))).1 (HT.out _ (H7.out.trans (((Below.refl _ w7).alloc (by simp) _).mono H7.out.size))).2).mono ?_
  rintro e w8 ⟨rfl, hb⟩
  have hw : Below w7.heap.size w7 w8 := Below.trans ((Below.refl _ w7).alloc (by simp) _) (hb.mono (by simp))
  have H8 := Lib.hid (H7.out.trans (hw.mono H7.out.size))
  replace HA := Lib.hid (HA.out.grows hw)
  replace HB := Lib.hid (HB.out.grows hw)
  replace HS := Lib.hid (HS.out.grows hw)
  replace XG := Lib.hid (XG.out.grows hw)
  replace XB := Lib.hid (XB.out.grows hw)
  clear hb hw
  obtain ⟨a0, a1, a2, a3, a4, a5, a6, a7, a8⟩ := HA.out.nine
  obtain ⟨b0, b1, b2, b3, b4, b5, b6, b7, b8⟩ := HB.out.nine
  obtain ⟨s0, s1, s2, s3, s4, s5, s6, s7, s8⟩ := HS.out.nine
  go_wp2_with fail
  refine (parsed_eq ⟨#[97, 124, 98, 42]⟩ (by decide) 60 exStar ex_star _ _ (isX_new w8 exStar _ _ 4 4 rfl (by kernel_rfl))).mono ?_
  rintro e w9 ⟨rfl, hb⟩
  clear a0 a1 a2 a3 a4 a5 a6 a7 a8 b0 b1 b2 b3 b4 b5 b6 b7 b8 s0 s1 s2 s3 s4 s5 s6 s7 s8
  have hw : Below w8.heap.size w8 w9 := Below.trans ((Below.refl _ w8).alloc (by simp) _) (hb.mono (by simp))
  have H9 := Lib.hid (H8.out.trans (hw.mono H8.out.size))
  replace HA := Lib.hid (HA.out.grows hw)
  replace XG := Lib.hid (XG.out.grows hw)
  replace XB := Lib.hid (XB.out.grows hw)
  clear hb hw
  go_wp2_with fail
  refine (refused_at ⟨#[97, 124, 124, 98]⟩ (by decide) 60 2 20 ex_bar _).mono ?_
  rintro e w10 ⟨rfl, hb⟩
  have hw : Below w9.heap.size w9 w10 := hb
  have H10 := Lib.hid (H9.out.trans (hw.mono H9.out.size))
  replace HA := Lib.hid (HA.out.grows hw)
  replace XG := Lib.hid (XG.out.grows hw)
  replace XB := Lib.hid (XB.out.grows hw)
  clear hb hw
  go_wp2_with fail
  refine (refused_at ⟨#[40, 97]⟩ (by decide) 60 2 21 ex_open _).mono ?_
  rintro e w11 ⟨rfl, hb⟩
  have hw : Below w10.heap.size w10 w11 := hb
  have H11 := Lib.hid (H10.out.trans (hw.mono H10.out.size))
  replace HA := Lib.hid (HA.out.grows hw)
  replace XG := Lib.hid (XG.out.grows hw)
  replace XB := Lib.hid (XB.out.grows hw)
  clear hb hw
  go_wp2_with fail
  refine (refused_at ⟨#[97, 123, 51, 44, 50, 125]⟩ (by decide) 60 4 20 ex_bounds _).mono ?_
  rintro e w12 ⟨rfl, hb⟩
  have hw : Below w11.heap.size w11 w12 := hb
  have H12 := Lib.hid (H11.out.trans (hw.mono H11.out.size))
  replace HA := Lib.hid (HA.out.grows hw)
  replace XG := Lib.hid (XG.out.grows hw)
  replace XB := Lib.hid (XB.out.grows hw)
  clear hb hw
  go_wp2_with fail
  refine (refused_at ⟨#[97, 123, 49, 55, 44, 125]⟩ (by decide) 60 2 2 ex_big _).mono ?_
  rintro e w13 ⟨rfl, hb⟩
  have hw : Below w12.heap.size w12 w13 := hb
  have H13 := Lib.hid (H12.out.trans (hw.mono H12.out.size))
  replace HA := Lib.hid (HA.out.grows hw)
  replace XG := Lib.hid (XG.out.grows hw)
  replace XB := Lib.hid (XB.out.grows hw)
  clear hb hw
  go_wp2_with fail
  refine (match_any _ _ exGroup [97, 98, 99, 98] _ (XG.out.grows ((Below.refl _ w13).alloc (Nat.le_refl _) _)) (by unfold maxLen; decide) (isB_new w13 [97, 98, 99, 98] _ _ _ 4 4 rfl (by kernel_rfl)) (by decide) (by decide) (HP.out _ (H13.out.trans (((Below.refl _ w13).alloc (by simp) _).mono H13.out.size)))).mono ?_
  rintro e w14 ⟨rfl, hb⟩
  rw [match_abcb]
  have hw : Below w13.heap.size w13 w14 := Below.trans ((Below.refl _ w13).alloc (by simp) _) (hb.mono (by simp))
  have H14 := Lib.hid (H13.out.trans (hw.mono H13.out.size))
  replace HA := Lib.hid (HA.out.grows hw)
  replace XG := Lib.hid (XG.out.grows hw)
  replace XB := Lib.hid (XB.out.grows hw)
  clear hb hw
  go_wp2_with fail
  refine (match_any _ _ exGroup [98, 97] _ (XG.out.grows ((Below.refl _ w14).alloc (Nat.le_refl _) _)) (by unfold maxLen; decide) (isB_new w14 [98, 97] _ _ _ 2 2 rfl (by kernel_rfl)) (by decide) (by decide) (HP.out _ (H14.out.trans (((Below.refl _ w14).alloc (by simp) _).mono H14.out.size)))).mono ?_
  rintro e w15 ⟨rfl, hb⟩
  rw [match_ba]
  have hw : Below w14.heap.size w14 w15 := Below.trans ((Below.refl _ w14).alloc (by simp) _) (hb.mono (by simp))
  have H15 := Lib.hid (H14.out.trans (hw.mono H14.out.size))
  replace HA := Lib.hid (HA.out.grows hw)
  replace XG := Lib.hid (XG.out.grows hw)
  replace XB := Lib.hid (XB.out.grows hw)
  clear hb hw
  go_wp2_with fail
  refine (match_any _ _ exBoth [97, 98] _ (XB.out.grows ((Below.refl _ w15).alloc (Nat.le_refl _) _)) (by unfold maxLen; decide) (isB_new w15 [97, 98] _ _ _ 2 2 rfl (by kernel_rfl)) (by decide) (by decide) (HP.out _ (H15.out.trans (((Below.refl _ w15).alloc (by simp) _).mono H15.out.size)))).mono ?_
  rintro e w16 ⟨rfl, hb⟩
  rw [match_ab]
  have hw : Below w15.heap.size w15 w16 := Below.trans ((Below.refl _ w15).alloc (by simp) _) (hb.mono (by simp))
  have H16 := Lib.hid (H15.out.trans (hw.mono H15.out.size))
  replace HA := Lib.hid (HA.out.grows hw)
  replace XG := Lib.hid (XG.out.grows hw)
  replace XB := Lib.hid (XB.out.grows hw)
  clear hb hw
  go_wp2_with fail
  refine (match_any _ _ exBoth [97, 97] _ (XB.out.grows ((Below.refl _ w16).alloc (Nat.le_refl _) _)) (by unfold maxLen; decide) (isB_new w16 [97, 97] _ _ _ 2 2 rfl (by kernel_rfl)) (by decide) (by decide) (HP.out _ (H16.out.trans (((Below.refl _ w16).alloc (by simp) _).mono H16.out.size)))).mono ?_
  rintro e w17 ⟨rfl, hb⟩
  rw [match_aa]
  have hw : Below w16.heap.size w16 w17 := Below.trans ((Below.refl _ w16).alloc (by simp) _) (hb.mono (by simp))
  have H17 := Lib.hid (H16.out.trans (hw.mono H16.out.size))
  replace HA := Lib.hid (HA.out.grows hw)
  replace XG := Lib.hid (XG.out.grows hw)
  replace XB := Lib.hid (XB.out.grows hw)
  clear hb hw
  obtain ⟨a0, a1, a2, a3, a4, a5, a6, a7, a8⟩ := HA.out.nine
  go_wp2_with fail
  refine (parsed_eq ⟨#[91, 94, 92, 120, 48, 48, 45, 92, 120, 54, 48, 92, 120, 54, 50, 45, 92, 120, 102, 102, 93]⟩ (by decide) 60 [nCls 97] ex_ranges _ _ (isX_new w17 [nCls 97] _ _ 1 1 rfl (by kernel_rfl))).mono ?_
  rintro e w18 ⟨rfl, hb⟩
  clear a0 a1 a2 a3 a4 a5 a6 a7 a8
  have hw : Below w17.heap.size w17 w18 := Below.trans ((Below.refl _ w17).alloc (by simp) _) (hb.mono (by simp))
  have H18 := Lib.hid (H17.out.trans (hw.mono H17.out.size))
  clear hb hw
  go_wp2_with fail
  refine (valid_nil _).mono ?_
  rintro e w19 ⟨rfl, hb⟩
  have H19 := Lib.hid (H18.out.trans (hb.mono H18.out.size))
  clear hb
  go_wp2
  go_ret
  exact ⟨rfl, H19.out⟩
end Go.Proofs.YtclfdffpcneeeaaGreatDoor

/-
  Walks: the law RegexClassIsOneByte.
-/
namespace Go.Proofs.YtclfdffpcneeeaaGreatDoor
open Go.RowKit Go.Shelf
attribute [local go_sem] Oper.semAt_some

theorem one_ok (c : BitVec 256) : validE [⟨3, c, 0, 0, 0, 0⟩] = 0 := by
  have h : ∀ x : BitVec 256, chkN ⟨3, x, 0, 0, 0, 0⟩ 0 = 0 := fun x => by
    unfold chkN chkR
    simp [knownB, usedN, opsN, boundsErr]
  simp [validE, vRes, firstE, h, treeB]
theorem one_match (c : BitVec 256) (l : List Int) : matchB [⟨3, c, 0, 0, 0, 0⟩] l = (decide (l.length = 1) && mem c (l.getD 0 0).toNat) := by
  rw [Bool.eq_iff_iff, matchB_true, tr_cls (n := ⟨3, c, 0, 0, 0, 0⟩) rfl rfl]
  simp only [Bool.and_eq_true, decide_eq_true_eq]
  constructor
  · rintro ⟨_, h1, y, h2, h3⟩
    obtain ⟨_, h4⟩ := List.getElem?_eq_some_iff.1 h2
    refine ⟨by omega, ?_⟩
    rw [List.getD_eq_getElem?_getD, h2]
    exact h3
  · rintro ⟨h1, h2⟩
    refine ⟨one_ok c, by omega, l.getD 0 0, ?_, h2⟩
    rw [List.getD_eq_getElem?_getD, List.getElem?_eq_getElem (by omega)]
    rfl
set_option maxRecDepth 100000 in
set_option maxHeartbeats 4000000 in
theorem onebyte_walk (c : BitVec 256) (bv : Value) (l : List Int) (W : World) (hl : IsB W bv l) (hb : l.length ≤ 1048576) (hbb : ∀ y ∈ l, 0 ≤ y ∧ y < 256)
    (hT : TabAt 0 Lib.deBruijn64tab W) (hg : 0 < W.heap.size) (htab : Lib.TabBelow Tryz.prog W.heap.size W "internal/strconv.uint64pow10" .u64 Lib.pow10Tab) :
    Calls Tryz.prog 11 #[.agg #[.int .u64 (wd c 0), .int .u64 (wd c 1), .int .u64 (wd c 2), .int .u64 (wd c 3)], bv] W fun e W' => e = .returned (.bool true) ∧ Below W.heap.size W W' := by
  have hbx : Below W.heap.size W (W.alloc (.cells #[.int .u64 (wd c 0), .int .u64 (wd c 1), .int .u64 (wd c 2), .int .u64 (wd c 3)] 43)) := (Below.refl _ W).alloc (Nat.le_refl _) _
  have hbk := Blk.new W #[.int .u64 (wd c 0), .int .u64 (wd c 1), .int .u64 (wd c 2), .int .u64 (wd c 3)] 43
  have hS := sanity_any (W.alloc (.cells #[.int .u64 (wd c 0), .int .u64 (wd c 1), .int .u64 (wd c 2), .int .u64 (wd c 3)] 43)) (tab_below hT hbx hg) (by have := hbx.size; omega) (Lib.tabBelow_of_tabIs (htab.on hbx).here)
  have HP := Lib.hid (fun w (hb : Below W.heap.size W w) => Lib.tabBelow_of_tabIs (htab.on hb).here)
  have HS := Lib.hid hS
  have HL := Lib.hid hl
  have Hbb := Lib.hid hbb
  have HBX := Lib.hid hbx
  have HBK := Lib.hid hbk
  obtain ⟨bp, bc, rfl⟩ := hl.shape
  clear hl hbb hbx hbk hS hT hg htab
  go_enter Tryz.func11, Tryz.ntmps11
  go_wp2_with (go_at_call 13; refine HS.out.mono ?_; rintro e W1 ⟨rfl, hb1⟩; obtain ⟨c0, c1, c2, c3, -⟩ := (HBK.out.grows hb1).four)
  -- WALK
  have hx2 : IsX (W1.alloc (.cells #[.int .i64 3, .int .u64 (wd c 0), .int .u64 (wd c 1), .int .u64 (wd c 2), .int .u64 (wd c 3), .int .i64 0, .int .i64 0, .int .i64 0, .int .i64 0] 45)) (.slice (some ⟨W1.heap.size, 0, none⟩) 1 1) [⟨3, c, 0, 0, 0, 0⟩] := isX_new W1 [⟨3, c, 0, 0, 0, 0⟩] _ _ 1 1 rfl rfl
  have hb12 : Below W1.heap.size W1 (W1.alloc (.cells #[.int .i64 3, .int .u64 (wd c 0), .int .u64 (wd c 1), .int .u64 (wd c 2), .int .u64 (wd c 3), .int .i64 0, .int .i64 0, .int .i64 0, .int .i64 0] 45)) := (Below.refl _ _).alloc (Nat.le_refl _) _
  have hbW1 := HBX.out.trans (hb1.mono HBX.out.size)
  have hbW2 := hbW1.trans (hb12.mono hbW1.size)
  have c0 := cell_al (o := .cells #[.int .i64 3, .int .u64 (wd c 0), .int .u64 (wd c 1), .int .u64 (wd c 2), .int .u64 (wd c 3), .int .i64 0, .int .i64 0, .int .i64 0, .int .i64 0] 45) c0
  have c1 := cell_al (o := .cells #[.int .i64 3, .int .u64 (wd c 0), .int .u64 (wd c 1), .int .u64 (wd c 2), .int .u64 (wd c 3), .int .i64 0, .int .i64 0, .int .i64 0, .int .i64 0] 45) c1
  have c2 := cell_al (o := .cells #[.int .i64 3, .int .u64 (wd c 0), .int .u64 (wd c 1), .int .u64 (wd c 2), .int .u64 (wd c 3), .int .i64 0, .int .i64 0, .int .i64 0, .int .i64 0] 45) c2
  have c3 := cell_al (o := .cells #[.int .i64 3, .int .u64 (wd c 0), .int .u64 (wd c 1), .int .u64 (wd c 2), .int .u64 (wd c 3), .int .i64 0, .int .i64 0, .int .i64 0, .int .i64 0] 45) c3
  generalize (W1.alloc (.cells #[.int .i64 3, .int .u64 (wd c 0), .int .u64 (wd c 1), .int .u64 (wd c 2), .int .u64 (wd c 3), .int .i64 0, .int .i64 0, .int .i64 0, .int .i64 0] 45)) = W2 at hx2 hbW2 c0 c1 c2 c3 ⊢
  generalize W1.heap.size = b1 at hx2 ⊢
  have hl2 := HL.out.kept fun _ _ h => (hbW2.cell (lt_of_cell h)).trans h
  have HV : Hid (∀ w, Below W2.heap.size W2 w → Calls Tryz.prog 17 #[.slice (some ⟨b1, 0, none⟩) 1 1] w fun e W' => e = .returned (.int .i64 0) ∧ Below w.heap.size w W') := Lib.hid fun w h => by
    have h1 := valid_any _ _ w (hx2.grows h) (by unfold maxLen; simp)
    rw [one_ok] at h1
    exact h1
  have HN : Hid (∀ w, Below W2.heap.size W2 w → Calls Tryz.prog 19 #[.slice (some ⟨b1, 0, none⟩) 1 1] w fun e W' => e = .returned (.bool false) ∧ Below w.heap.size w W') := Lib.hid fun w h => by
    have h1 := nullable_any _ _ w (hx2.grows h) (by unfold maxLen; simp) (HP.out w (hbW2.trans (h.mono hbW2.size)))
    rw [one_match] at h1
    exact h1
  have HM : Hid (∀ w, Below W2.heap.size W2 w → Calls Tryz.prog 21 #[.slice (some ⟨b1, 0, none⟩) 1 1, .slice bp l.length bc] w fun e W' => e = .returned (.bool (decide (l.length = 1) && mem c (l.getD 0 0).toNat)) ∧ Below w.heap.size w W') := Lib.hid fun w h => by
    have h1 := match_any _ _ _ l w (hx2.grows h) (by unfold maxLen; simp) (hl2.kept fun _ _ hc => (h.cell (lt_of_cell hc)).trans hc) Hbb.out hb (HP.out w (hbW2.trans (h.mono hbW2.size)))
    rw [one_match] at h1
    exact h1
  have Hb2 := Lib.hid hbW2
  have Hl2 := Lib.hid hl2
  have hcur := below_dr W2
  have c0 : W2.drew.cell? _ = some _ := c0
  have c1 : W2.drew.cell? _ = some _ := c1
  have c2 : W2.drew.cell? _ = some _ := c2
  have c3 : W2.drew.cell? _ = some _ := c3
  clear hx2 hb12 hbW1 hbW2 hl2 hb1 HS HBK HBX
  by_cases h1 : l.length = 1
  · obtain ⟨y, rfl⟩ : ∃ y, l = [y] := by
      match l, h1 with
      | [y], _ => exact ⟨y, rfl⟩
    obtain ⟨bb, bo, rfl, hy⟩ := Hl2.out.at (k := 0) (y := y) rfl
    have hyb := Hbb.out y (by simp)
    have HH : Hid (∀ w, Calls Tryz.prog 30 #[.agg #[.int .u64 (wd c 0), .int .u64 (wd c 1), .int .u64 (wd c 2), .int .u64 (wd c 3)], .int .u8 y] w fun e W' => e = .returned (.bool (mem c y.toNat)) ∧ Below w.heap.size w W') := Lib.hid fun w => rhas_any c y w hyb.1 hyb.2
    have d0 : W2.drew.cell? ⟨bb, bo, none⟩ = some (.int .u8 y) := hy
    clear hy hb
    simp only [List.length_singleton, List.getD_cons_zero, decide_true, Bool.true_and] at HM ⊢
    generalize mem c y.toNat = q at HH HM
    cases q
    · go_region_held3 (fun W' => W'.cell? ⟨W.heap.size, 0, none⟩ = some (.int .u64 (wd c 0)) ∧ W'.cell? ⟨W.heap.size, 1, none⟩ = some (.int .u64 (wd c 1)) ∧ W'.cell? ⟨W.heap.size, 2, none⟩ = some (.int .u64 (wd c 2)) ∧ W'.cell? ⟨W.heap.size, 3, none⟩ = some (.int .u64 (wd c 3)) ∧ W'.cell? ⟨bb, bo, none⟩ = some (.int .u8 y)) (first | exact ⟨c0, c1, c2, c3, d0⟩) (first
        | (go_at_call 17; ((with_reducible refine (HV.out _ hcur).mono ?_)); rintro e wn ⟨rfl, hbn⟩; have c0 := (hbn.cell (lt_of_cell c0)).trans c0; have c1 := (hbn.cell (lt_of_cell c1)).trans c1; have c2 := (hbn.cell (lt_of_cell c2)).trans c2; have c3 := (hbn.cell (lt_of_cell c3)).trans c3; have d0 := (hbn.cell (lt_of_cell d0)).trans d0; have hcur := hcur.trans (hbn.mono hcur.size); clear hbn)
        | (go_at_call 19; ((with_reducible refine (HN.out _ hcur).mono ?_)); rintro e wn ⟨rfl, hbn⟩; have c0 := (hbn.cell (lt_of_cell c0)).trans c0; have c1 := (hbn.cell (lt_of_cell c1)).trans c1; have c2 := (hbn.cell (lt_of_cell c2)).trans c2; have c3 := (hbn.cell (lt_of_cell c3)).trans c3; have d0 := (hbn.cell (lt_of_cell d0)).trans d0; have hcur := hcur.trans (hbn.mono hcur.size); clear hbn)
        | (go_at_call 21; ((with_reducible refine (HM.out _ hcur).mono ?_)); rintro e wn ⟨rfl, hbn⟩; have c0 := (hbn.cell (lt_of_cell c0)).trans c0; have c1 := (hbn.cell (lt_of_cell c1)).trans c1; have c2 := (hbn.cell (lt_of_cell c2)).trans c2; have c3 := (hbn.cell (lt_of_cell c3)).trans c3; have d0 := (hbn.cell (lt_of_cell d0)).trans d0; have hcur := hcur.trans (hbn.mono hcur.size); clear hbn)
        | (go_at_call 30; ((with_reducible refine (HH.out _).mono ?_)); rintro e wn ⟨rfl, hbn⟩; have c0 := (hbn.cell (lt_of_cell c0)).trans c0; have c1 := (hbn.cell (lt_of_cell c1)).trans c1; have c2 := (hbn.cell (lt_of_cell c2)).trans c2; have c3 := (hbn.cell (lt_of_cell c3)).trans c3; have d0 := (hbn.cell (lt_of_cell d0)).trans d0; have hcur := hcur.trans (hbn.mono hcur.size); clear hbn))
      all_goals
        go_wp2
        go_ret
        exact ⟨rfl, Hb2.out.trans (hcur.mono Hb2.out.size)⟩
    · go_region_held3 (fun W' => W'.cell? ⟨W.heap.size, 0, none⟩ = some (.int .u64 (wd c 0)) ∧ W'.cell? ⟨W.heap.size, 1, none⟩ = some (.int .u64 (wd c 1)) ∧ W'.cell? ⟨W.heap.size, 2, none⟩ = some (.int .u64 (wd c 2)) ∧ W'.cell? ⟨W.heap.size, 3, none⟩ = some (.int .u64 (wd c 3)) ∧ W'.cell? ⟨bb, bo, none⟩ = some (.int .u8 y)) (first | exact ⟨c0, c1, c2, c3, d0⟩) (first
        | (go_at_call 17; ((with_reducible refine (HV.out _ hcur).mono ?_)); rintro e wn ⟨rfl, hbn⟩; have c0 := (hbn.cell (lt_of_cell c0)).trans c0; have c1 := (hbn.cell (lt_of_cell c1)).trans c1; have c2 := (hbn.cell (lt_of_cell c2)).trans c2; have c3 := (hbn.cell (lt_of_cell c3)).trans c3; have d0 := (hbn.cell (lt_of_cell d0)).trans d0; have hcur := hcur.trans (hbn.mono hcur.size); clear hbn)
        | (go_at_call 19; ((with_reducible refine (HN.out _ hcur).mono ?_)); rintro e wn ⟨rfl, hbn⟩; have c0 := (hbn.cell (lt_of_cell c0)).trans c0; have c1 := (hbn.cell (lt_of_cell c1)).trans c1; have c2 := (hbn.cell (lt_of_cell c2)).trans c2; have c3 := (hbn.cell (lt_of_cell c3)).trans c3; have d0 := (hbn.cell (lt_of_cell d0)).trans d0; have hcur := hcur.trans (hbn.mono hcur.size); clear hbn)
        | (go_at_call 21; ((with_reducible refine (HM.out _ hcur).mono ?_)); rintro e wn ⟨rfl, hbn⟩; have c0 := (hbn.cell (lt_of_cell c0)).trans c0; have c1 := (hbn.cell (lt_of_cell c1)).trans c1; have c2 := (hbn.cell (lt_of_cell c2)).trans c2; have c3 := (hbn.cell (lt_of_cell c3)).trans c3; have d0 := (hbn.cell (lt_of_cell d0)).trans d0; have hcur := hcur.trans (hbn.mono hcur.size); clear hbn)
        | (go_at_call 30; ((with_reducible refine (HH.out _).mono ?_)); rintro e wn ⟨rfl, hbn⟩; have c0 := (hbn.cell (lt_of_cell c0)).trans c0; have c1 := (hbn.cell (lt_of_cell c1)).trans c1; have c2 := (hbn.cell (lt_of_cell c2)).trans c2; have c3 := (hbn.cell (lt_of_cell c3)).trans c3; have d0 := (hbn.cell (lt_of_cell d0)).trans d0; have hcur := hcur.trans (hbn.mono hcur.size); clear hbn))
      all_goals
        go_wp2
        go_ret
        exact ⟨rfl, Hb2.out.trans (hcur.mono Hb2.out.size)⟩
  · have t1 : ((l.length : Int) == 1) = false := by rw [beq_eq_false_iff_ne]; omega
    have t2 : (l.length == 1) = false := by rw [beq_eq_false_iff_ne]; exact h1
    have t3 : decide ((l.length : Int) = 1) = false := by rw [decide_eq_false_iff_not]; omega
    have t4 : decide (l.length = 1) = false := by rw [decide_eq_false_iff_not]; exact h1
    rw [decide_eq_false h1, Bool.false_and] at HM
    refine wp_region_held_drew (S := fun _ => True) (by kernel_rfl) trivial (fun hHeld => ?_)
    refine wpAnyH_take (i := 0) (v := .bool true) rfl (by kernel_rfl) (by kernel_rfl) (by kernel_rfl) (fun _ _ _ h => h) (Or.inl ⟨by rfl, by intro w _; go_simp⟩) hHeld ?_
    refine (show wpAnyH _ _ _ _ _ _ _ { tmps := #[.agg #[.int .u64 (wd c 0), .int .u64 (wd c 1), .int .u64 (wd c 2), .int .u64 (wd c 3)], .slice bp l.length bc, .pointer (some ⟨W.heap.size, 0, none⟩), undef, .bool false, .bool true, .slice (some ⟨b1, 0, none⟩) 1 1, .bool true, .agg #[.int .u64 (wd c 0), .int .u64 (wd c 1), .int .u64 (wd c 2), .int .u64 (wd c 3)], .agg #[.int .i64 3, .int .u64 (wd c 0), .int .u64 (wd c 1), .int .u64 (wd c 2), .int .u64 (wd c 3), .int .i64 0, .int .i64 0, .int .i64 0, .int .i64 0], .slice (some ⟨b1, 0, none⟩) 1 1, .bool true, undef, undef, undef, undef, undef, undef, undef, undef, undef, undef, undef, undef, undef, undef, undef, undef, undef, undef, undef, undef, undef, undef, undef, undef, undef, undef], defers := [] } _ from ?_)
    refine wpAnyH_take (i := 1) (v := .bool true) rfl (by kernel_rfl) (by kernel_rfl) (by kernel_rfl) (fun _ _ _ h => h) (Or.inl ⟨by rfl, by intro w _; go_simp⟩) hHeld ?_
    refine (show wpAnyH _ _ _ _ _ _ _ { tmps := #[.agg #[.int .u64 (wd c 0), .int .u64 (wd c 1), .int .u64 (wd c 2), .int .u64 (wd c 3)], .slice bp l.length bc, .pointer (some ⟨W.heap.size, 0, none⟩), undef, .bool false, .bool true, .slice (some ⟨b1, 0, none⟩) 1 1, .bool true, .agg #[.int .u64 (wd c 0), .int .u64 (wd c 1), .int .u64 (wd c 2), .int .u64 (wd c 3)], .agg #[.int .i64 3, .int .u64 (wd c 0), .int .u64 (wd c 1), .int .u64 (wd c 2), .int .u64 (wd c 3), .int .i64 0, .int .i64 0, .int .i64 0, .int .i64 0], .slice (some ⟨b1, 0, none⟩) 1 1, .bool true, .bool true, undef, undef, undef, undef, undef, undef, undef, undef, undef, undef, undef, undef, undef, undef, undef, undef, undef, undef, undef, undef, undef, undef, undef, undef, undef], defers := [] } _ from ?_)
    refine wpAnyH_take (i := 2) (v := .slice (some ⟨b1, 0, none⟩) 1 1) rfl (by kernel_rfl) (by kernel_rfl) (by kernel_rfl) (fun _ _ _ h => h) (Or.inl ⟨by rfl, by intro w _; go_simp⟩) hHeld ?_
    refine (show wpAnyH _ _ _ _ _ _ _ { tmps := #[.agg #[.int .u64 (wd c 0), .int .u64 (wd c 1), .int .u64 (wd c 2), .int .u64 (wd c 3)], .slice bp l.length bc, .pointer (some ⟨W.heap.size, 0, none⟩), undef, .bool false, .bool true, .slice (some ⟨b1, 0, none⟩) 1 1, .bool true, .agg #[.int .u64 (wd c 0), .int .u64 (wd c 1), .int .u64 (wd c 2), .int .u64 (wd c 3)], .agg #[.int .i64 3, .int .u64 (wd c 0), .int .u64 (wd c 1), .int .u64 (wd c 2), .int .u64 (wd c 3), .int .i64 0, .int .i64 0, .int .i64 0, .int .i64 0], .slice (some ⟨b1, 0, none⟩) 1 1, .bool true, .bool true, .slice (some ⟨b1, 0, none⟩) 1 1, undef, undef, undef, undef, undef, undef, undef, undef, undef, undef, undef, undef, undef, undef, undef, undef, undef, undef, undef, undef, undef, undef, undef, undef], defers := [] } _ from ?_)
    refine wpAnyH_ready (rs := [3]) (by kernel_rfl) (by simp) ?_
    refine AllReadyH.cons rfl (fun K hK => ?_) AllReadyH.nil
    go_simp
    go_wp2_with (go_at_call 17; refine (HV.out _ hcur).mono ?_; rintro e wn ⟨rfl, hbn⟩; have hcur := hcur.trans (hbn.mono hcur.size); clear hbn)
    refine hK.out _ _ trivial (fun hHeld => ?_)
    clear hK K
    refine (show wpAnyH _ _ _ _ _ _ _ { tmps := #[.agg #[.int .u64 (wd c 0), .int .u64 (wd c 1), .int .u64 (wd c 2), .int .u64 (wd c 3)], .slice bp l.length bc, .pointer (some ⟨W.heap.size, 0, none⟩), undef, .bool false, .bool true, .slice (some ⟨b1, 0, none⟩) 1 1, .bool true, .agg #[.int .u64 (wd c 0), .int .u64 (wd c 1), .int .u64 (wd c 2), .int .u64 (wd c 3)], .agg #[.int .i64 3, .int .u64 (wd c 0), .int .u64 (wd c 1), .int .u64 (wd c 2), .int .u64 (wd c 3), .int .i64 0, .int .i64 0, .int .i64 0, .int .i64 0], .slice (some ⟨b1, 0, none⟩) 1 1, .bool true, .bool true, .slice (some ⟨b1, 0, none⟩) 1 1, .int .i64 0, undef, undef, undef, undef, undef, undef, undef, undef, undef, undef, undef, undef, undef, undef, undef, undef, undef, undef, undef, undef, undef, undef, undef], defers := [] } _ from ?_)
    refine wpAnyH_take (i := 4) (v := .bool true) rfl (by kernel_rfl) (by kernel_rfl) (by kernel_rfl) (fun _ _ _ h => h) (Or.inl ⟨by rfl, by intro w _; go_simp⟩) hHeld ?_
    refine (show wpAnyH _ _ _ _ _ _ _ { tmps := #[.agg #[.int .u64 (wd c 0), .int .u64 (wd c 1), .int .u64 (wd c 2), .int .u64 (wd c 3)], .slice bp l.length bc, .pointer (some ⟨W.heap.size, 0, none⟩), undef, .bool false, .bool true, .slice (some ⟨b1, 0, none⟩) 1 1, .bool true, .agg #[.int .u64 (wd c 0), .int .u64 (wd c 1), .int .u64 (wd c 2), .int .u64 (wd c 3)], .agg #[.int .i64 3, .int .u64 (wd c 0), .int .u64 (wd c 1), .int .u64 (wd c 2), .int .u64 (wd c 3), .int .i64 0, .int .i64 0, .int .i64 0, .int .i64 0], .slice (some ⟨b1, 0, none⟩) 1 1, .bool true, .bool true, .slice (some ⟨b1, 0, none⟩) 1 1, .int .i64 0, .bool true, undef, undef, undef, undef, undef, undef, undef, undef, undef, undef, undef, undef, undef, undef, undef, undef, undef, undef, undef, undef, undef, undef], defers := [] } _ from ?_)
    refine wpAnyH_take (i := 5) (v := .bool true) rfl (by kernel_rfl) (by kernel_rfl) (by kernel_rfl) (fun _ _ _ h => h) (Or.inl ⟨by rfl, by intro w _; go_simp⟩) hHeld ?_
    refine (show wpAnyH _ _ _ _ _ _ _ { tmps := #[.agg #[.int .u64 (wd c 0), .int .u64 (wd c 1), .int .u64 (wd c 2), .int .u64 (wd c 3)], .slice bp l.length bc, .pointer (some ⟨W.heap.size, 0, none⟩), undef, .bool false, .bool true, .slice (some ⟨b1, 0, none⟩) 1 1, .bool true, .agg #[.int .u64 (wd c 0), .int .u64 (wd c 1), .int .u64 (wd c 2), .int .u64 (wd c 3)], .agg #[.int .i64 3, .int .u64 (wd c 0), .int .u64 (wd c 1), .int .u64 (wd c 2), .int .u64 (wd c 3), .int .i64 0, .int .i64 0, .int .i64 0, .int .i64 0], .slice (some ⟨b1, 0, none⟩) 1 1, .bool true, .bool true, .slice (some ⟨b1, 0, none⟩) 1 1, .int .i64 0, .bool true, .bool true, undef, undef, undef, undef, undef, undef, undef, undef, undef, undef, undef, undef, undef, undef, undef, undef, undef, undef, undef, undef, undef], defers := [] } _ from ?_)
    refine wpAnyH_take (i := 6) (v := .bool true) rfl (by kernel_rfl) (by kernel_rfl) (by kernel_rfl) (fun _ _ _ h => h) (Or.inl ⟨by rfl, by intro w _; go_simp⟩) hHeld ?_
    refine (show wpAnyH _ _ _ _ _ _ _ { tmps := #[.agg #[.int .u64 (wd c 0), .int .u64 (wd c 1), .int .u64 (wd c 2), .int .u64 (wd c 3)], .slice bp l.length bc, .pointer (some ⟨W.heap.size, 0, none⟩), undef, .bool false, .bool true, .slice (some ⟨b1, 0, none⟩) 1 1, .bool true, .agg #[.int .u64 (wd c 0), .int .u64 (wd c 1), .int .u64 (wd c 2), .int .u64 (wd c 3)], .agg #[.int .i64 3, .int .u64 (wd c 0), .int .u64 (wd c 1), .int .u64 (wd c 2), .int .u64 (wd c 3), .int .i64 0, .int .i64 0, .int .i64 0, .int .i64 0], .slice (some ⟨b1, 0, none⟩) 1 1, .bool true, .bool true, .slice (some ⟨b1, 0, none⟩) 1 1, .int .i64 0, .bool true, .bool true, .bool true, undef, undef, undef, undef, undef, undef, undef, undef, undef, undef, undef, undef, undef, undef, undef, undef, undef, undef, undef, undef], defers := [] } _ from ?_)
    refine wpAnyH_take (i := 7) (v := .slice (some ⟨b1, 0, none⟩) 1 1) rfl (by kernel_rfl) (by kernel_rfl) (by kernel_rfl) (fun _ _ _ h => h) (Or.inl ⟨by rfl, by intro w _; go_simp⟩) hHeld ?_
    refine (show wpAnyH _ _ _ _ _ _ _ { tmps := #[.agg #[.int .u64 (wd c 0), .int .u64 (wd c 1), .int .u64 (wd c 2), .int .u64 (wd c 3)], .slice bp l.length bc, .pointer (some ⟨W.heap.size, 0, none⟩), undef, .bool false, .bool true, .slice (some ⟨b1, 0, none⟩) 1 1, .bool true, .agg #[.int .u64 (wd c 0), .int .u64 (wd c 1), .int .u64 (wd c 2), .int .u64 (wd c 3)], .agg #[.int .i64 3, .int .u64 (wd c 0), .int .u64 (wd c 1), .int .u64 (wd c 2), .int .u64 (wd c 3), .int .i64 0, .int .i64 0, .int .i64 0, .int .i64 0], .slice (some ⟨b1, 0, none⟩) 1 1, .bool true, .bool true, .slice (some ⟨b1, 0, none⟩) 1 1, .int .i64 0, .bool true, .bool true, .bool true, .slice (some ⟨b1, 0, none⟩) 1 1, undef, undef, undef, undef, undef, undef, undef, undef, undef, undef, undef, undef, undef, undef, undef, undef, undef, undef, undef], defers := [] } _ from ?_)
    refine wpAnyH_ready (rs := [8]) (by kernel_rfl) (by simp) ?_
    refine AllReadyH.cons rfl (fun K hK => ?_) AllReadyH.nil
    go_simp
    go_wp2_with (go_at_call 19; refine (HN.out _ hcur).mono ?_; rintro e wn ⟨rfl, hbn⟩; have hcur := hcur.trans (hbn.mono hcur.size); clear hbn)
    refine hK.out _ _ trivial (fun hHeld => ?_)
    clear hK K
    refine (show wpAnyH _ _ _ _ _ _ _ { tmps := #[.agg #[.int .u64 (wd c 0), .int .u64 (wd c 1), .int .u64 (wd c 2), .int .u64 (wd c 3)], .slice bp l.length bc, .pointer (some ⟨W.heap.size, 0, none⟩), undef, .bool false, .bool true, .slice (some ⟨b1, 0, none⟩) 1 1, .bool true, .agg #[.int .u64 (wd c 0), .int .u64 (wd c 1), .int .u64 (wd c 2), .int .u64 (wd c 3)], .agg #[.int .i64 3, .int .u64 (wd c 0), .int .u64 (wd c 1), .int .u64 (wd c 2), .int .u64 (wd c 3), .int .i64 0, .int .i64 0, .int .i64 0, .int .i64 0], .slice (some ⟨b1, 0, none⟩) 1 1, .bool true, .bool true, .slice (some ⟨b1, 0, none⟩) 1 1, .int .i64 0, .bool true, .bool true, .bool true, .slice (some ⟨b1, 0, none⟩) 1 1, .bool false, undef, undef, undef, undef, undef, undef, undef, undef, undef, undef, undef, undef, undef, undef, undef, undef, undef, undef], defers := [] } _ from ?_)
    refine wpAnyH_take (i := 9) (v := .bool true) rfl (by kernel_rfl) (by kernel_rfl) (by kernel_rfl) (fun _ _ _ h => h) (Or.inl ⟨by rfl, by intro w _; go_simp⟩) hHeld ?_
    refine (show wpAnyH _ _ _ _ _ _ _ { tmps := #[.agg #[.int .u64 (wd c 0), .int .u64 (wd c 1), .int .u64 (wd c 2), .int .u64 (wd c 3)], .slice bp l.length bc, .pointer (some ⟨W.heap.size, 0, none⟩), undef, .bool false, .bool true, .slice (some ⟨b1, 0, none⟩) 1 1, .bool true, .agg #[.int .u64 (wd c 0), .int .u64 (wd c 1), .int .u64 (wd c 2), .int .u64 (wd c 3)], .agg #[.int .i64 3, .int .u64 (wd c 0), .int .u64 (wd c 1), .int .u64 (wd c 2), .int .u64 (wd c 3), .int .i64 0, .int .i64 0, .int .i64 0, .int .i64 0], .slice (some ⟨b1, 0, none⟩) 1 1, .bool true, .bool true, .slice (some ⟨b1, 0, none⟩) 1 1, .int .i64 0, .bool true, .bool true, .bool true, .slice (some ⟨b1, 0, none⟩) 1 1, .bool false, .bool true, undef, undef, undef, undef, undef, undef, undef, undef, undef, undef, undef, undef, undef, undef, undef, undef, undef], defers := [] } _ from ?_)
    refine wpAnyH_take (i := 10) (v := .bool true) rfl (by kernel_rfl) (by kernel_rfl) (by kernel_rfl) (fun _ _ _ h => h) (Or.inl ⟨by rfl, by intro w _; go_simp⟩) hHeld ?_
    refine (show wpAnyH _ _ _ _ _ _ _ { tmps := #[.agg #[.int .u64 (wd c 0), .int .u64 (wd c 1), .int .u64 (wd c 2), .int .u64 (wd c 3)], .slice bp l.length bc, .pointer (some ⟨W.heap.size, 0, none⟩), undef, .bool false, .bool true, .slice (some ⟨b1, 0, none⟩) 1 1, .bool true, .agg #[.int .u64 (wd c 0), .int .u64 (wd c 1), .int .u64 (wd c 2), .int .u64 (wd c 3)], .agg #[.int .i64 3, .int .u64 (wd c 0), .int .u64 (wd c 1), .int .u64 (wd c 2), .int .u64 (wd c 3), .int .i64 0, .int .i64 0, .int .i64 0, .int .i64 0], .slice (some ⟨b1, 0, none⟩) 1 1, .bool true, .bool true, .slice (some ⟨b1, 0, none⟩) 1 1, .int .i64 0, .bool true, .bool true, .bool true, .slice (some ⟨b1, 0, none⟩) 1 1, .bool false, .bool true, .bool true, undef, undef, undef, undef, undef, undef, undef, undef, undef, undef, undef, undef, undef, undef, undef, undef], defers := [] } _ from ?_)
    refine wpAnyH_take (i := 11) (v := .bool true) rfl (by kernel_rfl) (by kernel_rfl) (by kernel_rfl) (fun _ _ _ h => h) (Or.inl ⟨by rfl, by intro w _; go_simp⟩) hHeld ?_
    refine (show wpAnyH _ _ _ _ _ _ _ { tmps := #[.agg #[.int .u64 (wd c 0), .int .u64 (wd c 1), .int .u64 (wd c 2), .int .u64 (wd c 3)], .slice bp l.length bc, .pointer (some ⟨W.heap.size, 0, none⟩), undef, .bool false, .bool true, .slice (some ⟨b1, 0, none⟩) 1 1, .bool true, .agg #[.int .u64 (wd c 0), .int .u64 (wd c 1), .int .u64 (wd c 2), .int .u64 (wd c 3)], .agg #[.int .i64 3, .int .u64 (wd c 0), .int .u64 (wd c 1), .int .u64 (wd c 2), .int .u64 (wd c 3), .int .i64 0, .int .i64 0, .int .i64 0, .int .i64 0], .slice (some ⟨b1, 0, none⟩) 1 1, .bool true, .bool true, .slice (some ⟨b1, 0, none⟩) 1 1, .int .i64 0, .bool true, .bool true, .bool true, .slice (some ⟨b1, 0, none⟩) 1 1, .bool false, .bool true, .bool true, .bool true, undef, undef, undef, undef, undef, undef, undef, undef, undef, undef, undef, undef, undef, undef, undef], defers := [] } _ from ?_)
    refine wpAnyH_take (i := 12) (v := .slice (some ⟨b1, 0, none⟩) 1 1) rfl (by kernel_rfl) (by kernel_rfl) (by kernel_rfl) (fun _ _ _ h => h) (Or.inl ⟨by rfl, by intro w _; go_simp⟩) hHeld ?_
    refine (show wpAnyH _ _ _ _ _ _ _ { tmps := #[.agg #[.int .u64 (wd c 0), .int .u64 (wd c 1), .int .u64 (wd c 2), .int .u64 (wd c 3)], .slice bp l.length bc, .pointer (some ⟨W.heap.size, 0, none⟩), undef, .bool false, .bool true, .slice (some ⟨b1, 0, none⟩) 1 1, .bool true, .agg #[.int .u64 (wd c 0), .int .u64 (wd c 1), .int .u64 (wd c 2), .int .u64 (wd c 3)], .agg #[.int .i64 3, .int .u64 (wd c 0), .int .u64 (wd c 1), .int .u64 (wd c 2), .int .u64 (wd c 3), .int .i64 0, .int .i64 0, .int .i64 0, .int .i64 0], .slice (some ⟨b1, 0, none⟩) 1 1, .bool true, .bool true, .slice (some ⟨b1, 0, none⟩) 1 1, .int .i64 0, .bool true, .bool true, .bool true, .slice (some ⟨b1, 0, none⟩) 1 1, .bool false, .bool true, .bool true, .bool true, .slice (some ⟨b1, 0, none⟩) 1 1, undef, undef, undef, undef, undef, undef, undef, undef, undef, undef, undef, undef, undef, undef], defers := [] } _ from ?_)
    refine wpAnyH_take (i := 13) (v := .slice bp l.length bc) rfl (by kernel_rfl) (by kernel_rfl) (by kernel_rfl) (fun _ _ _ h => h) (Or.inl ⟨by rfl, by intro w _; go_simp⟩) hHeld ?_
    refine (show wpAnyH _ _ _ _ _ _ _ { tmps := #[.agg #[.int .u64 (wd c 0), .int .u64 (wd c 1), .int .u64 (wd c 2), .int .u64 (wd c 3)], .slice bp l.length bc, .pointer (some ⟨W.heap.size, 0, none⟩), undef, .bool false, .bool true, .slice (some ⟨b1, 0, none⟩) 1 1, .bool true, .agg #[.int .u64 (wd c 0), .int .u64 (wd c 1), .int .u64 (wd c 2), .int .u64 (wd c 3)], .agg #[.int .i64 3, .int .u64 (wd c 0), .int .u64 (wd c 1), .int .u64 (wd c 2), .int .u64 (wd c 3), .int .i64 0, .int .i64 0, .int .i64 0, .int .i64 0], .slice (some ⟨b1, 0, none⟩) 1 1, .bool true, .bool true, .slice (some ⟨b1, 0, none⟩) 1 1, .int .i64 0, .bool true, .bool true, .bool true, .slice (some ⟨b1, 0, none⟩) 1 1, .bool false, .bool true, .bool true, .bool true, .slice (some ⟨b1, 0, none⟩) 1 1, .slice bp l.length bc, undef, undef, undef, undef, undef, undef, undef, undef, undef, undef, undef, undef, undef], defers := [] } _ from ?_)
    refine wpAnyH_take (i := 15) (v := .slice bp l.length bc) rfl (by kernel_rfl) (by kernel_rfl) (by kernel_rfl) (fun _ _ _ h => h) (Or.inl ⟨by rfl, by intro w _; go_simp⟩) hHeld ?_
    refine (show wpAnyH _ _ _ _ _ _ _ { tmps := #[.agg #[.int .u64 (wd c 0), .int .u64 (wd c 1), .int .u64 (wd c 2), .int .u64 (wd c 3)], .slice bp l.length bc, .pointer (some ⟨W.heap.size, 0, none⟩), undef, .bool false, .bool true, .slice (some ⟨b1, 0, none⟩) 1 1, .bool true, .agg #[.int .u64 (wd c 0), .int .u64 (wd c 1), .int .u64 (wd c 2), .int .u64 (wd c 3)], .agg #[.int .i64 3, .int .u64 (wd c 0), .int .u64 (wd c 1), .int .u64 (wd c 2), .int .u64 (wd c 3), .int .i64 0, .int .i64 0, .int .i64 0, .int .i64 0], .slice (some ⟨b1, 0, none⟩) 1 1, .bool true, .bool true, .slice (some ⟨b1, 0, none⟩) 1 1, .int .i64 0, .bool true, .bool true, .bool true, .slice (some ⟨b1, 0, none⟩) 1 1, .bool false, .bool true, .bool true, .bool true, .slice (some ⟨b1, 0, none⟩) 1 1, .slice bp l.length bc, undef, .slice bp l.length bc, undef, undef, undef, undef, undef, undef, undef, undef, undef, undef, undef], defers := [] } _ from ?_)
    refine wpAnyH_take (i := 16) (v := .int .i64 (l.length : Int)) rfl (by kernel_rfl) (by kernel_rfl) (by kernel_rfl) (fun _ _ _ h => h) (Or.inl ⟨by rfl, by intro w _; go_simp⟩) hHeld ?_
    refine (show wpAnyH _ _ _ _ _ _ _ { tmps := #[.agg #[.int .u64 (wd c 0), .int .u64 (wd c 1), .int .u64 (wd c 2), .int .u64 (wd c 3)], .slice bp l.length bc, .pointer (some ⟨W.heap.size, 0, none⟩), undef, .bool false, .bool true, .slice (some ⟨b1, 0, none⟩) 1 1, .bool true, .agg #[.int .u64 (wd c 0), .int .u64 (wd c 1), .int .u64 (wd c 2), .int .u64 (wd c 3)], .agg #[.int .i64 3, .int .u64 (wd c 0), .int .u64 (wd c 1), .int .u64 (wd c 2), .int .u64 (wd c 3), .int .i64 0, .int .i64 0, .int .i64 0, .int .i64 0], .slice (some ⟨b1, 0, none⟩) 1 1, .bool true, .bool true, .slice (some ⟨b1, 0, none⟩) 1 1, .int .i64 0, .bool true, .bool true, .bool true, .slice (some ⟨b1, 0, none⟩) 1 1, .bool false, .bool true, .bool true, .bool true, .slice (some ⟨b1, 0, none⟩) 1 1, .slice bp l.length bc, undef, .slice bp l.length bc, .int .i64 (l.length : Int), undef, undef, undef, undef, undef, undef, undef, undef, undef, undef], defers := [] } _ from ?_)
    refine wpAnyH_take (i := 17) (v := .bool false) rfl (by kernel_rfl) (by kernel_rfl) (by kernel_rfl) (fun _ _ _ h => h) (Or.inl ⟨by rfl, by intro w _; go_simp⟩) hHeld ?_
    refine (show wpAnyH _ _ _ _ _ _ _ { tmps := #[.agg #[.int .u64 (wd c 0), .int .u64 (wd c 1), .int .u64 (wd c 2), .int .u64 (wd c 3)], .slice bp l.length bc, .pointer (some ⟨W.heap.size, 0, none⟩), undef, .bool false, .bool true, .slice (some ⟨b1, 0, none⟩) 1 1, .bool true, .agg #[.int .u64 (wd c 0), .int .u64 (wd c 1), .int .u64 (wd c 2), .int .u64 (wd c 3)], .agg #[.int .i64 3, .int .u64 (wd c 0), .int .u64 (wd c 1), .int .u64 (wd c 2), .int .u64 (wd c 3), .int .i64 0, .int .i64 0, .int .i64 0, .int .i64 0], .slice (some ⟨b1, 0, none⟩) 1 1, .bool true, .bool true, .slice (some ⟨b1, 0, none⟩) 1 1, .int .i64 0, .bool true, .bool true, .bool true, .slice (some ⟨b1, 0, none⟩) 1 1, .bool false, .bool true, .bool true, .bool true, .slice (some ⟨b1, 0, none⟩) 1 1, .slice bp l.length bc, undef, .slice bp l.length bc, .int .i64 (l.length : Int), .bool false, undef, undef, undef, undef, undef, undef, undef, undef, undef], defers := [] } _ from ?_)
    refine wpAnyH_ready (rs := [14]) (by kernel_rfl) (by simp) ?_
    refine AllReadyH.cons rfl (fun K hK => ?_) AllReadyH.nil
    go_simp
    go_wp2_with (go_at_call 21; refine (HM.out _ hcur).mono ?_; rintro e wn ⟨rfl, hbn⟩; have hcur := hcur.trans (hbn.mono hcur.size); clear hbn)
    refine hK.out _ _ trivial (fun hHeld => ?_)
    clear hK K
    refine (show wpAnyH _ _ _ _ _ _ _ { tmps := #[.agg #[.int .u64 (wd c 0), .int .u64 (wd c 1), .int .u64 (wd c 2), .int .u64 (wd c 3)], .slice bp l.length bc, .pointer (some ⟨W.heap.size, 0, none⟩), undef, .bool false, .bool true, .slice (some ⟨b1, 0, none⟩) 1 1, .bool true, .agg #[.int .u64 (wd c 0), .int .u64 (wd c 1), .int .u64 (wd c 2), .int .u64 (wd c 3)], .agg #[.int .i64 3, .int .u64 (wd c 0), .int .u64 (wd c 1), .int .u64 (wd c 2), .int .u64 (wd c 3), .int .i64 0, .int .i64 0, .int .i64 0, .int .i64 0], .slice (some ⟨b1, 0, none⟩) 1 1, .bool true, .bool true, .slice (some ⟨b1, 0, none⟩) 1 1, .int .i64 0, .bool true, .bool true, .bool true, .slice (some ⟨b1, 0, none⟩) 1 1, .bool false, .bool true, .bool true, .bool true, .slice (some ⟨b1, 0, none⟩) 1 1, .slice bp l.length bc, .bool false, .slice bp l.length bc, .int .i64 (l.length : Int), .bool false, undef, undef, undef, undef, undef, undef, undef, undef, undef], defers := [] } _ from ?_)
    refine wpAnyH_take (i := 18) (v := .bool false) rfl (by kernel_rfl) (by kernel_rfl) (by kernel_rfl) (fun _ _ _ h => h) (Or.inl ⟨by rfl, by intro w _; go_simp⟩) hHeld ?_
    refine (show wpAnyH _ _ _ _ _ _ _ { tmps := #[.agg #[.int .u64 (wd c 0), .int .u64 (wd c 1), .int .u64 (wd c 2), .int .u64 (wd c 3)], .slice bp l.length bc, .pointer (some ⟨W.heap.size, 0, none⟩), undef, .bool false, .bool true, .slice (some ⟨b1, 0, none⟩) 1 1, .bool true, .agg #[.int .u64 (wd c 0), .int .u64 (wd c 1), .int .u64 (wd c 2), .int .u64 (wd c 3)], .agg #[.int .i64 3, .int .u64 (wd c 0), .int .u64 (wd c 1), .int .u64 (wd c 2), .int .u64 (wd c 3), .int .i64 0, .int .i64 0, .int .i64 0, .int .i64 0], .slice (some ⟨b1, 0, none⟩) 1 1, .bool true, .bool true, .slice (some ⟨b1, 0, none⟩) 1 1, .int .i64 0, .bool true, .bool true, .bool true, .slice (some ⟨b1, 0, none⟩) 1 1, .bool false, .bool true, .bool true, .bool true, .slice (some ⟨b1, 0, none⟩) 1 1, .slice bp l.length bc, .bool false, .slice bp l.length bc, .int .i64 (l.length : Int), .bool false, .bool false, undef, undef, undef, undef, undef, undef, undef, undef], defers := [] } _ from ?_)
    refine wpAnyH_take (i := 19) (v := undef) rfl (by kernel_rfl) (by kernel_rfl) (by kernel_rfl) (fun _ _ _ h => h) (Or.inr ⟨by rfl, rfl⟩) hHeld ?_
    refine (show wpAnyH _ _ _ _ _ _ _ { tmps := #[.agg #[.int .u64 (wd c 0), .int .u64 (wd c 1), .int .u64 (wd c 2), .int .u64 (wd c 3)], .slice bp l.length bc, .pointer (some ⟨W.heap.size, 0, none⟩), undef, .bool false, .bool true, .slice (some ⟨b1, 0, none⟩) 1 1, .bool true, .agg #[.int .u64 (wd c 0), .int .u64 (wd c 1), .int .u64 (wd c 2), .int .u64 (wd c 3)], .agg #[.int .i64 3, .int .u64 (wd c 0), .int .u64 (wd c 1), .int .u64 (wd c 2), .int .u64 (wd c 3), .int .i64 0, .int .i64 0, .int .i64 0, .int .i64 0], .slice (some ⟨b1, 0, none⟩) 1 1, .bool true, .bool true, .slice (some ⟨b1, 0, none⟩) 1 1, .int .i64 0, .bool true, .bool true, .bool true, .slice (some ⟨b1, 0, none⟩) 1 1, .bool false, .bool true, .bool true, .bool true, .slice (some ⟨b1, 0, none⟩) 1 1, .slice bp l.length bc, .bool false, .slice bp l.length bc, .int .i64 (l.length : Int), .bool false, .bool false, undef, undef, undef, undef, undef, undef, undef, undef], defers := [] } _ from ?_)
    refine wpAnyH_take (i := 20) (v := undef) rfl (by kernel_rfl) (by kernel_rfl) (by kernel_rfl) (fun _ _ _ h => h) (Or.inr ⟨by rfl, rfl⟩) hHeld ?_
    refine (show wpAnyH _ _ _ _ _ _ _ { tmps := #[.agg #[.int .u64 (wd c 0), .int .u64 (wd c 1), .int .u64 (wd c 2), .int .u64 (wd c 3)], .slice bp l.length bc, .pointer (some ⟨W.heap.size, 0, none⟩), undef, .bool false, .bool true, .slice (some ⟨b1, 0, none⟩) 1 1, .bool true, .agg #[.int .u64 (wd c 0), .int .u64 (wd c 1), .int .u64 (wd c 2), .int .u64 (wd c 3)], .agg #[.int .i64 3, .int .u64 (wd c 0), .int .u64 (wd c 1), .int .u64 (wd c 2), .int .u64 (wd c 3), .int .i64 0, .int .i64 0, .int .i64 0, .int .i64 0], .slice (some ⟨b1, 0, none⟩) 1 1, .bool true, .bool true, .slice (some ⟨b1, 0, none⟩) 1 1, .int .i64 0, .bool true, .bool true, .bool true, .slice (some ⟨b1, 0, none⟩) 1 1, .bool false, .bool true, .bool true, .bool true, .slice (some ⟨b1, 0, none⟩) 1 1, .slice bp l.length bc, .bool false, .slice bp l.length bc, .int .i64 (l.length : Int), .bool false, .bool false, undef, undef, undef, undef, undef, undef, undef, undef], defers := [] } _ from ?_)
    refine wpAnyH_take (i := 21) (v := undef) rfl (by kernel_rfl) (by kernel_rfl) (by kernel_rfl) (fun _ _ _ h => h) (Or.inr ⟨by rfl, rfl⟩) hHeld ?_
    refine (show wpAnyH _ _ _ _ _ _ _ { tmps := #[.agg #[.int .u64 (wd c 0), .int .u64 (wd c 1), .int .u64 (wd c 2), .int .u64 (wd c 3)], .slice bp l.length bc, .pointer (some ⟨W.heap.size, 0, none⟩), undef, .bool false, .bool true, .slice (some ⟨b1, 0, none⟩) 1 1, .bool true, .agg #[.int .u64 (wd c 0), .int .u64 (wd c 1), .int .u64 (wd c 2), .int .u64 (wd c 3)], .agg #[.int .i64 3, .int .u64 (wd c 0), .int .u64 (wd c 1), .int .u64 (wd c 2), .int .u64 (wd c 3), .int .i64 0, .int .i64 0, .int .i64 0, .int .i64 0], .slice (some ⟨b1, 0, none⟩) 1 1, .bool true, .bool true, .slice (some ⟨b1, 0, none⟩) 1 1, .int .i64 0, .bool true, .bool true, .bool true, .slice (some ⟨b1, 0, none⟩) 1 1, .bool false, .bool true, .bool true, .bool true, .slice (some ⟨b1, 0, none⟩) 1 1, .slice bp l.length bc, .bool false, .slice bp l.length bc, .int .i64 (l.length : Int), .bool false, .bool false, undef, undef, undef, undef, undef, undef, undef, undef], defers := [] } _ from ?_)
    refine wpAnyH_take (i := 22) (v := undef) rfl (by kernel_rfl) (by kernel_rfl) (by kernel_rfl) (fun _ _ _ h => h) (Or.inr ⟨by rfl, rfl⟩) hHeld ?_
    refine (show wpAnyH _ _ _ _ _ _ _ { tmps := #[.agg #[.int .u64 (wd c 0), .int .u64 (wd c 1), .int .u64 (wd c 2), .int .u64 (wd c 3)], .slice bp l.length bc, .pointer (some ⟨W.heap.size, 0, none⟩), undef, .bool false, .bool true, .slice (some ⟨b1, 0, none⟩) 1 1, .bool true, .agg #[.int .u64 (wd c 0), .int .u64 (wd c 1), .int .u64 (wd c 2), .int .u64 (wd c 3)], .agg #[.int .i64 3, .int .u64 (wd c 0), .int .u64 (wd c 1), .int .u64 (wd c 2), .int .u64 (wd c 3), .int .i64 0, .int .i64 0, .int .i64 0, .int .i64 0], .slice (some ⟨b1, 0, none⟩) 1 1, .bool true, .bool true, .slice (some ⟨b1, 0, none⟩) 1 1, .int .i64 0, .bool true, .bool true, .bool true, .slice (some ⟨b1, 0, none⟩) 1 1, .bool false, .bool true, .bool true, .bool true, .slice (some ⟨b1, 0, none⟩) 1 1, .slice bp l.length bc, .bool false, .slice bp l.length bc, .int .i64 (l.length : Int), .bool false, .bool false, undef, undef, undef, undef, undef, undef, undef, undef], defers := [] } _ from ?_)
    refine wpAnyH_ready (rs := [23]) (by kernel_rfl) (by simp) ?_
    refine AllReadyH.cons rfl (fun K hK => ?_) AllReadyH.nil
    rw [if_neg (Bool.eq_false_iff.1 (show Region.wanted _ _ = false by rfl))]
    refine hK.out _ _ trivial (fun hHeld => ?_)
    clear hK K
    refine (show wpAnyH _ _ _ _ _ _ _ { tmps := #[.agg #[.int .u64 (wd c 0), .int .u64 (wd c 1), .int .u64 (wd c 2), .int .u64 (wd c 3)], .slice bp l.length bc, .pointer (some ⟨W.heap.size, 0, none⟩), undef, .bool false, .bool true, .slice (some ⟨b1, 0, none⟩) 1 1, .bool true, .agg #[.int .u64 (wd c 0), .int .u64 (wd c 1), .int .u64 (wd c 2), .int .u64 (wd c 3)], .agg #[.int .i64 3, .int .u64 (wd c 0), .int .u64 (wd c 1), .int .u64 (wd c 2), .int .u64 (wd c 3), .int .i64 0, .int .i64 0, .int .i64 0, .int .i64 0], .slice (some ⟨b1, 0, none⟩) 1 1, .bool true, .bool true, .slice (some ⟨b1, 0, none⟩) 1 1, .int .i64 0, .bool true, .bool true, .bool true, .slice (some ⟨b1, 0, none⟩) 1 1, .bool false, .bool true, .bool true, .bool true, .slice (some ⟨b1, 0, none⟩) 1 1, .slice bp l.length bc, .bool false, .slice bp l.length bc, .int .i64 (l.length : Int), .bool false, .bool false, undef, undef, undef, undef, undef, undef, undef, undef], defers := [] } _ from ?_)
    refine wpAnyH_take (i := 24) (v := .bool false) rfl (by kernel_rfl) (by kernel_rfl) (by kernel_rfl) (fun _ _ _ h => h) (Or.inl ⟨by rfl, by intro w _; go_simp⟩) hHeld ?_
    refine (show wpAnyH _ _ _ _ _ _ _ { tmps := #[.agg #[.int .u64 (wd c 0), .int .u64 (wd c 1), .int .u64 (wd c 2), .int .u64 (wd c 3)], .slice bp l.length bc, .pointer (some ⟨W.heap.size, 0, none⟩), undef, .bool false, .bool true, .slice (some ⟨b1, 0, none⟩) 1 1, .bool true, .agg #[.int .u64 (wd c 0), .int .u64 (wd c 1), .int .u64 (wd c 2), .int .u64 (wd c 3)], .agg #[.int .i64 3, .int .u64 (wd c 0), .int .u64 (wd c 1), .int .u64 (wd c 2), .int .u64 (wd c 3), .int .i64 0, .int .i64 0, .int .i64 0, .int .i64 0], .slice (some ⟨b1, 0, none⟩) 1 1, .bool true, .bool true, .slice (some ⟨b1, 0, none⟩) 1 1, .int .i64 0, .bool true, .bool true, .bool true, .slice (some ⟨b1, 0, none⟩) 1 1, .bool false, .bool true, .bool true, .bool true, .slice (some ⟨b1, 0, none⟩) 1 1, .slice bp l.length bc, .bool false, .slice bp l.length bc, .int .i64 (l.length : Int), .bool false, .bool false, undef, undef, undef, undef, undef, .bool false, undef, undef], defers := [] } _ from ?_)
    refine wpAnyH_take (i := 25) (v := .bool true) rfl (by kernel_rfl) (by kernel_rfl) (by kernel_rfl) (fun _ _ _ h => h) (Or.inl ⟨by rfl, by intro w _; go_simp⟩) hHeld ?_
    refine (show wpAnyH _ _ _ _ _ _ _ { tmps := #[.agg #[.int .u64 (wd c 0), .int .u64 (wd c 1), .int .u64 (wd c 2), .int .u64 (wd c 3)], .slice bp l.length bc, .pointer (some ⟨W.heap.size, 0, none⟩), undef, .bool false, .bool true, .slice (some ⟨b1, 0, none⟩) 1 1, .bool true, .agg #[.int .u64 (wd c 0), .int .u64 (wd c 1), .int .u64 (wd c 2), .int .u64 (wd c 3)], .agg #[.int .i64 3, .int .u64 (wd c 0), .int .u64 (wd c 1), .int .u64 (wd c 2), .int .u64 (wd c 3), .int .i64 0, .int .i64 0, .int .i64 0, .int .i64 0], .slice (some ⟨b1, 0, none⟩) 1 1, .bool true, .bool true, .slice (some ⟨b1, 0, none⟩) 1 1, .int .i64 0, .bool true, .bool true, .bool true, .slice (some ⟨b1, 0, none⟩) 1 1, .bool false, .bool true, .bool true, .bool true, .slice (some ⟨b1, 0, none⟩) 1 1, .slice bp l.length bc, .bool false, .slice bp l.length bc, .int .i64 (l.length : Int), .bool false, .bool false, undef, undef, undef, undef, undef, .bool false, .bool true, undef], defers := [] } _ from ?_)
    refine wpAnyH_take (i := 26) (v := .bool true) rfl (by kernel_rfl) (by kernel_rfl) (by kernel_rfl) (fun _ _ _ h => h) (Or.inl ⟨by rfl, by intro w _; go_simp⟩) hHeld ?_
    refine (show wpAnyH _ _ _ _ _ _ _ { tmps := #[.agg #[.int .u64 (wd c 0), .int .u64 (wd c 1), .int .u64 (wd c 2), .int .u64 (wd c 3)], .slice bp l.length bc, .pointer (some ⟨W.heap.size, 0, none⟩), undef, .bool false, .bool true, .slice (some ⟨b1, 0, none⟩) 1 1, .bool true, .agg #[.int .u64 (wd c 0), .int .u64 (wd c 1), .int .u64 (wd c 2), .int .u64 (wd c 3)], .agg #[.int .i64 3, .int .u64 (wd c 0), .int .u64 (wd c 1), .int .u64 (wd c 2), .int .u64 (wd c 3), .int .i64 0, .int .i64 0, .int .i64 0, .int .i64 0], .slice (some ⟨b1, 0, none⟩) 1 1, .bool true, .bool true, .slice (some ⟨b1, 0, none⟩) 1 1, .int .i64 0, .bool true, .bool true, .bool true, .slice (some ⟨b1, 0, none⟩) 1 1, .bool false, .bool true, .bool true, .bool true, .slice (some ⟨b1, 0, none⟩) 1 1, .slice bp l.length bc, .bool false, .slice bp l.length bc, .int .i64 (l.length : Int), .bool false, .bool false, undef, undef, undef, undef, undef, .bool false, .bool true, .bool true], defers := [] } _ from ?_)
    refine wpAnyH_take (i := 27) (v := .bool true) rfl (by kernel_rfl) (by kernel_rfl) (by kernel_rfl) (fun _ _ _ h => h) (Or.inl ⟨by rfl, by intro w _; go_simp⟩) hHeld ?_
    refine (show wpAnyH _ _ _ _ _ _ _ { tmps := #[.agg #[.int .u64 (wd c 0), .int .u64 (wd c 1), .int .u64 (wd c 2), .int .u64 (wd c 3)], .slice bp l.length bc, .pointer (some ⟨W.heap.size, 0, none⟩), undef, .bool true, .bool true, .slice (some ⟨b1, 0, none⟩) 1 1, .bool true, .agg #[.int .u64 (wd c 0), .int .u64 (wd c 1), .int .u64 (wd c 2), .int .u64 (wd c 3)], .agg #[.int .i64 3, .int .u64 (wd c 0), .int .u64 (wd c 1), .int .u64 (wd c 2), .int .u64 (wd c 3), .int .i64 0, .int .i64 0, .int .i64 0, .int .i64 0], .slice (some ⟨b1, 0, none⟩) 1 1, .bool true, .bool true, .slice (some ⟨b1, 0, none⟩) 1 1, .int .i64 0, .bool true, .bool true, .bool true, .slice (some ⟨b1, 0, none⟩) 1 1, .bool false, .bool true, .bool true, .bool true, .slice (some ⟨b1, 0, none⟩) 1 1, .slice bp l.length bc, .bool false, .slice bp l.length bc, .int .i64 (l.length : Int), .bool false, .bool false, undef, undef, undef, undef, undef, .bool false, .bool true, .bool true], defers := [] } _ from ?_)
    refine wpAnyH_done (by kernel_rfl) ?_ _
    go_wp2
    go_ret
    exact ⟨rfl, Hb2.out.trans (hcur.mono Hb2.out.size)⟩
end Go.Proofs.YtclfdffpcneeeaaGreatDoor
