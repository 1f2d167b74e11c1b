/-
  Texts of the proof, one behind another: Kr, En.
-/
import Derived.Test.YtgbbjobmcbdhdaaGreatDoorYdh
import Derived.Sort.CutIn
import Derived.Deep.CutRange
import Derived.Carry
import Derived.Test.YtgbbjobmcbdhdaaGreatDoorYah
set_option linter.unusedSimpArgs false
set_option linter.unusedVariables false
/-
  Walks: repetitions.
-/
namespace Go.Proofs.YtgbbjobmcbdhdaaGreatDoor
open Go.RowKit Go.Shelf
attribute [local go_sem] Oper.semAt_some

/-- a cut around a statement in a block. -/
theorem wpIn_cut_block {F : Fence} {rm : Nat} {P : Program} {s : Code} {id : Nat} {K : Act → World → Prop} {Q' : Exit → Act → World → Prop} {a : Act} {w : World} (R : Act → World → Prop)
    (rest : ∀ a' w', R a' w' → K a' w') (first : ∀ (K' : Act → World → Prop), (∀ a' w', R a' w' → K' a' w') → s.wpIn F rm P (Exit.inBlock id (Exit.then K' Q')) a w) : s.wpIn F rm P (Exit.inBlock id (Exit.then K Q')) a w := by
  refine wpIn_mono (first R (fun _ _ h => h)) ?_
  intro e a' w' hq
  cases e with
  | normal => exact rest _ _ hq
  | exit i =>
    by_cases h : i = id
    · subst h
      simp only [Exit.inBlock, if_true] at hq ⊢
      exact rest _ _ hq
    · simp only [Exit.inBlock, if_neg h] at hq ⊢
      exact hq
  | goto l => exact hq
  | ret => exact hq
  | panic ch => exact hq
  | outgrown => exact hq
/-- a set that one step leads back to itself is where further steps lead. -/
theorem imgN_stop {R : Nat → Nat → Prop} {S T : Nat → Prop} {k n : Nat} (hT : ∀ q, T q ↔ imgN R S k q) (hfix : ∀ q, img R T q ↔ T q) (hk : k ≤ n) (q : Nat) : T q ↔ imgN R S n q := by
  have h1 := imgN_fix hfix (n - k) q
  have h2 := imgN_congr (R := R) hT (n - k) q
  have h3 := imgN_add R S k (n - k) q
  rw [show k + (n - k) = n by omega] at h3
  exact h1.symm.trans (h2.trans h3)
/-- what the first loop leaves. -/
def Rel1 (mb : Nat) (xs : List Nd) (b : List Int) (t : Rx) (l : List (Nat × Nat)) (mn : Nat) (W1 : World) (v : Value) (wr : World) : Prop :=
  ∃ m, IsS wr v m ∧ Good m ∧ (∀ q, On m q ↔ imgN (sp b t) (On l) mn q) ∧ (∀ q, On m q → q ≤ b.length) ∧ W1.grownBy wr (some mb) ∧ MemoOk wr mb xs b

set_option maxRecDepth 100000 in
set_option maxHeartbeats 4000000 in
theorem rep_any (Bm mb : Nat) (xs : List Nd) (b : List Int) (xb xo xc : Nat) (bv : Value) (i : Nat) (n : Nd) (hX : OkX xs) (hi : xs[i]? = some n) (hk : n.k = 8) (hb : b.length ≤ 1048576) (hE : ∀ j, j < i → EndsC Bm mb xs b xb xo xc bv j) :
    RepC Bm mb xs b xb xo xc bv i n := by
  intro v l W hM htab hv hl hlb
  obtain ⟨sp0, sc, rfl⟩ := hv.shape
  refine (callsIn_wide (n := 6)).1 ?_
  have hfn : ∀ k, Fence.wide.fn k := fun _ => trivial
  obtain ⟨k, c, nl, nr, mn, mx⟩ := n
  obtain rfl : k = 8 := hk
  have hbd := hX.bnd i _ hi rfl
  dsimp only at hbd
  have hop := hX.one hi (.inr rfl)
  dsimp only at hop
  obtain ⟨mnN, rfl⟩ : ∃ k : Nat, mn = (k : Int) := ⟨mn.toNat, by omega⟩
  have hbW : Below W.heap.size W (W.alloc (.cells #[.int .i64 8, .int .u64 (wd c 0), .int .u64 (wd c 1), .int .u64 (wd c 2), .int .u64 (wd c 3), .int .i64 nl, .int .i64 nr, .int .i64 (mnN : Int), .int .i64 mx] 45)) := (Below.refl _ W).alloc (Nat.le_refl _) _
  have hM1 := hM.grows hbW
  have hT1 := tab_step htab hM.memo (grownBy_of_below hbW _)
  have hnB := Blk.new W #[.int .i64 8, .int .u64 (wd c 0), .int .u64 (wd c 1), .int .u64 (wd c 2), .int .u64 (wd c 3), .int .i64 nl, .int .i64 nr, .int .i64 (mnN : Int), .int .i64 mx] 45
  have HE : Hid (∀ wr v' l', (W.alloc (.cells #[.int .i64 8, .int .u64 (wd c 0), .int .u64 (wd c 1), .int .u64 (wd c 2), .int .u64 (wd c 3), .int .i64 nl, .int .i64 nr, .int .i64 (mnN : Int), .int .i64 mx] 45)).grownBy wr (some mb) → MemoOk wr mb xs b → IsS wr v' l' → Good l' → (∀ q, On l' q → q ≤ b.length) → Calls Tryz.prog 40 #[.pointer (some ⟨Bm, 0, none⟩), .int .i64 nl, v'] wr fun e W' =>
      (∃ v' m, e = .returned v' ∧ IsS W' v' m ∧ SetOf b (tr xs nl.toNat) l' m) ∧ wr.grownBy W' (some mb) ∧ MemoOk W' mb xs b) := Lib.hid fun wr v' l' hg hm hs hgd hq => by
    have h := hE nl.toNat (by omega) v' l' wr (hM1.step hg hm) (tab_step hT1 hM1.memo hg) hs hgd hq
    rw [show ((nl.toNat : Nat) : Int) = nl by omega] at h
    exact h
  have hS1 := hv.grows hbW
  have HM := Lib.hid hM1
  have HT := Lib.hid hT1
  have HW := Lib.hid hbW
  have HX := Lib.hid hX
  have HI := Lib.hid hi
  have HL := Lib.hid hl
  have HLb := Lib.hid hlb
  have HS := Lib.hid hS1
  have HN := Lib.hid hnB
  clear hM htab hv hX hi hE hM1 hT1 hbW hS1 hl hlb
  have n5 := hnB.cell 5 rfl
  have n7 := hnB.cell 7 rfl
  have n8 := hnB.cell 8 rfl
  clear hnB
  refine callsIn_of_wp_marks Tryz.func89 rfl trivial ?_ rfl
  simp only [Tryz.ntmps89, List.size_toArray, List.length_cons, List.length_nil, Nat.reduceAdd, Nat.reduceSub, Array.replicate_succ, Array.replicate_zero, List.push_toArray, List.append_toArray, List.nil_append, List.cons_append]
  gi_wp2
  obtain ⟨W1, hW1⟩ : ∃ W1, W1 = W.alloc (.cells #[.int .i64 8, .int .u64 (wd c 0), .int .u64 (wd c 1), .int .u64 (wd c 2), .int .u64 (wd c 3), .int .i64 nl, .int .i64 nr, .int .i64 (mnN : Int), .int .i64 mx] 45) := ⟨_, rfl⟩
  rw [← hW1] at HE HM HT HW HS HN n5 n7 n8 ⊢
  have hszW := HW.out.size
  have HW1 := Lib.hid hW1
  clear hW1
  refine wpIn_cut_block (fun a' wr => ∃ u2 u7 u17 u18 u19 u20 u21 u22 u23 u24 u25 u26 u27 u28 : Value, Rel1 mb xs b (tr xs nl.toNat) l mnN W1 u2 wr ∧ a' = { tmps := #[.pointer (some ⟨Bm, 0, none⟩), valN ⟨8, c, nl, nr, (mnN : Int), mx⟩, u2, undef, .pointer (some ⟨W.heap.size, 0, none⟩), undef, .slice none 0 0, u7, undef, undef, undef, undef, undef, undef, undef, .pointer (some ⟨W.heap.size, 7, none⟩), .int .i64 (mnN : Int), u17, u18, u19, u20, u21, u22, u23, u24, u25, u26, u27, u28, undef, undef, undef, undef, undef, undef, undef, undef, undef, undef, undef, undef, undef, undef, undef, undef, undef, undef, undef, undef, undef, undef, undef, undef, undef, undef, undef, undef, undef, undef, undef, undef, undef, undef, undef, undef, undef, undef, undef, undef, undef, undef, undef, undef, undef, undef, undef, undef], defers := [] }) ?rest ?first
  case first =>
    intro K' hR'
    have HR := Lib.hid hR'
    clear hR'
    gi_loopw [2, 17] (fun v' q wr => ∃ (k : Nat) (m : List (Nat × Nat)), k ≤ mnN ∧ q = .int .i64 k ∧ IsS wr v' m ∧ Good m ∧ (∀ q, On m q ↔ imgN (sp b (tr xs nl.toNat)) (On l) k q) ∧ (∀ q, On m q → q ≤ b.length) ∧ W1.grownBy wr (some mb) ∧ MemoOk wr mb xs b) (fun _ q _ => mnN - (intOf q).toNat)
    case atStart => exact ⟨0, l, Nat.zero_le _, rfl, HS.out, HL.out, fun q => Iff.rfl, HLb.out, grownBy_of_below (Below.refl _ _) _, HM.out.memo⟩
    case round =>
      obtain ⟨k, m, hk, rfl, hvm, hgm, hmq, hmb, hg, hmo⟩ := hrel
      obtain ⟨p1, c1, rfl⟩ := hvm.shape
      by_cases hlt : k < mnN
      · have t1 : decide ((k : Int) < (mnN : Int)) = true := by simp; omega
        have n5' := keptM hg HM.out.memo _ _ n5
        have HC := Lib.hid (HE.out _ _ _ hg hmo hvm hgm hmb)
        have hml := len_pts hgm
        have hml2 := pts_len hgm hmb
        have HVm := Lib.hid hvm
        have HGm := Lib.hid hgm
        have HMq := Lib.hid hmq
        have HMo := Lib.hid hmo
        have HMb := Lib.hid hmb
        have HG := Lib.hid hg
        clear hvm hgm hmq hmb hg hmo
        gi_wp2_with (first
          | (gi_at_call 40; refine (callsIn_wide.2 HC.out).mono ?_; rintro e W3 ⟨⟨v3, m3, rfl, hv3, hs3⟩, hg3, hm3⟩; obtain ⟨p3, c3, rfl⟩ := hv3.shape; have HV3 := Lib.hid hv3; have HS3 := Lib.hid hs3; have HG3 := Lib.hid hg3; have HM3 := Lib.hid hm3; have hl3 := len_pts hs3.good; have hl4 := pts_len hs3.good hs3.le; clear hv3 hs3 hg3 hm3)
          | (gi_at_call 109; refine (callsIn_wide.2 (equalS_any _ _ m3 m W3 HV3.out (HVm.out.kept (keptM HG3.out HMo.out)) (by omega) (by omega))).mono ?_; rintro e W4 ⟨rfl, hb4⟩; obtain ⟨q, hq⟩ : ∃ q, decide (m3 = m) = q := ⟨_, rfl⟩; rw [hq]; have HQ := Lib.hid hq; clear hq))
        · have hqt : q = true := by assumption
          have hmm : m3 = m := of_decide_eq_true (HQ.out.trans hqt)
          have hfix : ∀ p, img (sp b (tr xs nl.toNat)) (On m) p ↔ On m p := fun p => by
            have := HS3.out.2 p
            rw [hmm] at this
            exact this.symm
          exact HR.out _ _ ⟨_, _, _, _, _, _, _, _, _, _, _, _, _, _, ⟨m, (HVm.out.kept (keptM HG3.out HMo.out)).grows hb4, HGm.out, fun p => imgN_stop HMq.out hfix (by omega) p, HMb.out, (HG.out.trans HG3.out).trans (grownBy_of_below hb4 _), HM3.out.grows hb4⟩, rfl⟩
        · exact ⟨⟨k + 1, m3, by omega, by go_num, HV3.out.grows hb4, HS3.out.good, fun p => (HS3.out.2 p).trans (img_congr HMq.out p), HS3.out.le, (HG.out.trans HG3.out).trans (grownBy_of_below hb4 _), HM3.out.grows hb4⟩, by simp [intOf]; omega⟩
      · obtain rfl : k = mnN := by omega
        have t1 : decide ((k : Int) < (k : Int)) = false := by simp
        have HV := Lib.hid hvm
        have HG := Lib.hid hg
        have HMo := Lib.hid hmo
        clear hvm hg hmo
        gi_wp2
        exact HR.out _ _ ⟨_, _, _, _, _, _, _, _, _, _, _, _, _, _, ⟨m, HV.out, hgm, hmq, hmb, HG.out, HMo.out⟩, rfl⟩
  case rest =>
    rintro a' wr ⟨u2, u7, u17, u18, u19, u20, u21, u22, u23, u24, u25, u26, u27, u28, ⟨m, hvm, hgm, hmq, hmb, hg, hmo⟩, rfl⟩
    obtain ⟨p1, c1, rfl⟩ := hvm.shape
    have hmm := @run_makeMap Tryz.prog
    have n7' := keptM hg HM.out.memo _ _ n7
    have n7'' : ∀ o1 o2, ((wr.alloc o1).alloc o2).cell? ⟨W.heap.size, 7, none⟩ = some (.int .i64 (mnN : Int)) := fun _ _ => cell_al (cell_al n7')
    have HVm := Lib.hid hvm
    have HGm := Lib.hid hgm
    have HMq := Lib.hid hmq
    have HMb := Lib.hid hmb
    have HG := Lib.hid hg
    have HMo := Lib.hid hmo
    clear hvm hgm hmq hmb hg hmo n7' n5 n7 n8
    gi_wp2
    have hgm0 : wr.grownBy ((wr.alloc (.map #[] 0)).alloc (.cells #[.map (some wr.heap.size)] 135)) (some mb) := grownBy_of_below (((Below.refl _ wr).alloc (Nat.le_refl _) _).alloc (by simp) _) _
    have hkm0 : KeysC ((wr.alloc (.map #[] 0)).alloc (.cells #[.map (some wr.heap.size)] 135)) wr.heap.size [] := (keysC_made wr).block (Below.heap_alloc _ _ _ (by simp))
    have hbm0 : Blk ((wr.alloc (.map #[] 0)).alloc (.cells #[.map (some wr.heap.size)] 135)) (wr.heap.size + 1) #[.map (some wr.heap.size)] 135 := by
      have h := Blk.new (wr.alloc (.map #[] 0)) #[.map (some wr.heap.size)] 135
      rw [World.size_alloc] at h
      exact h
    have hmm0 : MemoOk ((wr.alloc (.map #[] 0)).alloc (.cells #[.map (some wr.heap.size)] 135)) mb xs b := HMo.out.grows (((Below.refl _ wr).alloc (Nat.le_refl _) _).alloc (by simp) _)
    have hvm0 := HVm.out.grows (((Below.refl _ wr).alloc (Nat.le_refl _) (.map #[] 0)).alloc (by simp) (.cells #[.map (some wr.heap.size)] 135))
    generalize hwm : ((wr.alloc (.map #[] 0)).alloc (.cells #[.map (some wr.heap.size)] 135)) = wm at hgm0 hkm0 hbm0 hmm0 hvm0 n7'' ⊢
    clear hwm n7'' hmm
    obtain ⟨mr, hmr⟩ : ∃ mr, mr = wr.heap.size := ⟨_, rfl⟩
    obtain ⟨B8, hB8⟩ : ∃ B8, B8 = wr.heap.size + 1 := ⟨_, rfl⟩
    rw [← hB8] at hbm0 ⊢
    rw [← hmr] at hkm0 hbm0 ⊢
    have hmrB : mr < B8 := by omega
    have hWmr : W1.heap.size ≤ mr := by have := HG.out.size; omega
    have hwrmr : wr.heap.size ≤ mr := by omega
    have HN5 := HN.out.cell 5 rfl
    have HN8 := HN.out.cell 8 rfl
    have HN5 := Lib.hid (fun wx (h : wr.grownBy wx (some mb)) => keptM (HG.out.trans h) HM.out.memo _ _ HN5)
    have HN8 := Lib.hid (fun wx (h : wr.grownBy wx (some mb)) => keptM (HG.out.trans h) HM.out.memo _ _ HN8)
    have hmbm : mb ≠ mr := by have := HM.out.memo.lt; omega
    clear hmr hB8
    have HGM := Lib.hid hgm0
    have HKM := Lib.hid hkm0
    have HBM := Lib.hid hbm0
    have HMM := Lib.hid hmm0
    have HVM := Lib.hid hvm0
    clear hgm0 hkm0 hbm0 hmm0 hvm0
    refine wpIn_cut_block (fun a' wx => ∃ (u2 u9 u10 u11 u32 u33 u34 u35 u36 u37 u38 u39 u40 u41 u42 u43 u44 u45 u46 u47 u48 u49 u50 u51 u52 u53 u54 u55 u56 u57 u58 u59 u60 u61 : Value) (ds : List Deferred), Rel3 mb xs b (tr xs nl.toNat) l mnN mx wr B8 mr ds wx ∧ a' = { tmps := #[.pointer (some ⟨Bm, 0, none⟩), valN ⟨8, c, nl, nr, (mnN : Int), mx⟩, u2, undef, .pointer (some ⟨W.heap.size, 0, none⟩), undef, .slice none 0 0, u7, .pointer (some ⟨B8, 0, none⟩), u9, u10, u11, undef, undef, undef, .pointer (some ⟨W.heap.size, 7, none⟩), .int .i64 (mnN : Int), u17, u18, u19, u20, u21, u22, u23, u24, u25, u26, u27, u28, .map (some mr), .pointer (some ⟨W.heap.size, 7, none⟩), .int .i64 (mnN : Int), u32, u33, u34, u35, u36, u37, u38, u39, u40, u41, u42, u43, u44, u45, u46, u47, u48, u49, u50, u51, u52, u53, u54, u55, u56, u57, u58, u59, u60, u61, undef, undef, undef, undef, undef, undef, undef, undef, undef, undef, undef, undef, undef, undef, undef], defers := ds }) ?rest2 ?first2
    case first2 =>
      intro K' hR'
      have HR := Lib.hid hR'
      clear hR'
      refine wpIn_loop (fun a' wx => ∃ (u2 u9 u10 u11 u32 u33 u34 u35 u36 u37 u38 u39 u40 u41 u42 u43 u44 u45 u46 u47 u48 u49 u50 u51 u52 u53 u54 u55 u56 u57 u58 u59 u60 u61 : Value) (ds : List Deferred), Rel2 mb xs b (tr xs nl.toNat) l mnN mx wr B8 mr u2 u9 ds wx ∧ a' = { tmps := #[.pointer (some ⟨Bm, 0, none⟩), valN ⟨8, c, nl, nr, (mnN : Int), mx⟩, u2, undef, .pointer (some ⟨W.heap.size, 0, none⟩), undef, .slice none 0 0, u7, .pointer (some ⟨B8, 0, none⟩), u9, u10, u11, undef, undef, undef, .pointer (some ⟨W.heap.size, 7, none⟩), .int .i64 (mnN : Int), u17, u18, u19, u20, u21, u22, u23, u24, u25, u26, u27, u28, .map (some mr), .pointer (some ⟨W.heap.size, 7, none⟩), .int .i64 (mnN : Int), u32, u33, u34, u35, u36, u37, u38, u39, u40, u41, u42, u43, u44, u45, u46, u47, u48, u49, u50, u51, u52, u53, u54, u55, u56, u57, u58, u59, u60, u61, undef, undef, undef, undef, undef, undef, undef, undef, undef, undef, undef, undef, undef, undef, undef], defers := ds }) (fun a' _ => mnN + b.length + 2 - (intOf (a'.tmps.getD 9 undef)).toNat) ?start2 ?round2
      case start2 =>
        refine ⟨_, _, _, _, _, _, _, _, _, _, _, _, _, _, _, _, _, _, _, _, _, _, _, _, _, _, _, _, _, _, _, _, _, _, [], ⟨0, m, [], [], Srch.start HGm.out HMb.out HMq.out, ?_, rfl, HVM.out, HBM.out, HKM.out, rfl, MarksOk.nil _ _, HGM.out, HMM.out⟩, rfl⟩
        omega
      case round2 =>
        rintro a' wx ⟨u2, u9, u10, u11, u32, u33, u34, u35, u36, u37, u38, u39, u40, u41, u42, u43, u44, u45, u46, u47, u48, u49, u50, u51, u52, u53, u54, u55, u56, u57, u58, u59, u60, u61, ds, ⟨cn, A, ks, Ds, hS, hcm, rfl, hvA, hB8, hKC, rfl, hMk, hgx, hmx⟩, rfl⟩
        obtain ⟨pA, cA, rfl⟩ := hvA.shape
        dsimp only
        have hcl := nodup_len hS.nodup hS.kle
        have hcn := hS.cnt
        have hBlt := hB8.lt
        have hmlt := hKC.lt
        have hal := len_pts hS.good
        have hal2 := pts_len hS.good hS.le
        have HS := Lib.hid hS
        have HVA := Lib.hid hvA
        have HB := Lib.hid hB8
        have HKC := Lib.hid hKC
        have HMk := Lib.hid hMk
        have HGx := Lib.hid hgx
        have HMx := Lib.hid hmx
        clear hS hvA hB8 hKC hMk hgx hmx
        gi_wp2_with (gi_at_call 61; refine (positions_in _ pA _ cA _).mono ?_; rintro e w' ⟨rfl, rfl⟩)
        have hb2 : Below wx.heap.size wx ((wx.alloc (.cells #[.slice none 0 0] 62)).alloc (.cells #[.slice pA A.length cA] 62)) := ((Below.refl _ wx).alloc (Nat.le_refl _) _).alloc (by simp) _
        have hE2 : Boxed ((wx.alloc (.cells #[.slice none 0 0] 62)).alloc (.cells #[.slice pA A.length cA] 62)) wx.heap.size 62 (.slice none 0 0) := ((Blk.new wx _ _).alloc _).is
        have hN2 : Blk ((wx.alloc (.cells #[.slice none 0 0] 62)).alloc (.cells #[.slice pA A.length cA] 62)) (wx.heap.size + 1) #[.slice pA A.length cA] 62 := Blk.alloc1 wx _ _ _ _ _
        have hsz2 : ((wx.alloc (.cells #[.slice none 0 0] 62)).alloc (.cells #[.slice pA A.length cA] 62)).heap.size = wx.heap.size + 2 := by simp
        generalize ((wx.alloc (.cells #[.slice none 0 0] 62)).alloc (.cells #[.slice pA A.length cA] 62)) = w2 at hb2 hE2 hN2 hsz2 ⊢
        have hrw2 : rowOf w2 wx.heap.size = none := by unfold rowOf; rw [hE2.cell]; rfl
        have hread : ∀ W', KpR wx.heap.size (fun _ => False) w2 W' → IsS W' (.slice pA A.length cA) A := fun W' hk => HVA.out.kept fun a u ha => by
          have hlt := lt_of_cell ha
          exact hk.cellq ((hb2.cell hlt).trans ha) (by omega) (fun h => h) (by rw [hrw2]; simp)
        have hlow : ∀ r, rowOf w2 wx.heap.size = some r → r < w2.heap.size := fun r e => by rw [hrw2] at e; cases e
        have hends := good_ends HS.out.good HS.out.le
        have hg2 : wx.grownBy w2 (some mr) := grownBy_of_below hb2 _
        have hk2 : KeysC w2 mr (ks ++ frP ks ([] : List (Pm b.length))) := by
          rw [show frP ks ([] : List (Pm b.length)) = [] from rfl, List.append_nil]
          exact HKC.out.block (hb2.block mr hmlt)
        have Hrd := Lib.hid hread
        have Hlw := Lib.hid hlow
        have Hen := Lib.hid hends
        have HG2 := Lib.hid hg2
        have HK2 := Lib.hid hk2
        have HE2 := Lib.hid hE2
        have HN2 := Lib.hid hN2
        have Hb2 := Lib.hid hb2
        have Hs2 := Lib.hid hsz2
        clear hread hlow hends hg2 hk2 hE2 hN2 hb2 hsz2 hrw2
        refine wpIn_rangeFunc_ownG rfl (by decide) (gf := 91) (lb := #[.pointer (some ⟨wx.heap.size + 1, 0, none⟩)]) rfl trivial (enters_of Tryz.func91 (by kernel_rfl) rfl)
          (positions_stopsM b.length 5 (by decide) (wx.heap.size + 1) wx.heap.size (fun _ => False) w2 _ A HN2.out Hrd.out (by have := Hs2.out; omega) (fun _ h => h.elim) Hlw.out (by omega) (fun s hs => ⟨(Hen.out s hs).1, by have := (Hen.out s hs).2; omega⟩) (fun s hs => (Hen.out s hs).2)) KpR.trans (kpR_b (by have := Hs2.out; omega)) (Below.refl _ _) (fun _ => rfl)
          (fun pre W' => (∃ v, Boxed W' wx.heap.size 62 v ∧ W'.ownsRow wx.heap.size 66 2 v (ofPts (frP ks pre)).length ((ofPts (frP ks pre)).flatMap encS) ∧ True) ∧ KeysC W' mr (ks ++ frP ks pre) ∧ wx.grownBy W' (some mr))
          (fun _ _ _ => False)
          (OwnFrom.and (Own.from (holdsRow_own wx.heap.size wx.heap.size 62 66 2 (fun (pre : List (Pm b.length)) => (ofPts (frP ks pre)).length) (fun pre => (ofPts (frP ks pre)).flatMap encS) (fun _ _ => True)) _) (OwnFrom.and (ownFrom_keys (fun pre => ks ++ frP ks pre) (by have := Hs2.out; omega)) (ownFrom_grown (by have := Hs2.out; omega))))
          (fun _ _ _ _ _ hs _ _ => hs)
          ⟨⟨_, HE2.out, World.ownsRow_nil _ _ _ _, trivial⟩, HK2.out, HG2.out⟩
          (fun y => { tmps := #[.pointer (some ⟨Bm, 0, none⟩), valN ⟨8, c, nl, nr, (mnN : Int), mx⟩, .slice pA A.length cA, undef, .pointer (some ⟨W.heap.size, 0, none⟩), undef, .slice none 0 0, u7, .pointer (some ⟨B8, 0, none⟩), .int .i64 ((mnN : Int) + (cn : Int)), .pointer (some ⟨wx.heap.size, 0, none⟩), .int .i64 (y.1 : Int), undef, undef, undef, .pointer (some ⟨W.heap.size, 7, none⟩), .int .i64 (mnN : Int), u17, u18, u19, u20, u21, u22, u23, u24, u25, u26, u27, u28, .map (some mr), .pointer (some ⟨W.heap.size, 7, none⟩), .int .i64 (mnN : Int), u32, u33, .slice pA A.length cA, .func (.func 91) #[] #[.pointer (some ⟨wx.heap.size + 1, 0, none⟩)], .int .i64 (y.1 : Int), u37, u38, u39, u40, u41, u42, u43, u44, u45, u46, u47, u48, u49, u50, u51, u52, u53, u54, u55, u56, u57, u58, u59, u60, u61, undef, undef, undef, undef, undef, undef, undef, undef, undef, undef, undef, undef, undef, undef, undef], defers := [] }) ?assign ?body ?done ?stop
        case assign =>
          intro l y W K hK
          gi_wp2
          exact hK
        case body =>
          rintro l' pre y W3 ⟨⟨v, hv1, hrow, -⟩, hk1, hg1⟩ hlt
          dsimp only
          have hB3 : Blk W3 B8 #[.map (some mr)] 135 := ⟨(hg1.block B8 hBlt (by simp; omega)).trans HB.out.is⟩
          have b8 := hB3.cell 0 rfl
          have hlk := lookB hk1.toB y.1
          have hfa := frP_facts ks HS.out.nodup pre
          have hm3 := hk1.lt
          have HV1 := Lib.hid hv1
          have HRw := Lib.hid hrow
          have HK1 := Lib.hid hk1
          have HG1 := Lib.hid hg1
          have hyM := y.2
          clear hv1 hrow hk1 hg1 hB3
          obtain ⟨yv, hyv⟩ := y
          dsimp only at hlk hyM ⊢
          by_cases hm : yv ∈ ks ++ frP ks pre
          · rw [decide_eq_true hm] at hlk
            have HSt := Lib.hid (show frP ks (pre ++ [⟨yv, hyv⟩]) = frP ks pre by rw [frP_snoc, if_pos hm])
            clear hm hfa
            gi_wp2
            exact ⟨KeepsFrom.refl _ _, KpR.refl _ _ _, ⟨_, HV1.out, own_cast HRw.out (by rw [HSt.out]) (by rw [HSt.out]), trivial⟩, by rw [HSt.out]; exact HK1.out, HG1.out⟩
          · rw [decide_eq_false hm] at hlk
            obtain ⟨o, ho, hrun, hk2⟩ := updC HK1.out yv hm
            have HSt := Lib.hid (show frP ks (pre ++ [⟨yv, hyv⟩]) = frP ks pre ++ [yv] by rw [frP_snoc, if_neg hm])
            obtain ⟨f1, f2, f3⟩ := hfa
            have hfl := ofPts_len (frP ks pre)
            have hfe := ofPts_ends f1
            have hgp := grownBy_putObj' W3 mr o
            have hkp := kpR_map (X := fun _ => False) (o := o) (show wx.heap.size ≠ mr by omega) HK1.out.noCells
            have hv2 := HV1.out.kept hgp (by simp; omega)
            obtain ⟨es, clock, hes, _⟩ := HK1.out
            have hr2 := ownsRow_putObj HRw.out o hes rfl
            have hE10 := HV1.out.cell
            generalize hW4 : W3.putObj mr o = W4 at hrun hk2 hgp hkp hv2 hr2
            clear hW4 hes hm f2
            have hs4 := hgp.size
            have c2 := hv2.cell
            have w1 : IntKind.i64.wrap ((yv : Int) + 1) = ((yv + 1 : Nat) : Int) := by rw [IntWalk.i64_in _ (by omega)]; omega
            have b8' := kept_row hgp HK1.out.noCells _ _ b8
            have hw3 := HG1.out.size
            have HAd := Lib.hid (addSp_at v _ yv (yv + 1) wx.heap.size W4 hr2 (by omega) (by omega) (by omega) (by omega) (fun s hs => by have := hfe s hs; omega))
            have HV2 := Lib.hid hv2
            have HR2 := Lib.hid hr2
            have HK4 := Lib.hid hk2
            have HGP := Lib.hid hgp
            have HKP := Lib.hid hkp
            clear hv2 hr2 hk2 hgp hkp hfe hfl f1 f3
            gi_wp2_with (gi_at_call 83; refine (CallsIn.inRound l' (callsIn_wide.2 HAd.out)).mono ?_; rintro e W5 ⟨⟨v', rfl, hown3, hnew3⟩, hg3⟩; obtain ⟨p3, q3, rfl⟩ := own_shape hown3; obtain ⟨hv3, hv4, hr4, hk4, hb4, hkp4, hs4⟩ := box_step (X := fun _ => False) HV2.out HR2.out (Nat.le_refl _) hown3 hnew3 hg3; have c3 := hv3.cell; have f3 := hv3.frozen)
            exact ⟨(KeepsFrom.of_grownBy HGP.out (fun j e => by cases e; have := Hs2.out; omega)).trans (hk4.from _), HKP.out.trans hkp4, ⟨_, hv4, own_cast hr4 (by rw [HSt.out, ofPts_snoc]) (by rw [HSt.out, ofPts_snoc]), trivial⟩,
              by rw [HSt.out, ← List.append_assoc]; exact HK4.out.block (hs4 mr (by omega) (row_not_map HR2.out HK4.out.noCells) HK4.out.lt), grown_below (HG1.out.trans HGP.out) hb4 hk4.size⟩
        case done =>
          rintro D ys W3 hD rfl ⟨⟨v, hv1, hrow, -⟩, hk1, hg1⟩ hK
          dsimp only
          have hE := Lib.hid (fun (hi : Option Nat) (lo : Nat) => HS.out.done (lo := lo) (hi := hi))
          have hRd := Lib.hid (fun B => HS.out.round (B := B))
          obtain ⟨f1, f2, f3⟩ := frP_facts ks HS.out.nodup (toPm b.length (pts A))
          obtain ⟨fg1, fg2, fg3⟩ := fresh_good ks HS.out.good HS.out.le
          generalize frP ks (toPm b.length (pts A)) = fr at hE hRd f1 f2 f3 fg1 fg2 fg3 hrow hk1
          have hkle : ∀ k ∈ ks ++ fr, k ≤ b.length := fun k hk => by
            rcases List.mem_append.1 hk with hk | hk
            · exact HS.out.kle k hk
            · exact f1 k hk
          have hgw := grown_more HGx.out hg1 hwrmr
          have hgW := grown_more (HG.out.trans HGx.out) hg1 hWmr
          have hmo := HMx.out.row hg1 HKC.out.noCells hmbm
          have hB3 : Blk W3 B8 #[.map (some mr)] 135 := ⟨(hg1.block B8 hBlt (by simp; omega)).trans HB.out.is⟩
          have hMs := (HMk.out.grown hg1 (by omega)).cons HMk.out (D := D) (by have := Hs2.out; omega) (by have := Hs2.out; omega) hK
          have c1 := hv1.cell
          have hvF := own_isS hrow
          obtain ⟨vp, vc, rfl⟩ := own_shape hrow
          have n5W := HN5.out _ hgw
          have n8W := HN8.out _ hgw
          have hle : ∀ q, On (ofPts fr) q → q ≤ b.length := fun q hq => HS.out.le q ((fg2 q).1 hq).1
          have HC := Lib.hid (HE.out _ _ _ hgW hmo hvF fg1 hle)
          have Hkle := Lib.hid hkle
          have Hgw := Lib.hid hgw
          have Hmo := Lib.hid hmo
          have HB3 := Lib.hid hB3
          have HMs := Lib.hid hMs
          have HF2 := Lib.hid f2
          have HFg := Lib.hid fg1
          have HK1 := Lib.hid hk1
          have HK0 := Lib.hid hK
          clear hkle hgw hgW hmo hB3 hMs f1 f2 f3 fg1 fg2 fg3 hk1 hK hle hvF hrow hg1 hv1
          have hhi : ∀ m, (if mx = -1 then none else some mx.toNat) = some m → mnN + cn ≤ m := fun m hm => by
            split at hm
            · cases hm
            · cases hm; omega
          have Hhi := Lib.hid hhi
          clear hhi
          by_cases hF0 : ofPts fr = []
          · have hl0 : (ofPts fr).length = 0 := by rw [hF0]; rfl
            rw [hl0] at c1
            have HDn := Lib.hid (hE.out _ mnN Hhi.out (.inl hF0))
            clear hF0 hl0 hE hRd
            gi_wp2
            exact HR.out _ _ ⟨_, _, _, _, _, _, _, _, _, _, _, _, _, _, _, _, _, _, _, _, _, _, _, _, _, _, _, _, _, _, _, _, _, _, marks (D :: Ds), ⟨ks ++ fr, D :: Ds, HF2.out, Hkle.out, HDn.out, HB3.out, HK1.out, rfl, HMs.out, Hgw.out, Hmo.out⟩, rfl⟩
          · have hlp := List.length_pos_iff.2 hF0
            have tl : (((ofPts fr).length : Int) == 0) = false := by
              rw [beq_eq_false_iff_ne]; omega
            by_cases hmx : (mnN : Int) + (cn : Int) = mx
            · have tm : (((mnN : Int) + (cn : Int)) == mx) = true := by rw [beq_iff_eq]; exact hmx
              have HDn := Lib.hid (hE.out (if mx = -1 then none else some mx.toNat) mnN Hhi.out (.inr (by rw [if_neg (by omega)]; congr 1; omega)))
              clear hF0 hE hRd hmx
              gi_wp2
              exact HR.out _ _ ⟨_, _, _, _, _, _, _, _, _, _, _, _, _, _, _, _, _, _, _, _, _, _, _, _, _, _, _, _, _, _, _, _, _, _, marks (D :: Ds), ⟨ks ++ fr, D :: Ds, HF2.out, Hkle.out, HDn.out, HB3.out, HK1.out, rfl, HMs.out, Hgw.out, Hmo.out⟩, rfl⟩
            · have tm : (((mnN : Int) + (cn : Int)) == mx) = false := by rw [beq_eq_false_iff_ne]; exact hmx
              have hcm2 : mx = -1 ∨ ((mnN + (cn + 1) : Nat) : Int) ≤ mx := by omega
              have HRd := Lib.hid (fun B => hRd.out B hF0)
              clear hE hRd hF0 hmx
              gi_wp2_with (gi_at_call 40; refine (callsIn_wide.2 HC.out).mono ?_; rintro e W4 ⟨⟨v4, m4, rfl, hv4, hs4⟩, hg4, hm4⟩; obtain ⟨p4, c4, rfl⟩ := hv4.shape)
              have hmbB : mb < B8 := by have := HM.out.memo.lt; omega
              have hlt3 := HB3.out.lt
              have hlt4 := HK1.out.lt
              refine ⟨⟨_, _, _, _, _, _, _, _, _, _, _, _, _, _, _, _, _, _, _, _, _, _, _, _, _, _, _, _, _, _, _, _, _, _, marks (D :: Ds), ⟨cn + 1, m4, ks ++ fr, D :: Ds, HRd.out m4 hs4.good hs4.le (fun q => hs4.2 q), hcm2, ?_, hv4, ⟨(hg4.block B8 hlt3 (by simp; omega)).trans HB3.out.is⟩, HK1.out.block (hg4.block mr hlt4 (by simp; omega)), rfl, HMs.out.grown hg4 (by omega), Hgw.out.trans hg4, hm4⟩, rfl⟩, ?_⟩
              · exact congrArg (Value.int .i64) (by omega)
              · simp [intOf]; omega
        case stop =>
          rintro D c pre W _ _ h _
          exact h.elim
    case rest2 =>
      rintro a' wx ⟨u2, u9, u10, u11, u32, u33, u34, u35, u36, u37, u38, u39, u40, u41, u42, u43, u44, u45, u46, u47, u48, u49, u50, u51, u52, u53, u54, u55, u56, u57, u58, u59, u60, u61, ds, ⟨ks, Ds, hnd, hkb, hkm, hBx, hKC, rfl, hMk, hgx, hmx⟩, rfl⟩
      dsimp only
      have hkl := nodup_len hnd hkb
      have b8 := hBx.cell 0 rfl
      have hBlt := hBx.lt
      have hmlt := hKC.lt
      have hbk : Below wx.heap.size wx (wx.alloc (.cells #[.map (some mr)] 135)) := (Below.refl _ wx).alloc (Nat.le_refl _) _
      have HSo := Lib.hid (sorted_any 5 (by decide) wx.heap.size mr ks (wx.alloc (.cells #[.map (some mr)] 135)) (Blk.new wx _ _) (hKC.block (hbk.block mr hmlt)) (by omega) (fun k hk => by have := hkb k hk; omega) hnd)
      have HKb := Lib.hid hkb
      have HKm := Lib.hid hkm
      have HMk := Lib.hid hMk
      have HGx := Lib.hid hgx
      have HMx := Lib.hid hmx
      have HBk := Lib.hid hbk
      clear hnd hkb hkm hBx hKC hMk hgx hmx hbk
      gi_wp2_with (first
        | (gi_at_call 111; refine (keys_in _ (some mr) _).mono ?_; rintro e w' ⟨rfl, rfl⟩)
        | (gi_at_call 110; refine HSo.out.mono ?_; rintro e w5 ⟨⟨v5, qs, rfl, hrow5, hpw, hmem, hlen⟩, hb5⟩; obtain ⟨p5, c5, rfl⟩ := own_shape hrow5; have HR5 := Lib.hid hrow5; have HPw := Lib.hid hpw; have HMem := Lib.hid hmem; have Hb5 := Lib.hid (HBk.out.trans (hb5.mono HBk.out.size)); clear hrow5 hpw hmem hb5))
      have hqm : ∀ k (q : Nat), qs[k]? = some q → q ≤ b.length := fun k q hq => HKb.out q ((HMem.out q).1 (List.mem_of_getElem? hq))
      have HQm := Lib.hid hqm
      have HTk := Lib.hid (fun k (q : Nat) (hk : qs[k]? = some q) => show qs.take (k + 1) = qs.take k ++ [q] by rw [List.take_add_one, hk]; rfl)
      clear hqm
      gi_loopw [12, 66] (fun v q w => ∃ k : Nat, k ≤ qs.length ∧ q = .int .i64 k ∧ w.ownsRow w5.heap.size 66 2 v (ofPts (qs.take k)).length ((ofPts (qs.take k)).flatMap encS) ∧ Below w5.heap.size w5 w) (fun _ q _ => qs.length - (intOf q).toNat)
      case atStart => exact ⟨0, Nat.zero_le _, rfl, World.ownsRow_nil _ _ _ _, Below.refl _ _⟩
      case round =>
        obtain ⟨k, hk, rfl, hown, hbw⟩ := hrel
        by_cases hlt : k < qs.length
        · have t1 : decide ((k : Int) < (qs.length : Int)) = true := by simp; omega
          obtain ⟨q, hq⟩ : ∃ q, qs[k]? = some q := ⟨_, List.getElem?_eq_getElem hlt⟩
          have hrd := (own_read HR5.out (by omega : 0 < qs.length))
          obtain ⟨g5, cap5, hp5, hg5, hgl5, hcap5, hrd⟩ := hrd
          obtain ⟨rfl, rfl⟩ : p5 = some ⟨g5, 0, none⟩ ∧ c5 = cap5 := by simpa using hp5
          have a0 := hrd k (.int .i64 (q : Int)) (by rw [List.getElem?_map, hq]; rfl)
          have a0 := (hbw.cell (lt_of_cell a0)).trans a0
          have hqb := HQm.out k q hq
          have hlen2 := ofPts_len (qs.take k)
          have hll : (qs.take k).length ≤ k := List.length_take_le _ _
          have hens := ofPts_ends (l := qs.take k) (M := b.length) (fun p hp => by
            obtain ⟨j, hj⟩ := List.getElem?_of_mem (List.mem_of_mem_take hp)
            exact HQm.out j p hj)
          have HTq := Lib.hid (HTk.out k q hq)
          have w1 : IntKind.i64.wrap ((q : Int) + 1) = ((q + 1 : Nat) : Int) := by rw [IntWalk.i64_in _ (by omega)]; omega
          have hszw := hbw.size
          have HAd := Lib.hid (addSp_any u12 _ q (q + 1) w5.heap.size wr hown hszw (by omega) (by omega) (by omega) (fun s hs => by have := hens s hs; omega))
          have HO := Lib.hid hown
          have HBw := Lib.hid hbw
          clear hown hbw hq hp5 hrd hens hlen2 hll
          gi_wp2_with (gi_at_call 83; refine (callsIn_wide.2 HAd.out).mono ?_; rintro e w6 ⟨⟨v6, rfl, hown6⟩, hg6⟩; obtain ⟨p6, c6, rfl⟩ := own_shape hown6)
          go_roundw
          case rel => exact ⟨k + 1, by omega, by go_num, by rw [HTq.out, ofPts_snoc]; exact hown6, HBw.out.grown hg6 hszw (fun k2 e2 => own_ge HO.out k2 e2)⟩
          case measure => simp [intOf]; omega
        · obtain rfl : k = qs.length := by omega
          have t1 : decide ((qs.length : Int) < (qs.length : Int)) = false := by simp
          rw [List.take_length] at hown
          obtain ⟨p6, c6, rfl⟩ := own_shape hown
          have HO := Lib.hid hown
          have HBw := Lib.hid hbw
          clear hown hbw
          gi_wp2
          have hset : SetOf b (tr xs i) l (ofPts qs) := by
            obtain ⟨g1, g2⟩ := ofPts_good HPw.out
            refine ⟨g1, fun q => ?_⟩
            rw [tr_rep HX.out HI.out rfl, rep_ends HLb.out q, g2 q, HMem.out q, HKm.out q]
            rfl
          have hgr : W.grownBy wr (some mb) := ((((grownBy_of_below HW.out _).trans HG.out).trans HGx.out).trans (grownBy_of_below Hb5.out _)).trans (grownBy_of_below HBw.out _)
          have hmo : MemoOk wr mb xs b := (HMx.out.grows Hb5.out).grows HBw.out
          have hms : MarksOk (B8 + 1) Ds wr := (HMk.out.kept fun D _ hd => Hb5.out.block D (heap_lt hd)).kept fun D _ hd => HBw.out.block D (heap_lt hd)
          have hwl : W.heap.size ≤ B8 := by have := hgr.size; omega
          refine leaves_marks (F := Fence.wide) (base := B8 + 1) (fun W' => (IsS W' (.slice p6 (ofPts qs).length c6) (ofPts qs)) ∧ W.grownBy W' (some mb) ∧ MemoOk W' mb xs b) ?_ ?_ Ds _ hms ⟨own_isS HO.out, hgr, hmo⟩
          · rintro W' D hD hd ⟨h1, h2, h3⟩
            have hp := grownBy_putObj' W' D (.deferred none)
            have hn := noCells_deferred hd
            exact ⟨h1.kept (kept_row hp hn), grown_more h2 hp (by omega), h3.row hp hn (by have := HM.out.memo.lt; omega)⟩
          · rintro W' ⟨h1, h2, h3⟩
            exact ⟨_, results_tmp rfl _ _ _, ⟨.slice p6 (ofPts qs).length c6, _, (by simp), h1, hset⟩, h2, h3⟩
end Go.Proofs.YtgbbjobmcbdhdaaGreatDoor

/-
  Walks: the ends of matches.
-/
namespace Go.Proofs.YtgbbjobmcbdhdaaGreatDoor
open Go.RowKit Go.Shelf
attribute [local go_sem] Oper.semAt_some

set_option maxRecDepth 100000 in
set_option maxHeartbeats 2000000 in
theorem ends_1 (Bm mb : Nat) (xs : List Nd) (b : List Int) (xb xo xc : Nat) (bv : Value) (i : Nat) (n : Nd) (hX : OkX xs) (hi : xs[i]? = some n) (hb : b.length ≤ 1048576) (hk : n.k = 1) : EndsC Bm mb xs b xb xo xc bv i := by
  intro v l W hM htab hv hl hlb
  obtain ⟨sp0, sc, rfl⟩ := hv.shape
  have hilt : i < xs.length := (List.getElem?_eq_some_iff.1 hi).1
  have hbW : Below W.heap.size W ((W.alloc (.cells #[.pointer (some ⟨Bm, 0, none⟩)] 93)).alloc (.cells #[.int .i64 (i : Int)] 3)) := ((Below.refl _ W).alloc (Nat.le_refl _) _).alloc (by simp) _
  have v3 := ((Blk.new W #[.pointer (some ⟨Bm, 0, none⟩)] 93).alloc (.cells #[.int .i64 (i : Int)] 3)).cell 0 rfl
  have v4 := (Blk.alloc1 W #[.pointer (some ⟨Bm, 0, none⟩)] #[.int .i64 (i : Int)] 93 3).cell 0 rfl
  have hsz2 : ((W.alloc (.cells #[.pointer (some ⟨Bm, 0, none⟩)] 93)).alloc (.cells #[.int .i64 (i : Int)] 3)).heap.size = W.heap.size + 2 := by simp
  have hM2 := hM.grows hbW
  have hT2 := tab_step htab hM.memo (grownBy_of_below hbW _)
  have hV2 := hv.grows hbW
  obtain ⟨x0, x1, x2, x3, x4, x5, x6, x7, x8⟩ := hM2.x.nine i n hi
  have m0 := hM2.m.cell 0 rfl
  obtain ⟨k, c, nl, nr, mn, mx⟩ := n
  dsimp only at hk x0 x1 x2 x3 x4 x5 x6 x7 x8
  have HI := Lib.hid hi
  have HX := Lib.hid hX
  have HL := Lib.hid hl
  have HLb := Lib.hid hlb
  have HbW := Lib.hid hbW
  have HM2 := Lib.hid hM2
  have HT2 := Lib.hid hT2
  have HV2 := Lib.hid hV2
  have Hs2 := Lib.hid hsz2
  have hxb := lt_of_cell x0
  have hBm := lt_of_cell m0
  have hl3 := lt_of_cell v3
  have hl4 := lt_of_cell v4
  dsimp only at hxb hBm hl3 hl4
  clear hM htab hv hi hX hl hlb hbW hM2 hT2 hV2 hsz2
  obtain rfl : k = 1 := hk
  go_enter Tryz.func40, Tryz.ntmps40
  go_wp2
  generalize ((W.alloc (.cells #[.pointer (some ⟨Bm, 0, none⟩)] 93)).alloc (.cells #[.int .i64 (i : Int)] 3)) = W2 at v3 v4 x0 x1 x2 x3 x4 x5 x6 x7 x8 m0 hxb hBm hl3 hl4 HbW HM2 HT2 HV2 Hs2 ⊢
  have hb5 : Below W2.heap.size W2 (W2.alloc (.cells #[.int .i64 1, .int .u64 (wd c 0), .int .u64 (wd c 1), .int .u64 (wd c 2), .int .u64 (wd c 3), .int .i64 nl, .int .i64 nr, .int .i64 mn, .int .i64 mx] 45)).drew := ((Below.refl _ W2).alloc (Nat.le_refl _) _).trans ((below_dr _).mono (by simp))
  have hn5 := (Blk.new W2 #[.int .i64 1, .int .u64 (wd c 0), .int .u64 (wd c 1), .int .u64 (wd c 2), .int .u64 (wd c 3), .int .i64 nl, .int .i64 nr, .int .i64 mn, .int .i64 mx] 45).drew
  go_region
  go_wp2_with fail
  go_ret
  exact ⟨⟨_, [], rfl, .inl ⟨rfl, none, 0, rfl, fun _ => rfl⟩, trivial, fun q => ⟨fun h => absurd h (on_nil q), fun ⟨p, _, h⟩ => by rw [tr_none HI.out rfl] at h; exact h.elim⟩⟩, grownBy_of_below (HbW.out.trans (hb5.mono HbW.out.size)) _, HM2.out.memo.grows hb5⟩
set_option maxRecDepth 100000 in
set_option maxHeartbeats 2000000 in
theorem ends_2 (Bm mb : Nat) (xs : List Nd) (b : List Int) (xb xo xc : Nat) (bv : Value) (i : Nat) (n : Nd) (hX : OkX xs) (hi : xs[i]? = some n) (hb : b.length ≤ 1048576) (hk : n.k = 2) : EndsC Bm mb xs b xb xo xc bv i := by
  intro v l W hM htab hv hl hlb
  obtain ⟨sp0, sc, rfl⟩ := hv.shape
  have hilt : i < xs.length := (List.getElem?_eq_some_iff.1 hi).1
  have hbW : Below W.heap.size W ((W.alloc (.cells #[.pointer (some ⟨Bm, 0, none⟩)] 93)).alloc (.cells #[.int .i64 (i : Int)] 3)) := ((Below.refl _ W).alloc (Nat.le_refl _) _).alloc (by simp) _
  have v3 := ((Blk.new W #[.pointer (some ⟨Bm, 0, none⟩)] 93).alloc (.cells #[.int .i64 (i : Int)] 3)).cell 0 rfl
  have v4 := (Blk.alloc1 W #[.pointer (some ⟨Bm, 0, none⟩)] #[.int .i64 (i : Int)] 93 3).cell 0 rfl
  have hsz2 : ((W.alloc (.cells #[.pointer (some ⟨Bm, 0, none⟩)] 93)).alloc (.cells #[.int .i64 (i : Int)] 3)).heap.size = W.heap.size + 2 := by simp
  have hM2 := hM.grows hbW
  have hT2 := tab_step htab hM.memo (grownBy_of_below hbW _)
  have hV2 := hv.grows hbW
  obtain ⟨x0, x1, x2, x3, x4, x5, x6, x7, x8⟩ := hM2.x.nine i n hi
  have m0 := hM2.m.cell 0 rfl
  obtain ⟨k, c, nl, nr, mn, mx⟩ := n
  dsimp only at hk x0 x1 x2 x3 x4 x5 x6 x7 x8
  have HI := Lib.hid hi
  have HX := Lib.hid hX
  have HL := Lib.hid hl
  have HLb := Lib.hid hlb
  have HbW := Lib.hid hbW
  have HM2 := Lib.hid hM2
  have HT2 := Lib.hid hT2
  have HV2 := Lib.hid hV2
  have Hs2 := Lib.hid hsz2
  have hxb := lt_of_cell x0
  have hBm := lt_of_cell m0
  have hl3 := lt_of_cell v3
  have hl4 := lt_of_cell v4
  dsimp only at hxb hBm hl3 hl4
  clear hM htab hv hi hX hl hlb hbW hM2 hT2 hV2 hsz2
  obtain rfl : k = 2 := hk
  go_enter Tryz.func40, Tryz.ntmps40
  go_wp2
  generalize ((W.alloc (.cells #[.pointer (some ⟨Bm, 0, none⟩)] 93)).alloc (.cells #[.int .i64 (i : Int)] 3)) = W2 at v3 v4 x0 x1 x2 x3 x4 x5 x6 x7 x8 m0 hxb hBm hl3 hl4 HbW HM2 HT2 HV2 Hs2 ⊢
  have hb5 : Below W2.heap.size W2 (W2.alloc (.cells #[.int .i64 2, .int .u64 (wd c 0), .int .u64 (wd c 1), .int .u64 (wd c 2), .int .u64 (wd c 3), .int .i64 nl, .int .i64 nr, .int .i64 mn, .int .i64 mx] 45)).drew := ((Below.refl _ W2).alloc (Nat.le_refl _) _).trans ((below_dr _).mono (by simp))
  have hn5 := (Blk.new W2 #[.int .i64 2, .int .u64 (wd c 0), .int .u64 (wd c 1), .int .u64 (wd c 2), .int .u64 (wd c 3), .int .i64 nl, .int .i64 nr, .int .i64 mn, .int .i64 mx] 45).drew
  go_region
  go_wp2_with fail
  go_ret
  exact ⟨⟨_, l, rfl, HV2.out.grows hb5, HL.out, fun q => ⟨fun h => ⟨q, h, by rw [tr_empty HI.out rfl]; exact ⟨rfl, HLb.out q h⟩⟩, fun ⟨p, hp, h⟩ => by rw [tr_empty HI.out rfl] at h; obtain ⟨rfl, _⟩ := h; exact hp⟩⟩, grownBy_of_below (HbW.out.trans (hb5.mono HbW.out.size)) _, HM2.out.memo.grows hb5⟩
theorem stepS_set {b : List Int} {c : BitVec 256} {l : List (Nat × Nat)} (hl : Good l) (hbb : ∀ y ∈ b, 0 ≤ y ∧ y < 256) : SetOf b (.cls c) l (stepS b c (pts l)) := by
  obtain ⟨g1, g2⟩ := ofPts_good (l := ((pts l).filter (okB b c)).map (· + 1)) (by
    rw [List.pairwise_map]
    exact (List.Pairwise.filter _ (pts_incr hl)).imp fun h => by omega)
  refine ⟨g1, fun q => (g2 q).trans ?_⟩
  rw [List.mem_map]
  constructor
  · rintro ⟨p, hp, rfl⟩
    rw [List.mem_filter] at hp
    refine ⟨p, mem_pts.1 hp.1, rfl, ?_⟩
    have h := hp.2
    unfold okB at h
    split at h
    · rename_i y hy; exact ⟨y, hy, h⟩
    · cases h
  · rintro ⟨p, hp, rfl, y, hy, hm⟩
    exact ⟨p, List.mem_filter.2 ⟨mem_pts.2 hp, by unfold okB; rw [hy]; exact hm⟩, rfl⟩
set_option maxRecDepth 100000 in
set_option maxHeartbeats 2000000 in
theorem ends_3 (Bm mb : Nat) (xs : List Nd) (b : List Int) (xb xo xc : Nat) (bv : Value) (i : Nat) (n : Nd) (hX : OkX xs) (hi : xs[i]? = some n) (hb : b.length ≤ 1048576) (hbb : ∀ y ∈ b, 0 ≤ y ∧ y < 256) (hk : n.k = 3) : EndsC Bm mb xs b xb xo xc bv i := by
  intro v l W hM htab hv hl hlb
  obtain ⟨sp0, sc, rfl⟩ := hv.shape
  have hilt : i < xs.length := (List.getElem?_eq_some_iff.1 hi).1
  have hbW : Below W.heap.size W ((W.alloc (.cells #[.pointer (some ⟨Bm, 0, none⟩)] 93)).alloc (.cells #[.int .i64 (i : Int)] 3)) := ((Below.refl _ W).alloc (Nat.le_refl _) _).alloc (by simp) _
  have v3 := ((Blk.new W #[.pointer (some ⟨Bm, 0, none⟩)] 93).alloc (.cells #[.int .i64 (i : Int)] 3)).cell 0 rfl
  have v4 := (Blk.alloc1 W #[.pointer (some ⟨Bm, 0, none⟩)] #[.int .i64 (i : Int)] 93 3).cell 0 rfl
  have hsz2 : ((W.alloc (.cells #[.pointer (some ⟨Bm, 0, none⟩)] 93)).alloc (.cells #[.int .i64 (i : Int)] 3)).heap.size = W.heap.size + 2 := by simp
  have hM2 := hM.grows hbW
  have hT2 := tab_step htab hM.memo (grownBy_of_below hbW _)
  have hV2 := hv.grows hbW
  obtain ⟨x0, x1, x2, x3, x4, x5, x6, x7, x8⟩ := hM2.x.nine i n hi
  have m0 := hM2.m.cell 0 rfl
  obtain ⟨k, c, nl, nr, mn, mx⟩ := n
  dsimp only at hk x0 x1 x2 x3 x4 x5 x6 x7 x8
  have HI := Lib.hid hi
  have HX := Lib.hid hX
  have HL := Lib.hid hl
  have HLb := Lib.hid hlb
  have HbW := Lib.hid hbW
  have HM2 := Lib.hid hM2
  have HT2 := Lib.hid hT2
  have HV2 := Lib.hid hV2
  have Hs2 := Lib.hid hsz2
  have hxb := lt_of_cell x0
  have hBm := lt_of_cell m0
  have hl3 := lt_of_cell v3
  have hl4 := lt_of_cell v4
  dsimp only at hxb hBm hl3 hl4
  clear hM htab hv hi hX hl hlb hbW hM2 hT2 hV2 hsz2
  obtain rfl : k = 3 := hk
  go_enter Tryz.func40, Tryz.ntmps40
  go_wp2
  generalize ((W.alloc (.cells #[.pointer (some ⟨Bm, 0, none⟩)] 93)).alloc (.cells #[.int .i64 (i : Int)] 3)) = W2 at v3 v4 x0 x1 x2 x3 x4 x5 x6 x7 x8 m0 hxb hBm hl3 hl4 HbW HM2 HT2 HV2 Hs2 ⊢
  have hb5 : Below W2.heap.size W2 (W2.alloc (.cells #[.int .i64 3, .int .u64 (wd c 0), .int .u64 (wd c 1), .int .u64 (wd c 2), .int .u64 (wd c 3), .int .i64 nl, .int .i64 nr, .int .i64 mn, .int .i64 mx] 45)).drew := ((Below.refl _ W2).alloc (Nat.le_refl _) _).trans ((below_dr _).mono (by simp))
  have hn5 := (Blk.new W2 #[.int .i64 3, .int .u64 (wd c 0), .int .u64 (wd c 1), .int .u64 (wd c 2), .int .u64 (wd c 3), .int .i64 nl, .int .i64 nr, .int .i64 mn, .int .i64 mx] 45).drew
  go_region
  go_wp2_with fail
  generalize hW5 : (W2.alloc (.cells #[.int .i64 3, .int .u64 (wd c 0), .int .u64 (wd c 1), .int .u64 (wd c 2), .int .u64 (wd c 3), .int .i64 nl, .int .i64 nr, .int .i64 mn, .int .i64 mx] 45)).drew = W5 at hb5 hn5 ⊢
  clear hW5
  have v3 := (hb5.cell (lt_of_cell v3)).trans v3
  have v4 := (hb5.cell (lt_of_cell v4)).trans v4
  obtain ⟨-, n1, n2, n3, n4, -⟩ := hn5.nine
  have hml := len_pts HL.out
  have hml2 := pts_len HL.out HLb.out
  have hen := good_ends HL.out HLb.out
  have HM5 := Lib.hid (HM2.out.grows hb5)
  have HSt := Lib.hid (step_any Bm _ _ _ _ b c l W5 HM5.out.m HM5.out.word hbb (by omega) (HV2.out.grows hb5) (by omega) (by omega) (fun s hs => by have := hen s hs; omega))
  have HB5 := Lib.hid (HbW.out.trans (hb5.mono HbW.out.size))
  clear hen hn5 hb5
  go_wp2_with (go_at_call 58; refine HSt.out.mono ?_; rintro e W6 ⟨⟨v6, rfl, hown6⟩, hb6⟩; obtain ⟨p6, c6, rfl⟩ := own_shape hown6)
  go_ret
  refine ⟨⟨_, _, rfl, own_isS hown6, ?_⟩, (grownBy_of_below HB5.out _).trans (grownBy_of_below hb6 _), HM5.out.memo.grows hb6⟩
  rw [tr_cls HI.out rfl]
  exact stepS_set HL.out hbb
set_option maxRecDepth 100000 in
set_option maxHeartbeats 2000000 in
theorem ends_4 (Bm mb : Nat) (xs : List Nd) (b : List Int) (xb xo xc : Nat) (bv : Value) (i : Nat) (n : Nd) (hX : OkX xs) (hi : xs[i]? = some n) (hb : b.length ≤ 1048576) (hE : ∀ j, j < i → EndsC Bm mb xs b xb xo xc bv j) (hk : n.k = 4) : EndsC Bm mb xs b xb xo xc bv i := by
  intro v l W hM htab hv hl hlb
  obtain ⟨sp0, sc, rfl⟩ := hv.shape
  have hilt : i < xs.length := (List.getElem?_eq_some_iff.1 hi).1
  have hbW : Below W.heap.size W ((W.alloc (.cells #[.pointer (some ⟨Bm, 0, none⟩)] 93)).alloc (.cells #[.int .i64 (i : Int)] 3)) := ((Below.refl _ W).alloc (Nat.le_refl _) _).alloc (by simp) _
  have v3 := ((Blk.new W #[.pointer (some ⟨Bm, 0, none⟩)] 93).alloc (.cells #[.int .i64 (i : Int)] 3)).cell 0 rfl
  have v4 := (Blk.alloc1 W #[.pointer (some ⟨Bm, 0, none⟩)] #[.int .i64 (i : Int)] 93 3).cell 0 rfl
  have hsz2 : ((W.alloc (.cells #[.pointer (some ⟨Bm, 0, none⟩)] 93)).alloc (.cells #[.int .i64 (i : Int)] 3)).heap.size = W.heap.size + 2 := by simp
  have hM2 := hM.grows hbW
  have hT2 := tab_step htab hM.memo (grownBy_of_below hbW _)
  have hV2 := hv.grows hbW
  obtain ⟨x0, x1, x2, x3, x4, x5, x6, x7, x8⟩ := hM2.x.nine i n hi
  have m0 := hM2.m.cell 0 rfl
  obtain ⟨k, c, nl, nr, mn, mx⟩ := n
  dsimp only at hk x0 x1 x2 x3 x4 x5 x6 x7 x8
  have HI := Lib.hid hi
  have HX := Lib.hid hX
  have HL := Lib.hid hl
  have HLb := Lib.hid hlb
  have HbW := Lib.hid hbW
  have HM2 := Lib.hid hM2
  have HT2 := Lib.hid hT2
  have HV2 := Lib.hid hV2
  have Hs2 := Lib.hid hsz2
  have hxb := lt_of_cell x0
  have hBm := lt_of_cell m0
  have hl3 := lt_of_cell v3
  have hl4 := lt_of_cell v4
  dsimp only at hxb hBm hl3 hl4
  clear hM htab hv hi hX hl hlb hbW hM2 hT2 hV2 hsz2
  obtain rfl : k = 4 := hk
  go_enter Tryz.func40, Tryz.ntmps40
  go_wp2
  generalize ((W.alloc (.cells #[.pointer (some ⟨Bm, 0, none⟩)] 93)).alloc (.cells #[.int .i64 (i : Int)] 3)) = W2 at v3 v4 x0 x1 x2 x3 x4 x5 x6 x7 x8 m0 hxb hBm hl3 hl4 HbW HM2 HT2 HV2 Hs2 ⊢
  have hb5 : Below W2.heap.size W2 (W2.alloc (.cells #[.int .i64 4, .int .u64 (wd c 0), .int .u64 (wd c 1), .int .u64 (wd c 2), .int .u64 (wd c 3), .int .i64 nl, .int .i64 nr, .int .i64 mn, .int .i64 mx] 45)).drew := ((Below.refl _ W2).alloc (Nat.le_refl _) _).trans ((below_dr _).mono (by simp))
  have hn5 := (Blk.new W2 #[.int .i64 4, .int .u64 (wd c 0), .int .u64 (wd c 1), .int .u64 (wd c 2), .int .u64 (wd c 3), .int .i64 nl, .int .i64 nr, .int .i64 mn, .int .i64 mx] 45).drew
  go_region
  go_wp2_with fail
  generalize hW5 : (W2.alloc (.cells #[.int .i64 4, .int .u64 (wd c 0), .int .u64 (wd c 1), .int .u64 (wd c 2), .int .u64 (wd c 3), .int .i64 nl, .int .i64 nr, .int .i64 mn, .int .i64 mx] 45)).drew = W5 at hb5 hn5 ⊢
  clear hW5
  have v3 := (hb5.cell (lt_of_cell v3)).trans v3
  have v4 := (hb5.cell (lt_of_cell v4)).trans v4
  have hop := HX.out.two HI.out (.inl rfl)
  dsimp only at hop
  have HM5 := Lib.hid (HM2.out.grows hb5)
  have HT5 := Lib.hid (tab_step HT2.out HM2.out.memo (grownBy_of_below hb5 _))
  have HV5 := Lib.hid (HV2.out.grows hb5)
  have HVk : Hid (∀ w, W5.grownBy w (some mb) → IsS w (.slice sp0 l.length sc) l) := Lib.hid fun w hg => HV5.out.kept (keptM hg HM5.out.memo)
  have HB5 := Lib.hid (HbW.out.trans (hb5.mono HbW.out.size))
  have n5 := hn5.cell 5 rfl
  have n6 := hn5.cell 6 rfl
  have HE3 : Hid (∀ w v' l', W5.grownBy w (some mb) → MemoOk w mb xs b → IsS w v' l' → Good l' → (∀ q, On l' q → q ≤ b.length) → ∀ j : Int, 0 ≤ j → j < (i : Int) → Calls Tryz.prog 40 #[.pointer (some ⟨Bm, 0, none⟩), .int .i64 j, v'] w fun e W' =>
      (∃ v' m, e = .returned v' ∧ IsS W' v' m ∧ SetOf b (tr xs j.toNat) l' m) ∧ w.grownBy W' (some mb) ∧ MemoOk W' mb xs b) := Lib.hid fun w v' l' hg hm hs hgd hq j hj0 hj => by
    have h := hE j.toNat (by omega) v' l' w (HM5.out.step hg hm) (tab_step HT5.out HM5.out.memo hg) hs hgd hq
    rw [show ((j.toNat : Nat) : Int) = j by omega] at h
    exact h
  clear hE hb5 hn5
  have hcur := And.intro (grownBy_of_below (below_dr W5) (some mb)) (memo_drew HM5.out.memo)
  have v3 : W5.drew.cell? ⟨W.heap.size, 0, none⟩ = some (.pointer (some ⟨Bm, 0, none⟩)) := v3
  have n5 : W5.drew.cell? ⟨W2.heap.size, 5, none⟩ = some (.int .i64 nl) := n5
  have n6 : W5.drew.cell? ⟨W2.heap.size, 6, none⟩ = some (.int .i64 nr) := n6
  go_region_held3 (fun W' => W'.cell? ⟨W.heap.size, 0, none⟩ = some (.pointer (some ⟨Bm, 0, none⟩)) ∧ W'.cell? ⟨W2.heap.size, 5, none⟩ = some (.int .i64 nl) ∧ W'.cell? ⟨W2.heap.size, 6, none⟩ = some (.int .i64 nr)) (first | exact ⟨v3, n5, n6⟩ | exact ⟨cell_al v3, cell_al n5, cell_al n6⟩) (first
      | (go_at_call 40; ((with_reducible refine (HE3.out _ _ _ hcur.1 hcur.2 (HVk.out _ hcur.1) HL.out HLb.out nl hop.1.1 hop.1.2).mono ?_)); rintro e wn ⟨⟨va, ma, rfl, hva, hsa⟩, hgw, hmn⟩; obtain ⟨pva, cva, rfl⟩ := hva.shape; have v3 := keptM hgw hcur.2 _ _ v3; have n5 := keptM hgw hcur.2 _ _ n5; have n6 := keptM hgw hcur.2 _ _ n6; have hcur := And.intro (hcur.1.trans hgw) hmn)
      | (go_at_call 40; ((with_reducible refine (HE3.out _ _ ma hcur.1 hcur.2 hva hsa.good hsa.le nr hop.2.1 hop.2.2).mono ?_)); rintro e wn ⟨⟨vc, mc, rfl, hvc, hsc⟩, hgw, hmn⟩; obtain ⟨pvc, cvc, rfl⟩ := hvc.shape; have v3 := keptM hgw hcur.2 _ _ v3; have n5 := keptM hgw hcur.2 _ _ n5; have n6 := keptM hgw hcur.2 _ _ n6; have hcur := And.intro (hcur.1.trans hgw) hmn))
  all_goals
    go_wp2
    go_ret
    refine ⟨⟨_, mc, rfl, hvc, hsc.good, fun q => ?_⟩, (grownBy_of_below HB5.out _).trans hcur.1, hcur.2⟩
    rw [hsc.2 q, tr_cat HX.out HI.out rfl]
    constructor
    · rintro ⟨p, hp, h⟩
      obtain ⟨p0, hp0, h0⟩ := (hsa.2 p).1 hp
      exact ⟨p0, hp0, p, h0, h⟩
    · rintro ⟨p0, hp0, p, h0, h⟩
      exact ⟨p, (hsa.2 p).2 ⟨p0, hp0, h0⟩, h⟩
set_option maxRecDepth 100000 in
set_option maxHeartbeats 2000000 in
theorem ends_5 (Bm mb : Nat) (xs : List Nd) (b : List Int) (xb xo xc : Nat) (bv : Value) (i : Nat) (n : Nd) (hX : OkX xs) (hi : xs[i]? = some n) (hb : b.length ≤ 1048576) (hE : ∀ j, j < i → EndsC Bm mb xs b xb xo xc bv j) (hk : n.k = 5) : EndsC Bm mb xs b xb xo xc bv i := by
  intro v l W hM htab hv hl hlb
  obtain ⟨sp0, sc, rfl⟩ := hv.shape
  have hilt : i < xs.length := (List.getElem?_eq_some_iff.1 hi).1
  have hbW : Below W.heap.size W ((W.alloc (.cells #[.pointer (some ⟨Bm, 0, none⟩)] 93)).alloc (.cells #[.int .i64 (i : Int)] 3)) := ((Below.refl _ W).alloc (Nat.le_refl _) _).alloc (by simp) _
  have v3 := ((Blk.new W #[.pointer (some ⟨Bm, 0, none⟩)] 93).alloc (.cells #[.int .i64 (i : Int)] 3)).cell 0 rfl
  have v4 := (Blk.alloc1 W #[.pointer (some ⟨Bm, 0, none⟩)] #[.int .i64 (i : Int)] 93 3).cell 0 rfl
  have hsz2 : ((W.alloc (.cells #[.pointer (some ⟨Bm, 0, none⟩)] 93)).alloc (.cells #[.int .i64 (i : Int)] 3)).heap.size = W.heap.size + 2 := by simp
  have hM2 := hM.grows hbW
  have hT2 := tab_step htab hM.memo (grownBy_of_below hbW _)
  have hV2 := hv.grows hbW
  obtain ⟨x0, x1, x2, x3, x4, x5, x6, x7, x8⟩ := hM2.x.nine i n hi
  have m0 := hM2.m.cell 0 rfl
  obtain ⟨k, c, nl, nr, mn, mx⟩ := n
  dsimp only at hk x0 x1 x2 x3 x4 x5 x6 x7 x8
  have HI := Lib.hid hi
  have HX := Lib.hid hX
  have HL := Lib.hid hl
  have HLb := Lib.hid hlb
  have HbW := Lib.hid hbW
  have HM2 := Lib.hid hM2
  have HT2 := Lib.hid hT2
  have HV2 := Lib.hid hV2
  have Hs2 := Lib.hid hsz2
  have hxb := lt_of_cell x0
  have hBm := lt_of_cell m0
  have hl3 := lt_of_cell v3
  have hl4 := lt_of_cell v4
  dsimp only at hxb hBm hl3 hl4
  clear hM htab hv hi hX hl hlb hbW hM2 hT2 hV2 hsz2
  obtain rfl : k = 5 := hk
  go_enter Tryz.func40, Tryz.ntmps40
  go_wp2
  generalize ((W.alloc (.cells #[.pointer (some ⟨Bm, 0, none⟩)] 93)).alloc (.cells #[.int .i64 (i : Int)] 3)) = W2 at v3 v4 x0 x1 x2 x3 x4 x5 x6 x7 x8 m0 hxb hBm hl3 hl4 HbW HM2 HT2 HV2 Hs2 ⊢
  have hb5 : Below W2.heap.size W2 (W2.alloc (.cells #[.int .i64 5, .int .u64 (wd c 0), .int .u64 (wd c 1), .int .u64 (wd c 2), .int .u64 (wd c 3), .int .i64 nl, .int .i64 nr, .int .i64 mn, .int .i64 mx] 45)).drew := ((Below.refl _ W2).alloc (Nat.le_refl _) _).trans ((below_dr _).mono (by simp))
  have hn5 := (Blk.new W2 #[.int .i64 5, .int .u64 (wd c 0), .int .u64 (wd c 1), .int .u64 (wd c 2), .int .u64 (wd c 3), .int .i64 nl, .int .i64 nr, .int .i64 mn, .int .i64 mx] 45).drew
  go_region
  go_wp2_with fail
  generalize hW5 : (W2.alloc (.cells #[.int .i64 5, .int .u64 (wd c 0), .int .u64 (wd c 1), .int .u64 (wd c 2), .int .u64 (wd c 3), .int .i64 nl, .int .i64 nr, .int .i64 mn, .int .i64 mx] 45)).drew = W5 at hb5 hn5 ⊢
  clear hW5
  have v3 := (hb5.cell (lt_of_cell v3)).trans v3
  have v4 := (hb5.cell (lt_of_cell v4)).trans v4
  have hop := HX.out.two HI.out (.inr (.inl rfl))
  dsimp only at hop
  have HM5 := Lib.hid (HM2.out.grows hb5)
  have HT5 := Lib.hid (tab_step HT2.out HM2.out.memo (grownBy_of_below hb5 _))
  have HV5 := Lib.hid (HV2.out.grows hb5)
  have HVk : Hid (∀ w, W5.grownBy w (some mb) → IsS w (.slice sp0 l.length sc) l) := Lib.hid fun w hg => HV5.out.kept (keptM hg HM5.out.memo)
  have HB5 := Lib.hid (HbW.out.trans (hb5.mono HbW.out.size))
  have n5 := hn5.cell 5 rfl
  have n6 := hn5.cell 6 rfl
  have HE3 : Hid (∀ w v' l', W5.grownBy w (some mb) → MemoOk w mb xs b → IsS w v' l' → Good l' → (∀ q, On l' q → q ≤ b.length) → ∀ j : Int, 0 ≤ j → j < (i : Int) → Calls Tryz.prog 40 #[.pointer (some ⟨Bm, 0, none⟩), .int .i64 j, v'] w fun e W' =>
      (∃ v' m, e = .returned v' ∧ IsS W' v' m ∧ SetOf b (tr xs j.toNat) l' m) ∧ w.grownBy W' (some mb) ∧ MemoOk W' mb xs b) := Lib.hid fun w v' l' hg hm hs hgd hq j hj0 hj => by
    have h := hE j.toNat (by omega) v' l' w (HM5.out.step hg hm) (tab_step HT5.out HM5.out.memo hg) hs hgd hq
    rw [show ((j.toNat : Nat) : Int) = j by omega] at h
    exact h
  clear hE hb5 hn5
  have hcur := And.intro (grownBy_of_below (below_dr W5) (some mb)) (memo_drew HM5.out.memo)
  have v3 : W5.drew.cell? ⟨W.heap.size, 0, none⟩ = some (.pointer (some ⟨Bm, 0, none⟩)) := v3
  have n5 : W5.drew.cell? ⟨W2.heap.size, 5, none⟩ = some (.int .i64 nl) := n5
  have n6 : W5.drew.cell? ⟨W2.heap.size, 6, none⟩ = some (.int .i64 nr) := n6
  go_region_held3 (fun W' => W'.cell? ⟨W.heap.size, 0, none⟩ = some (.pointer (some ⟨Bm, 0, none⟩)) ∧ W'.cell? ⟨W2.heap.size, 5, none⟩ = some (.int .i64 nl) ∧ W'.cell? ⟨W2.heap.size, 6, none⟩ = some (.int .i64 nr)) (first | exact ⟨v3, n5, n6⟩ | exact ⟨cell_al v3, cell_al n5, cell_al n6⟩) (first
      | (go_at_call 40; ((with_reducible refine (HE3.out _ _ _ hcur.1 hcur.2 (HVk.out _ hcur.1) HL.out HLb.out nl hop.1.1 hop.1.2).mono ?_)); rintro e wn ⟨⟨va, ma, rfl, hvn, hsa⟩, hgw, hmn⟩; obtain ⟨pva, cva, rfl⟩ := hvn.shape; have v3 := keptM hgw hcur.2 _ _ v3; have n5 := keptM hgw hcur.2 _ _ n5; have n6 := keptM hgw hcur.2 _ _ n6; (try have hva := hva.kept (keptM hgw hcur.2)); (try have hvb := hvb.kept (keptM hgw hcur.2)); have hva := hvn; have hcur := And.intro (hcur.1.trans hgw) hmn)
      | (go_at_call 40; ((with_reducible refine (HE3.out _ _ _ hcur.1 hcur.2 (HVk.out _ hcur.1) HL.out HLb.out nr hop.2.1 hop.2.2).mono ?_)); rintro e wn ⟨⟨vb, mc, rfl, hvn, hsc⟩, hgw, hmn⟩; obtain ⟨pvb, cvb, rfl⟩ := hvn.shape; have v3 := keptM hgw hcur.2 _ _ v3; have n5 := keptM hgw hcur.2 _ _ n5; have n6 := keptM hgw hcur.2 _ _ n6; (try have hva := hva.kept (keptM hgw hcur.2)); (try have hvb := hvb.kept (keptM hgw hcur.2)); have hvb := hvn; have hcur := And.intro (hcur.1.trans hgw) hmn)
      | (go_at_call 59; ((with_reducible refine (union_sets _ [ma, mc] (b.length + 1) _ (isL_two hva hvb) (flat_two hsa hsc hb) (by simp) (by omega) (ends_two hsa hsc)).mono ?_)); rintro e wn ⟨⟨vu, mu, rfl, hownn, hgu, hleu, honu⟩, hbn⟩; have hbn := (((Below.refl _ _).alloc (Nat.le_refl _) _).trans (hbn.mono (by simp))); have hvn := own_isS hownn; obtain ⟨pvu, cvu, rfl⟩ := own_shape hownn; have hgw := grownBy_of_below hbn (some mb); have hmn := MemoOk.grows hcur.2 hbn; have v3 := keptM hgw hcur.2 _ _ v3; have n5 := keptM hgw hcur.2 _ _ n5; have n6 := keptM hgw hcur.2 _ _ n6; have hcur := And.intro (hcur.1.trans hgw) hmn))
  all_goals
    go_wp2
    go_ret
    refine ⟨⟨_, mu, rfl, hvn, hgu, fun q => ?_⟩, (grownBy_of_below HB5.out _).trans hcur.1, hcur.2⟩
    rw [honu q, tr_alt HX.out HI.out rfl]
    constructor
    · rintro ⟨m, hm, h⟩
      simp only [List.mem_cons, List.not_mem_nil, or_false] at hm
      rcases hm with rfl | rfl
      · obtain ⟨p, hp, h⟩ := (hsa.2 q).1 h
        exact ⟨p, hp, .inl h⟩
      · obtain ⟨p, hp, h⟩ := (hsc.2 q).1 h
        exact ⟨p, hp, .inr h⟩
    · rintro ⟨p, hp, h | h⟩
      · exact ⟨ma, by simp, (hsa.2 q).2 ⟨p, hp, h⟩⟩
      · exact ⟨mc, by simp, (hsc.2 q).2 ⟨p, hp, h⟩⟩
set_option maxRecDepth 100000 in
set_option maxHeartbeats 2000000 in
theorem ends_8 (Bm mb : Nat) (xs : List Nd) (b : List Int) (xb xo xc : Nat) (bv : Value) (i : Nat) (n : Nd) (hX : OkX xs) (hi : xs[i]? = some n) (hb : b.length ≤ 1048576) (hE : ∀ j, j < i → EndsC Bm mb xs b xb xo xc bv j) (hk : n.k = 8) : EndsC Bm mb xs b xb xo xc bv i := by
  intro v l W hM htab hv hl hlb
  obtain ⟨sp0, sc, rfl⟩ := hv.shape
  have hilt : i < xs.length := (List.getElem?_eq_some_iff.1 hi).1
  have hbW : Below W.heap.size W ((W.alloc (.cells #[.pointer (some ⟨Bm, 0, none⟩)] 93)).alloc (.cells #[.int .i64 (i : Int)] 3)) := ((Below.refl _ W).alloc (Nat.le_refl _) _).alloc (by simp) _
  have v3 := ((Blk.new W #[.pointer (some ⟨Bm, 0, none⟩)] 93).alloc (.cells #[.int .i64 (i : Int)] 3)).cell 0 rfl
  have v4 := (Blk.alloc1 W #[.pointer (some ⟨Bm, 0, none⟩)] #[.int .i64 (i : Int)] 93 3).cell 0 rfl
  have hsz2 : ((W.alloc (.cells #[.pointer (some ⟨Bm, 0, none⟩)] 93)).alloc (.cells #[.int .i64 (i : Int)] 3)).heap.size = W.heap.size + 2 := by simp
  have hM2 := hM.grows hbW
  have hT2 := tab_step htab hM.memo (grownBy_of_below hbW _)
  have hV2 := hv.grows hbW
  obtain ⟨x0, x1, x2, x3, x4, x5, x6, x7, x8⟩ := hM2.x.nine i n hi
  have m0 := hM2.m.cell 0 rfl
  obtain ⟨k, c, nl, nr, mn, mx⟩ := n
  dsimp only at hk x0 x1 x2 x3 x4 x5 x6 x7 x8
  have HI := Lib.hid hi
  have HX := Lib.hid hX
  have HL := Lib.hid hl
  have HLb := Lib.hid hlb
  have HbW := Lib.hid hbW
  have HM2 := Lib.hid hM2
  have HT2 := Lib.hid hT2
  have HV2 := Lib.hid hV2
  have Hs2 := Lib.hid hsz2
  have hxb := lt_of_cell x0
  have hBm := lt_of_cell m0
  have hl3 := lt_of_cell v3
  have hl4 := lt_of_cell v4
  dsimp only at hxb hBm hl3 hl4
  clear hM htab hv hi hX hl hlb hbW hM2 hT2 hV2 hsz2
  obtain rfl : k = 8 := hk
  go_enter Tryz.func40, Tryz.ntmps40
  go_wp2
  generalize ((W.alloc (.cells #[.pointer (some ⟨Bm, 0, none⟩)] 93)).alloc (.cells #[.int .i64 (i : Int)] 3)) = W2 at v3 v4 x0 x1 x2 x3 x4 x5 x6 x7 x8 m0 hxb hBm hl3 hl4 HbW HM2 HT2 HV2 Hs2 ⊢
  have hb5 : Below W2.heap.size W2 (W2.alloc (.cells #[.int .i64 8, .int .u64 (wd c 0), .int .u64 (wd c 1), .int .u64 (wd c 2), .int .u64 (wd c 3), .int .i64 nl, .int .i64 nr, .int .i64 mn, .int .i64 mx] 45)).drew := ((Below.refl _ W2).alloc (Nat.le_refl _) _).trans ((below_dr _).mono (by simp))
  have hn5 := (Blk.new W2 #[.int .i64 8, .int .u64 (wd c 0), .int .u64 (wd c 1), .int .u64 (wd c 2), .int .u64 (wd c 3), .int .i64 nl, .int .i64 nr, .int .i64 mn, .int .i64 mx] 45).drew
  go_region
  go_wp2_with fail
  generalize hW5 : (W2.alloc (.cells #[.int .i64 8, .int .u64 (wd c 0), .int .u64 (wd c 1), .int .u64 (wd c 2), .int .u64 (wd c 3), .int .i64 nl, .int .i64 nr, .int .i64 mn, .int .i64 mx] 45)).drew = W5 at hb5 hn5 ⊢
  clear hW5
  have v3 := (hb5.cell (lt_of_cell v3)).trans v3
  have v4 := (hb5.cell (lt_of_cell v4)).trans v4
  have HM5 := Lib.hid (HM2.out.grows hb5)
  have HT5 := Lib.hid (tab_step HT2.out HM2.out.memo (grownBy_of_below hb5 _))
  have HB5 := Lib.hid (HbW.out.trans (hb5.mono HbW.out.size))
  have HMe := Lib.hid (memoized_78 Bm mb xs b xb xo xc bv i _ HX.out HI.out hb hE (fun hk => rep_any Bm mb xs b xb xo xc bv i _ HX.out HI.out hk hb hE) _ l W5 HM5.out HT5.out (HV2.out.grows hb5) HL.out HLb.out (.inl rfl))
  clear hE hb5 hn5
  go_wp2_with (go_at_call 60; refine HMe.out.mono ?_; rintro e W6 ⟨⟨v6, m6, rfl, hv6, hs6⟩, hg6, hm6⟩; obtain ⟨p6, c6, rfl⟩ := hv6.shape)
  go_ret
  exact ⟨⟨_, m6, rfl, hv6, hs6⟩, (grownBy_of_below HB5.out _).trans hg6, hm6⟩
end Go.Proofs.YtgbbjobmcbdhdaaGreatDoor
