/-
  Walk: refute.
-/
import Derived.Test.YtmhhfommgdljkaaRg
set_option linter.unusedSimpArgs false
set_option linter.unusedVariables false
namespace Go.Proofs.Ytmhhfommgdljkaa
open Go.RowKit Go.Lib

/-- what refute leaves: a panic with the least solution, or steps that close the branch. -/
def RefRes (base : Nat) (w : World) (F : Nat) (vt vr : Value) (rs : List Rw) (b : List Iv) (br : List Rw) (P : List Sp) (e : Ending) (w' : World) : Prop :=
  (KeptTy KS w w' ∧ Below base w w') ∧
  ((∃ x v, Least rs b x ∧ e = .panicked [{ v := .iface 51 v, recovered := false }] ∧ OwnI base w' v x) ∨
   (NoSol rs b ∧ e = .returned (.tuple #[]) ∧ ∃ vs N, Blk w' F #[vt, vr, vs] 54 ∧ PfAt base w' vs (P ++ N) ∧ Seg P.length br N ∧ N.length + 1 ≤ 3 * vol b))
/-- what is given to refute. -/
structure RefIn (base n : Nat) (w : World) (F : Nat) (vt vr vs : Value) (rs : List Rw) (B : List Iv) (br : List Rw) (P : List Sp) : Prop where
  blk : Blk w F #[vt, vr, vs] 54
  pf : PfAt base w vs P
  len : B.length = 12
  full : Full (B.take n)
  rel : Rel rs n (B.take n) br
  rl : rs.length ≤ br.length
  pl : P.length + 3 * vol (B.take n) ≤ 100000
  bl : br.length + vol (B.take n) ≤ 100000
set_option maxRecDepth 100000 in
set_option maxHeartbeats 8000000 in
theorem refute_any (F base n : Nat) (tp rp : Option Addr) (tc rc : Nat) (rs : List Rw) (w0 : World) (hbF : base ≤ F) (hn : n ≤ 12) (hrl : rs.length ≤ 24)
    (hR : ∀ W, Below base w0 W → IsRs W (.slice rp rs.length rc) rs) (hok : ∀ r ∈ rs, okRow n r = true) :
    ∀ (N : Nat) (vs : Value) (B : List Iv) (br : List Rw) (P : List Sp) (w : World), vol (B.take n) ≤ N → Below base w0 w → RefIn base n w F (.slice tp n tc) (.slice rp rs.length rc) vs rs B br P →
    Calls Try.prog 24 #[.pointer (some ⟨F, 0, none⟩), .agg (boxA B), .int .i64 ((br.length : Nat) : Int)] w (RefRes base w F (.slice tp n tc) (.slice rp rs.length rc) rs (B.take n) br P) := by
  intro N
  have HR := Lib.hid hR
  have HO := Lib.hid hok
  clear hR hok
  induction N with
  | zero =>
    intro vs B br P w h1 _ h2
    have := vol_pos h2.full
    omega
  | succ N ih =>
    intro vs B br P w hvol hb0 hI
    have HI := Lib.hid hI
    have HIH := Lib.hid ih
    have HVol := Lib.hid hvol
    have H0 := Lib.hid hb0
    have hFl := hI.blk.lt
    have hpl := hI.pl
    have hbl := hI.bl
    have hvp := vol_pos hI.full
    have hb1 : Below w.heap.size w (w.alloc (.cells (boxA B) 58)) := by go_grown
    have D1 : BxAt (w.alloc (.cells (boxA B) 58)) w.heap.size B := ⟨Blk.new w _ _, hI.len⟩
    have F1 := hI.blk.grows hb1
    clear hI hb0 ih hvol
    go_enter Try.func24, Try.ntmps24
    go_wp2
    generalize (w.alloc (.cells (boxA B) 58)) = w1 at hb1 D1 F1 ⊢
    have HW1 := Lib.hid hb1
    have HD1 := Lib.hid D1
    have HF1 := Lib.hid F1
    clear hb1 D1 F1
    go_cut [6] (fun s6 wx => s6 = .int .i64 (failI rs (B.take n)) ∧ Below w1.heap.size w1 wx)
    case first =>
      have hR1 := HR.out _ (below_drew (H0.out.trans (HW1.out.mono (by omega))))
      refine wp_held 7 (fun W => W.cell? ⟨F, 1, none⟩ = some (.slice rp rs.length rc) ∧ BxAt W w.heap.size B) (by kernel_rfl) ⟨(HF1.out.drew).cell 1 rfl, HD1.out.grows (below_drew (Below.refl _ _))⟩ (fun hHeld => ?_)
      refine wpAnyZ_take (i := 0) (v := .pointer (some ⟨F, 0, none⟩)) rfl (by kernel_rfl) (by decide) (by kernel_rfl) (fun _ _ _ h => h) _ _ _ _ (by kernel_rfl) (by kernel_rfl) (Or.inl ⟨by rfl, by intro W hW; obtain ⟨s0, s1⟩ := hW; go_simp⟩) hHeld ?_
      simp only [Act.put, List.setIfInBounds_toArray, List.set_cons_zero, List.set_cons_succ]
      refine wpAnyZ_take (i := 1) (v := .pointer (some ⟨F, 0, none⟩)) rfl (by kernel_rfl) (by decide) (by kernel_rfl) (fun _ _ _ h => h) _ _ _ _ (by kernel_rfl) (by kernel_rfl) (Or.inl ⟨by rfl, by intro W hW; obtain ⟨s0, s1⟩ := hW; go_simp⟩) hHeld ?_
      simp only [Act.put, List.setIfInBounds_toArray, List.set_cons_zero, List.set_cons_succ]
      refine wpAnyZ_take (i := 2) (v := .pointer (some ⟨F, 0, none⟩)) rfl (by kernel_rfl) (by decide) (by kernel_rfl) (fun _ _ _ h => h) _ _ _ _ (by kernel_rfl) (by kernel_rfl) (Or.inl ⟨by rfl, by intro W hW; obtain ⟨s0, s1⟩ := hW; go_simp⟩) hHeld ?_
      simp only [Act.put, List.setIfInBounds_toArray, List.set_cons_zero, List.set_cons_succ]
      refine wpAnyZ_take (i := 3) (v := .pointer (some ⟨F, 1, none⟩)) rfl (by kernel_rfl) (by decide) (by kernel_rfl) (fun _ _ _ h => h) _ _ _ _ (by kernel_rfl) (by kernel_rfl) (Or.inl ⟨by rfl, by intro W hW; obtain ⟨s0, s1⟩ := hW; go_simp⟩) hHeld ?_
      simp only [Act.put, List.setIfInBounds_toArray, List.set_cons_zero, List.set_cons_succ]
      refine wpAnyZ_take (i := 4) (v := .slice rp rs.length rc) rfl (by kernel_rfl) (by decide) (by kernel_rfl) (fun _ _ _ h => h) _ _ _ _ (by kernel_rfl) (by kernel_rfl) (Or.inl ⟨by rfl, by intro W hW; obtain ⟨s0, s1⟩ := hW; go_simp⟩) hHeld ?_
      simp only [Act.put, List.setIfInBounds_toArray, List.set_cons_zero, List.set_cons_succ]
      refine wpAnyZ_take (i := 5) (v := .agg (boxA B)) rfl (by kernel_rfl) (by decide) (by kernel_rfl) (fun _ _ _ h => h) _ _ _ _ (by kernel_rfl) (by kernel_rfl) (Or.inl ⟨by rfl, fun W hW => hW.2.yields rfl rfl⟩) hHeld ?_
      simp only [Act.put, List.setIfInBounds_toArray, List.set_cons_zero, List.set_cons_succ]
      refine wpAnyZ_one (j := 6) (by kernel_rfl) rfl (fun K hK => ?_)
      go_simp
      refine (failing_any _ rs B n w1.drew hR1 HI.out.len hn HI.out.full (by omega) HO.out).mono ?_
      rintro e w2 ⟨rfl, hb2⟩
      have hb12 : Below w1.heap.size w1 w2 := below_two (below_drew (Below.refl _ _)) hb2
      refine hK.out _ _ (.inr ⟨(HF1.out.grows hb12).cell 1 rfl, HD1.out.grows hb12⟩) ?_
      have HB12 := Lib.hid hb12
      clear hK K hHeld hb2 hb12 hR1
      try simp only [Act.put, List.setIfInBounds_toArray, List.set_cons_zero, List.set_cons_succ]
      refine wpAnyZ_one (j := 7) (by kernel_rfl) rfl (fun K hK => ?_)
      go_simp
      refine hK.out _ _ (.inl rfl) ?_
      clear hK K
      refine wpAnyZ_done (by kernel_rfl) ?_
      try simp only [Act.put, List.setIfInBounds_toArray, List.set_cons_zero, List.set_cons_succ]
      go_wp2_with fail
      go_meet
      exact ⟨rfl, HB12.out⟩
    case rest =>
      obtain ⟨rfl, hbc⟩ := hcut
      have HF2 := Lib.hid (HF1.out.grows hbc)
      have HD2 := Lib.hid (HD1.out.grows hbc)
      have HW2 := Lib.hid (below_two HW1.out hbc)
      clear hbc HF1 HD1 HW1
      by_cases hf : failK rs (B.take n) < rs.length
      · obtain ⟨r, hr, hg⟩ := failK_lt hf
        have hfi : failI rs (B.take n) = (failK rs (B.take n) : Int) := by unfold failI; rw [if_pos hf]
        have HNo := Lib.hid (noSol_of_fail hf)
        rw [hfi]
        have hkr := lt_of_get hr
        obtain ⟨t, ht, hta⟩ := leaf_sum HI.out.rel HI.out.full hr hg (by omega)
        have HSeg := Lib.hid (seg_leaf (i := P.length) ht hta)
        clear hf hfi ht hta hg
        generalize failK rs (B.take n) = kf at hr hkr HSeg
        have HX := Lib.hid (exclude_any F base kf br.length n (.slice tp n tc) (.slice rp rs.length rc) vs rs r B P wc HF2.out hbF (HI.out.pf.below HW2.out) (HR.out _ (H0.out.trans (HW2.out.mono (by omega)))) hr (HO.out r (List.mem_of_getElem? hr)) HI.out.len hn (by have := HI.out.rl; omega) (by omega) (by omega)
          (fun i v hv => by
            obtain ⟨p1, p2, -, -⟩ := HI.out.rel.pos i v hv
            have p3 := lt_of_get (HI.out.rel.low i v hv)
            have p4 := lt_of_get (HI.out.rel.high i v hv)
            omega))
        clear hr
        go_wp2_with (first | (refine wpList_load_row rfl 58 _ rfl w.heap.size rfl 58 _ (0, 0) _ HD2.out.1.is Try.underlying58 rfl (box_info HI.out.len) ?_) | fail)
        refine HX.out.mono ?_
        rintro e w3 ⟨rfl, ⟨vs3, hF3, hP3⟩, hk3, hb3⟩
        have HE := Lib.hid (And.intro hF3 (And.intro hP3 (And.intro hk3 hb3)))
        clear hF3 hP3 hk3 hb3
        go_wp2
        go_end0
        obtain ⟨hF3, hP3, hk3, hb3⟩ := HE.out
        refine ⟨⟨(KeptTy.below HW2.out).trans hk3, (HW2.out.mono (by omega)).trans hb3⟩, .inr ⟨HNo.out, rfl, vs3, _, hF3, hP3, HSeg.out, ?_⟩⟩
        simp; omega
      · have hfi : failI rs (B.take n) = -1 := by unfold failI; rw [if_neg hf]
        have HNF := Lib.hid hf
        rw [hfi]
        clear hf hfi
        obtain ⟨w2, rfl⟩ : ∃ w2 : World, w2 = wc := ⟨_, rfl⟩
        have htl : (B.take n).length = n := by rw [List.length_take, HI.out.len]; omega
        have HTl := Lib.hid htl
        clear htl
        go_upto_region 4 with fail
        go_cut [7] (fun s7 wx => s7 = .int .i64 ((openK (B.take n) : Nat) : Int) ∧ Below w2.heap.size w2 wx)
        case first =>
          refine wp_held 8 (fun W => W.cell? ⟨F, 0, none⟩ = some (.slice tp n tc) ∧ BxAt W w.heap.size B) (by kernel_rfl) ⟨(HF2.out.drew).cell 0 rfl, HD2.out.grows (below_drew (Below.refl _ _))⟩ (fun hHeld => ?_)
          refine wpAnyZ_take (i := 0) (v := .agg (boxA B)) rfl (by kernel_rfl) (by decide) (by kernel_rfl) (fun _ _ _ h => h) _ _ _ _ (by kernel_rfl) (by kernel_rfl) (Or.inl ⟨by rfl, fun W hW => hW.2.yields rfl rfl⟩) hHeld ?_
          simp only [Act.put, List.setIfInBounds_toArray, List.set_cons_zero, List.set_cons_succ]
          refine wpAnyZ_take (i := 1) (v := .pointer (some ⟨F, 0, none⟩)) rfl (by kernel_rfl) (by decide) (by kernel_rfl) (fun _ _ _ h => h) _ _ _ _ (by kernel_rfl) (by kernel_rfl) (Or.inl ⟨by rfl, by intro W hW; obtain ⟨s0, s1⟩ := hW; go_simp⟩) hHeld ?_
          simp only [Act.put, List.setIfInBounds_toArray, List.set_cons_zero, List.set_cons_succ]
          refine wpAnyZ_take (i := 2) (v := .pointer (some ⟨F, 0, none⟩)) rfl (by kernel_rfl) (by decide) (by kernel_rfl) (fun _ _ _ h => h) _ _ _ _ (by kernel_rfl) (by kernel_rfl) (Or.inl ⟨by rfl, by intro W hW; obtain ⟨s0, s1⟩ := hW; go_simp⟩) hHeld ?_
          simp only [Act.put, List.setIfInBounds_toArray, List.set_cons_zero, List.set_cons_succ]
          refine wpAnyZ_take (i := 3) (v := .pointer (some ⟨F, 0, none⟩)) rfl (by kernel_rfl) (by decide) (by kernel_rfl) (fun _ _ _ h => h) _ _ _ _ (by kernel_rfl) (by kernel_rfl) (Or.inl ⟨by rfl, by intro W hW; obtain ⟨s0, s1⟩ := hW; go_simp⟩) hHeld ?_
          simp only [Act.put, List.setIfInBounds_toArray, List.set_cons_zero, List.set_cons_succ]
          refine wpAnyZ_take (i := 4) (v := .pointer (some ⟨F, 0, none⟩)) rfl (by kernel_rfl) (by decide) (by kernel_rfl) (fun _ _ _ h => h) _ _ _ _ (by kernel_rfl) (by kernel_rfl) (Or.inl ⟨by rfl, by intro W hW; obtain ⟨s0, s1⟩ := hW; go_simp⟩) hHeld ?_
          simp only [Act.put, List.setIfInBounds_toArray, List.set_cons_zero, List.set_cons_succ]
          refine wpAnyZ_take (i := 5) (v := .slice tp n tc) rfl (by kernel_rfl) (by decide) (by kernel_rfl) (fun _ _ _ h => h) _ _ _ _ (by kernel_rfl) (by kernel_rfl) (Or.inl ⟨by rfl, by intro W hW; obtain ⟨s0, s1⟩ := hW; go_simp⟩) hHeld ?_
          simp only [Act.put, List.setIfInBounds_toArray, List.set_cons_zero, List.set_cons_succ]
          refine wpAnyZ_take (i := 6) (v := .int .i64 (n : Int)) rfl (by kernel_rfl) (by decide) (by kernel_rfl) (fun _ _ _ h => h) _ _ _ _ (by kernel_rfl) (by kernel_rfl) (Or.inl ⟨by rfl, by intro W hW; obtain ⟨s0, s1⟩ := hW; go_simp⟩) hHeld ?_
          simp only [Act.put, List.setIfInBounds_toArray, List.set_cons_zero, List.set_cons_succ]
          refine wpAnyZ_one (j := 7) (by kernel_rfl) rfl (fun K hK => ?_)
          go_simp
          refine (open_any B n w2.drew HI.out.len hn).mono ?_
          rintro e w3 ⟨rfl, hb3⟩
          have hb13 : Below w2.heap.size w2 w3 := below_two (below_drew (Below.refl _ _)) hb3
          refine hK.out _ _ (.inr ⟨(HF2.out.grows hb13).cell 0 rfl, HD2.out.grows hb13⟩) ?_
          have HB13 := Lib.hid hb13
          clear hK K hHeld hb3 hb13
          try simp only [Act.put, List.setIfInBounds_toArray, List.set_cons_zero, List.set_cons_succ]
          refine wpAnyZ_one (j := 8) (by kernel_rfl) rfl (fun K hK => ?_)
          go_simp
          refine hK.out _ _ (.inl rfl) ?_
          clear hK K
          refine wpAnyZ_done (by kernel_rfl) ?_
          try simp only [Act.put, List.setIfInBounds_toArray, List.set_cons_zero, List.set_cons_succ]
          go_wp2_with fail
          go_meet
          exact ⟨rfl, HB13.out⟩
        case rest =>
          obtain ⟨rfl, hbc⟩ := hcut
          have HF3 := Lib.hid (HF2.out.grows hbc)
          have HD3 := Lib.hid (HD2.out.grows hbc)
          have HW3 := Lib.hid (below_two HW2.out hbc)
          clear hbc HF2 HD2 HW2
          obtain ⟨w3, rfl⟩ : ∃ w3 : World, w3 = wc := ⟨_, rfl⟩
          have f0 := HF3.out.cell 0 rfl
          by_cases ho : openK (B.take n) < (B.take n).length
          · have HOp := Lib.hid ho
            have hov := openK_lt ho
            have hol := ho
            rw [HTl.out] at hol
            have hneq : (((openK (B.take n) : Nat) : Int) == (n : Int)) = false := by rw [beq_eq_false_iff_ne]; omega
            obtain ⟨vi, hvi, hvlt⟩ := hov
            have HVi := Lib.hid hvi
            have hBi : B[openK (B.take n)]? = some vi := by rw [List.getElem?_take_of_lt hol] at hvi; exact hvi
            obtain ⟨hvf0, hvf1, hvf2⟩ := HI.out.full vi (List.mem_of_getElem? hvi)
            have HVl := Lib.hid hvlt
            have HBi := Lib.hid hBi
            clear ho hvi hBi hvlt
            generalize hio : openK (B.take n) = io at hol hneq HVi HBi ⊢
            have HIo := Lib.hid hio
            clear hio
            go_wp2_with (first | (refine wpList_load_row rfl 58 _ rfl w.heap.size rfl 58 _ (0, 0) _ HD3.out.1.is Try.underlying58 rfl (box_info HI.out.len) ?_) | fail)
            refine (halves_any B io vi w3 HI.out.len HBi.out ⟨hvf0, hvf1, hvf2⟩).mono ?_
            rintro e w4 ⟨rfl, hb4⟩
            have HF4 := Lib.hid (HF3.out.grows hb4)
            have HW4 := Lib.hid (below_two HW3.out hb4)
            clear hb4 HF3 HD3 HW3 f0
            have hLl : (lower B io vi vi.hr).length = 12 := by rw [lower_length]; exact HI.out.len
            have hUl : (upper B io vi vi.lr).length = 12 := by rw [upper_length]; exact HI.out.len
            have hLv : (lower B io vi vi.hr)[io]? = some { vi with hi := (vi.lo + vi.hi) / 2 } := by unfold lower; rw [set_at HBi.out, if_pos rfl]
            have hUv : (upper B io vi vi.lr)[io]? = some { vi with lo := (vi.lo + vi.hi) / 2 + 1 } := by unfold upper; rw [set_at HBi.out, if_pos rfl]
            have hLe : ∀ x : Int, (lower B io vi vi.hr).set io { vi with hi := (vi.lo + vi.hi) / 2, hr := x } = lower B io vi x := fun x => by unfold lower; rw [List.set_set]
            have hUe : ∀ x : Int, (upper B io vi vi.lr).set io { vi with lo := (vi.lo + vi.hi) / 2 + 1, lr := x } = upper B io vi x := fun x => by unfold upper; rw [List.set_set]
            have HLL := Lib.hid (And.intro hLl hUl)
            have HLv := Lib.hid (And.intro hLv hUv)
            have HLe := Lib.hid (And.intro hLe hUe)
            clear hLl hUl hLv hUv hLe hUe
            generalize lower B io vi vi.hr = L at HLL HLv HLe ⊢
            generalize upper B io vi vi.lr = U at HLL HLv HLe ⊢
            go_upto_region 14 with (first
              | (refine wpList_store_row rfl 58 _ _ rfl w4.heap.size (boxA L) rfl rfl 58 zA ((Blk.new w4 zA 58).alloc _).is (box_info HLL.out.1) (by rw [boxA_size, HLL.out.1]; rfl) (box_one L) ?_)
              | (refine wpList_store_row rfl 58 _ _ rfl (w4.heap.size + 1) (boxA U) rfl rfl 58 zA ((Blk.alloc1 w4 zA zA 58 58).row (by omega) _).is (box_info HLL.out.2) (by rw [boxA_size, HLL.out.2]; rfl) (box_one U) ?_)
              | fail)
            refine wp_world fun w5 hw5 => ?_
            have F6 : BxAt w5 w4.heap.size L := by
              rw [hw5]
              have e1 := BxAt.row (B := L) ((Blk.new w4 zA 58).alloc (.cells zA 58)) HLL.out.1
              exact ⟨Blk.row e1.1 (by omega) _, e1.2⟩
            have F7 : BxAt w5 (w4.heap.size + 1) U := by
              rw [hw5]
              exact BxAt.row (B := U) ((Blk.alloc1 w4 zA zA 58 58).row (by omega) _) HLL.out.2
            have hb5 : Below w4.heap.size w4 w5 := by
              rw [hw5]
              exact below_row (below_row (((Below.refl _ w4).alloc (Nat.le_refl _) _).alloc (by simp) _) (Nat.le_refl _) _) (by omega) _
            clear hw5
            obtain ⟨a0, a1, a2, a3⟩ := F6.cells HLv.out.1
            obtain ⟨c0, c1, c2, c3⟩ := F7.cells HLv.out.2
            have ga := F6.free (io * 4 + 3)
            have gc := F7.free (io * 4 + 2)
            have la := F6.1.lt
            have lc := F7.1.lt
            have HG6 := Lib.hid F6
            have HG7 := Lib.hid F7
            have HB5 := Lib.hid hb5
            have io12 : io < 12 := by omega
            have io12' : (io : Int) < 12 := by omega
            clear F6 F7 hb5
            go_upto_region 15 with fail
            refine wp_world fun w6 hw6 => ?_
            have hsi : w4.heap.size ≠ w4.heap.size + 1 := by omega
            have G6 : BxAt w6 w4.heap.size (lower B io vi (br.length : Int)) := by
              rw [hw6, ← HLe.out.1]
              have h1 := (HG6.out.set HLv.out.1 (br.length : Int)).2.2.2
              exact ⟨h1.1.other (by show _ ≠ w4.heap.size + 1; omega) _, h1.2⟩
            have G7 : BxAt w6 (w4.heap.size + 1) (upper B io vi (br.length : Int)) := by
              rw [hw6, ← HLe.out.2]
              have h1 := ((HG7.out.other (a := ⟨w4.heap.size, io * 4 + 3, none⟩) (by show _ ≠ w4.heap.size; omega) (.int .i64 (br.length : Int))).set HLv.out.2 (br.length : Int)).2.2.1
              exact h1
            have hb6 : Below w4.heap.size w4 w6 := by
              rw [hw6]
              exact (HB5.out.setCell (p := ⟨w4.heap.size, io * 4 + 3, none⟩) (Nat.le_refl _) _).setCell (p := ⟨w4.heap.size + 1, io * 4 + 2, none⟩) (by show _ ≤ w4.heap.size + 1; omega) _
            clear hw6 a0 a1 a2 a3 c0 c1 c2 c3 ga gc la lc HG6 HG7 HB5
            have hb46 := hb6
            have hmid1 : 0 ≤ (vi.lo + vi.hi) / 2 := by omega
            have hmid2 : (vi.lo + vi.hi) / 2 ≤ 64 := by omega
            have HW6 := Lib.hid (below_two HW4.out hb6)
            have HF6 := Lib.hid (HF4.out.grows hb6)
            have HP6 := Lib.hid (HI.out.pf.below HW6.out)
            have HG6 := Lib.hid G6
            have HG7 := Lib.hid G7
            have hLn : ∀ x, (lower B io vi x)[io]? = some { vi with hi := (vi.lo + vi.hi) / 2, hr := x } := fun x => by unfold lower; rw [set_at HBi.out, if_pos rfl]
            have m1 := (G6.cells (hLn _)).2.1
            simp only at m1
            have hw6 := HW6.out.size
            clear hb6 hb46 G6 G7 hLn
            obtain ⟨sp, sc, hvs⟩ := HI.out.pf.shape
            subst hvs
            obtain ⟨Lq, hLq, hoq, hpq⟩ := HP6.out
            have hLl : Lq.length = P.length := by rw [← hLq, List.length_map]
            have HLq := Lib.hid (And.intro hLq hpq)
            have HOq := Lib.hid hoq
            have HLl := Lib.hid hLl
            have hlb : Lq.length ≤ 100000 := by omega
            clear hLq hoq hpq hLl
            obtain ⟨is, his, hs0, hs1, hs2⟩ := info_parts infoSt
            have f2 := HF6.out.cell 2 rfl
            have HFg := Lib.hid (fun (o : Obj) (w7 : World) (hg : (w6.drew.alloc o).grownBy w7 (Value.slice sp P.length sc).ownBlock) => (show Blk w7 F #[.slice tp n tc, .slice rp rs.length rc, .slice sp P.length sc] 54 from (HF6.out.drew.alloc o).grownBy hg (own_ne (own_alloc HOq.out o) (HF6.out.alloc o) (by decide))))
            have hbw6 : base ≤ w6.heap.size := by omega
            have HKg := Lib.hid (fun (o : Obj) (w7 : World) (hg : (w6.drew.alloc o).grownBy w7 (Value.slice sp P.length sc).ownBlock) => (show KeptTy KS w6 w7 ∧ Below base w6 w7 from
              ⟨(KeptTy.below (((Below.refl w6.heap.size w6).drew).alloc (Nat.le_refl _) o)).trans (KeptTy.grown hg (own_alloc (HOq.out : w6.drew.ownsRow _ _ _ _ _ _) o) KS_step), (((Below.refl base w6).drew).alloc hbw6 o).grown hg (by simp; omega) (own_ge HOq.out)⟩))
            generalize hmd : (vi.lo + vi.hi) / 2 = mid at hmid1 hmid2 m1 ⊢
            have HMd := Lib.hid hmd
            clear hmd
            have hF6l := HF6.out.lt
            have hG6l := HG6.out.1.lt
            go_upto_region 16 with fail
            go_wp2_with fail
            go_cut [13] (fun s13 wx => s13 = .int .i64 (P.length : Int) ∧ ∃ vs8, Blk wx F #[.slice tp n tc, .slice rp rs.length rc, vs8] 54 ∧ PfAt base wx vs8 (P ++ [⟨3, [], 0, 0, (io : Int), mid, ((P.length + 1 : Nat) : Int), 0⟩]) ∧ KeptTy KS w6 wx ∧ Below base w6 wx)
            case first =>
              go_region_law (first | ((refine grow_step rfl _ _ 29 rfl rfl base 49 is _ 8 80 Try.underlying29 his hs0 hs1 hs2 rfl (by decide) (.slice sp P.length sc) Lq.length (cellsOf Lq) rfl (own_alloc HOq.out _) ⟨w6.heap.size, 0, none⟩ 1 1 [.int .i64 3, .slice none 0 0, .int .i64 0, .int .i64 0, .int .i64 io, .int .i64 mid, .int .i64 (IntKind.i64.wrap ((P.length : Int) + 1)), .int .i64 0] rfl rfl (cells_new _ _ _ _ rfl) (one_all rfl) (by unfold maxLen; omega) (by omega) (by simp; omega) ?_; intro v7 w7 hown7 hg7; obtain ⟨p7, c7, rfl⟩ := own_shape hown7; have hF7 := HFg.out _ _ hg7; have f7 := hF7.cell 2 rfl; have g7 := hF7.free 2; have hl7 := hF7.lt; have HO7 := Lib.hid hown7; have HKB := Lib.hid (HKg.out _ _ hg7); have HF7 := Lib.hid hF7; clear hown7 hg7 hF7)) | fail)
              all_goals
                go_wp2_with fail
                go_meet
                obtain ⟨hk7, hb7⟩ := HKB.out
                have hps := push_step (base := base) (F := F) ⟨3, [], 0, 0, (io : Int), mid, ((P.length + 1 : Nat) : Int), 0⟩ (.slice none 0 0) _ (by rw [show IntKind.i64.wrap ((P.length : Int) + 1) = ((P.length + 1 : Nat) : Int) by rw [IntWalk.i64_in _ (by omega)]; omega]; rfl) HLq.out.1 HLq.out.2 (OwnI.nil _ _) HO7.out HF7.out hk7
                exact ⟨rfl, _, hps.1, hps.2.1, hps.2.2, hb7.setCell (p := ⟨F, 2, none⟩) hbF _⟩
            case rest =>
              obtain ⟨rfl, vs8, hF8, hP8, hk8, hb8⟩ := hcut
              obtain ⟨w8, rfl⟩ : ∃ w8 : World, w8 = wc := ⟨_, rfl⟩
              have hvv := vol_halves HVi.out HVl.out (br.length : Int) (br.length : Int)
              have hLF : Full ((lower B io vi (br.length : Int)).take n) := by rw [lower_take]; exact Full.lower HI.out.full HVi.out HVl.out _
              have hUF : Full ((upper B io vi (br.length : Int)).take n) := by rw [upper_take]; exact Full.upper HI.out.full HVi.out HVl.out _
              have hp1 := vol_pos hLF
              have hp2 := vol_pos hUF
              rw [lower_take] at hp1
              rw [upper_take] at hp2
              have hR1 : Rel rs n ((lower B io vi (br.length : Int)).take n) (br ++ [atMost n io mid]) := by rw [lower_take, ← HMd.out]; exact HI.out.rel.lower HVi.out HI.out.full HI.out.rl
              have hR2 : Rel rs n ((upper B io vi (br.length : Int)).take n) (br ++ [atLeast n io (mid + 1)]) := by rw [upper_take, ← HMd.out]; exact HI.out.rel.upper HVi.out HI.out.full HI.out.rl
              have hvl := HVol.out
              have hk18 : KeptTy KS w w8 := (KeptTy.below HW6.out).trans hk8
              have hb18 : Below base w w8 := (HW6.out.mono (by omega)).trans hb8
              have HFr := Lib.hid (And.intro hk18 hb18)
              have hIn1 : RefIn base n w8 F (.slice tp n tc) (.slice rp rs.length rc) vs8 rs (lower B io vi (br.length : Int)) (br ++ [atMost n io mid]) (P ++ [⟨3, [], 0, 0, (io : Int), mid, ((P.length + 1 : Nat) : Int), 0⟩]) :=
                ⟨hF8, hP8, by rw [lower_length]; exact HI.out.len, hLF, hR1, by have := HI.out.rl; rw [List.length_append]; simp; omega, by rw [lower_take, List.length_append]; simp; omega, by rw [lower_take, List.length_append]; simp; omega⟩
              have HX1 := Lib.hid (HIH.out vs8 _ _ _ w8 (by rw [lower_take]; omega) (H0.out.trans hb18) hIn1)
              have e1 : (((br ++ [atMost n io mid]).length : Nat) : Int) = (br.length : Int) + 1 := by simp
              rw [e1] at HX1
              have hL12 : (lower B io vi (br.length : Int)).length = 12 := by rw [lower_length]; exact HI.out.len
              have hU12 : (upper B io vi (br.length : Int)).length = 12 := by rw [upper_length]; exact HI.out.len
              have HA6 := Lib.hid (HG6.out.keep hk8)
              have HA7 := Lib.hid (HG7.out.keep hk8)
              have HR2 := Lib.hid (And.intro hR2 hUF)
              have HV2 := Lib.hid (And.intro hvv (And.intro hp1 hp2))
              clear hvv hLF hUF hp1 hp2 hR1 hR2 hk18 hb18 hIn1 e1 hF8 hP8 hk8 hb8 HF6 HP6 HG6 HG7 HW6 HLq HOq HLl hlb HFg HKg f2 m1 hF6l hG6l
              go_wp2_with (first | (refine wpList_load_row rfl 58 _ rfl w4.heap.size rfl 58 _ (0, 0) _ HA6.out.1.is Try.underlying58 rfl (box_info hL12) ?_) | fail)
              refine HX1.out.mono ?_
              rintro e w9 ⟨⟨hk9, hb9⟩, ⟨x, v, hle, rfl, hown⟩ | ⟨hno, rfl, vs9, N1, hF9, hP9, hS9, hl9⟩⟩
              · have HP9 := Lib.hid (And.intro hk9 (And.intro hb9 (And.intro hle hown)))
                clear hk9 hb9 hle hown
                go_wp2
                obtain ⟨hk9, hb9, hle, hown⟩ := HP9.out
                obtain ⟨hk18, hb18⟩ := HFr.out
                rw [lower_take] at hle
                refine ⟨rfl, ⟨hk18.trans hk9, hb18.trans hb9⟩, .inl ⟨x, v, ?_, rfl, hown⟩⟩
                have hop := HOp.out
                have hio := HIo.out
                subst hio
                exact hle.of_lower hop HI.out.full HVi.out
              · rw [lower_take] at hno hl9
                have HNo1 := Lib.hid hno
                have HS9 := Lib.hid hS9
                have HN9 := Lib.hid hl9
                have HFr9 := Lib.hid (show KeptTy KS w w9 ∧ Below base w w9 from ⟨HFr.out.1.trans hk9, HFr.out.2.trans hb9⟩)
                have HB7 := Lib.hid (HA7.out.keep hk9)
                have hnl : ((P ++ [(⟨3, [], 0, 0, (io : Int), mid, ((P.length + 1 : Nat) : Int), 0⟩ : Sp)]) ++ N1).length = P.length + 1 + N1.length := by simp; omega
                obtain ⟨p9, c9, hvs9⟩ := hP9.shape
                subst hvs9
                rw [hnl] at hP9 hF9
                have hat : ((P ++ [(⟨3, [], 0, 0, (io : Int), mid, ((P.length + 1 : Nat) : Int), 0⟩ : Sp)]) ++ N1)[P.length]? = some ⟨3, [], 0, 0, (io : Int), mid, ((P.length + 1 : Nat) : Int), 0⟩ := by
                  rw [List.append_assoc, List.getElem?_append_right (Nat.le_refl _)]; simp
                obtain ⟨g9, cur9, rfl, hB9, hbg9, hc9, hset⟩ := hP9.setE hat ((P.length + 1 + N1.length : Nat) : Int)
                have f9 := hF9.cell 2 rfl
                have hl9' := hB9.lt
                have hfr9 := hB9.free (P.length * 8 + 7)
                have hfl9 := hF9.lt
                have hne9 : F ≠ g9 := fun e => by
                  subst e
                  have := hF9.is
                  rw [hB9.is] at this
                  simp only [Option.some.injEq, Obj.cells.injEq] at this
                  exact absurd this.2.1 (by decide)
                have hin9 : P.length < P.length + 1 + N1.length := by omega
                have hin9' : (P.length : Int) < (P.length : Int) + 1 + (N1.length : Int) := by omega
                have HZ := Lib.hid (And.intro hF9 (And.intro hset (And.intro hB9 (And.intro hbg9 hne9))))
                clear hk9 hb9 hno hS9 hl9 hnl hat hF9 hP9 hB9 hbg9 hset hne9 HFr HA6 HA7 HX1
                go_wp2_with fail
                go_region
                refine at_world fun w10 hw10 => ?_
                obtain ⟨hF9, hset, hB9, hbg9, hne9⟩ := HZ.out
                have ex : ((P.length + 1 + N1.length : Nat) : Int) = (P.length : Int) + 1 + (N1.length : Int) := by omega
                have hps : ((P ++ [(⟨3, [], 0, 0, (io : Int), mid, ((P.length + 1 : Nat) : Int), 0⟩ : Sp)]) ++ N1).set P.length { (⟨3, [], 0, 0, (io : Int), mid, ((P.length + 1 : Nat) : Int), 0⟩ : Sp) with E := ((P.length + 1 + N1.length : Nat) : Int) } = P ++ (splitStep P.length io (P.length + 1 + N1.length) mid :: N1) := by
                  rw [List.append_assoc, List.set_append_right _ _ (Nat.le_refl _)]
                  simp [splitStep]
                rw [hps] at hset
                have hk10 : KeptTy KS w9 w10 := by rw [hw10]; exact (KeptTy.set (p := ⟨g9, P.length * 8 + 7, none⟩) hB9 KS_step _).trans (KeptTy.below (below_drew (Below.refl _ _)))
                have hb10 : Below base w9 w10 := by rw [hw10]; exact below_drew ((Below.refl base w9).setCell (p := ⟨g9, P.length * 8 + 7, none⟩) hbg9 _)
                have hF10 : Blk w10 F #[.slice tp n tc, .slice rp rs.length rc, .slice (some ⟨g9, 0, none⟩) (P.length + 1 + N1.length) c9] 54 := by rw [hw10]; exact (hF9.other (by show F ≠ g9; exact hne9) _).drew
                have hP10 : PfAt base w10 (.slice (some ⟨g9, 0, none⟩) (P.length + 1 + N1.length) c9) (P ++ (splitStep P.length io (P.length + 1 + N1.length) mid :: N1)) := by
                  rw [hw10]
                  first
                    | exact hset.below (below_drew (Below.refl _ _))
                    | (rw [← ex]; exact hset.below (below_drew (Below.refl _ _)))
                clear hw10 hset hps ex hF9 hB9 hbg9 hne9 f9 hl9' hfr9 hfl9 hin9 hin9' hc9
                obtain ⟨hR2, hUF⟩ := HR2.out
                obtain ⟨hvv, hp1, hp2⟩ := HV2.out
                have hn9 := HN9.out
                have hk110 : KeptTy KS w w10 := HFr9.out.1.trans hk10
                have hb110 : Below base w w10 := HFr9.out.2.trans hb10
                have hvl := HVol.out
                have hln : (P ++ (splitStep P.length io (P.length + 1 + N1.length) mid :: N1)).length = P.length + 1 + N1.length := by rw [List.length_append, List.length_cons]; omega
                have hIn2 : RefIn base n w10 F (.slice tp n tc) (.slice rp rs.length rc) (.slice (some ⟨g9, 0, none⟩) (P.length + 1 + N1.length) c9) rs (upper B io vi (br.length : Int)) (br ++ [atLeast n io (mid + 1)]) (P ++ (splitStep P.length io (P.length + 1 + N1.length) mid :: N1)) :=
                  ⟨hF10, hP10, hU12, hUF, hR2, by have := HI.out.rl; rw [List.length_append]; simp; omega, by rw [upper_take, hln]; omega, by rw [upper_take, List.length_append]; simp; omega⟩
                have HX2 := Lib.hid (HIH.out _ _ _ _ w10 (by rw [upper_take]; omega) (H0.out.trans hb110) hIn2)
                have e2 : (((br ++ [atLeast n io (mid + 1)]).length : Nat) : Int) = (br.length : Int) + 1 := by simp
                rw [e2] at HX2
                have HA7 := Lib.hid (HB7.out.keep hk10)
                have HFr := Lib.hid (And.intro hk110 hb110)
                have HLn := Lib.hid hln
                clear hk10 hb10 hF10 hP10 hR2 hUF hvv hp1 hp2 hk110 hb110 hIn2 e2 hln hn9
                go_wp2_with (first | (refine wpList_load_row rfl 58 _ rfl (w4.heap.size + 1) rfl 58 _ (0, 0) _ HA7.out.1.is Try.underlying58 rfl (box_info hU12) ?_) | fail)
                refine HX2.out.mono ?_
                rintro e w11 ⟨⟨hk11, hb11⟩, ⟨x, v, hle, rfl, hown⟩ | ⟨hno, rfl, vs11, N2, hF11, hP11, hS11, hl11⟩⟩
                · have HP11 := Lib.hid (And.intro hk11 (And.intro hb11 (And.intro hle hown)))
                  clear hk11 hb11 hle hown
                  go_wp2
                  obtain ⟨hk11, hb11, hle, hown⟩ := HP11.out
                  obtain ⟨hk18, hb18⟩ := HFr.out
                  rw [upper_take] at hle
                  refine ⟨rfl, ⟨hk18.trans hk11, hb18.trans hb11⟩, .inl ⟨x, v, ?_, rfl, hown⟩⟩
                  exact Least.of_upper (Int.le_of_lt HVl.out) HVi.out HNo1.out hle
                · have HP11 := Lib.hid (And.intro hk11 (And.intro hb11 (And.intro hno (And.intro hF11 (And.intro hP11 (And.intro hS11 hl11))))))
                  clear hk11 hb11 hno hF11 hP11 hS11 hl11
                  go_wp2
                  go_end0
                  obtain ⟨hk11, hb11, hno, hF11, hP11, hS11, hl11⟩ := HP11.out
                  obtain ⟨hk18, hb18⟩ := HFr.out
                  obtain ⟨hvv, hp1, hp2⟩ := HV2.out
                  rw [upper_take] at hno hl11
                  rw [HLn.out] at hS11
                  have hn9 := HN9.out
                  have hwd : width br = n := width_ok HI.out.rel.ok (by have := lt_of_get (HI.out.rel.low io vi HVi.out); omega)
                  refine ⟨⟨hk18.trans hk11, hb18.trans hb11⟩, .inr ⟨NoSol.both HVi.out HNo1.out hno, rfl, vs11, splitStep P.length io (P.length + 1 + N1.length) mid :: (N1 ++ N2), hF11, ?_, seg_split hwd hol (by omega) (by have h9 := HS9.out; rw [List.length_append] at h9; exact h9) hS11, ?_⟩⟩
                  · rw [List.append_assoc, List.cons_append] at hP11; exact hP11
                  · simp only [List.length_cons, List.length_append]; omega
          · have heq : openK (B.take n) = n := by
              have h1 : openK (B.take n) ≤ (B.take n).length := List.findIdx_le_length ..
              have := HTl.out
              omega
            have HLe := Lib.hid (least_leaf HNF.out ho HI.out.full)
            rw [heq]
            clear heq ho
            obtain ⟨ii, hii, hi0, hi1, hi2⟩ := info_parts infoI
            have hs := slice12 w.heap.size n hn
            go_wp2
            clear hs f0
            go_loopw [8, 47] (fun xv kv wr => ∃ k : Nat, k ≤ n ∧ kv = .int .i64 k ∧ wr.ownsRow w3.heap.size 3 1 xv k ((lows ((B.take n).take k)).map (Value.int .i64)) ∧ Below w3.heap.size w3 wr) (fun _ kv _ => n - (RowKit.intOf kv).toNat)
            case atStart => exact ⟨0, Nat.zero_le _, rfl, World.ownsRow_nil _ _ _ _, Below.refl _ _⟩
            case round =>
              obtain ⟨k, hk, rfl, hown, hbw⟩ := hrel
              by_cases hlt : k < n
              · obtain ⟨v, hv⟩ := get_of_lt (l := B) (k := k) (by have := HI.out.len; omega)
                obtain ⟨x0, x1, x2, x3⟩ := (HD3.out.grows hbw).cells hv
                have HS := Lib.hid (show lows ((B.take n).take (k + 1)) = lows ((B.take n).take k) ++ [v.lo] by
                  rw [take_snoc (x := v) (by rw [List.getElem?_take_of_lt hlt]; exact hv)]; simp [lows])
                clear hv
                generalize lows ((B.take n).take k) = m at hown HS
                have HO4 := Lib.hid hown
                have HB4 := Lib.hid hbw
                have hsz := hbw.size
                have k12 : k < 12 := by omega
                clear hown hbw
                go_wp2_with (first
                  | (at_builtin; refine wpList_append_own _ rfl _ _ 51 rfl w3.heap.size 3 ii (.int .i64 0) 1 8 Try.underlying51 hii hi0 hi1 hi2 rfl (by decide) _ k (m.map (Value.int .i64)) rfl (own_alloc (own_alloc HO4.out _) _) ⟨wr.heap.size + 1, 0, none⟩ 1 1 [.int .i64 v.lo] rfl rfl (by have := cell_one_new (wr.alloc (.cells #[.int .i64 v.lo, .int .i64 v.hi, .int .i64 v.lr, .int .i64 v.hr] 56)) (.int .i64 v.lo) 3; simpa using this) (one_all rfl) (by unfold maxLen; omega) (by omega) (by simp; omega) ?_; intro v6 w6 hown6 hg6 _; have HO6 := Lib.hid hown6; have HG6 := Lib.hid hg6; clear hown6 hg6)
                  | fail)
                go_roundw
                case rel => exact ⟨k + 1, by omega, by go_num, by rw [HS.out, List.map_append]; exact HO6.out, ((HB4.out.alloc hsz _).alloc (by simp; omega) _).grown HG6.out (by simp; omega) (own_ge HO4.out)⟩
                case measure => simp [RowKit.intOf]; omega
              · obtain rfl : k = n := by omega
                have HE := Lib.hid (show lows ((B.take k).take k) = lows (B.take k) by rw [List.take_take, Nat.min_self])
                have HO4 := Lib.hid hown
                have HB4 := Lib.hid hbw
                obtain ⟨xp, xc, rfl⟩ := own_shape hown
                clear hown hbw
                go_wp2
                have hbw := HB4.out
                have hll : (lows (B.take k)).length = k := by unfold lows; rw [List.length_map]; exact HTl.out
                have hbs : base ≤ w3.heap.size := by have := HF3.out.lt; omega
                have hto : Below w.heap.size w wr := below_two HW3.out hbw
                refine ⟨rfl, ⟨KeptTy.below hto, hto.mono (by omega)⟩, .inl ⟨_, _, HLe.out, rfl, ?_⟩⟩
                have := own_mono HO4.out hbs
                rw [HE.out] at this
                unfold OwnI
                rw [hll]; exact this
end Go.Proofs.Ytmhhfommgdljkaa
