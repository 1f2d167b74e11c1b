/-
  Walks: the reference's combined.
-/
import Derived.Test.YthnkgdpifebigaaDoorBd
set_option linter.unusedSimpArgs false
set_option linter.unusedVariables false
namespace Go.Proofs.YthnkgdpifebigaaDoor
open Go.RowKit Go.Lib

/-- what the reference's Shortest does with any set of a bounded size. -/
def AllShort : Prop := ∀ v h c w, IsSet w v h c → 0 < c.length → h.length + c.length ≤ 1048576 → ShortOf (atL h c) w v
theorem tab_at {F : Nat → Bool} {P N : Nat} (hF : From F P N) (hP : 0 < P) : atL ((List.range N).map F) ((List.range P).map fun i => F (N + i)) = F := by
  funext n
  unfold atL
  by_cases hn : n < N
  · rw [if_pos (by simpa using hn), List.getD_eq_getElem?_getD, List.getElem?_eq_getElem (by simpa using hn)]; simp
  · rw [if_neg (by simpa using hn)]
    have hm : (n - N) % P < P := Nat.mod_lt _ hP
    simp only [List.length_map, List.length_range]
    rw [List.getD_eq_getElem?_getD, List.getElem?_eq_getElem (by simpa using hm)]
    simp only [List.getElem_map, List.getElem_range, Option.getD_some]
    have key := hF.mul ((n - N) / P) (N + (n - N) % P) (by omega)
    rw [← key]; congr 1
    have := Nat.mod_add_div (n - N) P
    omega
theorem range_snocR (f : Nat → Bool) (n : Nat) : (List.range (n + 1)).map f = (List.range n).map f ++ [f n] := by rw [List.range_succ, List.map_append]; rfl

set_option maxRecDepth 100000 in
set_option maxHeartbeats 8000000 in
theorem rcombined_and (va vb : Value) (h c h' c' : List Bool) (w : World) (hva : IsSet w va h c) (hvb : IsSet w vb h' c') (ho : okLen h.length c.length = true) (ho' : okLen h'.length c'.length = true) (hAS : AllShort) :
    Calls Tryd.prog 40 #[va, vb, .bool true] w fun e w' => OpRes w.heap.size true (fun n => atL h c n && atL h' c' n) w' e ∧ Below w.heap.size w w' := by
  obtain ⟨hp, hk, cp, ck, rfl, a1, a2⟩ := hva.shape
  obtain ⟨hp', hk', cp', ck', rfl, b1, b2⟩ := hvb.shape
  obtain ⟨hc, hs⟩ := okLen_pos ho
  obtain ⟨hc', hs'⟩ := okLen_pos ho'
  obtain ⟨i0, hi, hz0, hz1, hz2⟩ := info_parts infoBool
  have HV := Lib.hid (fun W => ho ▸ rvalid_any hp cp h.length hk c.length ck W (by omega) (by omega))
  have HV' := Lib.hid (fun W => ho' ▸ rvalid_any hp' cp' h'.length hk' c'.length ck' W (by omega) (by omega))
  have HAA := Lib.hid (fun (k : Nat) (hk : k ≤ 9223372036854775807) W (hW : Below w.heap.size w W) => at_any _ h c k W (hva.grows hW) hc (by omega) (by omega) hk)
  have HBB := Lib.hid (fun (k : Nat) (hk : k ≤ 9223372036854775807) W (hW : Below w.heap.size w W) => at_any _ h' c' k W (hvb.grows hW) hc' (by omega) (by omega) hk)
  obtain ⟨F, hF⟩ : ∃ F : Nat → Bool, F = fun n => atL h c n && atL h' c' n := ⟨_, rfl⟩
  obtain ⟨P, hP⟩ : ∃ P, c.length * c'.length = P := ⟨_, rfl⟩
  obtain ⟨N, hN⟩ : ∃ N, max h.length h'.length = N := ⟨_, rfl⟩
  obtain ⟨T, hT⟩ : ∃ T, N + P = T := ⟨_, rfl⟩
  have HFr := Lib.hid (show From F P N by
    rw [hF, ← hP, ← hN]; exact both_from (fun x y => x && y) (lcm_from (atL_from h c hc) _ (Nat.dvd_mul_right _ _)) (lcm_from (atL_from h' c' hc') _ (Nat.dvd_mul_left _ _)))
  have hP0 : 0 < P := by rw [← hP]; exact Nat.mul_pos hc hc'
  have hPl : P ≤ 512 * 512 := by rw [← hP]; exact Nat.mul_le_mul (by omega) (by omega)
  have hNl : N ≤ 512 := by omega
  have e0 : max (h.length : Int) (h'.length : Int) = (N : Int) := by omega
  have e1 : (N : Int) + (P : Int) = (T : Int) := by omega
  have e2 : (c.length : Int) * (c'.length : Int) = (P : Int) := by rw [← hP]; exact (Int.natCast_mul _ _).symm
  have hTl : T ≤ 2097152 := by omega
  rw [← hF]
  have HF := Lib.hid hF
  have HT := Lib.hid hT
  clear ho ho' hva hvb a1 a2 b1 b2 hF hP hN hT
  have X := ((Blk.new w #[.slice hp h.length hk, .slice cp c.length ck] 24).alloc (.cells #[.slice hp' h'.length hk', .slice cp' c'.length ck'] 24)).alloc (.cells #[.slice none 0 0, .slice none 0 0] 24)
  have Y := (Blk.alloc1 w #[.slice hp h.length hk, .slice cp c.length ck] #[.slice hp' h'.length hk', .slice cp' c'.length ck'] 24 24).alloc (.cells #[.slice none 0 0, .slice none 0 0] 24)
  have R := Blk.alloc2 w (.cells #[.slice hp h.length hk, .slice cp c.length ck] 24) (.cells #[.slice hp' h'.length hk', .slice cp' c'.length ck'] 24) #[.slice none 0 0, .slice none 0 0] 24
  have hbw : Below w.heap.size w (((w.alloc (.cells #[.slice hp h.length hk, .slice cp c.length ck] 24)).alloc (.cells #[.slice hp' h'.length hk', .slice cp' c'.length ck'] 24)).alloc (.cells #[.slice none 0 0, .slice none 0 0] 24)) := by go_grown
  go_enter Tryd.func40, Tryd.ntmps40
  go_wp2_with (go_at_call 18; first
    | ((with_reducible refine (HV.out _).mono ?_); rintro e w1 ⟨rfl, hb1⟩; have X := X.grows hb1; have Y := Y.grows hb1; have R := R.grows hb1; have hbw := below_two hbw hb1; have xc0 := X.cell 0 rfl; have xc1 := X.cell 1 rfl; have yc0 := Y.cell 0 rfl; have yc1 := Y.cell 1 rfl)
    | ((with_reducible refine (HV'.out _).mono ?_); rintro e w2 ⟨rfl, hb2⟩; have X := X.grows hb2; have Y := Y.grows hb2; have R := R.grows hb2; have hbw := below_two hbw hb2; clear xc0 xc1 yc0 yc1; have xc0 := X.cell 0 rfl; have xc1 := X.cell 1 rfl; have yc0 := Y.cell 0 rfl; have yc1 := Y.cell 1 rfl))
  have X2 := X.alloc (.cells #[.slice none 0 0, .slice none 0 0] 24)
  have Y2 := Y.alloc (.cells #[.slice none 0 0, .slice none 0 0] 24)
  have R2 := R.alloc (.cells #[.slice none 0 0, .slice none 0 0] 24)
  have D2 := Blk.new w2 #[.slice none 0 0, .slice none 0 0] 24
  have hbw2 := hbw.alloc hbw.size (.cells #[.slice none 0 0, .slice none 0 0] 24)
  have hsz := R.lt
  obtain ⟨B, hBe⟩ : ∃ B, w2.heap.size + 1 = B := ⟨_, rfl⟩
  have hB2 : B ≤ (w2.alloc (.cells #[.slice none 0 0, .slice none 0 0] 24)).heap.size := by simp; omega
  have hDB : w2.heap.size < B := by omega
  clear hBe X Y R hbw xc0 xc1 yc0 yc1
  generalize w2.alloc (.cells #[.slice none 0 0, .slice none 0 0] 24) = w7 at X2 Y2 R2 D2 hbw2 hB2 ⊢
  generalize w2.heap.size = D at D2 hDB hsz ⊢
  have O0 := World.ownsRow_nil w7 B 4 1
  go_loopw [10] (fun i wr => ∃ (M : Nat) (u0 u1 : Value), i = .int .i64 (M : Int) ∧ M ≤ T ∧ Blk wr w.heap.size #[.slice hp h.length hk, .slice cp c.length ck] 24 ∧ Blk wr (w.heap.size + 1) #[.slice hp' h'.length hk', .slice cp' c'.length ck'] 24 ∧ Blk wr (w.heap.size + 2) #[.slice none 0 0, .slice none 0 0] 24 ∧ Blk wr D #[u0, u1] 24 ∧
      wr.ownsRow B 4 1 u0 (min M N) (((List.range (min M N)).map F).map Value.bool) ∧ wr.ownsRow B 4 1 u1 (M - N) (((List.range (M - N)).map fun i => F (N + i)).map Value.bool) ∧ Apart u0 u1 ∧ B ≤ wr.heap.size ∧ Below w.heap.size w wr) (fun i _ => T - (RowKit.intOf i).toNat)
  case atStart => exact ⟨0, _, _, rfl, by omega, X2, Y2, R2, D2, own_cast O0 (by omega) (by rw [Nat.zero_min]; rfl), own_cast O0 (by omega) (by rw [Nat.zero_sub]; rfl), apart_nil _, hB2, hbw2⟩
  case round =>
    clear X2 Y2 R2 D2 O0 hB2 hbw2
    obtain ⟨M, u0, u1, rfl, hM, X, Y, R, DD, O0, O1, hap, hB, hbw⟩ := hrel
    obtain ⟨p0, k0, rfl⟩ := own_shape O0
    obtain ⟨p1, k1, rfl⟩ := own_shape O1
    by_cases hlt : M < T
    · have HA := Lib.hid (HAA.out M (by omega))
      have HB := Lib.hid (HBB.out M (by omega))
      have hTM : N + P = T := HT.out
      clear hTM
      cases hx : atL h c M <;> cases hy : atL h' c' M
      · rw [hx] at HA
        rw [hy] at HB
        have HFM := Lib.hid (show F M = false by rw [HF.out]; show (atL h c M && atL h' c' M) = false; rw [hx, hy]; rfl)
        clear hx hy
        by_cases hlo : M < N
        · have hm1 : min M N = M := by omega
          have hm2 : min (M + 1) N = M + 1 := by omega
          have hm3 : M + 1 - N = 0 := by omega
          have hm4 : M - N = 0 := by omega
          rw [hm1] at O0 DD hap
          rw [hm4] at O1 DD hap
          have HO0 := Lib.hid O0
          have HO1 := Lib.hid O1
          have HSn := Lib.hid (show ((List.range (M + 1)).map F).map Value.bool = ((List.range M).map F).map Value.bool ++ [Value.bool false] by rw [range_snocR, List.map_append, HFM.out]; rfl)
          clear hm1 hm4
          have HAp := Lib.hid hap
          have xc0 := X.cell 0 rfl
          have xc1 := X.cell 1 rfl
          have yc0 := Y.cell 0 rfl
          have yc1 := Y.cell 1 rfl
          have dc0 := DD.cell 0 rfl
          have dc1 := DD.cell 1 rfl
          have df0 := DD.free 0
          have df1 := DD.free 1
          have dl := DD.lt
          clear O0 O1 hap
          go_wp2_with fail
          first | (((with_reducible refine (HA.out _ hbw).mono ?_); rintro e w5 ⟨rfl, hb5⟩; have X := X.grows hb5; have Y := Y.grows hb5; have R := R.grows hb5; have DD := DD.grows hb5; have hB := Nat.le_trans hB hb5.size; have hbw := below_two hbw hb5; have HO0 := Lib.hid (own_below HO0.out hb5); have HO1 := Lib.hid (own_below HO1.out hb5); clear xc0 xc1 yc0 yc1 dc0 dc1 df0 df1; have xc0 := X.cell 0 rfl; have xc1 := X.cell 1 rfl; have yc0 := Y.cell 0 rfl; have yc1 := Y.cell 1 rfl; have dc0 := DD.cell 0 rfl; have dc1 := DD.cell 1 rfl; have df0 := DD.free 0; have df1 := DD.free 1)) | (((with_reducible refine (HB.out _ hbw).mono ?_); rintro e w5 ⟨rfl, hb5⟩; have X := X.grows hb5; have Y := Y.grows hb5; have R := R.grows hb5; have DD := DD.grows hb5; have hB := Nat.le_trans hB hb5.size; have hbw := below_two hbw hb5; have HO0 := Lib.hid (own_below HO0.out hb5); have HO1 := Lib.hid (own_below HO1.out hb5); clear xc0 xc1 yc0 yc1 dc0 dc1 df0 df1; have xc0 := X.cell 0 rfl; have xc1 := X.cell 1 rfl; have yc0 := Y.cell 0 rfl; have yc1 := Y.cell 1 rfl; have dc0 := DD.cell 0 rfl; have dc1 := DD.cell 1 rfl; have df0 := DD.free 0; have df1 := DD.free 1))
          go_wp2_with fail
          first | (((with_reducible refine (HA.out _ hbw).mono ?_); rintro e w5 ⟨rfl, hb5⟩; have X := X.grows hb5; have Y := Y.grows hb5; have R := R.grows hb5; have DD := DD.grows hb5; have hB := Nat.le_trans hB hb5.size; have hbw := below_two hbw hb5; have HO0 := Lib.hid (own_below HO0.out hb5); have HO1 := Lib.hid (own_below HO1.out hb5); clear xc0 xc1 yc0 yc1 dc0 dc1 df0 df1; have xc0 := X.cell 0 rfl; have xc1 := X.cell 1 rfl; have yc0 := Y.cell 0 rfl; have yc1 := Y.cell 1 rfl; have dc0 := DD.cell 0 rfl; have dc1 := DD.cell 1 rfl; have df0 := DD.free 0; have df1 := DD.free 1)) | (((with_reducible refine (HB.out _ hbw).mono ?_); rintro e w5 ⟨rfl, hb5⟩; have X := X.grows hb5; have Y := Y.grows hb5; have R := R.grows hb5; have DD := DD.grows hb5; have hB := Nat.le_trans hB hb5.size; have hbw := below_two hbw hb5; have HO0 := Lib.hid (own_below HO0.out hb5); have HO1 := Lib.hid (own_below HO1.out hb5); clear xc0 xc1 yc0 yc1 dc0 dc1 df0 df1; have xc0 := X.cell 0 rfl; have xc1 := X.cell 1 rfl; have yc0 := Y.cell 0 rfl; have yc1 := Y.cell 1 rfl; have dc0 := DD.cell 0 rfl; have dc1 := DD.cell 1 rfl; have df0 := DD.free 0; have df1 := DD.free 1))
          go_wp2_with fail
          first | (((with_reducible refine (HA.out _ hbw).mono ?_); rintro e w5 ⟨rfl, hb5⟩; have X := X.grows hb5; have Y := Y.grows hb5; have R := R.grows hb5; have DD := DD.grows hb5; have hB := Nat.le_trans hB hb5.size; have hbw := below_two hbw hb5; have HO0 := Lib.hid (own_below HO0.out hb5); have HO1 := Lib.hid (own_below HO1.out hb5); clear xc0 xc1 yc0 yc1 dc0 dc1 df0 df1; have xc0 := X.cell 0 rfl; have xc1 := X.cell 1 rfl; have yc0 := Y.cell 0 rfl; have yc1 := Y.cell 1 rfl; have dc0 := DD.cell 0 rfl; have dc1 := DD.cell 1 rfl; have df0 := DD.free 0; have df1 := DD.free 1)) | (((with_reducible refine (HB.out _ hbw).mono ?_); rintro e w5 ⟨rfl, hb5⟩; have X := X.grows hb5; have Y := Y.grows hb5; have R := R.grows hb5; have DD := DD.grows hb5; have hB := Nat.le_trans hB hb5.size; have hbw := below_two hbw hb5; have HO0 := Lib.hid (own_below HO0.out hb5); have HO1 := Lib.hid (own_below HO1.out hb5); clear xc0 xc1 yc0 yc1 dc0 dc1 df0 df1; have xc0 := X.cell 0 rfl; have xc1 := X.cell 1 rfl; have yc0 := Y.cell 0 rfl; have yc1 := Y.cell 1 rfl; have dc0 := DD.cell 0 rfl; have dc1 := DD.cell 1 rfl; have df0 := DD.free 0; have df1 := DD.free 1))
          have hw5 : D < w5.heap.size := DD.lt
          go_wp2_with (at_builtin; refine wpList_append_own_at _ rfl _ _ 22 rfl B 4 i0 _ 1 1 Tryd.underlying22 hi hz0 hz1 hz2 rfl (by decide) _ _ _ rfl (own_alloc HO0.out _) ⟨w5.heap.size, 0, none⟩ 1 1 [.bool false] rfl rfl (cells_newB _ _ _ _ rfl) (bool_one false) (by unfold maxLen; omega) (by omega) (by simp; omega) ?_; intro v' w6 hown2 hgrow _ hat; obtain ⟨p6, k6, rfl⟩ := own_shape hown2; have D7 := (DD.alloc (.cells #[.bool false] 4)).grownBy hgrow (fun g e => by have := own_ge HO0.out g e; omega); have q0 := D7.cell 0 rfl; have f6 := D7.free 0)
          all_goals
            have hat2 := hat
            go_roundw
            case rel => exact ⟨M + 1, _, _, by go_num, by omega,
              ((X.alloc (.cells #[.bool false] 4)).grownBy hgrow (fun g e => by have := own_ge HO0.out g e; omega)).other (by show w.heap.size ≠ D; omega) _,
              ((Y.alloc (.cells #[.bool false] 4)).grownBy hgrow (fun g e => by have := own_ge HO0.out g e; omega)).other (by show w.heap.size + 1 ≠ D; omega) _,
              ((R.alloc (.cells #[.bool false] 4)).grownBy hgrow (fun g e => by have := own_ge HO0.out g e; omega)).other (by show w.heap.size + 2 ≠ D; omega) _,
              D7.set 0 _,
              by rw [hm2, HSn.out]; exact own_set (p := ⟨D, 0, none⟩) hown2 hDB _,
              by rw [hm3]; exact own_set (p := ⟨D, 0, none⟩) (own_grown (own_alloc HO1.out _) hgrow (fun g e1 e2 => HAp.out g e1 e2)) hDB _,
              apart_new (W := w5) (o := .cells #[.bool false] 4) HAp.out hat2 HO1.out,
              by have h7 := hgrow.size; simp at h7 ⊢; omega,
              ((hbw.alloc hbw.size (.cells #[.bool false] 4)).grown hgrow (by have h8 := hbw.size; simp; omega) (fun g e => by have := own_ge HO0.out g e; omega)).setCell (by show w.heap.size ≤ D; omega) _⟩
            case measure => simp [RowKit.intOf]; omega
        · obtain ⟨J, hJ⟩ : ∃ J, M - N = J := ⟨_, rfl⟩
          have hm1 : min M N = N := by omega
          have hm2 : min (M + 1) N = N := by omega
          have hm3 : M + 1 - N = J + 1 := by omega
          rw [hm1] at O0 DD hap
          rw [hJ] at O1 DD hap
          have HO0 := Lib.hid O0
          have HO1 := Lib.hid O1
          have hJl : J ≤ 2097152 := by omega
          have HSn := Lib.hid (show ((List.range (J + 1)).map fun i => F (N + i)).map Value.bool = ((List.range J).map fun i => F (N + i)).map Value.bool ++ [Value.bool false] by rw [range_snocR, List.map_append, show N + J = M by omega, HFM.out]; rfl)
          clear hm1 hJ
          have HAp := Lib.hid hap
          have xc0 := X.cell 0 rfl
          have xc1 := X.cell 1 rfl
          have yc0 := Y.cell 0 rfl
          have yc1 := Y.cell 1 rfl
          have dc0 := DD.cell 0 rfl
          have dc1 := DD.cell 1 rfl
          have df0 := DD.free 0
          have df1 := DD.free 1
          have dl := DD.lt
          clear O0 O1 hap
          go_wp2_with fail
          first | (((with_reducible refine (HA.out _ hbw).mono ?_); rintro e w5 ⟨rfl, hb5⟩; have X := X.grows hb5; have Y := Y.grows hb5; have R := R.grows hb5; have DD := DD.grows hb5; have hB := Nat.le_trans hB hb5.size; have hbw := below_two hbw hb5; have HO0 := Lib.hid (own_below HO0.out hb5); have HO1 := Lib.hid (own_below HO1.out hb5); clear xc0 xc1 yc0 yc1 dc0 dc1 df0 df1; have xc0 := X.cell 0 rfl; have xc1 := X.cell 1 rfl; have yc0 := Y.cell 0 rfl; have yc1 := Y.cell 1 rfl; have dc0 := DD.cell 0 rfl; have dc1 := DD.cell 1 rfl; have df0 := DD.free 0; have df1 := DD.free 1)) | (((with_reducible refine (HB.out _ hbw).mono ?_); rintro e w5 ⟨rfl, hb5⟩; have X := X.grows hb5; have Y := Y.grows hb5; have R := R.grows hb5; have DD := DD.grows hb5; have hB := Nat.le_trans hB hb5.size; have hbw := below_two hbw hb5; have HO0 := Lib.hid (own_below HO0.out hb5); have HO1 := Lib.hid (own_below HO1.out hb5); clear xc0 xc1 yc0 yc1 dc0 dc1 df0 df1; have xc0 := X.cell 0 rfl; have xc1 := X.cell 1 rfl; have yc0 := Y.cell 0 rfl; have yc1 := Y.cell 1 rfl; have dc0 := DD.cell 0 rfl; have dc1 := DD.cell 1 rfl; have df0 := DD.free 0; have df1 := DD.free 1))
          go_wp2_with fail
          first | (((with_reducible refine (HA.out _ hbw).mono ?_); rintro e w5 ⟨rfl, hb5⟩; have X := X.grows hb5; have Y := Y.grows hb5; have R := R.grows hb5; have DD := DD.grows hb5; have hB := Nat.le_trans hB hb5.size; have hbw := below_two hbw hb5; have HO0 := Lib.hid (own_below HO0.out hb5); have HO1 := Lib.hid (own_below HO1.out hb5); clear xc0 xc1 yc0 yc1 dc0 dc1 df0 df1; have xc0 := X.cell 0 rfl; have xc1 := X.cell 1 rfl; have yc0 := Y.cell 0 rfl; have yc1 := Y.cell 1 rfl; have dc0 := DD.cell 0 rfl; have dc1 := DD.cell 1 rfl; have df0 := DD.free 0; have df1 := DD.free 1)) | (((with_reducible refine (HB.out _ hbw).mono ?_); rintro e w5 ⟨rfl, hb5⟩; have X := X.grows hb5; have Y := Y.grows hb5; have R := R.grows hb5; have DD := DD.grows hb5; have hB := Nat.le_trans hB hb5.size; have hbw := below_two hbw hb5; have HO0 := Lib.hid (own_below HO0.out hb5); have HO1 := Lib.hid (own_below HO1.out hb5); clear xc0 xc1 yc0 yc1 dc0 dc1 df0 df1; have xc0 := X.cell 0 rfl; have xc1 := X.cell 1 rfl; have yc0 := Y.cell 0 rfl; have yc1 := Y.cell 1 rfl; have dc0 := DD.cell 0 rfl; have dc1 := DD.cell 1 rfl; have df0 := DD.free 0; have df1 := DD.free 1))
          go_wp2_with fail
          first | (((with_reducible refine (HA.out _ hbw).mono ?_); rintro e w5 ⟨rfl, hb5⟩; have X := X.grows hb5; have Y := Y.grows hb5; have R := R.grows hb5; have DD := DD.grows hb5; have hB := Nat.le_trans hB hb5.size; have hbw := below_two hbw hb5; have HO0 := Lib.hid (own_below HO0.out hb5); have HO1 := Lib.hid (own_below HO1.out hb5); clear xc0 xc1 yc0 yc1 dc0 dc1 df0 df1; have xc0 := X.cell 0 rfl; have xc1 := X.cell 1 rfl; have yc0 := Y.cell 0 rfl; have yc1 := Y.cell 1 rfl; have dc0 := DD.cell 0 rfl; have dc1 := DD.cell 1 rfl; have df0 := DD.free 0; have df1 := DD.free 1)) | (((with_reducible refine (HB.out _ hbw).mono ?_); rintro e w5 ⟨rfl, hb5⟩; have X := X.grows hb5; have Y := Y.grows hb5; have R := R.grows hb5; have DD := DD.grows hb5; have hB := Nat.le_trans hB hb5.size; have hbw := below_two hbw hb5; have HO0 := Lib.hid (own_below HO0.out hb5); have HO1 := Lib.hid (own_below HO1.out hb5); clear xc0 xc1 yc0 yc1 dc0 dc1 df0 df1; have xc0 := X.cell 0 rfl; have xc1 := X.cell 1 rfl; have yc0 := Y.cell 0 rfl; have yc1 := Y.cell 1 rfl; have dc0 := DD.cell 0 rfl; have dc1 := DD.cell 1 rfl; have df0 := DD.free 0; have df1 := DD.free 1))
          have hw5 : D < w5.heap.size := DD.lt
          go_wp2_with (at_builtin; refine wpList_append_own_at _ rfl _ _ 22 rfl B 4 i0 _ 1 1 Tryd.underlying22 hi hz0 hz1 hz2 rfl (by decide) _ _ _ rfl (own_alloc HO1.out _) ⟨w5.heap.size, 0, none⟩ 1 1 [.bool false] rfl rfl (cells_newB _ _ _ _ rfl) (bool_one false) (by unfold maxLen; omega) (by omega) (by simp; omega) ?_; intro v' w6 hown2 hgrow _ hat; obtain ⟨p6, k6, rfl⟩ := own_shape hown2; have D7 := (DD.alloc (.cells #[.bool false] 4)).grownBy hgrow (fun g e => by have := own_ge HO1.out g e; omega); have q0 := D7.cell 1 rfl; have f6 := D7.free 1)
          all_goals
            have hat2 := hat
            go_roundw
            case rel => exact ⟨M + 1, _, _, by go_num, by omega,
              ((X.alloc (.cells #[.bool false] 4)).grownBy hgrow (fun g e => by have := own_ge HO1.out g e; omega)).other (by show w.heap.size ≠ D; omega) _,
              ((Y.alloc (.cells #[.bool false] 4)).grownBy hgrow (fun g e => by have := own_ge HO1.out g e; omega)).other (by show w.heap.size + 1 ≠ D; omega) _,
              ((R.alloc (.cells #[.bool false] 4)).grownBy hgrow (fun g e => by have := own_ge HO1.out g e; omega)).other (by show w.heap.size + 2 ≠ D; omega) _,
              D7.set 1 _,
              by rw [hm2]; exact own_set (p := ⟨D, 1, none⟩) (own_grown (own_alloc HO0.out _) hgrow (fun g e1 e2 => HAp.out g e2 e1)) hDB _,
              by rw [hm3, HSn.out]; exact own_set (p := ⟨D, 1, none⟩) hown2 hDB _,
              (apart_new (W := w5) (o := .cells #[.bool false] 4) HAp.out.symm hat2 HO0.out).symm,
              by have h7 := hgrow.size; simp at h7 ⊢; omega,
              ((hbw.alloc hbw.size (.cells #[.bool false] 4)).grown hgrow (by have h8 := hbw.size; simp; omega) (fun g e => by have := own_ge HO1.out g e; omega)).setCell (by show w.heap.size ≤ D; omega) _⟩
            case measure => simp [RowKit.intOf]; omega
      · rw [hx] at HA
        rw [hy] at HB
        have HFM := Lib.hid (show F M = false by rw [HF.out]; show (atL h c M && atL h' c' M) = false; rw [hx, hy]; rfl)
        clear hx hy
        by_cases hlo : M < N
        · have hm1 : min M N = M := by omega
          have hm2 : min (M + 1) N = M + 1 := by omega
          have hm3 : M + 1 - N = 0 := by omega
          have hm4 : M - N = 0 := by omega
          rw [hm1] at O0 DD hap
          rw [hm4] at O1 DD hap
          have HO0 := Lib.hid O0
          have HO1 := Lib.hid O1
          have HSn := Lib.hid (show ((List.range (M + 1)).map F).map Value.bool = ((List.range M).map F).map Value.bool ++ [Value.bool false] by rw [range_snocR, List.map_append, HFM.out]; rfl)
          clear hm1 hm4
          have HAp := Lib.hid hap
          have xc0 := X.cell 0 rfl
          have xc1 := X.cell 1 rfl
          have yc0 := Y.cell 0 rfl
          have yc1 := Y.cell 1 rfl
          have dc0 := DD.cell 0 rfl
          have dc1 := DD.cell 1 rfl
          have df0 := DD.free 0
          have df1 := DD.free 1
          have dl := DD.lt
          clear O0 O1 hap
          go_wp2_with fail
          first | (((with_reducible refine (HA.out _ hbw).mono ?_); rintro e w5 ⟨rfl, hb5⟩; have X := X.grows hb5; have Y := Y.grows hb5; have R := R.grows hb5; have DD := DD.grows hb5; have hB := Nat.le_trans hB hb5.size; have hbw := below_two hbw hb5; have HO0 := Lib.hid (own_below HO0.out hb5); have HO1 := Lib.hid (own_below HO1.out hb5); clear xc0 xc1 yc0 yc1 dc0 dc1 df0 df1; have xc0 := X.cell 0 rfl; have xc1 := X.cell 1 rfl; have yc0 := Y.cell 0 rfl; have yc1 := Y.cell 1 rfl; have dc0 := DD.cell 0 rfl; have dc1 := DD.cell 1 rfl; have df0 := DD.free 0; have df1 := DD.free 1)) | (((with_reducible refine (HB.out _ hbw).mono ?_); rintro e w5 ⟨rfl, hb5⟩; have X := X.grows hb5; have Y := Y.grows hb5; have R := R.grows hb5; have DD := DD.grows hb5; have hB := Nat.le_trans hB hb5.size; have hbw := below_two hbw hb5; have HO0 := Lib.hid (own_below HO0.out hb5); have HO1 := Lib.hid (own_below HO1.out hb5); clear xc0 xc1 yc0 yc1 dc0 dc1 df0 df1; have xc0 := X.cell 0 rfl; have xc1 := X.cell 1 rfl; have yc0 := Y.cell 0 rfl; have yc1 := Y.cell 1 rfl; have dc0 := DD.cell 0 rfl; have dc1 := DD.cell 1 rfl; have df0 := DD.free 0; have df1 := DD.free 1))
          go_wp2_with fail
          first | (((with_reducible refine (HA.out _ hbw).mono ?_); rintro e w5 ⟨rfl, hb5⟩; have X := X.grows hb5; have Y := Y.grows hb5; have R := R.grows hb5; have DD := DD.grows hb5; have hB := Nat.le_trans hB hb5.size; have hbw := below_two hbw hb5; have HO0 := Lib.hid (own_below HO0.out hb5); have HO1 := Lib.hid (own_below HO1.out hb5); clear xc0 xc1 yc0 yc1 dc0 dc1 df0 df1; have xc0 := X.cell 0 rfl; have xc1 := X.cell 1 rfl; have yc0 := Y.cell 0 rfl; have yc1 := Y.cell 1 rfl; have dc0 := DD.cell 0 rfl; have dc1 := DD.cell 1 rfl; have df0 := DD.free 0; have df1 := DD.free 1)) | (((with_reducible refine (HB.out _ hbw).mono ?_); rintro e w5 ⟨rfl, hb5⟩; have X := X.grows hb5; have Y := Y.grows hb5; have R := R.grows hb5; have DD := DD.grows hb5; have hB := Nat.le_trans hB hb5.size; have hbw := below_two hbw hb5; have HO0 := Lib.hid (own_below HO0.out hb5); have HO1 := Lib.hid (own_below HO1.out hb5); clear xc0 xc1 yc0 yc1 dc0 dc1 df0 df1; have xc0 := X.cell 0 rfl; have xc1 := X.cell 1 rfl; have yc0 := Y.cell 0 rfl; have yc1 := Y.cell 1 rfl; have dc0 := DD.cell 0 rfl; have dc1 := DD.cell 1 rfl; have df0 := DD.free 0; have df1 := DD.free 1))
          go_wp2_with fail
          first | (((with_reducible refine (HA.out _ hbw).mono ?_); rintro e w5 ⟨rfl, hb5⟩; have X := X.grows hb5; have Y := Y.grows hb5; have R := R.grows hb5; have DD := DD.grows hb5; have hB := Nat.le_trans hB hb5.size; have hbw := below_two hbw hb5; have HO0 := Lib.hid (own_below HO0.out hb5); have HO1 := Lib.hid (own_below HO1.out hb5); clear xc0 xc1 yc0 yc1 dc0 dc1 df0 df1; have xc0 := X.cell 0 rfl; have xc1 := X.cell 1 rfl; have yc0 := Y.cell 0 rfl; have yc1 := Y.cell 1 rfl; have dc0 := DD.cell 0 rfl; have dc1 := DD.cell 1 rfl; have df0 := DD.free 0; have df1 := DD.free 1)) | (((with_reducible refine (HB.out _ hbw).mono ?_); rintro e w5 ⟨rfl, hb5⟩; have X := X.grows hb5; have Y := Y.grows hb5; have R := R.grows hb5; have DD := DD.grows hb5; have hB := Nat.le_trans hB hb5.size; have hbw := below_two hbw hb5; have HO0 := Lib.hid (own_below HO0.out hb5); have HO1 := Lib.hid (own_below HO1.out hb5); clear xc0 xc1 yc0 yc1 dc0 dc1 df0 df1; have xc0 := X.cell 0 rfl; have xc1 := X.cell 1 rfl; have yc0 := Y.cell 0 rfl; have yc1 := Y.cell 1 rfl; have dc0 := DD.cell 0 rfl; have dc1 := DD.cell 1 rfl; have df0 := DD.free 0; have df1 := DD.free 1))
          have hw5 : D < w5.heap.size := DD.lt
          go_wp2_with (at_builtin; refine wpList_append_own_at _ rfl _ _ 22 rfl B 4 i0 _ 1 1 Tryd.underlying22 hi hz0 hz1 hz2 rfl (by decide) _ _ _ rfl (own_alloc HO0.out _) ⟨w5.heap.size, 0, none⟩ 1 1 [.bool false] rfl rfl (cells_newB _ _ _ _ rfl) (bool_one false) (by unfold maxLen; omega) (by omega) (by simp; omega) ?_; intro v' w6 hown2 hgrow _ hat; obtain ⟨p6, k6, rfl⟩ := own_shape hown2; have D7 := (DD.alloc (.cells #[.bool false] 4)).grownBy hgrow (fun g e => by have := own_ge HO0.out g e; omega); have q0 := D7.cell 0 rfl; have f6 := D7.free 0)
          all_goals
            have hat2 := hat
            go_roundw
            case rel => exact ⟨M + 1, _, _, by go_num, by omega,
              ((X.alloc (.cells #[.bool false] 4)).grownBy hgrow (fun g e => by have := own_ge HO0.out g e; omega)).other (by show w.heap.size ≠ D; omega) _,
              ((Y.alloc (.cells #[.bool false] 4)).grownBy hgrow (fun g e => by have := own_ge HO0.out g e; omega)).other (by show w.heap.size + 1 ≠ D; omega) _,
              ((R.alloc (.cells #[.bool false] 4)).grownBy hgrow (fun g e => by have := own_ge HO0.out g e; omega)).other (by show w.heap.size + 2 ≠ D; omega) _,
              D7.set 0 _,
              by rw [hm2, HSn.out]; exact own_set (p := ⟨D, 0, none⟩) hown2 hDB _,
              by rw [hm3]; exact own_set (p := ⟨D, 0, none⟩) (own_grown (own_alloc HO1.out _) hgrow (fun g e1 e2 => HAp.out g e1 e2)) hDB _,
              apart_new (W := w5) (o := .cells #[.bool false] 4) HAp.out hat2 HO1.out,
              by have h7 := hgrow.size; simp at h7 ⊢; omega,
              ((hbw.alloc hbw.size (.cells #[.bool false] 4)).grown hgrow (by have h8 := hbw.size; simp; omega) (fun g e => by have := own_ge HO0.out g e; omega)).setCell (by show w.heap.size ≤ D; omega) _⟩
            case measure => simp [RowKit.intOf]; omega
        · obtain ⟨J, hJ⟩ : ∃ J, M - N = J := ⟨_, rfl⟩
          have hm1 : min M N = N := by omega
          have hm2 : min (M + 1) N = N := by omega
          have hm3 : M + 1 - N = J + 1 := by omega
          rw [hm1] at O0 DD hap
          rw [hJ] at O1 DD hap
          have HO0 := Lib.hid O0
          have HO1 := Lib.hid O1
          have hJl : J ≤ 2097152 := by omega
          have HSn := Lib.hid (show ((List.range (J + 1)).map fun i => F (N + i)).map Value.bool = ((List.range J).map fun i => F (N + i)).map Value.bool ++ [Value.bool false] by rw [range_snocR, List.map_append, show N + J = M by omega, HFM.out]; rfl)
          clear hm1 hJ
          have HAp := Lib.hid hap
          have xc0 := X.cell 0 rfl
          have xc1 := X.cell 1 rfl
          have yc0 := Y.cell 0 rfl
          have yc1 := Y.cell 1 rfl
          have dc0 := DD.cell 0 rfl
          have dc1 := DD.cell 1 rfl
          have df0 := DD.free 0
          have df1 := DD.free 1
          have dl := DD.lt
          clear O0 O1 hap
          go_wp2_with fail
          first | (((with_reducible refine (HA.out _ hbw).mono ?_); rintro e w5 ⟨rfl, hb5⟩; have X := X.grows hb5; have Y := Y.grows hb5; have R := R.grows hb5; have DD := DD.grows hb5; have hB := Nat.le_trans hB hb5.size; have hbw := below_two hbw hb5; have HO0 := Lib.hid (own_below HO0.out hb5); have HO1 := Lib.hid (own_below HO1.out hb5); clear xc0 xc1 yc0 yc1 dc0 dc1 df0 df1; have xc0 := X.cell 0 rfl; have xc1 := X.cell 1 rfl; have yc0 := Y.cell 0 rfl; have yc1 := Y.cell 1 rfl; have dc0 := DD.cell 0 rfl; have dc1 := DD.cell 1 rfl; have df0 := DD.free 0; have df1 := DD.free 1)) | (((with_reducible refine (HB.out _ hbw).mono ?_); rintro e w5 ⟨rfl, hb5⟩; have X := X.grows hb5; have Y := Y.grows hb5; have R := R.grows hb5; have DD := DD.grows hb5; have hB := Nat.le_trans hB hb5.size; have hbw := below_two hbw hb5; have HO0 := Lib.hid (own_below HO0.out hb5); have HO1 := Lib.hid (own_below HO1.out hb5); clear xc0 xc1 yc0 yc1 dc0 dc1 df0 df1; have xc0 := X.cell 0 rfl; have xc1 := X.cell 1 rfl; have yc0 := Y.cell 0 rfl; have yc1 := Y.cell 1 rfl; have dc0 := DD.cell 0 rfl; have dc1 := DD.cell 1 rfl; have df0 := DD.free 0; have df1 := DD.free 1))
          go_wp2_with fail
          first | (((with_reducible refine (HA.out _ hbw).mono ?_); rintro e w5 ⟨rfl, hb5⟩; have X := X.grows hb5; have Y := Y.grows hb5; have R := R.grows hb5; have DD := DD.grows hb5; have hB := Nat.le_trans hB hb5.size; have hbw := below_two hbw hb5; have HO0 := Lib.hid (own_below HO0.out hb5); have HO1 := Lib.hid (own_below HO1.out hb5); clear xc0 xc1 yc0 yc1 dc0 dc1 df0 df1; have xc0 := X.cell 0 rfl; have xc1 := X.cell 1 rfl; have yc0 := Y.cell 0 rfl; have yc1 := Y.cell 1 rfl; have dc0 := DD.cell 0 rfl; have dc1 := DD.cell 1 rfl; have df0 := DD.free 0; have df1 := DD.free 1)) | (((with_reducible refine (HB.out _ hbw).mono ?_); rintro e w5 ⟨rfl, hb5⟩; have X := X.grows hb5; have Y := Y.grows hb5; have R := R.grows hb5; have DD := DD.grows hb5; have hB := Nat.le_trans hB hb5.size; have hbw := below_two hbw hb5; have HO0 := Lib.hid (own_below HO0.out hb5); have HO1 := Lib.hid (own_below HO1.out hb5); clear xc0 xc1 yc0 yc1 dc0 dc1 df0 df1; have xc0 := X.cell 0 rfl; have xc1 := X.cell 1 rfl; have yc0 := Y.cell 0 rfl; have yc1 := Y.cell 1 rfl; have dc0 := DD.cell 0 rfl; have dc1 := DD.cell 1 rfl; have df0 := DD.free 0; have df1 := DD.free 1))
          go_wp2_with fail
          first | (((with_reducible refine (HA.out _ hbw).mono ?_); rintro e w5 ⟨rfl, hb5⟩; have X := X.grows hb5; have Y := Y.grows hb5; have R := R.grows hb5; have DD := DD.grows hb5; have hB := Nat.le_trans hB hb5.size; have hbw := below_two hbw hb5; have HO0 := Lib.hid (own_below HO0.out hb5); have HO1 := Lib.hid (own_below HO1.out hb5); clear xc0 xc1 yc0 yc1 dc0 dc1 df0 df1; have xc0 := X.cell 0 rfl; have xc1 := X.cell 1 rfl; have yc0 := Y.cell 0 rfl; have yc1 := Y.cell 1 rfl; have dc0 := DD.cell 0 rfl; have dc1 := DD.cell 1 rfl; have df0 := DD.free 0; have df1 := DD.free 1)) | (((with_reducible refine (HB.out _ hbw).mono ?_); rintro e w5 ⟨rfl, hb5⟩; have X := X.grows hb5; have Y := Y.grows hb5; have R := R.grows hb5; have DD := DD.grows hb5; have hB := Nat.le_trans hB hb5.size; have hbw := below_two hbw hb5; have HO0 := Lib.hid (own_below HO0.out hb5); have HO1 := Lib.hid (own_below HO1.out hb5); clear xc0 xc1 yc0 yc1 dc0 dc1 df0 df1; have xc0 := X.cell 0 rfl; have xc1 := X.cell 1 rfl; have yc0 := Y.cell 0 rfl; have yc1 := Y.cell 1 rfl; have dc0 := DD.cell 0 rfl; have dc1 := DD.cell 1 rfl; have df0 := DD.free 0; have df1 := DD.free 1))
          have hw5 : D < w5.heap.size := DD.lt
          go_wp2_with (at_builtin; refine wpList_append_own_at _ rfl _ _ 22 rfl B 4 i0 _ 1 1 Tryd.underlying22 hi hz0 hz1 hz2 rfl (by decide) _ _ _ rfl (own_alloc HO1.out _) ⟨w5.heap.size, 0, none⟩ 1 1 [.bool false] rfl rfl (cells_newB _ _ _ _ rfl) (bool_one false) (by unfold maxLen; omega) (by omega) (by simp; omega) ?_; intro v' w6 hown2 hgrow _ hat; obtain ⟨p6, k6, rfl⟩ := own_shape hown2; have D7 := (DD.alloc (.cells #[.bool false] 4)).grownBy hgrow (fun g e => by have := own_ge HO1.out g e; omega); have q0 := D7.cell 1 rfl; have f6 := D7.free 1)
          all_goals
            have hat2 := hat
            go_roundw
            case rel => exact ⟨M + 1, _, _, by go_num, by omega,
              ((X.alloc (.cells #[.bool false] 4)).grownBy hgrow (fun g e => by have := own_ge HO1.out g e; omega)).other (by show w.heap.size ≠ D; omega) _,
              ((Y.alloc (.cells #[.bool false] 4)).grownBy hgrow (fun g e => by have := own_ge HO1.out g e; omega)).other (by show w.heap.size + 1 ≠ D; omega) _,
              ((R.alloc (.cells #[.bool false] 4)).grownBy hgrow (fun g e => by have := own_ge HO1.out g e; omega)).other (by show w.heap.size + 2 ≠ D; omega) _,
              D7.set 1 _,
              by rw [hm2]; exact own_set (p := ⟨D, 1, none⟩) (own_grown (own_alloc HO0.out _) hgrow (fun g e1 e2 => HAp.out g e2 e1)) hDB _,
              by rw [hm3, HSn.out]; exact own_set (p := ⟨D, 1, none⟩) hown2 hDB _,
              (apart_new (W := w5) (o := .cells #[.bool false] 4) HAp.out.symm hat2 HO0.out).symm,
              by have h7 := hgrow.size; simp at h7 ⊢; omega,
              ((hbw.alloc hbw.size (.cells #[.bool false] 4)).grown hgrow (by have h8 := hbw.size; simp; omega) (fun g e => by have := own_ge HO1.out g e; omega)).setCell (by show w.heap.size ≤ D; omega) _⟩
            case measure => simp [RowKit.intOf]; omega
      · rw [hx] at HA
        rw [hy] at HB
        have HFM := Lib.hid (show F M = false by rw [HF.out]; show (atL h c M && atL h' c' M) = false; rw [hx, hy]; rfl)
        clear hx hy
        by_cases hlo : M < N
        · have hm1 : min M N = M := by omega
          have hm2 : min (M + 1) N = M + 1 := by omega
          have hm3 : M + 1 - N = 0 := by omega
          have hm4 : M - N = 0 := by omega
          rw [hm1] at O0 DD hap
          rw [hm4] at O1 DD hap
          have HO0 := Lib.hid O0
          have HO1 := Lib.hid O1
          have HSn := Lib.hid (show ((List.range (M + 1)).map F).map Value.bool = ((List.range M).map F).map Value.bool ++ [Value.bool false] by rw [range_snocR, List.map_append, HFM.out]; rfl)
          clear hm1 hm4
          have HAp := Lib.hid hap
          have xc0 := X.cell 0 rfl
          have xc1 := X.cell 1 rfl
          have yc0 := Y.cell 0 rfl
          have yc1 := Y.cell 1 rfl
          have dc0 := DD.cell 0 rfl
          have dc1 := DD.cell 1 rfl
          have df0 := DD.free 0
          have df1 := DD.free 1
          have dl := DD.lt
          clear O0 O1 hap
          go_wp2_with fail
          first | (((with_reducible refine (HA.out _ hbw).mono ?_); rintro e w5 ⟨rfl, hb5⟩; have X := X.grows hb5; have Y := Y.grows hb5; have R := R.grows hb5; have DD := DD.grows hb5; have hB := Nat.le_trans hB hb5.size; have hbw := below_two hbw hb5; have HO0 := Lib.hid (own_below HO0.out hb5); have HO1 := Lib.hid (own_below HO1.out hb5); clear xc0 xc1 yc0 yc1 dc0 dc1 df0 df1; have xc0 := X.cell 0 rfl; have xc1 := X.cell 1 rfl; have yc0 := Y.cell 0 rfl; have yc1 := Y.cell 1 rfl; have dc0 := DD.cell 0 rfl; have dc1 := DD.cell 1 rfl; have df0 := DD.free 0; have df1 := DD.free 1)) | (((with_reducible refine (HB.out _ hbw).mono ?_); rintro e w5 ⟨rfl, hb5⟩; have X := X.grows hb5; have Y := Y.grows hb5; have R := R.grows hb5; have DD := DD.grows hb5; have hB := Nat.le_trans hB hb5.size; have hbw := below_two hbw hb5; have HO0 := Lib.hid (own_below HO0.out hb5); have HO1 := Lib.hid (own_below HO1.out hb5); clear xc0 xc1 yc0 yc1 dc0 dc1 df0 df1; have xc0 := X.cell 0 rfl; have xc1 := X.cell 1 rfl; have yc0 := Y.cell 0 rfl; have yc1 := Y.cell 1 rfl; have dc0 := DD.cell 0 rfl; have dc1 := DD.cell 1 rfl; have df0 := DD.free 0; have df1 := DD.free 1))
          go_wp2_with fail
          first | (((with_reducible refine (HA.out _ hbw).mono ?_); rintro e w5 ⟨rfl, hb5⟩; have X := X.grows hb5; have Y := Y.grows hb5; have R := R.grows hb5; have DD := DD.grows hb5; have hB := Nat.le_trans hB hb5.size; have hbw := below_two hbw hb5; have HO0 := Lib.hid (own_below HO0.out hb5); have HO1 := Lib.hid (own_below HO1.out hb5); clear xc0 xc1 yc0 yc1 dc0 dc1 df0 df1; have xc0 := X.cell 0 rfl; have xc1 := X.cell 1 rfl; have yc0 := Y.cell 0 rfl; have yc1 := Y.cell 1 rfl; have dc0 := DD.cell 0 rfl; have dc1 := DD.cell 1 rfl; have df0 := DD.free 0; have df1 := DD.free 1)) | (((with_reducible refine (HB.out _ hbw).mono ?_); rintro e w5 ⟨rfl, hb5⟩; have X := X.grows hb5; have Y := Y.grows hb5; have R := R.grows hb5; have DD := DD.grows hb5; have hB := Nat.le_trans hB hb5.size; have hbw := below_two hbw hb5; have HO0 := Lib.hid (own_below HO0.out hb5); have HO1 := Lib.hid (own_below HO1.out hb5); clear xc0 xc1 yc0 yc1 dc0 dc1 df0 df1; have xc0 := X.cell 0 rfl; have xc1 := X.cell 1 rfl; have yc0 := Y.cell 0 rfl; have yc1 := Y.cell 1 rfl; have dc0 := DD.cell 0 rfl; have dc1 := DD.cell 1 rfl; have df0 := DD.free 0; have df1 := DD.free 1))
          go_wp2_with fail
          first | (((with_reducible refine (HA.out _ hbw).mono ?_); rintro e w5 ⟨rfl, hb5⟩; have X := X.grows hb5; have Y := Y.grows hb5; have R := R.grows hb5; have DD := DD.grows hb5; have hB := Nat.le_trans hB hb5.size; have hbw := below_two hbw hb5; have HO0 := Lib.hid (own_below HO0.out hb5); have HO1 := Lib.hid (own_below HO1.out hb5); clear xc0 xc1 yc0 yc1 dc0 dc1 df0 df1; have xc0 := X.cell 0 rfl; have xc1 := X.cell 1 rfl; have yc0 := Y.cell 0 rfl; have yc1 := Y.cell 1 rfl; have dc0 := DD.cell 0 rfl; have dc1 := DD.cell 1 rfl; have df0 := DD.free 0; have df1 := DD.free 1)) | (((with_reducible refine (HB.out _ hbw).mono ?_); rintro e w5 ⟨rfl, hb5⟩; have X := X.grows hb5; have Y := Y.grows hb5; have R := R.grows hb5; have DD := DD.grows hb5; have hB := Nat.le_trans hB hb5.size; have hbw := below_two hbw hb5; have HO0 := Lib.hid (own_below HO0.out hb5); have HO1 := Lib.hid (own_below HO1.out hb5); clear xc0 xc1 yc0 yc1 dc0 dc1 df0 df1; have xc0 := X.cell 0 rfl; have xc1 := X.cell 1 rfl; have yc0 := Y.cell 0 rfl; have yc1 := Y.cell 1 rfl; have dc0 := DD.cell 0 rfl; have dc1 := DD.cell 1 rfl; have df0 := DD.free 0; have df1 := DD.free 1))
          have hw5 : D < w5.heap.size := DD.lt
          go_wp2_with (at_builtin; refine wpList_append_own_at _ rfl _ _ 22 rfl B 4 i0 _ 1 1 Tryd.underlying22 hi hz0 hz1 hz2 rfl (by decide) _ _ _ rfl (own_alloc HO0.out _) ⟨w5.heap.size, 0, none⟩ 1 1 [.bool false] rfl rfl (cells_newB _ _ _ _ rfl) (bool_one false) (by unfold maxLen; omega) (by omega) (by simp; omega) ?_; intro v' w6 hown2 hgrow _ hat; obtain ⟨p6, k6, rfl⟩ := own_shape hown2; have D7 := (DD.alloc (.cells #[.bool false] 4)).grownBy hgrow (fun g e => by have := own_ge HO0.out g e; omega); have q0 := D7.cell 0 rfl; have f6 := D7.free 0)
          all_goals
            have hat2 := hat
            go_roundw
            case rel => exact ⟨M + 1, _, _, by go_num, by omega,
              ((X.alloc (.cells #[.bool false] 4)).grownBy hgrow (fun g e => by have := own_ge HO0.out g e; omega)).other (by show w.heap.size ≠ D; omega) _,
              ((Y.alloc (.cells #[.bool false] 4)).grownBy hgrow (fun g e => by have := own_ge HO0.out g e; omega)).other (by show w.heap.size + 1 ≠ D; omega) _,
              ((R.alloc (.cells #[.bool false] 4)).grownBy hgrow (fun g e => by have := own_ge HO0.out g e; omega)).other (by show w.heap.size + 2 ≠ D; omega) _,
              D7.set 0 _,
              by rw [hm2, HSn.out]; exact own_set (p := ⟨D, 0, none⟩) hown2 hDB _,
              by rw [hm3]; exact own_set (p := ⟨D, 0, none⟩) (own_grown (own_alloc HO1.out _) hgrow (fun g e1 e2 => HAp.out g e1 e2)) hDB _,
              apart_new (W := w5) (o := .cells #[.bool false] 4) HAp.out hat2 HO1.out,
              by have h7 := hgrow.size; simp at h7 ⊢; omega,
              ((hbw.alloc hbw.size (.cells #[.bool false] 4)).grown hgrow (by have h8 := hbw.size; simp; omega) (fun g e => by have := own_ge HO0.out g e; omega)).setCell (by show w.heap.size ≤ D; omega) _⟩
            case measure => simp [RowKit.intOf]; omega
        · obtain ⟨J, hJ⟩ : ∃ J, M - N = J := ⟨_, rfl⟩
          have hm1 : min M N = N := by omega
          have hm2 : min (M + 1) N = N := by omega
          have hm3 : M + 1 - N = J + 1 := by omega
          rw [hm1] at O0 DD hap
          rw [hJ] at O1 DD hap
          have HO0 := Lib.hid O0
          have HO1 := Lib.hid O1
          have hJl : J ≤ 2097152 := by omega
          have HSn := Lib.hid (show ((List.range (J + 1)).map fun i => F (N + i)).map Value.bool = ((List.range J).map fun i => F (N + i)).map Value.bool ++ [Value.bool false] by rw [range_snocR, List.map_append, show N + J = M by omega, HFM.out]; rfl)
          clear hm1 hJ
          have HAp := Lib.hid hap
          have xc0 := X.cell 0 rfl
          have xc1 := X.cell 1 rfl
          have yc0 := Y.cell 0 rfl
          have yc1 := Y.cell 1 rfl
          have dc0 := DD.cell 0 rfl
          have dc1 := DD.cell 1 rfl
          have df0 := DD.free 0
          have df1 := DD.free 1
          have dl := DD.lt
          clear O0 O1 hap
          go_wp2_with fail
          first | (((with_reducible refine (HA.out _ hbw).mono ?_); rintro e w5 ⟨rfl, hb5⟩; have X := X.grows hb5; have Y := Y.grows hb5; have R := R.grows hb5; have DD := DD.grows hb5; have hB := Nat.le_trans hB hb5.size; have hbw := below_two hbw hb5; have HO0 := Lib.hid (own_below HO0.out hb5); have HO1 := Lib.hid (own_below HO1.out hb5); clear xc0 xc1 yc0 yc1 dc0 dc1 df0 df1; have xc0 := X.cell 0 rfl; have xc1 := X.cell 1 rfl; have yc0 := Y.cell 0 rfl; have yc1 := Y.cell 1 rfl; have dc0 := DD.cell 0 rfl; have dc1 := DD.cell 1 rfl; have df0 := DD.free 0; have df1 := DD.free 1)) | (((with_reducible refine (HB.out _ hbw).mono ?_); rintro e w5 ⟨rfl, hb5⟩; have X := X.grows hb5; have Y := Y.grows hb5; have R := R.grows hb5; have DD := DD.grows hb5; have hB := Nat.le_trans hB hb5.size; have hbw := below_two hbw hb5; have HO0 := Lib.hid (own_below HO0.out hb5); have HO1 := Lib.hid (own_below HO1.out hb5); clear xc0 xc1 yc0 yc1 dc0 dc1 df0 df1; have xc0 := X.cell 0 rfl; have xc1 := X.cell 1 rfl; have yc0 := Y.cell 0 rfl; have yc1 := Y.cell 1 rfl; have dc0 := DD.cell 0 rfl; have dc1 := DD.cell 1 rfl; have df0 := DD.free 0; have df1 := DD.free 1))
          go_wp2_with fail
          first | (((with_reducible refine (HA.out _ hbw).mono ?_); rintro e w5 ⟨rfl, hb5⟩; have X := X.grows hb5; have Y := Y.grows hb5; have R := R.grows hb5; have DD := DD.grows hb5; have hB := Nat.le_trans hB hb5.size; have hbw := below_two hbw hb5; have HO0 := Lib.hid (own_below HO0.out hb5); have HO1 := Lib.hid (own_below HO1.out hb5); clear xc0 xc1 yc0 yc1 dc0 dc1 df0 df1; have xc0 := X.cell 0 rfl; have xc1 := X.cell 1 rfl; have yc0 := Y.cell 0 rfl; have yc1 := Y.cell 1 rfl; have dc0 := DD.cell 0 rfl; have dc1 := DD.cell 1 rfl; have df0 := DD.free 0; have df1 := DD.free 1)) | (((with_reducible refine (HB.out _ hbw).mono ?_); rintro e w5 ⟨rfl, hb5⟩; have X := X.grows hb5; have Y := Y.grows hb5; have R := R.grows hb5; have DD := DD.grows hb5; have hB := Nat.le_trans hB hb5.size; have hbw := below_two hbw hb5; have HO0 := Lib.hid (own_below HO0.out hb5); have HO1 := Lib.hid (own_below HO1.out hb5); clear xc0 xc1 yc0 yc1 dc0 dc1 df0 df1; have xc0 := X.cell 0 rfl; have xc1 := X.cell 1 rfl; have yc0 := Y.cell 0 rfl; have yc1 := Y.cell 1 rfl; have dc0 := DD.cell 0 rfl; have dc1 := DD.cell 1 rfl; have df0 := DD.free 0; have df1 := DD.free 1))
          go_wp2_with fail
          first | (((with_reducible refine (HA.out _ hbw).mono ?_); rintro e w5 ⟨rfl, hb5⟩; have X := X.grows hb5; have Y := Y.grows hb5; have R := R.grows hb5; have DD := DD.grows hb5; have hB := Nat.le_trans hB hb5.size; have hbw := below_two hbw hb5; have HO0 := Lib.hid (own_below HO0.out hb5); have HO1 := Lib.hid (own_below HO1.out hb5); clear xc0 xc1 yc0 yc1 dc0 dc1 df0 df1; have xc0 := X.cell 0 rfl; have xc1 := X.cell 1 rfl; have yc0 := Y.cell 0 rfl; have yc1 := Y.cell 1 rfl; have dc0 := DD.cell 0 rfl; have dc1 := DD.cell 1 rfl; have df0 := DD.free 0; have df1 := DD.free 1)) | (((with_reducible refine (HB.out _ hbw).mono ?_); rintro e w5 ⟨rfl, hb5⟩; have X := X.grows hb5; have Y := Y.grows hb5; have R := R.grows hb5; have DD := DD.grows hb5; have hB := Nat.le_trans hB hb5.size; have hbw := below_two hbw hb5; have HO0 := Lib.hid (own_below HO0.out hb5); have HO1 := Lib.hid (own_below HO1.out hb5); clear xc0 xc1 yc0 yc1 dc0 dc1 df0 df1; have xc0 := X.cell 0 rfl; have xc1 := X.cell 1 rfl; have yc0 := Y.cell 0 rfl; have yc1 := Y.cell 1 rfl; have dc0 := DD.cell 0 rfl; have dc1 := DD.cell 1 rfl; have df0 := DD.free 0; have df1 := DD.free 1))
          have hw5 : D < w5.heap.size := DD.lt
          go_wp2_with (at_builtin; refine wpList_append_own_at _ rfl _ _ 22 rfl B 4 i0 _ 1 1 Tryd.underlying22 hi hz0 hz1 hz2 rfl (by decide) _ _ _ rfl (own_alloc HO1.out _) ⟨w5.heap.size, 0, none⟩ 1 1 [.bool false] rfl rfl (cells_newB _ _ _ _ rfl) (bool_one false) (by unfold maxLen; omega) (by omega) (by simp; omega) ?_; intro v' w6 hown2 hgrow _ hat; obtain ⟨p6, k6, rfl⟩ := own_shape hown2; have D7 := (DD.alloc (.cells #[.bool false] 4)).grownBy hgrow (fun g e => by have := own_ge HO1.out g e; omega); have q0 := D7.cell 1 rfl; have f6 := D7.free 1)
          all_goals
            have hat2 := hat
            go_roundw
            case rel => exact ⟨M + 1, _, _, by go_num, by omega,
              ((X.alloc (.cells #[.bool false] 4)).grownBy hgrow (fun g e => by have := own_ge HO1.out g e; omega)).other (by show w.heap.size ≠ D; omega) _,
              ((Y.alloc (.cells #[.bool false] 4)).grownBy hgrow (fun g e => by have := own_ge HO1.out g e; omega)).other (by show w.heap.size + 1 ≠ D; omega) _,
              ((R.alloc (.cells #[.bool false] 4)).grownBy hgrow (fun g e => by have := own_ge HO1.out g e; omega)).other (by show w.heap.size + 2 ≠ D; omega) _,
              D7.set 1 _,
              by rw [hm2]; exact own_set (p := ⟨D, 1, none⟩) (own_grown (own_alloc HO0.out _) hgrow (fun g e1 e2 => HAp.out g e2 e1)) hDB _,
              by rw [hm3, HSn.out]; exact own_set (p := ⟨D, 1, none⟩) hown2 hDB _,
              (apart_new (W := w5) (o := .cells #[.bool false] 4) HAp.out.symm hat2 HO0.out).symm,
              by have h7 := hgrow.size; simp at h7 ⊢; omega,
              ((hbw.alloc hbw.size (.cells #[.bool false] 4)).grown hgrow (by have h8 := hbw.size; simp; omega) (fun g e => by have := own_ge HO1.out g e; omega)).setCell (by show w.heap.size ≤ D; omega) _⟩
            case measure => simp [RowKit.intOf]; omega
      · rw [hx] at HA
        rw [hy] at HB
        have HFM := Lib.hid (show F M = true by rw [HF.out]; show (atL h c M && atL h' c' M) = true; rw [hx, hy]; rfl)
        clear hx hy
        by_cases hlo : M < N
        · have hm1 : min M N = M := by omega
          have hm2 : min (M + 1) N = M + 1 := by omega
          have hm3 : M + 1 - N = 0 := by omega
          have hm4 : M - N = 0 := by omega
          rw [hm1] at O0 DD hap
          rw [hm4] at O1 DD hap
          have HO0 := Lib.hid O0
          have HO1 := Lib.hid O1
          have HSn := Lib.hid (show ((List.range (M + 1)).map F).map Value.bool = ((List.range M).map F).map Value.bool ++ [Value.bool true] by rw [range_snocR, List.map_append, HFM.out]; rfl)
          clear hm1 hm4
          have HAp := Lib.hid hap
          have xc0 := X.cell 0 rfl
          have xc1 := X.cell 1 rfl
          have yc0 := Y.cell 0 rfl
          have yc1 := Y.cell 1 rfl
          have dc0 := DD.cell 0 rfl
          have dc1 := DD.cell 1 rfl
          have df0 := DD.free 0
          have df1 := DD.free 1
          have dl := DD.lt
          clear O0 O1 hap
          go_wp2_with fail
          first | (((with_reducible refine (HA.out _ hbw).mono ?_); rintro e w5 ⟨rfl, hb5⟩; have X := X.grows hb5; have Y := Y.grows hb5; have R := R.grows hb5; have DD := DD.grows hb5; have hB := Nat.le_trans hB hb5.size; have hbw := below_two hbw hb5; have HO0 := Lib.hid (own_below HO0.out hb5); have HO1 := Lib.hid (own_below HO1.out hb5); clear xc0 xc1 yc0 yc1 dc0 dc1 df0 df1; have xc0 := X.cell 0 rfl; have xc1 := X.cell 1 rfl; have yc0 := Y.cell 0 rfl; have yc1 := Y.cell 1 rfl; have dc0 := DD.cell 0 rfl; have dc1 := DD.cell 1 rfl; have df0 := DD.free 0; have df1 := DD.free 1)) | (((with_reducible refine (HB.out _ hbw).mono ?_); rintro e w5 ⟨rfl, hb5⟩; have X := X.grows hb5; have Y := Y.grows hb5; have R := R.grows hb5; have DD := DD.grows hb5; have hB := Nat.le_trans hB hb5.size; have hbw := below_two hbw hb5; have HO0 := Lib.hid (own_below HO0.out hb5); have HO1 := Lib.hid (own_below HO1.out hb5); clear xc0 xc1 yc0 yc1 dc0 dc1 df0 df1; have xc0 := X.cell 0 rfl; have xc1 := X.cell 1 rfl; have yc0 := Y.cell 0 rfl; have yc1 := Y.cell 1 rfl; have dc0 := DD.cell 0 rfl; have dc1 := DD.cell 1 rfl; have df0 := DD.free 0; have df1 := DD.free 1))
          go_wp2_with fail
          first | (((with_reducible refine (HA.out _ hbw).mono ?_); rintro e w5 ⟨rfl, hb5⟩; have X := X.grows hb5; have Y := Y.grows hb5; have R := R.grows hb5; have DD := DD.grows hb5; have hB := Nat.le_trans hB hb5.size; have hbw := below_two hbw hb5; have HO0 := Lib.hid (own_below HO0.out hb5); have HO1 := Lib.hid (own_below HO1.out hb5); clear xc0 xc1 yc0 yc1 dc0 dc1 df0 df1; have xc0 := X.cell 0 rfl; have xc1 := X.cell 1 rfl; have yc0 := Y.cell 0 rfl; have yc1 := Y.cell 1 rfl; have dc0 := DD.cell 0 rfl; have dc1 := DD.cell 1 rfl; have df0 := DD.free 0; have df1 := DD.free 1)) | (((with_reducible refine (HB.out _ hbw).mono ?_); rintro e w5 ⟨rfl, hb5⟩; have X := X.grows hb5; have Y := Y.grows hb5; have R := R.grows hb5; have DD := DD.grows hb5; have hB := Nat.le_trans hB hb5.size; have hbw := below_two hbw hb5; have HO0 := Lib.hid (own_below HO0.out hb5); have HO1 := Lib.hid (own_below HO1.out hb5); clear xc0 xc1 yc0 yc1 dc0 dc1 df0 df1; have xc0 := X.cell 0 rfl; have xc1 := X.cell 1 rfl; have yc0 := Y.cell 0 rfl; have yc1 := Y.cell 1 rfl; have dc0 := DD.cell 0 rfl; have dc1 := DD.cell 1 rfl; have df0 := DD.free 0; have df1 := DD.free 1))
          go_wp2_with fail
          first | (((with_reducible refine (HA.out _ hbw).mono ?_); rintro e w5 ⟨rfl, hb5⟩; have X := X.grows hb5; have Y := Y.grows hb5; have R := R.grows hb5; have DD := DD.grows hb5; have hB := Nat.le_trans hB hb5.size; have hbw := below_two hbw hb5; have HO0 := Lib.hid (own_below HO0.out hb5); have HO1 := Lib.hid (own_below HO1.out hb5); clear xc0 xc1 yc0 yc1 dc0 dc1 df0 df1; have xc0 := X.cell 0 rfl; have xc1 := X.cell 1 rfl; have yc0 := Y.cell 0 rfl; have yc1 := Y.cell 1 rfl; have dc0 := DD.cell 0 rfl; have dc1 := DD.cell 1 rfl; have df0 := DD.free 0; have df1 := DD.free 1)) | (((with_reducible refine (HB.out _ hbw).mono ?_); rintro e w5 ⟨rfl, hb5⟩; have X := X.grows hb5; have Y := Y.grows hb5; have R := R.grows hb5; have DD := DD.grows hb5; have hB := Nat.le_trans hB hb5.size; have hbw := below_two hbw hb5; have HO0 := Lib.hid (own_below HO0.out hb5); have HO1 := Lib.hid (own_below HO1.out hb5); clear xc0 xc1 yc0 yc1 dc0 dc1 df0 df1; have xc0 := X.cell 0 rfl; have xc1 := X.cell 1 rfl; have yc0 := Y.cell 0 rfl; have yc1 := Y.cell 1 rfl; have dc0 := DD.cell 0 rfl; have dc1 := DD.cell 1 rfl; have df0 := DD.free 0; have df1 := DD.free 1))
          have hw5 : D < w5.heap.size := DD.lt
          go_wp2_with (at_builtin; refine wpList_append_own_at _ rfl _ _ 22 rfl B 4 i0 _ 1 1 Tryd.underlying22 hi hz0 hz1 hz2 rfl (by decide) _ _ _ rfl (own_alloc HO0.out _) ⟨w5.heap.size, 0, none⟩ 1 1 [.bool true] rfl rfl (cells_newB _ _ _ _ rfl) (bool_one true) (by unfold maxLen; omega) (by omega) (by simp; omega) ?_; intro v' w6 hown2 hgrow _ hat; obtain ⟨p6, k6, rfl⟩ := own_shape hown2; have D7 := (DD.alloc (.cells #[.bool true] 4)).grownBy hgrow (fun g e => by have := own_ge HO0.out g e; omega); have q0 := D7.cell 0 rfl; have f6 := D7.free 0)
          all_goals
            have hat2 := hat
            go_roundw
            case rel => exact ⟨M + 1, _, _, by go_num, by omega,
              ((X.alloc (.cells #[.bool true] 4)).grownBy hgrow (fun g e => by have := own_ge HO0.out g e; omega)).other (by show w.heap.size ≠ D; omega) _,
              ((Y.alloc (.cells #[.bool true] 4)).grownBy hgrow (fun g e => by have := own_ge HO0.out g e; omega)).other (by show w.heap.size + 1 ≠ D; omega) _,
              ((R.alloc (.cells #[.bool true] 4)).grownBy hgrow (fun g e => by have := own_ge HO0.out g e; omega)).other (by show w.heap.size + 2 ≠ D; omega) _,
              D7.set 0 _,
              by rw [hm2, HSn.out]; exact own_set (p := ⟨D, 0, none⟩) hown2 hDB _,
              by rw [hm3]; exact own_set (p := ⟨D, 0, none⟩) (own_grown (own_alloc HO1.out _) hgrow (fun g e1 e2 => HAp.out g e1 e2)) hDB _,
              apart_new (W := w5) (o := .cells #[.bool true] 4) HAp.out hat2 HO1.out,
              by have h7 := hgrow.size; simp at h7 ⊢; omega,
              ((hbw.alloc hbw.size (.cells #[.bool true] 4)).grown hgrow (by have h8 := hbw.size; simp; omega) (fun g e => by have := own_ge HO0.out g e; omega)).setCell (by show w.heap.size ≤ D; omega) _⟩
            case measure => simp [RowKit.intOf]; omega
        · obtain ⟨J, hJ⟩ : ∃ J, M - N = J := ⟨_, rfl⟩
          have hm1 : min M N = N := by omega
          have hm2 : min (M + 1) N = N := by omega
          have hm3 : M + 1 - N = J + 1 := by omega
          rw [hm1] at O0 DD hap
          rw [hJ] at O1 DD hap
          have HO0 := Lib.hid O0
          have HO1 := Lib.hid O1
          have hJl : J ≤ 2097152 := by omega
          have HSn := Lib.hid (show ((List.range (J + 1)).map fun i => F (N + i)).map Value.bool = ((List.range J).map fun i => F (N + i)).map Value.bool ++ [Value.bool true] by rw [range_snocR, List.map_append, show N + J = M by omega, HFM.out]; rfl)
          clear hm1 hJ
          have HAp := Lib.hid hap
          have xc0 := X.cell 0 rfl
          have xc1 := X.cell 1 rfl
          have yc0 := Y.cell 0 rfl
          have yc1 := Y.cell 1 rfl
          have dc0 := DD.cell 0 rfl
          have dc1 := DD.cell 1 rfl
          have df0 := DD.free 0
          have df1 := DD.free 1
          have dl := DD.lt
          clear O0 O1 hap
          go_wp2_with fail
          first | (((with_reducible refine (HA.out _ hbw).mono ?_); rintro e w5 ⟨rfl, hb5⟩; have X := X.grows hb5; have Y := Y.grows hb5; have R := R.grows hb5; have DD := DD.grows hb5; have hB := Nat.le_trans hB hb5.size; have hbw := below_two hbw hb5; have HO0 := Lib.hid (own_below HO0.out hb5); have HO1 := Lib.hid (own_below HO1.out hb5); clear xc0 xc1 yc0 yc1 dc0 dc1 df0 df1; have xc0 := X.cell 0 rfl; have xc1 := X.cell 1 rfl; have yc0 := Y.cell 0 rfl; have yc1 := Y.cell 1 rfl; have dc0 := DD.cell 0 rfl; have dc1 := DD.cell 1 rfl; have df0 := DD.free 0; have df1 := DD.free 1)) | (((with_reducible refine (HB.out _ hbw).mono ?_); rintro e w5 ⟨rfl, hb5⟩; have X := X.grows hb5; have Y := Y.grows hb5; have R := R.grows hb5; have DD := DD.grows hb5; have hB := Nat.le_trans hB hb5.size; have hbw := below_two hbw hb5; have HO0 := Lib.hid (own_below HO0.out hb5); have HO1 := Lib.hid (own_below HO1.out hb5); clear xc0 xc1 yc0 yc1 dc0 dc1 df0 df1; have xc0 := X.cell 0 rfl; have xc1 := X.cell 1 rfl; have yc0 := Y.cell 0 rfl; have yc1 := Y.cell 1 rfl; have dc0 := DD.cell 0 rfl; have dc1 := DD.cell 1 rfl; have df0 := DD.free 0; have df1 := DD.free 1))
          go_wp2_with fail
          first | (((with_reducible refine (HA.out _ hbw).mono ?_); rintro e w5 ⟨rfl, hb5⟩; have X := X.grows hb5; have Y := Y.grows hb5; have R := R.grows hb5; have DD := DD.grows hb5; have hB := Nat.le_trans hB hb5.size; have hbw := below_two hbw hb5; have HO0 := Lib.hid (own_below HO0.out hb5); have HO1 := Lib.hid (own_below HO1.out hb5); clear xc0 xc1 yc0 yc1 dc0 dc1 df0 df1; have xc0 := X.cell 0 rfl; have xc1 := X.cell 1 rfl; have yc0 := Y.cell 0 rfl; have yc1 := Y.cell 1 rfl; have dc0 := DD.cell 0 rfl; have dc1 := DD.cell 1 rfl; have df0 := DD.free 0; have df1 := DD.free 1)) | (((with_reducible refine (HB.out _ hbw).mono ?_); rintro e w5 ⟨rfl, hb5⟩; have X := X.grows hb5; have Y := Y.grows hb5; have R := R.grows hb5; have DD := DD.grows hb5; have hB := Nat.le_trans hB hb5.size; have hbw := below_two hbw hb5; have HO0 := Lib.hid (own_below HO0.out hb5); have HO1 := Lib.hid (own_below HO1.out hb5); clear xc0 xc1 yc0 yc1 dc0 dc1 df0 df1; have xc0 := X.cell 0 rfl; have xc1 := X.cell 1 rfl; have yc0 := Y.cell 0 rfl; have yc1 := Y.cell 1 rfl; have dc0 := DD.cell 0 rfl; have dc1 := DD.cell 1 rfl; have df0 := DD.free 0; have df1 := DD.free 1))
          go_wp2_with fail
          first | (((with_reducible refine (HA.out _ hbw).mono ?_); rintro e w5 ⟨rfl, hb5⟩; have X := X.grows hb5; have Y := Y.grows hb5; have R := R.grows hb5; have DD := DD.grows hb5; have hB := Nat.le_trans hB hb5.size; have hbw := below_two hbw hb5; have HO0 := Lib.hid (own_below HO0.out hb5); have HO1 := Lib.hid (own_below HO1.out hb5); clear xc0 xc1 yc0 yc1 dc0 dc1 df0 df1; have xc0 := X.cell 0 rfl; have xc1 := X.cell 1 rfl; have yc0 := Y.cell 0 rfl; have yc1 := Y.cell 1 rfl; have dc0 := DD.cell 0 rfl; have dc1 := DD.cell 1 rfl; have df0 := DD.free 0; have df1 := DD.free 1)) | (((with_reducible refine (HB.out _ hbw).mono ?_); rintro e w5 ⟨rfl, hb5⟩; have X := X.grows hb5; have Y := Y.grows hb5; have R := R.grows hb5; have DD := DD.grows hb5; have hB := Nat.le_trans hB hb5.size; have hbw := below_two hbw hb5; have HO0 := Lib.hid (own_below HO0.out hb5); have HO1 := Lib.hid (own_below HO1.out hb5); clear xc0 xc1 yc0 yc1 dc0 dc1 df0 df1; have xc0 := X.cell 0 rfl; have xc1 := X.cell 1 rfl; have yc0 := Y.cell 0 rfl; have yc1 := Y.cell 1 rfl; have dc0 := DD.cell 0 rfl; have dc1 := DD.cell 1 rfl; have df0 := DD.free 0; have df1 := DD.free 1))
          have hw5 : D < w5.heap.size := DD.lt
          go_wp2_with (at_builtin; refine wpList_append_own_at _ rfl _ _ 22 rfl B 4 i0 _ 1 1 Tryd.underlying22 hi hz0 hz1 hz2 rfl (by decide) _ _ _ rfl (own_alloc HO1.out _) ⟨w5.heap.size, 0, none⟩ 1 1 [.bool true] rfl rfl (cells_newB _ _ _ _ rfl) (bool_one true) (by unfold maxLen; omega) (by omega) (by simp; omega) ?_; intro v' w6 hown2 hgrow _ hat; obtain ⟨p6, k6, rfl⟩ := own_shape hown2; have D7 := (DD.alloc (.cells #[.bool true] 4)).grownBy hgrow (fun g e => by have := own_ge HO1.out g e; omega); have q0 := D7.cell 1 rfl; have f6 := D7.free 1)
          all_goals
            have hat2 := hat
            go_roundw
            case rel => exact ⟨M + 1, _, _, by go_num, by omega,
              ((X.alloc (.cells #[.bool true] 4)).grownBy hgrow (fun g e => by have := own_ge HO1.out g e; omega)).other (by show w.heap.size ≠ D; omega) _,
              ((Y.alloc (.cells #[.bool true] 4)).grownBy hgrow (fun g e => by have := own_ge HO1.out g e; omega)).other (by show w.heap.size + 1 ≠ D; omega) _,
              ((R.alloc (.cells #[.bool true] 4)).grownBy hgrow (fun g e => by have := own_ge HO1.out g e; omega)).other (by show w.heap.size + 2 ≠ D; omega) _,
              D7.set 1 _,
              by rw [hm2]; exact own_set (p := ⟨D, 1, none⟩) (own_grown (own_alloc HO0.out _) hgrow (fun g e1 e2 => HAp.out g e2 e1)) hDB _,
              by rw [hm3, HSn.out]; exact own_set (p := ⟨D, 1, none⟩) hown2 hDB _,
              (apart_new (W := w5) (o := .cells #[.bool true] 4) HAp.out.symm hat2 HO0.out).symm,
              by have h7 := hgrow.size; simp at h7 ⊢; omega,
              ((hbw.alloc hbw.size (.cells #[.bool true] 4)).grown hgrow (by have h8 := hbw.size; simp; omega) (fun g e => by have := own_ge HO1.out g e; omega)).setCell (by show w.heap.size ≤ D; omega) _⟩
            case measure => simp [RowKit.intOf]; omega
    · obtain rfl : M = T := by omega
      have hTN := HT.out
      have hm1 : min M N = N := by omega
      have hm2 : M - N = P := by omega
      rw [hm1] at O0 DD
      rw [hm2] at O1 DD
      have hIS : IsSet wr (.agg #[.slice p0 N k0, .slice p1 P k1]) ((List.range N).map F) ((List.range P).map fun i => F (N + i)) := ⟨_, _, rfl, own_isB (own_cast O0 (by simp) rfl), own_isB (own_cast O1 (by simp) rfl)⟩
      have HIS := Lib.hid hIS
      have HTab := Lib.hid (tab_at HFr.out hP0)
      have d0 := DD.cell 0 rfl
      have d1 := DD.cell 1 rfl
      have xc1 := X.cell 1 rfl
      have yc1 := Y.cell 1 rfl
      clear O0 O1 hap hTN hm1 hm2 hIS
      go_wp2_with (go_at_call 34; refine (bounded_of _ _ _ F _ HIS.out (HTab.out ▸ hAS _ _ _ _ HIS.out (by simp; omega) (by simp; omega)) hP0 HFr.out (by omega)).mono ?_; rintro e w5 ⟨⟨hh, cc, hC, hres⟩, hb5⟩; obtain ⟨hq, hl, hz, cq, cl, cz, nn, rfl⟩ := hres.shape; have R5 := R.grows hb5; have r0 := R5.cell 0 rfl; have r1 := R5.cell 1 rfl; have z0 := R5.free 0; have z1 := R5.free 1)
      have q0 : (w5.setCell ⟨w.heap.size + 2, 0, none⟩ (.slice hq hl hz)).cell? ⟨w.heap.size + 2, 0, none⟩ = some (.slice hq hl hz) := (R5.set 0 _).cell 0 rfl
      have q1 : ((w5.setCell ⟨w.heap.size + 2, 0, none⟩ (.slice hq hl hz)).setCell ⟨w.heap.size + 2, 1, none⟩ (.slice cq cl cz)).cell? ⟨w.heap.size + 2, 1, none⟩ = some (.slice cq cl cz) := ((R5.set 0 _).set 1 _).cell 1 rfl
      have hlt2 : w.heap.size + 2 < wr.heap.size := R.lt
      refine bodyPost_ret (v := .tuple #[.agg #[.slice hq hl hz, .slice cq cl cz], .int .i64 nn]) (by simp [results, Tryd.results40, go_sem, q0, q1]) rfl ⟨.inr ⟨rfl, _, _, hC, ((hres.set (p := ⟨w.heap.size + 2, 0, none⟩) hlt2 _).set (p := ⟨w.heap.size + 2, 1, none⟩) hlt2 _).mono hbw.size⟩, ((below_two hbw hb5).setCell (Nat.le_add_right _ 2) _).setCell (Nat.le_add_right _ 2) _⟩

set_option maxRecDepth 100000 in
set_option maxHeartbeats 8000000 in
theorem rcombined_or (va vb : Value) (h c h' c' : List Bool) (w : World) (hva : IsSet w va h c) (hvb : IsSet w vb h' c') (ho : okLen h.length c.length = true) (ho' : okLen h'.length c'.length = true) (hAS : AllShort) :
    Calls Tryd.prog 40 #[va, vb, .bool false] w fun e w' => OpRes w.heap.size true (fun n => atL h c n || atL h' c' n) w' e ∧ Below w.heap.size w w' := by
  obtain ⟨hp, hk, cp, ck, rfl, a1, a2⟩ := hva.shape
  obtain ⟨hp', hk', cp', ck', rfl, b1, b2⟩ := hvb.shape
  obtain ⟨hc, hs⟩ := okLen_pos ho
  obtain ⟨hc', hs'⟩ := okLen_pos ho'
  obtain ⟨i0, hi, hz0, hz1, hz2⟩ := info_parts infoBool
  have HV := Lib.hid (fun W => ho ▸ rvalid_any hp cp h.length hk c.length ck W (by omega) (by omega))
  have HV' := Lib.hid (fun W => ho' ▸ rvalid_any hp' cp' h'.length hk' c'.length ck' W (by omega) (by omega))
  have HAA := Lib.hid (fun (k : Nat) (hk : k ≤ 9223372036854775807) W (hW : Below w.heap.size w W) => at_any _ h c k W (hva.grows hW) hc (by omega) (by omega) hk)
  have HBB := Lib.hid (fun (k : Nat) (hk : k ≤ 9223372036854775807) W (hW : Below w.heap.size w W) => at_any _ h' c' k W (hvb.grows hW) hc' (by omega) (by omega) hk)
  obtain ⟨F, hF⟩ : ∃ F : Nat → Bool, F = fun n => atL h c n || atL h' c' n := ⟨_, rfl⟩
  obtain ⟨P, hP⟩ : ∃ P, c.length * c'.length = P := ⟨_, rfl⟩
  obtain ⟨N, hN⟩ : ∃ N, max h.length h'.length = N := ⟨_, rfl⟩
  obtain ⟨T, hT⟩ : ∃ T, N + P = T := ⟨_, rfl⟩
  have HFr := Lib.hid (show From F P N by
    rw [hF, ← hP, ← hN]; exact both_from (fun x y => x || y) (lcm_from (atL_from h c hc) _ (Nat.dvd_mul_right _ _)) (lcm_from (atL_from h' c' hc') _ (Nat.dvd_mul_left _ _)))
  have hP0 : 0 < P := by rw [← hP]; exact Nat.mul_pos hc hc'
  have hPl : P ≤ 512 * 512 := by rw [← hP]; exact Nat.mul_le_mul (by omega) (by omega)
  have hNl : N ≤ 512 := by omega
  have e0 : max (h.length : Int) (h'.length : Int) = (N : Int) := by omega
  have e1 : (N : Int) + (P : Int) = (T : Int) := by omega
  have e2 : (c.length : Int) * (c'.length : Int) = (P : Int) := by rw [← hP]; exact (Int.natCast_mul _ _).symm
  have hTl : T ≤ 2097152 := by omega
  rw [← hF]
  have HF := Lib.hid hF
  have HT := Lib.hid hT
  clear ho ho' hva hvb a1 a2 b1 b2 hF hP hN hT
  have X := ((Blk.new w #[.slice hp h.length hk, .slice cp c.length ck] 24).alloc (.cells #[.slice hp' h'.length hk', .slice cp' c'.length ck'] 24)).alloc (.cells #[.slice none 0 0, .slice none 0 0] 24)
  have Y := (Blk.alloc1 w #[.slice hp h.length hk, .slice cp c.length ck] #[.slice hp' h'.length hk', .slice cp' c'.length ck'] 24 24).alloc (.cells #[.slice none 0 0, .slice none 0 0] 24)
  have R := Blk.alloc2 w (.cells #[.slice hp h.length hk, .slice cp c.length ck] 24) (.cells #[.slice hp' h'.length hk', .slice cp' c'.length ck'] 24) #[.slice none 0 0, .slice none 0 0] 24
  have hbw : Below w.heap.size w (((w.alloc (.cells #[.slice hp h.length hk, .slice cp c.length ck] 24)).alloc (.cells #[.slice hp' h'.length hk', .slice cp' c'.length ck'] 24)).alloc (.cells #[.slice none 0 0, .slice none 0 0] 24)) := by go_grown
  go_enter Tryd.func40, Tryd.ntmps40
  go_wp2_with (go_at_call 18; first
    | ((with_reducible refine (HV.out _).mono ?_); rintro e w1 ⟨rfl, hb1⟩; have X := X.grows hb1; have Y := Y.grows hb1; have R := R.grows hb1; have hbw := below_two hbw hb1; have xc0 := X.cell 0 rfl; have xc1 := X.cell 1 rfl; have yc0 := Y.cell 0 rfl; have yc1 := Y.cell 1 rfl)
    | ((with_reducible refine (HV'.out _).mono ?_); rintro e w2 ⟨rfl, hb2⟩; have X := X.grows hb2; have Y := Y.grows hb2; have R := R.grows hb2; have hbw := below_two hbw hb2; clear xc0 xc1 yc0 yc1; have xc0 := X.cell 0 rfl; have xc1 := X.cell 1 rfl; have yc0 := Y.cell 0 rfl; have yc1 := Y.cell 1 rfl))
  have X2 := X.alloc (.cells #[.slice none 0 0, .slice none 0 0] 24)
  have Y2 := Y.alloc (.cells #[.slice none 0 0, .slice none 0 0] 24)
  have R2 := R.alloc (.cells #[.slice none 0 0, .slice none 0 0] 24)
  have D2 := Blk.new w2 #[.slice none 0 0, .slice none 0 0] 24
  have hbw2 := hbw.alloc hbw.size (.cells #[.slice none 0 0, .slice none 0 0] 24)
  have hsz := R.lt
  obtain ⟨B, hBe⟩ : ∃ B, w2.heap.size + 1 = B := ⟨_, rfl⟩
  have hB2 : B ≤ (w2.alloc (.cells #[.slice none 0 0, .slice none 0 0] 24)).heap.size := by simp; omega
  have hDB : w2.heap.size < B := by omega
  clear hBe X Y R hbw xc0 xc1 yc0 yc1
  generalize w2.alloc (.cells #[.slice none 0 0, .slice none 0 0] 24) = w7 at X2 Y2 R2 D2 hbw2 hB2 ⊢
  generalize w2.heap.size = D at D2 hDB hsz ⊢
  have O0 := World.ownsRow_nil w7 B 4 1
  go_loopw [10] (fun i wr => ∃ (M : Nat) (u0 u1 : Value), i = .int .i64 (M : Int) ∧ M ≤ T ∧ Blk wr w.heap.size #[.slice hp h.length hk, .slice cp c.length ck] 24 ∧ Blk wr (w.heap.size + 1) #[.slice hp' h'.length hk', .slice cp' c'.length ck'] 24 ∧ Blk wr (w.heap.size + 2) #[.slice none 0 0, .slice none 0 0] 24 ∧ Blk wr D #[u0, u1] 24 ∧
      wr.ownsRow B 4 1 u0 (min M N) (((List.range (min M N)).map F).map Value.bool) ∧ wr.ownsRow B 4 1 u1 (M - N) (((List.range (M - N)).map fun i => F (N + i)).map Value.bool) ∧ Apart u0 u1 ∧ B ≤ wr.heap.size ∧ Below w.heap.size w wr) (fun i _ => T - (RowKit.intOf i).toNat)
  case atStart => exact ⟨0, _, _, rfl, by omega, X2, Y2, R2, D2, own_cast O0 (by omega) (by rw [Nat.zero_min]; rfl), own_cast O0 (by omega) (by rw [Nat.zero_sub]; rfl), apart_nil _, hB2, hbw2⟩
  case round =>
    clear X2 Y2 R2 D2 O0 hB2 hbw2
    obtain ⟨M, u0, u1, rfl, hM, X, Y, R, DD, O0, O1, hap, hB, hbw⟩ := hrel
    obtain ⟨p0, k0, rfl⟩ := own_shape O0
    obtain ⟨p1, k1, rfl⟩ := own_shape O1
    by_cases hlt : M < T
    · have HA := Lib.hid (HAA.out M (by omega))
      have HB := Lib.hid (HBB.out M (by omega))
      have hTM : N + P = T := HT.out
      clear hTM
      cases hx : atL h c M <;> cases hy : atL h' c' M
      · rw [hx] at HA
        rw [hy] at HB
        have HFM := Lib.hid (show F M = false by rw [HF.out]; show (atL h c M || atL h' c' M) = false; rw [hx, hy]; rfl)
        clear hx hy
        by_cases hlo : M < N
        · have hm1 : min M N = M := by omega
          have hm2 : min (M + 1) N = M + 1 := by omega
          have hm3 : M + 1 - N = 0 := by omega
          have hm4 : M - N = 0 := by omega
          rw [hm1] at O0 DD hap
          rw [hm4] at O1 DD hap
          have HO0 := Lib.hid O0
          have HO1 := Lib.hid O1
          have HSn := Lib.hid (show ((List.range (M + 1)).map F).map Value.bool = ((List.range M).map F).map Value.bool ++ [Value.bool false] by rw [range_snocR, List.map_append, HFM.out]; rfl)
          clear hm1 hm4
          have HAp := Lib.hid hap
          have xc0 := X.cell 0 rfl
          have xc1 := X.cell 1 rfl
          have yc0 := Y.cell 0 rfl
          have yc1 := Y.cell 1 rfl
          have dc0 := DD.cell 0 rfl
          have dc1 := DD.cell 1 rfl
          have df0 := DD.free 0
          have df1 := DD.free 1
          have dl := DD.lt
          clear O0 O1 hap
          go_wp2_with fail
          first | (((with_reducible refine (HA.out _ hbw).mono ?_); rintro e w5 ⟨rfl, hb5⟩; have X := X.grows hb5; have Y := Y.grows hb5; have R := R.grows hb5; have DD := DD.grows hb5; have hB := Nat.le_trans hB hb5.size; have hbw := below_two hbw hb5; have HO0 := Lib.hid (own_below HO0.out hb5); have HO1 := Lib.hid (own_below HO1.out hb5); clear xc0 xc1 yc0 yc1 dc0 dc1 df0 df1; have xc0 := X.cell 0 rfl; have xc1 := X.cell 1 rfl; have yc0 := Y.cell 0 rfl; have yc1 := Y.cell 1 rfl; have dc0 := DD.cell 0 rfl; have dc1 := DD.cell 1 rfl; have df0 := DD.free 0; have df1 := DD.free 1)) | (((with_reducible refine (HB.out _ hbw).mono ?_); rintro e w5 ⟨rfl, hb5⟩; have X := X.grows hb5; have Y := Y.grows hb5; have R := R.grows hb5; have DD := DD.grows hb5; have hB := Nat.le_trans hB hb5.size; have hbw := below_two hbw hb5; have HO0 := Lib.hid (own_below HO0.out hb5); have HO1 := Lib.hid (own_below HO1.out hb5); clear xc0 xc1 yc0 yc1 dc0 dc1 df0 df1; have xc0 := X.cell 0 rfl; have xc1 := X.cell 1 rfl; have yc0 := Y.cell 0 rfl; have yc1 := Y.cell 1 rfl; have dc0 := DD.cell 0 rfl; have dc1 := DD.cell 1 rfl; have df0 := DD.free 0; have df1 := DD.free 1))
          go_wp2_with fail
          first | (((with_reducible refine (HA.out _ hbw).mono ?_); rintro e w5 ⟨rfl, hb5⟩; have X := X.grows hb5; have Y := Y.grows hb5; have R := R.grows hb5; have DD := DD.grows hb5; have hB := Nat.le_trans hB hb5.size; have hbw := below_two hbw hb5; have HO0 := Lib.hid (own_below HO0.out hb5); have HO1 := Lib.hid (own_below HO1.out hb5); clear xc0 xc1 yc0 yc1 dc0 dc1 df0 df1; have xc0 := X.cell 0 rfl; have xc1 := X.cell 1 rfl; have yc0 := Y.cell 0 rfl; have yc1 := Y.cell 1 rfl; have dc0 := DD.cell 0 rfl; have dc1 := DD.cell 1 rfl; have df0 := DD.free 0; have df1 := DD.free 1)) | (((with_reducible refine (HB.out _ hbw).mono ?_); rintro e w5 ⟨rfl, hb5⟩; have X := X.grows hb5; have Y := Y.grows hb5; have R := R.grows hb5; have DD := DD.grows hb5; have hB := Nat.le_trans hB hb5.size; have hbw := below_two hbw hb5; have HO0 := Lib.hid (own_below HO0.out hb5); have HO1 := Lib.hid (own_below HO1.out hb5); clear xc0 xc1 yc0 yc1 dc0 dc1 df0 df1; have xc0 := X.cell 0 rfl; have xc1 := X.cell 1 rfl; have yc0 := Y.cell 0 rfl; have yc1 := Y.cell 1 rfl; have dc0 := DD.cell 0 rfl; have dc1 := DD.cell 1 rfl; have df0 := DD.free 0; have df1 := DD.free 1))
          have hw5 : D < w5.heap.size := DD.lt
          go_wp2_with (at_builtin; refine wpList_append_own_at _ rfl _ _ 22 rfl B 4 i0 _ 1 1 Tryd.underlying22 hi hz0 hz1 hz2 rfl (by decide) _ _ _ rfl (own_alloc HO0.out _) ⟨w5.heap.size, 0, none⟩ 1 1 [.bool false] rfl rfl (cells_newB _ _ _ _ rfl) (bool_one false) (by unfold maxLen; omega) (by omega) (by simp; omega) ?_; intro v' w6 hown2 hgrow _ hat; obtain ⟨p6, k6, rfl⟩ := own_shape hown2; have D7 := (DD.alloc (.cells #[.bool false] 4)).grownBy hgrow (fun g e => by have := own_ge HO0.out g e; omega); have q0 := D7.cell 0 rfl; have f6 := D7.free 0)
          all_goals
            have hat2 := hat
            go_roundw
            case rel => exact ⟨M + 1, _, _, by go_num, by omega,
              ((X.alloc (.cells #[.bool false] 4)).grownBy hgrow (fun g e => by have := own_ge HO0.out g e; omega)).other (by show w.heap.size ≠ D; omega) _,
              ((Y.alloc (.cells #[.bool false] 4)).grownBy hgrow (fun g e => by have := own_ge HO0.out g e; omega)).other (by show w.heap.size + 1 ≠ D; omega) _,
              ((R.alloc (.cells #[.bool false] 4)).grownBy hgrow (fun g e => by have := own_ge HO0.out g e; omega)).other (by show w.heap.size + 2 ≠ D; omega) _,
              D7.set 0 _,
              by rw [hm2, HSn.out]; exact own_set (p := ⟨D, 0, none⟩) hown2 hDB _,
              by rw [hm3]; exact own_set (p := ⟨D, 0, none⟩) (own_grown (own_alloc HO1.out _) hgrow (fun g e1 e2 => HAp.out g e1 e2)) hDB _,
              apart_new (W := w5) (o := .cells #[.bool false] 4) HAp.out hat2 HO1.out,
              by have h7 := hgrow.size; simp at h7 ⊢; omega,
              ((hbw.alloc hbw.size (.cells #[.bool false] 4)).grown hgrow (by have h8 := hbw.size; simp; omega) (fun g e => by have := own_ge HO0.out g e; omega)).setCell (by show w.heap.size ≤ D; omega) _⟩
            case measure => simp [RowKit.intOf]; omega
        · obtain ⟨J, hJ⟩ : ∃ J, M - N = J := ⟨_, rfl⟩
          have hm1 : min M N = N := by omega
          have hm2 : min (M + 1) N = N := by omega
          have hm3 : M + 1 - N = J + 1 := by omega
          rw [hm1] at O0 DD hap
          rw [hJ] at O1 DD hap
          have HO0 := Lib.hid O0
          have HO1 := Lib.hid O1
          have hJl : J ≤ 2097152 := by omega
          have HSn := Lib.hid (show ((List.range (J + 1)).map fun i => F (N + i)).map Value.bool = ((List.range J).map fun i => F (N + i)).map Value.bool ++ [Value.bool false] by rw [range_snocR, List.map_append, show N + J = M by omega, HFM.out]; rfl)
          clear hm1 hJ
          have HAp := Lib.hid hap
          have xc0 := X.cell 0 rfl
          have xc1 := X.cell 1 rfl
          have yc0 := Y.cell 0 rfl
          have yc1 := Y.cell 1 rfl
          have dc0 := DD.cell 0 rfl
          have dc1 := DD.cell 1 rfl
          have df0 := DD.free 0
          have df1 := DD.free 1
          have dl := DD.lt
          clear O0 O1 hap
          go_wp2_with fail
          first | (((with_reducible refine (HA.out _ hbw).mono ?_); rintro e w5 ⟨rfl, hb5⟩; have X := X.grows hb5; have Y := Y.grows hb5; have R := R.grows hb5; have DD := DD.grows hb5; have hB := Nat.le_trans hB hb5.size; have hbw := below_two hbw hb5; have HO0 := Lib.hid (own_below HO0.out hb5); have HO1 := Lib.hid (own_below HO1.out hb5); clear xc0 xc1 yc0 yc1 dc0 dc1 df0 df1; have xc0 := X.cell 0 rfl; have xc1 := X.cell 1 rfl; have yc0 := Y.cell 0 rfl; have yc1 := Y.cell 1 rfl; have dc0 := DD.cell 0 rfl; have dc1 := DD.cell 1 rfl; have df0 := DD.free 0; have df1 := DD.free 1)) | (((with_reducible refine (HB.out _ hbw).mono ?_); rintro e w5 ⟨rfl, hb5⟩; have X := X.grows hb5; have Y := Y.grows hb5; have R := R.grows hb5; have DD := DD.grows hb5; have hB := Nat.le_trans hB hb5.size; have hbw := below_two hbw hb5; have HO0 := Lib.hid (own_below HO0.out hb5); have HO1 := Lib.hid (own_below HO1.out hb5); clear xc0 xc1 yc0 yc1 dc0 dc1 df0 df1; have xc0 := X.cell 0 rfl; have xc1 := X.cell 1 rfl; have yc0 := Y.cell 0 rfl; have yc1 := Y.cell 1 rfl; have dc0 := DD.cell 0 rfl; have dc1 := DD.cell 1 rfl; have df0 := DD.free 0; have df1 := DD.free 1))
          go_wp2_with fail
          first | (((with_reducible refine (HA.out _ hbw).mono ?_); rintro e w5 ⟨rfl, hb5⟩; have X := X.grows hb5; have Y := Y.grows hb5; have R := R.grows hb5; have DD := DD.grows hb5; have hB := Nat.le_trans hB hb5.size; have hbw := below_two hbw hb5; have HO0 := Lib.hid (own_below HO0.out hb5); have HO1 := Lib.hid (own_below HO1.out hb5); clear xc0 xc1 yc0 yc1 dc0 dc1 df0 df1; have xc0 := X.cell 0 rfl; have xc1 := X.cell 1 rfl; have yc0 := Y.cell 0 rfl; have yc1 := Y.cell 1 rfl; have dc0 := DD.cell 0 rfl; have dc1 := DD.cell 1 rfl; have df0 := DD.free 0; have df1 := DD.free 1)) | (((with_reducible refine (HB.out _ hbw).mono ?_); rintro e w5 ⟨rfl, hb5⟩; have X := X.grows hb5; have Y := Y.grows hb5; have R := R.grows hb5; have DD := DD.grows hb5; have hB := Nat.le_trans hB hb5.size; have hbw := below_two hbw hb5; have HO0 := Lib.hid (own_below HO0.out hb5); have HO1 := Lib.hid (own_below HO1.out hb5); clear xc0 xc1 yc0 yc1 dc0 dc1 df0 df1; have xc0 := X.cell 0 rfl; have xc1 := X.cell 1 rfl; have yc0 := Y.cell 0 rfl; have yc1 := Y.cell 1 rfl; have dc0 := DD.cell 0 rfl; have dc1 := DD.cell 1 rfl; have df0 := DD.free 0; have df1 := DD.free 1))
          have hw5 : D < w5.heap.size := DD.lt
          go_wp2_with (at_builtin; refine wpList_append_own_at _ rfl _ _ 22 rfl B 4 i0 _ 1 1 Tryd.underlying22 hi hz0 hz1 hz2 rfl (by decide) _ _ _ rfl (own_alloc HO1.out _) ⟨w5.heap.size, 0, none⟩ 1 1 [.bool false] rfl rfl (cells_newB _ _ _ _ rfl) (bool_one false) (by unfold maxLen; omega) (by omega) (by simp; omega) ?_; intro v' w6 hown2 hgrow _ hat; obtain ⟨p6, k6, rfl⟩ := own_shape hown2; have D7 := (DD.alloc (.cells #[.bool false] 4)).grownBy hgrow (fun g e => by have := own_ge HO1.out g e; omega); have q0 := D7.cell 1 rfl; have f6 := D7.free 1)
          all_goals
            have hat2 := hat
            go_roundw
            case rel => exact ⟨M + 1, _, _, by go_num, by omega,
              ((X.alloc (.cells #[.bool false] 4)).grownBy hgrow (fun g e => by have := own_ge HO1.out g e; omega)).other (by show w.heap.size ≠ D; omega) _,
              ((Y.alloc (.cells #[.bool false] 4)).grownBy hgrow (fun g e => by have := own_ge HO1.out g e; omega)).other (by show w.heap.size + 1 ≠ D; omega) _,
              ((R.alloc (.cells #[.bool false] 4)).grownBy hgrow (fun g e => by have := own_ge HO1.out g e; omega)).other (by show w.heap.size + 2 ≠ D; omega) _,
              D7.set 1 _,
              by rw [hm2]; exact own_set (p := ⟨D, 1, none⟩) (own_grown (own_alloc HO0.out _) hgrow (fun g e1 e2 => HAp.out g e2 e1)) hDB _,
              by rw [hm3, HSn.out]; exact own_set (p := ⟨D, 1, none⟩) hown2 hDB _,
              (apart_new (W := w5) (o := .cells #[.bool false] 4) HAp.out.symm hat2 HO0.out).symm,
              by have h7 := hgrow.size; simp at h7 ⊢; omega,
              ((hbw.alloc hbw.size (.cells #[.bool false] 4)).grown hgrow (by have h8 := hbw.size; simp; omega) (fun g e => by have := own_ge HO1.out g e; omega)).setCell (by show w.heap.size ≤ D; omega) _⟩
            case measure => simp [RowKit.intOf]; omega
      · rw [hx] at HA
        rw [hy] at HB
        have HFM := Lib.hid (show F M = true by rw [HF.out]; show (atL h c M || atL h' c' M) = true; rw [hx, hy]; rfl)
        clear hx hy
        by_cases hlo : M < N
        · have hm1 : min M N = M := by omega
          have hm2 : min (M + 1) N = M + 1 := by omega
          have hm3 : M + 1 - N = 0 := by omega
          have hm4 : M - N = 0 := by omega
          rw [hm1] at O0 DD hap
          rw [hm4] at O1 DD hap
          have HO0 := Lib.hid O0
          have HO1 := Lib.hid O1
          have HSn := Lib.hid (show ((List.range (M + 1)).map F).map Value.bool = ((List.range M).map F).map Value.bool ++ [Value.bool true] by rw [range_snocR, List.map_append, HFM.out]; rfl)
          clear hm1 hm4
          have HAp := Lib.hid hap
          have xc0 := X.cell 0 rfl
          have xc1 := X.cell 1 rfl
          have yc0 := Y.cell 0 rfl
          have yc1 := Y.cell 1 rfl
          have dc0 := DD.cell 0 rfl
          have dc1 := DD.cell 1 rfl
          have df0 := DD.free 0
          have df1 := DD.free 1
          have dl := DD.lt
          clear O0 O1 hap
          go_wp2_with fail
          first | (((with_reducible refine (HA.out _ hbw).mono ?_); rintro e w5 ⟨rfl, hb5⟩; have X := X.grows hb5; have Y := Y.grows hb5; have R := R.grows hb5; have DD := DD.grows hb5; have hB := Nat.le_trans hB hb5.size; have hbw := below_two hbw hb5; have HO0 := Lib.hid (own_below HO0.out hb5); have HO1 := Lib.hid (own_below HO1.out hb5); clear xc0 xc1 yc0 yc1 dc0 dc1 df0 df1; have xc0 := X.cell 0 rfl; have xc1 := X.cell 1 rfl; have yc0 := Y.cell 0 rfl; have yc1 := Y.cell 1 rfl; have dc0 := DD.cell 0 rfl; have dc1 := DD.cell 1 rfl; have df0 := DD.free 0; have df1 := DD.free 1)) | (((with_reducible refine (HB.out _ hbw).mono ?_); rintro e w5 ⟨rfl, hb5⟩; have X := X.grows hb5; have Y := Y.grows hb5; have R := R.grows hb5; have DD := DD.grows hb5; have hB := Nat.le_trans hB hb5.size; have hbw := below_two hbw hb5; have HO0 := Lib.hid (own_below HO0.out hb5); have HO1 := Lib.hid (own_below HO1.out hb5); clear xc0 xc1 yc0 yc1 dc0 dc1 df0 df1; have xc0 := X.cell 0 rfl; have xc1 := X.cell 1 rfl; have yc0 := Y.cell 0 rfl; have yc1 := Y.cell 1 rfl; have dc0 := DD.cell 0 rfl; have dc1 := DD.cell 1 rfl; have df0 := DD.free 0; have df1 := DD.free 1))
          go_wp2_with fail
          first | (((with_reducible refine (HA.out _ hbw).mono ?_); rintro e w5 ⟨rfl, hb5⟩; have X := X.grows hb5; have Y := Y.grows hb5; have R := R.grows hb5; have DD := DD.grows hb5; have hB := Nat.le_trans hB hb5.size; have hbw := below_two hbw hb5; have HO0 := Lib.hid (own_below HO0.out hb5); have HO1 := Lib.hid (own_below HO1.out hb5); clear xc0 xc1 yc0 yc1 dc0 dc1 df0 df1; have xc0 := X.cell 0 rfl; have xc1 := X.cell 1 rfl; have yc0 := Y.cell 0 rfl; have yc1 := Y.cell 1 rfl; have dc0 := DD.cell 0 rfl; have dc1 := DD.cell 1 rfl; have df0 := DD.free 0; have df1 := DD.free 1)) | (((with_reducible refine (HB.out _ hbw).mono ?_); rintro e w5 ⟨rfl, hb5⟩; have X := X.grows hb5; have Y := Y.grows hb5; have R := R.grows hb5; have DD := DD.grows hb5; have hB := Nat.le_trans hB hb5.size; have hbw := below_two hbw hb5; have HO0 := Lib.hid (own_below HO0.out hb5); have HO1 := Lib.hid (own_below HO1.out hb5); clear xc0 xc1 yc0 yc1 dc0 dc1 df0 df1; have xc0 := X.cell 0 rfl; have xc1 := X.cell 1 rfl; have yc0 := Y.cell 0 rfl; have yc1 := Y.cell 1 rfl; have dc0 := DD.cell 0 rfl; have dc1 := DD.cell 1 rfl; have df0 := DD.free 0; have df1 := DD.free 1))
          have hw5 : D < w5.heap.size := DD.lt
          go_wp2_with (at_builtin; refine wpList_append_own_at _ rfl _ _ 22 rfl B 4 i0 _ 1 1 Tryd.underlying22 hi hz0 hz1 hz2 rfl (by decide) _ _ _ rfl (own_alloc HO0.out _) ⟨w5.heap.size, 0, none⟩ 1 1 [.bool true] rfl rfl (cells_newB _ _ _ _ rfl) (bool_one true) (by unfold maxLen; omega) (by omega) (by simp; omega) ?_; intro v' w6 hown2 hgrow _ hat; obtain ⟨p6, k6, rfl⟩ := own_shape hown2; have D7 := (DD.alloc (.cells #[.bool true] 4)).grownBy hgrow (fun g e => by have := own_ge HO0.out g e; omega); have q0 := D7.cell 0 rfl; have f6 := D7.free 0)
          all_goals
            have hat2 := hat
            go_roundw
            case rel => exact ⟨M + 1, _, _, by go_num, by omega,
              ((X.alloc (.cells #[.bool true] 4)).grownBy hgrow (fun g e => by have := own_ge HO0.out g e; omega)).other (by show w.heap.size ≠ D; omega) _,
              ((Y.alloc (.cells #[.bool true] 4)).grownBy hgrow (fun g e => by have := own_ge HO0.out g e; omega)).other (by show w.heap.size + 1 ≠ D; omega) _,
              ((R.alloc (.cells #[.bool true] 4)).grownBy hgrow (fun g e => by have := own_ge HO0.out g e; omega)).other (by show w.heap.size + 2 ≠ D; omega) _,
              D7.set 0 _,
              by rw [hm2, HSn.out]; exact own_set (p := ⟨D, 0, none⟩) hown2 hDB _,
              by rw [hm3]; exact own_set (p := ⟨D, 0, none⟩) (own_grown (own_alloc HO1.out _) hgrow (fun g e1 e2 => HAp.out g e1 e2)) hDB _,
              apart_new (W := w5) (o := .cells #[.bool true] 4) HAp.out hat2 HO1.out,
              by have h7 := hgrow.size; simp at h7 ⊢; omega,
              ((hbw.alloc hbw.size (.cells #[.bool true] 4)).grown hgrow (by have h8 := hbw.size; simp; omega) (fun g e => by have := own_ge HO0.out g e; omega)).setCell (by show w.heap.size ≤ D; omega) _⟩
            case measure => simp [RowKit.intOf]; omega
        · obtain ⟨J, hJ⟩ : ∃ J, M - N = J := ⟨_, rfl⟩
          have hm1 : min M N = N := by omega
          have hm2 : min (M + 1) N = N := by omega
          have hm3 : M + 1 - N = J + 1 := by omega
          rw [hm1] at O0 DD hap
          rw [hJ] at O1 DD hap
          have HO0 := Lib.hid O0
          have HO1 := Lib.hid O1
          have hJl : J ≤ 2097152 := by omega
          have HSn := Lib.hid (show ((List.range (J + 1)).map fun i => F (N + i)).map Value.bool = ((List.range J).map fun i => F (N + i)).map Value.bool ++ [Value.bool true] by rw [range_snocR, List.map_append, show N + J = M by omega, HFM.out]; rfl)
          clear hm1 hJ
          have HAp := Lib.hid hap
          have xc0 := X.cell 0 rfl
          have xc1 := X.cell 1 rfl
          have yc0 := Y.cell 0 rfl
          have yc1 := Y.cell 1 rfl
          have dc0 := DD.cell 0 rfl
          have dc1 := DD.cell 1 rfl
          have df0 := DD.free 0
          have df1 := DD.free 1
          have dl := DD.lt
          clear O0 O1 hap
          go_wp2_with fail
          first | (((with_reducible refine (HA.out _ hbw).mono ?_); rintro e w5 ⟨rfl, hb5⟩; have X := X.grows hb5; have Y := Y.grows hb5; have R := R.grows hb5; have DD := DD.grows hb5; have hB := Nat.le_trans hB hb5.size; have hbw := below_two hbw hb5; have HO0 := Lib.hid (own_below HO0.out hb5); have HO1 := Lib.hid (own_below HO1.out hb5); clear xc0 xc1 yc0 yc1 dc0 dc1 df0 df1; have xc0 := X.cell 0 rfl; have xc1 := X.cell 1 rfl; have yc0 := Y.cell 0 rfl; have yc1 := Y.cell 1 rfl; have dc0 := DD.cell 0 rfl; have dc1 := DD.cell 1 rfl; have df0 := DD.free 0; have df1 := DD.free 1)) | (((with_reducible refine (HB.out _ hbw).mono ?_); rintro e w5 ⟨rfl, hb5⟩; have X := X.grows hb5; have Y := Y.grows hb5; have R := R.grows hb5; have DD := DD.grows hb5; have hB := Nat.le_trans hB hb5.size; have hbw := below_two hbw hb5; have HO0 := Lib.hid (own_below HO0.out hb5); have HO1 := Lib.hid (own_below HO1.out hb5); clear xc0 xc1 yc0 yc1 dc0 dc1 df0 df1; have xc0 := X.cell 0 rfl; have xc1 := X.cell 1 rfl; have yc0 := Y.cell 0 rfl; have yc1 := Y.cell 1 rfl; have dc0 := DD.cell 0 rfl; have dc1 := DD.cell 1 rfl; have df0 := DD.free 0; have df1 := DD.free 1))
          go_wp2_with fail
          first | (((with_reducible refine (HA.out _ hbw).mono ?_); rintro e w5 ⟨rfl, hb5⟩; have X := X.grows hb5; have Y := Y.grows hb5; have R := R.grows hb5; have DD := DD.grows hb5; have hB := Nat.le_trans hB hb5.size; have hbw := below_two hbw hb5; have HO0 := Lib.hid (own_below HO0.out hb5); have HO1 := Lib.hid (own_below HO1.out hb5); clear xc0 xc1 yc0 yc1 dc0 dc1 df0 df1; have xc0 := X.cell 0 rfl; have xc1 := X.cell 1 rfl; have yc0 := Y.cell 0 rfl; have yc1 := Y.cell 1 rfl; have dc0 := DD.cell 0 rfl; have dc1 := DD.cell 1 rfl; have df0 := DD.free 0; have df1 := DD.free 1)) | (((with_reducible refine (HB.out _ hbw).mono ?_); rintro e w5 ⟨rfl, hb5⟩; have X := X.grows hb5; have Y := Y.grows hb5; have R := R.grows hb5; have DD := DD.grows hb5; have hB := Nat.le_trans hB hb5.size; have hbw := below_two hbw hb5; have HO0 := Lib.hid (own_below HO0.out hb5); have HO1 := Lib.hid (own_below HO1.out hb5); clear xc0 xc1 yc0 yc1 dc0 dc1 df0 df1; have xc0 := X.cell 0 rfl; have xc1 := X.cell 1 rfl; have yc0 := Y.cell 0 rfl; have yc1 := Y.cell 1 rfl; have dc0 := DD.cell 0 rfl; have dc1 := DD.cell 1 rfl; have df0 := DD.free 0; have df1 := DD.free 1))
          have hw5 : D < w5.heap.size := DD.lt
          go_wp2_with (at_builtin; refine wpList_append_own_at _ rfl _ _ 22 rfl B 4 i0 _ 1 1 Tryd.underlying22 hi hz0 hz1 hz2 rfl (by decide) _ _ _ rfl (own_alloc HO1.out _) ⟨w5.heap.size, 0, none⟩ 1 1 [.bool true] rfl rfl (cells_newB _ _ _ _ rfl) (bool_one true) (by unfold maxLen; omega) (by omega) (by simp; omega) ?_; intro v' w6 hown2 hgrow _ hat; obtain ⟨p6, k6, rfl⟩ := own_shape hown2; have D7 := (DD.alloc (.cells #[.bool true] 4)).grownBy hgrow (fun g e => by have := own_ge HO1.out g e; omega); have q0 := D7.cell 1 rfl; have f6 := D7.free 1)
          all_goals
            have hat2 := hat
            go_roundw
            case rel => exact ⟨M + 1, _, _, by go_num, by omega,
              ((X.alloc (.cells #[.bool true] 4)).grownBy hgrow (fun g e => by have := own_ge HO1.out g e; omega)).other (by show w.heap.size ≠ D; omega) _,
              ((Y.alloc (.cells #[.bool true] 4)).grownBy hgrow (fun g e => by have := own_ge HO1.out g e; omega)).other (by show w.heap.size + 1 ≠ D; omega) _,
              ((R.alloc (.cells #[.bool true] 4)).grownBy hgrow (fun g e => by have := own_ge HO1.out g e; omega)).other (by show w.heap.size + 2 ≠ D; omega) _,
              D7.set 1 _,
              by rw [hm2]; exact own_set (p := ⟨D, 1, none⟩) (own_grown (own_alloc HO0.out _) hgrow (fun g e1 e2 => HAp.out g e2 e1)) hDB _,
              by rw [hm3, HSn.out]; exact own_set (p := ⟨D, 1, none⟩) hown2 hDB _,
              (apart_new (W := w5) (o := .cells #[.bool true] 4) HAp.out.symm hat2 HO0.out).symm,
              by have h7 := hgrow.size; simp at h7 ⊢; omega,
              ((hbw.alloc hbw.size (.cells #[.bool true] 4)).grown hgrow (by have h8 := hbw.size; simp; omega) (fun g e => by have := own_ge HO1.out g e; omega)).setCell (by show w.heap.size ≤ D; omega) _⟩
            case measure => simp [RowKit.intOf]; omega
      · rw [hx] at HA
        rw [hy] at HB
        have HFM := Lib.hid (show F M = true by rw [HF.out]; show (atL h c M || atL h' c' M) = true; rw [hx, hy]; rfl)
        clear hx hy
        by_cases hlo : M < N
        · have hm1 : min M N = M := by omega
          have hm2 : min (M + 1) N = M + 1 := by omega
          have hm3 : M + 1 - N = 0 := by omega
          have hm4 : M - N = 0 := by omega
          rw [hm1] at O0 DD hap
          rw [hm4] at O1 DD hap
          have HO0 := Lib.hid O0
          have HO1 := Lib.hid O1
          have HSn := Lib.hid (show ((List.range (M + 1)).map F).map Value.bool = ((List.range M).map F).map Value.bool ++ [Value.bool true] by rw [range_snocR, List.map_append, HFM.out]; rfl)
          clear hm1 hm4
          have HAp := Lib.hid hap
          have xc0 := X.cell 0 rfl
          have xc1 := X.cell 1 rfl
          have yc0 := Y.cell 0 rfl
          have yc1 := Y.cell 1 rfl
          have dc0 := DD.cell 0 rfl
          have dc1 := DD.cell 1 rfl
          have df0 := DD.free 0
          have df1 := DD.free 1
          have dl := DD.lt
          clear O0 O1 hap
          go_wp2_with fail
          first | (((with_reducible refine (HA.out _ hbw).mono ?_); rintro e w5 ⟨rfl, hb5⟩; have X := X.grows hb5; have Y := Y.grows hb5; have R := R.grows hb5; have DD := DD.grows hb5; have hB := Nat.le_trans hB hb5.size; have hbw := below_two hbw hb5; have HO0 := Lib.hid (own_below HO0.out hb5); have HO1 := Lib.hid (own_below HO1.out hb5); clear xc0 xc1 yc0 yc1 dc0 dc1 df0 df1; have xc0 := X.cell 0 rfl; have xc1 := X.cell 1 rfl; have yc0 := Y.cell 0 rfl; have yc1 := Y.cell 1 rfl; have dc0 := DD.cell 0 rfl; have dc1 := DD.cell 1 rfl; have df0 := DD.free 0; have df1 := DD.free 1)) | (((with_reducible refine (HB.out _ hbw).mono ?_); rintro e w5 ⟨rfl, hb5⟩; have X := X.grows hb5; have Y := Y.grows hb5; have R := R.grows hb5; have DD := DD.grows hb5; have hB := Nat.le_trans hB hb5.size; have hbw := below_two hbw hb5; have HO0 := Lib.hid (own_below HO0.out hb5); have HO1 := Lib.hid (own_below HO1.out hb5); clear xc0 xc1 yc0 yc1 dc0 dc1 df0 df1; have xc0 := X.cell 0 rfl; have xc1 := X.cell 1 rfl; have yc0 := Y.cell 0 rfl; have yc1 := Y.cell 1 rfl; have dc0 := DD.cell 0 rfl; have dc1 := DD.cell 1 rfl; have df0 := DD.free 0; have df1 := DD.free 1))
          have hw5 : D < w5.heap.size := DD.lt
          go_wp2_with (at_builtin; refine wpList_append_own_at _ rfl _ _ 22 rfl B 4 i0 _ 1 1 Tryd.underlying22 hi hz0 hz1 hz2 rfl (by decide) _ _ _ rfl (own_alloc HO0.out _) ⟨w5.heap.size, 0, none⟩ 1 1 [.bool true] rfl rfl (cells_newB _ _ _ _ rfl) (bool_one true) (by unfold maxLen; omega) (by omega) (by simp; omega) ?_; intro v' w6 hown2 hgrow _ hat; obtain ⟨p6, k6, rfl⟩ := own_shape hown2; have D7 := (DD.alloc (.cells #[.bool true] 4)).grownBy hgrow (fun g e => by have := own_ge HO0.out g e; omega); have q0 := D7.cell 0 rfl; have f6 := D7.free 0)
          all_goals
            have hat2 := hat
            go_roundw
            case rel => exact ⟨M + 1, _, _, by go_num, by omega,
              ((X.alloc (.cells #[.bool true] 4)).grownBy hgrow (fun g e => by have := own_ge HO0.out g e; omega)).other (by show w.heap.size ≠ D; omega) _,
              ((Y.alloc (.cells #[.bool true] 4)).grownBy hgrow (fun g e => by have := own_ge HO0.out g e; omega)).other (by show w.heap.size + 1 ≠ D; omega) _,
              ((R.alloc (.cells #[.bool true] 4)).grownBy hgrow (fun g e => by have := own_ge HO0.out g e; omega)).other (by show w.heap.size + 2 ≠ D; omega) _,
              D7.set 0 _,
              by rw [hm2, HSn.out]; exact own_set (p := ⟨D, 0, none⟩) hown2 hDB _,
              by rw [hm3]; exact own_set (p := ⟨D, 0, none⟩) (own_grown (own_alloc HO1.out _) hgrow (fun g e1 e2 => HAp.out g e1 e2)) hDB _,
              apart_new (W := w5) (o := .cells #[.bool true] 4) HAp.out hat2 HO1.out,
              by have h7 := hgrow.size; simp at h7 ⊢; omega,
              ((hbw.alloc hbw.size (.cells #[.bool true] 4)).grown hgrow (by have h8 := hbw.size; simp; omega) (fun g e => by have := own_ge HO0.out g e; omega)).setCell (by show w.heap.size ≤ D; omega) _⟩
            case measure => simp [RowKit.intOf]; omega
        · obtain ⟨J, hJ⟩ : ∃ J, M - N = J := ⟨_, rfl⟩
          have hm1 : min M N = N := by omega
          have hm2 : min (M + 1) N = N := by omega
          have hm3 : M + 1 - N = J + 1 := by omega
          rw [hm1] at O0 DD hap
          rw [hJ] at O1 DD hap
          have HO0 := Lib.hid O0
          have HO1 := Lib.hid O1
          have hJl : J ≤ 2097152 := by omega
          have HSn := Lib.hid (show ((List.range (J + 1)).map fun i => F (N + i)).map Value.bool = ((List.range J).map fun i => F (N + i)).map Value.bool ++ [Value.bool true] by rw [range_snocR, List.map_append, show N + J = M by omega, HFM.out]; rfl)
          clear hm1 hJ
          have HAp := Lib.hid hap
          have xc0 := X.cell 0 rfl
          have xc1 := X.cell 1 rfl
          have yc0 := Y.cell 0 rfl
          have yc1 := Y.cell 1 rfl
          have dc0 := DD.cell 0 rfl
          have dc1 := DD.cell 1 rfl
          have df0 := DD.free 0
          have df1 := DD.free 1
          have dl := DD.lt
          clear O0 O1 hap
          go_wp2_with fail
          first | (((with_reducible refine (HA.out _ hbw).mono ?_); rintro e w5 ⟨rfl, hb5⟩; have X := X.grows hb5; have Y := Y.grows hb5; have R := R.grows hb5; have DD := DD.grows hb5; have hB := Nat.le_trans hB hb5.size; have hbw := below_two hbw hb5; have HO0 := Lib.hid (own_below HO0.out hb5); have HO1 := Lib.hid (own_below HO1.out hb5); clear xc0 xc1 yc0 yc1 dc0 dc1 df0 df1; have xc0 := X.cell 0 rfl; have xc1 := X.cell 1 rfl; have yc0 := Y.cell 0 rfl; have yc1 := Y.cell 1 rfl; have dc0 := DD.cell 0 rfl; have dc1 := DD.cell 1 rfl; have df0 := DD.free 0; have df1 := DD.free 1)) | (((with_reducible refine (HB.out _ hbw).mono ?_); rintro e w5 ⟨rfl, hb5⟩; have X := X.grows hb5; have Y := Y.grows hb5; have R := R.grows hb5; have DD := DD.grows hb5; have hB := Nat.le_trans hB hb5.size; have hbw := below_two hbw hb5; have HO0 := Lib.hid (own_below HO0.out hb5); have HO1 := Lib.hid (own_below HO1.out hb5); clear xc0 xc1 yc0 yc1 dc0 dc1 df0 df1; have xc0 := X.cell 0 rfl; have xc1 := X.cell 1 rfl; have yc0 := Y.cell 0 rfl; have yc1 := Y.cell 1 rfl; have dc0 := DD.cell 0 rfl; have dc1 := DD.cell 1 rfl; have df0 := DD.free 0; have df1 := DD.free 1))
          have hw5 : D < w5.heap.size := DD.lt
          go_wp2_with (at_builtin; refine wpList_append_own_at _ rfl _ _ 22 rfl B 4 i0 _ 1 1 Tryd.underlying22 hi hz0 hz1 hz2 rfl (by decide) _ _ _ rfl (own_alloc HO1.out _) ⟨w5.heap.size, 0, none⟩ 1 1 [.bool true] rfl rfl (cells_newB _ _ _ _ rfl) (bool_one true) (by unfold maxLen; omega) (by omega) (by simp; omega) ?_; intro v' w6 hown2 hgrow _ hat; obtain ⟨p6, k6, rfl⟩ := own_shape hown2; have D7 := (DD.alloc (.cells #[.bool true] 4)).grownBy hgrow (fun g e => by have := own_ge HO1.out g e; omega); have q0 := D7.cell 1 rfl; have f6 := D7.free 1)
          all_goals
            have hat2 := hat
            go_roundw
            case rel => exact ⟨M + 1, _, _, by go_num, by omega,
              ((X.alloc (.cells #[.bool true] 4)).grownBy hgrow (fun g e => by have := own_ge HO1.out g e; omega)).other (by show w.heap.size ≠ D; omega) _,
              ((Y.alloc (.cells #[.bool true] 4)).grownBy hgrow (fun g e => by have := own_ge HO1.out g e; omega)).other (by show w.heap.size + 1 ≠ D; omega) _,
              ((R.alloc (.cells #[.bool true] 4)).grownBy hgrow (fun g e => by have := own_ge HO1.out g e; omega)).other (by show w.heap.size + 2 ≠ D; omega) _,
              D7.set 1 _,
              by rw [hm2]; exact own_set (p := ⟨D, 1, none⟩) (own_grown (own_alloc HO0.out _) hgrow (fun g e1 e2 => HAp.out g e2 e1)) hDB _,
              by rw [hm3, HSn.out]; exact own_set (p := ⟨D, 1, none⟩) hown2 hDB _,
              (apart_new (W := w5) (o := .cells #[.bool true] 4) HAp.out.symm hat2 HO0.out).symm,
              by have h7 := hgrow.size; simp at h7 ⊢; omega,
              ((hbw.alloc hbw.size (.cells #[.bool true] 4)).grown hgrow (by have h8 := hbw.size; simp; omega) (fun g e => by have := own_ge HO1.out g e; omega)).setCell (by show w.heap.size ≤ D; omega) _⟩
            case measure => simp [RowKit.intOf]; omega
      · rw [hx] at HA
        rw [hy] at HB
        have HFM := Lib.hid (show F M = true by rw [HF.out]; show (atL h c M || atL h' c' M) = true; rw [hx, hy]; rfl)
        clear hx hy
        by_cases hlo : M < N
        · have hm1 : min M N = M := by omega
          have hm2 : min (M + 1) N = M + 1 := by omega
          have hm3 : M + 1 - N = 0 := by omega
          have hm4 : M - N = 0 := by omega
          rw [hm1] at O0 DD hap
          rw [hm4] at O1 DD hap
          have HO0 := Lib.hid O0
          have HO1 := Lib.hid O1
          have HSn := Lib.hid (show ((List.range (M + 1)).map F).map Value.bool = ((List.range M).map F).map Value.bool ++ [Value.bool true] by rw [range_snocR, List.map_append, HFM.out]; rfl)
          clear hm1 hm4
          have HAp := Lib.hid hap
          have xc0 := X.cell 0 rfl
          have xc1 := X.cell 1 rfl
          have yc0 := Y.cell 0 rfl
          have yc1 := Y.cell 1 rfl
          have dc0 := DD.cell 0 rfl
          have dc1 := DD.cell 1 rfl
          have df0 := DD.free 0
          have df1 := DD.free 1
          have dl := DD.lt
          clear O0 O1 hap
          go_wp2_with fail
          first | (((with_reducible refine (HA.out _ hbw).mono ?_); rintro e w5 ⟨rfl, hb5⟩; have X := X.grows hb5; have Y := Y.grows hb5; have R := R.grows hb5; have DD := DD.grows hb5; have hB := Nat.le_trans hB hb5.size; have hbw := below_two hbw hb5; have HO0 := Lib.hid (own_below HO0.out hb5); have HO1 := Lib.hid (own_below HO1.out hb5); clear xc0 xc1 yc0 yc1 dc0 dc1 df0 df1; have xc0 := X.cell 0 rfl; have xc1 := X.cell 1 rfl; have yc0 := Y.cell 0 rfl; have yc1 := Y.cell 1 rfl; have dc0 := DD.cell 0 rfl; have dc1 := DD.cell 1 rfl; have df0 := DD.free 0; have df1 := DD.free 1)) | (((with_reducible refine (HB.out _ hbw).mono ?_); rintro e w5 ⟨rfl, hb5⟩; have X := X.grows hb5; have Y := Y.grows hb5; have R := R.grows hb5; have DD := DD.grows hb5; have hB := Nat.le_trans hB hb5.size; have hbw := below_two hbw hb5; have HO0 := Lib.hid (own_below HO0.out hb5); have HO1 := Lib.hid (own_below HO1.out hb5); clear xc0 xc1 yc0 yc1 dc0 dc1 df0 df1; have xc0 := X.cell 0 rfl; have xc1 := X.cell 1 rfl; have yc0 := Y.cell 0 rfl; have yc1 := Y.cell 1 rfl; have dc0 := DD.cell 0 rfl; have dc1 := DD.cell 1 rfl; have df0 := DD.free 0; have df1 := DD.free 1))
          have hw5 : D < w5.heap.size := DD.lt
          go_wp2_with (at_builtin; refine wpList_append_own_at _ rfl _ _ 22 rfl B 4 i0 _ 1 1 Tryd.underlying22 hi hz0 hz1 hz2 rfl (by decide) _ _ _ rfl (own_alloc HO0.out _) ⟨w5.heap.size, 0, none⟩ 1 1 [.bool true] rfl rfl (cells_newB _ _ _ _ rfl) (bool_one true) (by unfold maxLen; omega) (by omega) (by simp; omega) ?_; intro v' w6 hown2 hgrow _ hat; obtain ⟨p6, k6, rfl⟩ := own_shape hown2; have D7 := (DD.alloc (.cells #[.bool true] 4)).grownBy hgrow (fun g e => by have := own_ge HO0.out g e; omega); have q0 := D7.cell 0 rfl; have f6 := D7.free 0)
          all_goals
            have hat2 := hat
            go_roundw
            case rel => exact ⟨M + 1, _, _, by go_num, by omega,
              ((X.alloc (.cells #[.bool true] 4)).grownBy hgrow (fun g e => by have := own_ge HO0.out g e; omega)).other (by show w.heap.size ≠ D; omega) _,
              ((Y.alloc (.cells #[.bool true] 4)).grownBy hgrow (fun g e => by have := own_ge HO0.out g e; omega)).other (by show w.heap.size + 1 ≠ D; omega) _,
              ((R.alloc (.cells #[.bool true] 4)).grownBy hgrow (fun g e => by have := own_ge HO0.out g e; omega)).other (by show w.heap.size + 2 ≠ D; omega) _,
              D7.set 0 _,
              by rw [hm2, HSn.out]; exact own_set (p := ⟨D, 0, none⟩) hown2 hDB _,
              by rw [hm3]; exact own_set (p := ⟨D, 0, none⟩) (own_grown (own_alloc HO1.out _) hgrow (fun g e1 e2 => HAp.out g e1 e2)) hDB _,
              apart_new (W := w5) (o := .cells #[.bool true] 4) HAp.out hat2 HO1.out,
              by have h7 := hgrow.size; simp at h7 ⊢; omega,
              ((hbw.alloc hbw.size (.cells #[.bool true] 4)).grown hgrow (by have h8 := hbw.size; simp; omega) (fun g e => by have := own_ge HO0.out g e; omega)).setCell (by show w.heap.size ≤ D; omega) _⟩
            case measure => simp [RowKit.intOf]; omega
        · obtain ⟨J, hJ⟩ : ∃ J, M - N = J := ⟨_, rfl⟩
          have hm1 : min M N = N := by omega
          have hm2 : min (M + 1) N = N := by omega
          have hm3 : M + 1 - N = J + 1 := by omega
          rw [hm1] at O0 DD hap
          rw [hJ] at O1 DD hap
          have HO0 := Lib.hid O0
          have HO1 := Lib.hid O1
          have hJl : J ≤ 2097152 := by omega
          have HSn := Lib.hid (show ((List.range (J + 1)).map fun i => F (N + i)).map Value.bool = ((List.range J).map fun i => F (N + i)).map Value.bool ++ [Value.bool true] by rw [range_snocR, List.map_append, show N + J = M by omega, HFM.out]; rfl)
          clear hm1 hJ
          have HAp := Lib.hid hap
          have xc0 := X.cell 0 rfl
          have xc1 := X.cell 1 rfl
          have yc0 := Y.cell 0 rfl
          have yc1 := Y.cell 1 rfl
          have dc0 := DD.cell 0 rfl
          have dc1 := DD.cell 1 rfl
          have df0 := DD.free 0
          have df1 := DD.free 1
          have dl := DD.lt
          clear O0 O1 hap
          go_wp2_with fail
          first | (((with_reducible refine (HA.out _ hbw).mono ?_); rintro e w5 ⟨rfl, hb5⟩; have X := X.grows hb5; have Y := Y.grows hb5; have R := R.grows hb5; have DD := DD.grows hb5; have hB := Nat.le_trans hB hb5.size; have hbw := below_two hbw hb5; have HO0 := Lib.hid (own_below HO0.out hb5); have HO1 := Lib.hid (own_below HO1.out hb5); clear xc0 xc1 yc0 yc1 dc0 dc1 df0 df1; have xc0 := X.cell 0 rfl; have xc1 := X.cell 1 rfl; have yc0 := Y.cell 0 rfl; have yc1 := Y.cell 1 rfl; have dc0 := DD.cell 0 rfl; have dc1 := DD.cell 1 rfl; have df0 := DD.free 0; have df1 := DD.free 1)) | (((with_reducible refine (HB.out _ hbw).mono ?_); rintro e w5 ⟨rfl, hb5⟩; have X := X.grows hb5; have Y := Y.grows hb5; have R := R.grows hb5; have DD := DD.grows hb5; have hB := Nat.le_trans hB hb5.size; have hbw := below_two hbw hb5; have HO0 := Lib.hid (own_below HO0.out hb5); have HO1 := Lib.hid (own_below HO1.out hb5); clear xc0 xc1 yc0 yc1 dc0 dc1 df0 df1; have xc0 := X.cell 0 rfl; have xc1 := X.cell 1 rfl; have yc0 := Y.cell 0 rfl; have yc1 := Y.cell 1 rfl; have dc0 := DD.cell 0 rfl; have dc1 := DD.cell 1 rfl; have df0 := DD.free 0; have df1 := DD.free 1))
          have hw5 : D < w5.heap.size := DD.lt
          go_wp2_with (at_builtin; refine wpList_append_own_at _ rfl _ _ 22 rfl B 4 i0 _ 1 1 Tryd.underlying22 hi hz0 hz1 hz2 rfl (by decide) _ _ _ rfl (own_alloc HO1.out _) ⟨w5.heap.size, 0, none⟩ 1 1 [.bool true] rfl rfl (cells_newB _ _ _ _ rfl) (bool_one true) (by unfold maxLen; omega) (by omega) (by simp; omega) ?_; intro v' w6 hown2 hgrow _ hat; obtain ⟨p6, k6, rfl⟩ := own_shape hown2; have D7 := (DD.alloc (.cells #[.bool true] 4)).grownBy hgrow (fun g e => by have := own_ge HO1.out g e; omega); have q0 := D7.cell 1 rfl; have f6 := D7.free 1)
          all_goals
            have hat2 := hat
            go_roundw
            case rel => exact ⟨M + 1, _, _, by go_num, by omega,
              ((X.alloc (.cells #[.bool true] 4)).grownBy hgrow (fun g e => by have := own_ge HO1.out g e; omega)).other (by show w.heap.size ≠ D; omega) _,
              ((Y.alloc (.cells #[.bool true] 4)).grownBy hgrow (fun g e => by have := own_ge HO1.out g e; omega)).other (by show w.heap.size + 1 ≠ D; omega) _,
              ((R.alloc (.cells #[.bool true] 4)).grownBy hgrow (fun g e => by have := own_ge HO1.out g e; omega)).other (by show w.heap.size + 2 ≠ D; omega) _,
              D7.set 1 _,
              by rw [hm2]; exact own_set (p := ⟨D, 1, none⟩) (own_grown (own_alloc HO0.out _) hgrow (fun g e1 e2 => HAp.out g e2 e1)) hDB _,
              by rw [hm3, HSn.out]; exact own_set (p := ⟨D, 1, none⟩) hown2 hDB _,
              (apart_new (W := w5) (o := .cells #[.bool true] 4) HAp.out.symm hat2 HO0.out).symm,
              by have h7 := hgrow.size; simp at h7 ⊢; omega,
              ((hbw.alloc hbw.size (.cells #[.bool true] 4)).grown hgrow (by have h8 := hbw.size; simp; omega) (fun g e => by have := own_ge HO1.out g e; omega)).setCell (by show w.heap.size ≤ D; omega) _⟩
            case measure => simp [RowKit.intOf]; omega
    · obtain rfl : M = T := by omega
      have hTN := HT.out
      have hm1 : min M N = N := by omega
      have hm2 : M - N = P := by omega
      rw [hm1] at O0 DD
      rw [hm2] at O1 DD
      have hIS : IsSet wr (.agg #[.slice p0 N k0, .slice p1 P k1]) ((List.range N).map F) ((List.range P).map fun i => F (N + i)) := ⟨_, _, rfl, own_isB (own_cast O0 (by simp) rfl), own_isB (own_cast O1 (by simp) rfl)⟩
      have HIS := Lib.hid hIS
      have HTab := Lib.hid (tab_at HFr.out hP0)
      have d0 := DD.cell 0 rfl
      have d1 := DD.cell 1 rfl
      have xc1 := X.cell 1 rfl
      have yc1 := Y.cell 1 rfl
      clear O0 O1 hap hTN hm1 hm2 hIS
      go_wp2_with (go_at_call 34; refine (bounded_of _ _ _ F _ HIS.out (HTab.out ▸ hAS _ _ _ _ HIS.out (by simp; omega) (by simp; omega)) hP0 HFr.out (by omega)).mono ?_; rintro e w5 ⟨⟨hh, cc, hC, hres⟩, hb5⟩; obtain ⟨hq, hl, hz, cq, cl, cz, nn, rfl⟩ := hres.shape; have R5 := R.grows hb5; have r0 := R5.cell 0 rfl; have r1 := R5.cell 1 rfl; have z0 := R5.free 0; have z1 := R5.free 1)
      have q0 : (w5.setCell ⟨w.heap.size + 2, 0, none⟩ (.slice hq hl hz)).cell? ⟨w.heap.size + 2, 0, none⟩ = some (.slice hq hl hz) := (R5.set 0 _).cell 0 rfl
      have q1 : ((w5.setCell ⟨w.heap.size + 2, 0, none⟩ (.slice hq hl hz)).setCell ⟨w.heap.size + 2, 1, none⟩ (.slice cq cl cz)).cell? ⟨w.heap.size + 2, 1, none⟩ = some (.slice cq cl cz) := ((R5.set 0 _).set 1 _).cell 1 rfl
      have hlt2 : w.heap.size + 2 < wr.heap.size := R.lt
      refine bodyPost_ret (v := .tuple #[.agg #[.slice hq hl hz, .slice cq cl cz], .int .i64 nn]) (by simp [results, Tryd.results40, go_sem, q0, q1]) rfl ⟨.inr ⟨rfl, _, _, hC, ((hres.set (p := ⟨w.heap.size + 2, 0, none⟩) hlt2 _).set (p := ⟨w.heap.size + 2, 1, none⟩) hlt2 _).mono hbw.size⟩, ((below_two hbw hb5).setCell (Nat.le_add_right _ 2) _).setCell (Nat.le_add_right _ 2) _⟩
end Go.Proofs.YthnkgdpifebigaaDoor
