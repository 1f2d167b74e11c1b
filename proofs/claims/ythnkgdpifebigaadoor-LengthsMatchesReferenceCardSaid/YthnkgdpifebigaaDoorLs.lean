/-
  The law on sums: the walk.
-/
import Derived.Test.YthnkgdpifebigaaDoorLq
set_option linter.unusedSimpArgs false
set_option linter.unusedVariables false
namespace Go.Proofs.YthnkgdpifebigaaDoor
open Go.RowKit Go.Lib

/-- is n the sum of a member below i and another member? -/
def partS (f g : Nat → Bool) (n i : Nat) : Bool := (List.range i).any fun x => f x && g (n - x)
theorem partS_succ (f g : Nat → Bool) (n i : Nat) : partS f g n (i + 1) = (partS f g n i || (f i && g (n - i))) := by
  unfold partS; rw [List.range_succ, List.any_append]; simp
theorem partS_all (f g : Nat → Bool) (n : Nat) : partS f g n (n + 1) = sumB f g n := rfl
theorem sum_per {h c h' c' : List Bool} (hc : 0 < c.length) (hc' : 0 < c'.length) : From (sumB (atL h c) (atL h' c')) (mulOf c.length c'.length) (h.length + h'.length + mulOf c.length c'.length) :=
  sumB_from _ _ _ _ _ (lcm_from (atL_from h c hc) _ (mulOf_left _ _)) (lcm_from (atL_from h' c' hc') _ (mulOf_right _ _))
set_option maxRecDepth 100000 in
set_option maxHeartbeats 8000000 in
theorem summembers_walk (w : World) (v v' : Value) (h c h' c' : List Bool) (y : Int) (hv : IsSet w v h c) (hu : IsSet w v' h' c') (h1 : h.length ≤ 1152921504606846976) (h2 : c.length ≤ 1152921504606846976) (h3 : h'.length ≤ 1152921504606846976) (h4 : c'.length ≤ 1152921504606846976)
    (hy0 : 0 ≤ y) (hy1 : y < 65536) (hT : TabAt 0 Lib.deBruijn64tab w) (hg : 0 < w.heap.size) :
    Calls Tryd.prog 7 #[v, v', .int .u16 y] w fun e w' => e = .returned (.bool true) ∧ Below w.heap.size w w' := by
  obtain ⟨hp, hk, cp, ck, rfl, a1, a2⟩ := hv.shape
  obtain ⟨hp', hk', cp', ck', rfl, b1, b2⟩ := hu.shape
  have XS := Lib.hid hv
  have YS := Lib.hid hu
  have HT := Lib.hid (fun W (hW : Below w.heap.size w W) => And.intro (tab_below hT hW hg) (Nat.lt_of_lt_of_le hg hW.size))
  obtain ⟨k0, hk0⟩ : ∃ k0 : Nat, y % 340 = (k0 : Int) := ⟨(y % 340).toNat, by omega⟩
  have hk1 : k0 < 340 := by omega
  clear hT hg hv a1 a2 hu b1 b2
  go_enter Tryd.func7, Tryd.ntmps7
  go_wp2_with fail
  show Calls Tryd.prog _ _ (al w [(Obj.cells #[.slice hp h.length hk, .slice cp c.length ck] 24), (Obj.cells #[.slice hp' h'.length hk', .slice cp' c'.length ck'] 24)]) _
  obtain ⟨OS, hOS⟩ : ∃ OS, OS = [(Obj.cells #[.slice hp h.length hk, .slice cp c.length ck] 24), (Obj.cells #[.slice hp' h'.length hk', .slice cp' c'.length ck'] 24)] := ⟨_, rfl⟩
  rw [← hOS]
  replace XS := Lib.hid (XS.out.al OS)
  replace YS := Lib.hid (YS.out.al OS)
  have HB := Lib.hid (al_below OS w)
  have BX0 : Blk (al w OS) (w.heap.size) #[.slice hp h.length hk, .slice cp c.length ck] 24 := by rw [hOS]; exact al_blk w _ 0 rfl
  have BY0 : Blk (al w OS) (w.heap.size + 1) #[.slice hp' h'.length hk', .slice cp' c'.length ck'] 24 := by rw [hOS]; exact al_blk w _ 1 rfl
  have BX := Lib.hid BX0
  have BY := Lib.hid BY0
  clear BX0 BY0
  clear hOS
  generalize al w OS = W0 at XS YS BX BY HB ⊢
  refine (sanity_any W0 (HT.out _ HB.out).1 (HT.out _ HB.out).2).mono ?_
  rintro e w1 ⟨rfl, hb⟩
  replace XS := Lib.hid (XS.out.grows hb)
  replace YS := Lib.hid (YS.out.grows hb)
  replace BX := Lib.hid (BX.out.grows hb)
  replace BY := Lib.hid (BY.out.grows hb)
  replace HB := Lib.hid (HB.out.trans (hb.mono HB.out.size))
  clear hb
  have BX_0 := BX.out.cell 0 rfl
  have BX_1 := BX.out.cell 1 rfl
  have BX_l := BX.out.lt
  go_wp2_with fail
  clear BX_0 BX_1 BX_l
  refine (made_is _ h c 10 12 w1 XS.out h1 h2 (by decide) (by decide)).mono ?_
  rintro e w2 ⟨⟨xh, xc, xp, xk, xq, xj, rfl, hG, hxl, hxc, G0⟩, hb⟩
  replace XS := Lib.hid (XS.out.grows hb)
  replace YS := Lib.hid (YS.out.grows hb)
  replace BX := Lib.hid (BX.out.grows hb)
  replace BY := Lib.hid (BY.out.grows hb)
  replace HB := Lib.hid (HB.out.trans (hb.mono HB.out.size))
  clear hb
  have X := Lib.hid (G0)
  clear G0 hG
  clear XS BX
  have BY_0 := BY.out.cell 0 rfl
  have BY_1 := BY.out.cell 1 rfl
  have BY_l := BY.out.lt
  go_wp2_with fail
  clear BY_0 BY_1 BY_l
  show Calls Tryd.prog _ _ (al w2 [(Obj.cells #[.slice xp xh.length xk, .slice xq xc.length xj] 24)]) _
  obtain ⟨OS, hOS⟩ : ∃ OS, OS = [(Obj.cells #[.slice xp xh.length xk, .slice xq xc.length xj] 24)] := ⟨_, rfl⟩
  rw [← hOS]
  replace YS := Lib.hid (YS.out.al OS)
  replace BY := Lib.hid (BY.out.al OS)
  replace X := Lib.hid (X.out.al OS)
  replace HB := Lib.hid (HB.out.trans ((al_below OS w2).mono HB.out.size))
  have CX0 : Blk (al w2 OS) (w2.heap.size) #[.slice xp xh.length xk, .slice xq xc.length xj] 24 := by rw [hOS]; exact al_blk w2 _ 0 rfl
  have CX := Lib.hid CX0
  clear CX0
  clear hOS
  generalize al w2 OS = W2 at YS BY X CX HB ⊢
  refine (made_is _ h' c' 10 12 W2 YS.out h3 h4 (by decide) (by decide)).mono ?_
  rintro e w3 ⟨⟨yh, yc, yp, yk, yq, yj, rfl, hG, hyl, hyc, G0⟩, hb⟩
  replace YS := Lib.hid (YS.out.grows hb)
  replace BY := Lib.hid (BY.out.grows hb)
  replace X := Lib.hid (X.out.grows hb)
  replace CX := Lib.hid (CX.out.grows hb)
  replace HB := Lib.hid (HB.out.trans (hb.mono HB.out.size))
  clear hb
  have Y := Lib.hid (G0)
  clear G0 hG
  clear YS BY
  have CX_0 := CX.out.cell 0 rfl
  have CX_1 := CX.out.cell 1 rfl
  have CX_l := CX.out.lt
  go_wp2_with fail
  clear CX_0 CX_1 CX_l
  show Calls Tryd.prog _ _ (al w3 [(Obj.cells #[.slice yp yh.length yk, .slice yq yc.length yj] 24)]) _
  obtain ⟨OS, hOS⟩ : ∃ OS, OS = [(Obj.cells #[.slice yp yh.length yk, .slice yq yc.length yj] 24)] := ⟨_, rfl⟩
  rw [← hOS]
  replace X := Lib.hid (X.out.al OS)
  replace CX := Lib.hid (CX.out.al OS)
  replace Y := Lib.hid (Y.out.al OS)
  replace HB := Lib.hid (HB.out.trans ((al_below OS w3).mono HB.out.size))
  have CY0 : Blk (al w3 OS) (w3.heap.size) #[.slice yp yh.length yk, .slice yq yc.length yj] 24 := by rw [hOS]; exact al_blk w3 _ 0 rfl
  have CY := Lib.hid CY0
  clear CY0
  clear hOS
  generalize al w3 OS = W3 at X CX Y CY HB ⊢
  have hx3 : xh.length ≤ 1152921504606846976 := by omega
  have hx4 : xc.length ≤ 1152921504606846976 := by omega
  have hy3 : yh.length ≤ 1152921504606846976 := by omega
  have hy4 : yc.length ≤ 1152921504606846976 := by omega
  have HOX := Lib.hid (okLen_yes hxc.1 (show xh.length + xc.length ≤ 512 by omega))
  have HOY := Lib.hid (okLen_yes hyc.1 (show yh.length + yc.length ≤ 512 by omega))
  have hm1 : mulOf xc.length yc.length ≤ 12 * 12 := Nat.le_trans (mulOf_le _ _) (Nat.mul_le_mul (by omega) (by omega))
  have HOp := sum_any _ _ xh xc yh yc W3 X.out Y.out hx3 hx4 hy3 hy4
  rw [HOX.out, HOY.out] at HOp
  refine HOp.mono ?_
  rintro e w4 ⟨hr, hb⟩
  obtain ⟨sh, sc, sp, sk, sq, sj, rfl, sC0, sl, sm, s0⟩ := opres_ok hr (mulOf_pos _ _ hxc.1 hyc.1) (sum_per hxc.1 hyc.1) (by omega)
  replace X := Lib.hid (X.out.grows hb)
  replace CX := Lib.hid (CX.out.grows hb)
  replace Y := Lib.hid (Y.out.grows hb)
  replace CY := Lib.hid (CY.out.grows hb)
  replace HB := Lib.hid (HB.out.trans (hb.mono HB.out.size))
  clear hb
  have S := Lib.hid (s0)
  clear s0 hr HOp
  have sC := Lib.hid sC0
  clear sC0
  have sw : sh.length + sc.length ≤ 400 := by omega
  clear sl sm hm1
  obtain ⟨fx, hfx⟩ : ∃ f, atL xh xc = f := ⟨_, rfl⟩
  obtain ⟨fy, hfy⟩ : ∃ f, atL yh yc = f := ⟨_, rfl⟩
  rw [hfx, hfy] at sC
  have HFX := Lib.hid hfx
  have HFY := Lib.hid hfy
  clear hfx hfy

  have CS := Blk.new w4 #[.slice sp sh.length sk, .slice sq sc.length sj] 24
  have hal := below_alloc1 w4 (.cells #[.slice sp sh.length sk, .slice sq sc.length sj] 24)
  replace CX := CX.out.grows hal
  replace CY := CY.out.grows hal
  replace X := X.out.grows hal
  replace Y := Y.out.grows hal
  replace S := S.out.grows hal
  have hbw := HB.out.trans (hal.mono HB.out.size)
  clear HB hal
  go_wp2_with fail
  generalize w4.alloc (.cells #[.slice sp sh.length sk, .slice sq sc.length sj] 24) = W4 at hbw CX CY X Y S CS ⊢
  try simp only [hk0]
  go_loopw [12] (fun i wr => ∃ K : Nat, i = .int .i64 (K : Int) ∧ k0 ≤ K ∧ K ≤ k0 + 60 ∧ Below w.heap.size w wr ∧ Blk wr w2.heap.size #[.slice xp xh.length xk, .slice xq xc.length xj] 24 ∧ Blk wr w3.heap.size #[.slice yp yh.length yk, .slice yq yc.length yj] 24 ∧ Blk wr w4.heap.size #[.slice sp sh.length sk, .slice sq sc.length sj] 24 ∧ IsSet wr (.agg #[.slice xp xh.length xk, .slice xq xc.length xj]) xh xc ∧ IsSet wr (.agg #[.slice yp yh.length yk, .slice yq yc.length yj]) yh yc ∧ IsSet wr (.agg #[.slice sp sh.length sk, .slice sq sc.length sj]) sh sc) (fun i _ => k0 + 60 - (RowKit.intOf i).toNat)
  case atStart => exact ⟨k0, rfl, by omega, by omega, hbw, CX, CY, CS, X, Y, S⟩
  case round =>
    clear hbw CX CY CS X Y S
    obtain ⟨K, rfl, hK0, hK, hbw, CX, CY, CS, X, Y, S⟩ := hrel
    by_cases hlt : K < k0 + 60
    · have hd : decide ((K : Int) < (k0 : Int) + 60) = true := decide_eq_true (by omega)
      go_wp2_with fail
      try simp only [hk0, hd]
      go_loopw [13, 14] (fun f i wr => ∃ j : Nat, f = .bool (partS fx fy K j) ∧ i = .int .i64 (j : Int) ∧ j ≤ K + 1 ∧ Below w.heap.size w wr ∧ Blk wr w2.heap.size #[.slice xp xh.length xk, .slice xq xc.length xj] 24 ∧ Blk wr w3.heap.size #[.slice yp yh.length yk, .slice yq yc.length yj] 24 ∧ Blk wr w4.heap.size #[.slice sp sh.length sk, .slice sq sc.length sj] 24 ∧ IsSet wr (.agg #[.slice xp xh.length xk, .slice xq xc.length xj]) xh xc ∧ IsSet wr (.agg #[.slice yp yh.length yk, .slice yq yc.length yj]) yh yc ∧ IsSet wr (.agg #[.slice sp sh.length sk, .slice sq sc.length sj]) sh sc) (fun _ i _ => K + 1 - (RowKit.intOf i).toNat)
      case atStart => exact ⟨0, rfl, rfl, by omega, hbw, CX, CY, CS, X, Y, S⟩
      case round =>
        clear hbw CX CY CS X Y S
        obtain ⟨j, rfl, rfl, hj, hbw, CX, CY, CS, X, Y, S⟩ := hrel
        have CX_0 := CX.cell 0 rfl
        have CX_1 := CX.cell 1 rfl
        have CY_0 := CY.cell 0 rfl
        have CY_1 := CY.cell 1 rfl
        have CS_0 := CS.cell 0 rfl
        have CS_1 := CS.cell 1 rfl
        by_cases hlj : j ≤ K
        · have HN := Lib.hid (partS_succ fx fy K j)
          have hsub : (K : Int) - (j : Int) = ((K - j : Nat) : Int) := by omega
          have e1 : hasB xh xc (j : Int) = fx j := by rw [has_set hxc.1 (by omega), decide_eq_true (by omega), HFX.out]; rfl
          have e2 : hasB yh yc ((K - j : Nat) : Int) = fy (K - j) := by rw [has_set hyc.1 (by omega), decide_eq_true (by omega), HFY.out]; rfl
          obtain ⟨F2, hF2⟩ : ∃ F2, partS fx fy K (j + 1) = F2 := ⟨_, rfl⟩
          rw [hF2] at HN
          have HF2 := Lib.hid hF2
          clear hF2
          generalize partS fx fy K j = F at HN ⊢
          generalize fx j = bx at e1 HN
          generalize fy (K - j) = by2 at e2 HN
          have hKj : K - j ≤ 1000 := by omega
          have HX := Lib.hid (fun W (hW : Below wr.heap.size wr W) => rhas_is _ xh xc (j : Int) bx W (X.grows hW) e1 (by omega) (by omega) (by omega))
          have HY := Lib.hid (fun W (hW : Below wr.heap.size wr W) => rhas_is _ yh yc ((K - j : Nat) : Int) by2 W (Y.grows hW) e2 (by omega) (by omega) (by omega))
          have hrf := Below.refl wr.heap.size wr
          clear e1 e2
          generalize K - j = m at hsub HY hKj
          cases F
          · cases bx
            · go_wp2_with (go_at_call 20; with_reducible refine (HX.out _ hrf).mono ?_; rintro e w5 ⟨rfl, hb5⟩)
              go_roundw
              case rel => exact ⟨j + 1, by rw [HF2.out, HN.out]; rfl, by go_num, by omega, below_two hbw hb5, CX.grows hb5, CY.grows hb5, CS.grows hb5, X.grows hb5, Y.grows hb5, S.grows hb5⟩
              case measure => simp [RowKit.intOf]; omega
            · cases by2
              all_goals
                go_wp2_with (first
                  | (go_at_call 20; with_reducible refine (HX.out _ hrf).mono ?_; rintro e w5 ⟨rfl, hb5⟩; have CY5 := CY.grows hb5; have y0 := CY5.cell 0 rfl; have y1 := CY5.cell 1 rfl)
                  | (go_at_call 20; with_reducible refine (HY.out _ hb5).mono ?_; rintro e w6 ⟨rfl, hb6⟩; have hb7 := below_two hb5 hb6))
                go_roundw
                case rel => exact ⟨j + 1, by rw [HF2.out, HN.out]; rfl, by go_num, by omega, below_two hbw hb7, CX.grows hb7, CY.grows hb7, CS.grows hb7, X.grows hb7, Y.grows hb7, S.grows hb7⟩
                case measure => simp [RowKit.intOf]; omega
          · go_wp2_with fail
            go_roundw
            case rel => exact ⟨j + 1, by rw [HF2.out, HN.out]; rfl, by go_num, by omega, hbw, CX, CY, CS, X, Y, S⟩
            case measure => simp [RowKit.intOf]; omega
        · obtain rfl : j = K + 1 := by omega
          have e3 : hasB sh sc (K : Int) = sumB fx fy K := by rw [has_canon sC.out (by omega), decide_eq_true (by omega)]; rfl
          have hps := partS_all fx fy K
          rw [← hps] at e3
          clear hps
          generalize partS fx fy K (K + 1) = F at e3 ⊢
          have HS := Lib.hid (has_is _ sh sc (K : Int) F wr S e3 (by omega) (by omega) (by omega))
          clear e3
          cases F
          all_goals
            go_wp2_with (go_at_call 19; with_reducible refine HS.out.mono ?_; rintro e w5 ⟨rfl, hb5⟩)
            go_roundw
            case rel => exact ⟨K + 1, by go_num, by omega, by omega, below_two hbw hb5, CX.grows hb5, CY.grows hb5, CS.grows hb5, X.grows hb5, Y.grows hb5, S.grows hb5⟩
            case measure => simp [RowKit.intOf]; omega
    · obtain rfl : K = k0 + 60 := by omega
      go_wp2
      go_ret
      exact ⟨rfl, hbw⟩
end Go.Proofs.YthnkgdpifebigaaDoor
