/-
  The law on canonical forms: the walk.
-/
import Derived.Test.YthnkgdpifebigaaDoorLo
set_option linter.unusedSimpArgs false
set_option linter.unusedVariables false
namespace Go.Proofs.YthnkgdpifebigaaDoor
open Go.RowKit Go.Lib

/-- do the two agree on the numbers below n? -/
def agreeN (f g : Nat → Bool) (n : Nat) : Bool := (List.range n).all fun k => f k == g k
theorem agreeN_succ (f g : Nat → Bool) (n : Nat) : agreeN f g (n + 1) = (agreeN f g n && (f n == g n)) := by
  unfold agreeN; rw [List.range_succ, List.all_append]; simp
theorem agreeN_iff (f g : Nat → Bool) (n : Nat) : agreeN f g n = true ↔ ∀ k, k < n → f k = g k := by
  unfold agreeN; simp [List.all_eq_true]
theorem agree_all {f g : Nat → Bool} {P N n : Nat} (hf : From f P N) (hg : From g P N) (hP : 0 < P) (hn : N + P ≤ n) (h : agreeN f g n = true) (m : Nat) : f m = g m := by
  have h1 := (agreeN_iff f g n).1 h
  rcases Nat.lt_or_ge m N with h2 | h2
  · exact h1 m (by omega)
  · have e : m = N + (m - N) % P + P * ((m - N) / P) := by have := Nat.mod_add_div (m - N) P; omega
    have hr : (m - N) % P < P := Nat.mod_lt _ hP
    have a1 := hf.mul ((m - N) / P) (N + (m - N) % P) (by omega)
    have a2 := hg.mul ((m - N) / P) (N + (m - N) % P) (by omega)
    rw [← e] at a1 a2
    rw [a1, a2]
    exact h1 _ (by omega)
theorem canon_agree {f g : Nat → Bool} {h c h' c' : List Bool} {P N n : Nat} (a : IsCanon f h c) (b : IsCanon g h' c') (hf : From f P N) (hg : From g P N) (hP : 0 < P) (hn : N + P ≤ n) : sameS h c h' c' = agreeN f g n := by
  rw [Bool.eq_iff_iff, sameS_iff, agreeN_iff]
  constructor
  · rintro ⟨rfl, rfl⟩ k _
    rw [← a.val, ← b.val]
  · intro h1
    exact a.unique b (agree_all hf hg hP hn ((agreeN_iff f g n).2 h1))
theorem same_is (v u : Value) (h c h' c' : List Bool) (b : Bool) (W : World) (hv : IsSet W v h c) (hu : IsSet W u h' c') (hb : sameS h c h' c' = b) (h1 : h.length ≤ 1000) (h2 : c.length ≤ 1000) (h3 : h'.length ≤ 1000) (h4 : c'.length ≤ 1000) :
    Calls Tryd.prog 16 #[v, u] W fun e w' => e = .returned (.bool b) ∧ Below W.heap.size W w' := hb ▸ same_any v u h c h' c' W hv hu (by omega) (by omega) (by omega) (by omega)
set_option maxRecDepth 100000 in
set_option maxHeartbeats 8000000 in
theorem canoneq_walk (w : World) (v v' : Value) (h c h' c' : List Bool) (hv : IsSet w v h c) (hu : IsSet w v' h' c') (h1 : h.length ≤ 1152921504606846976) (h2 : c.length ≤ 1152921504606846976) (h3 : h'.length ≤ 1152921504606846976) (h4 : c'.length ≤ 1152921504606846976)
    (hT : TabAt 0 Lib.deBruijn64tab w) (hg : 0 < w.heap.size) :
    Calls Tryd.prog 5 #[v, v'] w fun e w' => e = .returned (.bool true) ∧ Below w.heap.size w w' := by
  obtain ⟨hp, hk, cp, ck, rfl, a1, a2⟩ := hv.shape
  obtain ⟨hp', hk', cp', ck', rfl, b1, b2⟩ := hu.shape
  have XS := Lib.hid hv
  have YS := Lib.hid hu
  have HT := Lib.hid (fun W (hW : Below w.heap.size w W) => And.intro (tab_below hT hW hg) (Nat.lt_of_lt_of_le hg hW.size))
  clear hT hg hv a1 a2 hu b1 b2
  go_enter Tryd.func5, Tryd.ntmps5
  go_wp2_with fail
  show Calls Tryd.prog _ _ (al w [(Obj.cells #[.slice hp h.length hk, .slice cp c.length ck] 24), (Obj.cells #[.slice hp' h'.length hk', .slice cp' c'.length ck'] 24)]) _
  obtain ⟨OS, hOS⟩ : ∃ OS, OS = [(Obj.cells #[.slice hp h.length hk, .slice cp c.length ck] 24), (Obj.cells #[.slice hp' h'.length hk', .slice cp' c'.length ck'] 24)] := ⟨_, rfl⟩
  rw [← hOS]
  replace XS := Lib.hid (XS.out.al OS)
  replace YS := Lib.hid (YS.out.al OS)
  have HB := Lib.hid (al_below OS w)
  have BX0 : Blk (al w OS) (w.heap.size) #[.slice hp h.length hk, .slice cp c.length ck] 24 := by rw [hOS]; exact al_blk w _ 0 rfl
  have BY0 : Blk (al w OS) (w.heap.size + 1) #[.slice hp' h'.length hk', .slice cp' c'.length ck'] 24 := by rw [hOS]; exact al_blk w _ 1 rfl
  have BX := Lib.hid BX0
  have BY := Lib.hid BY0
  clear BX0 BY0
  clear hOS
  generalize al w OS = W0 at XS YS BX BY HB ⊢
  refine (sanity_any W0 (HT.out _ HB.out).1 (HT.out _ HB.out).2).mono ?_
  rintro e w1 ⟨rfl, hb⟩
  replace XS := Lib.hid (XS.out.grows hb)
  replace YS := Lib.hid (YS.out.grows hb)
  replace BX := Lib.hid (BX.out.grows hb)
  replace BY := Lib.hid (BY.out.grows hb)
  replace HB := Lib.hid (HB.out.trans (hb.mono HB.out.size))
  clear hb
  have BX_0 := BX.out.cell 0 rfl
  have BX_1 := BX.out.cell 1 rfl
  have BX_l := BX.out.lt
  go_wp2_with fail
  clear BX_0 BX_1 BX_l
  refine (made_is _ h c 10 12 w1 XS.out h1 h2 (by decide) (by decide)).mono ?_
  rintro e w2 ⟨⟨xh, xc, xp, xk, xq, xj, rfl, hG, hxl, hxc, G0⟩, hb⟩
  replace XS := Lib.hid (XS.out.grows hb)
  replace YS := Lib.hid (YS.out.grows hb)
  replace BX := Lib.hid (BX.out.grows hb)
  replace BY := Lib.hid (BY.out.grows hb)
  replace HB := Lib.hid (HB.out.trans (hb.mono HB.out.size))
  clear hb
  have X := Lib.hid (G0)
  clear G0 hG
  clear XS BX
  have BY_0 := BY.out.cell 0 rfl
  have BY_1 := BY.out.cell 1 rfl
  have BY_l := BY.out.lt
  go_wp2_with fail
  clear BY_0 BY_1 BY_l
  show Calls Tryd.prog _ _ (al w2 [(Obj.cells #[.slice xp xh.length xk, .slice xq xc.length xj] 24)]) _
  obtain ⟨OS, hOS⟩ : ∃ OS, OS = [(Obj.cells #[.slice xp xh.length xk, .slice xq xc.length xj] 24)] := ⟨_, rfl⟩
  rw [← hOS]
  replace YS := Lib.hid (YS.out.al OS)
  replace BY := Lib.hid (BY.out.al OS)
  replace X := Lib.hid (X.out.al OS)
  replace HB := Lib.hid (HB.out.trans ((al_below OS w2).mono HB.out.size))
  have CX0 : Blk (al w2 OS) (w2.heap.size) #[.slice xp xh.length xk, .slice xq xc.length xj] 24 := by rw [hOS]; exact al_blk w2 _ 0 rfl
  have CX := Lib.hid CX0
  clear CX0
  clear hOS
  generalize al w2 OS = W2 at YS BY X CX HB ⊢
  refine (made_is _ h' c' 10 12 W2 YS.out h3 h4 (by decide) (by decide)).mono ?_
  rintro e w3 ⟨⟨yh, yc, yp, yk, yq, yj, rfl, hG, hyl, hyc, G0⟩, hb⟩
  replace YS := Lib.hid (YS.out.grows hb)
  replace BY := Lib.hid (BY.out.grows hb)
  replace X := Lib.hid (X.out.grows hb)
  replace CX := Lib.hid (CX.out.grows hb)
  replace HB := Lib.hid (HB.out.trans (hb.mono HB.out.size))
  clear hb
  have Y := Lib.hid (G0)
  clear G0 hG
  clear YS BY
  have hx3 : xh.length ≤ 1152921504606846976 := by omega
  have hx4 : xc.length ≤ 1152921504606846976 := by omega
  have hy3 : yh.length ≤ 1152921504606846976 := by omega
  have hy4 : yc.length ≤ 1152921504606846976 := by omega
  have HOX := Lib.hid (okLen_yes hxc.1 (show xh.length + xc.length ≤ 512 by omega))
  have HOY := Lib.hid (okLen_yes hyc.1 (show yh.length + yc.length ≤ 512 by omega))
  have hm1 : mulOf xc.length yc.length ≤ 12 * 12 := Nat.le_trans (mulOf_le _ _) (Nat.mul_le_mul (by omega) (by omega))
  have HAg := Lib.hid (fun (a b c d : List Bool) (p : IsCanon (atL xh xc) a b) (q : IsCanon (atL yh yc) c d) => canon_agree (n := 154) p q
    ((lcm_from (atL_from xh xc hxc.1) _ (mulOf_left xc.length yc.length)).mono (M := 10) (by omega)) ((lcm_from (atL_from yh yc hyc.1) _ (mulOf_right xc.length yc.length)).mono (M := 10) (by omega)) (mulOf_pos _ _ hxc.1 hyc.1) (by omega))
  clear hm1
  obtain ⟨fx, hfx⟩ : ∃ f, atL xh xc = f := ⟨_, rfl⟩
  obtain ⟨fy, hfy⟩ : ∃ f, atL yh yc = f := ⟨_, rfl⟩
  rw [hfx, hfy] at HAg
  have HFX := Lib.hid hfx
  have HFY := Lib.hid hfy
  clear hfx hfy
  go_wp2_with fail
  have HC0 := Lib.hid (And.intro HB.out (And.intro CX.out (And.intro X.out Y.out)))
  clear HB CX X Y
  obtain ⟨hbw, CX, X, Y⟩ := HC0.out
  clear HC0
  have CY := Blk.new w3 #[.slice yp yh.length yk, .slice yq yc.length yj] 24
  replace CX := CX.alloc (.cells #[.slice yp yh.length yk, .slice yq yc.length yj] 24)
  replace X := X.grows (below_alloc1 w3 (.cells #[.slice yp yh.length yk, .slice yq yc.length yj] 24))
  replace Y := Y.grows (below_alloc1 w3 (.cells #[.slice yp yh.length yk, .slice yq yc.length yj] 24))
  replace hbw := hbw.alloc hbw.size (.cells #[.slice yp yh.length yk, .slice yq yc.length yj] 24)
  generalize w3.alloc (.cells #[.slice yp yh.length yk, .slice yq yc.length yj] 24) = W3 at hbw CX CY X Y ⊢
  go_loopw [8, 9] (fun e i wr => ∃ k : Nat, e = .bool (agreeN fx fy k) ∧ i = .int .i64 (k : Int) ∧ k ≤ 154 ∧ Below w.heap.size w wr ∧ Blk wr w2.heap.size #[.slice xp xh.length xk, .slice xq xc.length xj] 24 ∧ Blk wr w3.heap.size #[.slice yp yh.length yk, .slice yq yc.length yj] 24 ∧ IsSet wr (.agg #[.slice xp xh.length xk, .slice xq xc.length xj]) xh xc ∧ IsSet wr (.agg #[.slice yp yh.length yk, .slice yq yc.length yj]) yh yc) (fun _ i _ => 154 - (RowKit.intOf i).toNat)
  case atStart => exact ⟨0, rfl, rfl, by omega, hbw, CX, CY, X, Y⟩
  case round =>
    clear hbw CX CY X Y
    obtain ⟨k, rfl, rfl, hk, hbw, CX, CY, X, Y⟩ := hrel
    have HC := Lib.hid (And.intro hbw (And.intro CX (And.intro CY (And.intro X Y))))
    by_cases hlt : k < 154
    · have HN := Lib.hid (agreeN_succ fx fy k)
      have e1 : hasB xh xc (k : Int) = fx k := by rw [has_set hxc.1 (by omega), decide_eq_true (by omega), HFX.out]; rfl
      have e2 : hasB yh yc (k : Int) = fy k := by rw [has_set hyc.1 (by omega), decide_eq_true (by omega), HFY.out]; rfl
      have k0 := cell_regrown (CX.cell 0 rfl)
      have k1 := cell_regrown (CX.cell 1 rfl)
      have k2 := cell_regrown (CY.cell 0 rfl)
      have k3 := cell_regrown (CY.cell 1 rfl)
      clear CX CY hbw
      obtain ⟨E2, hE2⟩ : ∃ E2, agreeN fx fy (k + 1) = E2 := ⟨_, rfl⟩
      rw [hE2] at HN
      have HE2 := Lib.hid hE2
      clear hE2
      generalize agreeN fx fy k = E at HN ⊢
      generalize fx k = bx at e1 HN
      generalize fy k = by2 at e2 HN
      cases E
      · clear e1 e2 X Y
        go_wp2_with fail
        refine wp_region_quiet_below (by kernel_rfl) (by kernel_rfl) ?_
        repeat (go_big_quiet_step (first | with_reducible exact HC.out _ _))
        refine wpQuiet_nil ?_
        intro _ hw'
        obtain ⟨⟨dq, osq⟩, hw''⟩ := hw'
        subst hw''
        have hgr := below_regrown wr dq osq
        obtain ⟨hbw, CX, CY, X, Y⟩ := HC.out
        go_wp2_with fail
        go_roundw
        case rel => exact ⟨k + 1, by rw [HE2.out, HN.out]; rfl, by go_num, by omega, below_two hbw hgr, CX.grows hgr, CY.grows hgr, X.grows hgr, Y.grows hgr⟩
        case measure => simp [RowKit.intOf]; omega
      · cases bx <;> cases by2
        all_goals
          have HX := Lib.hid (rhasq X e1 (by omega) (by omega) (by omega))
          have HY := Lib.hid (rhasq Y e2 (by omega) (by omega) (by omega))
          clear X Y e1 e2
          go_wp2_with fail
          refine wp_region_quiet_below (by kernel_rfl) (by kernel_rfl) ?_
          repeat (go_big_quiet_step (first | with_reducible exact HX.out _ _ | with_reducible exact HY.out _ _))
          refine wpQuiet_nil ?_
          intro _ hw'
          obtain ⟨⟨dq, osq⟩, hw''⟩ := hw'
          subst hw''
          have hgr := below_regrown wr dq osq
          obtain ⟨hbw, CX, CY, X, Y⟩ := HC.out
          go_wp2_with fail
          go_roundw
          case rel => exact ⟨k + 1, by rw [HE2.out, HN.out]; rfl, by go_num, by omega, below_two hbw hgr, CX.grows hgr, CY.grows hgr, X.grows hgr, Y.grows hgr⟩
          case measure => simp [RowKit.intOf]; omega
    · obtain rfl : k = 154 := by omega
      clear HC
      obtain ⟨E, hE⟩ : ∃ E, agreeN fx fy 154 = E := ⟨_, rfl⟩
      rw [hE] at HAg ⊢
      clear hE
      replace CX := Lib.hid CX
      replace CY := Lib.hid CY
      replace X := Lib.hid X
      replace Y := Lib.hid Y
      have HB := Lib.hid hbw
      clear hbw
      have CX_0 := CX.out.cell 0 rfl
      have CX_1 := CX.out.cell 1 rfl
      have CX_l := CX.out.lt
      go_wp2_with fail
      clear CX_0 CX_1 CX_l
      have HOp := canon_any _ xh xc wr X.out hx3 hx4
      rw [HOX.out] at HOp
      refine HOp.mono ?_
      rintro e w4 ⟨hr, hb⟩
      obtain ⟨ch, cc, cp, ck, cq, cj, rfl, cC0, cl, cm, c0⟩ := opres_ok hr hxc.1 (atL_from xh xc hxc.1) (by omega)
      replace CX := Lib.hid (CX.out.grows hb)
      replace CY := Lib.hid (CY.out.grows hb)
      replace X := Lib.hid (X.out.grows hb)
      replace Y := Lib.hid (Y.out.grows hb)
      replace HB := Lib.hid (HB.out.trans (hb.mono HB.out.size))
      clear hb
      have C := Lib.hid (c0)
      clear c0 hr HOp
      have cC := Lib.hid cC0
      clear cC0
      have CY_0 := CY.out.cell 0 rfl
      have CY_1 := CY.out.cell 1 rfl
      have CY_l := CY.out.lt
      go_wp2_with fail
      clear CY_0 CY_1 CY_l
      show Calls Tryd.prog _ _ (al w4 [(Obj.cells #[.slice cp ch.length ck, .slice cq cc.length cj] 24)]) _
      obtain ⟨OS, hOS⟩ : ∃ OS, OS = [(Obj.cells #[.slice cp ch.length ck, .slice cq cc.length cj] 24)] := ⟨_, rfl⟩
      rw [← hOS]
      replace CX := Lib.hid (CX.out.al OS)
      replace CY := Lib.hid (CY.out.al OS)
      replace X := Lib.hid (X.out.al OS)
      replace Y := Lib.hid (Y.out.al OS)
      replace C := Lib.hid (C.out.al OS)
      replace HB := Lib.hid (HB.out.trans ((al_below OS w4).mono HB.out.size))
      have CC0 : Blk (al w4 OS) (w4.heap.size) #[.slice cp ch.length ck, .slice cq cc.length cj] 24 := by rw [hOS]; exact al_blk w4 _ 0 rfl
      have CC := Lib.hid CC0
      clear CC0
      clear hOS
      generalize al w4 OS = W4 at CX CY X Y C CC HB ⊢
      have HOp := canon_any _ yh yc W4 Y.out hy3 hy4
      rw [HOY.out] at HOp
      refine HOp.mono ?_
      rintro e w5 ⟨hr, hb⟩
      obtain ⟨dh, dc, dp, dk, dq, dj, rfl, dC0, dl, dm, d0⟩ := opres_ok hr hyc.1 (atL_from yh yc hyc.1) (by omega)
      replace CX := Lib.hid (CX.out.grows hb)
      replace CY := Lib.hid (CY.out.grows hb)
      replace X := Lib.hid (X.out.grows hb)
      replace Y := Lib.hid (Y.out.grows hb)
      replace C := Lib.hid (C.out.grows hb)
      replace CC := Lib.hid (CC.out.grows hb)
      replace HB := Lib.hid (HB.out.trans (hb.mono HB.out.size))
      clear hb
      have D := Lib.hid (d0)
      clear d0 hr HOp
      have dC := Lib.hid dC0
      clear dC0
      have CC_0 := CC.out.cell 0 rfl
      have CC_1 := CC.out.cell 1 rfl
      have CC_l := CC.out.lt
      go_wp2_with fail
      clear CC_0 CC_1 CC_l
      show Calls Tryd.prog _ _ (al w5 [(Obj.cells #[.slice dp dh.length dk, .slice dq dc.length dj] 24)]) _
      obtain ⟨OS, hOS⟩ : ∃ OS, OS = [(Obj.cells #[.slice dp dh.length dk, .slice dq dc.length dj] 24)] := ⟨_, rfl⟩
      rw [← hOS]
      replace CX := Lib.hid (CX.out.al OS)
      replace CY := Lib.hid (CY.out.al OS)
      replace X := Lib.hid (X.out.al OS)
      replace Y := Lib.hid (Y.out.al OS)
      replace C := Lib.hid (C.out.al OS)
      replace CC := Lib.hid (CC.out.al OS)
      replace D := Lib.hid (D.out.al OS)
      replace HB := Lib.hid (HB.out.trans ((al_below OS w5).mono HB.out.size))
      have CD0 : Blk (al w5 OS) (w5.heap.size) #[.slice dp dh.length dk, .slice dq dc.length dj] 24 := by rw [hOS]; exact al_blk w5 _ 0 rfl
      have CD := Lib.hid CD0
      clear CD0
      clear hOS
      generalize al w5 OS = W5 at CX CY X Y C CC D CD HB ⊢
      clear Y CY
      have hok3 : okLen ch.length cc.length = true := okLen_yes cC.out.pos (by omega)
      have HOp := canon_any _ ch cc W5 C.out (by omega) (by omega)
      rw [hok3] at HOp
      refine HOp.mono ?_
      rintro e w6 ⟨hr, hb⟩
      obtain ⟨ah, ac, ap, ak, aq, aj, rfl, aC0, al, am, a0⟩ := opres_ok hr cC.out.pos (atL_from ch cc cC.out.pos) (by omega)
      replace CX := Lib.hid (CX.out.grows hb)
      replace X := Lib.hid (X.out.grows hb)
      replace C := Lib.hid (C.out.grows hb)
      replace CC := Lib.hid (CC.out.grows hb)
      replace D := Lib.hid (D.out.grows hb)
      replace CD := Lib.hid (CD.out.grows hb)
      replace HB := Lib.hid (HB.out.trans (hb.mono HB.out.size))
      clear hb
      have A := Lib.hid (a0)
      clear a0 hr HOp
      have aC := Lib.hid aC0
      clear aC0
      go_wp2_with fail
      obtain ⟨e1, e2⟩ := cC.out.own.unique aC.out (fun _ => rfl)
      subst e1
      subst e2
      clear aC al am
      have CA := Blk.new w6 #[.slice ap ch.length ak, .slice aq cc.length aj] 24
      have hal := below_alloc1 w6 (.cells #[.slice ap ch.length ak, .slice aq cc.length aj] 24)
      replace CX := CX.out.grows hal
      replace X := X.out.grows hal
      replace CC := CC.out.grows hal
      replace C := C.out.grows hal
      replace CD := CD.out.grows hal
      replace D := D.out.grows hal
      replace A := A.out.grows hal
      have hbw := HB.out.trans (hal.mono HB.out.size)
      clear HB hal
      generalize w6.alloc (.cells #[.slice ap ch.length ak, .slice aq cc.length aj] 24) = W6 at hbw CX X CC C CD D A CA ⊢
      go_loopw [16] (fun i wr => ∃ k : Nat, i = .int .i64 (k : Int) ∧ k ≤ 60 ∧ Below w.heap.size w wr ∧ Blk wr w2.heap.size #[.slice xp xh.length xk, .slice xq xc.length xj] 24 ∧ Blk wr w4.heap.size #[.slice cp ch.length ck, .slice cq cc.length cj] 24 ∧ Blk wr w5.heap.size #[.slice dp dh.length dk, .slice dq dc.length dj] 24 ∧ Blk wr w6.heap.size #[.slice ap ch.length ak, .slice aq cc.length aj] 24 ∧ IsSet wr (.agg #[.slice xp xh.length xk, .slice xq xc.length xj]) xh xc ∧ IsSet wr (.agg #[.slice cp ch.length ck, .slice cq cc.length cj]) ch cc ∧ IsSet wr (.agg #[.slice dp dh.length dk, .slice dq dc.length dj]) dh dc ∧ IsSet wr (.agg #[.slice ap ch.length ak, .slice aq cc.length aj]) ch cc) (fun i _ => 60 - (RowKit.intOf i).toNat)
      case atStart => exact ⟨0, rfl, by omega, hbw, CX, CC, CD, CA, X, C, D, A⟩
      case round =>
        clear hbw CX CC CD CA X C D A
        obtain ⟨k, rfl, hk, hbw, CX, CC, CD, CA, X, C, D, A⟩ := hrel
        by_cases hlt : k < 60
        · have HC := Lib.hid (And.intro hbw (And.intro CX (And.intro CC (And.intro CD (And.intro CA (And.intro X (And.intro C (And.intro D A))))))))
          have e1 : hasB xh xc (k : Int) = fx k := by rw [has_set hxc.1 (by omega), decide_eq_true (by omega), HFX.out]; rfl
          have e2 : hasB ch cc (k : Int) = fx k := by rw [has_canon cC.out (by omega), decide_eq_true (by omega), HFX.out]; rfl
          have k0 := cell_regrown (CX.cell 0 rfl)
          have k1 := cell_regrown (CX.cell 1 rfl)
          have k2 := cell_regrown (CC.cell 0 rfl)
          have k3 := cell_regrown (CC.cell 1 rfl)
          generalize fx k = bx at e1 e2
          cases bx
          all_goals
            have HX := Lib.hid (rhasq X e1 (by omega) (by omega) (by omega))
            have HY := Lib.hid (hasq C e2 (by omega) (by omega) (by omega))
            clear hbw CX CC CD CA X C D A e1 e2
            go_wp2_with fail
            refine wp_region_quiet_below (by kernel_rfl) (by kernel_rfl) ?_
            repeat (go_big_quiet_step (first | with_reducible exact HX.out _ _ | with_reducible exact HY.out _ _))
            refine wpQuiet_nil ?_
            intro _ hw'
            obtain ⟨⟨dq, osq⟩, hw''⟩ := hw'
            subst hw''
            have hgr := below_regrown wr dq osq
            obtain ⟨hbw, CX, CC, CD, CA, X, C, D, A⟩ := HC.out
            go_wp2_with fail
            go_roundw
            case rel => exact ⟨k + 1, by go_num, by omega, below_two hbw hgr, CX.grows hgr, CC.grows hgr, CD.grows hgr, CA.grows hgr, X.grows hgr, C.grows hgr, D.grows hgr, A.grows hgr⟩
            case measure => simp [RowKit.intOf]; omega
        · obtain rfl : k = 60 := by omega
          have HS1 := HAg.out ch cc dh dc (HFX.out ▸ cC.out) (HFY.out ▸ dC.out)
          have c0 := CC.cell 0 rfl
          have c1 := CC.cell 1 rfl
          have d0 := CD.cell 0 rfl
          have d1 := CD.cell 1 rfl
          have H1 := Lib.hid (same_is _ _ ch cc dh dc E wr C D HS1 (by omega) (by omega) (by omega) (by omega))
          have H2 := Lib.hid (fun W (hW : Below wr.heap.size wr W) => same_yes _ _ ch cc W (A.grows hW) (C.grows hW) (by omega) (by omega))
          have HCC := Lib.hid CC
          have HCX := Lib.hid CX
          have HCA := Lib.hid CA
          clear HS1 CC CX CA CD X C D A
          cases E
          all_goals
            go_wp2_with fail
            refine H1.out.mono ?_
            rintro e w7 ⟨rfl, hb7⟩
            have C7 := HCC.out.grows hb7
            have A7 := HCA.out.grows hb7
            have c0 := C7.cell 0 rfl
            have c1 := C7.cell 1 rfl
            have a0 := A7.cell 0 rfl
            have a1 := A7.cell 1 rfl
            go_wp2_with fail
            refine (H2.out _ hb7).mono ?_
            rintro e w8 ⟨rfl, hb8⟩
            have C8 := C7.grows hb8
            have X8 := (HCX.out.grows hb7).grows hb8
            clear c0 c1 a0 a1
            have c0 := C8.cell 0 rfl
            have c1 := C8.cell 1 rfl
            have x0 := X8.cell 0 rfl
            have x1 := X8.cell 1 rfl
            go_wp2_with fail
            go_ret
            exact ⟨rfl, below_two (below_two hbw hb7) hb8⟩
end Go.Proofs.YthnkgdpifebigaaDoor
