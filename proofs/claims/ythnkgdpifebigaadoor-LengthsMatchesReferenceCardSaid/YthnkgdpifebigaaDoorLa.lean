/-
  The law on associativity: the walk.
-/
import Derived.Test.YthnkgdpifebigaaDoorLs
set_option linter.unusedSimpArgs false
set_option linter.unusedVariables false
namespace Go.Proofs.YthnkgdpifebigaaDoor
open Go.RowKit Go.Lib

theorem bool_set {W : World} {p : Addr} {v : Value} (hp : ∀ b, W.cell? p ≠ some (.bool b)) {a : Addr} {b : Bool} (h : W.cell? a = some (.bool b)) : (W.setCell p v).cell? a = some (.bool b) := by
  rw [World.cell?_setCell_other]
  · exact h
  · rintro rfl; exact hp b h
theorem IsB.keptB {w w' : World} {v : Value} {l : List Bool} (h : IsB w v l) (hk : ∀ (a : Addr) (b : Bool), w.cell? a = Option.some (Value.bool b) → w'.cell? a = Option.some (Value.bool b)) : IsB w' v l := by
  rcases h with h | ⟨blk, off, cap, rfl, hc, h⟩
  · exact .inl h
  · exact .inr ⟨blk, off, cap, rfl, hc, fun j hj => hk _ _ (h j hj)⟩
/-- a set is kept where a box of slices is written. -/
theorem IsSet.box {W : World} {b : Nat} {s0 s1 : Value} {t : TypeId} {v : Value} {h c : List Bool} (a : IsSet W v h c) (hB : Blk W b #[s0, s1] t) (h0 : ∀ x, s0 ≠ .bool x) (h1 : ∀ x, s1 ≠ .bool x) (u0 u1 : Value) :
    IsSet ((W.setCell ⟨b, 0, none⟩ u0).setCell ⟨b, 1, none⟩ u1) v h c := by
  have hk : ∀ (a : Addr) (x : Bool), W.cell? a = some (Value.bool x) → ((W.setCell ⟨b, 0, none⟩ u0).setCell ⟨b, 1, none⟩ u1).cell? a = some (Value.bool x) := by
    intro a x hx
    refine bool_set (fun y e => ?_) (bool_set (fun y e => ?_) hx)
    · rw [(hB.set 0 u0).cell 1 (v := s1) rfl] at e
      exact h1 y (Option.some.inj e)
    · rw [hB.cell 0 (v := s0) rfl] at e
      exact h0 y (Option.some.inj e)
  obtain ⟨vh, vc, rfl, a1, a2⟩ := a
  exact ⟨vh, vc, rfl, a1.keptB hk, a2.keptB hk⟩
theorem mul_bd {a b A B : Nat} (ha : a ≤ A) (hb : b ≤ B) : mulOf a b ≤ A * B := Nat.le_trans (mulOf_le _ _) (Nat.mul_le_mul ha hb)
theorem From.congr {f g : Nat → Bool} {P N : Nat} (h : From f P N) (e : ∀ n, f n = g n) : From g P N := by rw [← funext e]; exact h
theorem notbool (p : Option Addr) (n k : Nat) : ∀ x, Value.slice p n k ≠ .bool x := fun x e => by cases e
set_option maxRecDepth 100000 in
set_option maxHeartbeats 16000000 in
theorem assoc_walk (w : World) (v v' v'' : Value) (h c h' c' h'' c'' : List Bool) (hv : IsSet w v h c) (hu : IsSet w v' h' c') (ht : IsSet w v'' h'' c'') (h1 : h.length ≤ 1152921504606846976) (h2 : c.length ≤ 1152921504606846976) (h3 : h'.length ≤ 1152921504606846976) (h4 : c'.length ≤ 1152921504606846976) (h5 : h''.length ≤ 1152921504606846976) (h6 : c''.length ≤ 1152921504606846976)
    (hT : TabAt 0 Lib.deBruijn64tab w) (hg : 0 < w.heap.size) :
    Calls Tryd.prog 8 #[v, v', v''] w fun e w' => e = .returned (.bool true) ∧ Below w.heap.size w w' := by
  obtain ⟨hp, hk, cp, ck, rfl, a1, a2⟩ := hv.shape
  obtain ⟨hp', hk', cp', ck', rfl, b1, b2⟩ := hu.shape
  obtain ⟨hp'', hk'', cp'', ck'', rfl, d1, d2⟩ := ht.shape
  have XS := Lib.hid hv
  have YS := Lib.hid hu
  have ZS := Lib.hid ht
  have HT := Lib.hid (fun W (hW : Below w.heap.size w W) => And.intro (tab_below hT hW hg) (Nat.lt_of_lt_of_le hg hW.size))
  clear hT hg hv a1 a2 hu b1 b2 ht d1 d2
  go_enter Tryd.func8, Tryd.ntmps8
  go_wp2_with fail
  show Calls Tryd.prog _ _ (al w [(Obj.cells #[.slice hp h.length hk, .slice cp c.length ck] 24), (Obj.cells #[.slice hp' h'.length hk', .slice cp' c'.length ck'] 24), (Obj.cells #[.slice hp'' h''.length hk'', .slice cp'' c''.length ck''] 24)]) _
  obtain ⟨OS, hOS⟩ : ∃ OS, OS = [(Obj.cells #[.slice hp h.length hk, .slice cp c.length ck] 24), (Obj.cells #[.slice hp' h'.length hk', .slice cp' c'.length ck'] 24), (Obj.cells #[.slice hp'' h''.length hk'', .slice cp'' c''.length ck''] 24)] := ⟨_, rfl⟩
  rw [← hOS]
  replace XS := Lib.hid (XS.out.al OS)
  replace YS := Lib.hid (YS.out.al OS)
  replace ZS := Lib.hid (ZS.out.al OS)
  have HB := Lib.hid (al_below OS w)
  have BX0 : Blk (al w OS) (w.heap.size) #[.slice hp h.length hk, .slice cp c.length ck] 24 := by rw [hOS]; exact al_blk w _ 0 rfl
  have BY0 : Blk (al w OS) (w.heap.size + 1) #[.slice hp' h'.length hk', .slice cp' c'.length ck'] 24 := by rw [hOS]; exact al_blk w _ 1 rfl
  have BZ0 : Blk (al w OS) (w.heap.size + 1 + 1) #[.slice hp'' h''.length hk'', .slice cp'' c''.length ck''] 24 := by rw [hOS]; exact al_blk w _ 2 rfl
  have BX := Lib.hid BX0
  have BY := Lib.hid BY0
  have BZ := Lib.hid BZ0
  clear BX0 BY0 BZ0
  clear hOS
  generalize al w OS = W0 at XS YS ZS BX BY BZ HB ⊢
  refine (sanity_any W0 (HT.out _ HB.out).1 (HT.out _ HB.out).2).mono ?_
  rintro e w1 ⟨rfl, hb⟩
  replace XS := Lib.hid (XS.out.grows hb)
  replace YS := Lib.hid (YS.out.grows hb)
  replace ZS := Lib.hid (ZS.out.grows hb)
  replace BX := Lib.hid (BX.out.grows hb)
  replace BY := Lib.hid (BY.out.grows hb)
  replace BZ := Lib.hid (BZ.out.grows hb)
  replace HB := Lib.hid (HB.out.trans (hb.mono HB.out.size))
  clear hb
  have BX_0 := BX.out.cell 0 rfl
  have BX_1 := BX.out.cell 1 rfl
  have BX_l := BX.out.lt
  go_wp2_with fail
  clear BX_0 BX_1 BX_l
  refine (made_is _ h c 6 5 w1 XS.out h1 h2 (by decide) (by decide)).mono ?_
  rintro e w2 ⟨⟨xh, xc, xp, xk, xq, xj, rfl, hG, xl, xm, G0⟩, hb⟩
  replace XS := Lib.hid (XS.out.grows hb)
  replace YS := Lib.hid (YS.out.grows hb)
  replace ZS := Lib.hid (ZS.out.grows hb)
  replace BX := Lib.hid (BX.out.grows hb)
  replace BY := Lib.hid (BY.out.grows hb)
  replace BZ := Lib.hid (BZ.out.grows hb)
  replace HB := Lib.hid (HB.out.trans (hb.mono HB.out.size))
  clear hb
  have Sx := Lib.hid (G0)
  clear G0 hG
  have xo := Lib.hid (okLen_yes xm.1 (show xh.length + xc.length ≤ 512 by omega))
  have xp0 : 0 < xc.length := xm.1
  have xm2 : xc.length ≤ 5 := by omega
  clear xm
  have w2b : w.heap.size ≤ w2.heap.size := HB.out.size
  clear XS BX
  have BY_0 := BY.out.cell 0 rfl
  have BY_1 := BY.out.cell 1 rfl
  have BY_l := BY.out.lt
  go_wp2_with fail
  clear BY_0 BY_1 BY_l
  show Calls Tryd.prog _ _ (al w2 [(Obj.cells #[.slice xp xh.length xk, .slice xq xc.length xj] 24)]) _
  obtain ⟨OS, hOS⟩ : ∃ OS, OS = [(Obj.cells #[.slice xp xh.length xk, .slice xq xc.length xj] 24)] := ⟨_, rfl⟩
  rw [← hOS]
  replace YS := Lib.hid (YS.out.al OS)
  replace ZS := Lib.hid (ZS.out.al OS)
  replace BY := Lib.hid (BY.out.al OS)
  replace BZ := Lib.hid (BZ.out.al OS)
  replace Sx := Lib.hid (Sx.out.al OS)
  replace HB := Lib.hid (HB.out.trans ((al_below OS w2).mono HB.out.size))
  have Cx0 : Blk (al w2 OS) (w2.heap.size) #[.slice xp xh.length xk, .slice xq xc.length xj] 24 := by rw [hOS]; exact al_blk w2 _ 0 rfl
  have Cx := Lib.hid Cx0
  clear Cx0
  clear hOS
  generalize al w2 OS = W2 at YS ZS BY BZ Sx Cx HB ⊢
  refine (made_is _ h' c' 6 5 W2 YS.out h3 h4 (by decide) (by decide)).mono ?_
  rintro e w3 ⟨⟨yh, yc, yp, yk, yq, yj, rfl, hG, yl, ym, G0⟩, hb⟩
  replace YS := Lib.hid (YS.out.grows hb)
  replace ZS := Lib.hid (ZS.out.grows hb)
  replace BY := Lib.hid (BY.out.grows hb)
  replace BZ := Lib.hid (BZ.out.grows hb)
  replace Sx := Lib.hid (Sx.out.grows hb)
  replace Cx := Lib.hid (Cx.out.grows hb)
  replace HB := Lib.hid (HB.out.trans (hb.mono HB.out.size))
  clear hb
  have Sy := Lib.hid (G0)
  clear G0 hG
  have yo := Lib.hid (okLen_yes ym.1 (show yh.length + yc.length ≤ 512 by omega))
  have yp0 : 0 < yc.length := ym.1
  have ym2 : yc.length ≤ 5 := by omega
  clear ym
  have w3b : w.heap.size ≤ w3.heap.size := HB.out.size
  have Cx_w3 : w2.heap.size < w3.heap.size := Cx.out.lt
  clear YS BY
  have BZ_0 := BZ.out.cell 0 rfl
  have BZ_1 := BZ.out.cell 1 rfl
  have BZ_l := BZ.out.lt
  go_wp2_with fail
  clear BZ_0 BZ_1 BZ_l
  show Calls Tryd.prog _ _ (al w3 [(Obj.cells #[.slice yp yh.length yk, .slice yq yc.length yj] 24)]) _
  obtain ⟨OS, hOS⟩ : ∃ OS, OS = [(Obj.cells #[.slice yp yh.length yk, .slice yq yc.length yj] 24)] := ⟨_, rfl⟩
  rw [← hOS]
  replace ZS := Lib.hid (ZS.out.al OS)
  replace BZ := Lib.hid (BZ.out.al OS)
  replace Sx := Lib.hid (Sx.out.al OS)
  replace Cx := Lib.hid (Cx.out.al OS)
  replace Sy := Lib.hid (Sy.out.al OS)
  replace HB := Lib.hid (HB.out.trans ((al_below OS w3).mono HB.out.size))
  have Cy0 : Blk (al w3 OS) (w3.heap.size) #[.slice yp yh.length yk, .slice yq yc.length yj] 24 := by rw [hOS]; exact al_blk w3 _ 0 rfl
  have Cy := Lib.hid Cy0
  clear Cy0
  clear hOS
  generalize al w3 OS = W3 at ZS BZ Sx Cx Sy Cy HB ⊢
  refine (made_is _ h'' c'' 6 5 W3 ZS.out h5 h6 (by decide) (by decide)).mono ?_
  rintro e w4 ⟨⟨zh, zc, zp, zk, zq, zj, rfl, hG, zl, zm, G0⟩, hb⟩
  replace ZS := Lib.hid (ZS.out.grows hb)
  replace BZ := Lib.hid (BZ.out.grows hb)
  replace Sx := Lib.hid (Sx.out.grows hb)
  replace Cx := Lib.hid (Cx.out.grows hb)
  replace Sy := Lib.hid (Sy.out.grows hb)
  replace Cy := Lib.hid (Cy.out.grows hb)
  replace HB := Lib.hid (HB.out.trans (hb.mono HB.out.size))
  clear hb
  have Sz := Lib.hid (G0)
  clear G0 hG
  have zo := Lib.hid (okLen_yes zm.1 (show zh.length + zc.length ≤ 512 by omega))
  have zp0 : 0 < zc.length := zm.1
  have zm2 : zc.length ≤ 5 := by omega
  clear zm
  have w4b : w.heap.size ≤ w4.heap.size := HB.out.size
  have Cx_w4 : w2.heap.size < w4.heap.size := Cx.out.lt
  have Cy_w4 : w3.heap.size < w4.heap.size := Cy.out.lt
  clear ZS BZ
  have Cx_0 := Cx.out.cell 0 rfl
  have Cx_1 := Cx.out.cell 1 rfl
  have Cx_l := Cx.out.lt
  have Cy_0 := Cy.out.cell 0 rfl
  have Cy_1 := Cy.out.cell 1 rfl
  have Cy_l := Cy.out.lt
  go_wp2_with fail
  clear Cx_0 Cx_1 Cx_l Cy_0 Cy_1 Cy_l
  show Calls Tryd.prog _ _ (al w4 [(Obj.cells #[.slice zp zh.length zk, .slice zq zc.length zj] 24)]) _
  obtain ⟨OS, hOS⟩ : ∃ OS, OS = [(Obj.cells #[.slice zp zh.length zk, .slice zq zc.length zj] 24)] := ⟨_, rfl⟩
  rw [← hOS]
  replace Sx := Lib.hid (Sx.out.al OS)
  replace Cx := Lib.hid (Cx.out.al OS)
  replace Sy := Lib.hid (Sy.out.al OS)
  replace Cy := Lib.hid (Cy.out.al OS)
  replace Sz := Lib.hid (Sz.out.al OS)
  replace HB := Lib.hid (HB.out.trans ((al_below OS w4).mono HB.out.size))
  have Cz0 : Blk (al w4 OS) (w4.heap.size) #[.slice zp zh.length zk, .slice zq zc.length zj] 24 := by rw [hOS]; exact al_blk w4 _ 0 rfl
  have Cz := Lib.hid Cz0
  clear Cz0
  clear hOS
  generalize al w4 OS = W4 at Sx Cx Sy Cy Sz Cz HB ⊢
  have HOp := and_any _ _ xh xc yh yc W4 Sx.out Sy.out (by omega) (by omega) (by omega) (by omega)
  rw [xo.out, yo.out] at HOp
  have hmul := And.intro (mul_bd (a := xc.length) (b := yc.length) (A := 5) (B := 5) (by omega) (by omega)) (mulOf_pos xc.length yc.length (by omega) (by omega))
  refine HOp.mono ?_
  rintro e w5 ⟨hr, hb⟩
  obtain ⟨uh, uc, up, uk, uq, uj, rfl, uC0, ul, um, G0⟩ := opres_ok hr (by omega) (and_per (h := xh) (c := xc) (h' := yh) (c' := yc) (by omega) (by omega)) (by omega)
  replace Sx := Lib.hid (Sx.out.grows hb)
  replace Cx := Lib.hid (Cx.out.grows hb)
  replace Sy := Lib.hid (Sy.out.grows hb)
  replace Cy := Lib.hid (Cy.out.grows hb)
  replace Sz := Lib.hid (Sz.out.grows hb)
  replace Cz := Lib.hid (Cz.out.grows hb)
  replace HB := Lib.hid (HB.out.trans (hb.mono HB.out.size))
  clear hb
  have Su := Lib.hid (G0)
  clear G0 hr HOp
  have uC := Lib.hid uC0
  have up0 : 0 < uc.length := uC0.pos
  clear uC0
  have ul2 : uh.length ≤ 6 := by omega
  have um2 : uc.length ≤ 25 := by omega
  clear ul um
  clear hmul
  have uo := Lib.hid (okLen_yes up0 (show uh.length + uc.length ≤ 512 by omega))
  have w5b : w.heap.size ≤ w5.heap.size := HB.out.size
  have Cx_w5 : w2.heap.size < w5.heap.size := Cx.out.lt
  have Cy_w5 : w3.heap.size < w5.heap.size := Cy.out.lt
  have Cz_w5 : w4.heap.size < w5.heap.size := Cz.out.lt
  have Cy_0 := Cy.out.cell 0 rfl
  have Cy_1 := Cy.out.cell 1 rfl
  have Cy_l := Cy.out.lt
  have Cz_0 := Cz.out.cell 0 rfl
  have Cz_1 := Cz.out.cell 1 rfl
  have Cz_l := Cz.out.lt
  go_wp2_with fail
  clear Cy_0 Cy_1 Cy_l Cz_0 Cz_1 Cz_l
  show Calls Tryd.prog _ _ (al w5 [(Obj.cells #[.slice up uh.length uk, .slice uq uc.length uj] 24)]) _
  obtain ⟨OS, hOS⟩ : ∃ OS, OS = [(Obj.cells #[.slice up uh.length uk, .slice uq uc.length uj] 24)] := ⟨_, rfl⟩
  rw [← hOS]
  replace Sx := Lib.hid (Sx.out.al OS)
  replace Cx := Lib.hid (Cx.out.al OS)
  replace Sy := Lib.hid (Sy.out.al OS)
  replace Cy := Lib.hid (Cy.out.al OS)
  replace Sz := Lib.hid (Sz.out.al OS)
  replace Cz := Lib.hid (Cz.out.al OS)
  replace Su := Lib.hid (Su.out.al OS)
  replace HB := Lib.hid (HB.out.trans ((al_below OS w5).mono HB.out.size))
  have Cu0 : Blk (al w5 OS) (w5.heap.size) #[.slice up uh.length uk, .slice uq uc.length uj] 24 := by rw [hOS]; exact al_blk w5 _ 0 rfl
  have Cu := Lib.hid Cu0
  clear Cu0
  clear hOS
  generalize al w5 OS = W5 at Sx Cx Sy Cy Sz Cz Su Cu HB ⊢
  have HOp := and_any _ _ yh yc zh zc W5 Sy.out Sz.out (by omega) (by omega) (by omega) (by omega)
  rw [yo.out, zo.out] at HOp
  have hmul := And.intro (mul_bd (a := yc.length) (b := zc.length) (A := 5) (B := 5) (by omega) (by omega)) (mulOf_pos yc.length zc.length (by omega) (by omega))
  refine HOp.mono ?_
  rintro e w6 ⟨hr, hb⟩
  obtain ⟨th, tc, tp, tk, tq, tj, rfl, tC0, tl, tm, G0⟩ := opres_ok hr (by omega) (and_per (h := yh) (c := yc) (h' := zh) (c' := zc) (by omega) (by omega)) (by omega)
  replace Sx := Lib.hid (Sx.out.grows hb)
  replace Cx := Lib.hid (Cx.out.grows hb)
  replace Sy := Lib.hid (Sy.out.grows hb)
  replace Cy := Lib.hid (Cy.out.grows hb)
  replace Sz := Lib.hid (Sz.out.grows hb)
  replace Cz := Lib.hid (Cz.out.grows hb)
  replace Su := Lib.hid (Su.out.grows hb)
  replace Cu := Lib.hid (Cu.out.grows hb)
  replace HB := Lib.hid (HB.out.trans (hb.mono HB.out.size))
  clear hb
  have St := Lib.hid (G0)
  clear G0 hr HOp
  have tC := Lib.hid tC0
  have tp0 : 0 < tc.length := tC0.pos
  clear tC0
  have tl2 : th.length ≤ 6 := by omega
  have tm2 : tc.length ≤ 25 := by omega
  clear tl tm
  clear hmul
  have to := Lib.hid (okLen_yes tp0 (show th.length + tc.length ≤ 512 by omega))
  have w6b : w.heap.size ≤ w6.heap.size := HB.out.size
  have Cx_w6 : w2.heap.size < w6.heap.size := Cx.out.lt
  have Cy_w6 : w3.heap.size < w6.heap.size := Cy.out.lt
  have Cz_w6 : w4.heap.size < w6.heap.size := Cz.out.lt
  have Cu_w6 : w5.heap.size < w6.heap.size := Cu.out.lt
  have Cu_0 := Cu.out.cell 0 rfl
  have Cu_1 := Cu.out.cell 1 rfl
  have Cu_l := Cu.out.lt
  have Cz_0 := Cz.out.cell 0 rfl
  have Cz_1 := Cz.out.cell 1 rfl
  have Cz_l := Cz.out.lt
  go_wp2_with fail
  clear Cu_0 Cu_1 Cu_l Cz_0 Cz_1 Cz_l
  show Calls Tryd.prog _ _ (al w6 [(Obj.cells #[.slice tp th.length tk, .slice tq tc.length tj] 24)]) _
  obtain ⟨OS, hOS⟩ : ∃ OS, OS = [(Obj.cells #[.slice tp th.length tk, .slice tq tc.length tj] 24)] := ⟨_, rfl⟩
  rw [← hOS]
  replace Sx := Lib.hid (Sx.out.al OS)
  replace Cx := Lib.hid (Cx.out.al OS)
  replace Sy := Lib.hid (Sy.out.al OS)
  replace Cy := Lib.hid (Cy.out.al OS)
  replace Sz := Lib.hid (Sz.out.al OS)
  replace Cz := Lib.hid (Cz.out.al OS)
  replace Su := Lib.hid (Su.out.al OS)
  replace Cu := Lib.hid (Cu.out.al OS)
  replace St := Lib.hid (St.out.al OS)
  replace HB := Lib.hid (HB.out.trans ((al_below OS w6).mono HB.out.size))
  have Ct0 : Blk (al w6 OS) (w6.heap.size) #[.slice tp th.length tk, .slice tq tc.length tj] 24 := by rw [hOS]; exact al_blk w6 _ 0 rfl
  have Ct := Lib.hid Ct0
  clear Ct0
  clear hOS
  generalize al w6 OS = W6 at Sx Cx Sy Cy Sz Cz Su Cu St Ct HB ⊢
  have HOp := and_any _ _ uh uc zh zc W6 Su.out Sz.out (by omega) (by omega) (by omega) (by omega)
  rw [uo.out, zo.out] at HOp
  have hmul := And.intro (mul_bd (a := uc.length) (b := zc.length) (A := 25) (B := 5) (by omega) (by omega)) (mulOf_pos uc.length zc.length (by omega) (by omega))
  refine HOp.mono ?_
  rintro e w7 ⟨hr, hb⟩
  obtain ⟨ph, pc, pp, pk, pq, pj, rfl, pC0, pl, pm, G0⟩ := opres_ok hr (by omega) (and_per (h := uh) (c := uc) (h' := zh) (c' := zc) (by omega) (by omega)) (by omega)
  replace Sx := Lib.hid (Sx.out.grows hb)
  replace Cx := Lib.hid (Cx.out.grows hb)
  replace Sy := Lib.hid (Sy.out.grows hb)
  replace Cy := Lib.hid (Cy.out.grows hb)
  replace Sz := Lib.hid (Sz.out.grows hb)
  replace Cz := Lib.hid (Cz.out.grows hb)
  replace Su := Lib.hid (Su.out.grows hb)
  replace Cu := Lib.hid (Cu.out.grows hb)
  replace St := Lib.hid (St.out.grows hb)
  replace Ct := Lib.hid (Ct.out.grows hb)
  replace HB := Lib.hid (HB.out.trans (hb.mono HB.out.size))
  clear hb
  have Sp := Lib.hid (G0)
  clear G0 hr HOp
  have pC := Lib.hid pC0
  have pp0 : 0 < pc.length := pC0.pos
  clear pC0
  have pl2 : ph.length ≤ 6 := by omega
  have pm2 : pc.length ≤ 125 := by omega
  clear pl pm
  clear hmul
  have po := Lib.hid (okLen_yes pp0 (show ph.length + pc.length ≤ 512 by omega))
  have w7b : w.heap.size ≤ w7.heap.size := HB.out.size
  have Cx_w7 : w2.heap.size < w7.heap.size := Cx.out.lt
  have Cy_w7 : w3.heap.size < w7.heap.size := Cy.out.lt
  have Cz_w7 : w4.heap.size < w7.heap.size := Cz.out.lt
  have Cu_w7 : w5.heap.size < w7.heap.size := Cu.out.lt
  have Ct_w7 : w6.heap.size < w7.heap.size := Ct.out.lt
  have Cx_0 := Cx.out.cell 0 rfl
  have Cx_1 := Cx.out.cell 1 rfl
  have Cx_l := Cx.out.lt
  have Ct_0 := Ct.out.cell 0 rfl
  have Ct_1 := Ct.out.cell 1 rfl
  have Ct_l := Ct.out.lt
  go_wp2_with fail
  clear Cx_0 Cx_1 Cx_l Ct_0 Ct_1 Ct_l
  show Calls Tryd.prog _ _ (al w7 [(Obj.cells #[.slice pp ph.length pk, .slice pq pc.length pj] 24)]) _
  obtain ⟨OS, hOS⟩ : ∃ OS, OS = [(Obj.cells #[.slice pp ph.length pk, .slice pq pc.length pj] 24)] := ⟨_, rfl⟩
  rw [← hOS]
  replace Sx := Lib.hid (Sx.out.al OS)
  replace Cx := Lib.hid (Cx.out.al OS)
  replace Sy := Lib.hid (Sy.out.al OS)
  replace Cy := Lib.hid (Cy.out.al OS)
  replace Sz := Lib.hid (Sz.out.al OS)
  replace Cz := Lib.hid (Cz.out.al OS)
  replace Su := Lib.hid (Su.out.al OS)
  replace Cu := Lib.hid (Cu.out.al OS)
  replace St := Lib.hid (St.out.al OS)
  replace Ct := Lib.hid (Ct.out.al OS)
  replace Sp := Lib.hid (Sp.out.al OS)
  replace HB := Lib.hid (HB.out.trans ((al_below OS w7).mono HB.out.size))
  have Cp0 : Blk (al w7 OS) (w7.heap.size) #[.slice pp ph.length pk, .slice pq pc.length pj] 24 := by rw [hOS]; exact al_blk w7 _ 0 rfl
  have Cp := Lib.hid Cp0
  clear Cp0
  clear hOS
  generalize al w7 OS = W7 at Sx Cx Sy Cy Sz Cz Su Cu St Ct Sp Cp HB ⊢
  have HOp := and_any _ _ xh xc th tc W7 Sx.out St.out (by omega) (by omega) (by omega) (by omega)
  rw [xo.out, to.out] at HOp
  have hmul := And.intro (mul_bd (a := xc.length) (b := tc.length) (A := 5) (B := 25) (by omega) (by omega)) (mulOf_pos xc.length tc.length (by omega) (by omega))
  refine HOp.mono ?_
  rintro e w8 ⟨hr, hb⟩
  obtain ⟨qh, qc, qp, qk, qq, qj, rfl, qC0, ql, qm, G0⟩ := opres_ok hr (by omega) (and_per (h := xh) (c := xc) (h' := th) (c' := tc) (by omega) (by omega)) (by omega)
  replace Sx := Lib.hid (Sx.out.grows hb)
  replace Cx := Lib.hid (Cx.out.grows hb)
  replace Sy := Lib.hid (Sy.out.grows hb)
  replace Cy := Lib.hid (Cy.out.grows hb)
  replace Sz := Lib.hid (Sz.out.grows hb)
  replace Cz := Lib.hid (Cz.out.grows hb)
  replace Su := Lib.hid (Su.out.grows hb)
  replace Cu := Lib.hid (Cu.out.grows hb)
  replace St := Lib.hid (St.out.grows hb)
  replace Ct := Lib.hid (Ct.out.grows hb)
  replace Sp := Lib.hid (Sp.out.grows hb)
  replace Cp := Lib.hid (Cp.out.grows hb)
  replace HB := Lib.hid (HB.out.trans (hb.mono HB.out.size))
  clear hb
  have Sq := Lib.hid (G0)
  clear G0 hr HOp
  have qC := Lib.hid qC0
  have qp0 : 0 < qc.length := qC0.pos
  clear qC0
  have ql2 : qh.length ≤ 6 := by omega
  have qm2 : qc.length ≤ 125 := by omega
  clear ql qm
  clear hmul
  have qo := Lib.hid (okLen_yes qp0 (show qh.length + qc.length ≤ 512 by omega))
  have w8b : w.heap.size ≤ w8.heap.size := HB.out.size
  have Cx_w8 : w2.heap.size < w8.heap.size := Cx.out.lt
  have Cy_w8 : w3.heap.size < w8.heap.size := Cy.out.lt
  have Cz_w8 : w4.heap.size < w8.heap.size := Cz.out.lt
  have Cu_w8 : w5.heap.size < w8.heap.size := Cu.out.lt
  have Ct_w8 : w6.heap.size < w8.heap.size := Ct.out.lt
  have Cp_w8 : w7.heap.size < w8.heap.size := Cp.out.lt
  have Cp_0 := Cp.out.cell 0 rfl
  have Cp_1 := Cp.out.cell 1 rfl
  have Cp_l := Cp.out.lt
  go_wp2_with fail
  clear Cp_0 Cp_1 Cp_l
  show Calls Tryd.prog _ _ (al w8 [(Obj.cells #[.slice qp qh.length qk, .slice qq qc.length qj] 24)]) _
  obtain ⟨OS, hOS⟩ : ∃ OS, OS = [(Obj.cells #[.slice qp qh.length qk, .slice qq qc.length qj] 24)] := ⟨_, rfl⟩
  rw [← hOS]
  replace Sx := Lib.hid (Sx.out.al OS)
  replace Cx := Lib.hid (Cx.out.al OS)
  replace Sy := Lib.hid (Sy.out.al OS)
  replace Cy := Lib.hid (Cy.out.al OS)
  replace Sz := Lib.hid (Sz.out.al OS)
  replace Cz := Lib.hid (Cz.out.al OS)
  replace Su := Lib.hid (Su.out.al OS)
  replace Cu := Lib.hid (Cu.out.al OS)
  replace St := Lib.hid (St.out.al OS)
  replace Ct := Lib.hid (Ct.out.al OS)
  replace Sp := Lib.hid (Sp.out.al OS)
  replace Cp := Lib.hid (Cp.out.al OS)
  replace Sq := Lib.hid (Sq.out.al OS)
  replace HB := Lib.hid (HB.out.trans ((al_below OS w8).mono HB.out.size))
  have Cq0 : Blk (al w8 OS) (w8.heap.size) #[.slice qp qh.length qk, .slice qq qc.length qj] 24 := by rw [hOS]; exact al_blk w8 _ 0 rfl
  have Cq := Lib.hid Cq0
  clear Cq0
  clear hOS
  generalize al w8 OS = W8 at Sx Cx Sy Cy Sz Cz Su Cu St Ct Sp Cp Sq Cq HB ⊢
  obtain ⟨e1, e2⟩ := pC.out.unique qC.out (fun n => by simp only [uC.out.val, tC.out.val, Bool.and_assoc])
  have HSm := same_is _ _ ph pc qh qc true W8 Sp.out Sq.out ((sameS_iff _ _ _ _).2 ⟨e1, e2⟩) (by omega) (by omega) (by omega) (by omega)
  clear e1 e2
  refine HSm.mono ?_
  rintro e w9 ⟨rfl, hb⟩
  replace Sx := Lib.hid (Sx.out.grows hb)
  replace Cx := Lib.hid (Cx.out.grows hb)
  replace Sy := Lib.hid (Sy.out.grows hb)
  replace Cy := Lib.hid (Cy.out.grows hb)
  replace Sz := Lib.hid (Sz.out.grows hb)
  replace Cz := Lib.hid (Cz.out.grows hb)
  replace Su := Lib.hid (Su.out.grows hb)
  replace Cu := Lib.hid (Cu.out.grows hb)
  replace St := Lib.hid (St.out.grows hb)
  replace Ct := Lib.hid (Ct.out.grows hb)
  replace Sp := Lib.hid (Sp.out.grows hb)
  replace Cp := Lib.hid (Cp.out.grows hb)
  replace Sq := Lib.hid (Sq.out.grows hb)
  replace Cq := Lib.hid (Cq.out.grows hb)
  replace HB := Lib.hid (HB.out.trans (hb.mono HB.out.size))
  clear hb
  clear HSm
  have Cx_0 := Cx.out.cell 0 rfl
  have Cx_1 := Cx.out.cell 1 rfl
  have Cx_l := Cx.out.lt
  have Cy_0 := Cy.out.cell 0 rfl
  have Cy_1 := Cy.out.cell 1 rfl
  have Cy_l := Cy.out.lt
  go_wp2_with fail
  clear Cx_0 Cx_1 Cx_l Cy_0 Cy_1 Cy_l
  clear Su St Sp Sq
  have HOp := or_any _ _ xh xc yh yc w9 Sx.out Sy.out (by omega) (by omega) (by omega) (by omega)
  rw [xo.out, yo.out] at HOp
  have hmul := And.intro (mul_bd (a := xc.length) (b := yc.length) (A := 5) (B := 5) (by omega) (by omega)) (mulOf_pos xc.length yc.length (by omega) (by omega))
  refine HOp.mono ?_
  rintro e w10 ⟨hr, hb⟩
  obtain ⟨u1h, u1c, u1p, u1k, u1q, u1j, rfl, u1C0, u1l, u1m, G0⟩ := opres_ok hr (by omega) (or_per (h := xh) (c := xc) (h' := yh) (c' := yc) (by omega) (by omega)) (by omega)
  replace Sx := Lib.hid (Sx.out.grows hb)
  replace Cx := Lib.hid (Cx.out.grows hb)
  replace Sy := Lib.hid (Sy.out.grows hb)
  replace Cy := Lib.hid (Cy.out.grows hb)
  replace Sz := Lib.hid (Sz.out.grows hb)
  replace Cz := Lib.hid (Cz.out.grows hb)
  replace Cu := Lib.hid (Cu.out.grows hb)
  replace Ct := Lib.hid (Ct.out.grows hb)
  replace Cp := Lib.hid (Cp.out.grows hb)
  replace Cq := Lib.hid (Cq.out.grows hb)
  replace HB := Lib.hid (HB.out.trans (hb.mono HB.out.size))
  clear hb
  have Su1 := Lib.hid (G0)
  clear G0 hr HOp
  have u1C := Lib.hid u1C0
  have u1p0 : 0 < u1c.length := u1C0.pos
  clear u1C0
  have u1l2 : u1h.length ≤ 6 := by omega
  have u1m2 : u1c.length ≤ 25 := by omega
  clear u1l u1m
  clear hmul
  have u1o := Lib.hid (okLen_yes u1p0 (show u1h.length + u1c.length ≤ 512 by omega))
  have fz0 := Cu.out.free 0
  have fz1 := Cu.out.free 1
  have oc0 := Cu.out.cell 0 rfl
  have oc1 := Cu.out.cell 1 rfl
  replace Sx := Lib.hid (Sx.out.box Cu.out (notbool _ _ _) (notbool _ _ _) (.slice u1p u1h.length u1k) (.slice u1q u1c.length u1j))
  replace Cx := Lib.hid ((Cx.out.other (a := ⟨w5.heap.size, 0, none⟩) (by show _ ≠ w5.heap.size; omega) (.slice u1p u1h.length u1k)).other (a := ⟨w5.heap.size, 1, none⟩) (by show _ ≠ w5.heap.size; omega) (.slice u1q u1c.length u1j))
  replace Sy := Lib.hid (Sy.out.box Cu.out (notbool _ _ _) (notbool _ _ _) (.slice u1p u1h.length u1k) (.slice u1q u1c.length u1j))
  replace Cy := Lib.hid ((Cy.out.other (a := ⟨w5.heap.size, 0, none⟩) (by show _ ≠ w5.heap.size; omega) (.slice u1p u1h.length u1k)).other (a := ⟨w5.heap.size, 1, none⟩) (by show _ ≠ w5.heap.size; omega) (.slice u1q u1c.length u1j))
  replace Sz := Lib.hid (Sz.out.box Cu.out (notbool _ _ _) (notbool _ _ _) (.slice u1p u1h.length u1k) (.slice u1q u1c.length u1j))
  replace Cz := Lib.hid ((Cz.out.other (a := ⟨w5.heap.size, 0, none⟩) (by show _ ≠ w5.heap.size; omega) (.slice u1p u1h.length u1k)).other (a := ⟨w5.heap.size, 1, none⟩) (by show _ ≠ w5.heap.size; omega) (.slice u1q u1c.length u1j))
  replace Ct := Lib.hid ((Ct.out.other (a := ⟨w5.heap.size, 0, none⟩) (by show _ ≠ w5.heap.size; omega) (.slice u1p u1h.length u1k)).other (a := ⟨w5.heap.size, 1, none⟩) (by show _ ≠ w5.heap.size; omega) (.slice u1q u1c.length u1j))
  replace Cp := Lib.hid ((Cp.out.other (a := ⟨w5.heap.size, 0, none⟩) (by show _ ≠ w5.heap.size; omega) (.slice u1p u1h.length u1k)).other (a := ⟨w5.heap.size, 1, none⟩) (by show _ ≠ w5.heap.size; omega) (.slice u1q u1c.length u1j))
  replace Cq := Lib.hid ((Cq.out.other (a := ⟨w5.heap.size, 0, none⟩) (by show _ ≠ w5.heap.size; omega) (.slice u1p u1h.length u1k)).other (a := ⟨w5.heap.size, 1, none⟩) (by show _ ≠ w5.heap.size; omega) (.slice u1q u1c.length u1j))
  replace Su1 := Lib.hid (Su1.out.box Cu.out (notbool _ _ _) (notbool _ _ _) (.slice u1p u1h.length u1k) (.slice u1q u1c.length u1j))
  replace HB := Lib.hid ((HB.out.setCell (p := ⟨w5.heap.size, 0, none⟩) (by show w.heap.size ≤ w5.heap.size; omega) (.slice u1p u1h.length u1k)).setCell (p := ⟨w5.heap.size, 1, none⟩) (by show w.heap.size ≤ w5.heap.size; omega) (.slice u1q u1c.length u1j))
  replace Cu : Hid (Blk _ w5.heap.size #[.slice u1p u1h.length u1k, .slice u1q u1c.length u1j] 24) := Lib.hid ((Cu.out.set 0 (.slice u1p u1h.length u1k)).set 1 (.slice u1q u1c.length u1j))
  have Cy_0 := Cy.out.cell 0 rfl
  have Cy_1 := Cy.out.cell 1 rfl
  have Cz_0 := Cz.out.cell 0 rfl
  have Cz_1 := Cz.out.cell 1 rfl
  go_wp2_with fail
  clear fz0 fz1 oc0 oc1 Cy_0 Cy_1 Cz_0 Cz_1
  generalize (w10.setCell ⟨w5.heap.size, 0, none⟩ (.slice u1p u1h.length u1k)).setCell ⟨w5.heap.size, 1, none⟩ (.slice u1q u1c.length u1j) = W10 at Sx Cx Sy Cy Sz Cz Cu Ct Cp Cq Su1 HB ⊢
  have HOp := or_any _ _ yh yc zh zc W10 Sy.out Sz.out (by omega) (by omega) (by omega) (by omega)
  rw [yo.out, zo.out] at HOp
  have hmul := And.intro (mul_bd (a := yc.length) (b := zc.length) (A := 5) (B := 5) (by omega) (by omega)) (mulOf_pos yc.length zc.length (by omega) (by omega))
  refine HOp.mono ?_
  rintro e w11 ⟨hr, hb⟩
  obtain ⟨t1h, t1c, t1p, t1k, t1q, t1j, rfl, t1C0, t1l, t1m, G0⟩ := opres_ok hr (by omega) (or_per (h := yh) (c := yc) (h' := zh) (c' := zc) (by omega) (by omega)) (by omega)
  replace Sx := Lib.hid (Sx.out.grows hb)
  replace Cx := Lib.hid (Cx.out.grows hb)
  replace Sy := Lib.hid (Sy.out.grows hb)
  replace Cy := Lib.hid (Cy.out.grows hb)
  replace Sz := Lib.hid (Sz.out.grows hb)
  replace Cz := Lib.hid (Cz.out.grows hb)
  replace Cu := Lib.hid (Cu.out.grows hb)
  replace Ct := Lib.hid (Ct.out.grows hb)
  replace Cp := Lib.hid (Cp.out.grows hb)
  replace Cq := Lib.hid (Cq.out.grows hb)
  replace Su1 := Lib.hid (Su1.out.grows hb)
  replace HB := Lib.hid (HB.out.trans (hb.mono HB.out.size))
  clear hb
  have St1 := Lib.hid (G0)
  clear G0 hr HOp
  have t1C := Lib.hid t1C0
  have t1p0 : 0 < t1c.length := t1C0.pos
  clear t1C0
  have t1l2 : t1h.length ≤ 6 := by omega
  have t1m2 : t1c.length ≤ 25 := by omega
  clear t1l t1m
  clear hmul
  have t1o := Lib.hid (okLen_yes t1p0 (show t1h.length + t1c.length ≤ 512 by omega))
  have fz0 := Ct.out.free 0
  have fz1 := Ct.out.free 1
  have oc0 := Ct.out.cell 0 rfl
  have oc1 := Ct.out.cell 1 rfl
  replace Sx := Lib.hid (Sx.out.box Ct.out (notbool _ _ _) (notbool _ _ _) (.slice t1p t1h.length t1k) (.slice t1q t1c.length t1j))
  replace Cx := Lib.hid ((Cx.out.other (a := ⟨w6.heap.size, 0, none⟩) (by show _ ≠ w6.heap.size; omega) (.slice t1p t1h.length t1k)).other (a := ⟨w6.heap.size, 1, none⟩) (by show _ ≠ w6.heap.size; omega) (.slice t1q t1c.length t1j))
  replace Sy := Lib.hid (Sy.out.box Ct.out (notbool _ _ _) (notbool _ _ _) (.slice t1p t1h.length t1k) (.slice t1q t1c.length t1j))
  replace Cy := Lib.hid ((Cy.out.other (a := ⟨w6.heap.size, 0, none⟩) (by show _ ≠ w6.heap.size; omega) (.slice t1p t1h.length t1k)).other (a := ⟨w6.heap.size, 1, none⟩) (by show _ ≠ w6.heap.size; omega) (.slice t1q t1c.length t1j))
  replace Sz := Lib.hid (Sz.out.box Ct.out (notbool _ _ _) (notbool _ _ _) (.slice t1p t1h.length t1k) (.slice t1q t1c.length t1j))
  replace Cz := Lib.hid ((Cz.out.other (a := ⟨w6.heap.size, 0, none⟩) (by show _ ≠ w6.heap.size; omega) (.slice t1p t1h.length t1k)).other (a := ⟨w6.heap.size, 1, none⟩) (by show _ ≠ w6.heap.size; omega) (.slice t1q t1c.length t1j))
  replace Cu := Lib.hid ((Cu.out.other (a := ⟨w6.heap.size, 0, none⟩) (by show _ ≠ w6.heap.size; omega) (.slice t1p t1h.length t1k)).other (a := ⟨w6.heap.size, 1, none⟩) (by show _ ≠ w6.heap.size; omega) (.slice t1q t1c.length t1j))
  replace Cp := Lib.hid ((Cp.out.other (a := ⟨w6.heap.size, 0, none⟩) (by show _ ≠ w6.heap.size; omega) (.slice t1p t1h.length t1k)).other (a := ⟨w6.heap.size, 1, none⟩) (by show _ ≠ w6.heap.size; omega) (.slice t1q t1c.length t1j))
  replace Cq := Lib.hid ((Cq.out.other (a := ⟨w6.heap.size, 0, none⟩) (by show _ ≠ w6.heap.size; omega) (.slice t1p t1h.length t1k)).other (a := ⟨w6.heap.size, 1, none⟩) (by show _ ≠ w6.heap.size; omega) (.slice t1q t1c.length t1j))
  replace Su1 := Lib.hid (Su1.out.box Ct.out (notbool _ _ _) (notbool _ _ _) (.slice t1p t1h.length t1k) (.slice t1q t1c.length t1j))
  replace St1 := Lib.hid (St1.out.box Ct.out (notbool _ _ _) (notbool _ _ _) (.slice t1p t1h.length t1k) (.slice t1q t1c.length t1j))
  replace HB := Lib.hid ((HB.out.setCell (p := ⟨w6.heap.size, 0, none⟩) (by show w.heap.size ≤ w6.heap.size; omega) (.slice t1p t1h.length t1k)).setCell (p := ⟨w6.heap.size, 1, none⟩) (by show w.heap.size ≤ w6.heap.size; omega) (.slice t1q t1c.length t1j))
  replace Ct : Hid (Blk _ w6.heap.size #[.slice t1p t1h.length t1k, .slice t1q t1c.length t1j] 24) := Lib.hid ((Ct.out.set 0 (.slice t1p t1h.length t1k)).set 1 (.slice t1q t1c.length t1j))
  have Cu_0 := Cu.out.cell 0 rfl
  have Cu_1 := Cu.out.cell 1 rfl
  have Cz_0 := Cz.out.cell 0 rfl
  have Cz_1 := Cz.out.cell 1 rfl
  go_wp2_with fail
  clear fz0 fz1 oc0 oc1 Cu_0 Cu_1 Cz_0 Cz_1
  generalize (w11.setCell ⟨w6.heap.size, 0, none⟩ (.slice t1p t1h.length t1k)).setCell ⟨w6.heap.size, 1, none⟩ (.slice t1q t1c.length t1j) = W11 at Sx Cx Sy Cy Sz Cz Cu Ct Cp Cq Su1 St1 HB ⊢
  have HOp := or_any _ _ u1h u1c zh zc W11 Su1.out Sz.out (by omega) (by omega) (by omega) (by omega)
  rw [u1o.out, zo.out] at HOp
  have hmul := And.intro (mul_bd (a := u1c.length) (b := zc.length) (A := 25) (B := 5) (by omega) (by omega)) (mulOf_pos u1c.length zc.length (by omega) (by omega))
  refine HOp.mono ?_
  rintro e w12 ⟨hr, hb⟩
  obtain ⟨p1h, p1c, p1p, p1k, p1q, p1j, rfl, p1C0, p1l, p1m, G0⟩ := opres_ok hr (by omega) (or_per (h := u1h) (c := u1c) (h' := zh) (c' := zc) (by omega) (by omega)) (by omega)
  replace Sx := Lib.hid (Sx.out.grows hb)
  replace Cx := Lib.hid (Cx.out.grows hb)
  replace Sy := Lib.hid (Sy.out.grows hb)
  replace Cy := Lib.hid (Cy.out.grows hb)
  replace Sz := Lib.hid (Sz.out.grows hb)
  replace Cz := Lib.hid (Cz.out.grows hb)
  replace Cu := Lib.hid (Cu.out.grows hb)
  replace Ct := Lib.hid (Ct.out.grows hb)
  replace Cp := Lib.hid (Cp.out.grows hb)
  replace Cq := Lib.hid (Cq.out.grows hb)
  replace Su1 := Lib.hid (Su1.out.grows hb)
  replace St1 := Lib.hid (St1.out.grows hb)
  replace HB := Lib.hid (HB.out.trans (hb.mono HB.out.size))
  clear hb
  have Sp1 := Lib.hid (G0)
  clear G0 hr HOp
  have p1C := Lib.hid p1C0
  have p1p0 : 0 < p1c.length := p1C0.pos
  clear p1C0
  have p1l2 : p1h.length ≤ 6 := by omega
  have p1m2 : p1c.length ≤ 125 := by omega
  clear p1l p1m
  clear hmul
  have p1o := Lib.hid (okLen_yes p1p0 (show p1h.length + p1c.length ≤ 512 by omega))
  have fz0 := Cp.out.free 0
  have fz1 := Cp.out.free 1
  have oc0 := Cp.out.cell 0 rfl
  have oc1 := Cp.out.cell 1 rfl
  replace Sx := Lib.hid (Sx.out.box Cp.out (notbool _ _ _) (notbool _ _ _) (.slice p1p p1h.length p1k) (.slice p1q p1c.length p1j))
  replace Cx := Lib.hid ((Cx.out.other (a := ⟨w7.heap.size, 0, none⟩) (by show _ ≠ w7.heap.size; omega) (.slice p1p p1h.length p1k)).other (a := ⟨w7.heap.size, 1, none⟩) (by show _ ≠ w7.heap.size; omega) (.slice p1q p1c.length p1j))
  replace Sy := Lib.hid (Sy.out.box Cp.out (notbool _ _ _) (notbool _ _ _) (.slice p1p p1h.length p1k) (.slice p1q p1c.length p1j))
  replace Cy := Lib.hid ((Cy.out.other (a := ⟨w7.heap.size, 0, none⟩) (by show _ ≠ w7.heap.size; omega) (.slice p1p p1h.length p1k)).other (a := ⟨w7.heap.size, 1, none⟩) (by show _ ≠ w7.heap.size; omega) (.slice p1q p1c.length p1j))
  replace Sz := Lib.hid (Sz.out.box Cp.out (notbool _ _ _) (notbool _ _ _) (.slice p1p p1h.length p1k) (.slice p1q p1c.length p1j))
  replace Cz := Lib.hid ((Cz.out.other (a := ⟨w7.heap.size, 0, none⟩) (by show _ ≠ w7.heap.size; omega) (.slice p1p p1h.length p1k)).other (a := ⟨w7.heap.size, 1, none⟩) (by show _ ≠ w7.heap.size; omega) (.slice p1q p1c.length p1j))
  replace Cu := Lib.hid ((Cu.out.other (a := ⟨w7.heap.size, 0, none⟩) (by show _ ≠ w7.heap.size; omega) (.slice p1p p1h.length p1k)).other (a := ⟨w7.heap.size, 1, none⟩) (by show _ ≠ w7.heap.size; omega) (.slice p1q p1c.length p1j))
  replace Ct := Lib.hid ((Ct.out.other (a := ⟨w7.heap.size, 0, none⟩) (by show _ ≠ w7.heap.size; omega) (.slice p1p p1h.length p1k)).other (a := ⟨w7.heap.size, 1, none⟩) (by show _ ≠ w7.heap.size; omega) (.slice p1q p1c.length p1j))
  replace Cq := Lib.hid ((Cq.out.other (a := ⟨w7.heap.size, 0, none⟩) (by show _ ≠ w7.heap.size; omega) (.slice p1p p1h.length p1k)).other (a := ⟨w7.heap.size, 1, none⟩) (by show _ ≠ w7.heap.size; omega) (.slice p1q p1c.length p1j))
  replace Su1 := Lib.hid (Su1.out.box Cp.out (notbool _ _ _) (notbool _ _ _) (.slice p1p p1h.length p1k) (.slice p1q p1c.length p1j))
  replace St1 := Lib.hid (St1.out.box Cp.out (notbool _ _ _) (notbool _ _ _) (.slice p1p p1h.length p1k) (.slice p1q p1c.length p1j))
  replace Sp1 := Lib.hid (Sp1.out.box Cp.out (notbool _ _ _) (notbool _ _ _) (.slice p1p p1h.length p1k) (.slice p1q p1c.length p1j))
  replace HB := Lib.hid ((HB.out.setCell (p := ⟨w7.heap.size, 0, none⟩) (by show w.heap.size ≤ w7.heap.size; omega) (.slice p1p p1h.length p1k)).setCell (p := ⟨w7.heap.size, 1, none⟩) (by show w.heap.size ≤ w7.heap.size; omega) (.slice p1q p1c.length p1j))
  replace Cp : Hid (Blk _ w7.heap.size #[.slice p1p p1h.length p1k, .slice p1q p1c.length p1j] 24) := Lib.hid ((Cp.out.set 0 (.slice p1p p1h.length p1k)).set 1 (.slice p1q p1c.length p1j))
  have Cx_0 := Cx.out.cell 0 rfl
  have Cx_1 := Cx.out.cell 1 rfl
  have Ct_0 := Ct.out.cell 0 rfl
  have Ct_1 := Ct.out.cell 1 rfl
  go_wp2_with fail
  clear fz0 fz1 oc0 oc1 Cx_0 Cx_1 Ct_0 Ct_1
  generalize (w12.setCell ⟨w7.heap.size, 0, none⟩ (.slice p1p p1h.length p1k)).setCell ⟨w7.heap.size, 1, none⟩ (.slice p1q p1c.length p1j) = W12 at Sx Cx Sy Cy Sz Cz Cu Ct Cp Cq Su1 St1 Sp1 HB ⊢
  have HOp := or_any _ _ xh xc t1h t1c W12 Sx.out St1.out (by omega) (by omega) (by omega) (by omega)
  rw [xo.out, t1o.out] at HOp
  have hmul := And.intro (mul_bd (a := xc.length) (b := t1c.length) (A := 5) (B := 25) (by omega) (by omega)) (mulOf_pos xc.length t1c.length (by omega) (by omega))
  refine HOp.mono ?_
  rintro e w13 ⟨hr, hb⟩
  obtain ⟨q1h, q1c, q1p, q1k, q1q, q1j, rfl, q1C0, q1l, q1m, G0⟩ := opres_ok hr (by omega) (or_per (h := xh) (c := xc) (h' := t1h) (c' := t1c) (by omega) (by omega)) (by omega)
  replace Sx := Lib.hid (Sx.out.grows hb)
  replace Cx := Lib.hid (Cx.out.grows hb)
  replace Sy := Lib.hid (Sy.out.grows hb)
  replace Cy := Lib.hid (Cy.out.grows hb)
  replace Sz := Lib.hid (Sz.out.grows hb)
  replace Cz := Lib.hid (Cz.out.grows hb)
  replace Cu := Lib.hid (Cu.out.grows hb)
  replace Ct := Lib.hid (Ct.out.grows hb)
  replace Cp := Lib.hid (Cp.out.grows hb)
  replace Cq := Lib.hid (Cq.out.grows hb)
  replace Su1 := Lib.hid (Su1.out.grows hb)
  replace St1 := Lib.hid (St1.out.grows hb)
  replace Sp1 := Lib.hid (Sp1.out.grows hb)
  replace HB := Lib.hid (HB.out.trans (hb.mono HB.out.size))
  clear hb
  have Sq1 := Lib.hid (G0)
  clear G0 hr HOp
  have q1C := Lib.hid q1C0
  have q1p0 : 0 < q1c.length := q1C0.pos
  clear q1C0
  have q1l2 : q1h.length ≤ 6 := by omega
  have q1m2 : q1c.length ≤ 125 := by omega
  clear q1l q1m
  clear hmul
  have q1o := Lib.hid (okLen_yes q1p0 (show q1h.length + q1c.length ≤ 512 by omega))
  have fz0 := Cq.out.free 0
  have fz1 := Cq.out.free 1
  have oc0 := Cq.out.cell 0 rfl
  have oc1 := Cq.out.cell 1 rfl
  replace Sx := Lib.hid (Sx.out.box Cq.out (notbool _ _ _) (notbool _ _ _) (.slice q1p q1h.length q1k) (.slice q1q q1c.length q1j))
  replace Cx := Lib.hid ((Cx.out.other (a := ⟨w8.heap.size, 0, none⟩) (by show _ ≠ w8.heap.size; omega) (.slice q1p q1h.length q1k)).other (a := ⟨w8.heap.size, 1, none⟩) (by show _ ≠ w8.heap.size; omega) (.slice q1q q1c.length q1j))
  replace Sy := Lib.hid (Sy.out.box Cq.out (notbool _ _ _) (notbool _ _ _) (.slice q1p q1h.length q1k) (.slice q1q q1c.length q1j))
  replace Cy := Lib.hid ((Cy.out.other (a := ⟨w8.heap.size, 0, none⟩) (by show _ ≠ w8.heap.size; omega) (.slice q1p q1h.length q1k)).other (a := ⟨w8.heap.size, 1, none⟩) (by show _ ≠ w8.heap.size; omega) (.slice q1q q1c.length q1j))
  replace Sz := Lib.hid (Sz.out.box Cq.out (notbool _ _ _) (notbool _ _ _) (.slice q1p q1h.length q1k) (.slice q1q q1c.length q1j))
  replace Cz := Lib.hid ((Cz.out.other (a := ⟨w8.heap.size, 0, none⟩) (by show _ ≠ w8.heap.size; omega) (.slice q1p q1h.length q1k)).other (a := ⟨w8.heap.size, 1, none⟩) (by show _ ≠ w8.heap.size; omega) (.slice q1q q1c.length q1j))
  replace Cu := Lib.hid ((Cu.out.other (a := ⟨w8.heap.size, 0, none⟩) (by show _ ≠ w8.heap.size; omega) (.slice q1p q1h.length q1k)).other (a := ⟨w8.heap.size, 1, none⟩) (by show _ ≠ w8.heap.size; omega) (.slice q1q q1c.length q1j))
  replace Ct := Lib.hid ((Ct.out.other (a := ⟨w8.heap.size, 0, none⟩) (by show _ ≠ w8.heap.size; omega) (.slice q1p q1h.length q1k)).other (a := ⟨w8.heap.size, 1, none⟩) (by show _ ≠ w8.heap.size; omega) (.slice q1q q1c.length q1j))
  replace Cp := Lib.hid ((Cp.out.other (a := ⟨w8.heap.size, 0, none⟩) (by show _ ≠ w8.heap.size; omega) (.slice q1p q1h.length q1k)).other (a := ⟨w8.heap.size, 1, none⟩) (by show _ ≠ w8.heap.size; omega) (.slice q1q q1c.length q1j))
  replace Su1 := Lib.hid (Su1.out.box Cq.out (notbool _ _ _) (notbool _ _ _) (.slice q1p q1h.length q1k) (.slice q1q q1c.length q1j))
  replace St1 := Lib.hid (St1.out.box Cq.out (notbool _ _ _) (notbool _ _ _) (.slice q1p q1h.length q1k) (.slice q1q q1c.length q1j))
  replace Sp1 := Lib.hid (Sp1.out.box Cq.out (notbool _ _ _) (notbool _ _ _) (.slice q1p q1h.length q1k) (.slice q1q q1c.length q1j))
  replace Sq1 := Lib.hid (Sq1.out.box Cq.out (notbool _ _ _) (notbool _ _ _) (.slice q1p q1h.length q1k) (.slice q1q q1c.length q1j))
  replace HB := Lib.hid ((HB.out.setCell (p := ⟨w8.heap.size, 0, none⟩) (by show w.heap.size ≤ w8.heap.size; omega) (.slice q1p q1h.length q1k)).setCell (p := ⟨w8.heap.size, 1, none⟩) (by show w.heap.size ≤ w8.heap.size; omega) (.slice q1q q1c.length q1j))
  replace Cq : Hid (Blk _ w8.heap.size #[.slice q1p q1h.length q1k, .slice q1q q1c.length q1j] 24) := Lib.hid ((Cq.out.set 0 (.slice q1p q1h.length q1k)).set 1 (.slice q1q q1c.length q1j))
  have Cp_0 := Cp.out.cell 0 rfl
  have Cp_1 := Cp.out.cell 1 rfl
  have Cq_0 := Cq.out.cell 0 rfl
  have Cq_1 := Cq.out.cell 1 rfl
  go_wp2_with fail
  clear fz0 fz1 oc0 oc1 Cp_0 Cp_1 Cq_0 Cq_1
  generalize (w13.setCell ⟨w8.heap.size, 0, none⟩ (.slice q1p q1h.length q1k)).setCell ⟨w8.heap.size, 1, none⟩ (.slice q1q q1c.length q1j) = W13 at Sx Cx Sy Cy Sz Cz Cu Ct Cp Cq Su1 St1 Sp1 Sq1 HB ⊢
  obtain ⟨e1, e2⟩ := p1C.out.unique q1C.out (fun n => by simp only [u1C.out.val, t1C.out.val, Bool.or_assoc])
  have HSm := same_is _ _ p1h p1c q1h q1c true W13 Sp1.out Sq1.out ((sameS_iff _ _ _ _).2 ⟨e1, e2⟩) (by omega) (by omega) (by omega) (by omega)
  clear e1 e2
  refine HSm.mono ?_
  rintro e w14 ⟨rfl, hb⟩
  replace Sx := Lib.hid (Sx.out.grows hb)
  replace Cx := Lib.hid (Cx.out.grows hb)
  replace Sy := Lib.hid (Sy.out.grows hb)
  replace Cy := Lib.hid (Cy.out.grows hb)
  replace Sz := Lib.hid (Sz.out.grows hb)
  replace Cz := Lib.hid (Cz.out.grows hb)
  replace Cu := Lib.hid (Cu.out.grows hb)
  replace Ct := Lib.hid (Ct.out.grows hb)
  replace Cp := Lib.hid (Cp.out.grows hb)
  replace Cq := Lib.hid (Cq.out.grows hb)
  replace Su1 := Lib.hid (Su1.out.grows hb)
  replace St1 := Lib.hid (St1.out.grows hb)
  replace Sp1 := Lib.hid (Sp1.out.grows hb)
  replace Sq1 := Lib.hid (Sq1.out.grows hb)
  replace HB := Lib.hid (HB.out.trans (hb.mono HB.out.size))
  clear hb
  clear HSm
  have Cx_0 := Cx.out.cell 0 rfl
  have Cx_1 := Cx.out.cell 1 rfl
  have Cx_l := Cx.out.lt
  have Cy_0 := Cy.out.cell 0 rfl
  have Cy_1 := Cy.out.cell 1 rfl
  have Cy_l := Cy.out.lt
  go_wp2_with fail
  clear Cx_0 Cx_1 Cx_l Cy_0 Cy_1 Cy_l
  clear Su1 Sp1 Sq1
  have HOp := sum_any _ _ xh xc yh yc w14 Sx.out Sy.out (by omega) (by omega) (by omega) (by omega)
  rw [xo.out, yo.out] at HOp
  have hmul := And.intro (mul_bd (a := xc.length) (b := yc.length) (A := 5) (B := 5) (by omega) (by omega)) (mulOf_pos xc.length yc.length (by omega) (by omega))
  refine HOp.mono ?_
  rintro e w15 ⟨hr, hb⟩
  obtain ⟨lh, lc, lp, lk, lq, lj, rfl, lC0, ll, lm, G0⟩ := opres_ok hr (by omega) (sum_per (h := xh) (c := xc) (h' := yh) (c' := yc) (by omega) (by omega)) (by omega)
  replace Sx := Lib.hid (Sx.out.grows hb)
  replace Cx := Lib.hid (Cx.out.grows hb)
  replace Sy := Lib.hid (Sy.out.grows hb)
  replace Cy := Lib.hid (Cy.out.grows hb)
  replace Sz := Lib.hid (Sz.out.grows hb)
  replace Cz := Lib.hid (Cz.out.grows hb)
  replace Cu := Lib.hid (Cu.out.grows hb)
  replace Ct := Lib.hid (Ct.out.grows hb)
  replace Cp := Lib.hid (Cp.out.grows hb)
  replace Cq := Lib.hid (Cq.out.grows hb)
  replace St1 := Lib.hid (St1.out.grows hb)
  replace HB := Lib.hid (HB.out.trans (hb.mono HB.out.size))
  clear hb
  have Sl := Lib.hid (G0)
  clear G0 hr HOp
  have lC := Lib.hid lC0
  have lp0 : 0 < lc.length := lC0.pos
  clear lC0
  have ll2 : lh.length ≤ 37 := by omega
  have lm2 : lc.length ≤ 25 := by omega
  clear ll lm
  clear hmul
  have lo := Lib.hid (okLen_yes lp0 (show lh.length + lc.length ≤ 512 by omega))
  have w15b : w.heap.size ≤ w15.heap.size := HB.out.size
  have Cx_w15 : w2.heap.size < w15.heap.size := Cx.out.lt
  have Cy_w15 : w3.heap.size < w15.heap.size := Cy.out.lt
  have Cz_w15 : w4.heap.size < w15.heap.size := Cz.out.lt
  have Cu_w15 : w5.heap.size < w15.heap.size := Cu.out.lt
  have Ct_w15 : w6.heap.size < w15.heap.size := Ct.out.lt
  have Cp_w15 : w7.heap.size < w15.heap.size := Cp.out.lt
  have Cq_w15 : w8.heap.size < w15.heap.size := Cq.out.lt
  have Cx_0 := Cx.out.cell 0 rfl
  have Cx_1 := Cx.out.cell 1 rfl
  have Cx_l := Cx.out.lt
  have Cz_0 := Cz.out.cell 0 rfl
  have Cz_1 := Cz.out.cell 1 rfl
  have Cz_l := Cz.out.lt
  go_wp2_with fail
  clear Cx_0 Cx_1 Cx_l Cz_0 Cz_1 Cz_l
  show Calls Tryd.prog _ _ (al w15 [(Obj.cells #[.slice lp lh.length lk, .slice lq lc.length lj] 24)]) _
  obtain ⟨OS, hOS⟩ : ∃ OS, OS = [(Obj.cells #[.slice lp lh.length lk, .slice lq lc.length lj] 24)] := ⟨_, rfl⟩
  rw [← hOS]
  replace Sx := Lib.hid (Sx.out.al OS)
  replace Cx := Lib.hid (Cx.out.al OS)
  replace Sy := Lib.hid (Sy.out.al OS)
  replace Cy := Lib.hid (Cy.out.al OS)
  replace Sz := Lib.hid (Sz.out.al OS)
  replace Cz := Lib.hid (Cz.out.al OS)
  replace Cu := Lib.hid (Cu.out.al OS)
  replace Ct := Lib.hid (Ct.out.al OS)
  replace Cp := Lib.hid (Cp.out.al OS)
  replace Cq := Lib.hid (Cq.out.al OS)
  replace St1 := Lib.hid (St1.out.al OS)
  replace Sl := Lib.hid (Sl.out.al OS)
  replace HB := Lib.hid (HB.out.trans ((al_below OS w15).mono HB.out.size))
  have Cl0 : Blk (al w15 OS) (w15.heap.size) #[.slice lp lh.length lk, .slice lq lc.length lj] 24 := by rw [hOS]; exact al_blk w15 _ 0 rfl
  have Cl := Lib.hid Cl0
  clear Cl0
  clear hOS
  generalize al w15 OS = W15 at Sx Cx Sy Cy Sz Cz Cu Ct Cp Cq St1 Sl Cl HB ⊢
  have HOp := sum_any _ _ xh xc zh zc W15 Sx.out Sz.out (by omega) (by omega) (by omega) (by omega)
  rw [xo.out, zo.out] at HOp
  have hmul := And.intro (mul_bd (a := xc.length) (b := zc.length) (A := 5) (B := 5) (by omega) (by omega)) (mulOf_pos xc.length zc.length (by omega) (by omega))
  refine HOp.mono ?_
  rintro e w16 ⟨hr, hb⟩
  obtain ⟨rh, rc, rp, rk, rq, rj, rfl, rC0, rl, rm, G0⟩ := opres_ok hr (by omega) (sum_per (h := xh) (c := xc) (h' := zh) (c' := zc) (by omega) (by omega)) (by omega)
  replace Sx := Lib.hid (Sx.out.grows hb)
  replace Cx := Lib.hid (Cx.out.grows hb)
  replace Sy := Lib.hid (Sy.out.grows hb)
  replace Cy := Lib.hid (Cy.out.grows hb)
  replace Sz := Lib.hid (Sz.out.grows hb)
  replace Cz := Lib.hid (Cz.out.grows hb)
  replace Cu := Lib.hid (Cu.out.grows hb)
  replace Ct := Lib.hid (Ct.out.grows hb)
  replace Cp := Lib.hid (Cp.out.grows hb)
  replace Cq := Lib.hid (Cq.out.grows hb)
  replace St1 := Lib.hid (St1.out.grows hb)
  replace Sl := Lib.hid (Sl.out.grows hb)
  replace Cl := Lib.hid (Cl.out.grows hb)
  replace HB := Lib.hid (HB.out.trans (hb.mono HB.out.size))
  clear hb
  have Sr := Lib.hid (G0)
  clear G0 hr HOp
  have rC := Lib.hid rC0
  have rp0 : 0 < rc.length := rC0.pos
  clear rC0
  have rl2 : rh.length ≤ 37 := by omega
  have rm2 : rc.length ≤ 25 := by omega
  clear rl rm
  clear hmul
  have ro := Lib.hid (okLen_yes rp0 (show rh.length + rc.length ≤ 512 by omega))
  have w16b : w.heap.size ≤ w16.heap.size := HB.out.size
  have Cx_w16 : w2.heap.size < w16.heap.size := Cx.out.lt
  have Cy_w16 : w3.heap.size < w16.heap.size := Cy.out.lt
  have Cz_w16 : w4.heap.size < w16.heap.size := Cz.out.lt
  have Cu_w16 : w5.heap.size < w16.heap.size := Cu.out.lt
  have Ct_w16 : w6.heap.size < w16.heap.size := Ct.out.lt
  have Cp_w16 : w7.heap.size < w16.heap.size := Cp.out.lt
  have Cq_w16 : w8.heap.size < w16.heap.size := Cq.out.lt
  have Cl_w16 : w15.heap.size < w16.heap.size := Cl.out.lt
  have Cx_0 := Cx.out.cell 0 rfl
  have Cx_1 := Cx.out.cell 1 rfl
  have Cx_l := Cx.out.lt
  have Ct_0 := Ct.out.cell 0 rfl
  have Ct_1 := Ct.out.cell 1 rfl
  have Ct_l := Ct.out.lt
  go_wp2_with fail
  clear Cx_0 Cx_1 Cx_l Ct_0 Ct_1 Ct_l
  show Calls Tryd.prog _ _ (al w16 [(Obj.cells #[.slice rp rh.length rk, .slice rq rc.length rj] 24)]) _
  obtain ⟨OS, hOS⟩ : ∃ OS, OS = [(Obj.cells #[.slice rp rh.length rk, .slice rq rc.length rj] 24)] := ⟨_, rfl⟩
  rw [← hOS]
  replace Sx := Lib.hid (Sx.out.al OS)
  replace Cx := Lib.hid (Cx.out.al OS)
  replace Sy := Lib.hid (Sy.out.al OS)
  replace Cy := Lib.hid (Cy.out.al OS)
  replace Sz := Lib.hid (Sz.out.al OS)
  replace Cz := Lib.hid (Cz.out.al OS)
  replace Cu := Lib.hid (Cu.out.al OS)
  replace Ct := Lib.hid (Ct.out.al OS)
  replace Cp := Lib.hid (Cp.out.al OS)
  replace Cq := Lib.hid (Cq.out.al OS)
  replace St1 := Lib.hid (St1.out.al OS)
  replace Sl := Lib.hid (Sl.out.al OS)
  replace Cl := Lib.hid (Cl.out.al OS)
  replace Sr := Lib.hid (Sr.out.al OS)
  replace HB := Lib.hid (HB.out.trans ((al_below OS w16).mono HB.out.size))
  have Cr0 : Blk (al w16 OS) (w16.heap.size) #[.slice rp rh.length rk, .slice rq rc.length rj] 24 := by rw [hOS]; exact al_blk w16 _ 0 rfl
  have Cr := Lib.hid Cr0
  clear Cr0
  clear hOS
  generalize al w16 OS = W16 at Sx Cx Sy Cy Sz Cz Cu Ct Cp Cq St1 Sl Cl Sr Cr HB ⊢
  have HOp := sum_any _ _ xh xc t1h t1c W16 Sx.out St1.out (by omega) (by omega) (by omega) (by omega)
  rw [xo.out, t1o.out] at HOp
  have hmul := And.intro (mul_bd (a := xc.length) (b := t1c.length) (A := 5) (B := 25) (by omega) (by omega)) (mulOf_pos xc.length t1c.length (by omega) (by omega))
  refine HOp.mono ?_
  rintro e w17 ⟨hr, hb⟩
  obtain ⟨p2h, p2c, p2p, p2k, p2q, p2j, rfl, p2C0, p2l, p2m, G0⟩ := opres_ok hr (by omega) (sum_per (h := xh) (c := xc) (h' := t1h) (c' := t1c) (by omega) (by omega)) (by omega)
  replace Sx := Lib.hid (Sx.out.grows hb)
  replace Cx := Lib.hid (Cx.out.grows hb)
  replace Sy := Lib.hid (Sy.out.grows hb)
  replace Cy := Lib.hid (Cy.out.grows hb)
  replace Sz := Lib.hid (Sz.out.grows hb)
  replace Cz := Lib.hid (Cz.out.grows hb)
  replace Cu := Lib.hid (Cu.out.grows hb)
  replace Ct := Lib.hid (Ct.out.grows hb)
  replace Cp := Lib.hid (Cp.out.grows hb)
  replace Cq := Lib.hid (Cq.out.grows hb)
  replace St1 := Lib.hid (St1.out.grows hb)
  replace Sl := Lib.hid (Sl.out.grows hb)
  replace Cl := Lib.hid (Cl.out.grows hb)
  replace Sr := Lib.hid (Sr.out.grows hb)
  replace Cr := Lib.hid (Cr.out.grows hb)
  replace HB := Lib.hid (HB.out.trans (hb.mono HB.out.size))
  clear hb
  have Sp2 := Lib.hid (G0)
  clear G0 hr HOp
  have p2C := Lib.hid p2C0
  have p2p0 : 0 < p2c.length := p2C0.pos
  clear p2C0
  have p2l2 : p2h.length ≤ 137 := by omega
  have p2m2 : p2c.length ≤ 125 := by omega
  clear p2l p2m
  clear hmul
  have p2o := Lib.hid (okLen_yes p2p0 (show p2h.length + p2c.length ≤ 512 by omega))
  have fz0 := Cp.out.free 0
  have fz1 := Cp.out.free 1
  have oc0 := Cp.out.cell 0 rfl
  have oc1 := Cp.out.cell 1 rfl
  replace Sx := Lib.hid (Sx.out.box Cp.out (notbool _ _ _) (notbool _ _ _) (.slice p2p p2h.length p2k) (.slice p2q p2c.length p2j))
  replace Cx := Lib.hid ((Cx.out.other (a := ⟨w7.heap.size, 0, none⟩) (by show _ ≠ w7.heap.size; omega) (.slice p2p p2h.length p2k)).other (a := ⟨w7.heap.size, 1, none⟩) (by show _ ≠ w7.heap.size; omega) (.slice p2q p2c.length p2j))
  replace Sy := Lib.hid (Sy.out.box Cp.out (notbool _ _ _) (notbool _ _ _) (.slice p2p p2h.length p2k) (.slice p2q p2c.length p2j))
  replace Cy := Lib.hid ((Cy.out.other (a := ⟨w7.heap.size, 0, none⟩) (by show _ ≠ w7.heap.size; omega) (.slice p2p p2h.length p2k)).other (a := ⟨w7.heap.size, 1, none⟩) (by show _ ≠ w7.heap.size; omega) (.slice p2q p2c.length p2j))
  replace Sz := Lib.hid (Sz.out.box Cp.out (notbool _ _ _) (notbool _ _ _) (.slice p2p p2h.length p2k) (.slice p2q p2c.length p2j))
  replace Cz := Lib.hid ((Cz.out.other (a := ⟨w7.heap.size, 0, none⟩) (by show _ ≠ w7.heap.size; omega) (.slice p2p p2h.length p2k)).other (a := ⟨w7.heap.size, 1, none⟩) (by show _ ≠ w7.heap.size; omega) (.slice p2q p2c.length p2j))
  replace Cu := Lib.hid ((Cu.out.other (a := ⟨w7.heap.size, 0, none⟩) (by show _ ≠ w7.heap.size; omega) (.slice p2p p2h.length p2k)).other (a := ⟨w7.heap.size, 1, none⟩) (by show _ ≠ w7.heap.size; omega) (.slice p2q p2c.length p2j))
  replace Ct := Lib.hid ((Ct.out.other (a := ⟨w7.heap.size, 0, none⟩) (by show _ ≠ w7.heap.size; omega) (.slice p2p p2h.length p2k)).other (a := ⟨w7.heap.size, 1, none⟩) (by show _ ≠ w7.heap.size; omega) (.slice p2q p2c.length p2j))
  replace Cq := Lib.hid ((Cq.out.other (a := ⟨w7.heap.size, 0, none⟩) (by show _ ≠ w7.heap.size; omega) (.slice p2p p2h.length p2k)).other (a := ⟨w7.heap.size, 1, none⟩) (by show _ ≠ w7.heap.size; omega) (.slice p2q p2c.length p2j))
  replace St1 := Lib.hid (St1.out.box Cp.out (notbool _ _ _) (notbool _ _ _) (.slice p2p p2h.length p2k) (.slice p2q p2c.length p2j))
  replace Sl := Lib.hid (Sl.out.box Cp.out (notbool _ _ _) (notbool _ _ _) (.slice p2p p2h.length p2k) (.slice p2q p2c.length p2j))
  replace Cl := Lib.hid ((Cl.out.other (a := ⟨w7.heap.size, 0, none⟩) (by show _ ≠ w7.heap.size; omega) (.slice p2p p2h.length p2k)).other (a := ⟨w7.heap.size, 1, none⟩) (by show _ ≠ w7.heap.size; omega) (.slice p2q p2c.length p2j))
  replace Sr := Lib.hid (Sr.out.box Cp.out (notbool _ _ _) (notbool _ _ _) (.slice p2p p2h.length p2k) (.slice p2q p2c.length p2j))
  replace Cr := Lib.hid ((Cr.out.other (a := ⟨w7.heap.size, 0, none⟩) (by show _ ≠ w7.heap.size; omega) (.slice p2p p2h.length p2k)).other (a := ⟨w7.heap.size, 1, none⟩) (by show _ ≠ w7.heap.size; omega) (.slice p2q p2c.length p2j))
  replace Sp2 := Lib.hid (Sp2.out.box Cp.out (notbool _ _ _) (notbool _ _ _) (.slice p2p p2h.length p2k) (.slice p2q p2c.length p2j))
  replace HB := Lib.hid ((HB.out.setCell (p := ⟨w7.heap.size, 0, none⟩) (by show w.heap.size ≤ w7.heap.size; omega) (.slice p2p p2h.length p2k)).setCell (p := ⟨w7.heap.size, 1, none⟩) (by show w.heap.size ≤ w7.heap.size; omega) (.slice p2q p2c.length p2j))
  replace Cp : Hid (Blk _ w7.heap.size #[.slice p2p p2h.length p2k, .slice p2q p2c.length p2j] 24) := Lib.hid ((Cp.out.set 0 (.slice p2p p2h.length p2k)).set 1 (.slice p2q p2c.length p2j))
  have Cl_0 := Cl.out.cell 0 rfl
  have Cl_1 := Cl.out.cell 1 rfl
  have Cr_0 := Cr.out.cell 0 rfl
  have Cr_1 := Cr.out.cell 1 rfl
  go_wp2_with fail
  clear fz0 fz1 oc0 oc1 Cl_0 Cl_1 Cr_0 Cr_1
  generalize (w17.setCell ⟨w7.heap.size, 0, none⟩ (.slice p2p p2h.length p2k)).setCell ⟨w7.heap.size, 1, none⟩ (.slice p2q p2c.length p2j) = W17 at Sx Cx Sy Cy Sz Cz Cu Ct Cp Cq St1 Sl Cl Sr Cr Sp2 HB ⊢
  have HDis : ∀ n, sumB (atL xh xc) (atL t1h t1c) n = (atL lh lc n || atL rh rc n) := fun n => by
    rw [lC.out.val, rC.out.val, ← sumB_or, show atL t1h t1c = fun k => atL yh yc k || atL zh zc k from funext t1C.out.val]
  have HDis := Lib.hid HDis
  have HOp := or_any _ _ lh lc rh rc W17 Sl.out Sr.out (by omega) (by omega) (by omega) (by omega)
  rw [lo.out, ro.out] at HOp
  have hmul := And.intro (mul_bd (a := xc.length) (b := t1c.length) (A := 5) (B := 25) (by omega) (by omega)) (mulOf_pos xc.length t1c.length (by omega) (by omega))
  refine HOp.mono ?_
  rintro e w18 ⟨hr, hb⟩
  obtain ⟨q2h, q2c, q2p, q2k, q2q, q2j, rfl, q2C0, q2l, q2m, G0⟩ := opres_ok hr (by omega) (From.congr (sum_per (h := xh) (c := xc) (h' := t1h) (c' := t1c) (by omega) (by omega)) HDis.out) (by omega)
  replace Sx := Lib.hid (Sx.out.grows hb)
  replace Cx := Lib.hid (Cx.out.grows hb)
  replace Sy := Lib.hid (Sy.out.grows hb)
  replace Cy := Lib.hid (Cy.out.grows hb)
  replace Sz := Lib.hid (Sz.out.grows hb)
  replace Cz := Lib.hid (Cz.out.grows hb)
  replace Cu := Lib.hid (Cu.out.grows hb)
  replace Ct := Lib.hid (Ct.out.grows hb)
  replace Cp := Lib.hid (Cp.out.grows hb)
  replace Cq := Lib.hid (Cq.out.grows hb)
  replace St1 := Lib.hid (St1.out.grows hb)
  replace Sl := Lib.hid (Sl.out.grows hb)
  replace Cl := Lib.hid (Cl.out.grows hb)
  replace Sr := Lib.hid (Sr.out.grows hb)
  replace Cr := Lib.hid (Cr.out.grows hb)
  replace Sp2 := Lib.hid (Sp2.out.grows hb)
  replace HB := Lib.hid (HB.out.trans (hb.mono HB.out.size))
  clear hb
  have Sq2 := Lib.hid (G0)
  clear G0 hr HOp
  have q2C := Lib.hid q2C0
  have q2p0 : 0 < q2c.length := q2C0.pos
  clear q2C0
  have q2l2 : q2h.length ≤ 137 := by omega
  have q2m2 : q2c.length ≤ 125 := by omega
  clear q2l q2m
  clear hmul
  have q2o := Lib.hid (okLen_yes q2p0 (show q2h.length + q2c.length ≤ 512 by omega))
  have fz0 := Cq.out.free 0
  have fz1 := Cq.out.free 1
  have oc0 := Cq.out.cell 0 rfl
  have oc1 := Cq.out.cell 1 rfl
  replace Sx := Lib.hid (Sx.out.box Cq.out (notbool _ _ _) (notbool _ _ _) (.slice q2p q2h.length q2k) (.slice q2q q2c.length q2j))
  replace Cx := Lib.hid ((Cx.out.other (a := ⟨w8.heap.size, 0, none⟩) (by show _ ≠ w8.heap.size; omega) (.slice q2p q2h.length q2k)).other (a := ⟨w8.heap.size, 1, none⟩) (by show _ ≠ w8.heap.size; omega) (.slice q2q q2c.length q2j))
  replace Sy := Lib.hid (Sy.out.box Cq.out (notbool _ _ _) (notbool _ _ _) (.slice q2p q2h.length q2k) (.slice q2q q2c.length q2j))
  replace Cy := Lib.hid ((Cy.out.other (a := ⟨w8.heap.size, 0, none⟩) (by show _ ≠ w8.heap.size; omega) (.slice q2p q2h.length q2k)).other (a := ⟨w8.heap.size, 1, none⟩) (by show _ ≠ w8.heap.size; omega) (.slice q2q q2c.length q2j))
  replace Sz := Lib.hid (Sz.out.box Cq.out (notbool _ _ _) (notbool _ _ _) (.slice q2p q2h.length q2k) (.slice q2q q2c.length q2j))
  replace Cz := Lib.hid ((Cz.out.other (a := ⟨w8.heap.size, 0, none⟩) (by show _ ≠ w8.heap.size; omega) (.slice q2p q2h.length q2k)).other (a := ⟨w8.heap.size, 1, none⟩) (by show _ ≠ w8.heap.size; omega) (.slice q2q q2c.length q2j))
  replace Cu := Lib.hid ((Cu.out.other (a := ⟨w8.heap.size, 0, none⟩) (by show _ ≠ w8.heap.size; omega) (.slice q2p q2h.length q2k)).other (a := ⟨w8.heap.size, 1, none⟩) (by show _ ≠ w8.heap.size; omega) (.slice q2q q2c.length q2j))
  replace Ct := Lib.hid ((Ct.out.other (a := ⟨w8.heap.size, 0, none⟩) (by show _ ≠ w8.heap.size; omega) (.slice q2p q2h.length q2k)).other (a := ⟨w8.heap.size, 1, none⟩) (by show _ ≠ w8.heap.size; omega) (.slice q2q q2c.length q2j))
  replace Cp := Lib.hid ((Cp.out.other (a := ⟨w8.heap.size, 0, none⟩) (by show _ ≠ w8.heap.size; omega) (.slice q2p q2h.length q2k)).other (a := ⟨w8.heap.size, 1, none⟩) (by show _ ≠ w8.heap.size; omega) (.slice q2q q2c.length q2j))
  replace St1 := Lib.hid (St1.out.box Cq.out (notbool _ _ _) (notbool _ _ _) (.slice q2p q2h.length q2k) (.slice q2q q2c.length q2j))
  replace Sl := Lib.hid (Sl.out.box Cq.out (notbool _ _ _) (notbool _ _ _) (.slice q2p q2h.length q2k) (.slice q2q q2c.length q2j))
  replace Cl := Lib.hid ((Cl.out.other (a := ⟨w8.heap.size, 0, none⟩) (by show _ ≠ w8.heap.size; omega) (.slice q2p q2h.length q2k)).other (a := ⟨w8.heap.size, 1, none⟩) (by show _ ≠ w8.heap.size; omega) (.slice q2q q2c.length q2j))
  replace Sr := Lib.hid (Sr.out.box Cq.out (notbool _ _ _) (notbool _ _ _) (.slice q2p q2h.length q2k) (.slice q2q q2c.length q2j))
  replace Cr := Lib.hid ((Cr.out.other (a := ⟨w8.heap.size, 0, none⟩) (by show _ ≠ w8.heap.size; omega) (.slice q2p q2h.length q2k)).other (a := ⟨w8.heap.size, 1, none⟩) (by show _ ≠ w8.heap.size; omega) (.slice q2q q2c.length q2j))
  replace Sp2 := Lib.hid (Sp2.out.box Cq.out (notbool _ _ _) (notbool _ _ _) (.slice q2p q2h.length q2k) (.slice q2q q2c.length q2j))
  replace Sq2 := Lib.hid (Sq2.out.box Cq.out (notbool _ _ _) (notbool _ _ _) (.slice q2p q2h.length q2k) (.slice q2q q2c.length q2j))
  replace HB := Lib.hid ((HB.out.setCell (p := ⟨w8.heap.size, 0, none⟩) (by show w.heap.size ≤ w8.heap.size; omega) (.slice q2p q2h.length q2k)).setCell (p := ⟨w8.heap.size, 1, none⟩) (by show w.heap.size ≤ w8.heap.size; omega) (.slice q2q q2c.length q2j))
  replace Cq : Hid (Blk _ w8.heap.size #[.slice q2p q2h.length q2k, .slice q2q q2c.length q2j] 24) := Lib.hid ((Cq.out.set 0 (.slice q2p q2h.length q2k)).set 1 (.slice q2q q2c.length q2j))
  have Cp_0 := Cp.out.cell 0 rfl
  have Cp_1 := Cp.out.cell 1 rfl
  have Cq_0 := Cq.out.cell 0 rfl
  have Cq_1 := Cq.out.cell 1 rfl
  go_wp2_with fail
  clear fz0 fz1 oc0 oc1 Cp_0 Cp_1 Cq_0 Cq_1
  generalize (w18.setCell ⟨w8.heap.size, 0, none⟩ (.slice q2p q2h.length q2k)).setCell ⟨w8.heap.size, 1, none⟩ (.slice q2q q2c.length q2j) = W18 at Sx Cx Sy Cy Sz Cz Cu Ct Cp Cq St1 Sl Cl Sr Cr Sp2 Sq2 HB ⊢
  obtain ⟨e1, e2⟩ := p2C.out.unique q2C.out HDis.out
  have HSm := same_is _ _ p2h p2c q2h q2c true W18 Sp2.out Sq2.out ((sameS_iff _ _ _ _).2 ⟨e1, e2⟩) (by omega) (by omega) (by omega) (by omega)
  clear e1 e2
  refine HSm.mono ?_
  rintro e w19 ⟨rfl, hb⟩
  replace Sx := Lib.hid (Sx.out.grows hb)
  replace Cx := Lib.hid (Cx.out.grows hb)
  replace Sy := Lib.hid (Sy.out.grows hb)
  replace Cy := Lib.hid (Cy.out.grows hb)
  replace Sz := Lib.hid (Sz.out.grows hb)
  replace Cz := Lib.hid (Cz.out.grows hb)
  replace Cu := Lib.hid (Cu.out.grows hb)
  replace Ct := Lib.hid (Ct.out.grows hb)
  replace Cp := Lib.hid (Cp.out.grows hb)
  replace Cq := Lib.hid (Cq.out.grows hb)
  replace St1 := Lib.hid (St1.out.grows hb)
  replace Sl := Lib.hid (Sl.out.grows hb)
  replace Cl := Lib.hid (Cl.out.grows hb)
  replace Sr := Lib.hid (Sr.out.grows hb)
  replace Cr := Lib.hid (Cr.out.grows hb)
  replace Sp2 := Lib.hid (Sp2.out.grows hb)
  replace Sq2 := Lib.hid (Sq2.out.grows hb)
  replace HB := Lib.hid (HB.out.trans (hb.mono HB.out.size))
  clear hb
  clear HSm
  have Cy_0 := Cy.out.cell 0 rfl
  have Cy_1 := Cy.out.cell 1 rfl
  have Cy_l := Cy.out.lt
  have Cz_0 := Cz.out.cell 0 rfl
  have Cz_1 := Cz.out.cell 1 rfl
  have Cz_l := Cz.out.lt
  go_wp2_with fail
  clear Cy_0 Cy_1 Cy_l Cz_0 Cz_1 Cz_l
  clear St1 Sp2 Sq2 Sr
  have HOp := sum_any _ _ yh yc zh zc w19 Sy.out Sz.out (by omega) (by omega) (by omega) (by omega)
  rw [yo.out, zo.out] at HOp
  have hmul := And.intro (mul_bd (a := yc.length) (b := zc.length) (A := 5) (B := 5) (by omega) (by omega)) (mulOf_pos yc.length zc.length (by omega) (by omega))
  refine HOp.mono ?_
  rintro e w20 ⟨hr, hb⟩
  obtain ⟨t2h, t2c, t2p, t2k, t2q, t2j, rfl, t2C0, t2l, t2m, G0⟩ := opres_ok hr (by omega) (sum_per (h := yh) (c := yc) (h' := zh) (c' := zc) (by omega) (by omega)) (by omega)
  replace Sx := Lib.hid (Sx.out.grows hb)
  replace Cx := Lib.hid (Cx.out.grows hb)
  replace Sy := Lib.hid (Sy.out.grows hb)
  replace Cy := Lib.hid (Cy.out.grows hb)
  replace Sz := Lib.hid (Sz.out.grows hb)
  replace Cz := Lib.hid (Cz.out.grows hb)
  replace Cu := Lib.hid (Cu.out.grows hb)
  replace Ct := Lib.hid (Ct.out.grows hb)
  replace Cp := Lib.hid (Cp.out.grows hb)
  replace Cq := Lib.hid (Cq.out.grows hb)
  replace Sl := Lib.hid (Sl.out.grows hb)
  replace Cl := Lib.hid (Cl.out.grows hb)
  replace Cr := Lib.hid (Cr.out.grows hb)
  replace HB := Lib.hid (HB.out.trans (hb.mono HB.out.size))
  clear hb
  have St2 := Lib.hid (G0)
  clear G0 hr HOp
  have t2C := Lib.hid t2C0
  have t2p0 : 0 < t2c.length := t2C0.pos
  clear t2C0
  have t2l2 : t2h.length ≤ 37 := by omega
  have t2m2 : t2c.length ≤ 25 := by omega
  clear t2l t2m
  clear hmul
  have t2o := Lib.hid (okLen_yes t2p0 (show t2h.length + t2c.length ≤ 512 by omega))
  have fz0 := Ct.out.free 0
  have fz1 := Ct.out.free 1
  have oc0 := Ct.out.cell 0 rfl
  have oc1 := Ct.out.cell 1 rfl
  replace Sx := Lib.hid (Sx.out.box Ct.out (notbool _ _ _) (notbool _ _ _) (.slice t2p t2h.length t2k) (.slice t2q t2c.length t2j))
  replace Cx := Lib.hid ((Cx.out.other (a := ⟨w6.heap.size, 0, none⟩) (by show _ ≠ w6.heap.size; omega) (.slice t2p t2h.length t2k)).other (a := ⟨w6.heap.size, 1, none⟩) (by show _ ≠ w6.heap.size; omega) (.slice t2q t2c.length t2j))
  replace Sy := Lib.hid (Sy.out.box Ct.out (notbool _ _ _) (notbool _ _ _) (.slice t2p t2h.length t2k) (.slice t2q t2c.length t2j))
  replace Cy := Lib.hid ((Cy.out.other (a := ⟨w6.heap.size, 0, none⟩) (by show _ ≠ w6.heap.size; omega) (.slice t2p t2h.length t2k)).other (a := ⟨w6.heap.size, 1, none⟩) (by show _ ≠ w6.heap.size; omega) (.slice t2q t2c.length t2j))
  replace Sz := Lib.hid (Sz.out.box Ct.out (notbool _ _ _) (notbool _ _ _) (.slice t2p t2h.length t2k) (.slice t2q t2c.length t2j))
  replace Cz := Lib.hid ((Cz.out.other (a := ⟨w6.heap.size, 0, none⟩) (by show _ ≠ w6.heap.size; omega) (.slice t2p t2h.length t2k)).other (a := ⟨w6.heap.size, 1, none⟩) (by show _ ≠ w6.heap.size; omega) (.slice t2q t2c.length t2j))
  replace Cu := Lib.hid ((Cu.out.other (a := ⟨w6.heap.size, 0, none⟩) (by show _ ≠ w6.heap.size; omega) (.slice t2p t2h.length t2k)).other (a := ⟨w6.heap.size, 1, none⟩) (by show _ ≠ w6.heap.size; omega) (.slice t2q t2c.length t2j))
  replace Cp := Lib.hid ((Cp.out.other (a := ⟨w6.heap.size, 0, none⟩) (by show _ ≠ w6.heap.size; omega) (.slice t2p t2h.length t2k)).other (a := ⟨w6.heap.size, 1, none⟩) (by show _ ≠ w6.heap.size; omega) (.slice t2q t2c.length t2j))
  replace Cq := Lib.hid ((Cq.out.other (a := ⟨w6.heap.size, 0, none⟩) (by show _ ≠ w6.heap.size; omega) (.slice t2p t2h.length t2k)).other (a := ⟨w6.heap.size, 1, none⟩) (by show _ ≠ w6.heap.size; omega) (.slice t2q t2c.length t2j))
  replace Sl := Lib.hid (Sl.out.box Ct.out (notbool _ _ _) (notbool _ _ _) (.slice t2p t2h.length t2k) (.slice t2q t2c.length t2j))
  replace Cl := Lib.hid ((Cl.out.other (a := ⟨w6.heap.size, 0, none⟩) (by show _ ≠ w6.heap.size; omega) (.slice t2p t2h.length t2k)).other (a := ⟨w6.heap.size, 1, none⟩) (by show _ ≠ w6.heap.size; omega) (.slice t2q t2c.length t2j))
  replace Cr := Lib.hid ((Cr.out.other (a := ⟨w6.heap.size, 0, none⟩) (by show _ ≠ w6.heap.size; omega) (.slice t2p t2h.length t2k)).other (a := ⟨w6.heap.size, 1, none⟩) (by show _ ≠ w6.heap.size; omega) (.slice t2q t2c.length t2j))
  replace St2 := Lib.hid (St2.out.box Ct.out (notbool _ _ _) (notbool _ _ _) (.slice t2p t2h.length t2k) (.slice t2q t2c.length t2j))
  replace HB := Lib.hid ((HB.out.setCell (p := ⟨w6.heap.size, 0, none⟩) (by show w.heap.size ≤ w6.heap.size; omega) (.slice t2p t2h.length t2k)).setCell (p := ⟨w6.heap.size, 1, none⟩) (by show w.heap.size ≤ w6.heap.size; omega) (.slice t2q t2c.length t2j))
  replace Ct : Hid (Blk _ w6.heap.size #[.slice t2p t2h.length t2k, .slice t2q t2c.length t2j] 24) := Lib.hid ((Ct.out.set 0 (.slice t2p t2h.length t2k)).set 1 (.slice t2q t2c.length t2j))
  have Cl_0 := Cl.out.cell 0 rfl
  have Cl_1 := Cl.out.cell 1 rfl
  have Cz_0 := Cz.out.cell 0 rfl
  have Cz_1 := Cz.out.cell 1 rfl
  go_wp2_with fail
  clear fz0 fz1 oc0 oc1 Cl_0 Cl_1 Cz_0 Cz_1
  generalize (w20.setCell ⟨w6.heap.size, 0, none⟩ (.slice t2p t2h.length t2k)).setCell ⟨w6.heap.size, 1, none⟩ (.slice t2q t2c.length t2j) = W20 at Sx Cx Sy Cy Sz Cz Cu Ct Cp Cq Sl Cl Cr St2 HB ⊢
  have HOp := sum_any _ _ lh lc zh zc W20 Sl.out Sz.out (by omega) (by omega) (by omega) (by omega)
  rw [lo.out, zo.out] at HOp
  have hmul := And.intro (mul_bd (a := lc.length) (b := zc.length) (A := 25) (B := 5) (by omega) (by omega)) (mulOf_pos lc.length zc.length (by omega) (by omega))
  refine HOp.mono ?_
  rintro e w21 ⟨hr, hb⟩
  obtain ⟨p3h, p3c, p3p, p3k, p3q, p3j, rfl, p3C0, p3l, p3m, G0⟩ := opres_ok hr (by omega) (sum_per (h := lh) (c := lc) (h' := zh) (c' := zc) (by omega) (by omega)) (by omega)
  replace Sx := Lib.hid (Sx.out.grows hb)
  replace Cx := Lib.hid (Cx.out.grows hb)
  replace Sy := Lib.hid (Sy.out.grows hb)
  replace Cy := Lib.hid (Cy.out.grows hb)
  replace Sz := Lib.hid (Sz.out.grows hb)
  replace Cz := Lib.hid (Cz.out.grows hb)
  replace Cu := Lib.hid (Cu.out.grows hb)
  replace Ct := Lib.hid (Ct.out.grows hb)
  replace Cp := Lib.hid (Cp.out.grows hb)
  replace Cq := Lib.hid (Cq.out.grows hb)
  replace Sl := Lib.hid (Sl.out.grows hb)
  replace Cl := Lib.hid (Cl.out.grows hb)
  replace Cr := Lib.hid (Cr.out.grows hb)
  replace St2 := Lib.hid (St2.out.grows hb)
  replace HB := Lib.hid (HB.out.trans (hb.mono HB.out.size))
  clear hb
  have Sp3 := Lib.hid (G0)
  clear G0 hr HOp
  have p3C := Lib.hid p3C0
  have p3p0 : 0 < p3c.length := p3C0.pos
  clear p3C0
  have p3l2 : p3h.length ≤ 168 := by omega
  have p3m2 : p3c.length ≤ 125 := by omega
  clear p3l p3m
  clear hmul
  have p3o := Lib.hid (okLen_yes p3p0 (show p3h.length + p3c.length ≤ 512 by omega))
  have fz0 := Cp.out.free 0
  have fz1 := Cp.out.free 1
  have oc0 := Cp.out.cell 0 rfl
  have oc1 := Cp.out.cell 1 rfl
  replace Sx := Lib.hid (Sx.out.box Cp.out (notbool _ _ _) (notbool _ _ _) (.slice p3p p3h.length p3k) (.slice p3q p3c.length p3j))
  replace Cx := Lib.hid ((Cx.out.other (a := ⟨w7.heap.size, 0, none⟩) (by show _ ≠ w7.heap.size; omega) (.slice p3p p3h.length p3k)).other (a := ⟨w7.heap.size, 1, none⟩) (by show _ ≠ w7.heap.size; omega) (.slice p3q p3c.length p3j))
  replace Sy := Lib.hid (Sy.out.box Cp.out (notbool _ _ _) (notbool _ _ _) (.slice p3p p3h.length p3k) (.slice p3q p3c.length p3j))
  replace Cy := Lib.hid ((Cy.out.other (a := ⟨w7.heap.size, 0, none⟩) (by show _ ≠ w7.heap.size; omega) (.slice p3p p3h.length p3k)).other (a := ⟨w7.heap.size, 1, none⟩) (by show _ ≠ w7.heap.size; omega) (.slice p3q p3c.length p3j))
  replace Sz := Lib.hid (Sz.out.box Cp.out (notbool _ _ _) (notbool _ _ _) (.slice p3p p3h.length p3k) (.slice p3q p3c.length p3j))
  replace Cz := Lib.hid ((Cz.out.other (a := ⟨w7.heap.size, 0, none⟩) (by show _ ≠ w7.heap.size; omega) (.slice p3p p3h.length p3k)).other (a := ⟨w7.heap.size, 1, none⟩) (by show _ ≠ w7.heap.size; omega) (.slice p3q p3c.length p3j))
  replace Cu := Lib.hid ((Cu.out.other (a := ⟨w7.heap.size, 0, none⟩) (by show _ ≠ w7.heap.size; omega) (.slice p3p p3h.length p3k)).other (a := ⟨w7.heap.size, 1, none⟩) (by show _ ≠ w7.heap.size; omega) (.slice p3q p3c.length p3j))
  replace Ct := Lib.hid ((Ct.out.other (a := ⟨w7.heap.size, 0, none⟩) (by show _ ≠ w7.heap.size; omega) (.slice p3p p3h.length p3k)).other (a := ⟨w7.heap.size, 1, none⟩) (by show _ ≠ w7.heap.size; omega) (.slice p3q p3c.length p3j))
  replace Cq := Lib.hid ((Cq.out.other (a := ⟨w7.heap.size, 0, none⟩) (by show _ ≠ w7.heap.size; omega) (.slice p3p p3h.length p3k)).other (a := ⟨w7.heap.size, 1, none⟩) (by show _ ≠ w7.heap.size; omega) (.slice p3q p3c.length p3j))
  replace Sl := Lib.hid (Sl.out.box Cp.out (notbool _ _ _) (notbool _ _ _) (.slice p3p p3h.length p3k) (.slice p3q p3c.length p3j))
  replace Cl := Lib.hid ((Cl.out.other (a := ⟨w7.heap.size, 0, none⟩) (by show _ ≠ w7.heap.size; omega) (.slice p3p p3h.length p3k)).other (a := ⟨w7.heap.size, 1, none⟩) (by show _ ≠ w7.heap.size; omega) (.slice p3q p3c.length p3j))
  replace Cr := Lib.hid ((Cr.out.other (a := ⟨w7.heap.size, 0, none⟩) (by show _ ≠ w7.heap.size; omega) (.slice p3p p3h.length p3k)).other (a := ⟨w7.heap.size, 1, none⟩) (by show _ ≠ w7.heap.size; omega) (.slice p3q p3c.length p3j))
  replace St2 := Lib.hid (St2.out.box Cp.out (notbool _ _ _) (notbool _ _ _) (.slice p3p p3h.length p3k) (.slice p3q p3c.length p3j))
  replace Sp3 := Lib.hid (Sp3.out.box Cp.out (notbool _ _ _) (notbool _ _ _) (.slice p3p p3h.length p3k) (.slice p3q p3c.length p3j))
  replace HB := Lib.hid ((HB.out.setCell (p := ⟨w7.heap.size, 0, none⟩) (by show w.heap.size ≤ w7.heap.size; omega) (.slice p3p p3h.length p3k)).setCell (p := ⟨w7.heap.size, 1, none⟩) (by show w.heap.size ≤ w7.heap.size; omega) (.slice p3q p3c.length p3j))
  replace Cp : Hid (Blk _ w7.heap.size #[.slice p3p p3h.length p3k, .slice p3q p3c.length p3j] 24) := Lib.hid ((Cp.out.set 0 (.slice p3p p3h.length p3k)).set 1 (.slice p3q p3c.length p3j))
  have Cx_0 := Cx.out.cell 0 rfl
  have Cx_1 := Cx.out.cell 1 rfl
  have Ct_0 := Ct.out.cell 0 rfl
  have Ct_1 := Ct.out.cell 1 rfl
  go_wp2_with fail
  clear fz0 fz1 oc0 oc1 Cx_0 Cx_1 Ct_0 Ct_1
  generalize (w21.setCell ⟨w7.heap.size, 0, none⟩ (.slice p3p p3h.length p3k)).setCell ⟨w7.heap.size, 1, none⟩ (.slice p3q p3c.length p3j) = W21 at Sx Cx Sy Cy Sz Cz Cu Ct Cp Cq Sl Cl Cr St2 Sp3 HB ⊢
  have HOp := sum_any _ _ xh xc t2h t2c W21 Sx.out St2.out (by omega) (by omega) (by omega) (by omega)
  rw [xo.out, t2o.out] at HOp
  have hmul := And.intro (mul_bd (a := xc.length) (b := t2c.length) (A := 5) (B := 25) (by omega) (by omega)) (mulOf_pos xc.length t2c.length (by omega) (by omega))
  refine HOp.mono ?_
  rintro e w22 ⟨hr, hb⟩
  obtain ⟨q3h, q3c, q3p, q3k, q3q, q3j, rfl, q3C0, q3l, q3m, G0⟩ := opres_ok hr (by omega) (sum_per (h := xh) (c := xc) (h' := t2h) (c' := t2c) (by omega) (by omega)) (by omega)
  replace Sx := Lib.hid (Sx.out.grows hb)
  replace Cx := Lib.hid (Cx.out.grows hb)
  replace Sy := Lib.hid (Sy.out.grows hb)
  replace Cy := Lib.hid (Cy.out.grows hb)
  replace Sz := Lib.hid (Sz.out.grows hb)
  replace Cz := Lib.hid (Cz.out.grows hb)
  replace Cu := Lib.hid (Cu.out.grows hb)
  replace Ct := Lib.hid (Ct.out.grows hb)
  replace Cp := Lib.hid (Cp.out.grows hb)
  replace Cq := Lib.hid (Cq.out.grows hb)
  replace Sl := Lib.hid (Sl.out.grows hb)
  replace Cl := Lib.hid (Cl.out.grows hb)
  replace Cr := Lib.hid (Cr.out.grows hb)
  replace St2 := Lib.hid (St2.out.grows hb)
  replace Sp3 := Lib.hid (Sp3.out.grows hb)
  replace HB := Lib.hid (HB.out.trans (hb.mono HB.out.size))
  clear hb
  have Sq3 := Lib.hid (G0)
  clear G0 hr HOp
  have q3C := Lib.hid q3C0
  have q3p0 : 0 < q3c.length := q3C0.pos
  clear q3C0
  have q3l2 : q3h.length ≤ 168 := by omega
  have q3m2 : q3c.length ≤ 125 := by omega
  clear q3l q3m
  clear hmul
  have q3o := Lib.hid (okLen_yes q3p0 (show q3h.length + q3c.length ≤ 512 by omega))
  have fz0 := Cq.out.free 0
  have fz1 := Cq.out.free 1
  have oc0 := Cq.out.cell 0 rfl
  have oc1 := Cq.out.cell 1 rfl
  replace Sx := Lib.hid (Sx.out.box Cq.out (notbool _ _ _) (notbool _ _ _) (.slice q3p q3h.length q3k) (.slice q3q q3c.length q3j))
  replace Cx := Lib.hid ((Cx.out.other (a := ⟨w8.heap.size, 0, none⟩) (by show _ ≠ w8.heap.size; omega) (.slice q3p q3h.length q3k)).other (a := ⟨w8.heap.size, 1, none⟩) (by show _ ≠ w8.heap.size; omega) (.slice q3q q3c.length q3j))
  replace Sy := Lib.hid (Sy.out.box Cq.out (notbool _ _ _) (notbool _ _ _) (.slice q3p q3h.length q3k) (.slice q3q q3c.length q3j))
  replace Cy := Lib.hid ((Cy.out.other (a := ⟨w8.heap.size, 0, none⟩) (by show _ ≠ w8.heap.size; omega) (.slice q3p q3h.length q3k)).other (a := ⟨w8.heap.size, 1, none⟩) (by show _ ≠ w8.heap.size; omega) (.slice q3q q3c.length q3j))
  replace Sz := Lib.hid (Sz.out.box Cq.out (notbool _ _ _) (notbool _ _ _) (.slice q3p q3h.length q3k) (.slice q3q q3c.length q3j))
  replace Cz := Lib.hid ((Cz.out.other (a := ⟨w8.heap.size, 0, none⟩) (by show _ ≠ w8.heap.size; omega) (.slice q3p q3h.length q3k)).other (a := ⟨w8.heap.size, 1, none⟩) (by show _ ≠ w8.heap.size; omega) (.slice q3q q3c.length q3j))
  replace Cu := Lib.hid ((Cu.out.other (a := ⟨w8.heap.size, 0, none⟩) (by show _ ≠ w8.heap.size; omega) (.slice q3p q3h.length q3k)).other (a := ⟨w8.heap.size, 1, none⟩) (by show _ ≠ w8.heap.size; omega) (.slice q3q q3c.length q3j))
  replace Ct := Lib.hid ((Ct.out.other (a := ⟨w8.heap.size, 0, none⟩) (by show _ ≠ w8.heap.size; omega) (.slice q3p q3h.length q3k)).other (a := ⟨w8.heap.size, 1, none⟩) (by show _ ≠ w8.heap.size; omega) (.slice q3q q3c.length q3j))
  replace Cp := Lib.hid ((Cp.out.other (a := ⟨w8.heap.size, 0, none⟩) (by show _ ≠ w8.heap.size; omega) (.slice q3p q3h.length q3k)).other (a := ⟨w8.heap.size, 1, none⟩) (by show _ ≠ w8.heap.size; omega) (.slice q3q q3c.length q3j))
  replace Sl := Lib.hid (Sl.out.box Cq.out (notbool _ _ _) (notbool _ _ _) (.slice q3p q3h.length q3k) (.slice q3q q3c.length q3j))
  replace Cl := Lib.hid ((Cl.out.other (a := ⟨w8.heap.size, 0, none⟩) (by show _ ≠ w8.heap.size; omega) (.slice q3p q3h.length q3k)).other (a := ⟨w8.heap.size, 1, none⟩) (by show _ ≠ w8.heap.size; omega) (.slice q3q q3c.length q3j))
  replace Cr := Lib.hid ((Cr.out.other (a := ⟨w8.heap.size, 0, none⟩) (by show _ ≠ w8.heap.size; omega) (.slice q3p q3h.length q3k)).other (a := ⟨w8.heap.size, 1, none⟩) (by show _ ≠ w8.heap.size; omega) (.slice q3q q3c.length q3j))
  replace St2 := Lib.hid (St2.out.box Cq.out (notbool _ _ _) (notbool _ _ _) (.slice q3p q3h.length q3k) (.slice q3q q3c.length q3j))
  replace Sp3 := Lib.hid (Sp3.out.box Cq.out (notbool _ _ _) (notbool _ _ _) (.slice q3p q3h.length q3k) (.slice q3q q3c.length q3j))
  replace Sq3 := Lib.hid (Sq3.out.box Cq.out (notbool _ _ _) (notbool _ _ _) (.slice q3p q3h.length q3k) (.slice q3q q3c.length q3j))
  replace HB := Lib.hid ((HB.out.setCell (p := ⟨w8.heap.size, 0, none⟩) (by show w.heap.size ≤ w8.heap.size; omega) (.slice q3p q3h.length q3k)).setCell (p := ⟨w8.heap.size, 1, none⟩) (by show w.heap.size ≤ w8.heap.size; omega) (.slice q3q q3c.length q3j))
  replace Cq : Hid (Blk _ w8.heap.size #[.slice q3p q3h.length q3k, .slice q3q q3c.length q3j] 24) := Lib.hid ((Cq.out.set 0 (.slice q3p q3h.length q3k)).set 1 (.slice q3q q3c.length q3j))
  have Cp_0 := Cp.out.cell 0 rfl
  have Cp_1 := Cp.out.cell 1 rfl
  have Cq_0 := Cq.out.cell 0 rfl
  have Cq_1 := Cq.out.cell 1 rfl
  go_wp2_with fail
  clear fz0 fz1 oc0 oc1 Cp_0 Cp_1 Cq_0 Cq_1
  generalize (w22.setCell ⟨w8.heap.size, 0, none⟩ (.slice q3p q3h.length q3k)).setCell ⟨w8.heap.size, 1, none⟩ (.slice q3q q3c.length q3j) = W22 at Sx Cx Sy Cy Sz Cz Cu Ct Cp Cq Sl Cl Cr St2 Sp3 Sq3 HB ⊢
  obtain ⟨e1, e2⟩ := p3C.out.unique q3C.out (fun n => by rw [show atL lh lc = sumB (atL xh xc) (atL yh yc) from funext lC.out.val, show atL t2h t2c = sumB (atL yh yc) (atL zh zc) from funext t2C.out.val, sumB_assoc])
  have HSm := same_is _ _ p3h p3c q3h q3c true W22 Sp3.out Sq3.out ((sameS_iff _ _ _ _).2 ⟨e1, e2⟩) (by omega) (by omega) (by omega) (by omega)
  clear e1 e2
  refine HSm.mono ?_
  rintro e w23 ⟨rfl, hb⟩
  replace Sx := Lib.hid (Sx.out.grows hb)
  replace Cx := Lib.hid (Cx.out.grows hb)
  replace Sy := Lib.hid (Sy.out.grows hb)
  replace Cy := Lib.hid (Cy.out.grows hb)
  replace Sz := Lib.hid (Sz.out.grows hb)
  replace Cz := Lib.hid (Cz.out.grows hb)
  replace Cu := Lib.hid (Cu.out.grows hb)
  replace Ct := Lib.hid (Ct.out.grows hb)
  replace Cp := Lib.hid (Cp.out.grows hb)
  replace Cq := Lib.hid (Cq.out.grows hb)
  replace Sl := Lib.hid (Sl.out.grows hb)
  replace Cl := Lib.hid (Cl.out.grows hb)
  replace Cr := Lib.hid (Cr.out.grows hb)
  replace St2 := Lib.hid (St2.out.grows hb)
  replace Sp3 := Lib.hid (Sp3.out.grows hb)
  replace Sq3 := Lib.hid (Sq3.out.grows hb)
  replace HB := Lib.hid (HB.out.trans (hb.mono HB.out.size))
  clear hb
  clear HSm
  go_wp2_with fail
  go_ret
  exact ⟨rfl, HB.out⟩
end Go.Proofs.YthnkgdpifebigaaDoor
