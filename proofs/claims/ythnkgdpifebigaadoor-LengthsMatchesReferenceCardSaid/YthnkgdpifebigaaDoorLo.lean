/-
  The law on intersections and unions: the walk.
-/
import Derived.Test.YthnkgdpifebigaaDoorLm
import Derived.Lib.QuietBelow
set_option linter.unusedSimpArgs false
set_option linter.unusedVariables false
namespace Go.Proofs.YthnkgdpifebigaaDoor
open Go.RowKit Go.Lib

/-- a result that is not too large. -/
theorem opres_ok {B : Nat} {f : Nat → Bool} {W : World} {e : Ending} {P N : Nat} (r : OpRes B true f W e) (hP : 0 < P) (hF : From f P N) (hl : N + P ≤ 512) :
    ∃ h c hp hk cp ck, e = .returned (.tuple #[.agg #[.slice hp h.length hk, .slice cp c.length ck], .int .i64 0]) ∧ IsCanon f h c ∧ h.length ≤ N ∧ c.length ≤ P ∧ IsSet W (.agg #[.slice hp h.length hk, .slice cp c.length ck]) h c := by
  rcases r with ⟨h0, _⟩ | ⟨_, h, c, h1, h2⟩
  · cases h0
  · obtain ⟨k1, k2⟩ := h1.head_le hP hF
    rcases h2 with ⟨_, v, rfl, hown⟩ | ⟨h3, _⟩
    · obtain ⟨hp, hk, cp, ck, rfl, a1, a2⟩ := hown.isSet.shape
      exact ⟨h, c, hp, hk, cp, ck, rfl, h1, k2, k1, _, _, rfl, a1, a2⟩
    · omega
theorem has_canon {f : Nat → Bool} {h c : List Bool} (hc : IsCanon f h c) (hl : h.length + c.length ≤ 512) (n : Int) : hasB h c n = (decide (0 ≤ n) && f n.toNat) := by
  unfold hasB; rw [okLen_yes hc.pos hl, hc.val]; rfl
theorem has_set {h c : List Bool} (hc : 0 < c.length) (hl : h.length + c.length ≤ 512) (n : Int) : hasB h c n = (decide (0 ≤ n) && atL h c n.toNat) := by
  unfold hasB; rw [okLen_yes hc hl]; rfl
theorem dec_and (d x y : Bool) : (d && (x && y)) = ((d && x) && (d && y)) := by cases d <;> cases x <;> cases y <;> rfl
theorem dec_or (d x y : Bool) : (d && (x || y)) = ((d && x) || (d && y)) := by cases d <;> cases x <;> cases y <;> rfl
theorem and_per {h c h' c' : List Bool} (hc : 0 < c.length) (hc' : 0 < c'.length) : From (fun n => atL h c n && atL h' c' n) (mulOf c.length c'.length) (max h.length h'.length) :=
  both_from (fun x y => x && y) (lcm_from (atL_from h c hc) _ (mulOf_left _ _)) (lcm_from (atL_from h' c' hc') _ (mulOf_right _ _))
theorem or_per {h c h' c' : List Bool} (hc : 0 < c.length) (hc' : 0 < c'.length) : From (fun n => atL h c n || atL h' c' n) (mulOf c.length c'.length) (max h.length h'.length) :=
  both_from (fun x y => x || y) (lcm_from (atL_from h c hc) _ (mulOf_left _ _)) (lcm_from (atL_from h' c' hc') _ (mulOf_right _ _))
theorem hasq {W : World} {v : Value} {h c : List Bool} {n : Int} {b : Bool} (hv : IsSet W v h c) (hb : hasB h c n = b) (h1 : h.length ≤ 1000) (h2 : c.length ≤ 1000) (hn : n ≤ 9223372036854775807) (d : Nat) (os : Array Obj) :
    Calls Tryd.prog 19 #[v, .int .i64 n] (Go.Sort.grow (redrawn W d) os) fun e w' => e = .returned (.bool b) ∧ ∃ p : Regrown, w' = Go.Sort.grow (redrawn W p.d) p.os :=
  Calls.regrown_of (has_is v h c n b _ (hv.grows (below_regrown W d os)) hb h1 h2 hn)
theorem rhas_is (v : Value) (h c : List Bool) (n : Int) (r : Bool) (W : World) (hv : IsSet W v h c) (hr : hasB h c n = r) (h1 : h.length ≤ 1000) (h2 : c.length ≤ 1000) (hn : n ≤ 9223372036854775807) :
    Calls Tryd.prog 20 #[v, .int .i64 n] W fun e w' => e = .returned (.bool r) ∧ Below W.heap.size W w' := hr ▸ rhas_any v h c n W hv (by omega) (by omega) hn
theorem rhasq {W : World} {v : Value} {h c : List Bool} {n : Int} {b : Bool} (hv : IsSet W v h c) (hb : hasB h c n = b) (h1 : h.length ≤ 1000) (h2 : c.length ≤ 1000) (hn : n ≤ 9223372036854775807) (d : Nat) (os : Array Obj) :
    Calls Tryd.prog 20 #[v, .int .i64 n] (Go.Sort.grow (redrawn W d) os) fun e w' => e = .returned (.bool b) ∧ ∃ p : Regrown, w' = Go.Sort.grow (redrawn W p.d) p.os :=
  Calls.regrown_of (rhas_is v h c n b _ (hv.grows (below_regrown W d os)) hb h1 h2 hn)
set_option maxRecDepth 100000 in
set_option maxHeartbeats 8000000 in
theorem setops_walk (w : World) (v v' : Value) (h c h' c' : List Bool) (n : Int) (hv : IsSet w v h c) (hu : IsSet w v' h' c') (h1 : h.length ≤ 1152921504606846976) (h2 : c.length ≤ 1152921504606846976) (h3 : h'.length ≤ 1152921504606846976) (h4 : c'.length ≤ 1152921504606846976)
    (hn0 : (-9223372036854775808 : Int) ≤ n) (hn1 : n ≤ 9223372036854775807) (hT : TabAt 0 Lib.deBruijn64tab w) (hg : 0 < w.heap.size) :
    Calls Tryd.prog 6 #[v, v', .int .i64 n] w fun e w' => e = .returned (.bool true) ∧ Below w.heap.size w w' := by
  obtain ⟨hp, hk, cp, ck, rfl, a1, a2⟩ := hv.shape
  obtain ⟨hp', hk', cp', ck', rfl, b1, b2⟩ := hu.shape
  have XS := Lib.hid hv
  have YS := Lib.hid hu
  have HT := Lib.hid (fun W (hW : Below w.heap.size w W) => And.intro (tab_below hT hW hg) (Nat.lt_of_lt_of_le hg hW.size))
  clear hT hg hv a1 a2 hu b1 b2
  go_enter Tryd.func6, Tryd.ntmps6
  go_wp2_with fail
  show Calls Tryd.prog _ _ (al w [(Obj.cells #[.slice hp h.length hk, .slice cp c.length ck] 24), (Obj.cells #[.slice hp' h'.length hk', .slice cp' c'.length ck'] 24)]) _
  obtain ⟨OS, hOS⟩ : ∃ OS, OS = [(Obj.cells #[.slice hp h.length hk, .slice cp c.length ck] 24), (Obj.cells #[.slice hp' h'.length hk', .slice cp' c'.length ck'] 24)] := ⟨_, rfl⟩
  rw [← hOS]
  replace XS := Lib.hid (XS.out.al OS)
  replace YS := Lib.hid (YS.out.al OS)
  have HB := Lib.hid (al_below OS w)
  have BX0 : Blk (al w OS) (w.heap.size) #[.slice hp h.length hk, .slice cp c.length ck] 24 := by rw [hOS]; exact al_blk w _ 0 rfl
  have BY0 : Blk (al w OS) (w.heap.size + 1) #[.slice hp' h'.length hk', .slice cp' c'.length ck'] 24 := by rw [hOS]; exact al_blk w _ 1 rfl
  have BX := Lib.hid BX0
  have BY := Lib.hid BY0
  clear BX0 BY0
  clear hOS
  generalize al w OS = W0 at XS YS BX BY HB ⊢
  refine (sanity_any W0 (HT.out _ HB.out).1 (HT.out _ HB.out).2).mono ?_
  rintro e w1 ⟨rfl, hb⟩
  replace XS := Lib.hid (XS.out.grows hb)
  replace YS := Lib.hid (YS.out.grows hb)
  replace BX := Lib.hid (BX.out.grows hb)
  replace BY := Lib.hid (BY.out.grows hb)
  replace HB := Lib.hid (HB.out.trans (hb.mono HB.out.size))
  clear hb
  have BX_0 := BX.out.cell 0 rfl
  have BX_1 := BX.out.cell 1 rfl
  have BX_l := BX.out.lt
  go_wp2_with fail
  clear BX_0 BX_1 BX_l
  refine (made_is _ h c 12 20 w1 XS.out h1 h2 (by decide) (by decide)).mono ?_
  rintro e w2 ⟨⟨xh, xc, xp, xk, xq, xj, rfl, hG, hxl, hxc, G0⟩, hb⟩
  replace XS := Lib.hid (XS.out.grows hb)
  replace YS := Lib.hid (YS.out.grows hb)
  replace BX := Lib.hid (BX.out.grows hb)
  replace BY := Lib.hid (BY.out.grows hb)
  replace HB := Lib.hid (HB.out.trans (hb.mono HB.out.size))
  clear hb
  have X := Lib.hid (G0)
  clear G0 hG
  clear XS BX
  have BY_0 := BY.out.cell 0 rfl
  have BY_1 := BY.out.cell 1 rfl
  have BY_l := BY.out.lt
  go_wp2_with fail
  clear BY_0 BY_1 BY_l
  show Calls Tryd.prog _ _ (al w2 [(Obj.cells #[.slice xp xh.length xk, .slice xq xc.length xj] 24)]) _
  obtain ⟨OS, hOS⟩ : ∃ OS, OS = [(Obj.cells #[.slice xp xh.length xk, .slice xq xc.length xj] 24)] := ⟨_, rfl⟩
  rw [← hOS]
  replace YS := Lib.hid (YS.out.al OS)
  replace BY := Lib.hid (BY.out.al OS)
  replace X := Lib.hid (X.out.al OS)
  replace HB := Lib.hid (HB.out.trans ((al_below OS w2).mono HB.out.size))
  have CX0 : Blk (al w2 OS) (w2.heap.size) #[.slice xp xh.length xk, .slice xq xc.length xj] 24 := by rw [hOS]; exact al_blk w2 _ 0 rfl
  have CX := Lib.hid CX0
  clear CX0
  clear hOS
  generalize al w2 OS = W2 at YS BY X CX HB ⊢
  refine (made_is _ h' c' 12 20 W2 YS.out h3 h4 (by decide) (by decide)).mono ?_
  rintro e w3 ⟨⟨yh, yc, yp, yk, yq, yj, rfl, hG, hyl, hyc, G0⟩, hb⟩
  replace YS := Lib.hid (YS.out.grows hb)
  replace BY := Lib.hid (BY.out.grows hb)
  replace X := Lib.hid (X.out.grows hb)
  replace CX := Lib.hid (CX.out.grows hb)
  replace HB := Lib.hid (HB.out.trans (hb.mono HB.out.size))
  clear hb
  have Y := Lib.hid (G0)
  clear G0 hG
  clear YS BY
  have hx3 : xh.length ≤ 1152921504606846976 := by omega
  have hx4 : xc.length ≤ 1152921504606846976 := by omega
  have hy3 : yh.length ≤ 1152921504606846976 := by omega
  have hy4 : yc.length ≤ 1152921504606846976 := by omega
  have HOX := Lib.hid (okLen_yes hxc.1 (show xh.length + xc.length ≤ 512 by omega))
  have HOY := Lib.hid (okLen_yes hyc.1 (show yh.length + yc.length ≤ 512 by omega))
  have HMp := Lib.hid (And.intro (mulOf_pos xc.length yc.length hxc.1 hyc.1) (mulOf_pos yc.length xc.length hyc.1 hxc.1))
  have hm1 : mulOf xc.length yc.length ≤ 20 * 20 := Nat.le_trans (mulOf_le _ _) (Nat.mul_le_mul (by omega) (by omega))
  have hm2 : mulOf yc.length xc.length ≤ 20 * 20 := Nat.le_trans (mulOf_le _ _) (Nat.mul_le_mul (by omega) (by omega))
  have HMl := Lib.hid (And.intro hm1 hm2)
  clear hm1 hm2
  have HPa := Lib.hid (and_per (h := xh) (h' := yh) hxc.1 hyc.1)
  have HPo := Lib.hid (or_per (h := xh) (h' := yh) hxc.1 hyc.1)
  have HPa2 := Lib.hid (and_per (h := yh) (h' := xh) hyc.1 hxc.1)
  have HPo2 := Lib.hid (or_per (h := yh) (h' := xh) hyc.1 hxc.1)
  have CX_0 := CX.out.cell 0 rfl
  have CX_1 := CX.out.cell 1 rfl
  have CX_l := CX.out.lt
  go_wp2_with fail
  clear CX_0 CX_1 CX_l
  show Calls Tryd.prog _ _ (al w3 [(Obj.cells #[.slice yp yh.length yk, .slice yq yc.length yj] 24)]) _
  obtain ⟨OS, hOS⟩ : ∃ OS, OS = [(Obj.cells #[.slice yp yh.length yk, .slice yq yc.length yj] 24)] := ⟨_, rfl⟩
  rw [← hOS]
  replace X := Lib.hid (X.out.al OS)
  replace CX := Lib.hid (CX.out.al OS)
  replace Y := Lib.hid (Y.out.al OS)
  replace HB := Lib.hid (HB.out.trans ((al_below OS w3).mono HB.out.size))
  have CY0 : Blk (al w3 OS) (w3.heap.size) #[.slice yp yh.length yk, .slice yq yc.length yj] 24 := by rw [hOS]; exact al_blk w3 _ 0 rfl
  have CY := Lib.hid CY0
  clear CY0
  clear hOS
  generalize al w3 OS = W3 at X CX Y CY HB ⊢
  have HOp := and_any _ _ xh xc yh yc W3 X.out Y.out hx3 hx4 hy3 hy4
  rw [HOX.out, HOY.out] at HOp
  refine HOp.mono ?_
  rintro e w4 ⟨hr, hb⟩
  obtain ⟨ph, pc, pp, pk, pq, pj, rfl, pC0, pl, pm, p0⟩ := opres_ok hr HMp.out.1 HPa.out (by have := HMl.out.1; omega)
  replace X := Lib.hid (X.out.grows hb)
  replace CX := Lib.hid (CX.out.grows hb)
  replace Y := Lib.hid (Y.out.grows hb)
  replace CY := Lib.hid (CY.out.grows hb)
  replace HB := Lib.hid (HB.out.trans (hb.mono HB.out.size))
  clear hb
  have P := Lib.hid (p0)
  clear p0 hr HOp
  have pC := Lib.hid pC0
  clear pC0
  have pw : ph.length + pc.length ≤ 412 := by have := HMl.out.1; omega
  clear pl pm
  have CX_0 := CX.out.cell 0 rfl
  have CX_1 := CX.out.cell 1 rfl
  have CX_l := CX.out.lt
  have CY_0 := CY.out.cell 0 rfl
  have CY_1 := CY.out.cell 1 rfl
  have CY_l := CY.out.lt
  go_wp2_with fail
  clear CX_0 CX_1 CX_l CY_0 CY_1 CY_l
  show Calls Tryd.prog _ _ (al w4 [(Obj.cells #[.slice pp ph.length pk, .slice pq pc.length pj] 24)]) _
  obtain ⟨OS, hOS⟩ : ∃ OS, OS = [(Obj.cells #[.slice pp ph.length pk, .slice pq pc.length pj] 24)] := ⟨_, rfl⟩
  rw [← hOS]
  replace X := Lib.hid (X.out.al OS)
  replace CX := Lib.hid (CX.out.al OS)
  replace Y := Lib.hid (Y.out.al OS)
  replace CY := Lib.hid (CY.out.al OS)
  replace P := Lib.hid (P.out.al OS)
  replace HB := Lib.hid (HB.out.trans ((al_below OS w4).mono HB.out.size))
  have CP0 : Blk (al w4 OS) (w4.heap.size) #[.slice pp ph.length pk, .slice pq pc.length pj] 24 := by rw [hOS]; exact al_blk w4 _ 0 rfl
  have CP := Lib.hid CP0
  clear CP0
  clear hOS
  generalize al w4 OS = W4 at X CX Y CY P CP HB ⊢
  have HOp := or_any _ _ xh xc yh yc W4 X.out Y.out hx3 hx4 hy3 hy4
  rw [HOX.out, HOY.out] at HOp
  refine HOp.mono ?_
  rintro e w5 ⟨hr, hb⟩
  obtain ⟨qh, qc, qp, qk, qq, qj, rfl, qC0, ql, qm, q0⟩ := opres_ok hr HMp.out.1 HPo.out (by have := HMl.out.1; omega)
  replace X := Lib.hid (X.out.grows hb)
  replace CX := Lib.hid (CX.out.grows hb)
  replace Y := Lib.hid (Y.out.grows hb)
  replace CY := Lib.hid (CY.out.grows hb)
  replace P := Lib.hid (P.out.grows hb)
  replace CP := Lib.hid (CP.out.grows hb)
  replace HB := Lib.hid (HB.out.trans (hb.mono HB.out.size))
  clear hb
  have Q := Lib.hid (q0)
  clear q0 hr HOp
  have qC := Lib.hid qC0
  clear qC0
  have qw : qh.length + qc.length ≤ 412 := by have := HMl.out.1; omega
  clear ql qm
  have CX_0 := CX.out.cell 0 rfl
  have CX_1 := CX.out.cell 1 rfl
  have CX_l := CX.out.lt
  have CY_0 := CY.out.cell 0 rfl
  have CY_1 := CY.out.cell 1 rfl
  have CY_l := CY.out.lt
  go_wp2_with fail
  clear CX_0 CX_1 CX_l CY_0 CY_1 CY_l
  show Calls Tryd.prog _ _ (al w5 [(Obj.cells #[.slice qp qh.length qk, .slice qq qc.length qj] 24)]) _
  obtain ⟨OS, hOS⟩ : ∃ OS, OS = [(Obj.cells #[.slice qp qh.length qk, .slice qq qc.length qj] 24)] := ⟨_, rfl⟩
  rw [← hOS]
  replace X := Lib.hid (X.out.al OS)
  replace CX := Lib.hid (CX.out.al OS)
  replace Y := Lib.hid (Y.out.al OS)
  replace CY := Lib.hid (CY.out.al OS)
  replace P := Lib.hid (P.out.al OS)
  replace CP := Lib.hid (CP.out.al OS)
  replace Q := Lib.hid (Q.out.al OS)
  replace HB := Lib.hid (HB.out.trans ((al_below OS w5).mono HB.out.size))
  have CQ0 : Blk (al w5 OS) (w5.heap.size) #[.slice qp qh.length qk, .slice qq qc.length qj] 24 := by rw [hOS]; exact al_blk w5 _ 0 rfl
  have CQ := Lib.hid CQ0
  clear CQ0
  clear hOS
  generalize al w5 OS = W5 at X CX Y CY P CP Q CQ HB ⊢
  have HOp := and_any _ _ yh yc xh xc W5 Y.out X.out hy3 hy4 hx3 hx4
  rw [HOY.out, HOX.out] at HOp
  refine HOp.mono ?_
  rintro e w6 ⟨hr, hb⟩
  obtain ⟨rh, rc, rp, rk, rq, rj, rfl, rC0, rl, rm, r0⟩ := opres_ok hr HMp.out.2 HPa2.out (by have := HMl.out.2; omega)
  replace X := Lib.hid (X.out.grows hb)
  replace CX := Lib.hid (CX.out.grows hb)
  replace Y := Lib.hid (Y.out.grows hb)
  replace CY := Lib.hid (CY.out.grows hb)
  replace P := Lib.hid (P.out.grows hb)
  replace CP := Lib.hid (CP.out.grows hb)
  replace Q := Lib.hid (Q.out.grows hb)
  replace CQ := Lib.hid (CQ.out.grows hb)
  replace HB := Lib.hid (HB.out.trans (hb.mono HB.out.size))
  clear hb
  have R := Lib.hid (r0)
  clear r0 hr HOp
  have rC := Lib.hid rC0
  clear rC0
  have rw : rh.length + rc.length ≤ 412 := by have := HMl.out.2; omega
  clear rl rm
  have CX_0 := CX.out.cell 0 rfl
  have CX_1 := CX.out.cell 1 rfl
  have CX_l := CX.out.lt
  have CY_0 := CY.out.cell 0 rfl
  have CY_1 := CY.out.cell 1 rfl
  have CY_l := CY.out.lt
  go_wp2_with fail
  clear CX_0 CX_1 CX_l CY_0 CY_1 CY_l
  have hrl1 : rh.length = ph.length := by obtain ⟨e1, e2⟩ := pC.out.unique rC.out (fun n => Bool.and_comm _ _); rw [e1]
  have hrl2 : rc.length = pc.length := by obtain ⟨e1, e2⟩ := pC.out.unique rC.out (fun n => Bool.and_comm _ _); rw [e2]
  clear hrl1 hrl2
  obtain ⟨e1, e2⟩ := pC.out.unique rC.out (fun n => Bool.and_comm _ _)
  subst e1
  subst e2
  clear rC rw
  show Calls Tryd.prog _ _ (al w6 [(Obj.cells #[.slice rp ph.length rk, .slice rq pc.length rj] 24)]) _
  obtain ⟨OS, hOS⟩ : ∃ OS, OS = [(Obj.cells #[.slice rp ph.length rk, .slice rq pc.length rj] 24)] := ⟨_, rfl⟩
  rw [← hOS]
  replace X := Lib.hid (X.out.al OS)
  replace CX := Lib.hid (CX.out.al OS)
  replace Y := Lib.hid (Y.out.al OS)
  replace CY := Lib.hid (CY.out.al OS)
  replace P := Lib.hid (P.out.al OS)
  replace CP := Lib.hid (CP.out.al OS)
  replace Q := Lib.hid (Q.out.al OS)
  replace CQ := Lib.hid (CQ.out.al OS)
  replace R := Lib.hid (R.out.al OS)
  replace HB := Lib.hid (HB.out.trans ((al_below OS w6).mono HB.out.size))
  have CR0 : Blk (al w6 OS) (w6.heap.size) #[.slice rp ph.length rk, .slice rq pc.length rj] 24 := by rw [hOS]; exact al_blk w6 _ 0 rfl
  have CR := Lib.hid CR0
  clear CR0
  clear hOS
  generalize al w6 OS = W6 at X CX Y CY P CP Q CQ R CR HB ⊢
  have HOp := or_any _ _ yh yc xh xc W6 Y.out X.out hy3 hy4 hx3 hx4
  rw [HOY.out, HOX.out] at HOp
  refine HOp.mono ?_
  rintro e w7 ⟨hr, hb⟩
  obtain ⟨sh, sc, sp, sk, sq, sj, rfl, sC0, sl, sm, s0⟩ := opres_ok hr HMp.out.2 HPo2.out (by have := HMl.out.2; omega)
  replace X := Lib.hid (X.out.grows hb)
  replace CX := Lib.hid (CX.out.grows hb)
  replace Y := Lib.hid (Y.out.grows hb)
  replace CY := Lib.hid (CY.out.grows hb)
  replace P := Lib.hid (P.out.grows hb)
  replace CP := Lib.hid (CP.out.grows hb)
  replace Q := Lib.hid (Q.out.grows hb)
  replace CQ := Lib.hid (CQ.out.grows hb)
  replace R := Lib.hid (R.out.grows hb)
  replace CR := Lib.hid (CR.out.grows hb)
  replace HB := Lib.hid (HB.out.trans (hb.mono HB.out.size))
  clear hb
  have S := Lib.hid (s0)
  clear s0 hr HOp
  have sC := Lib.hid sC0
  clear sC0
  have sw : sh.length + sc.length ≤ 412 := by have := HMl.out.2; omega
  clear sl sm
  have CP_0 := CP.out.cell 0 rfl
  have CP_1 := CP.out.cell 1 rfl
  have CP_l := CP.out.lt
  have CR_0 := CR.out.cell 0 rfl
  have CR_1 := CR.out.cell 1 rfl
  have CR_l := CR.out.lt
  go_wp2_with fail
  clear CP_0 CP_1 CP_l CR_0 CR_1 CR_l
  obtain ⟨e1, e2⟩ := qC.out.unique sC.out (fun n => Bool.or_comm _ _)
  subst e1
  subst e2
  clear sC sw
  show Calls Tryd.prog _ _ (al w7 [(Obj.cells #[.slice sp qh.length sk, .slice sq qc.length sj] 24)]) _
  obtain ⟨OS, hOS⟩ : ∃ OS, OS = [(Obj.cells #[.slice sp qh.length sk, .slice sq qc.length sj] 24)] := ⟨_, rfl⟩
  rw [← hOS]
  replace X := Lib.hid (X.out.al OS)
  replace CX := Lib.hid (CX.out.al OS)
  replace Y := Lib.hid (Y.out.al OS)
  replace CY := Lib.hid (CY.out.al OS)
  replace P := Lib.hid (P.out.al OS)
  replace CP := Lib.hid (CP.out.al OS)
  replace Q := Lib.hid (Q.out.al OS)
  replace CQ := Lib.hid (CQ.out.al OS)
  replace R := Lib.hid (R.out.al OS)
  replace CR := Lib.hid (CR.out.al OS)
  replace S := Lib.hid (S.out.al OS)
  replace HB := Lib.hid (HB.out.trans ((al_below OS w7).mono HB.out.size))
  have CS0 : Blk (al w7 OS) (w7.heap.size) #[.slice sp qh.length sk, .slice sq qc.length sj] 24 := by rw [hOS]; exact al_blk w7 _ 0 rfl
  have CS := Lib.hid CS0
  clear CS0
  clear hOS
  generalize al w7 OS = W7 at X CX Y CY P CP Q CQ R CR S CS HB ⊢
  refine (same_yes _ _ ph pc W7 P.out R.out (by omega) (by omega)).mono ?_
  rintro e w8 ⟨rfl, hb⟩
  replace X := Lib.hid (X.out.grows hb)
  replace CX := Lib.hid (CX.out.grows hb)
  replace Y := Lib.hid (Y.out.grows hb)
  replace CY := Lib.hid (CY.out.grows hb)
  replace P := Lib.hid (P.out.grows hb)
  replace CP := Lib.hid (CP.out.grows hb)
  replace Q := Lib.hid (Q.out.grows hb)
  replace CQ := Lib.hid (CQ.out.grows hb)
  replace R := Lib.hid (R.out.grows hb)
  replace CR := Lib.hid (CR.out.grows hb)
  replace S := Lib.hid (S.out.grows hb)
  replace CS := Lib.hid (CS.out.grows hb)
  replace HB := Lib.hid (HB.out.trans (hb.mono HB.out.size))
  clear hb
  clear R CR
  have CQ_0 := CQ.out.cell 0 rfl
  have CQ_1 := CQ.out.cell 1 rfl
  have CQ_l := CQ.out.lt
  have CS_0 := CS.out.cell 0 rfl
  have CS_1 := CS.out.cell 1 rfl
  have CS_l := CS.out.lt
  go_wp2_with fail
  clear CQ_0 CQ_1 CQ_l CS_0 CS_1 CS_l
  refine (same_yes _ _ qh qc w8 Q.out S.out (by omega) (by omega)).mono ?_
  rintro e w9 ⟨rfl, hb⟩
  replace X := Lib.hid (X.out.grows hb)
  replace CX := Lib.hid (CX.out.grows hb)
  replace Y := Lib.hid (Y.out.grows hb)
  replace CY := Lib.hid (CY.out.grows hb)
  replace P := Lib.hid (P.out.grows hb)
  replace CP := Lib.hid (CP.out.grows hb)
  replace Q := Lib.hid (Q.out.grows hb)
  replace CQ := Lib.hid (CQ.out.grows hb)
  replace S := Lib.hid (S.out.grows hb)
  replace CS := Lib.hid (CS.out.grows hb)
  replace HB := Lib.hid (HB.out.trans (hb.mono HB.out.size))
  clear hb
  clear S CS
  have HAl := Lib.hid (And.intro HB.out (And.intro CX.out (And.intro CY.out (And.intro CP.out (And.intro CQ.out (And.intro X.out (And.intro Y.out (And.intro P.out Q.out))))))))
  clear HB CX CY CP CQ X Y P Q
  obtain ⟨hbw, CX, CY, CP, CQ, X, Y, P, Q⟩ := HAl.out
  clear HAl
  go_wp2
  go_loopw [18] (fun i wr => ∃ k : Nat, i = .int .i64 (k : Int) ∧ k ≤ 450 ∧ Below w.heap.size w wr ∧ Blk wr w2.heap.size #[.slice xp xh.length xk, .slice xq xc.length xj] 24 ∧ Blk wr w3.heap.size #[.slice yp yh.length yk, .slice yq yc.length yj] 24 ∧ Blk wr w4.heap.size #[.slice pp ph.length pk, .slice pq pc.length pj] 24 ∧ Blk wr w5.heap.size #[.slice qp qh.length qk, .slice qq qc.length qj] 24 ∧ IsSet wr (.agg #[.slice xp xh.length xk, .slice xq xc.length xj]) xh xc ∧ IsSet wr (.agg #[.slice yp yh.length yk, .slice yq yc.length yj]) yh yc ∧ IsSet wr (.agg #[.slice pp ph.length pk, .slice pq pc.length pj]) ph pc ∧ IsSet wr (.agg #[.slice qp qh.length qk, .slice qq qc.length qj]) qh qc) (fun i _ => 450 - (RowKit.intOf i).toNat)
  case atStart => exact ⟨0, rfl, by omega, hbw, CX, CY, CP, CQ, X, Y, P, Q⟩
  case round =>
    clear hbw CX CY CP CQ X Y P Q
    obtain ⟨k, rfl, hk, hbw, CX, CY, CP, CQ, X, Y, P, Q⟩ := hrel
    have HC := Lib.hid (And.intro hbw (And.intro CX (And.intro CY (And.intro CP (And.intro CQ (And.intro X (And.intro Y (And.intro P Q))))))))
    have kCX0 := cell_regrown (CX.cell 0 rfl)
    have kCX1 := cell_regrown (CX.cell 1 rfl)
    have kCY0 := cell_regrown (CY.cell 0 rfl)
    have kCY1 := cell_regrown (CY.cell 1 rfl)
    have kCP0 := cell_regrown (CP.cell 0 rfl)
    have kCP1 := cell_regrown (CP.cell 1 rfl)
    have kCQ0 := cell_regrown (CQ.cell 0 rfl)
    have kCQ1 := cell_regrown (CQ.cell 1 rfl)
    clear CX CY CP CQ hbw
    by_cases hlt : k < 450
    · have e1 : hasB xh xc (k : Int) = atL xh xc k := by rw [has_set hxc.1 (by omega), decide_eq_true (by omega)]; rfl
      have e2 : hasB yh yc (k : Int) = atL yh yc k := by rw [has_set hyc.1 (by omega), decide_eq_true (by omega)]; rfl
      have e3 : hasB ph pc (k : Int) = (atL xh xc k && atL yh yc k) := by rw [has_canon pC.out (by omega), decide_eq_true (by omega)]; rfl
      have e4 : hasB qh qc (k : Int) = (atL xh xc k || atL yh yc k) := by rw [has_canon qC.out (by omega), decide_eq_true (by omega)]; rfl
      generalize atL xh xc k = bx at e1 e3 e4
      generalize atL yh yc k = by' at e2 e3 e4
      cases bx <;> cases by'
      all_goals
        have HX := Lib.hid (rhasq X e1 (by omega) (by omega) (by omega))
        have HY := Lib.hid (rhasq Y e2 (by omega) (by omega) (by omega))
        have HP := Lib.hid (hasq P e3 (by omega) (by omega) (by omega))
        have HQ := Lib.hid (hasq Q e4 (by omega) (by omega) (by omega))
        clear X Y P Q e1 e2 e3 e4
        go_wp2_with fail
        refine wp_region_quiet_below (by kernel_rfl) (by kernel_rfl) ?_
        repeat (go_big_quiet_step (first | with_reducible exact HX.out _ _ | with_reducible exact HY.out _ _ | with_reducible exact HP.out _ _ | with_reducible exact HQ.out _ _))
        refine wpQuiet_nil ?_
        intro _ hw'
        obtain ⟨⟨dq, osq⟩, hw''⟩ := hw'
        subst hw''
        have hgr := below_regrown wr dq osq
        obtain ⟨hbw, CX, CY, CP, CQ, X, Y, P, Q⟩ := HC.out
        go_wp2_with fail
        go_roundw
        case rel => exact ⟨k + 1, by go_num, by omega, below_two hbw hgr, CX.grows hgr, CY.grows hgr, CP.grows hgr, CQ.grows hgr, X.grows hgr, Y.grows hgr, P.grows hgr, Q.grows hgr⟩
        case measure => simp [RowKit.intOf]; omega
    · obtain rfl : k = 450 := by omega
      have e1 := has_set (h := xh) hxc.1 (show xh.length + xc.length ≤ 512 by omega) n
      have e2 := has_set (h := yh) hyc.1 (show yh.length + yc.length ≤ 512 by omega) n
      have e3 : hasB ph pc n = (hasB xh xc n && hasB yh yc n) := by rw [has_canon pC.out (by omega), e1, e2, dec_and]
      have e4 : hasB qh qc n = (hasB xh xc n || hasB yh yc n) := by rw [has_canon qC.out (by omega), e1, e2, dec_or]
      clear e1 e2
      obtain ⟨bx, e1⟩ : ∃ b, hasB xh xc n = b := ⟨_, rfl⟩
      obtain ⟨b2, e2⟩ : ∃ b, hasB yh yc n = b := ⟨_, rfl⟩
      rw [e1, e2] at e3 e4
      cases bx <;> cases b2
      all_goals
        have HX := Lib.hid (hasq X e1 (by omega) (by omega) hn1)
        have HY := Lib.hid (hasq Y e2 (by omega) (by omega) hn1)
        have HP := Lib.hid (hasq P e3 (by omega) (by omega) hn1)
        have HQ := Lib.hid (hasq Q e4 (by omega) (by omega) hn1)
        clear X Y P Q e1 e2 e3 e4
        go_wp2_with fail
        refine wp_region_quiet_below (by kernel_rfl) (by kernel_rfl) ?_
        repeat (go_big_quiet_step (first | with_reducible exact HX.out _ _ | with_reducible exact HY.out _ _ | with_reducible exact HP.out _ _ | with_reducible exact HQ.out _ _))
        refine wpQuiet_nil ?_
        intro _ hw'
        obtain ⟨⟨dq, osq⟩, hw''⟩ := hw'
        subst hw''
        have hgr := below_regrown wr dq osq
        go_wp2_with fail
        go_ret
        exact ⟨rfl, below_two HC.out.1 hgr⟩
end Go.Proofs.YthnkgdpifebigaaDoor
