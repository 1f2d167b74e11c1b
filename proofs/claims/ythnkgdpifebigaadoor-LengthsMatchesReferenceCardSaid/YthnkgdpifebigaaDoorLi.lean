/-
  The law on invalid sets: the walk.
-/
import Derived.Test.YthnkgdpifebigaaDoorSn
import Derived.Test.YthnkgdpifebigaaDoorMd
set_option linter.unusedSimpArgs false
set_option linter.unusedVariables false
namespace Go.Proofs.YthnkgdpifebigaaDoor
open Go.RowKit Go.Lib

theorem opres_no {B : Nat} {f : Nat → Bool} {W : World} {e : Ending} (r : OpRes B false f W e) : e = .returned (.tuple #[.agg #[.slice none 0 0, .slice none 0 0], .int .i64 1]) := by
  rcases r with ⟨_, h⟩ | ⟨h, _⟩
  · exact h
  · cases h
theorem IsB.al {w : World} {v : Value} {l : List Bool} (a : IsB w v l) (os : List Obj) : IsB (Go.Proofs.YthnkgdpifebigaaDoor.al w os) v l := a.grows (al_below os w)
/-- Made, its result's parts named. -/
theorem made_is (v : Value) (h c : List Bool) (hd cy : Nat) (w : World) (hv : IsSet w v h c) (h1 : h.length ≤ 1152921504606846976) (h2 : c.length ≤ 1152921504606846976) (hhd : hd ≤ 1000) (hcy : cy ≤ 1000) :
    Calls Tryd.prog 13 #[v, .int .i64 (hd : Int), .int .i64 (cy : Int)] w fun e w' =>
      (∃ gh gc gp gk qp qk, e = .returned (.agg #[.slice gp gh.length gk, .slice qp gc.length qk]) ∧ Hid (gh = h.take hd ∧ gc = cycOf (c.take cy)) ∧ gh.length ≤ hd ∧ (0 < gc.length ∧ gc.length ≤ max 1 cy) ∧
        IsSet w' (.agg #[.slice gp gh.length gk, .slice qp gc.length qk]) gh gc) ∧ Below w.heap.size w w' := by
  refine (made_any v h c hd cy w hv h1 h2 hhd hcy).mono ?_
  rintro e w' ⟨⟨vo, rfl, hown⟩, hb⟩
  obtain ⟨gp, gk, qp, qk, rfl, b1, b2⟩ := hown.isSet.shape
  have h3 := cycOf_len (c.take cy)
  have h4 : (c.take cy).length ≤ cy := by rw [List.length_take]; omega
  exact ⟨⟨h.take hd, cycOf (c.take cy), gp, gk, qp, qk, rfl, Lib.hid ⟨rfl, rfl⟩, by rw [List.length_take]; omega, ⟨h3.1, by omega⟩, _, _, rfl, b1, b2⟩, hb⟩
theorem okLen_no {h c : Nat} (hb : c = 0 ∨ 512 < c) : okLen h c = false := decide_eq_false fun e => by omega
theorem valid_no (hp cp : Option Addr) (hn hk cn ck : Nat) (w : World) (hb : okLen hn cn = false) (h1 : hn ≤ 1152921504606846976) (h2 : cn ≤ 1152921504606846976) :
    Calls Tryd.prog 17 #[.agg #[.slice hp hn hk, .slice cp cn ck]] w fun e w' => e = .returned (.bool false) ∧ Below w.heap.size w w' := hb ▸ valid_any hp cp hn hk cn ck w h1 h2
theorem has_no (v : Value) (h c : List Bool) (n : Int) (w : World) (hv : IsSet w v h c) (hb : okLen h.length c.length = false) (h1 : h.length ≤ 1152921504606846976) (h2 : c.length ≤ 1152921504606846976) (hn : n ≤ 9223372036854775807) :
    Calls Tryd.prog 19 #[v, .int .i64 n] w fun e w' => e = .returned (.bool false) ∧ Below w.heap.size w w' := by
  have h0 := has_any v h c n w hv h1 h2 hn
  rwa [show hasB h c n = false by unfold hasB; rw [hb]; rfl] at h0
theorem least_no (v : Value) (h c : List Bool) (n : Int) (w : World) (hv : IsSet w v h c) (hb : okLen h.length c.length = false) (h1 : h.length ≤ 1152921504606846976) (h2 : c.length ≤ 1152921504606846976) (hn : (-9223372036854775808 : Int) ≤ n) :
    Calls Tryd.prog 21 #[v, .int .i64 n] w fun e w' => e = .returned (.int .i64 (-1)) ∧ Below w.heap.size w w' := by
  have h0 := least_any v h c n w hv h1 h2 hn
  rwa [show leastS h c n = -1 by unfold leastS; rw [hb]; rfl] at h0
theorem canon_no (v : Value) (h c : List Bool) (w : World) (hv : IsSet w v h c) (hb : okLen h.length c.length = false) (h1 : h.length ≤ 1152921504606846976) (h2 : c.length ≤ 1152921504606846976) :
    Calls Tryd.prog 14 #[v] w fun e w' => e = .returned (.tuple #[.agg #[.slice none 0 0, .slice none 0 0], .int .i64 1]) ∧ Below w.heap.size w w' :=
  (canon_any v h c w hv h1 h2).mono fun e w' ⟨r, hb'⟩ => ⟨opres_no (hb ▸ r), hb'⟩
theorem and_no (v u : Value) (h c h' c' : List Bool) (w : World) (hv : IsSet w v h c) (hu : IsSet w u h' c') (hb : (okLen h.length c.length && okLen h'.length c'.length) = false) (h1 : h.length ≤ 1152921504606846976) (h2 : c.length ≤ 1152921504606846976) (h3 : h'.length ≤ 1152921504606846976) (h4 : c'.length ≤ 1152921504606846976) :
    Calls Tryd.prog 23 #[v, u] w fun e w' => e = .returned (.tuple #[.agg #[.slice none 0 0, .slice none 0 0], .int .i64 1]) ∧ Below w.heap.size w w' :=
  (and_any v u h c h' c' w hv hu h1 h2 h3 h4).mono fun e w' ⟨r, hb'⟩ => ⟨opres_no (hb ▸ r), hb'⟩
theorem or_no (v u : Value) (h c h' c' : List Bool) (w : World) (hv : IsSet w v h c) (hu : IsSet w u h' c') (hb : (okLen h.length c.length && okLen h'.length c'.length) = false) (h1 : h.length ≤ 1152921504606846976) (h2 : c.length ≤ 1152921504606846976) (h3 : h'.length ≤ 1152921504606846976) (h4 : c'.length ≤ 1152921504606846976) :
    Calls Tryd.prog 25 #[v, u] w fun e w' => e = .returned (.tuple #[.agg #[.slice none 0 0, .slice none 0 0], .int .i64 1]) ∧ Below w.heap.size w w' :=
  (or_any v u h c h' c' w hv hu h1 h2 h3 h4).mono fun e w' ⟨r, hb'⟩ => ⟨opres_no (hb ▸ r), hb'⟩
theorem sum_no (v u : Value) (h c h' c' : List Bool) (w : World) (hv : IsSet w v h c) (hu : IsSet w u h' c') (hb : (okLen h.length c.length && okLen h'.length c'.length) = false) (h1 : h.length ≤ 1152921504606846976) (h2 : c.length ≤ 1152921504606846976) (h3 : h'.length ≤ 1152921504606846976) (h4 : c'.length ≤ 1152921504606846976) :
    Calls Tryd.prog 27 #[v, u] w fun e w' => e = .returned (.tuple #[.agg #[.slice none 0 0, .slice none 0 0], .int .i64 1]) ∧ Below w.heap.size w w' :=
  (sum_any v u h c h' c' w hv hu h1 h2 h3 h4).mono fun e w' ⟨r, hb'⟩ => ⟨opres_no (hb ▸ r), hb'⟩
theorem made_falses (W : World) (g m : Nat) (h : Blk W g (rowB m 0 fun _ => false) 4) : IsB W (.slice (some ⟨g, 0, none⟩) m m) ((List.range m).map fun _ => false) := by
  have h2 := h.cast (rowB_start m fun _ => false)
  refine .inr ⟨g, 0, m, by simp, by simp, ?_⟩
  exact rowB_reads h2
set_option maxRecDepth 100000 in
set_option maxHeartbeats 8000000 in
theorem rejects_walk (w : World) (v : Value) (h c : List Bool) (y n : Int) (hv : IsSet w v h c) (h1 : h.length ≤ 1152921504606846976) (h2 : c.length ≤ 1152921504606846976) (hy0 : 0 ≤ y) (hy1 : y < 65536) (hn0 : (-9223372036854775808 : Int) ≤ n) (hn1 : n ≤ 9223372036854775807)
    (hT : TabAt 0 Lib.deBruijn64tab w) (hg : 0 < w.heap.size) :
    Calls Tryd.prog 11 #[v, .int .u16 y, .int .i64 n] w fun e w' => e = .returned (.bool true) ∧ Below w.heap.size w w' := by
  obtain ⟨hp, hk, cp, ck, rfl, a1, a2⟩ := hv.shape
  have XS := Lib.hid hv
  have AH := Lib.hid a1
  have HT := Lib.hid (fun W (hW : Below w.heap.size w W) => And.intro (tab_below hT hW hg) (Nat.lt_of_lt_of_le hg hW.size))
  obtain ⟨i0, hi, hz0, hz1, hz2⟩ := info_parts infoBool
  clear hT hg hv a1 a2
  go_enter Tryd.func11, Tryd.ntmps11
  go_wp2_with fail
  show Calls Tryd.prog _ _ (al w [(Obj.cells #[.slice hp h.length hk, .slice cp c.length ck] 24)]) _
  obtain ⟨OS, hOS⟩ : ∃ OS, OS = [(Obj.cells #[.slice hp h.length hk, .slice cp c.length ck] 24)] := ⟨_, rfl⟩
  rw [← hOS]
  replace XS := Lib.hid (XS.out.al OS)
  replace AH := Lib.hid (AH.out.al OS)
  have HB := Lib.hid (al_below OS w)
  have BX0 : Blk (al w OS) (w.heap.size) #[.slice hp h.length hk, .slice cp c.length ck] 24 := by rw [hOS]; exact al_blk w _ 0 rfl
  have BX := Lib.hid BX0
  clear BX0
  clear hOS
  generalize al w OS = W0 at XS AH BX HB ⊢
  refine (sanity_any W0 (HT.out _ HB.out).1 (HT.out _ HB.out).2).mono ?_
  rintro e w1 ⟨rfl, hb⟩
  replace XS := Lib.hid (XS.out.grows hb)
  replace AH := Lib.hid (AH.out.grows hb)
  replace BX := Lib.hid (BX.out.grows hb)
  replace HB := Lib.hid (HB.out.trans (hb.mono HB.out.size))
  clear hb
  by_cases hodd : y % 2 = 1
  · skip
    obtain ⟨m, hm⟩ : ∃ m : Nat, (513 : Int) + y % 100 = (m : Int) := ⟨(513 + y % 100).toNat, by omega⟩
    have hm1 : 513 ≤ m ∧ m ≤ 613 := by omega
    have HM := Lib.hid (rowB_zero m (fun _ => false))
    have BX_0 := BX.out.cell 0 rfl
    have BX_1 := BX.out.cell 1 rfl
    have BX_l := BX.out.lt
    go_wp2_with (at_make; refine wpList_make_row _ rfl _ _ 22 rfl 4 i0 _ Tryd.underlying22 hi hz0 hz1 rfl _ _ m rfl rfl (by rw [hz2]; omega) (by omega) ?_; rw [HM.out])
    clear BX_0 BX_1 BX_l
    show Calls Tryd.prog _ _ (al w1 [(Obj.cells #[.slice hp h.length hk, .slice (some ⟨w1.heap.size + 1, 0, none⟩) m m] 24), (Obj.cells (rowB m 0 fun _ => false) 4)]) _
    obtain ⟨OS, hOS⟩ : ∃ OS, OS = [(Obj.cells #[.slice hp h.length hk, .slice (some ⟨w1.heap.size + 1, 0, none⟩) m m] 24), (Obj.cells (rowB m 0 fun _ => false) 4)] := ⟨_, rfl⟩
    rw [← hOS]
    replace XS := Lib.hid (XS.out.al OS)
    replace AH := Lib.hid (AH.out.al OS)
    replace BX := Lib.hid (BX.out.al OS)
    replace HB := Lib.hid (HB.out.trans ((al_below OS w1).mono HB.out.size))
    have BB0 : Blk (al w1 OS) (w1.heap.size) #[.slice hp h.length hk, .slice (some ⟨w1.heap.size + 1, 0, none⟩) m m] 24 := by rw [hOS]; exact al_blk w1 _ 0 rfl
    have YC0 : IsB (al w1 OS) (.slice (some ⟨w1.heap.size + 1, 0, none⟩) m m) ((List.range m).map fun _ => false) := by rw [hOS]; exact made_falses _ _ m (al_blk w1 _ 1 rfl)
    have BB := Lib.hid BB0
    have YC := Lib.hid YC0
    clear BB0 YC0
    clear hOS
    generalize al w1 OS = W1 at XS AH BX BB YC HB ⊢
    have hcl : ((List.range m).map fun _ => false).length = m := by simp
    obtain ⟨cl, hcl2⟩ : ∃ cl, cl = ((List.range m).map fun _ => false) := ⟨_, rfl⟩
    rw [← hcl2] at hcl
    replace YC : Hid (IsB W1 (.slice (some ⟨w1.heap.size + 1, 0, none⟩) m m) cl) := Lib.hid (by rw [hcl2]; exact YC.out)
    clear hcl2
    have hbad2 : okLen h.length m = false := okLen_no (.inr (by omega))
    have hbad : okLen h.length cl.length = false := by rw [hcl]; exact hbad2
    have hcl3 : cl.length ≤ 1152921504606846976 := by omega
    clear hm hcl HM
    have Y0 : IsSet W1 (.agg #[.slice hp h.length hk, .slice (some ⟨w1.heap.size + 1, 0, none⟩) m m]) h cl := ⟨_, _, rfl, AH.out, YC.out⟩
    have Y := Lib.hid (Y0)
    clear Y0
    clear YC AH
    refine (made_is _ h c 5 5 W1 XS.out h1 h2 (by decide) (by decide)).mono ?_
    rintro e w2 ⟨⟨gh, gc, gp, gk, qp, qk, rfl, hG, hgl, hgc, G0⟩, hb⟩
    replace XS := Lib.hid (XS.out.grows hb)
    replace BX := Lib.hid (BX.out.grows hb)
    replace BB := Lib.hid (BB.out.grows hb)
    replace Y := Lib.hid (Y.out.grows hb)
    replace HB := Lib.hid (HB.out.trans (hb.mono HB.out.size))
    clear hb
    have G := Lib.hid (G0)
    clear G0 hG
    clear XS BX
    have hg3 : gh.length ≤ 1152921504606846976 := by omega
    have hg4 : gc.length ≤ 1152921504606846976 := by omega
    have hok1 : (okLen gh.length gc.length && okLen h.length cl.length) = false := by rw [hbad, Bool.and_false]
    have hok2 : (okLen h.length cl.length && okLen gh.length gc.length) = false := by rw [hbad, Bool.false_and]
    have hok3 : (okLen h.length cl.length && okLen h.length cl.length) = false := by rw [hbad, Bool.false_and]
    have HOK := Lib.hid (And.intro hok1 (And.intro hok2 (And.intro hok3 (And.intro hbad hbad2))))
    clear hok1 hok2 hok3 hbad hbad2
    have BB_0 := BB.out.cell 0 rfl
    have BB_1 := BB.out.cell 1 rfl
    have BB_l := BB.out.lt
    go_wp2_with fail
    clear BB_0 BB_1 BB_l
    show Calls Tryd.prog _ _ (al w2 [(Obj.cells #[.slice gp gh.length gk, .slice qp gc.length qk] 24)]) _
    obtain ⟨OS, hOS⟩ : ∃ OS, OS = [(Obj.cells #[.slice gp gh.length gk, .slice qp gc.length qk] 24)] := ⟨_, rfl⟩
    rw [← hOS]
    replace BB := Lib.hid (BB.out.al OS)
    replace Y := Lib.hid (Y.out.al OS)
    replace G := Lib.hid (G.out.al OS)
    replace HB := Lib.hid (HB.out.trans ((al_below OS w2).mono HB.out.size))
    have BG0 : Blk (al w2 OS) (w2.heap.size) #[.slice gp gh.length gk, .slice qp gc.length qk] 24 := by rw [hOS]; exact al_blk w2 _ 0 rfl
    have BG := Lib.hid BG0
    clear BG0
    clear hOS
    generalize al w2 OS = W2 at BB Y G BG HB ⊢
    refine (canon_no _ h cl W2 Y.out HOK.out.2.2.2.1 h1 hcl3).mono ?_
    rintro e w3 ⟨rfl, hb⟩
    replace BB := Lib.hid (BB.out.grows hb)
    replace Y := Lib.hid (Y.out.grows hb)
    replace G := Lib.hid (G.out.grows hb)
    replace BG := Lib.hid (BG.out.grows hb)
    replace HB := Lib.hid (HB.out.trans (hb.mono HB.out.size))
    clear hb
    have BB_0 := BB.out.cell 0 rfl
    have BB_1 := BB.out.cell 1 rfl
    have BB_l := BB.out.lt
    have BG_0 := BG.out.cell 0 rfl
    have BG_1 := BG.out.cell 1 rfl
    have BG_l := BG.out.lt
    go_wp2_with fail
    clear BB_0 BB_1 BB_l BG_0 BG_1 BG_l
    show Calls Tryd.prog _ _ (al w3 [(Obj.cells #[.slice none 0 0, .slice none 0 0] 24)]) _
    obtain ⟨OS, hOS⟩ : ∃ OS, OS = [(Obj.cells #[.slice none 0 0, .slice none 0 0] 24)] := ⟨_, rfl⟩
    rw [← hOS]
    replace BB := Lib.hid (BB.out.al OS)
    replace Y := Lib.hid (Y.out.al OS)
    replace G := Lib.hid (G.out.al OS)
    replace BG := Lib.hid (BG.out.al OS)
    replace HB := Lib.hid (HB.out.trans ((al_below OS w3).mono HB.out.size))
    have BC0 : Blk (al w3 OS) (w3.heap.size) #[.slice none 0 0, .slice none 0 0] 24 := by rw [hOS]; exact al_blk w3 _ 0 rfl
    have BC := Lib.hid BC0
    clear BC0
    clear hOS
    generalize al w3 OS = W3 at BB Y G BG BC HB ⊢
    refine (and_no _ _ gh gc h cl W3 G.out Y.out HOK.out.1 hg3 hg4 h1 hcl3).mono ?_
    rintro e w4 ⟨rfl, hb⟩
    replace BB := Lib.hid (BB.out.grows hb)
    replace Y := Lib.hid (Y.out.grows hb)
    replace G := Lib.hid (G.out.grows hb)
    replace BG := Lib.hid (BG.out.grows hb)
    replace BC := Lib.hid (BC.out.grows hb)
    replace HB := Lib.hid (HB.out.trans (hb.mono HB.out.size))
    clear hb
    have BB_0 := BB.out.cell 0 rfl
    have BB_1 := BB.out.cell 1 rfl
    have BB_l := BB.out.lt
    have BG_0 := BG.out.cell 0 rfl
    have BG_1 := BG.out.cell 1 rfl
    have BG_l := BG.out.lt
    go_wp2_with fail
    clear BB_0 BB_1 BB_l BG_0 BG_1 BG_l
    show Calls Tryd.prog _ _ (al w4 [(Obj.cells #[.slice none 0 0, .slice none 0 0] 24)]) _
    obtain ⟨OS, hOS⟩ : ∃ OS, OS = [(Obj.cells #[.slice none 0 0, .slice none 0 0] 24)] := ⟨_, rfl⟩
    rw [← hOS]
    replace BB := Lib.hid (BB.out.al OS)
    replace Y := Lib.hid (Y.out.al OS)
    replace G := Lib.hid (G.out.al OS)
    replace BG := Lib.hid (BG.out.al OS)
    replace BC := Lib.hid (BC.out.al OS)
    replace HB := Lib.hid (HB.out.trans ((al_below OS w4).mono HB.out.size))
    have BD0 : Blk (al w4 OS) (w4.heap.size) #[.slice none 0 0, .slice none 0 0] 24 := by rw [hOS]; exact al_blk w4 _ 0 rfl
    have BD := Lib.hid BD0
    clear BD0
    clear hOS
    generalize al w4 OS = W4 at BB Y G BG BC BD HB ⊢
    refine (or_no _ _ h cl gh gc W4 Y.out G.out HOK.out.2.1 h1 hcl3 hg3 hg4).mono ?_
    rintro e w5 ⟨rfl, hb⟩
    replace BB := Lib.hid (BB.out.grows hb)
    replace Y := Lib.hid (Y.out.grows hb)
    replace G := Lib.hid (G.out.grows hb)
    replace BG := Lib.hid (BG.out.grows hb)
    replace BC := Lib.hid (BC.out.grows hb)
    replace BD := Lib.hid (BD.out.grows hb)
    replace HB := Lib.hid (HB.out.trans (hb.mono HB.out.size))
    clear hb
    clear G BG
    have BB_0 := BB.out.cell 0 rfl
    have BB_1 := BB.out.cell 1 rfl
    have BB_l := BB.out.lt
    go_wp2_with fail
    clear BB_0 BB_1 BB_l
    show Calls Tryd.prog _ _ (al w5 [(Obj.cells #[.slice none 0 0, .slice none 0 0] 24)]) _
    obtain ⟨OS, hOS⟩ : ∃ OS, OS = [(Obj.cells #[.slice none 0 0, .slice none 0 0] 24)] := ⟨_, rfl⟩
    rw [← hOS]
    replace BB := Lib.hid (BB.out.al OS)
    replace Y := Lib.hid (Y.out.al OS)
    replace BC := Lib.hid (BC.out.al OS)
    replace BD := Lib.hid (BD.out.al OS)
    replace HB := Lib.hid (HB.out.trans ((al_below OS w5).mono HB.out.size))
    have BE0 : Blk (al w5 OS) (w5.heap.size) #[.slice none 0 0, .slice none 0 0] 24 := by rw [hOS]; exact al_blk w5 _ 0 rfl
    have BE := Lib.hid BE0
    clear BE0
    clear hOS
    generalize al w5 OS = W5 at BB Y BC BD BE HB ⊢
    refine (sum_no _ _ h cl h cl W5 Y.out Y.out HOK.out.2.2.1 h1 hcl3 h1 hcl3).mono ?_
    rintro e w6 ⟨rfl, hb⟩
    replace BB := Lib.hid (BB.out.grows hb)
    replace Y := Lib.hid (Y.out.grows hb)
    replace BC := Lib.hid (BC.out.grows hb)
    replace BD := Lib.hid (BD.out.grows hb)
    replace BE := Lib.hid (BE.out.grows hb)
    replace HB := Lib.hid (HB.out.trans (hb.mono HB.out.size))
    clear hb
    have BB_0 := BB.out.cell 0 rfl
    have BB_1 := BB.out.cell 1 rfl
    have BB_l := BB.out.lt
    go_wp2_with fail
    clear BB_0 BB_1 BB_l
    show Calls Tryd.prog _ _ (al w6 [(Obj.cells #[.slice none 0 0, .slice none 0 0] 24)]) _
    obtain ⟨OS, hOS⟩ : ∃ OS, OS = [(Obj.cells #[.slice none 0 0, .slice none 0 0] 24)] := ⟨_, rfl⟩
    rw [← hOS]
    replace BB := Lib.hid (BB.out.al OS)
    replace Y := Lib.hid (Y.out.al OS)
    replace BC := Lib.hid (BC.out.al OS)
    replace BD := Lib.hid (BD.out.al OS)
    replace BE := Lib.hid (BE.out.al OS)
    replace HB := Lib.hid (HB.out.trans ((al_below OS w6).mono HB.out.size))
    have BF0 : Blk (al w6 OS) (w6.heap.size) #[.slice none 0 0, .slice none 0 0] 24 := by rw [hOS]; exact al_blk w6 _ 0 rfl
    have BF := Lib.hid BF0
    clear BF0
    clear hOS
    generalize al w6 OS = W6 at BB Y BC BD BE BF HB ⊢
    refine (valid_no hp _ h.length hk m _ W6 HOK.out.2.2.2.2 h1 (by omega)).mono ?_
    rintro e w7 ⟨rfl, hb⟩
    replace BB := Lib.hid (BB.out.grows hb)
    replace Y := Lib.hid (Y.out.grows hb)
    replace BC := Lib.hid (BC.out.grows hb)
    replace BD := Lib.hid (BD.out.grows hb)
    replace BE := Lib.hid (BE.out.grows hb)
    replace BF := Lib.hid (BF.out.grows hb)
    replace HB := Lib.hid (HB.out.trans (hb.mono HB.out.size))
    clear hb
    have BB_0 := BB.out.cell 0 rfl
    have BB_1 := BB.out.cell 1 rfl
    have BB_l := BB.out.lt
    go_wp2_with fail
    clear BB_0 BB_1 BB_l
    refine (has_no _ h cl n w7 Y.out HOK.out.2.2.2.1 h1 hcl3 hn1).mono ?_
    rintro e w8 ⟨rfl, hb⟩
    replace BB := Lib.hid (BB.out.grows hb)
    replace Y := Lib.hid (Y.out.grows hb)
    replace BC := Lib.hid (BC.out.grows hb)
    replace BD := Lib.hid (BD.out.grows hb)
    replace BE := Lib.hid (BE.out.grows hb)
    replace BF := Lib.hid (BF.out.grows hb)
    replace HB := Lib.hid (HB.out.trans (hb.mono HB.out.size))
    clear hb
    have BB_0 := BB.out.cell 0 rfl
    have BB_1 := BB.out.cell 1 rfl
    have BB_l := BB.out.lt
    go_wp2_with fail
    clear BB_0 BB_1 BB_l
    refine (least_no _ h cl n w8 Y.out HOK.out.2.2.2.1 h1 hcl3 hn0).mono ?_
    rintro e w9 ⟨rfl, hb⟩
    replace BB := Lib.hid (BB.out.grows hb)
    replace Y := Lib.hid (Y.out.grows hb)
    replace BC := Lib.hid (BC.out.grows hb)
    replace BD := Lib.hid (BD.out.grows hb)
    replace BE := Lib.hid (BE.out.grows hb)
    replace BF := Lib.hid (BF.out.grows hb)
    replace HB := Lib.hid (HB.out.trans (hb.mono HB.out.size))
    clear hb
    have BC_0 := BC.out.cell 0 rfl
    have BC_1 := BC.out.cell 1 rfl
    have BC_l := BC.out.lt
    have BD_0 := BD.out.cell 0 rfl
    have BD_1 := BD.out.cell 1 rfl
    have BD_l := BD.out.lt
    have BE_0 := BE.out.cell 0 rfl
    have BE_1 := BE.out.cell 1 rfl
    have BE_l := BE.out.lt
    have BF_0 := BF.out.cell 0 rfl
    have BF_1 := BF.out.cell 1 rfl
    have BF_l := BF.out.lt
    go_wp2_with fail
    go_ret
    exact ⟨rfl, HB.out⟩
  · skip
    have BX_0 := BX.out.cell 0 rfl
    have BX_1 := BX.out.cell 1 rfl
    have BX_l := BX.out.lt
    go_wp2_with fail
    clear BX_0 BX_1 BX_l
    show Calls Tryd.prog _ _ (al w1 [(Obj.cells #[.slice hp h.length hk, .slice none 0 0] 24)]) _
    obtain ⟨OS, hOS⟩ : ∃ OS, OS = [(Obj.cells #[.slice hp h.length hk, .slice none 0 0] 24)] := ⟨_, rfl⟩
    rw [← hOS]
    replace XS := Lib.hid (XS.out.al OS)
    replace AH := Lib.hid (AH.out.al OS)
    replace BX := Lib.hid (BX.out.al OS)
    replace HB := Lib.hid (HB.out.trans ((al_below OS w1).mono HB.out.size))
    have BB0 : Blk (al w1 OS) (w1.heap.size) #[.slice hp h.length hk, .slice none 0 0] 24 := by rw [hOS]; exact al_blk w1 _ 0 rfl
    have YC0 : IsB (al w1 OS) (.slice none 0 0) [] := isB_nil _
    have BB := Lib.hid BB0
    have YC := Lib.hid YC0
    clear BB0 YC0
    clear hOS
    generalize al w1 OS = W1 at XS AH BX BB YC HB ⊢
    obtain ⟨cl, hcl2⟩ : ∃ cl : List Bool, cl = [] := ⟨_, rfl⟩
    replace YC : Hid (IsB W1 (.slice none 0 0) cl) := Lib.hid (by rw [hcl2]; exact YC.out)
    have hcl : cl.length = 0 := by rw [hcl2]; rfl
    clear hcl2
    have hbad2 : okLen h.length 0 = false := okLen_no (.inl rfl)
    have hbad : okLen h.length cl.length = false := by rw [hcl]; exact hbad2
    have hcl3 : cl.length ≤ 1152921504606846976 := by omega
    clear hcl
    have Y0 : IsSet W1 (.agg #[.slice hp h.length hk, .slice none 0 0]) h cl := ⟨_, _, rfl, AH.out, YC.out⟩
    have Y := Lib.hid (Y0)
    clear Y0
    clear YC AH
    refine (made_is _ h c 5 5 W1 XS.out h1 h2 (by decide) (by decide)).mono ?_
    rintro e w2 ⟨⟨gh, gc, gp, gk, qp, qk, rfl, hG, hgl, hgc, G0⟩, hb⟩
    replace XS := Lib.hid (XS.out.grows hb)
    replace BX := Lib.hid (BX.out.grows hb)
    replace BB := Lib.hid (BB.out.grows hb)
    replace Y := Lib.hid (Y.out.grows hb)
    replace HB := Lib.hid (HB.out.trans (hb.mono HB.out.size))
    clear hb
    have G := Lib.hid (G0)
    clear G0 hG
    clear XS BX
    have hg3 : gh.length ≤ 1152921504606846976 := by omega
    have hg4 : gc.length ≤ 1152921504606846976 := by omega
    have hok1 : (okLen gh.length gc.length && okLen h.length cl.length) = false := by rw [hbad, Bool.and_false]
    have hok2 : (okLen h.length cl.length && okLen gh.length gc.length) = false := by rw [hbad, Bool.false_and]
    have hok3 : (okLen h.length cl.length && okLen h.length cl.length) = false := by rw [hbad, Bool.false_and]
    have HOK := Lib.hid (And.intro hok1 (And.intro hok2 (And.intro hok3 (And.intro hbad hbad2))))
    clear hok1 hok2 hok3 hbad hbad2
    have BB_0 := BB.out.cell 0 rfl
    have BB_1 := BB.out.cell 1 rfl
    have BB_l := BB.out.lt
    go_wp2_with fail
    clear BB_0 BB_1 BB_l
    show Calls Tryd.prog _ _ (al w2 [(Obj.cells #[.slice gp gh.length gk, .slice qp gc.length qk] 24)]) _
    obtain ⟨OS, hOS⟩ : ∃ OS, OS = [(Obj.cells #[.slice gp gh.length gk, .slice qp gc.length qk] 24)] := ⟨_, rfl⟩
    rw [← hOS]
    replace BB := Lib.hid (BB.out.al OS)
    replace Y := Lib.hid (Y.out.al OS)
    replace G := Lib.hid (G.out.al OS)
    replace HB := Lib.hid (HB.out.trans ((al_below OS w2).mono HB.out.size))
    have BG0 : Blk (al w2 OS) (w2.heap.size) #[.slice gp gh.length gk, .slice qp gc.length qk] 24 := by rw [hOS]; exact al_blk w2 _ 0 rfl
    have BG := Lib.hid BG0
    clear BG0
    clear hOS
    generalize al w2 OS = W2 at BB Y G BG HB ⊢
    refine (canon_no _ h cl W2 Y.out HOK.out.2.2.2.1 h1 hcl3).mono ?_
    rintro e w3 ⟨rfl, hb⟩
    replace BB := Lib.hid (BB.out.grows hb)
    replace Y := Lib.hid (Y.out.grows hb)
    replace G := Lib.hid (G.out.grows hb)
    replace BG := Lib.hid (BG.out.grows hb)
    replace HB := Lib.hid (HB.out.trans (hb.mono HB.out.size))
    clear hb
    have BB_0 := BB.out.cell 0 rfl
    have BB_1 := BB.out.cell 1 rfl
    have BB_l := BB.out.lt
    have BG_0 := BG.out.cell 0 rfl
    have BG_1 := BG.out.cell 1 rfl
    have BG_l := BG.out.lt
    go_wp2_with fail
    clear BB_0 BB_1 BB_l BG_0 BG_1 BG_l
    show Calls Tryd.prog _ _ (al w3 [(Obj.cells #[.slice none 0 0, .slice none 0 0] 24)]) _
    obtain ⟨OS, hOS⟩ : ∃ OS, OS = [(Obj.cells #[.slice none 0 0, .slice none 0 0] 24)] := ⟨_, rfl⟩
    rw [← hOS]
    replace BB := Lib.hid (BB.out.al OS)
    replace Y := Lib.hid (Y.out.al OS)
    replace G := Lib.hid (G.out.al OS)
    replace BG := Lib.hid (BG.out.al OS)
    replace HB := Lib.hid (HB.out.trans ((al_below OS w3).mono HB.out.size))
    have BC0 : Blk (al w3 OS) (w3.heap.size) #[.slice none 0 0, .slice none 0 0] 24 := by rw [hOS]; exact al_blk w3 _ 0 rfl
    have BC := Lib.hid BC0
    clear BC0
    clear hOS
    generalize al w3 OS = W3 at BB Y G BG BC HB ⊢
    refine (and_no _ _ gh gc h cl W3 G.out Y.out HOK.out.1 hg3 hg4 h1 hcl3).mono ?_
    rintro e w4 ⟨rfl, hb⟩
    replace BB := Lib.hid (BB.out.grows hb)
    replace Y := Lib.hid (Y.out.grows hb)
    replace G := Lib.hid (G.out.grows hb)
    replace BG := Lib.hid (BG.out.grows hb)
    replace BC := Lib.hid (BC.out.grows hb)
    replace HB := Lib.hid (HB.out.trans (hb.mono HB.out.size))
    clear hb
    have BB_0 := BB.out.cell 0 rfl
    have BB_1 := BB.out.cell 1 rfl
    have BB_l := BB.out.lt
    have BG_0 := BG.out.cell 0 rfl
    have BG_1 := BG.out.cell 1 rfl
    have BG_l := BG.out.lt
    go_wp2_with fail
    clear BB_0 BB_1 BB_l BG_0 BG_1 BG_l
    show Calls Tryd.prog _ _ (al w4 [(Obj.cells #[.slice none 0 0, .slice none 0 0] 24)]) _
    obtain ⟨OS, hOS⟩ : ∃ OS, OS = [(Obj.cells #[.slice none 0 0, .slice none 0 0] 24)] := ⟨_, rfl⟩
    rw [← hOS]
    replace BB := Lib.hid (BB.out.al OS)
    replace Y := Lib.hid (Y.out.al OS)
    replace G := Lib.hid (G.out.al OS)
    replace BG := Lib.hid (BG.out.al OS)
    replace BC := Lib.hid (BC.out.al OS)
    replace HB := Lib.hid (HB.out.trans ((al_below OS w4).mono HB.out.size))
    have BD0 : Blk (al w4 OS) (w4.heap.size) #[.slice none 0 0, .slice none 0 0] 24 := by rw [hOS]; exact al_blk w4 _ 0 rfl
    have BD := Lib.hid BD0
    clear BD0
    clear hOS
    generalize al w4 OS = W4 at BB Y G BG BC BD HB ⊢
    refine (or_no _ _ h cl gh gc W4 Y.out G.out HOK.out.2.1 h1 hcl3 hg3 hg4).mono ?_
    rintro e w5 ⟨rfl, hb⟩
    replace BB := Lib.hid (BB.out.grows hb)
    replace Y := Lib.hid (Y.out.grows hb)
    replace G := Lib.hid (G.out.grows hb)
    replace BG := Lib.hid (BG.out.grows hb)
    replace BC := Lib.hid (BC.out.grows hb)
    replace BD := Lib.hid (BD.out.grows hb)
    replace HB := Lib.hid (HB.out.trans (hb.mono HB.out.size))
    clear hb
    clear G BG
    have BB_0 := BB.out.cell 0 rfl
    have BB_1 := BB.out.cell 1 rfl
    have BB_l := BB.out.lt
    go_wp2_with fail
    clear BB_0 BB_1 BB_l
    show Calls Tryd.prog _ _ (al w5 [(Obj.cells #[.slice none 0 0, .slice none 0 0] 24)]) _
    obtain ⟨OS, hOS⟩ : ∃ OS, OS = [(Obj.cells #[.slice none 0 0, .slice none 0 0] 24)] := ⟨_, rfl⟩
    rw [← hOS]
    replace BB := Lib.hid (BB.out.al OS)
    replace Y := Lib.hid (Y.out.al OS)
    replace BC := Lib.hid (BC.out.al OS)
    replace BD := Lib.hid (BD.out.al OS)
    replace HB := Lib.hid (HB.out.trans ((al_below OS w5).mono HB.out.size))
    have BE0 : Blk (al w5 OS) (w5.heap.size) #[.slice none 0 0, .slice none 0 0] 24 := by rw [hOS]; exact al_blk w5 _ 0 rfl
    have BE := Lib.hid BE0
    clear BE0
    clear hOS
    generalize al w5 OS = W5 at BB Y BC BD BE HB ⊢
    refine (sum_no _ _ h cl h cl W5 Y.out Y.out HOK.out.2.2.1 h1 hcl3 h1 hcl3).mono ?_
    rintro e w6 ⟨rfl, hb⟩
    replace BB := Lib.hid (BB.out.grows hb)
    replace Y := Lib.hid (Y.out.grows hb)
    replace BC := Lib.hid (BC.out.grows hb)
    replace BD := Lib.hid (BD.out.grows hb)
    replace BE := Lib.hid (BE.out.grows hb)
    replace HB := Lib.hid (HB.out.trans (hb.mono HB.out.size))
    clear hb
    have BB_0 := BB.out.cell 0 rfl
    have BB_1 := BB.out.cell 1 rfl
    have BB_l := BB.out.lt
    go_wp2_with fail
    clear BB_0 BB_1 BB_l
    show Calls Tryd.prog _ _ (al w6 [(Obj.cells #[.slice none 0 0, .slice none 0 0] 24)]) _
    obtain ⟨OS, hOS⟩ : ∃ OS, OS = [(Obj.cells #[.slice none 0 0, .slice none 0 0] 24)] := ⟨_, rfl⟩
    rw [← hOS]
    replace BB := Lib.hid (BB.out.al OS)
    replace Y := Lib.hid (Y.out.al OS)
    replace BC := Lib.hid (BC.out.al OS)
    replace BD := Lib.hid (BD.out.al OS)
    replace BE := Lib.hid (BE.out.al OS)
    replace HB := Lib.hid (HB.out.trans ((al_below OS w6).mono HB.out.size))
    have BF0 : Blk (al w6 OS) (w6.heap.size) #[.slice none 0 0, .slice none 0 0] 24 := by rw [hOS]; exact al_blk w6 _ 0 rfl
    have BF := Lib.hid BF0
    clear BF0
    clear hOS
    generalize al w6 OS = W6 at BB Y BC BD BE BF HB ⊢
    refine (valid_no hp _ h.length hk 0 _ W6 HOK.out.2.2.2.2 h1 (by omega)).mono ?_
    rintro e w7 ⟨rfl, hb⟩
    replace BB := Lib.hid (BB.out.grows hb)
    replace Y := Lib.hid (Y.out.grows hb)
    replace BC := Lib.hid (BC.out.grows hb)
    replace BD := Lib.hid (BD.out.grows hb)
    replace BE := Lib.hid (BE.out.grows hb)
    replace BF := Lib.hid (BF.out.grows hb)
    replace HB := Lib.hid (HB.out.trans (hb.mono HB.out.size))
    clear hb
    have BB_0 := BB.out.cell 0 rfl
    have BB_1 := BB.out.cell 1 rfl
    have BB_l := BB.out.lt
    go_wp2_with fail
    clear BB_0 BB_1 BB_l
    refine (has_no _ h cl n w7 Y.out HOK.out.2.2.2.1 h1 hcl3 hn1).mono ?_
    rintro e w8 ⟨rfl, hb⟩
    replace BB := Lib.hid (BB.out.grows hb)
    replace Y := Lib.hid (Y.out.grows hb)
    replace BC := Lib.hid (BC.out.grows hb)
    replace BD := Lib.hid (BD.out.grows hb)
    replace BE := Lib.hid (BE.out.grows hb)
    replace BF := Lib.hid (BF.out.grows hb)
    replace HB := Lib.hid (HB.out.trans (hb.mono HB.out.size))
    clear hb
    have BB_0 := BB.out.cell 0 rfl
    have BB_1 := BB.out.cell 1 rfl
    have BB_l := BB.out.lt
    go_wp2_with fail
    clear BB_0 BB_1 BB_l
    refine (least_no _ h cl n w8 Y.out HOK.out.2.2.2.1 h1 hcl3 hn0).mono ?_
    rintro e w9 ⟨rfl, hb⟩
    replace BB := Lib.hid (BB.out.grows hb)
    replace Y := Lib.hid (Y.out.grows hb)
    replace BC := Lib.hid (BC.out.grows hb)
    replace BD := Lib.hid (BD.out.grows hb)
    replace BE := Lib.hid (BE.out.grows hb)
    replace BF := Lib.hid (BF.out.grows hb)
    replace HB := Lib.hid (HB.out.trans (hb.mono HB.out.size))
    clear hb
    have BC_0 := BC.out.cell 0 rfl
    have BC_1 := BC.out.cell 1 rfl
    have BC_l := BC.out.lt
    have BD_0 := BD.out.cell 0 rfl
    have BD_1 := BD.out.cell 1 rfl
    have BD_l := BD.out.lt
    have BE_0 := BE.out.cell 0 rfl
    have BE_1 := BE.out.cell 1 rfl
    have BE_l := BE.out.lt
    have BF_0 := BF.out.cell 0 rfl
    have BF_1 := BF.out.cell 1 rfl
    have BF_l := BF.out.lt
    go_wp2_with fail
    go_ret
    exact ⟨rfl, HB.out⟩
end Go.Proofs.YthnkgdpifebigaaDoor
