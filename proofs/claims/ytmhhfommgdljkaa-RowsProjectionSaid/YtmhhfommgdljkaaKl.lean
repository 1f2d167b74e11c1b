/-
  Walk: Check.
-/
import Derived.Test.YtmhhfommgdljkaaKk
import Derived.Deep.LoopGhost
set_option linter.unusedSimpArgs false
set_option linter.unusedVariables false
namespace Go.Proofs.Ytmhhfommgdljkaa
open Go.RowKit Go.Lib

theorem BrAt.at {w0 w : World} {p : Option Addr} {n cap : Nat} {br : List Rw} (h : BrAt w0 w (.slice p n cap) br) {j : Nat} {r : Rw} (hj : br[j]? = some r) :
    ∃ g u, p = some ⟨g, 0, none⟩ ∧ n = br.length ∧ w.cell? ⟨g, j * 2, none⟩ = some u ∧ w.cell? ⟨g, j * 2 + 1, none⟩ = some (.int .i64 r.C) ∧ RowV w0 w u r.A := by
  obtain ⟨L, rfl, ho, hp⟩ := h
  rw [List.getElem?_map] at hj
  obtain ⟨q, hq, rfl⟩ := Option.map_eq_some_iff.1 hj
  obtain ⟨h1, h2⟩ := rwCells_at hq
  obtain ⟨p', c', e⟩ := own_shape ho
  simp only [Value.slice.injEq] at e
  obtain ⟨-, rfl, -⟩ := e
  obtain ⟨⟨g, rfl⟩, -, -⟩ := own_take (k := L.length) ho (Nat.le_refl _) (by have := lt_of_get hq; omega)
  exact ⟨g, q.1, rfl, by rw [List.length_map], (own_cell ho h1).1, (own_cell ho h2).1, hp q (List.mem_of_getElem? hq)⟩
theorem VsAt.one {w0 w : World} {g : Nat} {u : Value} {x : Vis} (h : Blk w g (vsL u x).toArray 66) (hg : w0.heap.size ≤ g) (hr : RowV w0 w u x.r.A) : VsAt w0 w (.slice (some ⟨g, 0, none⟩) 1 1) [x] := by
  refine ⟨[(u, x)], rfl, ?_, fun q hq => by rw [List.mem_singleton] at hq; subst hq; exact hr⟩
  have := own_of_blk (base := w0.heap.size) h 1 4 rfl (by decide) hg
  exact this
theorem Stk.root {p : List Sp} {G n : Nat} {B : List Rw} {r : Rw} (hG : Good n B) (hB : B.length = G + 1) (hr : B[G]? = some r) (hp : 0 < p.length) : Stk p (G + 1) n B [⟨0, G, r⟩] ∧ stVal p B [⟨0, G, r⟩] = clP p 0 B := by
  have h := hG r (List.mem_of_getElem? hr)
  refine ⟨⟨fun x hx => ?_, fun j x hj => ?_, fun j k x y hjk hj hk => ?_⟩, ?_⟩
  · rw [List.mem_singleton] at hx; subst hx
    exact ⟨hp, by show G ≤ _; omega, Nat.le_refl _, h.1, h.2⟩
  · have := lt_of_get hj
    simp at this; omega
  · have h1 := lt_of_get hj
    have h2 := lt_of_get hk
    simp at h1 h2
    subst h1; subst h2
    rw [hj] at hk; cases hk; exact Nat.le_refl _
  · unfold stVal
    simp only [List.all_cons, List.all_nil, Bool.and_true]
    rw [← take_snoc hr, List.take_of_length_le (by omega)]
theorem infoVis : (Try.prog.info? 66).map (fun i => (i.zero, i.size, i.bytes)) = some (some (.agg #[.int .i64 0, .int .i64 0, .slice none 0 0, .int .i64 0]), 4, 48) := by rfl
set_option maxRecDepth 100000 in
set_option maxHeartbeats 8000000 in
theorem check_any (v u : Value) (s : Sy) (p : List Sp) (w : World) (hs : IsS w v s) (hp : IsP w u p) (hl : p.length ≤ 140737488351232) (hm : Mod s) :
    Calls Try.prog 12 #[v, u] w fun e w' => e = .returned (.bool (checkB s p)) ∧ Below w.heap.size w w' := by
  have HS := Lib.hid hs
  have HP := Lib.hid hp
  obtain ⟨vt, vr, rfl, hvt, hvr⟩ := hs
  obtain ⟨pt, ct, rfl, -⟩ := hvt.shape
  obtain ⟨pr, cr, rfl, -⟩ := hvr.shape
  obtain ⟨pp, cp, rfl, -⟩ := hp.shape
  have HMd := Lib.hid hm
  clear hp hvt hvr hm
  have hb1 : Below w.heap.size w (w.alloc (.cells #[.slice pt s.T.length ct, .slice pr s.R.length cr] 25)) := by go_grown
  have T1 := Blk.new w #[.slice pt s.T.length ct, .slice pr s.R.length cr] 25
  have HB1 := Lib.hid hb1
  have HT1 := Lib.hid T1
  clear hb1 T1
  by_cases hv : ¬ validB s = true
  · rw [Bool.not_eq_true] at hv
    have HX := Lib.hid (show checkB s p = false by unfold checkB; rw [hv]; rfl)
    have HV := Lib.hid hv
    clear hv
    go_enter Try.func12, Try.ntmps12
    go_wp2_with fail
    refine (valid_any _ s _ (HS.out.grows HB1.out) HMd.out).mono ?_
    rintro e w2 ⟨rfl, hb2⟩
    rw [HV.out]
    have HB2 := Lib.hid (below_two HB1.out hb2)
    clear hb2
    go_wp2
    go_ret
    exact ⟨ret_bool HX.out.symm, HB2.out⟩
  have hv := Decidable.of_not_not hv
  have HV := Lib.hid hv
  by_cases hsh : ¬ shapedB p = true
  · rw [Bool.not_eq_true] at hsh
    have HX := Lib.hid (show checkB s p = false by unfold checkB; rw [hsh, hv]; rfl)
    have HH := Lib.hid hsh
    clear hv hsh
    go_enter Try.func12, Try.ntmps12
    go_wp2_with fail
    refine (valid_any _ s _ (HS.out.grows HB1.out) HMd.out).mono ?_
    rintro e w2 ⟨rfl, hb2⟩
    rw [HV.out]
    have HB2 := Lib.hid (below_two HB1.out hb2)
    clear hb2
    go_wp2_with fail
    refine (shaped_any _ p _ (HP.out.grows HB2.out) hl).mono ?_
    rintro e w3 ⟨rfl, hb3⟩
    rw [HH.out]
    have HB3 := Lib.hid (below_two HB2.out hb3)
    clear hb3
    go_wp2
    go_ret
    exact ⟨ret_bool HX.out.symm, HB3.out⟩
  have hsh := Decidable.of_not_not hsh
  have HH := Lib.hid hsh
  obtain ⟨hG, hg0, hg1⟩ := given_good hv
  obtain ⟨⟨hn1, hn2, hn3⟩, hTt, -⟩ := valid_iff.1 hv
  have hpl : 1 ≤ p.length ∧ p.length ≤ 65536 := by
    have := hsh
    simp only [shapedB, Bool.and_eq_true, decide_eq_true_iff] at this
    exact this.1
  have HG := Lib.hid hG
  have HTt := Lib.hid hTt
  have hpl1 := hpl.1
  have hpl2 := hpl.2
  have hKx := Lib.hid (show checkB s p = clP p 0 (givenS s) by unfold checkB; rw [hv, hsh]; rfl)
  clear hv hsh hG hTt hpl
  go_enter Try.func12, Try.ntmps12
  go_wp2_with fail
  refine (valid_any _ s _ (HS.out.grows HB1.out) HMd.out).mono ?_
  rintro e w2 ⟨rfl, hb2⟩
  rw [HV.out]
  have HB2 := Lib.hid (below_two HB1.out hb2)
  have HT2 := Lib.hid (HT1.out.grows hb2)
  clear hb2
  go_wp2_with fail
  refine (shaped_any _ p _ (HP.out.grows HB2.out) hl).mono ?_
  rintro e w3 ⟨rfl, hb3⟩
  rw [HH.out]
  have HB3 := Lib.hid (below_two HB2.out hb3)
  have HT3 := Lib.hid (HT2.out.grows hb3)
  clear hb3 HB2 HT2
  have t0 := HT3.out.cell 0 rfl
  have t1 := HT3.out.cell 1 rfl
  go_wp2_with fail
  refine (given_any _ s w3 (HS.out.grows HB3.out) (by omega) (by omega) (fun t ht => by have := HTt.out t ht; omega)).mono ?_
  rintro e w4 ⟨vb, rfl, hbr, hb4⟩
  have HPw := Lib.hid (HP.out.grows HB3.out)
  have HB4 := Lib.hid hb4
  have HBr := Lib.hid hbr
  obtain ⟨pb, cb, rfl⟩ := hbr.len
  have hlt : (givenS s).length - 1 < (givenS s).length := by omega
  obtain ⟨r, hr⟩ := get_of_lt hlt
  obtain ⟨gb, ub, rfl, -, cx, cy, hrv⟩ := hbr.at hr
  obtain ⟨pu, cu, rfl⟩ := hrv.one
  have HRv := Lib.hid hrv
  have HRr := Lib.hid hr
  clear hr hrv hbr hb4 t0 t1
  obtain ⟨G, hGe⟩ : ∃ G, (givenS s).length = G + 1 := ⟨(givenS s).length - 1, by omega⟩
  have HGe := Lib.hid hGe
  rw [hGe] at cx cy hlt hg1 ⊢
  rw [show G + 1 - 1 = G by omega] at cx cy
  clear hGe hg0
  go_wp2_with fail
  have hroot := Stk.root (p := p) HG.out (G := G) HGe.out (by have h := HRr.out; rw [HGe.out] at h; simpa using h) (by omega)
  have HRoot := Lib.hid hroot
  have HKx := Lib.hid hKx
  obtain ⟨n, hn⟩ : ∃ n, s.T.length = n := ⟨_, rfl⟩
  have HNn := Lib.hid hn
  have HRg := Lib.hid (show withinB r big = true ∧ True from ⟨(HG.out r (List.mem_of_getElem? HRr.out)).2, trivial⟩)
  clear hroot hKx cx cy
  go_loopg [5, 7] (pot p [⟨0, G, r⟩]) (fun k s5 s7 wr => ∃ (B : List Rw) (S : List Vis), BrAt w3 wr s5 B ∧ VsAt w3 wr s7 S ∧ Stk p (G + 1) n B S ∧ Good n B ∧ 0 < B.length ∧ checkB s p = stVal p B S ∧ pot p S ≤ k ∧ Below w3.heap.size w3 wr)
  case atStart =>
    have hbn : Below w4.heap.size w4 (w4.alloc (.cells #[.int .i64 0, .int .i64 (G : Int), .slice pu r.A.length cu, .int .i64 r.C] 66)) := by go_grown
    have hbr := HBr.out.grows hbn
    rw [HGe.out] at hbr
    refine ⟨givenS s, [⟨0, G, r⟩], hbr, VsAt.one (x := ⟨0, G, r⟩) (Blk.new w4 _ _) HB4.out.size (HRv.out.keep (KeptTy.below hbn)), by rw [← hn]; exact HRoot.out.1, by rw [← hn]; exact HG.out, by rw [HGe.out]; omega, by rw [HRoot.out.2]; exact HKx.out, Nat.le_refl _, below_two HB4.out hbn⟩
  case round =>
    obtain ⟨B, S, hB, hS, hst, hgd, hb0, hval, hpot, hbw⟩ := hrel
    clear HRoot HKx HBr HB4 HRv HRr hn
    rcases List.eq_nil_or_concat S with rfl | ⟨A, x, rfl⟩
    · obtain ⟨ps, cs, rfl⟩ := hS.shape
      have HX := Lib.hid hval
      have HW := Lib.hid (below_two HB3.out hbw)
      clear hB hS hst hgd hval hpot hbw
      go_wp2
      go_ret
      exact ⟨ret_bool (by rw [HX.out]; rfl), HW.out⟩
    · rw [List.concat_eq_append] at *
      obtain ⟨pb', cb', rfl⟩ := hB.len
      obtain ⟨ps, cs, rfl⟩ := hS.shape
      obtain ⟨g, uv, rfl, ⟨hn7, hcs⟩, hrv, hA, hglt, c0, c1, c2, c3⟩ := hS.top
      obtain ⟨e1, e2, e3, e4, e5, e6, e7, e8, e9⟩ := hst.pop hgd
      rw [hn7]
      obtain ⟨gB, L, rfl, ⟨-, hcb⟩, hLm, hLl, hoB, hpB⟩ := hB.take e8 hb0
      obtain ⟨pv, cv, rfl⟩ := hrv.one
      have HLm := Lib.hid (And.intro hLm hLl)
      have HOB := Lib.hid hoB
      have HPB := Lib.hid hpB
      have HRV := Lib.hid hrv
      have HA := Lib.hid hA
      have HPop := Lib.hid (And.intro e1 (And.intro e2 (And.intro e3 (And.intro e4 (And.intro e5 (And.intro e6 (And.intro e7 e9)))))))
      have HVal := Lib.hid hval
      have HPot := Lib.hid hpot
      have HBw := Lib.hid hbw
      have hx1 := e7
      have hx2 := e8
      have hx3 : x.b ≤ 70000 := by omega
      have hx4 : A.length ≤ 200000 := by omega
      obtain ⟨lB, hlB⟩ : ∃ lB, B.length = lB := ⟨_, rfl⟩
      rw [hlB] at hx2 hcb ⊢
      obtain ⟨m, hm⟩ : ∃ m, A.length = m := ⟨_, rfl⟩
      have HMm := Lib.hid hm
      rw [hm] at c0 c1 c2 c3 hx4 hcs ⊢
      have hcs0 : ¬ cs = 0 := by omega
      have hcb0 : ¬ cb' = 0 := by omega
      have hbsz := hbw.size
      clear hlB hm hB hS hst hgd hb0 hval hpot hbw hn7 hrv hA e1 e2 e3 e4 e5 e6 e7 e8 e9 hLm hLl hoB hpB
      go_upto_region 10 with fail
      have V8 := Blk.new wr #[.int .i64 (x.i : Int), .int .i64 (x.b : Int), .slice pv x.r.A.length cv, .int .i64 x.r.C] 66
      have hb8 : Below wr.heap.size wr (wr.alloc (.cells #[.int .i64 (x.i : Int), .int .i64 (x.b : Int), .slice pv x.r.A.length cv, .int .i64 x.r.C] 66)) := by go_grown
      have hz8 : (wr.alloc (.cells #[.int .i64 (x.i : Int), .int .i64 (x.b : Int), .slice pv x.r.A.length cv, .int .i64 x.r.C] 66)).heap.size = wr.heap.size + 1 := by simp
      generalize wr.alloc (.cells #[.int .i64 (x.i : Int), .int .i64 (x.b : Int), .slice pv x.r.A.length cv, .int .i64 x.r.C] 66) = w8 at V8 hb8 hz8 ⊢
      have HV8 := Lib.hid V8
      have HO8 := Lib.hid (own_keep (S := fun _ => True) HOB.out (KeptTy.below hb8) trivial)
      have HP8 := Lib.hid (fun q hq => (HPB.out q hq).keep (KeptTy.below hb8))
      have HR8 := Lib.hid (HRV.out.keep (KeptTy.below hb8))
      have HA8 := Lib.hid (HA.out.grows hb8)
      have HB8 := Lib.hid (below_two HBw.out hb8)
      have HZ8 := Lib.hid hz8
      clear HOB HPB HRV HA HBw c0 c1 c2 c3 V8 hb8 hz8
      have hs8 : w3.heap.size ≤ w8.heap.size := HB8.out.size
      obtain ⟨ii, hii, hi0, hi1, hi2⟩ := info_parts infoRow
      go_cut [5] (fun s5 wx => BrAt w3 wx s5 (B.take x.b ++ [x.r]) ∧ KeptTy (NotTy 37) w8 wx ∧ Below w3.heap.size w3 wx ∧ w8.heap.size ≤ wx.heap.size)
      case first =>
        have HF := Lib.hid (fun (o : Obj) (w7 : World) (v7 : Value) (hown : w7.ownsRow w3.heap.size 37 2 v7 (x.b + 1) (rwCells L ++ [.slice pv x.r.A.length cv, .int .i64 x.r.C])) (hg : (w8.alloc o).drew.grownBy w7 (Value.slice (some ⟨gB, 0, none⟩) x.b cb').ownBlock) => (show BrAt w3 w7 v7 (B.take x.b ++ [x.r]) ∧ KeptTy (NotTy 37) w8 w7 ∧ Below w3.heap.size w3 w7 ∧ w8.heap.size ≤ w7.heap.size from by
          have hba : Below w8.heap.size w8 (w8.alloc o).drew := ((Below.refl _ w8).alloc (Nat.le_refl _) o).drew
          have hoa := own_keep (S := fun _ => True) HO8.out (KeptTy.below hba) trivial
          refine ⟨?_, (KeptTy.below hba).trans (KeptTy.grown hg hoa (fun h => h rfl)), (below_two HB8.out hba).grown hg (by have := hba.size; omega) (own_ge hoa), Nat.le_trans hba.size hg.size⟩
          rw [← HLm.out.1]
          exact BrAt.push (w := (w8.alloc o).drew) (fun q hq => (HP8.out q hq).keep (KeptTy.below hba)) (by rw [HLm.out.2]; exact hoa) (HR8.out.keep (KeptTy.below hba)) (by rw [HLm.out.2]; exact hown) hg))
        have c1 := HV8.out.cell 1 rfl
        have c2 := HV8.out.cell 2 rfl
        have c3 := HV8.out.cell 3 rfl
        have hxc : x.b ≤ cb' := by omega
        have hxc2 : ¬ cb' < x.b := by omega
        have hvlt := HV8.out.lt
        go_region_law (first | ((go_loud (refine grow_step rfl _ _ 23 rfl rfl w3.heap.size 37 ii (.agg #[.slice none 0 0, .int .i64 0]) 2 32 Try.underlying23 hii hi0 hi1 hi2 rfl (by decide) (.slice (some ⟨gB, 0, none⟩) x.b cb') x.b (rwCells L) rfl (own_alloc HO8.out _) ⟨w8.heap.size, 0, none⟩ 1 1 _ rfl rfl (cells_new _ _ _ _ rfl) (one_all rfl) (by unfold maxLen; omega) (by omega) (by simp; omega) ?_)); intro v7 w7 hown7 hg7) | fail)
        all_goals
          have HF7 := Lib.hid (HF.out _ _ _ hown7 hg7)
          clear hown7 hg7
          go_wp2_with fail
          go_meet
          exact HF7.out
      case rest =>
        obtain ⟨hbr, hkt, hbw, hsz⟩ := hcut
        have HBc := Lib.hid hbr
        have HWc := Lib.hid hbw
        have HAc := Lib.hid (HA8.out.keep hkt)
        have VC : Blk wc wr.heap.size #[.int .i64 (x.i : Int), .int .i64 (x.b : Int), .slice pv x.r.A.length cv, .int .i64 x.r.C] 66 := ⟨hkt _ _ _ (by unfold NotTy; decide) HV8.out.is⟩
        have c0 := VC.cell 0 rfl
        obtain ⟨t, ht⟩ := get_of_lt hx1
        obtain ⟨bt, ot, ut, rfl, hIt, q0, q1, q2, q3, q4, q5, q6, q7⟩ := (HPw.out.grows HWc.out).at ht
        obtain ⟨pm, cm, rfl, -⟩ := hIt.shape
        have HIt := Lib.hid hIt
        have HTx := Lib.hid ht
        clear hbr hkt hbw VC ht hIt HA8 HR8 HP8 HO8 HV8
        go_upto_region 12 with fail
        have T9 := Blk.new wc #[.int .i64 t.k, .slice pm t.M.length cm, .int .i64 t.R, .int .i64 t.D, .int .i64 t.X, .int .i64 t.K, .int .i64 t.N, .int .i64 t.E] 49
        have hb9 : Below wc.heap.size wc (wc.alloc (.cells #[.int .i64 t.k, .slice pm t.M.length cm, .int .i64 t.R, .int .i64 t.D, .int .i64 t.X, .int .i64 t.K, .int .i64 t.N, .int .i64 t.E] 49)) := by go_grown
        generalize wc.alloc (.cells #[.int .i64 t.k, .slice pm t.M.length cm, .int .i64 t.R, .int .i64 t.D, .int .i64 t.X, .int .i64 t.K, .int .i64 t.N, .int .i64 t.E] 49) = w9 at T9 hb9 ⊢
        have HT9 := Lib.hid T9
        have HB9 := Lib.hid (HBc.out.grows hb9)
        have HA9 := Lib.hid (HAc.out.grows hb9)
        have HW9 := Lib.hid (below_two HWc.out hb9)
        have HI9 := Lib.hid (HIt.out.grows hb9)
        have HW9sz := Lib.hid HW9.out.size
        clear q0 q1 q2 q3 q4 q5 q6 q7 hb9 HBc HAc HWc HIt c0
        have q0 := T9.cell 0 rfl
        have q1 := T9.cell 1 rfl
        have q2 := T9.cell 2 rfl
        have q3 := T9.cell 3 rfl
        have q4 := T9.cell 4 rfl
        have q5 := T9.cell 5 rfl
        have q6 := T9.cell 6 rfl
        have q7 := T9.cell 7 rfl
        clear T9
        obtain ⟨B', hB'⟩ : ∃ B', B.take x.b ++ [x.r] = B' := ⟨_, rfl⟩
        rw [hB'] at HB9 HPop
        have HBd := Lib.hid hB'
        clear hB'
        have hBl : B'.length = x.b + 1 := HPop.out.1
        obtain ⟨pB', cB', rfl⟩ := HB9.out.len
        have HBl := Lib.hid hBl
        clear hBl
        have HCl := Lib.hid (show clP p x.i B' = match addedS t B' with | none => false | some rs => ((childs t).zip rs).all fun q => clP p q.1.toNat (B' ++ [q.2]) from clP_step HH.out HTx.out B')
        go_wp2_with fail
        refine (added_any _ _ t B' n w9 HI9.out (HB9.out.isRs HW9.out) HPop.out.2.1 (by have := HBl.out; omega) (by have := HNn.out; omega) (by have := HBl.out; omega)).mono ?_
        intro e w10 hres
        cases hq : addedS t B' with
        | none =>
          rw [hq] at hres HCl
          obtain ⟨hb10, v10, rfl⟩ := hres
          have HX := Lib.hid (show checkB s p = false by rw [HVal.out, HPop.out.2.2.2.1, HCl.out]; simp)
          have HW10 := Lib.hid (below_two HB3.out (below_two HW9.out hb10))
          clear hq hb10 q0 q1 q2 q3 q4 q5 q6 q7
          go_wp2
          go_ret
          exact ⟨ret_bool HX.out.symm, HW10.out⟩
        | some rs =>
          rw [hq] at hres HCl
          obtain ⟨hb10, v10, rfl, hrs⟩ := hres
          have HQ := Lib.hid hq
          have HT10 := Lib.hid (HT9.out.grows hb10)
          have HB10 := Lib.hid (HB9.out.grows hb10)
          have HA10 := Lib.hid (HA9.out.grows hb10)
          have HW10 := Lib.hid (below_two HW9.out hb10)
          have HI10 := Lib.hid (HI9.out.grows hb10)
          have HR10 := Lib.hid hrs
          obtain ⟨p10, c10, rfl⟩ := hrs.shape
          have HRl := Lib.hid (added_len hq)
          have HRg2 := Lib.hid (added_good HPop.out.2.1 (by have := HBl.out; omega) hq)
          clear hq hb10 hrs q0 q1 q2 q3 q4 q5 q6 q7 HT9 HB9 HA9 HW9 HI9
          have q0 := HT10.out.cell 0 rfl
          have q1 := HT10.out.cell 1 rfl
          have q2 := HT10.out.cell 2 rfl
          have q3 := HT10.out.cell 3 rfl
          have q4 := HT10.out.cell 4 rfl
          have q5 := HT10.out.cell 5 rfl
          have q6 := HT10.out.cell 6 rfl
          have q7 := HT10.out.cell 7 rfl
          go_wp2_with fail
          refine (children_any _ t w10 HI10.out).mono ?_
          rintro e w11 ⟨vc, rfl, hcs, hb11⟩
          have HC11 := Lib.hid hcs
          have HB11 := Lib.hid (HB10.out.grows hb11)
          have HA11 := Lib.hid (HA10.out.grows hb11)
          have HW11 := Lib.hid (below_two HW10.out hb11)
          have HR11 := Lib.hid ((HR10.out.grows hb11).low HW9sz.out)
          clear q0 q1 q2 q3 q4 q5 q6 q7 HT10 HB10 HA10 HW10 HI10 HR10 hb11
          obtain ⟨pc, cc, rfl, -⟩ := hcs.isI.shape
          clear hcs
          have HKl := Lib.hid (childs_le t)
          have HKin := Lib.hid (fun c (hc : c ∈ childs t) => shaped_child HH.out HTx.out hc)
          obtain ⟨kd, hkd⟩ : ∃ kd, childs t = kd := ⟨_, rfl⟩
          rw [hkd] at HKl HKin HRl HC11 HCl ⊢
          clear hkd
          have hkl2 : kd.length ≤ 2 := HKl.out
          obtain ⟨iv, hiv, hv0, hv1, hv2⟩ := info_parts infoVis
          go_wp2
          go_loopw [7, 71] (fun s7 s71 wx => ∃ k : Nat, k ≤ kd.length ∧ s71 = .int .i64 k ∧ VsAt w3 wx s7 (A ++ (kids kd rs B'.length).take k) ∧ BrAt w3 wx (.slice pB' B'.length cB') B' ∧ RsO w3.heap.size wx (.slice p10 rs.length c10) rs ∧ OwnI 0 wx (.slice pc kd.length cc) kd ∧ Below w3.heap.size w3 wx) (fun _ s71 _ => kd.length - (RowKit.intOf s71).toNat)
          case atStart => exact ⟨0, Nat.zero_le _, rfl, by rw [List.take_zero, List.append_nil, ← HMm.out]; have h := HA11.out; rw [HMm.out] at h ⊢; exact h, HB11.out, HR11.out, HC11.out, HW11.out⟩
          case round =>
            obtain ⟨k, hk, rfl, hVk, hBk, hRk, hCk, hWk⟩ := hrel
            have HBk := Lib.hid hBk
            have HRk := Lib.hid hRk
            have HCk := Lib.hid hCk
            have HWk := Lib.hid hWk
            have HVk := Lib.hid hVk
            obtain ⟨L2, hL2, hoV, hpV⟩ := hVk
            obtain ⟨pv2, cv2, rfl⟩ := own_shape hoV
            have hm2 : L2.length = A.length + k := by
              rw [← List.length_map (f := (·.2)), hL2, List.length_append, List.length_take, kids_len HRl.out]; omega
            obtain ⟨m2, hm2e⟩ : ∃ m2, L2.length = m2 := ⟨_, rfl⟩
            have hm2b : m2 ≤ 200002 := by have := HMm.out; omega
            rw [hm2e] at hoV ⊢
            have HM2 := Lib.hid hm2e
            have HL2 := Lib.hid hL2
            have HOV := Lib.hid hoV
            have HPV := Lib.hid hpV
            have hszk := hWk.size
            clear hBk hRk hCk hWk hL2 hoV hpV hm2 hm2e
            by_cases hlt : k < kd.length
            · obtain ⟨c, hc⟩ := get_of_lt hlt
              have hcin := HKin.out c (List.mem_of_getElem? hc)
              obtain ⟨c, rfl⟩ : ∃ m : Nat, c = (m : Int) := ⟨c.toNat, by omega⟩
              obtain ⟨rk, hrk⟩ := get_of_lt (show k < rs.length by have := HRl.out; omega)
              have HKk := Lib.hid (show (kids kd rs B'.length)[k]? = some ⟨c, B'.length, rk⟩ by
                unfold kids
                rw [List.getElem?_map, show (kd.zip rs)[k]? = some ((c : Int), rk) from List.getElem?_zip_eq_some.2 ⟨hc, hrk⟩]
                rfl)
              obtain ⟨bc, oc, rfl, q0⟩ := HCk.out.isI.at hc
              obtain ⟨br', ur, rfl, -, q1, q2, hur⟩ := HRk.out.at hrk
              obtain ⟨pur, cur, rfl, -⟩ := hur.isI.shape
              have HUr := Lib.hid hur
              have hkrs : k < rs.length := lt_of_get hrk
              clear hc hrk hur
              go_wp2_with (first
                | (at_builtin; go_loud (refine wpList_append_own _ rfl _ _ 67 rfl w3.heap.size 66 iv (.agg #[.int .i64 0, .int .i64 0, .slice none 0 0, .int .i64 0]) 4 48 Try.underlying67 hiv hv0 hv1 hv2 rfl (by decide) (.slice pv2 m2 cv2) m2 (vsCells L2) rfl (own_alloc HOV.out _) ⟨wr.heap.size, 0, none⟩ 1 1 _ rfl rfl (cells_new _ _ _ _ rfl) (one_all rfl) (by unfold maxLen; omega) (by omega) (by simp; omega) ?_); intro v7 w7 hown7 hg7 _)
                | fail)
              have hba : Below wr.heap.size wr (wr.alloc (.cells #[.int .i64 (c : Int), .int .i64 (B'.length : Int), .slice pur rk.A.length cur, .int .i64 rk.C] 66)) := (Below.refl _ wr).alloc (Nat.le_refl _) _
              have hpush := VsAt.push (x := ⟨c, B'.length, rk⟩) (u := .slice pur rk.A.length cur) (fun q hq => (HPV.out q hq).keep (KeptTy.below hba)) (by rw [HM2.out]; exact own_alloc HOV.out _) (.inr (HUr.out.grows hba)) (by rw [HM2.out]; exact hown7) hg7
              have hkeep := (KeptTy.below (S := NotTy 66) hba).trans hpush.2
              refine ⟨⟨k + 1, by omega, by go_num, ?_, HBk.out.keep hkeep, HRk.out.keep hkeep, HCk.out.keep (hkeep.sub (KS_not (by unfold KS; decide))), (below_two HWk.out hba).grown hg7 (by simp; omega) (own_ge HOV.out)⟩, by simp [RowKit.intOf]; omega⟩
              rw [take_snoc HKk.out, ← List.append_assoc, ← HL2.out]
              exact hpush.1
            · have hke : k = kd.length := by omega
              have HPu := Lib.hid (Stk.push HPop.out.2.2.1 HBl.out HPop.out.2.2.2.2.1 HPop.out.2.2.2.2.2.1 HPop.out.2.2.2.2.2.2.2 HKin.out HKl.out HRg2.out HRl.out)
              have HPt := Lib.hid (pot_push (A := A) (b := B'.length) HPop.out.2.2.2.2.2.2.1 HKin.out HKl.out HRl.out)
              have HVs := Lib.hid (show VsAt w3 wr (.slice pv2 m2 cv2) (A ++ kids kd rs B'.length) by
                have h := HVk.out
                rw [HM2.out, List.take_of_length_le (by rw [kids_len HRl.out]; omega)] at h
                exact h)
              have HVl2 := Lib.hid (show checkB s p = stVal p B' (A ++ kids kd rs B'.length) by
                rw [HPu.out.2, HVal.out, HPop.out.2.2.2.1, HCl.out])
              clear hke
              go_wp2
              go_roundg (pot p (A ++ kids kd rs B'.length))
              case measure => exact Nat.lt_of_lt_of_le HPt.out HPot.out
              case rel => exact ⟨B', _, HBk.out, HVs.out, HPu.out.1, HPop.out.2.1, by have := HBl.out; omega, HVl2.out, Nat.le_refl _, HWk.out⟩
end Go.Proofs.Ytmhhfommgdljkaa
