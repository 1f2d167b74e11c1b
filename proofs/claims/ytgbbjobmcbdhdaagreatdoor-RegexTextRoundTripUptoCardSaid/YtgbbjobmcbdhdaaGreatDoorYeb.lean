/-
  Texts of the proof, one behind another: Em, Ey, Ez, Sc, La.
-/
import Derived.Test.YtgbbjobmcbdhdaaGreatDoorYdi
import Derived.Test.YtgbbjobmcbdhdaaGreatDoorYdj
import Derived.Test.YtgbbjobmcbdhdaaGreatDoorYea
import Derived.Test.YtgbbjobmcbdhdaaGreatDoorYda
import Derived.Test.YtgbbjobmcbdhdaaGreatDoorYcj
import Derived.Test.YtgbbjobmcbdhdaaGreatDoorYdg
import Derived.Lib.SlBytesConst
import Derived.Test.YtgbbjobmcbdhdaaGreatDoorYde
set_option linter.unusedSimpArgs false
set_option linter.unusedVariables false
/-
  Walks: the ends of matches: intersections and negations.
-/
namespace Go.Proofs.YtgbbjobmcbdhdaaGreatDoor
open Go.RowKit Go.Shelf
attribute [local go_sem] Oper.semAt_some

set_option maxRecDepth 100000 in
set_option maxHeartbeats 2000000 in
theorem ends_6 (Bm mb : Nat) (xs : List Nd) (b : List Int) (xb xo xc : Nat) (bv : Value) (i : Nat) (n : Nd) (hX : OkX xs) (hi : xs[i]? = some n) (hb : b.length ≤ 1048576) (hE : ∀ j, j < i → EndsC Bm mb xs b xb xo xc bv j) (hk : n.k = 6) : EndsC Bm mb xs b xb xo xc bv i := by
  intro v l W hM htab hv hl hlb
  obtain ⟨sp0, sc, rfl⟩ := hv.shape
  have hilt : i < xs.length := (List.getElem?_eq_some_iff.1 hi).1
  have hbW : Below W.heap.size W ((W.alloc (.cells #[.pointer (some ⟨Bm, 0, none⟩)] 93)).alloc (.cells #[.int .i64 (i : Int)] 3)) := ((Below.refl _ W).alloc (Nat.le_refl _) _).alloc (by simp) _
  have v3 := ((Blk.new W #[.pointer (some ⟨Bm, 0, none⟩)] 93).alloc (.cells #[.int .i64 (i : Int)] 3)).cell 0 rfl
  have v4 := (Blk.alloc1 W #[.pointer (some ⟨Bm, 0, none⟩)] #[.int .i64 (i : Int)] 93 3).cell 0 rfl
  have hsz2 : ((W.alloc (.cells #[.pointer (some ⟨Bm, 0, none⟩)] 93)).alloc (.cells #[.int .i64 (i : Int)] 3)).heap.size = W.heap.size + 2 := by simp
  have hM2 := hM.grows hbW
  have hT2 := tab_step htab hM.memo (grownBy_of_below hbW _)
  have hV2 := hv.grows hbW
  obtain ⟨x0, x1, x2, x3, x4, x5, x6, x7, x8⟩ := hM2.x.nine i n hi
  have m0 := hM2.m.cell 0 rfl
  obtain ⟨k, c, nl, nr, mn, mx⟩ := n
  dsimp only at hk x0 x1 x2 x3 x4 x5 x6 x7 x8
  have HI := Lib.hid hi
  have HX := Lib.hid hX
  have HL := Lib.hid hl
  have HLb := Lib.hid hlb
  have HbW := Lib.hid hbW
  have HM2 := Lib.hid hM2
  have HT2 := Lib.hid hT2
  have HV2 := Lib.hid hV2
  have Hs2 := Lib.hid hsz2
  have hxb := lt_of_cell x0
  have hBm := lt_of_cell m0
  have hl3 := lt_of_cell v3
  have hl4 := lt_of_cell v4
  dsimp only at hxb hBm hl3 hl4
  clear hM htab hv hi hX hl hlb hbW hM2 hT2 hV2 hsz2
  obtain rfl : k = 6 := hk
  refine (callsIn_wide (n := 6)).1 ?_
  have hfn : ∀ k, Fence.wide.fn k := fun _ => trivial
  refine callsIn_of_wp_marks Tryz.func40 rfl trivial ?_ rfl
  simp only [Tryz.ntmps40, List.size_toArray, List.length_cons, List.length_nil, Nat.reduceAdd, Nat.reduceSub, Array.replicate_succ, Array.replicate_zero, List.push_toArray, List.append_toArray, List.nil_append, List.cons_append]
  have HE := Lib.hid hE
  clear hE
  gi_wp2
  generalize ((W.alloc (.cells #[.pointer (some ⟨Bm, 0, none⟩)] 93)).alloc (.cells #[.int .i64 (i : Int)] 3)) = W2 at v3 v4 x0 x1 x2 x3 x4 x5 x6 x7 x8 m0 hxb hBm hl3 hl4 HbW HM2 HT2 HV2 Hs2 ⊢
  gi_region
  gi_wp2_with (gi_at_call 61; refine (positions_in _ sp0 _ sc _).mono ?_; rintro e w' ⟨rfl, rfl⟩)
  have hbw : Below W2.heap.size W2 (((W2.alloc (.cells #[.int .i64 6, .int .u64 (wd c 0), .int .u64 (wd c 1), .int .u64 (wd c 2), .int .u64 (wd c 3), .int .i64 nl, .int .i64 nr, .int .i64 mn, .int .i64 mx] 45)).alloc (.cells #[.slice none 0 0] 96)).alloc (.cells #[.slice sp0 l.length sc] 62)).drew :=
    (((Below.refl _ W2).alloc (Nat.le_refl _) _).alloc (by simp) _ |>.alloc (by simp; omega) _).trans ((below_dr _).mono (by simp; omega))
  have hLw : Boxed (((W2.alloc (.cells #[.int .i64 6, .int .u64 (wd c 0), .int .u64 (wd c 1), .int .u64 (wd c 2), .int .u64 (wd c 3), .int .i64 nl, .int .i64 nr, .int .i64 mn, .int .i64 mx] 45)).alloc (.cells #[.slice none 0 0] 96)).alloc (.cells #[.slice sp0 l.length sc] 62)).drew (W2.heap.size + 1) 96 (.slice none 0 0) := ((Blk.alloc1 W2 _ _ _ _).alloc _).drew.is
  have hSw : Blk (((W2.alloc (.cells #[.int .i64 6, .int .u64 (wd c 0), .int .u64 (wd c 1), .int .u64 (wd c 2), .int .u64 (wd c 3), .int .i64 nl, .int .i64 nr, .int .i64 mn, .int .i64 mx] 45)).alloc (.cells #[.slice none 0 0] 96)).alloc (.cells #[.slice sp0 l.length sc] 62)).drew (W2.heap.size + 1 + 1) #[.slice sp0 l.length sc] 62 := (Blk.alloc2 W2 _ _ _ _).drew
  have hsw : (((W2.alloc (.cells #[.int .i64 6, .int .u64 (wd c 0), .int .u64 (wd c 1), .int .u64 (wd c 2), .int .u64 (wd c 3), .int .i64 nl, .int .i64 nr, .int .i64 mn, .int .i64 mx] 45)).alloc (.cells #[.slice none 0 0] 96)).alloc (.cells #[.slice sp0 l.length sc] 62)).drew.heap.size = W2.heap.size + 3 := by simp
  generalize (((W2.alloc (.cells #[.int .i64 6, .int .u64 (wd c 0), .int .u64 (wd c 1), .int .u64 (wd c 2), .int .u64 (wd c 3), .int .i64 nl, .int .i64 nr, .int .i64 mn, .int .i64 mx] 45)).alloc (.cells #[.slice none 0 0] 96)).alloc (.cells #[.slice sp0 l.length sc] 62)).drew = w at hbw hLw hSw hsw ⊢
  have hMw := HM2.out.grows hbw
  have HMw := Lib.hid hMw
  have hmb2 : mb < W2.heap.size := HM2.out.memo.lt
  have hrw : rowOf w (W2.heap.size + 1) = none := by unfold rowOf; rw [hLw.cell]; rfl
  have hread : ∀ W', KpR (W2.heap.size + 1) (fun _ => False) w W' → IsS W' (.slice sp0 l.length sc) l := fun W' hk => HV2.out.kept fun a u ha => by
    have hlt := lt_of_cell ha
    exact hk.cellq ((hbw.cell hlt).trans ha) (by omega) (fun h => h) (by rw [hrw]; simp)
  have hlow : ∀ r, rowOf w (W2.heap.size + 1) = some r → r < w.heap.size := fun r e => by rw [hrw] at e; cases e
  have hends := good_ends HL.out HLb.out
  have hpl := pts_len HL.out HLb.out
  have hll := len_pts HL.out
  have hMe : ∀ (w' : World) (p : Nat) (v : Value), W2.grownBy w' (some mb) → MemoOk w' mb xs b → p ≤ b.length → IsS w' v [(p, p + 1)] → Calls Tryz.prog 60 #[.pointer (some ⟨Bm, 0, none⟩), .int .i64 (i : Int), v] w' fun e W' =>
      (∃ v' m, e = .returned v' ∧ IsS W' v' m ∧ SetOf b (tr xs i) [(p, p + 1)] m) ∧ w'.grownBy W' (some mb) ∧ MemoOk W' mb xs b := fun w p v hg hm hp hs => memoized_6 Bm mb xs b xb xo xc bv i _ HX.out HI.out hb HE.out v _ w (HM2.out.step hg hm) (tab_step HT2.out HM2.out.memo hg) hs (good_one p) (fun q hq => by have := on_one hq; omega) ⟨rfl, p, rfl⟩
  have HMe := Lib.hid hMe
  have Hrd := Lib.hid hread
  have Hlw := Lib.hid hlow
  have Hen := Lib.hid hends
  have HLw := Lib.hid hLw
  have HSw := Lib.hid hSw
  have Hbw := Lib.hid hbw
  have Hsw := Lib.hid hsw
  have g2w := Lib.hid (grownBy_of_below hbw (some mb))
  clear hMe hread hlow hends hLw hSw hbw hsw hrw hMw
  refine wpIn_rangeFunc_ownG rfl (by decide) (gf := 91) (lb := #[.pointer (some ⟨W2.heap.size + 1 + 1, 0, none⟩)]) rfl trivial (enters_of Tryz.func91 (by kernel_rfl) rfl)
    (positions_stopsM b.length 5 (by decide) (W2.heap.size + 1 + 1) (W2.heap.size + 1) (fun _ => False) w _ l HSw.out Hrd.out (by have := Hsw.out; omega) (fun _ h => h.elim) Hlw.out (by omega) (fun s hs => ⟨(Hen.out s hs).1, by have := (Hen.out s hs).2; omega⟩) (fun s hs => (Hen.out s hs).2)) KpR.trans (kpR_b (by have := Hsw.out; omega)) (Below.refl _ _) (fun _ => rfl)
    (fun pre W' => RowL b (tr xs i) (W2.heap.size + 1) W2.heap.size pre W' ∧ MemoOk W' mb xs b ∧ W2.grownBy W' (some mb))
    (fun _ _ _ => False)
    (OwnFrom.and (ownFrom_rowL _ _ _ _ _ _) (OwnFrom.and (ownFrom_memo (by have := Hsw.out; omega)) (ownFrom_grown (by have := Hsw.out; omega))))
    (fun _ _ _ _ _ hs _ _ => hs)
    ⟨RowL.start HLw.out, HMw.out.memo, g2w.out⟩
    (fun y => { tmps := #[.pointer (some ⟨Bm, 0, none⟩), .int .i64 (i : Int), .slice sp0 l.length sc, .pointer (some ⟨W.heap.size, 0, none⟩), .pointer (some ⟨W.heap.size + 1, 0, none⟩), undef, .slice none 0 0, .pointer (some ⟨W2.heap.size, 0, none⟩), .pointer (some ⟨W2.heap.size + 1, 0, none⟩), .int .i64 (y.1 : Int), .pointer (some ⟨Bm, 0, none⟩), .pointer (some ⟨Bm, 0, none⟩), .pointer (some ⟨Bm, 0, none⟩), .slice (some ⟨xb, xo, none⟩) xs.length xc, .int .i64 (i : Int), .pointer (some ⟨xb, xo + i * 9, none⟩), .agg #[.int .i64 6, .int .u64 (wd c 0), .int .u64 (wd c 1), .int .u64 (wd c 2), .int .u64 (wd c 3), .int .i64 nl, .int .i64 nr, .int .i64 mn, .int .i64 mx], .pointer (some ⟨W2.heap.size, 0, none⟩), .int .i64 6, .bool false, .bool false, undef, .bool false, .bool false, undef, undef, undef, undef, undef, .bool false, .bool false, undef, undef, undef, undef, undef, undef, undef, undef, undef, .bool false, .bool false, undef, undef, undef, undef, undef, undef, undef, undef, undef, undef, undef, undef, .bool false, .bool false, undef, undef, undef, undef, .bool true, .bool true, undef, .slice sp0 l.length sc, .func (.func 91) #[] #[.pointer (some ⟨W2.heap.size + 1 + 1, 0, none⟩)], .int .i64 (y.1 : Int), undef, undef, undef, undef, undef, undef, undef, undef, undef, undef], defers := [] }) ?assign ?body ?done ?stop
  case assign =>
    intro l y W K hK
    gi_wp2
    exact hK
  case body =>
    rintro l' pre ⟨yv, hyv⟩ W3 ⟨hrl, hmo, hg⟩ hlt
    dsimp only
    obtain ⟨pv, nv, cv, hv, rfl⟩ := hrl.open
    have c3 := keptM hg HM2.out.memo _ _ v3
    have c4 := keptM hg HM2.out.memo _ _ v4
    have cL := hv.cell
    have hprel : pre.length ≤ b.length + 1 := by omega
    have hsz3 := hg.size
    have HLt := Lib.hid hlt
    have HRl := Lib.hid hrl
    have HMo := Lib.hid hmo
    have HG := Lib.hid hg
    have HV := Lib.hid hv
    clear hlt hrl hmo hg hv
    gi_wp2
    refine wpIn_held_round l' 8 (fun W' => W'.cell? ⟨W2.heap.size + 1, 0, none⟩ = some (.slice pv pre.length cv) ∧ W'.cell? ⟨W.heap.size, 0, none⟩ = some (.pointer (some ⟨Bm, 0, none⟩)) ∧ W'.cell? ⟨W.heap.size + 1, 0, none⟩ = some (.int .i64 (i : Int))) (by kernel_rfl) (by kernel_rfl) ⟨cL, c3, c4⟩ (fun hHeld => ?_)
    refine wpAnyZ_take (i := 0) (v := .slice pv pre.length cv) rfl (by kernel_rfl) (by decide) (by kernel_rfl) (fun _ _ _ h => h) _ _ _ _ (by kernel_rfl) (by kernel_rfl) (Or.inl ⟨by rfl, by intro w hSw; obtain ⟨s1, s2, s3⟩ := hSw; go_simp⟩) hHeld ?_
    simp only [Act.put, List.setIfInBounds_toArray, List.set_cons_zero, List.set_cons_succ]
    refine wpAnyZ_take (i := 1) (v := .pointer (some ⟨Bm, 0, none⟩)) rfl (by kernel_rfl) (by decide) (by kernel_rfl) (fun _ _ _ h => h) _ _ _ _ (by kernel_rfl) (by kernel_rfl) (Or.inl ⟨by rfl, by intro w hSw; obtain ⟨s1, s2, s3⟩ := hSw; go_simp⟩) hHeld ?_
    simp only [Act.put, List.setIfInBounds_toArray, List.set_cons_zero, List.set_cons_succ]
    refine wpAnyZ_take (i := 2) (v := .int .i64 (i : Int)) rfl (by kernel_rfl) (by decide) (by kernel_rfl) (fun _ _ _ h => h) _ _ _ _ (by kernel_rfl) (by kernel_rfl) (Or.inl ⟨by rfl, by intro w hSw; obtain ⟨s1, s2, s3⟩ := hSw; go_simp⟩) hHeld ?_
    simp only [Act.put, List.setIfInBounds_toArray, List.set_cons_zero, List.set_cons_succ]
    refine wpAnyZ_take (i := 3) (v := .int .i64 (yv : Int)) rfl (by kernel_rfl) (by decide) (by kernel_rfl) (fun _ _ _ h => h) _ _ _ _ (by kernel_rfl) (by kernel_rfl) (Or.inl ⟨by rfl, by intro w hSw; obtain ⟨s1, s2, s3⟩ := hSw; go_simp⟩) hHeld ?_
    simp only [Act.put, List.setIfInBounds_toArray, List.set_cons_zero, List.set_cons_succ]
    refine wpAnyZ_one (j := 4) (by kernel_rfl) rfl (fun K hK => ?_)
    go_simp
    go_wp2_with (go_at_call 41; refine (only_any yv (by omega) _).mono ?_; rintro e w4 ⟨rfl, hw4⟩; have Hw4 := Lib.hid hw4; clear hw4)
    have hb4 : Below W3.heap.size W3 w4 := by rw [Hw4.out]; exact (below_dr W3).trans ((Below.refl _ _).alloc (by simp) _)
    have hs4 : IsS w4 (.slice (some ⟨W3.heap.size, 0, none⟩) 1 1) [(yv, yv + 1)] := by rw [Hw4.out]; exact only_isS yv _
    have d1 := (hb4.cell (lt_of_cell cL)).trans cL
    have d3 := (hb4.cell (lt_of_cell c3)).trans c3
    have d4 := (hb4.cell (lt_of_cell c4)).trans c4
    clear Hw4
    refine hK.out _ _ (.inr ⟨d1, d3, d4⟩) ?_
    clear hK K
    try simp only [Act.put, List.setIfInBounds_toArray, List.set_cons_zero, List.set_cons_succ]
    have hmo4 := HMo.out.grows hb4
    have hg4 := HG.out.trans (grownBy_of_below hb4 (some mb))
    have HM4 := Lib.hid (HMe.out w4 yv _ hg4 hmo4 (by omega) hs4)
    have Hmo4 := Lib.hid hmo4
    have Hg34 := Lib.hid (grownBy_of_below hb4 (some mb))
    clear hmo4 hg4 hs4
    refine wpAnyZ_one (j := 5) (by kernel_rfl) rfl (fun K hK => ?_)
    go_simp
    go_wp2_with (go_at_call 60; refine HM4.out.mono ?_; rintro e w5 ⟨⟨v5, m5, rfl, hv5, hs5⟩, hg5, hmo5⟩; obtain ⟨p5, c5, rfl⟩ := hv5.shape)
    have e1 := keptM hg5 Hmo4.out _ _ d1
    have e3 := keptM hg5 Hmo4.out _ _ d3
    have e4 := keptM hg5 Hmo4.out _ _ d4
    refine hK.out _ _ (.inr ⟨e1, e3, e4⟩) ?_
    clear hK K
    try simp only [Act.put, List.setIfInBounds_toArray, List.set_cons_zero, List.set_cons_succ]
    have Hg35 := Lib.hid (Hg34.out.trans hg5)
    have Hmo5 := Lib.hid hmo5
    have Hv5 := Lib.hid hv5
    have Hs5 := Lib.hid hs5
    clear hg5 hmo5 hv5 hs5 d1 d3 d4
    refine wpAnyZ_one (j := 6) (by kernel_rfl) rfl (fun K hK => ?_)
    go_simp
    refine hK.out _ _ (.inr ⟨cell_al e1, cell_al e3, cell_al e4⟩) ?_
    clear hK K
    try simp only [Act.put, List.setIfInBounds_toArray, List.set_cons_zero, List.set_cons_succ]
    have hb6 : Below w5.heap.size w5 (w5.alloc (.cells #[.slice p5 m5.length c5] 62)) := (Below.refl _ _).alloc (Nat.le_refl _) _
    have hB6 := Blk.new w5 #[.slice p5 m5.length c5] 62
    have hs6 : (w5.alloc (.cells #[.slice p5 m5.length c5] 62)).heap.size = w5.heap.size + 1 := by simp
    generalize (w5.alloc (.cells #[.slice p5 m5.length c5] 62)) = w6 at hb6 hB6 hs6 ⊢
    have hg36 := Hg35.out.trans (grownBy_of_below hb6 (some mb))
    have hs36 := hg36.size
    have hv6 : Boxed w6 (W2.heap.size + 1) 96 (.slice pv pre.length cv) := (hg36.block (W2.heap.size + 1) HV.out.lt (by simp; omega)).trans HV.out
    obtain ⟨vs, ms, hr6, hall6, l1, l2, h36⟩ := (HRl.out.kept hg36 (fun r e => by cases e; exact HMo.out.noCells)).at hv6
    have hlL := HV.out.lt
    refine wpAnyZ_one (j := 7) (by kernel_rfl) rfl (fun K hK => ?_)
    refine step_append_sl w6 W2.heap.size _ pre.length vs p5 m5.length c5 w5.heap.size rfl _ _ rfl rfl rfl hr6 hall6 hB6 (by omega) (by omega) ?_
    intro v7 w7 hown7 hg7 hnew7 hall7
    have hk7 : ∀ k, k < W2.heap.size → w7.heap[k]? = w6.heap[k]? := fun k hk => hg7.block k (by omega) (fun e => by have := own_ge hr6 _ e.symm; omega)
    have hv7 := hv6.kept hg7 (hv6.not_row (by decide) hr6)
    have k3 : w7.cell? ⟨W.heap.size, 0, none⟩ = some (.pointer (some ⟨Bm, 0, none⟩)) := (World.cell?_of_block (hk7 W.heap.size hl3)).trans ((hb6.cell (lt_of_cell e3)).trans e3)
    have k4 : w7.cell? ⟨W.heap.size + 1, 0, none⟩ = some (.int .i64 (i : Int)) := (World.cell?_of_block (hk7 (W.heap.size + 1) hl4)).trans ((hb6.cell (lt_of_cell e4)).trans e4)
    refine hK.out _ _ (.inr ⟨hv7.cell, k3, k4⟩) ?_
    clear hK K
    try simp only [Act.put, List.setIfInBounds_toArray, List.set_cons_zero, List.set_cons_succ]
    obtain ⟨p7, c7, rfl⟩ := own_shape hown7
    have f7 := hv7.frozen
    have c7' := hv7.cell
    have Hown7 := Lib.hid hown7
    have Hg7 := Lib.hid hg7
    have Hnew7 := Lib.hid hnew7
    have Hall7 := Lib.hid hall7
    have Hall6 := Lib.hid hall6
    have Hr6 := Lib.hid hr6
    have Hv6 := Lib.hid hv6
    have H36 := Lib.hid h36
    have Hg36 := Lib.hid hg36
    clear hown7 hg7 hnew7 hall7 hall6 hr6 hv6 h36 hg36 hv7 hk7
    refine wpAnyZ_one (j := 8) (by kernel_rfl) rfl (fun K hK => ?_)
    go_simp
    refine hK.out _ _ (.inl rfl) ?_
    clear hK K
    refine wpAnyZ_done (by kernel_rfl) ?_
    obtain ⟨q1, q2, q3, q4, q5, q6⟩ := RowL.grow (X := fun _ => False) (y := ⟨yv, hyv⟩) Hv6.out Hr6.out (by omega) Hall6.out l1 l2 H36.out Hown7.out Hnew7.out Hall7.out Hg7.out (Hv5.out.grows hb6) Hs5.out
    have hmo6 := Hmo5.out.grows hb6
    have hsw := Hsw.out
    have F1 := Lib.hid ((KeepsFrom.of_grownBy Hg36.out (fun j e => by cases e; omega : ∀ j, some mb = some j → j < w.heap.size)).trans (q2.from w.heap.size))
    have F2 := Lib.hid ((kpR_grown (eb := W2.heap.size + 1) (X := fun _ => False) Hg36.out (by omega) hlL HMo.out.noCells).trans q3)
    have F3 := Lib.hid (memo_kept_sl hmo6 (q6 mb hmo6.lt hmo6.noCells) q4)
    have F4 := Lib.hid (grown_below (HG.out.trans Hg36.out) q5 q2.size)
    have F5 := Lib.hid q1
    clear q1 q2 q3 q4 q5 q6 hmo6
    simp only [Ends]
    gi_wp2
    exact ⟨F1.out, F2.out, F5.out, F3.out, F4.out⟩
  case done =>
    rintro D ys W3 hD rfl ⟨hrow, hmo, hg⟩ hK
    obtain ⟨v, ms, hv, ⟨pv, nv, cv, rfl⟩, hisL, hml, hms⟩ := hrow.isL
    have cL := hv.cell
    have hpre := toPm_val (pts_le HLb.out)
    have hlen : (toPm b.length (pts l)).length ≤ b.length + 1 := by
      have h := congrArg List.length hpre
      rw [List.length_map] at h
      omega
    have HU := Lib.hid (union_sets _ ms (b.length + 1) W3 hisL (row_flat hml hms hb (by omega)) (by omega) (by omega) (row_ends hml hms))
    have Hms := Lib.hid hms
    have Hpre := Lib.hid hpre
    have Hmo := Lib.hid hmo
    have Hg := Lib.hid hg
    have HK := Lib.hid hK
    clear hrow hv hisL hms hpre hmo hg hK
    gi_wp2_with (gi_at_call 59; refine (callsIn_wide.2 HU.out).mono ?_; rintro e W7 ⟨⟨v7, m7, rfl, hown7, hg7, hle7, hon7⟩, hb7⟩)
    have hK7 := (hb7.block D (heap_lt HK.out)).trans HK.out
    have hmb7 := Hmo.out.lt
    have hsz := Hg.out.size
    have hsw := Hsw.out
    refine ⟨by simp, .inl ⟨_, _, rfl, run_takeDeferred hK7, ?_⟩⟩
    exact ⟨_, results_tmp rfl _ _ _, ⟨_, m7, rfl, (own_isS hown7).kept (kept_row (grownBy_putObj' W7 D _) (noCells_deferred hK7)), row_union Hpre.out hml Hms.out hg7 hon7⟩,
      grown_more (((grownBy_of_below HbW.out _).trans Hg.out).trans (grownBy_of_below hb7 _)) (grownBy_putObj' W7 D _) (by omega), (Hmo.out.grows hb7).row (grownBy_putObj' W7 D _) (noCells_deferred hK7) (by omega)⟩
  case stop =>
    rintro D c pre W _ _ h _
    exact h.elim
set_option maxRecDepth 100000 in
set_option maxHeartbeats 2000000 in
theorem ends_7 (Bm mb : Nat) (xs : List Nd) (b : List Int) (xb xo xc : Nat) (bv : Value) (i : Nat) (n : Nd) (hX : OkX xs) (hi : xs[i]? = some n) (hb : b.length ≤ 1048576) (hE : ∀ j, j < i → EndsC Bm mb xs b xb xo xc bv j) (hk : n.k = 7) : EndsC Bm mb xs b xb xo xc bv i := by
  intro v l W hM htab hv hl hlb
  obtain ⟨sp0, sc, rfl⟩ := hv.shape
  have hilt : i < xs.length := (List.getElem?_eq_some_iff.1 hi).1
  have hbW : Below W.heap.size W ((W.alloc (.cells #[.pointer (some ⟨Bm, 0, none⟩)] 93)).alloc (.cells #[.int .i64 (i : Int)] 3)) := ((Below.refl _ W).alloc (Nat.le_refl _) _).alloc (by simp) _
  have v3 := ((Blk.new W #[.pointer (some ⟨Bm, 0, none⟩)] 93).alloc (.cells #[.int .i64 (i : Int)] 3)).cell 0 rfl
  have v4 := (Blk.alloc1 W #[.pointer (some ⟨Bm, 0, none⟩)] #[.int .i64 (i : Int)] 93 3).cell 0 rfl
  have hsz2 : ((W.alloc (.cells #[.pointer (some ⟨Bm, 0, none⟩)] 93)).alloc (.cells #[.int .i64 (i : Int)] 3)).heap.size = W.heap.size + 2 := by simp
  have hM2 := hM.grows hbW
  have hT2 := tab_step htab hM.memo (grownBy_of_below hbW _)
  have hV2 := hv.grows hbW
  obtain ⟨x0, x1, x2, x3, x4, x5, x6, x7, x8⟩ := hM2.x.nine i n hi
  have m0 := hM2.m.cell 0 rfl
  obtain ⟨k, c, nl, nr, mn, mx⟩ := n
  dsimp only at hk x0 x1 x2 x3 x4 x5 x6 x7 x8
  have HI := Lib.hid hi
  have HX := Lib.hid hX
  have HL := Lib.hid hl
  have HLb := Lib.hid hlb
  have HbW := Lib.hid hbW
  have HM2 := Lib.hid hM2
  have HT2 := Lib.hid hT2
  have HV2 := Lib.hid hV2
  have Hs2 := Lib.hid hsz2
  have hxb := lt_of_cell x0
  have hBm := lt_of_cell m0
  have hl3 := lt_of_cell v3
  have hl4 := lt_of_cell v4
  dsimp only at hxb hBm hl3 hl4
  clear hM htab hv hi hX hl hlb hbW hM2 hT2 hV2 hsz2
  obtain rfl : k = 7 := hk
  refine (callsIn_wide (n := 6)).1 ?_
  have hfn : ∀ k, Fence.wide.fn k := fun _ => trivial
  refine callsIn_of_wp_marks Tryz.func40 rfl trivial ?_ rfl
  simp only [Tryz.ntmps40, List.size_toArray, List.length_cons, List.length_nil, Nat.reduceAdd, Nat.reduceSub, Array.replicate_succ, Array.replicate_zero, List.push_toArray, List.append_toArray, List.nil_append, List.cons_append]
  have HE := Lib.hid hE
  clear hE
  gi_wp2
  generalize ((W.alloc (.cells #[.pointer (some ⟨Bm, 0, none⟩)] 93)).alloc (.cells #[.int .i64 (i : Int)] 3)) = W2 at v3 v4 x0 x1 x2 x3 x4 x5 x6 x7 x8 m0 hxb hBm hl3 hl4 HbW HM2 HT2 HV2 Hs2 ⊢
  gi_region
  gi_wp2_with (gi_at_call 61; refine (positions_in _ sp0 _ sc _).mono ?_; rintro e w' ⟨rfl, rfl⟩)
  have hbw : Below W2.heap.size W2 (((W2.alloc (.cells #[.int .i64 7, .int .u64 (wd c 0), .int .u64 (wd c 1), .int .u64 (wd c 2), .int .u64 (wd c 3), .int .i64 nl, .int .i64 nr, .int .i64 mn, .int .i64 mx] 45)).alloc (.cells #[.slice none 0 0] 96)).alloc (.cells #[.slice sp0 l.length sc] 62)).drew :=
    (((Below.refl _ W2).alloc (Nat.le_refl _) _).alloc (by simp) _ |>.alloc (by simp; omega) _).trans ((below_dr _).mono (by simp; omega))
  have hLw : Boxed (((W2.alloc (.cells #[.int .i64 7, .int .u64 (wd c 0), .int .u64 (wd c 1), .int .u64 (wd c 2), .int .u64 (wd c 3), .int .i64 nl, .int .i64 nr, .int .i64 mn, .int .i64 mx] 45)).alloc (.cells #[.slice none 0 0] 96)).alloc (.cells #[.slice sp0 l.length sc] 62)).drew (W2.heap.size + 1) 96 (.slice none 0 0) := ((Blk.alloc1 W2 _ _ _ _).alloc _).drew.is
  have hSw : Blk (((W2.alloc (.cells #[.int .i64 7, .int .u64 (wd c 0), .int .u64 (wd c 1), .int .u64 (wd c 2), .int .u64 (wd c 3), .int .i64 nl, .int .i64 nr, .int .i64 mn, .int .i64 mx] 45)).alloc (.cells #[.slice none 0 0] 96)).alloc (.cells #[.slice sp0 l.length sc] 62)).drew (W2.heap.size + 1 + 1) #[.slice sp0 l.length sc] 62 := (Blk.alloc2 W2 _ _ _ _).drew
  have hsw : (((W2.alloc (.cells #[.int .i64 7, .int .u64 (wd c 0), .int .u64 (wd c 1), .int .u64 (wd c 2), .int .u64 (wd c 3), .int .i64 nl, .int .i64 nr, .int .i64 mn, .int .i64 mx] 45)).alloc (.cells #[.slice none 0 0] 96)).alloc (.cells #[.slice sp0 l.length sc] 62)).drew.heap.size = W2.heap.size + 3 := by simp
  generalize (((W2.alloc (.cells #[.int .i64 7, .int .u64 (wd c 0), .int .u64 (wd c 1), .int .u64 (wd c 2), .int .u64 (wd c 3), .int .i64 nl, .int .i64 nr, .int .i64 mn, .int .i64 mx] 45)).alloc (.cells #[.slice none 0 0] 96)).alloc (.cells #[.slice sp0 l.length sc] 62)).drew = w at hbw hLw hSw hsw ⊢
  have hMw := HM2.out.grows hbw
  have HMw := Lib.hid hMw
  have hmb2 : mb < W2.heap.size := HM2.out.memo.lt
  have hrw : rowOf w (W2.heap.size + 1) = none := by unfold rowOf; rw [hLw.cell]; rfl
  have hread : ∀ W', KpR (W2.heap.size + 1) (fun _ => False) w W' → IsS W' (.slice sp0 l.length sc) l := fun W' hk => HV2.out.kept fun a u ha => by
    have hlt := lt_of_cell ha
    exact hk.cellq ((hbw.cell hlt).trans ha) (by omega) (fun h => h) (by rw [hrw]; simp)
  have hlow : ∀ r, rowOf w (W2.heap.size + 1) = some r → r < w.heap.size := fun r e => by rw [hrw] at e; cases e
  have hends := good_ends HL.out HLb.out
  have hpl := pts_len HL.out HLb.out
  have hll := len_pts HL.out
  have hMe : ∀ (w' : World) (p : Nat) (v : Value), W2.grownBy w' (some mb) → MemoOk w' mb xs b → p ≤ b.length → IsS w' v [(p, p + 1)] → Calls Tryz.prog 60 #[.pointer (some ⟨Bm, 0, none⟩), .int .i64 (i : Int), v] w' fun e W' =>
      (∃ v' m, e = .returned v' ∧ IsS W' v' m ∧ SetOf b (tr xs i) [(p, p + 1)] m) ∧ w'.grownBy W' (some mb) ∧ MemoOk W' mb xs b := fun w p v hg hm hp hs => memoized_78 Bm mb xs b xb xo xc bv i _ HX.out HI.out hb HE.out (fun h => by cases h) v _ w (HM2.out.step hg hm) (tab_step HT2.out HM2.out.memo hg) hs (good_one p) (fun q hq => by have := on_one hq; omega) (.inr ⟨rfl, p, rfl⟩)
  have HMe := Lib.hid hMe
  have Hrd := Lib.hid hread
  have Hlw := Lib.hid hlow
  have Hen := Lib.hid hends
  have HLw := Lib.hid hLw
  have HSw := Lib.hid hSw
  have Hbw := Lib.hid hbw
  have Hsw := Lib.hid hsw
  have g2w := Lib.hid (grownBy_of_below hbw (some mb))
  clear hMe hread hlow hends hLw hSw hbw hsw hrw hMw
  refine wpIn_rangeFunc_ownG rfl (by decide) (gf := 91) (lb := #[.pointer (some ⟨W2.heap.size + 1 + 1, 0, none⟩)]) rfl trivial (enters_of Tryz.func91 (by kernel_rfl) rfl)
    (positions_stopsM b.length 5 (by decide) (W2.heap.size + 1 + 1) (W2.heap.size + 1) (fun _ => False) w _ l HSw.out Hrd.out (by have := Hsw.out; omega) (fun _ h => h.elim) Hlw.out (by omega) (fun s hs => ⟨(Hen.out s hs).1, by have := (Hen.out s hs).2; omega⟩) (fun s hs => (Hen.out s hs).2)) KpR.trans (kpR_b (by have := Hsw.out; omega)) (Below.refl _ _) (fun _ => rfl)
    (fun pre W' => RowL b (tr xs i) (W2.heap.size + 1) W2.heap.size pre W' ∧ MemoOk W' mb xs b ∧ W2.grownBy W' (some mb))
    (fun _ _ _ => False)
    (OwnFrom.and (ownFrom_rowL _ _ _ _ _ _) (OwnFrom.and (ownFrom_memo (by have := Hsw.out; omega)) (ownFrom_grown (by have := Hsw.out; omega))))
    (fun _ _ _ _ _ hs _ _ => hs)
    ⟨RowL.start HLw.out, HMw.out.memo, g2w.out⟩
    (fun y => { tmps := #[.pointer (some ⟨Bm, 0, none⟩), .int .i64 (i : Int), .slice sp0 l.length sc, .pointer (some ⟨W.heap.size, 0, none⟩), .pointer (some ⟨W.heap.size + 1, 0, none⟩), undef, .slice none 0 0, .pointer (some ⟨W2.heap.size, 0, none⟩), .pointer (some ⟨W2.heap.size + 1, 0, none⟩), .int .i64 (y.1 : Int), .pointer (some ⟨Bm, 0, none⟩), .pointer (some ⟨Bm, 0, none⟩), .pointer (some ⟨Bm, 0, none⟩), .slice (some ⟨xb, xo, none⟩) xs.length xc, .int .i64 (i : Int), .pointer (some ⟨xb, xo + i * 9, none⟩), .agg #[.int .i64 7, .int .u64 (wd c 0), .int .u64 (wd c 1), .int .u64 (wd c 2), .int .u64 (wd c 3), .int .i64 nl, .int .i64 nr, .int .i64 mn, .int .i64 mx], .pointer (some ⟨W2.heap.size, 0, none⟩), .int .i64 7, .bool false, .bool false, undef, .bool false, .bool false, undef, undef, undef, undef, undef, .bool false, .bool false, undef, undef, undef, undef, undef, undef, undef, undef, undef, .bool false, .bool false, undef, undef, undef, undef, undef, undef, undef, undef, undef, undef, undef, undef, .bool false, .bool false, undef, undef, undef, undef, .bool true, .bool false, .bool true, .slice sp0 l.length sc, .func (.func 91) #[] #[.pointer (some ⟨W2.heap.size + 1 + 1, 0, none⟩)], .int .i64 (y.1 : Int), undef, undef, undef, undef, undef, undef, undef, undef, undef, undef], defers := [] }) ?assign ?body ?done ?stop
  case assign =>
    intro l y W K hK
    gi_wp2
    exact hK
  case body =>
    rintro l' pre ⟨yv, hyv⟩ W3 ⟨hrl, hmo, hg⟩ hlt
    dsimp only
    obtain ⟨pv, nv, cv, hv, rfl⟩ := hrl.open
    have c3 := keptM hg HM2.out.memo _ _ v3
    have c4 := keptM hg HM2.out.memo _ _ v4
    have cL := hv.cell
    have hprel : pre.length ≤ b.length + 1 := by omega
    have hsz3 := hg.size
    have HLt := Lib.hid hlt
    have HRl := Lib.hid hrl
    have HMo := Lib.hid hmo
    have HG := Lib.hid hg
    have HV := Lib.hid hv
    clear hlt hrl hmo hg hv
    gi_wp2
    refine wpIn_held_round l' 8 (fun W' => W'.cell? ⟨W2.heap.size + 1, 0, none⟩ = some (.slice pv pre.length cv) ∧ W'.cell? ⟨W.heap.size, 0, none⟩ = some (.pointer (some ⟨Bm, 0, none⟩)) ∧ W'.cell? ⟨W.heap.size + 1, 0, none⟩ = some (.int .i64 (i : Int))) (by kernel_rfl) (by kernel_rfl) ⟨cL, c3, c4⟩ (fun hHeld => ?_)
    refine wpAnyZ_take (i := 0) (v := .slice pv pre.length cv) rfl (by kernel_rfl) (by decide) (by kernel_rfl) (fun _ _ _ h => h) _ _ _ _ (by kernel_rfl) (by kernel_rfl) (Or.inl ⟨by rfl, by intro w hSw; obtain ⟨s1, s2, s3⟩ := hSw; go_simp⟩) hHeld ?_
    simp only [Act.put, List.setIfInBounds_toArray, List.set_cons_zero, List.set_cons_succ]
    refine wpAnyZ_take (i := 1) (v := .pointer (some ⟨Bm, 0, none⟩)) rfl (by kernel_rfl) (by decide) (by kernel_rfl) (fun _ _ _ h => h) _ _ _ _ (by kernel_rfl) (by kernel_rfl) (Or.inl ⟨by rfl, by intro w hSw; obtain ⟨s1, s2, s3⟩ := hSw; go_simp⟩) hHeld ?_
    simp only [Act.put, List.setIfInBounds_toArray, List.set_cons_zero, List.set_cons_succ]
    refine wpAnyZ_take (i := 2) (v := .int .i64 (i : Int)) rfl (by kernel_rfl) (by decide) (by kernel_rfl) (fun _ _ _ h => h) _ _ _ _ (by kernel_rfl) (by kernel_rfl) (Or.inl ⟨by rfl, by intro w hSw; obtain ⟨s1, s2, s3⟩ := hSw; go_simp⟩) hHeld ?_
    simp only [Act.put, List.setIfInBounds_toArray, List.set_cons_zero, List.set_cons_succ]
    refine wpAnyZ_take (i := 3) (v := .int .i64 (yv : Int)) rfl (by kernel_rfl) (by decide) (by kernel_rfl) (fun _ _ _ h => h) _ _ _ _ (by kernel_rfl) (by kernel_rfl) (Or.inl ⟨by rfl, by intro w hSw; obtain ⟨s1, s2, s3⟩ := hSw; go_simp⟩) hHeld ?_
    simp only [Act.put, List.setIfInBounds_toArray, List.set_cons_zero, List.set_cons_succ]
    refine wpAnyZ_one (j := 4) (by kernel_rfl) rfl (fun K hK => ?_)
    go_simp
    go_wp2_with (go_at_call 41; refine (only_any yv (by omega) _).mono ?_; rintro e w4 ⟨rfl, hw4⟩; have Hw4 := Lib.hid hw4; clear hw4)
    have hb4 : Below W3.heap.size W3 w4 := by rw [Hw4.out]; exact (below_dr W3).trans ((Below.refl _ _).alloc (by simp) _)
    have hs4 : IsS w4 (.slice (some ⟨W3.heap.size, 0, none⟩) 1 1) [(yv, yv + 1)] := by rw [Hw4.out]; exact only_isS yv _
    have d1 := (hb4.cell (lt_of_cell cL)).trans cL
    have d3 := (hb4.cell (lt_of_cell c3)).trans c3
    have d4 := (hb4.cell (lt_of_cell c4)).trans c4
    clear Hw4
    refine hK.out _ _ (.inr ⟨d1, d3, d4⟩) ?_
    clear hK K
    try simp only [Act.put, List.setIfInBounds_toArray, List.set_cons_zero, List.set_cons_succ]
    have hmo4 := HMo.out.grows hb4
    have hg4 := HG.out.trans (grownBy_of_below hb4 (some mb))
    have HM4 := Lib.hid (HMe.out w4 yv _ hg4 hmo4 (by omega) hs4)
    have Hmo4 := Lib.hid hmo4
    have Hg34 := Lib.hid (grownBy_of_below hb4 (some mb))
    clear hmo4 hg4 hs4
    refine wpAnyZ_one (j := 5) (by kernel_rfl) rfl (fun K hK => ?_)
    go_simp
    go_wp2_with (go_at_call 60; refine HM4.out.mono ?_; rintro e w5 ⟨⟨v5, m5, rfl, hv5, hs5⟩, hg5, hmo5⟩; obtain ⟨p5, c5, rfl⟩ := hv5.shape)
    have e1 := keptM hg5 Hmo4.out _ _ d1
    have e3 := keptM hg5 Hmo4.out _ _ d3
    have e4 := keptM hg5 Hmo4.out _ _ d4
    refine hK.out _ _ (.inr ⟨e1, e3, e4⟩) ?_
    clear hK K
    try simp only [Act.put, List.setIfInBounds_toArray, List.set_cons_zero, List.set_cons_succ]
    have Hg35 := Lib.hid (Hg34.out.trans hg5)
    have Hmo5 := Lib.hid hmo5
    have Hv5 := Lib.hid hv5
    have Hs5 := Lib.hid hs5
    clear hg5 hmo5 hv5 hs5 d1 d3 d4
    refine wpAnyZ_one (j := 6) (by kernel_rfl) rfl (fun K hK => ?_)
    go_simp
    refine hK.out _ _ (.inr ⟨cell_al e1, cell_al e3, cell_al e4⟩) ?_
    clear hK K
    try simp only [Act.put, List.setIfInBounds_toArray, List.set_cons_zero, List.set_cons_succ]
    have hb6 : Below w5.heap.size w5 (w5.alloc (.cells #[.slice p5 m5.length c5] 62)) := (Below.refl _ _).alloc (Nat.le_refl _) _
    have hB6 := Blk.new w5 #[.slice p5 m5.length c5] 62
    have hs6 : (w5.alloc (.cells #[.slice p5 m5.length c5] 62)).heap.size = w5.heap.size + 1 := by simp
    generalize (w5.alloc (.cells #[.slice p5 m5.length c5] 62)) = w6 at hb6 hB6 hs6 ⊢
    have hg36 := Hg35.out.trans (grownBy_of_below hb6 (some mb))
    have hs36 := hg36.size
    have hv6 : Boxed w6 (W2.heap.size + 1) 96 (.slice pv pre.length cv) := (hg36.block (W2.heap.size + 1) HV.out.lt (by simp; omega)).trans HV.out
    obtain ⟨vs, ms, hr6, hall6, l1, l2, h36⟩ := (HRl.out.kept hg36 (fun r e => by cases e; exact HMo.out.noCells)).at hv6
    have hlL := HV.out.lt
    refine wpAnyZ_one (j := 7) (by kernel_rfl) rfl (fun K hK => ?_)
    refine step_append_sl w6 W2.heap.size _ pre.length vs p5 m5.length c5 w5.heap.size rfl _ _ rfl rfl rfl hr6 hall6 hB6 (by omega) (by omega) ?_
    intro v7 w7 hown7 hg7 hnew7 hall7
    have hk7 : ∀ k, k < W2.heap.size → w7.heap[k]? = w6.heap[k]? := fun k hk => hg7.block k (by omega) (fun e => by have := own_ge hr6 _ e.symm; omega)
    have hv7 := hv6.kept hg7 (hv6.not_row (by decide) hr6)
    have k3 : w7.cell? ⟨W.heap.size, 0, none⟩ = some (.pointer (some ⟨Bm, 0, none⟩)) := (World.cell?_of_block (hk7 W.heap.size hl3)).trans ((hb6.cell (lt_of_cell e3)).trans e3)
    have k4 : w7.cell? ⟨W.heap.size + 1, 0, none⟩ = some (.int .i64 (i : Int)) := (World.cell?_of_block (hk7 (W.heap.size + 1) hl4)).trans ((hb6.cell (lt_of_cell e4)).trans e4)
    refine hK.out _ _ (.inr ⟨hv7.cell, k3, k4⟩) ?_
    clear hK K
    try simp only [Act.put, List.setIfInBounds_toArray, List.set_cons_zero, List.set_cons_succ]
    obtain ⟨p7, c7, rfl⟩ := own_shape hown7
    have f7 := hv7.frozen
    have c7' := hv7.cell
    have Hown7 := Lib.hid hown7
    have Hg7 := Lib.hid hg7
    have Hnew7 := Lib.hid hnew7
    have Hall7 := Lib.hid hall7
    have Hall6 := Lib.hid hall6
    have Hr6 := Lib.hid hr6
    have Hv6 := Lib.hid hv6
    have H36 := Lib.hid h36
    have Hg36 := Lib.hid hg36
    clear hown7 hg7 hnew7 hall7 hall6 hr6 hv6 h36 hg36 hv7 hk7
    refine wpAnyZ_one (j := 8) (by kernel_rfl) rfl (fun K hK => ?_)
    go_simp
    refine hK.out _ _ (.inl rfl) ?_
    clear hK K
    refine wpAnyZ_done (by kernel_rfl) ?_
    obtain ⟨q1, q2, q3, q4, q5, q6⟩ := RowL.grow (X := fun _ => False) (y := ⟨yv, hyv⟩) Hv6.out Hr6.out (by omega) Hall6.out l1 l2 H36.out Hown7.out Hnew7.out Hall7.out Hg7.out (Hv5.out.grows hb6) Hs5.out
    have hmo6 := Hmo5.out.grows hb6
    have hsw := Hsw.out
    have F1 := Lib.hid ((KeepsFrom.of_grownBy Hg36.out (fun j e => by cases e; omega : ∀ j, some mb = some j → j < w.heap.size)).trans (q2.from w.heap.size))
    have F2 := Lib.hid ((kpR_grown (eb := W2.heap.size + 1) (X := fun _ => False) Hg36.out (by omega) hlL HMo.out.noCells).trans q3)
    have F3 := Lib.hid (memo_kept_sl hmo6 (q6 mb hmo6.lt hmo6.noCells) q4)
    have F4 := Lib.hid (grown_below (HG.out.trans Hg36.out) q5 q2.size)
    have F5 := Lib.hid q1
    clear q1 q2 q3 q4 q5 q6 hmo6
    simp only [Ends]
    gi_wp2
    exact ⟨F1.out, F2.out, F5.out, F3.out, F4.out⟩
  case done =>
    rintro D ys W3 hD rfl ⟨hrow, hmo, hg⟩ hK
    obtain ⟨v, ms, hv, ⟨pv, nv, cv, rfl⟩, hisL, hml, hms⟩ := hrow.isL
    have cL := hv.cell
    have hpre := toPm_val (pts_le HLb.out)
    have hlen : (toPm b.length (pts l)).length ≤ b.length + 1 := by
      have h := congrArg List.length hpre
      rw [List.length_map] at h
      omega
    have HU := Lib.hid (union_sets _ ms (b.length + 1) W3 hisL (row_flat hml hms hb (by omega)) (by omega) (by omega) (row_ends hml hms))
    have Hms := Lib.hid hms
    have Hpre := Lib.hid hpre
    have Hmo := Lib.hid hmo
    have Hg := Lib.hid hg
    have HK := Lib.hid hK
    clear hrow hv hisL hms hpre hmo hg hK
    gi_wp2_with (gi_at_call 59; refine (callsIn_wide.2 HU.out).mono ?_; rintro e W7 ⟨⟨v7, m7, rfl, hown7, hg7, hle7, hon7⟩, hb7⟩)
    have hK7 := (hb7.block D (heap_lt HK.out)).trans HK.out
    have hmb7 := Hmo.out.lt
    have hsz := Hg.out.size
    have hsw := Hsw.out
    refine ⟨by simp, .inl ⟨_, _, rfl, run_takeDeferred hK7, ?_⟩⟩
    exact ⟨_, results_tmp rfl _ _ _, ⟨_, m7, rfl, (own_isS hown7).kept (kept_row (grownBy_putObj' W7 D _) (noCells_deferred hK7)), row_union Hpre.out hml Hms.out hg7 hon7⟩,
      grown_more (((grownBy_of_below HbW.out _).trans Hg.out).trans (grownBy_of_below hb7 _)) (grownBy_putObj' W7 D _) (by omega), (Hmo.out.grows hb7).row (grownBy_putObj' W7 D _) (noCells_deferred hK7) (by omega)⟩
  case stop =>
    rintro D c pre W _ _ h _
    exact h.elim
end Go.Proofs.YtgbbjobmcbdhdaaGreatDoor

/-
  Walks: a node's ends, whatever its kind.
-/
namespace Go.Proofs.YtgbbjobmcbdhdaaGreatDoor
open Go.RowKit Go.Shelf
attribute [local go_sem] Oper.semAt_some

theorem good_le_last : ∀ {m : List (Nat × Nat)}, Good m → ∀ {s : Nat × Nat}, m[m.length - 1]? = some s → ∀ t ∈ m, t.2 ≤ s.2
  | [], _, _, _, t, ht => by cases ht
  | [x], _, s, hs, t, ht => by
    simp only [List.length_singleton, Nat.sub_self, List.getElem?_cons_zero, Option.some.injEq] at hs
    subst hs
    rw [List.mem_singleton] at ht
    subst ht
    exact Nat.le_refl _
  | x :: y :: l, h, s, hs, t, ht => by
    have hs' : (y :: l)[(y :: l).length - 1]? = some s := by simpa using hs
    have ih := good_le_last h.2.2 hs'
    rcases List.mem_cons.1 ht with rfl | ht
    · have h1 := ih y (by simp)
      have h2 := h.2.1
      have h3 := Good.head h.2.2
      omega
    · exact ih t ht
/-- the last position of a set that ends at N. -/
theorem good_last {m : List (Nat × Nat)} {s : Nat × Nat} {N : Nat} (h : Good m) (hN : ∀ q, On m q → q ≤ N) (hs : m[m.length - 1]? = some s) : N < s.2 ↔ On m N := by
  have hm := List.mem_of_getElem? hs
  constructor
  · intro hlt
    have h1 := h.mem s hm
    have h2 := hN (s.2 - 1) ⟨s, hm, by omega, by omega⟩
    exact ⟨s, hm, by omega, hlt⟩
  · rintro ⟨t, ht, _, h2⟩
    have := good_le_last h hs t ht
    omega
theorem ends_any (Bm mb : Nat) (xs : List Nd) (b : List Int) (xb xo xc : Nat) (bv : Value) (hX : OkX xs) (hb : b.length ≤ 1048576) (hbb : ∀ y ∈ b, 0 ≤ y ∧ y < 256) (i : Nat) : i < xs.length → EndsC Bm mb xs b xb xo xc bv i := by
  induction i using Nat.strongRecOn with
  | _ i ih =>
    intro hi
    have hn := List.getElem?_eq_getElem hi
    have hk := hX.kind i _ hn
    have hE : ∀ j, j < i → EndsC Bm mb xs b xb xo xc bv j := fun j hj => ih j hj (by omega)
    generalize xs[i] = n at hn hk
    rcases (by omega : n.k = 1 ∨ n.k = 2 ∨ n.k = 3 ∨ n.k = 4 ∨ n.k = 5 ∨ n.k = 6 ∨ n.k = 7 ∨ n.k = 8) with h | h | h | h | h | h | h | h
    · exact ends_1 Bm mb xs b xb xo xc bv i n hX hn hb h
    · exact ends_2 Bm mb xs b xb xo xc bv i n hX hn hb h
    · exact ends_3 Bm mb xs b xb xo xc bv i n hX hn hb hbb h
    · exact ends_4 Bm mb xs b xb xo xc bv i n hX hn hb hE h
    · exact ends_5 Bm mb xs b xb xo xc bv i n hX hn hb hE h
    · exact ends_6 Bm mb xs b xb xo xc bv i n hX hn hb hE h
    · exact ends_7 Bm mb xs b xb xo xc bv i n hX hn hb hE h
    · exact ends_8 Bm mb xs b xb xo xc bv i n hX hn hb hE h
end Go.Proofs.YtgbbjobmcbdhdaaGreatDoor

/-
  Walks: Match and Nullable.
-/
namespace Go.Proofs.YtgbbjobmcbdhdaaGreatDoor
open Go.RowKit Go.Shelf
attribute [local go_sem] Oper.semAt_some

set_option maxRecDepth 100000 in
set_option maxHeartbeats 2000000 in
theorem match_any (v bv : Value) (xs : List Nd) (b : List Int) (W : World) (hv : IsX W v xs) (hm : xs.length ≤ maxLen) (hbv : IsB W bv b) (hbb : ∀ y ∈ b, 0 ≤ y ∧ y < 256) (hb : b.length ≤ 1048576)
    (htab : Lib.TabBelow Tryz.prog W.heap.size W "internal/strconv.uint64pow10" .u64 Lib.pow10Tab) :
    Calls Tryz.prog 21 #[v, bv] W fun e W' => e = .returned (.bool (matchB xs b)) ∧ Below W.heap.size W W' := by
  have HV := Lib.hid (valid_any v xs W hv hm)
  by_cases h0 : validE xs = 0
  · have hX := okX_of h0
    have hne : xs.length ≠ 0 := by
      intro h
      unfold validE at h0
      rw [if_neg (by omega), if_pos h] at h0
      cases h0
    obtain ⟨xb, xo, xc, rfl, hR⟩ : ∃ blk off cap, v = .slice (some ⟨blk, off, none⟩) xs.length cap ∧ ReadsN W blk off xs := by
      rcases hv with ⟨rfl, _⟩ | h
      · exact absurd rfl hne
      · exact h
    obtain ⟨bp, bc, rfl⟩ := hbv.shape
    rw [h0] at HV
    have HR := Lib.hid hR
    have HB := Lib.hid hbv
    have HT := Lib.hid htab
    have HX := Lib.hid hX
    have H0 := Lib.hid h0
    have Hbb := Lib.hid hbb
    clear hv hR hbv htab hX h0 hbb
    have hmm := @run_makeMap Tryz.prog
    have hlx := HX.out.len
    have hwl : IntKind.i64.wrap ((xs.length : Int) - 1) = ((xs.length - 1 : Nat) : Int) := by rw [IntWalk.i64_in _ (by omega)]; omega
    go_enter Tryz.func21, Tryz.ntmps21
    go_wp2_with (go_at_call 17; refine HV.out.mono ?_; rintro e W1 ⟨rfl, hb1⟩)
    have hbm : Below W1.heap.size W1 ((W1.alloc (.map #[] 0)).alloc (.cells #[.slice (some ⟨xb, xo, none⟩) xs.length xc, .slice bp b.length bc, .map (some W1.heap.size)] 61)) := ((Below.refl _ W1).alloc (Nat.le_refl _) _).alloc (by simp) _
    have hM0 : Mw ((W1.alloc (.map #[] 0)).alloc (.cells #[.slice (some ⟨xb, xo, none⟩) xs.length xc, .slice bp b.length bc, .map (some W1.heap.size)] 61)) (W1.heap.size + 1) W1.heap.size xs b xb xo xc (.slice bp b.length bc) := by
      refine ⟨?_, (HR.out.grows hb1).grows hbm, (HB.out.kept fun _ _ h => (hb1.cell (lt_of_cell h)).trans h).kept fun _ _ h => (hbm.cell (lt_of_cell h)).trans h, #[], 0, ?_, fun e he => by simp at he⟩
      · have h := Blk.new (W1.alloc (.map #[] 0)) #[.slice (some ⟨xb, xo, none⟩) xs.length xc, .slice bp b.length bc, .map (some W1.heap.size)] 61
        rw [World.size_alloc] at h
        exact h
      · exact (Below.heap_alloc _ _ _ (by simp)).trans (heap_alloc_new W1 _)
    have hs2 : ((W1.alloc (.map #[] 0)).alloc (.cells #[.slice (some ⟨xb, xo, none⟩) xs.length xc, .slice bp b.length bc, .map (some W1.heap.size)] 61)).heap.size = W1.heap.size + 2 := by simp
    generalize ((W1.alloc (.map #[] 0)).alloc (.cells #[.slice (some ⟨xb, xo, none⟩) xs.length xc, .slice bp b.length bc, .map (some W1.heap.size)] 61)) = W2 at hbm hM0 hs2 ⊢
    have hT2 := Lib.TabBelow.on HT.out (hb1.trans (hbm.mono hb1.size))
    have HM0 := Lib.hid hM0
    have HBm := Lib.hid hbm
    have HB1 := Lib.hid hb1
    have HT2 := Lib.hid hT2
    have Hs2 := Lib.hid hs2
    have HO := Lib.hid (fun w => only_any 0 (by decide) w)
    clear hM0 hbm hb1 hT2 hs2
    go_wp2_with (go_at_call 41; refine (HO.out _).mono ?_; rintro e W3 ⟨rfl, hw3⟩; have Hw3 := Lib.hid hw3; clear hw3)
    have hb3 : Below W2.heap.size W2 W3 := by rw [Hw3.out]; exact (Below.refl _ W2).alloc (Nat.le_refl _) _
    have hi3 : IsS W3 (.slice (some ⟨W2.heap.size, 0, none⟩) 1 1) [(0, 0 + 1)] := by rw [Hw3.out]; exact only_isS 0 W2
    have hE3 := ends_any (W1.heap.size + 1) W1.heap.size xs b xb xo xc (.slice bp b.length bc) HX.out hb Hbb.out (xs.length - 1) (by omega) (.slice (some ⟨W2.heap.size, 0, none⟩) 1 1) [(0, 0 + 1)] W3
      (HM0.out.grows hb3) (Lib.tabBelow_of_tabIs ((HT2.out.on (hb3.mono (by have := Hs2.out; have := HB1.out.size; omega))).here)) hi3 (good_one 0) (fun q hq => by have := on_one hq; omega)
    have HE3 := Lib.hid hE3
    have HB3 := Lib.hid hb3
    clear hb3 hi3 hE3 Hw3
    go_wp2_with fail
    refine HE3.out.mono ?_
    rintro e W4 ⟨⟨v4, m, rfl, hv4, hs4⟩, hg4, hm4⟩
    obtain ⟨p4, c4, rfl⟩ := hv4.shape
    have hbt : Below W.heap.size W W4 := by
      have h1 := HB1.out
      have h2 := HBm.out
      have h3 := HB3.out
      have h4 := Hs2.out
      refine (h1.trans ((h2.mono h1.size).trans (h3.mono (by have := h1.size; omega)))).trans ⟨hg4.os, hg4.tape, hg4.output, hg4.size, fun k hk => hg4.block k ?_ ?_⟩
      · have := h1.size; have := h3.size; omega
      · have := h1.size; simp; omega
    have Hbt := Lib.hid hbt
    have hle4 := hs4.le
    have hg0 := hs4.1
    have hon : On m b.length ↔ sp b (tr xs (xs.length - 1)) 0 b.length := by
      rw [hs4.2]
      constructor
      · rintro ⟨p, hp, h⟩
        obtain rfl := on_one hp
        exact h
      · intro h
        exact ⟨0, ((only_good 0).2 0).2 rfl, h⟩
    clear hbt hs4 hg4 hm4 HE3
    rcases m with _ | ⟨s0, m0⟩
    · have hmf : matchB xs b = false := matchB_false fun h => on_nil _ (hon.2 h)
      have Hmf := Lib.hid hmf
      clear hmf hon hle4 hg0 hv4
      simp only [List.length_nil]
      go_wp2
      go_ret
      exact ⟨ret_bool Hmf.out.symm, Hbt.out⟩
    · obtain ⟨s, hs⟩ : ∃ s, (s0 :: m0)[(s0 :: m0).length - 1]? = some s := ⟨_, List.getElem?_eq_getElem (by simp)⟩
      have hlast := good_last hg0 hle4 hs
      have hll := len_pts hg0
      have hll2 := pts_len hg0 hle4
      obtain ⟨gb, go, rfl, -, q1⟩ := hv4.at hs
      have hpos : 0 < (s0 :: m0).length := by simp
      have hres : decide (b.length < s.2) = matchB xs b := by
        rw [Bool.eq_iff_iff, decide_eq_true_iff, matchB_true]
        constructor
        · intro h
          exact ⟨H0.out, hon.1 (hlast.1 (by omega))⟩
        · rintro ⟨_, h⟩
          have := hlast.2 (hon.2 h)
          omega
      have Hres := Lib.hid hres
      generalize (s0 :: m0).length = N at hll hll2 hpos q1 ⊢
      have hN : N ≤ 1048577 := by omega
      have t1 : decide ((0 : Int) < (N : Int)) = true := by simp; omega
      have wN : IntKind.i64.wrap ((N : Int) - 1) = ((N - 1 : Nat) : Int) := by rw [IntWalk.i64_in _ (by omega)]; omega
      clear hs hlast hg0 hle4 hon hres hv4 hll hll2
      go_wp2
      go_ret
      exact ⟨ret_bool Hres.out, Hbt.out⟩
  · have hv0 : (validE xs != 0) = true := by simp [h0]
    have hmf : matchB xs b = false := by
      cases hmm : matchB xs b
      · rfl
      · exact absurd (matchB_true.1 hmm).1 h0
    have Hmf := Lib.hid hmf
    obtain ⟨p, c, rfl⟩ := hv.shape
    obtain ⟨bp, bc, rfl⟩ := hbv.shape
    clear hv hbv hmf htab
    go_enter Tryz.func21, Tryz.ntmps21
    go_wp2_with (go_at_call 17; refine HV.out.mono ?_; rintro e W1 ⟨rfl, hb1⟩)
    go_ret
    exact ⟨ret_bool Hmf.out.symm, hb1⟩
set_option maxRecDepth 100000 in
theorem nullable_any (v : Value) (xs : List Nd) (W : World) (hv : IsX W v xs) (hm : xs.length ≤ maxLen)
    (htab : Lib.TabBelow Tryz.prog W.heap.size W "internal/strconv.uint64pow10" .u64 Lib.pow10Tab) :
    Calls Tryz.prog 19 #[v] W fun e W' => e = .returned (.bool (matchB xs [])) ∧ Below W.heap.size W W' := by
  have HM := Lib.hid (match_any v (.slice none 0 0) xs [] W hv hm (.inl ⟨rfl, none, 0, rfl⟩) (fun y hy => by cases hy) (by simp) htab)
  obtain ⟨p, c, rfl⟩ := hv.shape
  clear hv htab
  go_enter Tryz.func19, Tryz.ntmps19
  go_wp2_with (go_at_call 21; refine HM.out.mono ?_; rintro e W1 ⟨rfl, hb1⟩)
  go_ret
  exact ⟨rfl, hb1⟩
end Go.Proofs.YtgbbjobmcbdhdaaGreatDoor

/-
  Walks: sanity: the document's examples hold.
-/
namespace Go.Proofs.YtgbbjobmcbdhdaaGreatDoor
open Go.RowKit Go.Shelf

theorem isX_new (w : World) (xs : List Nd) (cs : Array Value) (t : TypeId) (n c : Nat) (hn : n = xs.length) (h : cs.toList = xs.flatMap encN) : IsX (w.alloc (.cells cs t)) (.slice (some ⟨w.heap.size, 0, none⟩) n c) xs := by
  subst hn
  refine .inr ⟨_, 0, c, rfl, fun j x hj i v hi => ?_⟩
  have h2 := flat_getN xs j x i v hj hi
  rw [← h] at h2
  rw [Nat.zero_add]
  exact (Blk.new w cs t).cell _ (by simpa using h2)
theorem isB_new (w : World) (l : List Int) (cs : Array Value) (t : TypeId) (m : Nat × Nat) (n c : Nat) (hn : n = l.length) (h : cs.toList = l.map (.int .u8)) : IsB (w.alloc (.cells cs t m)) (.slice (some ⟨w.heap.size, 0, none⟩) n c) l := by
  subst hn
  refine .inr ⟨_, 0, c, rfl, fun k y hk => ?_⟩
  have h2 : cs.toList[k]? = some (.int .u8 y) := by rw [h, List.getElem?_map, hk]; rfl
  rw [Nat.zero_add]
  unfold World.cell?
  rw [heap_alloc_new]
  simpa using h2
theorem valid_nil (W : World) : Calls Tryz.prog 17 #[.slice none 0 0] W fun e W' => e = .returned (.int .i64 1) ∧ Below W.heap.size W W' :=
  valid_any (.slice none 0 0) [] W (.inl ⟨rfl, none, 0, rfl⟩) (by decide)
theorem radd0 (b : Nat) (h : b < 256) (w : World) : Calls Tryz.prog 32 #[.agg #[.int .u64 0, .int .u64 0, .int .u64 0, .int .u64 0], .int .u8 (b : Int)] w fun e w' => e = .returned (.agg #[.int .u64 (wd ((bit b)) 0), .int .u64 (wd ((bit b)) 1), .int .u64 (wd ((bit b)) 2), .int .u64 (wd ((bit b)) 3)]) ∧ Below w.heap.size w w' := by
  have h1 := radd_any 0 (b : Int) w (by omega) (by omega)
  simp only [wd_zero] at h1
  refine h1.mono ?_
  rintro e w' ⟨rfl, hb⟩
  refine ⟨?_, hb⟩
  rw [show (0 : BitVec 256) ||| bit ((b : Int).toNat) = bit b by simp]

set_option maxRecDepth 100000 in
set_option maxHeartbeats 8000000 in
theorem sanity_any (W : World) (hT : TabAt 0 Lib.deBruijn64tab W) (hg : 0 < W.heap.size) (htab : Lib.TabBelow Tryz.prog W.heap.size W "internal/strconv.uint64pow10" .u64 Lib.pow10Tab) :
    Calls Tryz.prog 13 #[] W fun e W' => e = .returned (.bool true) ∧ Below W.heap.size W W' := by
  have HT := Lib.hid (fun w (hb : Below W.heap.size W w) => And.intro (tab_below hT hb hg) (show 0 < w.heap.size by have := hb.size; omega))
  have HP := Lib.hid (fun w (hb : Below W.heap.size W w) => Lib.tabBelow_of_tabIs (htab.on hb).here)
  clear hT htab hg
  have hcv := fun (w : World) (C : Array Value) (n c : Nat) => Lib.run_convert_bytes_const (P := Tryz.prog) w 24 5 C n c Tryz.underlying24 Tryz.underlying5
  go_enter Tryz.func13, Tryz.ntmps13
  go_wp2_with fail
  refine (radd0 97 (by decide) _).mono ?_
  rintro e w1 ⟨rfl, hb1⟩
  go_wp2_with fail
  refine (radd0 98 (by decide) _).mono ?_
  rintro e w2 ⟨rfl, hb2⟩
  go_wp2_with fail
  refine (radd0 45 (by decide) _).mono ?_
  rintro e w3 ⟨rfl, hb3⟩
  go_wp2_with fail
  have hA := ((((Blk.new w1 #[.int .i64 3, .int .u64 (wd ((bit 97)) 0), .int .u64 (wd ((bit 97)) 1), .int .u64 (wd ((bit 97)) 2), .int .u64 (wd ((bit 97)) 3), .int .i64 0, .int .i64 0, .int .i64 0, .int .i64 0] 45).grows hb2).alloc (.cells #[.int .i64 3, .int .u64 (wd ((bit 98)) 0), .int .u64 (wd ((bit 98)) 1), .int .u64 (wd ((bit 98)) 2), .int .u64 (wd ((bit 98)) 3), .int .i64 0, .int .i64 0, .int .i64 0, .int .i64 0] 45)).grows hb3).alloc (.cells #[.int .i64 3, .int .u64 (wd ((bit 45)) 0), .int .u64 (wd ((bit 45)) 1), .int .u64 (wd ((bit 45)) 2), .int .u64 (wd ((bit 45)) 3), .int .i64 0, .int .i64 0, .int .i64 0, .int .i64 0] 45) |>.alloc (.cells #[.int .i64 8, .int .u64 0, .int .u64 0, .int .u64 0, .int .u64 0, .int .i64 1, .int .i64 0, .int .i64 0, .int .i64 (-1)] 45)
  have hB := ((Blk.new w2 #[.int .i64 3, .int .u64 (wd ((bit 98)) 0), .int .u64 (wd ((bit 98)) 1), .int .u64 (wd ((bit 98)) 2), .int .u64 (wd ((bit 98)) 3), .int .i64 0, .int .i64 0, .int .i64 0, .int .i64 0] 45).grows hb3).alloc (.cells #[.int .i64 3, .int .u64 (wd ((bit 45)) 0), .int .u64 (wd ((bit 45)) 1), .int .u64 (wd ((bit 45)) 2), .int .u64 (wd ((bit 45)) 3), .int .i64 0, .int .i64 0, .int .i64 0, .int .i64 0] 45) |>.alloc (.cells #[.int .i64 8, .int .u64 0, .int .u64 0, .int .u64 0, .int .u64 0, .int .i64 1, .int .i64 0, .int .i64 0, .int .i64 (-1)] 45)
  have hD := (Blk.new w3 #[.int .i64 3, .int .u64 (wd ((bit 45)) 0), .int .u64 (wd ((bit 45)) 1), .int .u64 (wd ((bit 45)) 2), .int .u64 (wd ((bit 45)) 3), .int .i64 0, .int .i64 0, .int .i64 0, .int .i64 0] 45).alloc (.cells #[.int .i64 8, .int .u64 0, .int .u64 0, .int .u64 0, .int .u64 0, .int .i64 1, .int .i64 0, .int .i64 0, .int .i64 (-1)] 45)
  have hS := Blk.alloc1 w3 #[.int .i64 3, .int .u64 (wd ((bit 45)) 0), .int .u64 (wd ((bit 45)) 1), .int .u64 (wd ((bit 45)) 2), .int .u64 (wd ((bit 45)) 3), .int .i64 0, .int .i64 0, .int .i64 0, .int .i64 0] #[.int .i64 8, .int .u64 0, .int .u64 0, .int .u64 0, .int .u64 0, .int .i64 1, .int .i64 0, .int .i64 0, .int .i64 (-1)] 45 45
  have h2 : Below W.heap.size W w2 := hb1.trans (Below.trans ((Below.refl _ w1).alloc (Nat.le_refl _) _) (hb2.mono (by simp)) |>.mono hb1.size)
  have h3 : Below W.heap.size W w3 := h2.trans (Below.trans ((Below.refl _ w2).alloc (Nat.le_refl _) _) (hb3.mono (by simp)) |>.mono h2.size)
  have h4 : Below W.heap.size W ((w3.alloc (.cells #[.int .i64 3, .int .u64 (wd ((bit 45)) 0), .int .u64 (wd ((bit 45)) 1), .int .u64 (wd ((bit 45)) 2), .int .u64 (wd ((bit 45)) 3), .int .i64 0, .int .i64 0, .int .i64 0, .int .i64 0] 45)).alloc (.cells #[.int .i64 8, .int .u64 0, .int .u64 0, .int .u64 0, .int .u64 0, .int .i64 1, .int .i64 0, .int .i64 0, .int .i64 (-1)] 45)) := h3.trans ((((Below.refl _ w3).alloc (Nat.le_refl _) _).alloc (by simp) _).mono h3.size)
  generalize ((w3.alloc (.cells #[.int .i64 3, .int .u64 (wd ((bit 45)) 0), .int .u64 (wd ((bit 45)) 1), .int .u64 (wd ((bit 45)) 2), .int .u64 (wd ((bit 45)) 3), .int .i64 0, .int .i64 0, .int .i64 0, .int .i64 0] 45)).alloc (.cells #[.int .i64 8, .int .u64 0, .int .u64 0, .int .u64 0, .int .u64 0, .int .i64 1, .int .i64 0, .int .i64 0, .int .i64 (-1)] 45)) = w4 at hA hB hD hS h4 ⊢
  clear hb1 hb2 hb3 h2 h3
  generalize w1.heap.size = bA at hA ⊢
  generalize w2.heap.size = bB at hB ⊢
  generalize w3.heap.size = bD at hD hS ⊢
  refine (parse_any ⟨#[97, 40, 98, 124, 99, 41, 42]⟩ _ (by decide) 60 _ ex_group).mono ?_
  rintro e w5 ⟨⟨vG, rfl, hown⟩, hb5⟩
  have xG := own_isX hown
  clear hown
  replace hA := hA.grows hb5
  replace hB := hB.grows hb5
  replace hD := hD.grows hb5
  replace hS := hS.grows hb5
  have h5 := h4.trans (hb5.mono h4.size)
  clear hb5 h4
  go_wp2_with fail
  refine (parse_any ⟨#[126, 97, 42, 38, 46, 123, 50, 44, 50, 125]⟩ _ (by decide) 60 _ ex_both).mono ?_
  rintro e w6 ⟨⟨vB, rfl, hown⟩, hb6⟩
  have xB := own_isX hown
  clear hown
  replace xG := xG.grows hb6
  replace hA := hA.grows hb6
  replace hB := hB.grows hb6
  replace hD := hD.grows hb6
  replace hS := hS.grows hb6
  have h6 := h5.trans (hb6.mono h5.size)
  clear hb6 h5
  obtain ⟨d0, d1, d2, d3, d4, d5, d6, d7, d8⟩ := hD.nine
  obtain ⟨s0, s1, s2, s3, s4, s5, s6, s7, s8⟩ := hS.nine
  have HA := Lib.hid hA
  have HB := Lib.hid hB
  have HS := Lib.hid hS
  have XG := Lib.hid xG
  have XB := Lib.hid xB
  have H6 := Lib.hid h6
  clear hA hB hD hS xG xB h6
  go_wp2_with fail
  refine (format_ok _ exForm _ (isX_new w6 exForm _ _ 3 3 rfl (by kernel_rfl)) exForm_ok ⟨#[40, 126, 92, 120, 50, 100, 41, 42]⟩ (by decide) form_text (HT.out _ (H6.out.trans (((Below.refl _ w6).alloc (by simp) _).mono H6.out.size))).1 (HT.out _ (H6.out.trans (((Below.refl _ w6).alloc (by simp) _).mono H6.out.size))).2).mono ?_
  rintro e w7 ⟨rfl, hb⟩
  have hw : Below w6.heap.size w6 w7 := Below.trans ((Below.refl _ w6).alloc (by simp) _) (hb.mono (by simp))
  have H7 := Lib.hid (H6.out.trans (hw.mono H6.out.size))
  replace HA := Lib.hid (HA.out.grows hw)
  replace HB := Lib.hid (HB.out.grows hw)
  replace HS := Lib.hid (HS.out.grows hw)
  replace XG := Lib.hid (XG.out.grows hw)
  replace XB := Lib.hid (XB.out.grows hw)
  clear hb hw
  go_wp2_with fail
  refine (format_ok _ exEmpty _ (isX_new w7 exEmpty _ _ 1 1 rfl (by kernel_rfl)) exEmpty_ok ⟨#[91, 93]⟩ (by decide) empty_text (HT.out _ (H7.out.trans (((Below.refl _ w7).alloc (by simp) _).mono H7.out.size))).1 (HT.out _ (H7.out.trans (((Below.refl _ w7).alloc (by simp) _).mono H7.out.size))).2).mono ?_
  rintro e w8 ⟨rfl, hb⟩
  have hw : Below w7.heap.size w7 w8 := Below.trans ((Below.refl _ w7).alloc (by simp) _) (hb.mono (by simp))
  have H8 := Lib.hid (H7.out.trans (hw.mono H7.out.size))
  replace HA := Lib.hid (HA.out.grows hw)
  replace HB := Lib.hid (HB.out.grows hw)
  replace HS := Lib.hid (HS.out.grows hw)
  replace XG := Lib.hid (XG.out.grows hw)
  replace XB := Lib.hid (XB.out.grows hw)
  clear hb hw
  obtain ⟨a0, a1, a2, a3, a4, a5, a6, a7, a8⟩ := HA.out.nine
  obtain ⟨b0, b1, b2, b3, b4, b5, b6, b7, b8⟩ := HB.out.nine
  obtain ⟨s0, s1, s2, s3, s4, s5, s6, s7, s8⟩ := HS.out.nine
  go_wp2_with fail
  refine (parsed_eq ⟨#[97, 124, 98, 42]⟩ (by decide) 60 exStar ex_star _ _ (isX_new w8 exStar _ _ 4 4 rfl (by kernel_rfl))).mono ?_
  rintro e w9 ⟨rfl, hb⟩
  clear a0 a1 a2 a3 a4 a5 a6 a7 a8 b0 b1 b2 b3 b4 b5 b6 b7 b8 s0 s1 s2 s3 s4 s5 s6 s7 s8
  have hw : Below w8.heap.size w8 w9 := Below.trans ((Below.refl _ w8).alloc (by simp) _) (hb.mono (by simp))
  have H9 := Lib.hid (H8.out.trans (hw.mono H8.out.size))
  replace HA := Lib.hid (HA.out.grows hw)
  replace XG := Lib.hid (XG.out.grows hw)
  replace XB := Lib.hid (XB.out.grows hw)
  clear hb hw
  go_wp2_with fail
  refine (refused_at ⟨#[97, 124, 124, 98]⟩ (by decide) 60 2 20 ex_bar _).mono ?_
  rintro e w10 ⟨rfl, hb⟩
  have hw : Below w9.heap.size w9 w10 := hb
  have H10 := Lib.hid (H9.out.trans (hw.mono H9.out.size))
  replace HA := Lib.hid (HA.out.grows hw)
  replace XG := Lib.hid (XG.out.grows hw)
  replace XB := Lib.hid (XB.out.grows hw)
  clear hb hw
  go_wp2_with fail
  refine (refused_at ⟨#[40, 97]⟩ (by decide) 60 2 21 ex_open _).mono ?_
  rintro e w11 ⟨rfl, hb⟩
  have hw : Below w10.heap.size w10 w11 := hb
  have H11 := Lib.hid (H10.out.trans (hw.mono H10.out.size))
  replace HA := Lib.hid (HA.out.grows hw)
  replace XG := Lib.hid (XG.out.grows hw)
  replace XB := Lib.hid (XB.out.grows hw)
  clear hb hw
  go_wp2_with fail
  refine (refused_at ⟨#[97, 123, 51, 44, 50, 125]⟩ (by decide) 60 4 20 ex_bounds _).mono ?_
  rintro e w12 ⟨rfl, hb⟩
  have hw : Below w11.heap.size w11 w12 := hb
  have H12 := Lib.hid (H11.out.trans (hw.mono H11.out.size))
  replace HA := Lib.hid (HA.out.grows hw)
  replace XG := Lib.hid (XG.out.grows hw)
  replace XB := Lib.hid (XB.out.grows hw)
  clear hb hw
  go_wp2_with fail
  refine (refused_at ⟨#[97, 123, 49, 55, 44, 125]⟩ (by decide) 60 2 2 ex_big _).mono ?_
  rintro e w13 ⟨rfl, hb⟩
  have hw : Below w12.heap.size w12 w13 := hb
  have H13 := Lib.hid (H12.out.trans (hw.mono H12.out.size))
  replace HA := Lib.hid (HA.out.grows hw)
  replace XG := Lib.hid (XG.out.grows hw)
  replace XB := Lib.hid (XB.out.grows hw)
  clear hb hw
  go_wp2_with fail
  refine (match_any _ _ exGroup [97, 98, 99, 98] _ (XG.out.grows ((Below.refl _ w13).alloc (Nat.le_refl _) _)) (by unfold maxLen; decide) (isB_new w13 [97, 98, 99, 98] _ _ _ 4 4 rfl (by kernel_rfl)) (by decide) (by decide) (HP.out _ (H13.out.trans (((Below.refl _ w13).alloc (by simp) _).mono H13.out.size)))).mono ?_
  rintro e w14 ⟨rfl, hb⟩
  rw [match_abcb]
  have hw : Below w13.heap.size w13 w14 := Below.trans ((Below.refl _ w13).alloc (by simp) _) (hb.mono (by simp))
  have H14 := Lib.hid (H13.out.trans (hw.mono H13.out.size))
  replace HA := Lib.hid (HA.out.grows hw)
  replace XG := Lib.hid (XG.out.grows hw)
  replace XB := Lib.hid (XB.out.grows hw)
  clear hb hw
  go_wp2_with fail
  refine (match_any _ _ exGroup [98, 97] _ (XG.out.grows ((Below.refl _ w14).alloc (Nat.le_refl _) _)) (by unfold maxLen; decide) (isB_new w14 [98, 97] _ _ _ 2 2 rfl (by kernel_rfl)) (by decide) (by decide) (HP.out _ (H14.out.trans (((Below.refl _ w14).alloc (by simp) _).mono H14.out.size)))).mono ?_
  rintro e w15 ⟨rfl, hb⟩
  rw [match_ba]
  have hw : Below w14.heap.size w14 w15 := Below.trans ((Below.refl _ w14).alloc (by simp) _) (hb.mono (by simp))
  have H15 := Lib.hid (H14.out.trans (hw.mono H14.out.size))
  replace HA := Lib.hid (HA.out.grows hw)
  replace XG := Lib.hid (XG.out.grows hw)
  replace XB := Lib.hid (XB.out.grows hw)
  clear hb hw
  go_wp2_with fail
  refine (match_any _ _ exBoth [97, 98] _ (XB.out.grows ((Below.refl _ w15).alloc (Nat.le_refl _) _)) (by unfold maxLen; decide) (isB_new w15 [97, 98] _ _ _ 2 2 rfl (by kernel_rfl)) (by decide) (by decide) (HP.out _ (H15.out.trans (((Below.refl _ w15).alloc (by simp) _).mono H15.out.size)))).mono ?_
  rintro e w16 ⟨rfl, hb⟩
  rw [match_ab]
  have hw : Below w15.heap.size w15 w16 := Below.trans ((Below.refl _ w15).alloc (by simp) _) (hb.mono (by simp))
  have H16 := Lib.hid (H15.out.trans (hw.mono H15.out.size))
  replace HA := Lib.hid (HA.out.grows hw)
  replace XG := Lib.hid (XG.out.grows hw)
  replace XB := Lib.hid (XB.out.grows hw)
  clear hb hw
  go_wp2_with fail
  refine (match_any _ _ exBoth [97, 97] _ (XB.out.grows ((Below.refl _ w16).alloc (Nat.le_refl _) _)) (by unfold maxLen; decide) (isB_new w16 [97, 97] _ _ _ 2 2 rfl (by kernel_rfl)) (by decide) (by decide) (HP.out _ (H16.out.trans (((Below.refl _ w16).alloc (by simp) _).mono H16.out.size)))).mono ?_
  rintro e w17 ⟨rfl, hb⟩
  rw [match_aa]
  have hw : Below w16.heap.size w16 w17 := Below.trans ((Below.refl _ w16).alloc (by simp) _) (hb.mono (by simp))
  have H17 := Lib.hid (H16.out.trans (hw.mono H16.out.size))
  replace HA := Lib.hid (HA.out.grows hw)
  replace XG := Lib.hid (XG.out.grows hw)
  replace XB := Lib.hid (XB.out.grows hw)
  clear hb hw
  obtain ⟨a0, a1, a2, a3, a4, a5, a6, a7, a8⟩ := HA.out.nine
  go_wp2_with fail
  refine (parsed_eq ⟨#[91, 94, 92, 120, 48, 48, 45, 92, 120, 54, 48, 92, 120, 54, 50, 45, 92, 120, 102, 102, 93]⟩ (by decide) 60 [nCls 97] ex_ranges _ _ (isX_new w17 [nCls 97] _ _ 1 1 rfl (by kernel_rfl))).mono ?_
  rintro e w18 ⟨rfl, hb⟩
  clear a0 a1 a2 a3 a4 a5 a6 a7 a8
  have hw : Below w17.heap.size w17 w18 := Below.trans ((Below.refl _ w17).alloc (by simp) _) (hb.mono (by simp))
  have H18 := Lib.hid (H17.out.trans (hw.mono H17.out.size))
  clear hb hw
  go_wp2_with fail
  refine (valid_nil _).mono ?_
  rintro e w19 ⟨rfl, hb⟩
  have H19 := Lib.hid (H18.out.trans (hb.mono H18.out.size))
  clear hb
  go_wp2
  go_ret
  exact ⟨rfl, H19.out⟩
end Go.Proofs.YtgbbjobmcbdhdaaGreatDoor

/-
  The laws over made expressions: what they have in common; the law on Boolean operations: the walk.
-/
namespace Go.Proofs.YtgbbjobmcbdhdaaGreatDoor
open Go.RowKit Go.Shelf
attribute [local go_sem] Oper.semAt_some

theorem small_any (p : Option Addr) (c : Nat) (l : List Int) (n : Nat) (hn : n ≤ 1000) (W : World) (hc : l.length ≤ c) (hl : l.length ≤ 1048576) :
    Calls Tryz.prog 14 #[.slice p l.length c, .int .i64 (n : Int)] W fun e W' => e = .returned (.slice p (l.take n).length c) ∧ W' = W := by
  rw [List.length_take]
  generalize l.length = k at hc hl ⊢
  have e : (min (k : Int) (n : Int)).toNat = min n k := by omega
  rcases p with _ | ⟨blk, off, lay⟩
  · go_enter Tryz.func14, Tryz.ntmps14
    go_wp2
    go_ret
    exact ⟨rfl, rfl⟩
  · go_enter Tryz.func14, Tryz.ntmps14
    go_wp2
    go_ret
    exact ⟨rfl, rfl⟩
theorem isB_small {W : World} {p : Option Addr} {c : Nat} {l : List Int} (h : IsB W (.slice p l.length c) l) (n : Nat) : IsB W (.slice p (l.take n).length c) (l.take n) := by
  rcases Nat.lt_or_ge l.length n with h1 | h1
  · rw [List.take_of_length_le (by omega)]; exact h
  · rw [List.length_take, Nat.min_eq_left h1]; exact isB_take h h1
/-- Binary, as the laws want it. -/
theorem rbin_is (kd : Int) (v u : Value) (xs ys : List Nd) (W : World) (hv : IsX W v xs) (hu : IsX W u ys) (hl : xs.length ≤ 100) (hm : ys.length ≤ 100) (hw : Wf xs) (hw' : Wf ys) :
    Calls Tryz.prog 28 #[.int .i64 kd, v, u] W fun e W' => (∃ p c, e = .returned (.slice p (xs.length + ys.length + 1) c) ∧ IsX W' (.slice p (xs.length + ys.length + 1) c) (bin kd xs ys) ∧ xs.length + ys.length + 1 ≤ c) ∧ Below W.heap.size W W' :=
  (rbinary_any kd v u xs ys W hv hu (by omega) (by omega) hw.pos (fun i n hi j hj => by
    have h1 := chk_zero (hw'.chk i n hi) j hj
    have h2 := (List.getElem?_eq_some_iff.1 hi).1
    omega)).mono (R' := fun e W' => (∃ p c, e = .returned (.slice p (xs.length + ys.length + 1) c) ∧ IsX W' (.slice p (xs.length + ys.length + 1) c) (bin kd xs ys) ∧ xs.length + ys.length + 1 ≤ c) ∧ Below W.heap.size W W') (fun e W' ⟨⟨v', he, ho⟩, hb⟩ => by
      obtain ⟨p, c, rfl⟩ := own_shape ho
      exact ⟨⟨p, c, he, own_isX (own_cast ho (by rw [bin_len]) rfl), own_cap ho⟩, hb⟩)
/-- Match over a word that is kept. -/
theorem match_is {B W : World} {wv : Value} {b : List Int} (hb : IsB B wv b) (hbb : ∀ y ∈ b, 0 ≤ y ∧ y < 256) (hl : b.length ≤ 1048576) (hB : Below B.heap.size B W) (htab : Lib.TabBelow Tryz.prog W.heap.size W "internal/strconv.uint64pow10" .u64 Lib.pow10Tab)
    {zv : Value} {zs : List Nd} (hz : IsX W zv zs) (hzl : zs.length ≤ 200) :
    Calls Tryz.prog 21 #[zv, wv] W fun e W' => e = .returned (.bool (matchB zs b)) ∧ Below W.heap.size W W' :=
  match_any zv wv zs b W hz (by unfold maxLen; omega) (hb.kept fun _ _ h => (hB.cell (lt_of_cell h)).trans h) hbb hl htab
/-- what a law over made expressions is given. -/
structure Given (W : World) : Prop where
  bruijn : TabAt 0 Lib.deBruijn64tab W
  bruijn_lt : 0 < W.heap.size
  powers : Lib.TabBelow Tryz.prog W.heap.size W "internal/strconv.uint64pow10" .u64 Lib.pow10Tab
theorem Given.at {W : World} (h : Given W) {w : World} (hb : Below W.heap.size W w) : Lib.TabBelow Tryz.prog w.heap.size w "internal/strconv.uint64pow10" .u64 Lib.pow10Tab := Lib.tabBelow_of_tabIs (h.powers.on hb).here
/-- a slice of bytes as an argument. -/
structure BytesArg (W : World) (p : Option Addr) (c : Nat) (l : List Int) : Prop where
  is : IsB W (.slice p l.length c) l
  cap : l.length ≤ c
  byte : ∀ y ∈ l, 0 ≤ y ∧ y < 256
  len : l.length ≤ 1048576
theorem BytesArg.at {W : World} {p : Option Addr} {c : Nat} {l : List Int} (h : BytesArg W p c l) {w : World} (hb : Below W.heap.size W w) : BytesArg w p c l :=
  ⟨h.is.kept fun _ _ hc => (hb.cell (lt_of_cell hc)).trans hc, h.cap, h.byte, h.len⟩
theorem BytesArg.made {W : World} {p : Option Addr} {c : Nat} {l : List Int} (h : BytesArg W p c l) {w : World} (hb : Below W.heap.size W w) (most : Nat) (h1 : 1 ≤ most) (h2 : most ≤ 1048576) :
    Calls Tryz.prog 26 #[.slice p l.length c, .int .i64 (most : Int)] w (MadeP most w) :=
  made_any (l.length + 1) p c l most w (by omega) (h.at hb).is h.cap h.byte h.len h1 h2

set_option maxRecDepth 100000 in
set_option maxHeartbeats 4000000 in
theorem boolean_walk (W : World) (lp mp bp : Option Addr) (lc mc bc : Nat) (l m b : List Int) (hl : BytesArg W lp lc l) (hm : BytesArg W mp mc m) (hb : BytesArg W bp bc b) (hG : Given W) :
    Calls Tryz.prog 7 #[.slice lp l.length lc, .slice mp m.length mc, .slice bp b.length bc] W fun e W' => e = .returned (.bool true) ∧ Below W.heap.size W W' := by
  have HS := Lib.hid (sanity_any W hG.bruijn hG.bruijn_lt hG.powers)
  have HL := Lib.hid hl
  have HM := Lib.hid hm
  have HB := Lib.hid hb
  have HG := Lib.hid hG
  obtain ⟨u, hu⟩ : ∃ u, b.take 10 = u := ⟨_, rfl⟩
  have HSm := Lib.hid (fun w => by
    have h := small_any bp bc b 10 (by omega) w hb.cap hb.len
    rw [hu] at h
    exact h)
  have HU := Lib.hid hu
  clear hl hm hb hG hu
  go_enter Tryz.func7, Tryz.ntmps7
  go_wp2_with fail
  refine HS.out.mono ?_
  rintro e W1 ⟨rfl, hb1⟩
  go_wp2_with fail
  refine (HSm.out W1).mono ?_
  rintro e _ ⟨rfl, rfl⟩
  go_wp2_with fail
  refine (HL.out.made hb1 20 (by omega) (by omega)).mono ?_
  rintro e W2 ⟨⟨xq, xc, xs, rfl, hx, hxw, hxl, -⟩, hb2⟩
  have hB2 := hb1.trans (hb2.mono hb1.size)
  go_wp2_with fail
  refine (HM.out.made hB2 20 (by omega) (by omega)).mono ?_
  rintro e W3 ⟨⟨yq, yc, ys, rfl, hy, hyw, hyl, -⟩, hb3⟩
  have hB3 := hB2.trans (hb3.mono hB2.size)
  have hx3 := hx.grows hb3
  have hw3 : IsB W3 (.slice bp u.length bc) u := by rw [← HU.out]; exact isB_small (HB.out.at hB3).is 10
  have hwb : ∀ y ∈ u, 0 ≤ y ∧ y < 256 := fun y hy => HB.out.byte y (by rw [← HU.out] at hy; exact List.mem_of_mem_take hy)
  have hwl : u.length ≤ 1048576 := by rw [← HU.out, List.length_take]; omega
  have e5 := match_alt hxw hyw (by omega) u
  have e6 := match_and hxw hyw (by omega) u
  have e7 : matchB (un ⟨7, 0#256, 0, 0, 0, 0⟩ xs) u = !matchB xs u := match_not hxw (by omega) u
  have HBin := Lib.hid (fun kd w (hw : Below W3.heap.size W3 w) => rbin_is kd _ _ xs ys w (hx3.grows hw) (hy.grows hw) (by omega) (by omega) hxw hyw)
  have HUn := Lib.hid (fun w (hw : Below W3.heap.size W3 w) => by
    have h := runary_is notN _ xs w (hx3.grows hw) (by omega)
    simp only [notN, valN, wd_zero] at h
    exact h)
  have HMt := Lib.hid (fun w (hw : Below W3.heap.size W3 w) zv zs (hz : IsX w zv zs) (hzl : zs.length ≤ 200) => match_is hw3 hwb hwl hw (HG.out.at (hB3.trans (hw.mono hB3.size))) hz hzl)
  have HX := Lib.hid hx3
  have HY := Lib.hid hy
  have HB3 := Lib.hid hB3
  have hcur : Below W3.heap.size W3 W3 := Below.refl _ _
  have HLen := Lib.hid (And.intro hxl hyl)
  have HBx := Lib.hid (And.intro (show ∀ kd, (bin kd xs ys).length ≤ 200 from fun kd => by rw [bin_len]; omega) (show (un notN xs).length ≤ 200 by rw [un_len]; omega))
  clear hw3 hwb hwl hx hy hx3 hb1 hb2 hb3 hB2 hB3 HS hxl hyl
  go_wp2_with fail
  refine (HMt.out _ hcur _ xs (HX.out.grows hcur) (by have := HLen.out.1; omega)).mono ?_
  rintro e W4 ⟨rfl, hbn⟩
  have hcur := hcur.trans (hbn.mono hcur.size)
  clear hbn
  go_wp2_with fail
  refine (HMt.out _ hcur _ ys (HY.out.grows hcur) (by have := HLen.out.2; omega)).mono ?_
  rintro e W5 ⟨rfl, hbn⟩
  have hcur := hcur.trans (hbn.mono hcur.size)
  clear hbn
  generalize matchB xs u = p at *
  generalize matchB ys u = q at *
  cases p <;> cases q
  all_goals
    go_wp2_with (first
      | (go_at_call 28; refine (HBin.out _ _ hcur).mono ?_; rintro e wn ⟨⟨zq, zc, rfl, hz, -⟩, hbn⟩; have hcur := hcur.trans (hbn.mono hcur.size); clear hbn)
      | (go_at_call 29; refine (HUn.out _ hcur).mono ?_; rintro e wn ⟨⟨zq, zc, rfl, hz, -⟩, hbn⟩; have hcur := hcur.trans (hbn.mono hcur.size); clear hbn)
      | (go_at_call 21; refine (HMt.out _ hcur _ _ hz (by first | exact HBx.out.1 _ | exact HBx.out.2)).mono ?_; rintro e wn ⟨rfl, hbn⟩; have hcur := hcur.trans (hbn.mono hcur.size); clear hbn hz))
    go_ret
    exact ⟨rfl, HB3.out.trans (hcur.mono HB3.out.size)⟩
end Go.Proofs.YtgbbjobmcbdhdaaGreatDoor
