/-
  Walk: added.
-/
import Derived.Test.YtmhhfommgdljkaaKh
set_option linter.unusedSimpArgs false
set_option linter.unusedVariables false
namespace Go.Proofs.Ytmhhfommgdljkaa
open Go.RowKit Go.Lib

theorem RowsRes.said {w : World} {o : Option (List Rw)} {e : Ending} {w' : World} (h : RowsRes w o e w') : ∃ v b, e = .returned (.tuple #[v, .bool b]) ∧ Below w.heap.size w w' := by
  cases o with
  | none => obtain ⟨hb, v, rfl⟩ := h; exact ⟨v, false, rfl, hb⟩
  | some rs => obtain ⟨hb, v, rfl, _⟩ := h; exact ⟨v, true, rfl, hb⟩
theorem RsO.low {a b : Nat} {w : World} {v : Value} {l : List Rw} (h : RsO b w v l) (hab : a ≤ b) : RsO a w v l := by
  obtain ⟨p, cap, e, h1, h2⟩ := h
  exact ⟨p, cap, e, h1, fun j r hj => by obtain ⟨b', cs, u, e1, hB, c0, c1, ho⟩ := h2 j r hj; exact ⟨b', cs, u, e1, hB, c0, c1, ho.low hab⟩⟩
theorem RsO.grows {b : Nat} {w w' : World} {v : Value} {l : List Rw} (h : RsO b w v l) (hb : Below w.heap.size w w') : RsO b w' v l := by
  obtain ⟨p, cap, e, h1, h2⟩ := h
  exact ⟨p, cap, e, h1, fun j r hj => by obtain ⟨b', cs, u, e1, hB, c0, c1, ho⟩ := h2 j r hj; exact ⟨b', cs, u, e1, hB.grows hb, c0, c1, ho.grows hb⟩⟩
theorem RowsRes.shift {w w1 w2 : World} {o : Option (List Rw)} {e : Ending} (h : RowsRes w1 o e w2) (hb : Below w.heap.size w w1) : RowsRes w o e w2 := by
  cases o with
  | none => obtain ⟨h1, v, rfl⟩ := h; exact ⟨below_two hb h1, v, rfl⟩
  | some rs => obtain ⟨h1, v, rfl, h2⟩ := h; exact ⟨below_two hb h1, v, rfl, h2.low hb.size⟩
def stA (k : Int) (u : Value) (t : Sp) : Array Value := #[.int .i64 k, u, .int .i64 t.R, .int .i64 t.D, .int .i64 t.X, .int .i64 t.K, .int .i64 t.N, .int .i64 t.E]
set_option maxRecDepth 100000 in
set_option maxHeartbeats 2000000 in
theorem added1 (u v : Value) (M : List Int) (R D X K N E : Int) (br : List Rw) (n : Nat) (w : World) (hu : IsI w u M) (hv : IsRs w v br) (hG : Good n br) (h0 : 0 < br.length) (hn : n ≤ 1000) (hl : br.length ≤ 140737488351232) :
    Calls Try.prog 28 #[.agg #[.int .i64 1, u, .int .i64 R, .int .i64 D, .int .i64 X, .int .i64 K, .int .i64 N, .int .i64 E], v] w (RowsRes w ((sumS M br (zeroR (width br))).map fun r => [r])) := by
  obtain ⟨pu, cu, rfl, -⟩ := hu.shape
  obtain ⟨p, cp, rfl, -⟩ := hv.shape
  have HU := Lib.hid hu
  have HV := Lib.hid hv
  have HG := Lib.hid hG
  clear hu hv hG
  go_enter Try.func28, Try.ntmps28
  go_upto_region 3 with fail
  have T1 := Blk.new w #[.int .i64 1, .slice pu M.length cu, .int .i64 R, .int .i64 D, .int .i64 X, .int .i64 K, .int .i64 N, .int .i64 E] 49
  have hb1 : Below w.heap.size w (w.alloc (.cells #[.int .i64 1, .slice pu M.length cu, .int .i64 R, .int .i64 D, .int .i64 X, .int .i64 K, .int .i64 N, .int .i64 E] 49)) := by go_grown
  generalize w.alloc (.cells #[.int .i64 1, .slice pu M.length cu, .int .i64 R, .int .i64 D, .int .i64 X, .int .i64 K, .int .i64 N, .int .i64 E] 49) = w1 at T1 hb1 ⊢
  have c1 := T1.cell 1 rfl
  have HB1 := Lib.hid hb1
  clear T1 hb1
  go_wp2_with fail
  refine (sum_any _ _ M br n w1 (HU.out.grows HB1.out) (HV.out.grows HB1.out) HG.out h0 hn hl).mono ?_
  intro e w2 hres
  cases hq : sumS M br (zeroR (width br)) with
  | none =>
    rw [hq] at hres
    obtain ⟨hb2, b, rfl, rfl⟩ := hres
    have HB2 := Lib.hid (below_two HB1.out hb2)
    have HQ := Lib.hid hq
    clear hb2 hq c1
    go_wp2
    go_ret2
    rw [HQ.out]
    have hbn : Below w2.heap.size w2 ((w2.alloc (.cells #[.slice none 0 0, .int .i64 0] 37)).alloc (.cells #[.slice none 0 0, .int .i64 0] 37)) := by go_grown
    exact ⟨below_two HB2.out hbn, _, rfl⟩
  | some r =>
    rw [hq] at hres
    obtain ⟨hb2, a, rfl, ha⟩ := hres
    obtain ⟨pa, ca, rfl, -⟩ := ha.isI.shape
    have HA := Lib.hid ha
    have HB2 := Lib.hid (And.intro hb2 (And.intro HB1.out.size (below_two HB1.out hb2)))
    have HQ := Lib.hid hq
    clear ha hb2 hq c1
    go_wp2
    go_ret2
    rw [HQ.out]
    have hbn : Below w2.heap.size w2 ((w2.alloc (.cells #[.slice pa r.A.length ca, .int .i64 r.C] 37)).alloc (.cells #[.slice pa r.A.length ca, .int .i64 r.C] 37)) := by go_grown
    exact ⟨below_two HB2.out.2.2 hbn, _, rfl, rows_one (Blk.alloc1 w2 _ _ _ _) ((HA.out.grows hbn).low HB2.out.2.1)⟩
set_option maxRecDepth 100000 in
set_option maxHeartbeats 2000000 in
theorem added2 (u v : Value) (M : List Int) (R D X K N E : Int) (br : List Rw) (n : Nat) (w : World) (hu : IsI w u M) (hv : IsRs w v br) (hG : Good n br) (hn : n ≤ 1000) (hl : br.length ≤ 140737488351232) :
    Calls Try.prog 28 #[.agg #[.int .i64 2, u, .int .i64 R, .int .i64 D, .int .i64 X, .int .i64 K, .int .i64 N, .int .i64 E], v] w (RowsRes w ((cutS R D br).map fun r => [r])) := by
  obtain ⟨pu, cu, rfl, -⟩ := hu.shape
  obtain ⟨p, cp, rfl, -⟩ := hv.shape
  have HU := Lib.hid hu
  have HV := Lib.hid hv
  have HG := Lib.hid hG
  clear hu hv hG
  go_enter Try.func28, Try.ntmps28
  go_upto_region 6 with fail
  have T1 := Blk.new w #[.int .i64 2, .slice pu M.length cu, .int .i64 R, .int .i64 D, .int .i64 X, .int .i64 K, .int .i64 N, .int .i64 E] 49
  have hb1 : Below w.heap.size w (w.alloc (.cells #[.int .i64 2, .slice pu M.length cu, .int .i64 R, .int .i64 D, .int .i64 X, .int .i64 K, .int .i64 N, .int .i64 E] 49)) := by go_grown
  generalize w.alloc (.cells #[.int .i64 2, .slice pu M.length cu, .int .i64 R, .int .i64 D, .int .i64 X, .int .i64 K, .int .i64 N, .int .i64 E] 49) = w1 at T1 hb1 ⊢
  have c1 := T1.cell 2 rfl
  have c2 := T1.cell 3 rfl
  have HB1 := Lib.hid hb1
  clear T1 hb1
  go_wp2_with fail
  refine (cut_any R D _ br n w1 (HV.out.grows HB1.out) HG.out hn hl).mono ?_
  intro e w2 hres
  cases hq : cutS R D br with
  | none =>
    rw [hq] at hres
    obtain ⟨hb2, b, rfl, rfl⟩ := hres
    have HB2 := Lib.hid (below_two HB1.out hb2)
    have HQ := Lib.hid hq
    clear hb2 hq c1 c2
    go_wp2
    go_ret2
    rw [HQ.out]
    have hbn : Below w2.heap.size w2 ((w2.alloc (.cells #[.slice none 0 0, .int .i64 0] 37)).alloc (.cells #[.slice none 0 0, .int .i64 0] 37)) := by go_grown
    exact ⟨below_two HB2.out hbn, _, rfl⟩
  | some r =>
    rw [hq] at hres
    obtain ⟨hb2, a, rfl, ha⟩ := hres
    obtain ⟨pa, ca, rfl, -⟩ := ha.isI.shape
    have HA := Lib.hid ha
    have HB2 := Lib.hid (And.intro hb2 (And.intro HB1.out.size (below_two HB1.out hb2)))
    have HQ := Lib.hid hq
    clear ha hb2 hq c1 c2
    go_wp2
    go_ret2
    rw [HQ.out]
    have hbn : Below w2.heap.size w2 ((w2.alloc (.cells #[.slice pa r.A.length ca, .int .i64 r.C] 37)).alloc (.cells #[.slice pa r.A.length ca, .int .i64 r.C] 37)) := by go_grown
    exact ⟨below_two HB2.out.2.2 hbn, _, rfl, rows_one (Blk.alloc1 w2 _ _ _ _) ((HA.out.grows hbn).low HB2.out.2.1)⟩
set_option maxRecDepth 100000 in
set_option maxHeartbeats 4000000 in
theorem added3 (u v : Value) (M : List Int) (R D X K N E : Int) (br : List Rw) (n : Nat) (w : World) (hu : IsI w u M) (hv : IsRs w v br) (hG : Good n br) (h0 : 0 < br.length) (hn : n ≤ 1000) :
    Calls Try.prog 28 #[.agg #[.int .i64 3, u, .int .i64 R, .int .i64 D, .int .i64 X, .int .i64 K, .int .i64 N, .int .i64 E], v] w (RowsRes w ((splitS X K n).map fun q => [q.1, q.2])) := by
  obtain ⟨pu, cu, rfl, -⟩ := hu.shape
  obtain ⟨p, cp, rfl, -⟩ := hv.shape
  obtain ⟨r0, hr0⟩ := get_of_lt h0
  obtain ⟨b, o, u0, rfl, cx, -, hI0⟩ := hv.at hr0
  obtain ⟨p0, c0', rfl, -⟩ := hI0.shape
  have hlen := (hG r0 (List.mem_of_getElem? hr0)).1
  rw [hlen] at cx
  have HCx := Lib.hid cx
  have hblt : b < w.heap.size := lt_of_cell cx
  have hbr0 : 0 < br.length := h0
  clear hu hv hG hr0 hI0 hlen
  go_enter Try.func28, Try.ntmps28
  go_upto_region 9 with fail
  have T1 := Blk.new w #[.int .i64 3, .slice pu M.length cu, .int .i64 R, .int .i64 D, .int .i64 X, .int .i64 K, .int .i64 N, .int .i64 E] 49
  have hb1 : Below w.heap.size w (w.alloc (.cells #[.int .i64 3, .slice pu M.length cu, .int .i64 R, .int .i64 D, .int .i64 X, .int .i64 K, .int .i64 N, .int .i64 E] 49)) := by go_grown
  generalize w.alloc (.cells #[.int .i64 3, .slice pu M.length cu, .int .i64 R, .int .i64 D, .int .i64 X, .int .i64 K, .int .i64 N, .int .i64 E] 49) = w1 at T1 hb1 ⊢
  have HB1 := Lib.hid hb1
  have HT1 := Lib.hid T1
  have cx1 := (hb1.cell (lt_of_cell cx)).trans cx
  have HX1 := Lib.hid cx1
  clear T1 hb1 cx cx1
  refine wp_held 12 (fun W => W.cell? ⟨w.heap.size, 4, none⟩ = some (.int .i64 X) ∧ W.cell? ⟨w.heap.size, 5, none⟩ = some (.int .i64 K) ∧ W.cell? ⟨b, o, none⟩ = some (.slice p0 n c0')) (by kernel_rfl) ⟨HT1.out.drew.cell 4 rfl, HT1.out.drew.cell 5 rfl, by have h := HX1.out; simpa using h⟩ (fun hHeld => ?_)
  refine wpAnyZ_take (i := 0) (v := .pointer (some ⟨w.heap.size, 4, none⟩)) rfl (by kernel_rfl) (by decide) (by kernel_rfl) (fun _ _ _ h => h) _ _ _ _ (by kernel_rfl) (by kernel_rfl) (Or.inl ⟨by rfl, by intro W hW; obtain ⟨s0, s1, s2⟩ := hW; go_simp⟩) hHeld ?_
  simp only [Act.put, List.setIfInBounds_toArray, List.set_cons_zero, List.set_cons_succ]
  refine wpAnyZ_take (i := 1) (v := .int .i64 X) rfl (by kernel_rfl) (by decide) (by kernel_rfl) (fun _ _ _ h => h) _ _ _ _ (by kernel_rfl) (by kernel_rfl) (Or.inl ⟨by rfl, by intro W hW; obtain ⟨s0, s1, s2⟩ := hW; go_simp⟩) hHeld ?_
  simp only [Act.put, List.setIfInBounds_toArray, List.set_cons_zero, List.set_cons_succ]
  refine wpAnyZ_take (i := 2) (v := .pointer (some ⟨w.heap.size, 5, none⟩)) rfl (by kernel_rfl) (by decide) (by kernel_rfl) (fun _ _ _ h => h) _ _ _ _ (by kernel_rfl) (by kernel_rfl) (Or.inl ⟨by rfl, by intro W hW; obtain ⟨s0, s1, s2⟩ := hW; go_simp⟩) hHeld ?_
  simp only [Act.put, List.setIfInBounds_toArray, List.set_cons_zero, List.set_cons_succ]
  refine wpAnyZ_take (i := 3) (v := .int .i64 K) rfl (by kernel_rfl) (by decide) (by kernel_rfl) (fun _ _ _ h => h) _ _ _ _ (by kernel_rfl) (by kernel_rfl) (Or.inl ⟨by rfl, by intro W hW; obtain ⟨s0, s1, s2⟩ := hW; go_simp⟩) hHeld ?_
  simp only [Act.put, List.setIfInBounds_toArray, List.set_cons_zero, List.set_cons_succ]
  refine wpAnyZ_take (i := 4) (v := .slice (some ⟨b, o, none⟩) br.length cp) rfl (by kernel_rfl) (by decide) (by kernel_rfl) (fun _ _ _ h => h) _ _ _ _ (by kernel_rfl) (by kernel_rfl) (Or.inl ⟨by rfl, by intro W hW; obtain ⟨s0, s1, s2⟩ := hW; go_simp⟩) hHeld ?_
  simp only [Act.put, List.setIfInBounds_toArray, List.set_cons_zero, List.set_cons_succ]
  refine wpAnyZ_take (i := 5) (v := .pointer (some ⟨b, o, none⟩)) rfl (by kernel_rfl) (by decide) (by kernel_rfl) (fun _ _ _ h => h) _ _ _ _ (by kernel_rfl) (by kernel_rfl) (Or.inl ⟨by rfl, by intro W hW; obtain ⟨s0, s1, s2⟩ := hW; go_simp⟩) hHeld ?_
  simp only [Act.put, List.setIfInBounds_toArray, List.set_cons_zero, List.set_cons_succ]
  refine wpAnyZ_take (i := 6) (v := .pointer (some ⟨b, o, none⟩)) rfl (by kernel_rfl) (by decide) (by kernel_rfl) (fun _ _ _ h => h) _ _ _ _ (by kernel_rfl) (by kernel_rfl) (Or.inl ⟨by rfl, by intro W hW; obtain ⟨s0, s1, s2⟩ := hW; go_simp⟩) hHeld ?_
  simp only [Act.put, List.setIfInBounds_toArray, List.set_cons_zero, List.set_cons_succ]
  refine wpAnyZ_take (i := 7) (v := .slice p0 n c0') rfl (by kernel_rfl) (by decide) (by kernel_rfl) (fun _ _ _ h => h) _ _ _ _ (by kernel_rfl) (by kernel_rfl) (Or.inl ⟨by rfl, by intro W hW; obtain ⟨s0, s1, s2⟩ := hW; go_simp⟩) hHeld ?_
  simp only [Act.put, List.setIfInBounds_toArray, List.set_cons_zero, List.set_cons_succ]
  refine wpAnyZ_take (i := 8) (v := .int .i64 (n : Int)) rfl (by kernel_rfl) (by decide) (by kernel_rfl) (fun _ _ _ h => h) _ _ _ _ (by kernel_rfl) (by kernel_rfl) (Or.inl ⟨by rfl, by intro W hW; obtain ⟨s0, s1, s2⟩ := hW; go_simp⟩) hHeld ?_
  simp only [Act.put, List.setIfInBounds_toArray, List.set_cons_zero, List.set_cons_succ]
  refine wpAnyZ_one (j := 9) (by kernel_rfl) rfl (fun Kc hKc => ?_)
  go_simp
  refine (split_any X K n w1.drew hn).mono ?_
  intro e w2 hres
  obtain ⟨v2, b2, rfl, hb2⟩ := hres.said
  have hHeld2 : w2.cell? ⟨w.heap.size, 4, none⟩ = some (.int .i64 X) ∧ w2.cell? ⟨w.heap.size, 5, none⟩ = some (.int .i64 K) ∧ w2.cell? ⟨b, o, none⟩ = some (.slice p0 n c0') :=
    ⟨(HT1.out.drew.grows hb2).cell 4 rfl, (HT1.out.drew.grows hb2).cell 5 rfl, by have h := HX1.out; exact (show w2.cell? ⟨b, o, none⟩ = w1.drew.cell? ⟨b, o, none⟩ from hb2.cell (by have := HB1.out.size; show b < w1.heap.size; omega)).trans (by simpa using h)⟩
  have HRes := Lib.hid (hres.shift (below_two HB1.out (below_drew (Below.refl _ _))))
  refine hKc.out _ _ (.inr hHeld2) ?_
  clear hKc Kc hHeld hb2 hres
  try simp only [Act.put, List.setIfInBounds_toArray, List.set_cons_zero, List.set_cons_succ]
  refine wpAnyZ_take (i := 10) (v := v2) rfl (by kernel_rfl) (by decide) (by kernel_rfl) (fun _ _ _ h => h) _ _ _ _ (by kernel_rfl) (by kernel_rfl) (Or.inl ⟨by rfl, by intro W hW; go_simp⟩) hHeld2 ?_
  simp only [Act.put, List.setIfInBounds_toArray, List.set_cons_zero, List.set_cons_succ]
  refine wpAnyZ_take (i := 11) (v := .bool b2) rfl (by kernel_rfl) (by decide) (by kernel_rfl) (fun _ _ _ h => h) _ _ _ _ (by kernel_rfl) (by kernel_rfl) (Or.inl ⟨by rfl, by intro W hW; go_simp⟩) hHeld2 ?_
  simp only [Act.put, List.setIfInBounds_toArray, List.set_cons_zero, List.set_cons_succ]
  refine wpAnyZ_one (j := 12) (by kernel_rfl) rfl (fun Kc hKc => ?_)
  go_simp
  refine hKc.out _ _ (.inl rfl) ?_
  clear hKc Kc
  try simp only [Act.put, List.setIfInBounds_toArray, List.set_cons_zero, List.set_cons_succ]
  refine wpAnyZ_one (j := 13) (by kernel_rfl) rfl (fun Kc hKc => ?_)
  go_simp
  refine hKc.out _ _ (.inr hHeld2) ?_
  clear hKc Kc
  refine wpAnyZ_done (by kernel_rfl) ?_
  try simp only [Act.put, List.setIfInBounds_toArray, List.set_cons_zero, List.set_cons_succ]
  clear hHeld2
  go_wp2
  go_ret2
  exact HRes.out
set_option maxRecDepth 100000 in
set_option maxHeartbeats 4000000 in
theorem added4 (k : Int) (hk1 : ¬ k = 1) (hk2 : ¬ k = 2) (hk3 : ¬ k = 3) (u v : Value) (M : List Int) (R D X K N E : Int) (br : List Rw) (n : Nat) (w : World) (hu : IsI w u M) (hv : IsRs w v br) (hG : Good n br) (h0 : 0 < br.length) (hl : br.length ≤ 140737488351232) (hn : n ≤ 1000) :
    Calls Try.prog 28 #[.agg #[.int .i64 k, u, .int .i64 R, .int .i64 D, .int .i64 X, .int .i64 K, .int .i64 N, .int .i64 E], v] w (RowsRes w (match br.getLast? with | none => none | some r => if absurdB r = true then some [] else none)) := by
  obtain ⟨pu, cu, rfl, -⟩ := hu.shape
  obtain ⟨p, cp, rfl, -⟩ := hv.shape
  obtain ⟨m, hm⟩ : ∃ m, br.length = m + 1 := ⟨br.length - 1, by omega⟩
  obtain ⟨r, hr⟩ := get_of_lt (show m < br.length by omega)
  have HL := Lib.hid (show br.getLast? = some r by rw [List.getLast?_eq_getElem?, hm]; exact hr)
  obtain ⟨b, o, ur, rfl, cx, cy, hI⟩ := hv.at hr
  obtain ⟨pr, cr, rfl, -⟩ := hI.shape
  have hlen := (hG r (List.mem_of_getElem? hr)).1
  have HI := Lib.hid (And.intro hI (show r.A.length ≤ 1000 by omega))
  have d1 : (k == 1) = false := by rw [beq_eq_false_iff_ne]; exact hk1
  have d2 : (k == 2) = false := by rw [beq_eq_false_iff_ne]; exact hk2
  have d3 : (k == 3) = false := by rw [beq_eq_false_iff_ne]; exact hk3
  rw [hm]
  have hml : m ≤ 140737488351232 := by omega
  have hb1 : Below w.heap.size w (w.alloc (.cells #[.int .i64 k, .slice pu M.length cu, .int .i64 R, .int .i64 D, .int .i64 X, .int .i64 K, .int .i64 N, .int .i64 E] 49)) := by go_grown
  have hc0 := (hb1.cell (lt_of_cell cx)).trans cx
  have hc1 := (hb1.cell (lt_of_cell cy)).trans cy
  have HB1 := Lib.hid hb1
  clear hu hv hG hr hI hlen hm h0 hl hb1
  rw [HL.out]
  show Calls Try.prog 28 _ w (RowsRes w (if absurdB r = true then some [] else none))
  obtain ⟨oo, ho⟩ : ∃ o : Option (List Rw), (if absurdB r = true then some [] else none) = o := ⟨_, rfl⟩
  rw [ho]
  have HO := Lib.hid ho
  clear ho
  go_enter Try.func28, Try.ntmps28
  go_wp2_with fail
  refine (absurd_any _ r _ (HI.out.1.grows HB1.out) HI.out.2).mono ?_
  rintro e w2 ⟨rfl, hb2⟩
  have HB2 := Lib.hid (below_two HB1.out hb2)
  clear hb2
  go_wp2
  go_ret2
  rw [← HO.out]
  cases hq : absurdB r with
  | true => exact ⟨HB2.out, _, rfl, rows_nil _ _⟩
  | false => exact ⟨HB2.out, _, rfl⟩
theorem width_good {n : Nat} {br : List Rw} (hG : Good n br) (h0 : 0 < br.length) : width br = n := by
  cases br with
  | nil => simp at h0
  | cons r br => exact (hG r (List.mem_cons_self ..)).1
theorem added_any (u v : Value) (t : Sp) (br : List Rw) (n : Nat) (w : World) (hu : IsI w u t.M) (hv : IsRs w v br) (hG : Good n br) (h0 : 0 < br.length) (hn : n ≤ 1000) (hl : br.length ≤ 140737488351232) :
    Calls Try.prog 28 #[.agg #[.int .i64 t.k, u, .int .i64 t.R, .int .i64 t.D, .int .i64 t.X, .int .i64 t.K, .int .i64 t.N, .int .i64 t.E], v] w (RowsRes w (addedS t br)) := by
  obtain ⟨k, M, R, D, X, K, N, E⟩ := t
  simp only at *
  unfold addedS
  by_cases h1 : k = 1
  · subst h1
    simp only [if_true]
    exact added1 u v M R D X K N E br n w hu hv hG h0 hn hl
  by_cases h2 : k = 2
  · subst h2
    rw [if_neg (by simp), if_pos rfl]
    exact added2 u v M R D X K N E br n w hu hv hG hn hl
  by_cases h3 : k = 3
  · subst h3
    rw [if_neg (by simp), if_neg (by simp), if_pos rfl, width_good hG h0]
    exact added3 u v M R D X K N E br n w hu hv hG h0 hn
  rw [if_neg h1, if_neg h2, if_neg h3]
  exact added4 k h1 h2 h3 u v M R D X K N E br n w hu hv hG h0 hl hn
end Go.Proofs.Ytmhhfommgdljkaa
