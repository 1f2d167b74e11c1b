/-
  Texts of the proof, one behind another: Fi, Fo.
-/
import Derived.Test.YtgbbjobmcbdhdaaGreatDoorYaj
import Derived.Test.YtgbbjobmcbdhdaaGreatDoorYbj
import Derived.Test.YtgbbjobmcbdhdaaGreatDoorShb
import Derived.Test.YtgbbjobmcbdhdaaGreatDoorYcf
import Derived.Deep.RegionHeld3
import Derived.Test.YtgbbjobmcbdhdaaGreatDoorYbi
set_option linter.unusedSimpArgs false
set_option linter.unusedVariables false
/-
  Walks: canonical texts: an operand, with or without parentheses; nodes of one operand.
-/
namespace Go.Proofs.YtgbbjobmcbdhdaaGreatDoor
open Go.RowKit Go.Shelf Go.Lib

/-- the text of node i is T. -/
def TextC (xs : List Nd) (i : Nat) (T : ByteArray) : Prop := ∀ (v : Value) (W : World), IsX W v xs → TabAt 0 Lib.deBruijn64tab W → 0 < W.heap.size →
  Calls Tryz.prog 34 #[v, .int .i64 (i : Int)] W fun e W' => e = .returned (.string T) ∧ Below W.heap.size W W'
def opndT (ks : List Int) (k : Int) (T : ByteArray) : ByteArray := if ks.contains k then ⟨#[40]⟩ ++ T ++ ⟨#[41]⟩ else T
theorem text_cls (xs : List Nd) (i : Nat) (n : Nd) (hi : xs[i]? = some n) (hk : n.k = 3) (T : ByteArray)
    (hC : ∀ W : World, TabAt 0 Lib.deBruijn64tab W → 0 < W.heap.size → Calls Tryz.prog 50 #[.agg #[.int .u64 (wd n.c 0), .int .u64 (wd n.c 1), .int .u64 (wd n.c 2), .int .u64 (wd n.c 3)]] W fun e W' => e = .returned (.string T) ∧ Below W.heap.size W W') : TextC xs i T := by
  intro v W hx hT hg
  have hilt : i < xs.length := (List.getElem?_eq_some_iff.1 hi).1
  obtain ⟨xb, xo, xc, rfl, hR⟩ : ∃ blk off cap, v = .slice (some ⟨blk, off, none⟩) xs.length cap ∧ ReadsN W blk off xs := by
    rcases hx with ⟨rfl, _⟩ | h
    · cases hi
    · exact h
  obtain ⟨x0, x1, x2, x3, x4, x5, x6, x7, x8⟩ := hR.nine i n hi
  obtain ⟨k, c, nl, nr, mn, mx⟩ := n
  dsimp only at hk x0 x1 x2 x3 x4 x5 x6 x7 x8 hC
  obtain rfl : k = 3 := hk
  have hxb := lt_of_cell x0
  dsimp only at hxb
  have HT := Lib.hid hT
  have HC := Lib.hid hC
  clear hT hC hR hi
  go_enter Tryz.func34, Tryz.ntmps34
  go_wp2_with fail
  have hb2 : Below W.heap.size W ((W.alloc (.cells #[.slice (some ⟨xb, xo, none⟩) xs.length xc] 23)).alloc (.cells #[.int .i64 3, .int .u64 (wd c 0), .int .u64 (wd c 1), .int .u64 (wd c 2), .int .u64 (wd c 3), .int .i64 nl, .int .i64 nr, .int .i64 mn, .int .i64 mx] 45)) := ((Below.refl _ W).alloc (Nat.le_refl _) _).alloc (by simp) _
  have HC2 := Lib.hid (HC.out _ (tab_below HT.out hb2 hg) (by have := hb2.size; omega))
  have HB2 := Lib.hid hb2
  clear hb2
  go_wp2_with (go_at_call 50; refine HC2.out.mono ?_; rintro e W3 ⟨rfl, hb3⟩)
  go_ret
  exact ⟨rfl, HB2.out.trans (hb3.mono HB2.out.size)⟩
theorem not1 : (⟨#[40]⟩ : ByteArray).size = 1 := rfl
theorem not2 : (⟨#[41]⟩ : ByteArray).size = 1 := rfl
theorem contains_at (ks : List Int) (x : Int) (kv : Value) (W : World) (hl : ks.length ≤ 10) (hk : (ks = [] ∧ kv = .slice none 0 0) ∨ ∃ B c, kv = .slice (some ⟨B, 0, none⟩) ks.length c ∧ ∀ j, j < ks.length → W.cell? ⟨B, 0 + j, none⟩ = some (.int .i64 (ks.getD j 0))) :
    Calls Tryz.prog 49 #[kv, .int .i64 x] W fun e w' => e = .returned (.bool (ks.contains x)) ∧ w' = W := by
  rcases hk with ⟨rfl, rfl⟩ | ⟨B, c, rfl, hc⟩
  · exact Any.slices_Contains_int_empty Tryz.lays107 none 0 x W
  · have h := Any.slices_Contains_int Tryz.lays107 B 0 ks.length c ks x W (Nat.le_refl _) (by omega) hc
    rw [List.take_length] at h
    exact h
set_option maxRecDepth 100000 in
set_option maxHeartbeats 1000000 in
theorem opnd_any (xs : List Nd) (j : Nat) (m : Nd) (hj : xs[j]? = some m) (ks : List Int) (hkl : ks.length ≤ 10) (T : ByteArray) (hTs : T.size ≤ 1099511627776) (hC : TextC xs j T) (v kv : Value) (bx : Nat) (W : World) (hx : IsX W v xs) (hbx : Blk W bx #[v] 23)
    (hk : (ks = [] ∧ kv = .slice none 0 0) ∨ ∃ B c, kv = .slice (some ⟨B, 0, none⟩) ks.length c ∧ ∀ j, j < ks.length → W.cell? ⟨B, 0 + j, none⟩ = some (.int .i64 (ks.getD j 0)))
    (hT : TabAt 0 Lib.deBruijn64tab W) (hg : 0 < W.heap.size) :
    Calls Tryz.prog 48 #[.int .i64 (j : Int), kv, .pointer (some ⟨bx, 0, none⟩)] W fun e W' => e = .returned (.string (opndT ks m.k T)) ∧ Below W.heap.size W W' := by
  have hilt : j < xs.length := (List.getElem?_eq_some_iff.1 hj).1
  have HX := Lib.hid hx
  obtain ⟨xb, xo, xc, rfl, hR⟩ : ∃ blk off cap, v = .slice (some ⟨blk, off, none⟩) xs.length cap ∧ ReadsN W blk off xs := by
    rcases hx with ⟨rfl, _⟩ | h
    · cases hj
    · exact h
  have x0 := hR j m hj 0 _ rfl
  rw [Nat.add_zero] at x0
  have b0 := hbx.cell 0 rfl
  obtain ⟨k, c, nl, nr, mn, mx⟩ := m
  dsimp only at x0
  have HCt := Lib.hid (contains_at ks k kv W hkl hk)
  have HC := Lib.hid (hC _ W HX.out hT hg)
  obtain ⟨kp, kc, rfl⟩ : ∃ p c, kv = .slice p ks.length c := by
    rcases hk with ⟨rfl, rfl⟩ | ⟨B, c, rfl, _⟩
    · exact ⟨_, _, rfl⟩
    · exact ⟨_, _, rfl⟩
  clear hR hbx hk hT hC hj HX
  unfold opndT
  cases hc : ks.contains k with
  | true =>
    rw [hc] at HCt
    go_enter Tryz.func48, Tryz.ntmps48
    go_wp2_with (first | (go_at_call 49; refine HCt.out.mono ?_; rintro e W3 ⟨rfl, rfl⟩) | (go_at_call 34; refine HC.out.mono ?_; rintro e W3 ⟨rfl, hb3⟩))
    all_goals first
      | (rename_i hbig; exfalso; revert hbig; simp only [ByteArray.size_append, not1, not2, gt_iff_lt, Nat.not_lt]; omega)
      | (go_ret; exact ⟨rfl, hb3⟩)
  | false =>
    rw [hc] at HCt
    go_enter Tryz.func48, Tryz.ntmps48
    go_wp2_with (first | (go_at_call 49; refine HCt.out.mono ?_; rintro e W3 ⟨rfl, rfl⟩) | (go_at_call 34; refine HC.out.mono ?_; rintro e W3 ⟨rfl, hb3⟩))
    go_ret
    exact ⟨rfl, hb3⟩
theorem kinds3 (W : World) (a b c : Int) (t : TypeId) : ∀ j, j < [a, b, c].length → (W.alloc (.cells #[.int .i64 a, .int .i64 b, .int .i64 c] t)).cell? ⟨W.heap.size, 0 + j, none⟩ = some (.int .i64 ([a, b, c].getD j 0)) := by
  intro j hj
  have hb := Blk.new W #[.int .i64 a, .int .i64 b, .int .i64 c] t
  rw [Nat.zero_add]
  rcases j with _ | _ | _ | j
  · exact hb.cell 0 rfl
  · exact hb.cell 1 rfl
  · exact hb.cell 2 rfl
  · simp only [List.length_cons, List.length_nil] at hj; omega
theorem kinds4 (W : World) (a b c d : Int) (t : TypeId) : ∀ j, j < [a, b, c, d].length → (W.alloc (.cells #[.int .i64 a, .int .i64 b, .int .i64 c, .int .i64 d] t)).cell? ⟨W.heap.size, 0 + j, none⟩ = some (.int .i64 ([a, b, c, d].getD j 0)) := by
  intro j hj
  have hb := Blk.new W #[.int .i64 a, .int .i64 b, .int .i64 c, .int .i64 d] t
  rw [Nat.zero_add]
  rcases j with _ | _ | _ | _ | j
  · exact hb.cell 0 rfl
  · exact hb.cell 1 rfl
  · exact hb.cell 2 rfl
  · exact hb.cell 3 rfl
  · simp only [List.length_cons, List.length_nil] at hj; omega
theorem opnd_size (ks : List Int) (k : Int) (T : ByteArray) (hT : T.size ≤ 1099511627776) : (opndT ks k T).size ≤ 1099511627778 := by
  unfold opndT
  split
  · simp only [ByteArray.size_append, not1, not2]; omega
  · omega
set_option maxRecDepth 100000 in
set_option maxHeartbeats 1000000 in
theorem text_not (xs : List Nd) (hX : OkX xs) (i : Nat) (n : Nd) (hi : xs[i]? = some n) (hk : n.k = 7) (m : Nd) (hm : xs[n.l.toNat]? = some m) (T : ByteArray) (hTs : T.size ≤ 1099511627776) (hC : TextC xs n.l.toNat T) :
    TextC xs i (⟨#[126]⟩ ++ opndT [4, 5, 6] m.k T) := by
  intro v W hx hT hg
  have hilt : i < xs.length := (List.getElem?_eq_some_iff.1 hi).1
  have HX := Lib.hid hx
  obtain ⟨xb, xo, xc, rfl, hR⟩ : ∃ blk off cap, v = .slice (some ⟨blk, off, none⟩) xs.length cap ∧ ReadsN W blk off xs := by
    rcases hx with ⟨rfl, _⟩ | h
    · cases hi
    · exact h
  obtain ⟨x0, x1, x2, x3, x4, x5, x6, x7, x8⟩ := hR.nine i n hi
  have hop := hX.one hi (.inl hk)
  obtain ⟨k, c, nl, nr, mn, mx⟩ := n
  dsimp only at hk x0 x1 x2 x3 x4 x5 x6 x7 x8 hC hop hm
  obtain rfl : k = 7 := hk
  have hxb := lt_of_cell x0
  dsimp only at hxb
  have hb2 : Below W.heap.size W ((W.alloc (.cells #[.slice (some ⟨xb, xo, none⟩) xs.length xc] 23)).alloc (.cells #[.int .i64 7, .int .u64 (wd c 0), .int .u64 (wd c 1), .int .u64 (wd c 2), .int .u64 (wd c 3), .int .i64 nl, .int .i64 nr, .int .i64 mn, .int .i64 mx] 45)) := ((Below.refl _ W).alloc (Nat.le_refl _) _).alloc (by simp) _
  have hbx := (Blk.new W #[.slice (some ⟨xb, xo, none⟩) xs.length xc] 23).alloc (.cells #[.int .i64 7, .int .u64 (wd c 0), .int .u64 (wd c 1), .int .u64 (wd c 2), .int .u64 (wd c 3), .int .i64 nl, .int .i64 nr, .int .i64 mn, .int .i64 mx] 45)
  have hs2 : ((W.alloc (.cells #[.slice (some ⟨xb, xo, none⟩) xs.length xc] 23)).alloc (.cells #[.int .i64 7, .int .u64 (wd c 0), .int .u64 (wd c 1), .int .u64 (wd c 2), .int .u64 (wd c 3), .int .i64 nl, .int .i64 nr, .int .i64 mn, .int .i64 mx] 45)).heap.size = W.heap.size + 2 := by simp
  obtain ⟨W2, hW2⟩ : ∃ W2, W2 = ((W.alloc (.cells #[.slice (some ⟨xb, xo, none⟩) xs.length xc] 23)).alloc (.cells #[.int .i64 7, .int .u64 (wd c 0), .int .u64 (wd c 1), .int .u64 (wd c 2), .int .u64 (wd c 3), .int .i64 nl, .int .i64 nr, .int .i64 mn, .int .i64 mx] 45)) := ⟨_, rfl⟩
  rw [← hW2] at hb2 hbx hs2
  have hb3 : Below W2.heap.size W2 (W2.alloc (.cells #[.int .i64 4, .int .i64 5, .int .i64 6] 3)) := (Below.refl _ _).alloc (Nat.le_refl _) _
  have hnl : ((nl.toNat : Nat) : Int) = nl := by omega
  have hO := opnd_any xs nl.toNat m hm [4, 5, 6] (by decide) T hTs hC (.slice (some ⟨xb, xo, none⟩) xs.length xc) (.slice (some ⟨W2.heap.size, 0, none⟩) 3 3) W.heap.size (W2.alloc (.cells #[.int .i64 4, .int .i64 5, .int .i64 6] 3))
    ((HX.out.grows hb2).grows hb3) (hbx.alloc _) (.inr ⟨_, _, rfl, kinds3 W2 4 5 6 _⟩) (tab_below (tab_below hT hb2 hg) hb3 (by have := hb2.size; omega)) (by have := hb2.size; have := hb3.size; omega)
  rw [hnl, show W2.heap.size = W.heap.size + 1 + 1 by omega] at hO
  have hsz := opnd_size [4, 5, 6] m.k T hTs
  have HO := Lib.hid hO
  have HB2 := Lib.hid hb2
  have HB3 := Lib.hid hb3
  clear hT hC hR hi HX hbx hb2 hb3 hO hX
  generalize opndT [4, 5, 6] m.k T = U at HO hsz ⊢
  go_enter Tryz.func34, Tryz.ntmps34
  go_wp2_with fail
  rw [← hW2]
  refine HO.out.mono ?_
  rintro e W4 ⟨rfl, hb4⟩
  have Hb4 := Lib.hid (HB2.out.trans ((HB3.out.mono HB2.out.size).trans (hb4.mono (by have := HB2.out.size; have := HB3.out.size; omega))))
  clear hb4 hW2
  go_wp2
  go_ret
  exact ⟨rfl, Hb4.out⟩
set_option maxRecDepth 100000 in
set_option maxHeartbeats 1000000 in
theorem text_rep (xs : List Nd) (hX : OkX xs) (i : Nat) (n : Nd) (hi : xs[i]? = some n) (hk : n.k = 8) (R : ByteArray) (hRs : R.size ≤ 1099511627776) (hRc : ∀ w, Calls Tryz.prog 51 #[.int .i64 n.mn, .int .i64 n.mx] w fun e W' => e = .returned (.string R) ∧ W' = w) (m : Nd) (hm : xs[n.l.toNat]? = some m) (T : ByteArray) (hTs : T.size ≤ 1099511627776) (hC : TextC xs n.l.toNat T) :
    TextC xs i (opndT [4, 5, 6, 7] m.k T ++ R) := by
  intro v W hx hT hg
  have hilt : i < xs.length := (List.getElem?_eq_some_iff.1 hi).1
  have HX := Lib.hid hx
  obtain ⟨xb, xo, xc, rfl, hR⟩ : ∃ blk off cap, v = .slice (some ⟨blk, off, none⟩) xs.length cap ∧ ReadsN W blk off xs := by
    rcases hx with ⟨rfl, _⟩ | h
    · cases hi
    · exact h
  obtain ⟨x0, x1, x2, x3, x4, x5, x6, x7, x8⟩ := hR.nine i n hi
  have hop := hX.one hi (.inr hk)
  obtain ⟨k, c, nl, nr, mn, mx⟩ := n
  dsimp only at hk x0 x1 x2 x3 x4 x5 x6 x7 x8 hC hop hm hRc
  obtain rfl : k = 8 := hk
  have hxb := lt_of_cell x0
  dsimp only at hxb
  have hb2 : Below W.heap.size W ((W.alloc (.cells #[.slice (some ⟨xb, xo, none⟩) xs.length xc] 23)).alloc (.cells #[.int .i64 8, .int .u64 (wd c 0), .int .u64 (wd c 1), .int .u64 (wd c 2), .int .u64 (wd c 3), .int .i64 nl, .int .i64 nr, .int .i64 mn, .int .i64 mx] 45)) := ((Below.refl _ W).alloc (Nat.le_refl _) _).alloc (by simp) _
  have hbx := (Blk.new W #[.slice (some ⟨xb, xo, none⟩) xs.length xc] 23).alloc (.cells #[.int .i64 8, .int .u64 (wd c 0), .int .u64 (wd c 1), .int .u64 (wd c 2), .int .u64 (wd c 3), .int .i64 nl, .int .i64 nr, .int .i64 mn, .int .i64 mx] 45)
  have hs2 : ((W.alloc (.cells #[.slice (some ⟨xb, xo, none⟩) xs.length xc] 23)).alloc (.cells #[.int .i64 8, .int .u64 (wd c 0), .int .u64 (wd c 1), .int .u64 (wd c 2), .int .u64 (wd c 3), .int .i64 nl, .int .i64 nr, .int .i64 mn, .int .i64 mx] 45)).heap.size = W.heap.size + 2 := by simp
  obtain ⟨W2, hW2⟩ : ∃ W2, W2 = ((W.alloc (.cells #[.slice (some ⟨xb, xo, none⟩) xs.length xc] 23)).alloc (.cells #[.int .i64 8, .int .u64 (wd c 0), .int .u64 (wd c 1), .int .u64 (wd c 2), .int .u64 (wd c 3), .int .i64 nl, .int .i64 nr, .int .i64 mn, .int .i64 mx] 45)) := ⟨_, rfl⟩
  rw [← hW2] at hb2 hbx hs2
  have hbn := Blk.alloc1 W #[.slice (some ⟨xb, xo, none⟩) xs.length xc] #[.int .i64 8, .int .u64 (wd c 0), .int .u64 (wd c 1), .int .u64 (wd c 2), .int .u64 (wd c 3), .int .i64 nl, .int .i64 nr, .int .i64 mn, .int .i64 mx] 23 45
  rw [← hW2] at hbn
  have hb3 : Below W2.heap.size W2 (W2.alloc (.cells #[.int .i64 4, .int .i64 5, .int .i64 6, .int .i64 7] 3)).drew := ((Below.refl _ _).alloc (Nat.le_refl _) _).trans ((below_dr _).mono (by simp))
  have hnl : ((nl.toNat : Nat) : Int) = nl := by omega
  have hO := opnd_any xs nl.toNat m hm [4, 5, 6, 7] (by decide) T hTs hC (.slice (some ⟨xb, xo, none⟩) xs.length xc) (.slice (some ⟨W2.heap.size, 0, none⟩) 4 4) W.heap.size (W2.alloc (.cells #[.int .i64 4, .int .i64 5, .int .i64 6, .int .i64 7] 3)).drew
    ((HX.out.grows hb2).grows hb3) (hbx.alloc _).drew (.inr ⟨_, _, rfl, kinds4 W2 4 5 6 7 _⟩) (tab_below (tab_below hT hb2 hg) hb3 (by have := hb2.size; omega)) (by have := hb2.size; have := hb3.size; omega)
  rw [hnl, show W2.heap.size = W.heap.size + 2 by omega] at hO
  have hsz := opnd_size [4, 5, 6, 7] m.k T hTs
  have HO := Lib.hid hO
  have HB2 := Lib.hid hb2
  have HB3 := Lib.hid hb3
  clear hT hC hR hi HX hbx hb2 hb3 hO hX
  generalize opndT [4, 5, 6, 7] m.k T = U at HO hsz ⊢
  have hn5 := hbn.cell 5 rfl
  have hn7 := hbn.cell 7 rfl
  have hn8 := hbn.cell 8 rfl
  have HR := Lib.hid hRc
  clear hRc hbn
  have hcat : ∀ w, (Op.stringOp .add U R).run Tryz.prog w = .ok (.string (U ++ R)) w := fun w => by simp only [run_string_add_if]; rw [if_neg (by omega)]
  go_enter Tryz.func34, Tryz.ntmps34
  go_wp2_with fail
  rw [← hW2]
  clear hW2
  go_region_held3 (fun W' => W'.cell? ⟨W.heap.size + 1, 5, none⟩ = some (.int .i64 nl) ∧ W'.cell? ⟨W.heap.size + 1, 7, none⟩ = some (.int .i64 mn) ∧ W'.cell? ⟨W.heap.size + 1, 8, none⟩ = some (.int .i64 mx)) (first | exact ⟨hn5, hn7, hn8⟩ | exact ⟨cell_al hn5, cell_al hn7, cell_al hn8⟩) (first
      | (go_at_call 51; refine (HR.out _).mono ?_; rintro e wn ⟨rfl, rfl⟩)
      | (go_at_call 48; refine HO.out.mono ?_; rintro e wn ⟨rfl, hb4⟩; have Hb4 := Lib.hid (HB2.out.trans ((HB3.out.mono HB2.out.size).trans (hb4.mono (by have := HB2.out.size; have := HB3.out.size; omega)))); have hn5 := (hb4.cell (lt_of_cell (cell_al hn5))).trans (cell_al hn5); have hn7 := (hb4.cell (lt_of_cell (cell_al hn7))).trans (cell_al hn7); have hn8 := (hb4.cell (lt_of_cell (cell_al hn8))).trans (cell_al hn8)))
  all_goals
    go_wp2
    go_ret
    exact ⟨rfl, Hb4.out⟩
end Go.Proofs.YtgbbjobmcbdhdaaGreatDoor

/-
  Walks: canonical texts: nodes of two operands, of none.
-/
namespace Go.Proofs.YtgbbjobmcbdhdaaGreatDoor
open Go.RowKit Go.Shelf Go.Lib

/-- these kinds stand there. -/
def KindsAt (W : World) (B : Nat) (ks : List Int) : Prop := ∀ j, j < ks.length → W.cell? ⟨B, 0 + j, none⟩ = some (.int .i64 (ks.getD j 0))
theorem KindsAt.grows {W W' : World} {B : Nat} {ks : List Int} (h : KindsAt W B ks) (hb : Below W.heap.size W W') : KindsAt W' B ks := fun j hj => (hb.cell (lt_of_cell (h j hj))).trans (h j hj)
theorem KindsAt.alloc {W : World} {B : Nat} {ks : List Int} (h : KindsAt W B ks) (o : Obj) : KindsAt (W.alloc o) B ks := h.grows ((Below.refl _ W).alloc (Nat.le_refl _) o)
theorem kinds_1 (W : World) (a : Int) (t : TypeId) : KindsAt (W.alloc (.cells #[.int .i64 a] t)) W.heap.size [a] := by
  intro j hj
  have hb := Blk.new W #[.int .i64 a] t
  rw [Nat.zero_add]
  rcases j with _ | j
  · exact hb.cell 0 rfl
  · simp only [List.length_cons, List.length_nil] at hj; omega
theorem kinds_2 (W : World) (a b : Int) (t : TypeId) : KindsAt (W.alloc (.cells #[.int .i64 a, .int .i64 b] t)) W.heap.size [a, b] := by
  intro j hj
  have hb := Blk.new W #[.int .i64 a, .int .i64 b] t
  rw [Nat.zero_add]
  rcases j with _ | _ | j
  · exact hb.cell 0 rfl
  · exact hb.cell 1 rfl
  · simp only [List.length_cons, List.length_nil] at hj; omega
theorem kinds_3 (W : World) (a b c : Int) (t : TypeId) : KindsAt (W.alloc (.cells #[.int .i64 a, .int .i64 b, .int .i64 c] t)) W.heap.size [a, b, c] := kinds3 W a b c t
theorem text_none (xs : List Nd) (i : Nat) (n : Nd) (hi : xs[i]? = some n) (hk : n.k = 1) : TextC xs i (bs [33]) := by
  intro v W hx hT hg
  have hilt : i < xs.length := (List.getElem?_eq_some_iff.1 hi).1
  have HX := Lib.hid hx
  obtain ⟨xb, xo, xc, rfl, hR⟩ : ∃ blk off cap, v = .slice (some ⟨blk, off, none⟩) xs.length cap ∧ ReadsN W blk off xs := by
    rcases hx with ⟨rfl, _⟩ | h
    · cases hi
    · exact h
  obtain ⟨x0, x1, x2, x3, x4, x5, x6, x7, x8⟩ := hR.nine i n hi
  obtain ⟨k, c, nl, nr, mn, mx⟩ := n
  dsimp only at hk x0 x1 x2 x3 x4 x5 x6 x7 x8
  have hxb := lt_of_cell x0
  dsimp only at hxb
  obtain rfl : k = 1 := hk
  clear hT hR hi hx
  go_enter Tryz.func34, Tryz.ntmps34
  go_wp2_with fail
  go_ret
  exact ⟨rfl, by go_grown⟩
theorem text_empty (xs : List Nd) (i : Nat) (n : Nd) (hi : xs[i]? = some n) (hk : n.k = 2) : TextC xs i (bs [40, 41]) := by
  intro v W hx hT hg
  have hilt : i < xs.length := (List.getElem?_eq_some_iff.1 hi).1
  have HX := Lib.hid hx
  obtain ⟨xb, xo, xc, rfl, hR⟩ : ∃ blk off cap, v = .slice (some ⟨blk, off, none⟩) xs.length cap ∧ ReadsN W blk off xs := by
    rcases hx with ⟨rfl, _⟩ | h
    · cases hi
    · exact h
  obtain ⟨x0, x1, x2, x3, x4, x5, x6, x7, x8⟩ := hR.nine i n hi
  obtain ⟨k, c, nl, nr, mn, mx⟩ := n
  dsimp only at hk x0 x1 x2 x3 x4 x5 x6 x7 x8
  have hxb := lt_of_cell x0
  dsimp only at hxb
  obtain rfl : k = 2 := hk
  clear hT hR hi hx
  go_enter Tryz.func34, Tryz.ntmps34
  go_wp2_with fail
  go_ret
  exact ⟨rfl, by go_grown⟩
set_option maxRecDepth 100000 in
set_option maxHeartbeats 2000000 in
theorem text_two4 (xs : List Nd) (hX : OkX xs) (i : Nat) (n : Nd) (hi : xs[i]? = some n) (hk : n.k = 4) (m1 m2 : Nd) (hm1 : xs[n.l.toNat]? = some m1) (hm2 : xs[n.r.toNat]? = some m2) (T1 T2 : ByteArray) (hTs1 : T1.size ≤ 1099511627776) (hTs2 : T2.size ≤ 1099511627776)
    (hC1 : TextC xs n.l.toNat T1) (hC2 : TextC xs n.r.toNat T2) : TextC xs i (opndT [5, 6] m1.k T1 ++ opndT [4, 5, 6] m2.k T2) := by
  intro v W hx hT hg
  have hop := hX.two hi (by omega)
  have hilt : i < xs.length := (List.getElem?_eq_some_iff.1 hi).1
  have HX := Lib.hid hx
  obtain ⟨xb, xo, xc, rfl, hR⟩ : ∃ blk off cap, v = .slice (some ⟨blk, off, none⟩) xs.length cap ∧ ReadsN W blk off xs := by
    rcases hx with ⟨rfl, _⟩ | h
    · cases hi
    · exact h
  obtain ⟨x0, x1, x2, x3, x4, x5, x6, x7, x8⟩ := hR.nine i n hi
  obtain ⟨k, c, nl, nr, mn, mx⟩ := n
  dsimp only at hk x0 x1 x2 x3 x4 x5 x6 x7 x8 hop hm1 hm2 hC1 hC2
  have hxb := lt_of_cell x0
  dsimp only at hxb
  obtain rfl : k = 4 := hk
  have hb2 : Below W.heap.size W ((W.alloc (.cells #[.slice (some ⟨xb, xo, none⟩) xs.length xc] 23)).alloc (.cells #[.int .i64 4, .int .u64 (wd c 0), .int .u64 (wd c 1), .int .u64 (wd c 2), .int .u64 (wd c 3), .int .i64 nl, .int .i64 nr, .int .i64 mn, .int .i64 mx] 45)) := ((Below.refl _ W).alloc (Nat.le_refl _) _).alloc (by simp) _
  have hbx := (Blk.new W #[.slice (some ⟨xb, xo, none⟩) xs.length xc] 23).alloc (.cells #[.int .i64 4, .int .u64 (wd c 0), .int .u64 (wd c 1), .int .u64 (wd c 2), .int .u64 (wd c 3), .int .i64 nl, .int .i64 nr, .int .i64 mn, .int .i64 mx] 45)
  have hbn := Blk.alloc1 W #[.slice (some ⟨xb, xo, none⟩) xs.length xc] #[.int .i64 4, .int .u64 (wd c 0), .int .u64 (wd c 1), .int .u64 (wd c 2), .int .u64 (wd c 3), .int .i64 nl, .int .i64 nr, .int .i64 mn, .int .i64 mx] 23 45
  have hs2 : ((W.alloc (.cells #[.slice (some ⟨xb, xo, none⟩) xs.length xc] 23)).alloc (.cells #[.int .i64 4, .int .u64 (wd c 0), .int .u64 (wd c 1), .int .u64 (wd c 2), .int .u64 (wd c 3), .int .i64 nl, .int .i64 nr, .int .i64 mn, .int .i64 mx] 45)).heap.size = W.heap.size + 2 := by simp
  obtain ⟨W2, hW2⟩ : ∃ W2, W2 = ((W.alloc (.cells #[.slice (some ⟨xb, xo, none⟩) xs.length xc] 23)).alloc (.cells #[.int .i64 4, .int .u64 (wd c 0), .int .u64 (wd c 1), .int .u64 (wd c 2), .int .u64 (wd c 3), .int .i64 nl, .int .i64 nr, .int .i64 mn, .int .i64 mx] 45)) := ⟨_, rfl⟩
  rw [← hW2] at hb2 hbx hs2 hbn
  have hnl : ((nl.toNat : Nat) : Int) = nl := by omega
  have hnr : ((nr.toNat : Nat) : Int) = nr := by omega
  have HO1 := Lib.hid (fun w (hw : Below W2.heap.size W2 w) B (hkk : KindsAt w B [5, 6]) => by
    have h := opnd_any xs nl.toNat m1 hm1 [5, 6] (by decide) T1 hTs1 hC1 (.slice (some ⟨xb, xo, none⟩) xs.length xc) (.slice (some ⟨B, 0, none⟩) 2 2) W.heap.size w ((HX.out.grows hb2).grows hw) (hbx.grows hw) (.inr ⟨_, _, rfl, hkk⟩) (tab_below (tab_below hT hb2 hg) hw (by have := hb2.size; omega)) (by have := hb2.size; have := hw.size; omega)
    rw [hnl] at h
    exact h)
  have HO2 := Lib.hid (fun w (hw : Below W2.heap.size W2 w) B (hkk : KindsAt w B [4, 5, 6]) => by
    have h := opnd_any xs nr.toNat m2 hm2 [4, 5, 6] (by decide) T2 hTs2 hC2 (.slice (some ⟨xb, xo, none⟩) xs.length xc) (.slice (some ⟨B, 0, none⟩) 3 3) W.heap.size w ((HX.out.grows hb2).grows hw) (hbx.grows hw) (.inr ⟨_, _, rfl, hkk⟩) (tab_below (tab_below hT hb2 hg) hw (by have := hb2.size; omega)) (by have := hb2.size; have := hw.size; omega)
    rw [hnr] at h
    exact h)
  have hsz1 := opnd_size [5, 6] m1.k T1 hTs1
  have hsz2 := opnd_size [4, 5, 6] m2.k T2 hTs2
  have HB2 := Lib.hid hb2
  have hn5 := hbn.cell 5 rfl
  have hn6 := hbn.cell 6 rfl
  have HS2 := Lib.hid hs2
  clear hT hC1 hC2 hR hi HX hx hbx hbn hb2 hX hs2
  generalize opndT [5, 6] m1.k T1 = U at HO1 hsz1 ⊢
  generalize opndT [4, 5, 6] m2.k T2 = V at HO2 hsz2 ⊢
  have hcat : ∀ w, (Op.stringOp .add U V).run Tryz.prog w = .ok (.string (U ++ V)) w := fun w => run_string_add_sum w _ _ (by omega)
  go_enter Tryz.func34, Tryz.ntmps34
  go_wp2_with fail
  rw [← hW2]
  clear hW2
  have hka : KindsAt (W2.alloc (.cells #[.int .i64 5, .int .i64 6] 3)) W2.heap.size [5, 6] := kinds_2 W2 5 6 _
  have hkc : KindsAt ((W2.alloc (.cells #[.int .i64 4, .int .i64 5, .int .i64 6] 3)).alloc (.cells #[.int .i64 5, .int .i64 6] 3)) (W2.heap.size + 1) [5, 6] := by
    have h := kinds_2 (W2.alloc (.cells #[.int .i64 4, .int .i64 5, .int .i64 6] 3)) 5 6 3
    rwa [show (W2.alloc (.cells #[.int .i64 4, .int .i64 5, .int .i64 6] 3)).heap.size = W2.heap.size + 1 by simp] at h
  have hkb2 : KindsAt ((W2.alloc (.cells #[.int .i64 5, .int .i64 6] 3)).alloc (.cells #[.int .i64 4, .int .i64 5, .int .i64 6] 3)) (W2.heap.size + 1) [4, 5, 6] := by
    have h := kinds_3 (W2.alloc (.cells #[.int .i64 5, .int .i64 6] 3)) 4 5 6 3
    rwa [show (W2.alloc (.cells #[.int .i64 5, .int .i64 6] 3)).heap.size = W2.heap.size + 1 by simp] at h
  have hkc2 : KindsAt ((W2.alloc (.cells #[.int .i64 4, .int .i64 5, .int .i64 6] 3)).alloc (.cells #[.int .i64 5, .int .i64 6] 3)) W2.heap.size [4, 5, 6] := (kinds_3 W2 4 5 6 _).alloc _
  have hba : Below W2.heap.size W2 (W2.alloc (.cells #[.int .i64 5, .int .i64 6] 3)).drew := ((Below.refl _ W2).alloc (Nat.le_refl _) _).drew
  have hbb : Below W2.heap.size W2 ((W2.alloc (.cells #[.int .i64 5, .int .i64 6] 3)).alloc (.cells #[.int .i64 4, .int .i64 5, .int .i64 6] 3)).drew := (((Below.refl _ W2).alloc (Nat.le_refl _) _).alloc (by simp) _).drew
  have hbc : Below W2.heap.size W2 ((W2.alloc (.cells #[.int .i64 4, .int .i64 5, .int .i64 6] 3)).alloc (.cells #[.int .i64 5, .int .i64 6] 3)).drew := (((Below.refl _ W2).alloc (Nat.le_refl _) _).alloc (by simp) _).drew
  have HA := Lib.hid (HO1.out _ hba W2.heap.size hka)
  have HB := Lib.hid (HO1.out _ hbb W2.heap.size (hka.alloc _))
  have HC := Lib.hid (HO1.out _ hbc (W2.heap.size + 1) hkc)
  have HD := Lib.hid (And.intro hba (And.intro hbb hbc))
  have HK := Lib.hid (show KindsAt ((W2.alloc (.cells #[.int .i64 5, .int .i64 6] 3)).alloc (.cells #[.int .i64 4, .int .i64 5, .int .i64 6] 3)).drew (W2.heap.size + 1) [4, 5, 6] ∧ KindsAt ((W2.alloc (.cells #[.int .i64 4, .int .i64 5, .int .i64 6] 3)).alloc (.cells #[.int .i64 5, .int .i64 6] 3)).drew W2.heap.size [4, 5, 6] from And.intro hkb2 hkc2)
  clear hka hkc hkb2 hkc2 hba hbb hbc
  go_region_held3 (fun W' => W'.cell? ⟨W.heap.size + 1, 5, none⟩ = some (.int .i64 nl) ∧ W'.cell? ⟨W.heap.size + 1, 6, none⟩ = some (.int .i64 nr)) (first | exact ⟨hn5, hn6⟩ | exact ⟨cell_al hn5, cell_al hn6⟩ | exact ⟨cell_al (cell_al hn5), cell_al (cell_al hn6)⟩) (first
      | (go_at_call 48; (with_reducible refine HA.out.mono ?_); rintro e wn ⟨rfl, hb4⟩; have hn5 := (hb4.cell (lt_of_cell (cell_al hn5))).trans (cell_al hn5); have hn6 := (hb4.cell (lt_of_cell (cell_al hn6))).trans (cell_al hn6); have hcur := HD.out.1.trans (hb4.mono HD.out.1.size); clear hb4)
      | (go_at_call 48; (with_reducible refine HB.out.mono ?_); rintro e wn ⟨rfl, hb4⟩; have hn5 := (hb4.cell (lt_of_cell (cell_al (cell_al hn5)))).trans (cell_al (cell_al hn5)); have hn6 := (hb4.cell (lt_of_cell (cell_al (cell_al hn6)))).trans (cell_al (cell_al hn6)); have hk2 := Lib.hid (KindsAt.grows HK.out.1 hb4); have hcur := HD.out.2.1.trans (hb4.mono HD.out.2.1.size); clear hb4)
      | (go_at_call 48; (with_reducible refine HC.out.mono ?_); rintro e wn ⟨rfl, hb4⟩; have hn5 := (hb4.cell (lt_of_cell (cell_al (cell_al hn5)))).trans (cell_al (cell_al hn5)); have hn6 := (hb4.cell (lt_of_cell (cell_al (cell_al hn6)))).trans (cell_al (cell_al hn6)); have hk2 := Lib.hid (KindsAt.grows HK.out.2 hb4); have hcur := HD.out.2.2.trans (hb4.mono HD.out.2.2.size); clear hb4)
      | (go_at_call 48; (with_reducible refine (HO2.out _ hcur _ hk2.out).mono ?_); rintro e wm ⟨rfl, hb5⟩; have hn5 := (hb5.cell (lt_of_cell hn5)).trans hn5; have hn6 := (hb5.cell (lt_of_cell hn6)).trans hn6; have hcur := hcur.trans (hb5.mono hcur.size); clear hb5)
      | (go_at_call 48; (with_reducible refine (HO2.out _ (hcur.alloc hcur.size _) _ (kinds_3 _ _ _ _ _)).mono ?_); rintro e wm ⟨rfl, hb5⟩; have hn5 := (hb5.cell (lt_of_cell (cell_al hn5))).trans (cell_al hn5); have hn6 := (hb5.cell (lt_of_cell (cell_al hn6))).trans (cell_al hn6); have hcur := (hcur.alloc hcur.size _).trans (hb5.mono (hcur.alloc hcur.size _).size); clear hb5)
      | fail)
  all_goals
    go_wp2
    go_ret
    exact ⟨rfl, HB2.out.trans (hcur.mono HB2.out.size)⟩
set_option maxRecDepth 100000 in
set_option maxHeartbeats 2000000 in
theorem text_two5 (xs : List Nd) (hX : OkX xs) (i : Nat) (n : Nd) (hi : xs[i]? = some n) (hk : n.k = 5) (m1 m2 : Nd) (hm1 : xs[n.l.toNat]? = some m1) (hm2 : xs[n.r.toNat]? = some m2) (T1 T2 : ByteArray) (hTs1 : T1.size ≤ 1099511627776) (hTs2 : T2.size ≤ 1099511627776)
    (hC1 : TextC xs n.l.toNat T1) (hC2 : TextC xs n.r.toNat T2) : TextC xs i ((opndT [] m1.k T1 ++ ⟨#[124]⟩) ++ opndT [5] m2.k T2) := by
  intro v W hx hT hg
  have hop := hX.two hi (by omega)
  have hilt : i < xs.length := (List.getElem?_eq_some_iff.1 hi).1
  have HX := Lib.hid hx
  obtain ⟨xb, xo, xc, rfl, hR⟩ : ∃ blk off cap, v = .slice (some ⟨blk, off, none⟩) xs.length cap ∧ ReadsN W blk off xs := by
    rcases hx with ⟨rfl, _⟩ | h
    · cases hi
    · exact h
  obtain ⟨x0, x1, x2, x3, x4, x5, x6, x7, x8⟩ := hR.nine i n hi
  obtain ⟨k, c, nl, nr, mn, mx⟩ := n
  dsimp only at hk x0 x1 x2 x3 x4 x5 x6 x7 x8 hop hm1 hm2 hC1 hC2
  have hxb := lt_of_cell x0
  dsimp only at hxb
  obtain rfl : k = 5 := hk
  have hb2 : Below W.heap.size W ((W.alloc (.cells #[.slice (some ⟨xb, xo, none⟩) xs.length xc] 23)).alloc (.cells #[.int .i64 5, .int .u64 (wd c 0), .int .u64 (wd c 1), .int .u64 (wd c 2), .int .u64 (wd c 3), .int .i64 nl, .int .i64 nr, .int .i64 mn, .int .i64 mx] 45)) := ((Below.refl _ W).alloc (Nat.le_refl _) _).alloc (by simp) _
  have hbx := (Blk.new W #[.slice (some ⟨xb, xo, none⟩) xs.length xc] 23).alloc (.cells #[.int .i64 5, .int .u64 (wd c 0), .int .u64 (wd c 1), .int .u64 (wd c 2), .int .u64 (wd c 3), .int .i64 nl, .int .i64 nr, .int .i64 mn, .int .i64 mx] 45)
  have hbn := Blk.alloc1 W #[.slice (some ⟨xb, xo, none⟩) xs.length xc] #[.int .i64 5, .int .u64 (wd c 0), .int .u64 (wd c 1), .int .u64 (wd c 2), .int .u64 (wd c 3), .int .i64 nl, .int .i64 nr, .int .i64 mn, .int .i64 mx] 23 45
  have hs2 : ((W.alloc (.cells #[.slice (some ⟨xb, xo, none⟩) xs.length xc] 23)).alloc (.cells #[.int .i64 5, .int .u64 (wd c 0), .int .u64 (wd c 1), .int .u64 (wd c 2), .int .u64 (wd c 3), .int .i64 nl, .int .i64 nr, .int .i64 mn, .int .i64 mx] 45)).heap.size = W.heap.size + 2 := by simp
  obtain ⟨W2, hW2⟩ : ∃ W2, W2 = ((W.alloc (.cells #[.slice (some ⟨xb, xo, none⟩) xs.length xc] 23)).alloc (.cells #[.int .i64 5, .int .u64 (wd c 0), .int .u64 (wd c 1), .int .u64 (wd c 2), .int .u64 (wd c 3), .int .i64 nl, .int .i64 nr, .int .i64 mn, .int .i64 mx] 45)) := ⟨_, rfl⟩
  rw [← hW2] at hb2 hbx hs2 hbn
  have hnl : ((nl.toNat : Nat) : Int) = nl := by omega
  have hnr : ((nr.toNat : Nat) : Int) = nr := by omega
  have HO1 := Lib.hid (fun w (hw : Below W2.heap.size W2 w) => by
    have h := opnd_any xs nl.toNat m1 hm1 [] (by decide) T1 hTs1 hC1 (.slice (some ⟨xb, xo, none⟩) xs.length xc) (.slice none 0 0) W.heap.size w ((HX.out.grows hb2).grows hw) (hbx.grows hw) (.inl ⟨rfl, rfl⟩) (tab_below (tab_below hT hb2 hg) hw (by have := hb2.size; omega)) (by have := hb2.size; have := hw.size; omega)
    rw [hnl] at h
    exact h)
  have HO2 := Lib.hid (fun w (hw : Below W2.heap.size W2 w) B (hkk : KindsAt w B [5]) => by
    have h := opnd_any xs nr.toNat m2 hm2 [5] (by decide) T2 hTs2 hC2 (.slice (some ⟨xb, xo, none⟩) xs.length xc) (.slice (some ⟨B, 0, none⟩) 1 1) W.heap.size w ((HX.out.grows hb2).grows hw) (hbx.grows hw) (.inr ⟨_, _, rfl, hkk⟩) (tab_below (tab_below hT hb2 hg) hw (by have := hb2.size; omega)) (by have := hb2.size; have := hw.size; omega)
    rw [hnr] at h
    exact h)
  have hsz1 := opnd_size [] m1.k T1 hTs1
  have hsz2 := opnd_size [5] m2.k T2 hTs2
  have HB2 := Lib.hid hb2
  have hn5 := hbn.cell 5 rfl
  have hn6 := hbn.cell 6 rfl
  have HS2 := Lib.hid hs2
  clear hT hC1 hC2 hR hi HX hx hbx hbn hb2 hX hs2
  generalize opndT [] m1.k T1 = U at HO1 hsz1 ⊢
  generalize opndT [5] m2.k T2 = V at HO2 hsz2 ⊢
  have hmid : (⟨#[124]⟩ : ByteArray).size = 1 := rfl
  have hcat1 : ∀ w, (Op.stringOp .add U ⟨#[124]⟩).run Tryz.prog w = .ok (.string (U ++ ⟨#[124]⟩)) w := fun w => run_string_add_sum w _ _ (by omega)
  have hcat2 : ∀ w, (Op.stringOp .add (U ++ ⟨#[124]⟩) V).run Tryz.prog w = .ok (.string (U ++ ⟨#[124]⟩ ++ V)) w := fun w => run_string_add_sum w _ _ (by rw [ByteArray.size_append]; omega)
  go_enter Tryz.func34, Tryz.ntmps34
  go_wp2_with fail
  rw [← hW2]
  clear hW2
  have hkb2 : KindsAt (W2.alloc (.cells #[.int .i64 5] 3)) W2.heap.size [5] := kinds_1 W2 5 _
  have hba : Below W2.heap.size W2 W2.drew := (Below.refl _ W2).drew
  have hbb : Below W2.heap.size W2 (W2.alloc (.cells #[.int .i64 5] 3)).drew := ((Below.refl _ W2).alloc (Nat.le_refl _) _).drew
  have HA := Lib.hid (HO1.out _ hba)
  have HB := Lib.hid (HO1.out _ hbb)
  have HD := Lib.hid (And.intro hba hbb)
  have HK := Lib.hid (show KindsAt (W2.alloc (.cells #[.int .i64 5] 3)).drew W2.heap.size [5] from hkb2)
  clear hkb2 hba hbb
  go_region_held3 (fun W' => W'.cell? ⟨W.heap.size + 1, 5, none⟩ = some (.int .i64 nl) ∧ W'.cell? ⟨W.heap.size + 1, 6, none⟩ = some (.int .i64 nr)) (first | exact ⟨hn5, hn6⟩ | exact ⟨cell_al hn5, cell_al hn6⟩ | exact ⟨cell_al (cell_al hn5), cell_al (cell_al hn6)⟩) (first
      | (go_at_call 48; (with_reducible refine HA.out.mono ?_); rintro e wn ⟨rfl, hb4⟩; have hn5 := (hb4.cell (lt_of_cell hn5)).trans hn5; have hn6 := (hb4.cell (lt_of_cell hn6)).trans hn6; have hcur := HD.out.1.trans (hb4.mono HD.out.1.size); clear hb4)
      | (go_at_call 48; (with_reducible refine HB.out.mono ?_); rintro e wn ⟨rfl, hb4⟩; have hn5 := (hb4.cell (lt_of_cell (cell_al hn5))).trans (cell_al hn5); have hn6 := (hb4.cell (lt_of_cell (cell_al hn6))).trans (cell_al hn6); have hk2 := Lib.hid (KindsAt.grows HK.out hb4); have hcur := HD.out.2.trans (hb4.mono HD.out.2.size); clear hb4)
      | (go_at_call 48; (with_reducible refine (HO2.out _ hcur _ hk2.out).mono ?_); rintro e wm ⟨rfl, hb5⟩; have hn5 := (hb5.cell (lt_of_cell hn5)).trans hn5; have hn6 := (hb5.cell (lt_of_cell hn6)).trans hn6; have hcur := hcur.trans (hb5.mono hcur.size); clear hb5)
      | (go_at_call 48; (with_reducible refine (HO2.out _ (hcur.alloc hcur.size _) _ (kinds_1 _ _ _)).mono ?_); rintro e wm ⟨rfl, hb5⟩; have hn5 := (hb5.cell (lt_of_cell (cell_al hn5))).trans (cell_al hn5); have hn6 := (hb5.cell (lt_of_cell (cell_al hn6))).trans (cell_al hn6); have hcur := (hcur.alloc hcur.size _).trans (hb5.mono (hcur.alloc hcur.size _).size); clear hb5)
      | fail)
  all_goals
    go_wp2
    go_ret
    exact ⟨rfl, HB2.out.trans (hcur.mono HB2.out.size)⟩
set_option maxRecDepth 100000 in
set_option maxHeartbeats 2000000 in
theorem text_two6 (xs : List Nd) (hX : OkX xs) (i : Nat) (n : Nd) (hi : xs[i]? = some n) (hk : n.k = 6) (m1 m2 : Nd) (hm1 : xs[n.l.toNat]? = some m1) (hm2 : xs[n.r.toNat]? = some m2) (T1 T2 : ByteArray) (hTs1 : T1.size ≤ 1099511627776) (hTs2 : T2.size ≤ 1099511627776)
    (hC1 : TextC xs n.l.toNat T1) (hC2 : TextC xs n.r.toNat T2) : TextC xs i ((opndT [5] m1.k T1 ++ ⟨#[38]⟩) ++ opndT [5, 6] m2.k T2) := by
  intro v W hx hT hg
  have hop := hX.two hi (by omega)
  have hilt : i < xs.length := (List.getElem?_eq_some_iff.1 hi).1
  have HX := Lib.hid hx
  obtain ⟨xb, xo, xc, rfl, hR⟩ : ∃ blk off cap, v = .slice (some ⟨blk, off, none⟩) xs.length cap ∧ ReadsN W blk off xs := by
    rcases hx with ⟨rfl, _⟩ | h
    · cases hi
    · exact h
  obtain ⟨x0, x1, x2, x3, x4, x5, x6, x7, x8⟩ := hR.nine i n hi
  obtain ⟨k, c, nl, nr, mn, mx⟩ := n
  dsimp only at hk x0 x1 x2 x3 x4 x5 x6 x7 x8 hop hm1 hm2 hC1 hC2
  have hxb := lt_of_cell x0
  dsimp only at hxb
  obtain rfl : k = 6 := hk
  have hb2 : Below W.heap.size W ((W.alloc (.cells #[.slice (some ⟨xb, xo, none⟩) xs.length xc] 23)).alloc (.cells #[.int .i64 6, .int .u64 (wd c 0), .int .u64 (wd c 1), .int .u64 (wd c 2), .int .u64 (wd c 3), .int .i64 nl, .int .i64 nr, .int .i64 mn, .int .i64 mx] 45)) := ((Below.refl _ W).alloc (Nat.le_refl _) _).alloc (by simp) _
  have hbx := (Blk.new W #[.slice (some ⟨xb, xo, none⟩) xs.length xc] 23).alloc (.cells #[.int .i64 6, .int .u64 (wd c 0), .int .u64 (wd c 1), .int .u64 (wd c 2), .int .u64 (wd c 3), .int .i64 nl, .int .i64 nr, .int .i64 mn, .int .i64 mx] 45)
  have hbn := Blk.alloc1 W #[.slice (some ⟨xb, xo, none⟩) xs.length xc] #[.int .i64 6, .int .u64 (wd c 0), .int .u64 (wd c 1), .int .u64 (wd c 2), .int .u64 (wd c 3), .int .i64 nl, .int .i64 nr, .int .i64 mn, .int .i64 mx] 23 45
  have hs2 : ((W.alloc (.cells #[.slice (some ⟨xb, xo, none⟩) xs.length xc] 23)).alloc (.cells #[.int .i64 6, .int .u64 (wd c 0), .int .u64 (wd c 1), .int .u64 (wd c 2), .int .u64 (wd c 3), .int .i64 nl, .int .i64 nr, .int .i64 mn, .int .i64 mx] 45)).heap.size = W.heap.size + 2 := by simp
  obtain ⟨W2, hW2⟩ : ∃ W2, W2 = ((W.alloc (.cells #[.slice (some ⟨xb, xo, none⟩) xs.length xc] 23)).alloc (.cells #[.int .i64 6, .int .u64 (wd c 0), .int .u64 (wd c 1), .int .u64 (wd c 2), .int .u64 (wd c 3), .int .i64 nl, .int .i64 nr, .int .i64 mn, .int .i64 mx] 45)) := ⟨_, rfl⟩
  rw [← hW2] at hb2 hbx hs2 hbn
  have hnl : ((nl.toNat : Nat) : Int) = nl := by omega
  have hnr : ((nr.toNat : Nat) : Int) = nr := by omega
  have HO1 := Lib.hid (fun w (hw : Below W2.heap.size W2 w) B (hkk : KindsAt w B [5]) => by
    have h := opnd_any xs nl.toNat m1 hm1 [5] (by decide) T1 hTs1 hC1 (.slice (some ⟨xb, xo, none⟩) xs.length xc) (.slice (some ⟨B, 0, none⟩) 1 1) W.heap.size w ((HX.out.grows hb2).grows hw) (hbx.grows hw) (.inr ⟨_, _, rfl, hkk⟩) (tab_below (tab_below hT hb2 hg) hw (by have := hb2.size; omega)) (by have := hb2.size; have := hw.size; omega)
    rw [hnl] at h
    exact h)
  have HO2 := Lib.hid (fun w (hw : Below W2.heap.size W2 w) B (hkk : KindsAt w B [5, 6]) => by
    have h := opnd_any xs nr.toNat m2 hm2 [5, 6] (by decide) T2 hTs2 hC2 (.slice (some ⟨xb, xo, none⟩) xs.length xc) (.slice (some ⟨B, 0, none⟩) 2 2) W.heap.size w ((HX.out.grows hb2).grows hw) (hbx.grows hw) (.inr ⟨_, _, rfl, hkk⟩) (tab_below (tab_below hT hb2 hg) hw (by have := hb2.size; omega)) (by have := hb2.size; have := hw.size; omega)
    rw [hnr] at h
    exact h)
  have hsz1 := opnd_size [5] m1.k T1 hTs1
  have hsz2 := opnd_size [5, 6] m2.k T2 hTs2
  have HB2 := Lib.hid hb2
  have hn5 := hbn.cell 5 rfl
  have hn6 := hbn.cell 6 rfl
  have HS2 := Lib.hid hs2
  clear hT hC1 hC2 hR hi HX hx hbx hbn hb2 hX hs2
  generalize opndT [5] m1.k T1 = U at HO1 hsz1 ⊢
  generalize opndT [5, 6] m2.k T2 = V at HO2 hsz2 ⊢
  have hmid : (⟨#[38]⟩ : ByteArray).size = 1 := rfl
  have hcat1 : ∀ w, (Op.stringOp .add U ⟨#[38]⟩).run Tryz.prog w = .ok (.string (U ++ ⟨#[38]⟩)) w := fun w => run_string_add_sum w _ _ (by omega)
  have hcat2 : ∀ w, (Op.stringOp .add (U ++ ⟨#[38]⟩) V).run Tryz.prog w = .ok (.string (U ++ ⟨#[38]⟩ ++ V)) w := fun w => run_string_add_sum w _ _ (by rw [ByteArray.size_append]; omega)
  go_enter Tryz.func34, Tryz.ntmps34
  go_wp2_with fail
  rw [← hW2]
  clear hW2
  have hka : KindsAt (W2.alloc (.cells #[.int .i64 5] 3)) W2.heap.size [5] := kinds_1 W2 5 _
  have hkc : KindsAt ((W2.alloc (.cells #[.int .i64 5, .int .i64 6] 3)).alloc (.cells #[.int .i64 5] 3)) (W2.heap.size + 1) [5] := by
    have h := kinds_1 (W2.alloc (.cells #[.int .i64 5, .int .i64 6] 3)) 5 3
    rwa [show (W2.alloc (.cells #[.int .i64 5, .int .i64 6] 3)).heap.size = W2.heap.size + 1 by simp] at h
  have hkb2 : KindsAt ((W2.alloc (.cells #[.int .i64 5] 3)).alloc (.cells #[.int .i64 5, .int .i64 6] 3)) (W2.heap.size + 1) [5, 6] := by
    have h := kinds_2 (W2.alloc (.cells #[.int .i64 5] 3)) 5 6 3
    rwa [show (W2.alloc (.cells #[.int .i64 5] 3)).heap.size = W2.heap.size + 1 by simp] at h
  have hkc2 : KindsAt ((W2.alloc (.cells #[.int .i64 5, .int .i64 6] 3)).alloc (.cells #[.int .i64 5] 3)) W2.heap.size [5, 6] := (kinds_2 W2 5 6 _).alloc _
  have hba : Below W2.heap.size W2 (W2.alloc (.cells #[.int .i64 5] 3)).drew := ((Below.refl _ W2).alloc (Nat.le_refl _) _).drew
  have hbb : Below W2.heap.size W2 ((W2.alloc (.cells #[.int .i64 5] 3)).alloc (.cells #[.int .i64 5, .int .i64 6] 3)).drew := (((Below.refl _ W2).alloc (Nat.le_refl _) _).alloc (by simp) _).drew
  have hbc : Below W2.heap.size W2 ((W2.alloc (.cells #[.int .i64 5, .int .i64 6] 3)).alloc (.cells #[.int .i64 5] 3)).drew := (((Below.refl _ W2).alloc (Nat.le_refl _) _).alloc (by simp) _).drew
  have HA := Lib.hid (HO1.out _ hba W2.heap.size hka)
  have HB := Lib.hid (HO1.out _ hbb W2.heap.size (hka.alloc _))
  have HC := Lib.hid (HO1.out _ hbc (W2.heap.size + 1) hkc)
  have HD := Lib.hid (And.intro hba (And.intro hbb hbc))
  have HK := Lib.hid (show KindsAt ((W2.alloc (.cells #[.int .i64 5] 3)).alloc (.cells #[.int .i64 5, .int .i64 6] 3)).drew (W2.heap.size + 1) [5, 6] ∧ KindsAt ((W2.alloc (.cells #[.int .i64 5, .int .i64 6] 3)).alloc (.cells #[.int .i64 5] 3)).drew W2.heap.size [5, 6] from And.intro hkb2 hkc2)
  clear hka hkc hkb2 hkc2 hba hbb hbc
  go_region_held3 (fun W' => W'.cell? ⟨W.heap.size + 1, 5, none⟩ = some (.int .i64 nl) ∧ W'.cell? ⟨W.heap.size + 1, 6, none⟩ = some (.int .i64 nr)) (first | exact ⟨hn5, hn6⟩ | exact ⟨cell_al hn5, cell_al hn6⟩ | exact ⟨cell_al (cell_al hn5), cell_al (cell_al hn6)⟩) (first
      | (go_at_call 48; (with_reducible refine HA.out.mono ?_); rintro e wn ⟨rfl, hb4⟩; have hn5 := (hb4.cell (lt_of_cell (cell_al hn5))).trans (cell_al hn5); have hn6 := (hb4.cell (lt_of_cell (cell_al hn6))).trans (cell_al hn6); have hcur := HD.out.1.trans (hb4.mono HD.out.1.size); clear hb4)
      | (go_at_call 48; (with_reducible refine HB.out.mono ?_); rintro e wn ⟨rfl, hb4⟩; have hn5 := (hb4.cell (lt_of_cell (cell_al (cell_al hn5)))).trans (cell_al (cell_al hn5)); have hn6 := (hb4.cell (lt_of_cell (cell_al (cell_al hn6)))).trans (cell_al (cell_al hn6)); have hk2 := Lib.hid (KindsAt.grows HK.out.1 hb4); have hcur := HD.out.2.1.trans (hb4.mono HD.out.2.1.size); clear hb4)
      | (go_at_call 48; (with_reducible refine HC.out.mono ?_); rintro e wn ⟨rfl, hb4⟩; have hn5 := (hb4.cell (lt_of_cell (cell_al (cell_al hn5)))).trans (cell_al (cell_al hn5)); have hn6 := (hb4.cell (lt_of_cell (cell_al (cell_al hn6)))).trans (cell_al (cell_al hn6)); have hk2 := Lib.hid (KindsAt.grows HK.out.2 hb4); have hcur := HD.out.2.2.trans (hb4.mono HD.out.2.2.size); clear hb4)
      | (go_at_call 48; (with_reducible refine (HO2.out _ hcur _ hk2.out).mono ?_); rintro e wm ⟨rfl, hb5⟩; have hn5 := (hb5.cell (lt_of_cell hn5)).trans hn5; have hn6 := (hb5.cell (lt_of_cell hn6)).trans hn6; have hcur := hcur.trans (hb5.mono hcur.size); clear hb5)
      | (go_at_call 48; (with_reducible refine (HO2.out _ (hcur.alloc hcur.size _) _ (kinds_2 _ _ _ _)).mono ?_); rintro e wm ⟨rfl, hb5⟩; have hn5 := (hb5.cell (lt_of_cell (cell_al hn5))).trans (cell_al hn5); have hn6 := (hb5.cell (lt_of_cell (cell_al hn6))).trans (cell_al hn6); have hcur := (hcur.alloc hcur.size _).trans (hb5.mono (hcur.alloc hcur.size _).size); clear hb5)
      | fail)
  all_goals
    go_wp2
    go_ret
    exact ⟨rfl, HB2.out.trans (hcur.mono HB2.out.size)⟩
end Go.Proofs.YtgbbjobmcbdhdaaGreatDoor
