/-
  Texts of the proof, one behind another: Fi, Fj.
-/
import Derived.Test.YtgbkjgfiofncdaaGreatDoorYde
import Derived.Test.YtgbkjgfiofncdaaGreatDoorYbd
import Derived.Test.YtgbkjgfiofncdaaGreatDoorShb
import Derived.Test.YtgbkjgfiofncdaaGreatDoorYbj
import Derived.Test.YtgbkjgfiofncdaaGreatDoorYch
import Derived.Deep.RegionHeld3
set_option linter.unusedSimpArgs false
set_option linter.unusedVariables false
/-
  Walks: canonical texts: an operand, with or without parentheses; nodes of one operand.
-/
namespace Go.Proofs.YtgbkjgfiofncdaaGreatDoor
open Go.RowKit Go.Shelf Go.Lib

/-- the text of node i is T. -/
def TextC (xs : List Nd) (i : Nat) (T : ByteArray) : Prop := ∀ (v : Value) (W : World), IsX W v xs → TabAt 0 Lib.deBruijn64tab W → 0 < W.heap.size →
  Calls Tryz.prog 34 #[v, .int .i64 (i : Int)] W fun e W' => e = .returned (.string T) ∧ Below W.heap.size W W'
def opndT (ks : List Int) (k : Int) (T : ByteArray) : ByteArray := if ks.contains k then ⟨#[40]⟩ ++ T ++ ⟨#[41]⟩ else T
theorem text_cls (xs : List Nd) (i : Nat) (n : Nd) (hi : xs[i]? = some n) (hk : n.k = 3) (T : ByteArray)
    (hC : ∀ W : World, TabAt 0 Lib.deBruijn64tab W → 0 < W.heap.size → Calls Tryz.prog 50 #[.agg #[.int .u64 (wd n.c 0), .int .u64 (wd n.c 1), .int .u64 (wd n.c 2), .int .u64 (wd n.c 3)]] W fun e W' => e = .returned (.string T) ∧ Below W.heap.size W W') : TextC xs i T := by
  intro v W hx hT hg
  have hilt : i < xs.length := (List.getElem?_eq_some_iff.1 hi).1
  obtain ⟨xb, xo, xc, rfl, hR⟩ : ∃ blk off cap, v = .slice (some ⟨blk, off, none⟩) xs.length cap ∧ ReadsN W blk off xs := by
    rcases hx with ⟨rfl, _⟩ | h
    · cases hi
    · exact h
  obtain ⟨x0, x1, x2, x3, x4, x5, x6, x7, x8⟩ := hR.nine i n hi
  obtain ⟨k, c, nl, nr, mn, mx⟩ := n
  dsimp only at hk x0 x1 x2 x3 x4 x5 x6 x7 x8 hC
  obtain rfl : k = 3 := hk
  have hxb := lt_of_cell x0
  dsimp only at hxb
  have HT := Lib.hid hT
  have HC := Lib.hid hC
  clear hT hC hR hi
  go_enter Tryz.func34, Tryz.ntmps34
  go_wp2_with fail
  have hb2 : Below W.heap.size W ((W.alloc (.cells #[.slice (some ⟨xb, xo, none⟩) xs.length xc] 23)).alloc (.cells #[.int .i64 3, .int .u64 (wd c 0), .int .u64 (wd c 1), .int .u64 (wd c 2), .int .u64 (wd c 3), .int .i64 nl, .int .i64 nr, .int .i64 mn, .int .i64 mx] 45)) := ((Below.refl _ W).alloc (Nat.le_refl _) _).alloc (by simp) _
  have HC2 := Lib.hid (HC.out _ (tab_below HT.out hb2 hg) (by have := hb2.size; omega))
  have HB2 := Lib.hid hb2
  clear hb2
  go_wp2_with (go_at_call 50; refine HC2.out.mono ?_; rintro e W3 ⟨rfl, hb3⟩)
  go_ret
  exact ⟨rfl, HB2.out.trans (hb3.mono HB2.out.size)⟩
theorem not1 : (⟨#[40]⟩ : ByteArray).size = 1 := rfl
theorem not2 : (⟨#[41]⟩ : ByteArray).size = 1 := rfl
theorem contains_at (ks : List Int) (x : Int) (kv : Value) (W : World) (hl : ks.length ≤ 10) (hk : (ks = [] ∧ kv = .slice none 0 0) ∨ ∃ B c, kv = .slice (some ⟨B, 0, none⟩) ks.length c ∧ ∀ j, j < ks.length → W.cell? ⟨B, 0 + j, none⟩ = some (.int .i64 (ks.getD j 0))) :
    Calls Tryz.prog 49 #[kv, .int .i64 x] W fun e w' => e = .returned (.bool (ks.contains x)) ∧ w' = W := by
  rcases hk with ⟨rfl, rfl⟩ | ⟨B, c, rfl, hc⟩
  · exact Any.slices_Contains_int_empty Tryz.lays107 none 0 x W
  · have h := Any.slices_Contains_int Tryz.lays107 B 0 ks.length c ks x W (Nat.le_refl _) (by omega) hc
    rw [List.take_length] at h
    exact h
set_option maxRecDepth 100000 in
set_option maxHeartbeats 1000000 in
theorem opnd_any (xs : List Nd) (j : Nat) (m : Nd) (hj : xs[j]? = some m) (ks : List Int) (hkl : ks.length ≤ 10) (T : ByteArray) (hTs : T.size ≤ 1099511627776) (hC : TextC xs j T) (v kv : Value) (bx : Nat) (W : World) (hx : IsX W v xs) (hbx : Blk W bx #[v] 23)
    (hk : (ks = [] ∧ kv = .slice none 0 0) ∨ ∃ B c, kv = .slice (some ⟨B, 0, none⟩) ks.length c ∧ ∀ j, j < ks.length → W.cell? ⟨B, 0 + j, none⟩ = some (.int .i64 (ks.getD j 0)))
    (hT : TabAt 0 Lib.deBruijn64tab W) (hg : 0 < W.heap.size) :
    Calls Tryz.prog 48 #[.int .i64 (j : Int), kv, .pointer (some ⟨bx, 0, none⟩)] W fun e W' => e = .returned (.string (opndT ks m.k T)) ∧ Below W.heap.size W W' := by
  have hilt : j < xs.length := (List.getElem?_eq_some_iff.1 hj).1
  have HX := Lib.hid hx
  obtain ⟨xb, xo, xc, rfl, hR⟩ : ∃ blk off cap, v = .slice (some ⟨blk, off, none⟩) xs.length cap ∧ ReadsN W blk off xs := by
    rcases hx with ⟨rfl, _⟩ | h
    · cases hj
    · exact h
  have x0 := hR j m hj 0 _ rfl
  rw [Nat.add_zero] at x0
  have b0 := hbx.cell 0 rfl
  obtain ⟨k, c, nl, nr, mn, mx⟩ := m
  dsimp only at x0
  have HCt := Lib.hid (contains_at ks k kv W hkl hk)
  have HC := Lib.hid (hC _ W HX.out hT hg)
  obtain ⟨kp, kc, rfl⟩ : ∃ p c, kv = .slice p ks.length c := by
    rcases hk with ⟨rfl, rfl⟩ | ⟨B, c, rfl, _⟩
    · exact ⟨_, _, rfl⟩
    · exact ⟨_, _, rfl⟩
  clear hR hbx hk hT hC hj HX
  unfold opndT
  cases hc : ks.contains k with
  | true =>
    rw [hc] at HCt
    go_enter Tryz.func48, Tryz.ntmps48
    go_wp2_with (first | (go_at_call 49; refine HCt.out.mono ?_; rintro e W3 ⟨rfl, rfl⟩) | (go_at_call 34; refine HC.out.mono ?_; rintro e W3 ⟨rfl, hb3⟩))
    all_goals first
      | (rename_i hbig; exfalso; revert hbig; simp only [ByteArray.size_append, not1, not2, gt_iff_lt, Nat.not_lt]; omega)
      | (go_ret; exact ⟨rfl, hb3⟩)
  | false =>
    rw [hc] at HCt
    go_enter Tryz.func48, Tryz.ntmps48
    go_wp2_with (first | (go_at_call 49; refine HCt.out.mono ?_; rintro e W3 ⟨rfl, rfl⟩) | (go_at_call 34; refine HC.out.mono ?_; rintro e W3 ⟨rfl, hb3⟩))
    go_ret
    exact ⟨rfl, hb3⟩
theorem kinds3 (W : World) (a b c : Int) (t : TypeId) : ∀ j, j < [a, b, c].length → (W.alloc (.cells #[.int .i64 a, .int .i64 b, .int .i64 c] t)).cell? ⟨W.heap.size, 0 + j, none⟩ = some (.int .i64 ([a, b, c].getD j 0)) := by
  intro j hj
  have hb := Blk.new W #[.int .i64 a, .int .i64 b, .int .i64 c] t
  rw [Nat.zero_add]
  rcases j with _ | _ | _ | j
  · exact hb.cell 0 rfl
  · exact hb.cell 1 rfl
  · exact hb.cell 2 rfl
  · simp only [List.length_cons, List.length_nil] at hj; omega
theorem kinds4 (W : World) (a b c d : Int) (t : TypeId) : ∀ j, j < [a, b, c, d].length → (W.alloc (.cells #[.int .i64 a, .int .i64 b, .int .i64 c, .int .i64 d] t)).cell? ⟨W.heap.size, 0 + j, none⟩ = some (.int .i64 ([a, b, c, d].getD j 0)) := by
  intro j hj
  have hb := Blk.new W #[.int .i64 a, .int .i64 b, .int .i64 c, .int .i64 d] t
  rw [Nat.zero_add]
  rcases j with _ | _ | _ | _ | j
  · exact hb.cell 0 rfl
  · exact hb.cell 1 rfl
  · exact hb.cell 2 rfl
  · exact hb.cell 3 rfl
  · simp only [List.length_cons, List.length_nil] at hj; omega
theorem opnd_size (ks : List Int) (k : Int) (T : ByteArray) (hT : T.size ≤ 1099511627776) : (opndT ks k T).size ≤ 1099511627778 := by
  unfold opndT
  split
  · simp only [ByteArray.size_append, not1, not2]; omega
  · omega
set_option maxRecDepth 100000 in
set_option maxHeartbeats 1000000 in
theorem text_not (xs : List Nd) (hX : OkX xs) (i : Nat) (n : Nd) (hi : xs[i]? = some n) (hk : n.k = 7) (m : Nd) (hm : xs[n.l.toNat]? = some m) (T : ByteArray) (hTs : T.size ≤ 1099511627776) (hC : TextC xs n.l.toNat T) :
    TextC xs i (⟨#[126]⟩ ++ opndT [4, 5, 6] m.k T) := by
  intro v W hx hT hg
  have hilt : i < xs.length := (List.getElem?_eq_some_iff.1 hi).1
  have HX := Lib.hid hx
  obtain ⟨xb, xo, xc, rfl, hR⟩ : ∃ blk off cap, v = .slice (some ⟨blk, off, none⟩) xs.length cap ∧ ReadsN W blk off xs := by
    rcases hx with ⟨rfl, _⟩ | h
    · cases hi
    · exact h
  obtain ⟨x0, x1, x2, x3, x4, x5, x6, x7, x8⟩ := hR.nine i n hi
  have hop := hX.one hi (.inl hk)
  obtain ⟨k, c, nl, nr, mn, mx⟩ := n
  dsimp only at hk x0 x1 x2 x3 x4 x5 x6 x7 x8 hC hop hm
  obtain rfl : k = 7 := hk
  have hxb := lt_of_cell x0
  dsimp only at hxb
  have hb2 : Below W.heap.size W ((W.alloc (.cells #[.slice (some ⟨xb, xo, none⟩) xs.length xc] 23)).alloc (.cells #[.int .i64 7, .int .u64 (wd c 0), .int .u64 (wd c 1), .int .u64 (wd c 2), .int .u64 (wd c 3), .int .i64 nl, .int .i64 nr, .int .i64 mn, .int .i64 mx] 45)) := ((Below.refl _ W).alloc (Nat.le_refl _) _).alloc (by simp) _
  have hbx := (Blk.new W #[.slice (some ⟨xb, xo, none⟩) xs.length xc] 23).alloc (.cells #[.int .i64 7, .int .u64 (wd c 0), .int .u64 (wd c 1), .int .u64 (wd c 2), .int .u64 (wd c 3), .int .i64 nl, .int .i64 nr, .int .i64 mn, .int .i64 mx] 45)
  have hs2 : ((W.alloc (.cells #[.slice (some ⟨xb, xo, none⟩) xs.length xc] 23)).alloc (.cells #[.int .i64 7, .int .u64 (wd c 0), .int .u64 (wd c 1), .int .u64 (wd c 2), .int .u64 (wd c 3), .int .i64 nl, .int .i64 nr, .int .i64 mn, .int .i64 mx] 45)).heap.size = W.heap.size + 2 := by simp
  obtain ⟨W2, hW2⟩ : ∃ W2, W2 = ((W.alloc (.cells #[.slice (some ⟨xb, xo, none⟩) xs.length xc] 23)).alloc (.cells #[.int .i64 7, .int .u64 (wd c 0), .int .u64 (wd c 1), .int .u64 (wd c 2), .int .u64 (wd c 3), .int .i64 nl, .int .i64 nr, .int .i64 mn, .int .i64 mx] 45)) := ⟨_, rfl⟩
  rw [← hW2] at hb2 hbx hs2
  have hb3 : Below W2.heap.size W2 (W2.alloc (.cells #[.int .i64 4, .int .i64 5, .int .i64 6] 3)) := (Below.refl _ _).alloc (Nat.le_refl _) _
  have hnl : ((nl.toNat : Nat) : Int) = nl := by omega
  have hO := opnd_any xs nl.toNat m hm [4, 5, 6] (by decide) T hTs hC (.slice (some ⟨xb, xo, none⟩) xs.length xc) (.slice (some ⟨W2.heap.size, 0, none⟩) 3 3) W.heap.size (W2.alloc (.cells #[.int .i64 4, .int .i64 5, .int .i64 6] 3))
    ((HX.out.grows hb2).grows hb3) (hbx.alloc _) (.inr ⟨_, _, rfl, kinds3 W2 4 5 6 _⟩) (tab_below (tab_below hT hb2 hg) hb3 (by have := hb2.size; omega)) (by have := hb2.size; have := hb3.size; omega)
  rw [hnl, show W2.heap.size = W.heap.size + 1 + 1 by omega] at hO
  have hsz := opnd_size [4, 5, 6] m.k T hTs
  have HO := Lib.hid hO
  have HB2 := Lib.hid hb2
  have HB3 := Lib.hid hb3
  clear hT hC hR hi HX hbx hb2 hb3 hO hX
  generalize opndT [4, 5, 6] m.k T = U at HO hsz ⊢
  go_enter Tryz.func34, Tryz.ntmps34
  go_wp2_with fail
  rw [← hW2]
  refine HO.out.mono ?_
  rintro e W4 ⟨rfl, hb4⟩
  have Hb4 := Lib.hid (HB2.out.trans ((HB3.out.mono HB2.out.size).trans (hb4.mono (by have := HB2.out.size; have := HB3.out.size; omega))))
  clear hb4 hW2
  go_wp2
  go_ret
  exact ⟨rfl, Hb4.out⟩
set_option maxRecDepth 100000 in
set_option maxHeartbeats 1000000 in
theorem text_rep (xs : List Nd) (hX : OkX xs) (i : Nat) (n : Nd) (hi : xs[i]? = some n) (hk : n.k = 8) (R : ByteArray) (hRs : R.size ≤ 1099511627776) (hRc : ∀ w, Calls Tryz.prog 51 #[.int .i64 n.mn, .int .i64 n.mx] w fun e W' => e = .returned (.string R) ∧ W' = w) (m : Nd) (hm : xs[n.l.toNat]? = some m) (T : ByteArray) (hTs : T.size ≤ 1099511627776) (hC : TextC xs n.l.toNat T) :
    TextC xs i (opndT [4, 5, 6, 7] m.k T ++ R) := by
  intro v W hx hT hg
  have hilt : i < xs.length := (List.getElem?_eq_some_iff.1 hi).1
  have HX := Lib.hid hx
  obtain ⟨xb, xo, xc, rfl, hR⟩ : ∃ blk off cap, v = .slice (some ⟨blk, off, none⟩) xs.length cap ∧ ReadsN W blk off xs := by
    rcases hx with ⟨rfl, _⟩ | h
    · cases hi
    · exact h
  obtain ⟨x0, x1, x2, x3, x4, x5, x6, x7, x8⟩ := hR.nine i n hi
  have hop := hX.one hi (.inr hk)
  obtain ⟨k, c, nl, nr, mn, mx⟩ := n
  dsimp only at hk x0 x1 x2 x3 x4 x5 x6 x7 x8 hC hop hm hRc
  obtain rfl : k = 8 := hk
  have hxb := lt_of_cell x0
  dsimp only at hxb
  have hb2 : Below W.heap.size W ((W.alloc (.cells #[.slice (some ⟨xb, xo, none⟩) xs.length xc] 23)).alloc (.cells #[.int .i64 8, .int .u64 (wd c 0), .int .u64 (wd c 1), .int .u64 (wd c 2), .int .u64 (wd c 3), .int .i64 nl, .int .i64 nr, .int .i64 mn, .int .i64 mx] 45)) := ((Below.refl _ W).alloc (Nat.le_refl _) _).alloc (by simp) _
  have hbx := (Blk.new W #[.slice (some ⟨xb, xo, none⟩) xs.length xc] 23).alloc (.cells #[.int .i64 8, .int .u64 (wd c 0), .int .u64 (wd c 1), .int .u64 (wd c 2), .int .u64 (wd c 3), .int .i64 nl, .int .i64 nr, .int .i64 mn, .int .i64 mx] 45)
  have hs2 : ((W.alloc (.cells #[.slice (some ⟨xb, xo, none⟩) xs.length xc] 23)).alloc (.cells #[.int .i64 8, .int .u64 (wd c 0), .int .u64 (wd c 1), .int .u64 (wd c 2), .int .u64 (wd c 3), .int .i64 nl, .int .i64 nr, .int .i64 mn, .int .i64 mx] 45)).heap.size = W.heap.size + 2 := by simp
  obtain ⟨W2, hW2⟩ : ∃ W2, W2 = ((W.alloc (.cells #[.slice (some ⟨xb, xo, none⟩) xs.length xc] 23)).alloc (.cells #[.int .i64 8, .int .u64 (wd c 0), .int .u64 (wd c 1), .int .u64 (wd c 2), .int .u64 (wd c 3), .int .i64 nl, .int .i64 nr, .int .i64 mn, .int .i64 mx] 45)) := ⟨_, rfl⟩
  rw [← hW2] at hb2 hbx hs2
  have hbn := Blk.alloc1 W #[.slice (some ⟨xb, xo, none⟩) xs.length xc] #[.int .i64 8, .int .u64 (wd c 0), .int .u64 (wd c 1), .int .u64 (wd c 2), .int .u64 (wd c 3), .int .i64 nl, .int .i64 nr, .int .i64 mn, .int .i64 mx] 23 45
  rw [← hW2] at hbn
  have hb3 : Below W2.heap.size W2 (W2.alloc (.cells #[.int .i64 4, .int .i64 5, .int .i64 6, .int .i64 7] 3)).drew := ((Below.refl _ _).alloc (Nat.le_refl _) _).trans ((below_dr _).mono (by simp))
  have hnl : ((nl.toNat : Nat) : Int) = nl := by omega
  have hO := opnd_any xs nl.toNat m hm [4, 5, 6, 7] (by decide) T hTs hC (.slice (some ⟨xb, xo, none⟩) xs.length xc) (.slice (some ⟨W2.heap.size, 0, none⟩) 4 4) W.heap.size (W2.alloc (.cells #[.int .i64 4, .int .i64 5, .int .i64 6, .int .i64 7] 3)).drew
    ((HX.out.grows hb2).grows hb3) (hbx.alloc _).drew (.inr ⟨_, _, rfl, kinds4 W2 4 5 6 7 _⟩) (tab_below (tab_below hT hb2 hg) hb3 (by have := hb2.size; omega)) (by have := hb2.size; have := hb3.size; omega)
  rw [hnl, show W2.heap.size = W.heap.size + 2 by omega] at hO
  have hsz := opnd_size [4, 5, 6, 7] m.k T hTs
  have HO := Lib.hid hO
  have HB2 := Lib.hid hb2
  have HB3 := Lib.hid hb3
  clear hT hC hR hi HX hbx hb2 hb3 hO hX
  generalize opndT [4, 5, 6, 7] m.k T = U at HO hsz ⊢
  have hn5 := hbn.cell 5 rfl
  have hn7 := hbn.cell 7 rfl
  have hn8 := hbn.cell 8 rfl
  have HR := Lib.hid hRc
  clear hRc hbn
  have hcat : ∀ w, (Op.stringOp .add U R).run Tryz.prog w = .ok (.string (U ++ R)) w := fun w => by simp only [run_string_add_if]; rw [if_neg (by omega)]
  go_enter Tryz.func34, Tryz.ntmps34
  go_wp2_with fail
  rw [← hW2]
  clear hW2
  go_region_held3 (fun W' => W'.cell? ⟨W.heap.size + 1, 5, none⟩ = some (.int .i64 nl) ∧ W'.cell? ⟨W.heap.size + 1, 7, none⟩ = some (.int .i64 mn) ∧ W'.cell? ⟨W.heap.size + 1, 8, none⟩ = some (.int .i64 mx)) (first | exact ⟨hn5, hn7, hn8⟩ | exact ⟨cell_al hn5, cell_al hn7, cell_al hn8⟩) (first
      | (go_at_call 51; refine (HR.out _).mono ?_; rintro e wn ⟨rfl, rfl⟩)
      | (go_at_call 48; refine HO.out.mono ?_; rintro e wn ⟨rfl, hb4⟩; have Hb4 := Lib.hid (HB2.out.trans ((HB3.out.mono HB2.out.size).trans (hb4.mono (by have := HB2.out.size; have := HB3.out.size; omega)))); have hn5 := (hb4.cell (lt_of_cell (cell_al hn5))).trans (cell_al hn5); have hn7 := (hb4.cell (lt_of_cell (cell_al hn7))).trans (cell_al hn7); have hn8 := (hb4.cell (lt_of_cell (cell_al hn8))).trans (cell_al hn8)))
  all_goals
    go_wp2
    go_ret
    exact ⟨rfl, Hb4.out⟩
end Go.Proofs.YtgbkjgfiofncdaaGreatDoor

/-
  Walks: Format, where the text is known; Format of what is not valid; the examples' texts.
-/
namespace Go.Proofs.YtgbkjgfiofncdaaGreatDoor
open Go.RowKit Go.Shelf Go.Lib

set_option maxRecDepth 100000 in
set_option maxHeartbeats 1000000 in
theorem format_bad (v : Value) (xs : List Nd) (W : World) (hv : IsX W v xs) (hm : xs.length ≤ maxLen) (h0 : validE xs ≠ 0) :
    Calls Tryz.prog 15 #[v] W fun e W' => e = .returned (.tuple #[.string ⟨#[]⟩, .int .i64 (validE xs)]) ∧ Below W.heap.size W W' := by
  have HV := Lib.hid (valid_any v xs W hv hm)
  have hv0 : (validE xs != 0) = true := by simp [h0]
  obtain ⟨p, c, rfl⟩ := hv.shape
  clear hv
  go_enter Tryz.func15, Tryz.ntmps15
  go_wp2_with (go_at_call 17; refine HV.out.mono ?_; rintro e W1 ⟨rfl, hb1⟩)
  go_returns
  exact ⟨rfl, hb1⟩
set_option maxRecDepth 100000 in
set_option maxHeartbeats 1000000 in
theorem format_ok (v : Value) (xs : List Nd) (W : World) (hv : IsX W v xs) (h0 : validE xs = 0) (T : ByteArray) (hTs : T.size ≤ 4000) (hC : TextC xs (xs.length - 1) T)
    (hT : TabAt 0 Lib.deBruijn64tab W) (hg : 0 < W.heap.size) :
    Calls Tryz.prog 15 #[v] W fun e W' => e = .returned (.tuple #[.string T, .int .i64 0]) ∧ Below W.heap.size W W' := by
  have hlx := (okX_of h0).len
  have hne : xs.length ≠ 0 := by
    intro h
    unfold validE at h0
    rw [if_neg (by omega), if_pos h] at h0
    cases h0
  have HV := Lib.hid (valid_any v xs W hv (by unfold maxLen; omega))
  rw [h0] at HV
  have hwl : IntKind.i64.wrap ((xs.length : Int) - 1) = ((xs.length - 1 : Nat) : Int) := by rw [IntWalk.i64_in _ (by omega)]; omega
  have tb : decide ((4000 : Int) < (T.size : Int)) = false := by simp; omega
  have HC := Lib.hid (fun w (hb : Below W.heap.size W w) => hC v w (hv.grows hb) (tab_below hT hb hg) (by have := hb.size; omega))
  obtain ⟨p, c, rfl⟩ := hv.shape
  clear hv hT hC
  go_enter Tryz.func15, Tryz.ntmps15
  go_wp2_with (first | (go_at_call 17; refine HV.out.mono ?_; rintro e W1 ⟨rfl, hb1⟩) | (go_at_call 34; refine (HC.out _ hb1).mono ?_; rintro e W2 ⟨rfl, hb2⟩))
  go_returns
  exact ⟨rfl, hb1.trans (hb2.mono hb1.size)⟩
def exForm : List Nd := [nCls 45, ⟨7, 0, 0, 0, 0, 0⟩, ⟨8, 0, 1, 0, 0, -1⟩]
def exEmpty : List Nd := [⟨3, 0, 0, 0, 0, 0⟩]
theorem exForm_ok : validE exForm = 0 := by kernel_rfl
theorem exEmpty_ok : validE exEmpty = 0 := by kernel_rfl
theorem mems_dash : mems (bit 45) 256 = [45] := by kernel_rfl
theorem mems_none : mems 0 256 = [] := by kernel_rfl
theorem form_text : TextC exForm 2 ⟨#[40, 126, 92, 120, 50, 100, 41, 42]⟩ := by
  have hX := okX_of exForm_ok
  have h0 : TextC exForm 0 ⟨#[92, 120, 50, 100]⟩ := text_cls exForm 0 (nCls 45) rfl rfl _ fun W hT hg => class_one _ 45 _ mems_dash char_dash W hT hg
  have h1 : TextC exForm 1 (⟨#[126]⟩ ++ opndT [4, 5, 6] 3 ⟨#[92, 120, 50, 100]⟩) := text_not exForm hX 1 ⟨7, 0, 0, 0, 0, 0⟩ rfl rfl (nCls 45) rfl _ (by decide) h0
  have h2 : TextC exForm 2 (opndT [4, 5, 6, 7] 7 (⟨#[126]⟩ ++ opndT [4, 5, 6] 3 ⟨#[92, 120, 50, 100]⟩) ++ ⟨#[42]⟩) := text_rep exForm hX 2 ⟨8, 0, 1, 0, 0, -1⟩ rfl rfl ⟨#[42]⟩ (by decide) rep_star ⟨7, 0, 0, 0, 0, 0⟩ rfl _ (by decide +kernel) h1
  exact (show opndT [4, 5, 6, 7] 7 (⟨#[126]⟩ ++ opndT [4, 5, 6] 3 ⟨#[92, 120, 50, 100]⟩) ++ ⟨#[42]⟩ = (⟨#[40, 126, 92, 120, 50, 100, 41, 42]⟩ : ByteArray) by kernel_rfl) ▸ h2
theorem empty_text : TextC exEmpty 0 ⟨#[91, 93]⟩ := text_cls exEmpty 0 ⟨3, 0, 0, 0, 0, 0⟩ rfl rfl _ fun W hT hg => class_none _ mems_none W hT hg
end Go.Proofs.YtgbkjgfiofncdaaGreatDoor
