/-
  Texts of the proof, one behind another: Rb.
-/
import Derived.Test.YtgbbjobmcbdhdaaGreatDoorYbj
import Derived.IntWalk
set_option linter.unusedSimpArgs false
set_option linter.unusedVariables false
/-
  Walks: the reference's nodes: a further node, a root over one or two expressions.
-/
namespace Go.Proofs.YtgbbjobmcbdhdaaGreatDoor
open Go.RowKit

/-! ## Slices of nodes -/
theorem IsX.shape {w : World} {v : Value} {l : List Nd} (h : IsX w v l) : ∃ p cap, v = .slice p l.length cap := by
  rcases h with ⟨rfl, p, cap, rfl⟩ | ⟨blk, off, cap, rfl, _⟩
  · exact ⟨p, cap, rfl⟩
  · exact ⟨_, _, rfl⟩
theorem IsX.at {w : World} {p : Option Addr} {n cap : Nat} {l : List Nd} (h : IsX w (.slice p n cap) l) {k : Nat} {x : Nd} (hk : l[k]? = some x) :
    ∃ blk off, p = some ⟨blk, off, none⟩ ∧ w.cell? ⟨blk, off + k * 9, none⟩ = some (.int .i64 x.k) ∧ w.cell? ⟨blk, off + k * 9 + 1, none⟩ = some (.int .u64 (wd x.c 0)) ∧ w.cell? ⟨blk, off + k * 9 + 2, none⟩ = some (.int .u64 (wd x.c 1)) ∧
    w.cell? ⟨blk, off + k * 9 + 3, none⟩ = some (.int .u64 (wd x.c 2)) ∧ w.cell? ⟨blk, off + k * 9 + 4, none⟩ = some (.int .u64 (wd x.c 3)) ∧ w.cell? ⟨blk, off + k * 9 + 5, none⟩ = some (.int .i64 x.l) ∧
    w.cell? ⟨blk, off + k * 9 + 6, none⟩ = some (.int .i64 x.r) ∧ w.cell? ⟨blk, off + k * 9 + 7, none⟩ = some (.int .i64 x.mn) ∧ w.cell? ⟨blk, off + k * 9 + 8, none⟩ = some (.int .i64 x.mx) := by
  rcases h with ⟨rfl, _⟩ | ⟨blk, off, cap, he, hc⟩
  · cases hk
  · simp only [Value.slice.injEq] at he
    exact ⟨blk, off, he.1, hc.nine k x hk⟩
theorem IsX.kept {w w' : World} {v : Value} {l : List Nd} (h : IsX w v l) (hk : ∀ a u, w.cell? a = some u → w'.cell? a = some u) : IsX w' v l := by
  rcases h with h | ⟨blk, off, cap, rfl, h⟩
  · exact .inl h
  · exact .inr ⟨blk, off, cap, rfl, fun j x hj i v hi => hk _ _ (h j x hj i v hi)⟩
theorem encN_len (x : Nd) : (encN x).length = 9 := rfl
theorem flat_lenN (l : List Nd) : (l.flatMap encN).length = l.length * 9 := by
  induction l with
  | nil => rfl
  | cons a l ih => rw [List.flatMap_cons, List.length_append, ih, encN_len, List.length_cons]; omega
theorem flat_getN : ∀ (l : List Nd) (j : Nat) (x : Nd) (i : Nat) (v : Value), l[j]? = some x → (encN x)[i]? = some v → (l.flatMap encN)[j * 9 + i]? = some v
  | [], j, x, i, v, h, _ => by simp at h
  | a :: l, 0, x, i, v, h, hi => by
    obtain rfl : a = x := by simpa using h
    have hlt : i < (encN a).length := (List.getElem?_eq_some_iff.1 hi).1
    rw [List.flatMap_cons, List.getElem?_append_left (by omega)]; simpa using hi
  | a :: l, j + 1, x, i, v, h, hi => by
    have ih := flat_getN l j x i v (by simpa using h) hi
    rw [List.flatMap_cons, List.getElem?_append_right (by rw [encN_len]; omega), encN_len, show (j + 1) * 9 + i - 9 = j * 9 + i by omega]; exact ih
theorem own_isX {w : World} {base : Nat} {e : TypeId} {v : Value} {l : List Nd} (h : w.ownsRow base e 9 v l.length (l.flatMap encN)) : IsX w v l := by
  obtain ⟨hl, ⟨rfl, hn⟩ | ⟨g, cap, cur, rfl, hg, hh, hcap, hm, hsz, htk⟩⟩ := h
  · exact .inl ⟨List.length_eq_zero_iff.1 hn, none, 0, rfl⟩
  · refine .inr ⟨g, 0, cap, rfl, fun j x hj i v hi => ?_⟩
    have hjl : j < l.length := (List.getElem?_eq_some_iff.1 hj).1
    have hi4 : i < 9 := by have := (List.getElem?_eq_some_iff.1 hi).1; rw [encN_len] at this; exact this
    have h2 := flat_getN l j x i v hj hi
    rw [← htk, List.getElem?_take_of_lt (by omega)] at h2
    rw [Nat.zero_add]
    exact Blk.cell (vs := cur) (t := e) ⟨hh⟩ _ (by simpa using h2)
theorem flat_snocN (l : List Nd) (x : Nd) : (l ++ [x]).flatMap encN = l.flatMap encN ++ encN x := by simp
theorem own_emptyN (W : World) (base : Nat) (hb : base ≤ W.heap.size) (t : TypeId) : (W.alloc (.cells #[] t)).ownsRow base t 9 (.slice (some ⟨W.heap.size, 0, none⟩) 0 0) 0 [] :=
  own_of_blk (Blk.new W #[] t) 0 9 rfl (by unfold maxLen; omega) hb

/-! ## With -/
set_option maxRecDepth 100000 in
set_option maxHeartbeats 2000000 in
theorem rwith_any (n : Nd) (v : Value) (xs : List Nd) (W : World) (hv : IsX W v xs) (hl : xs.length ≤ 1099511627776) :
    Calls Tryz.prog 31 #[v, valN n] W fun e W' =>
      (∃ v', e = .returned v' ∧ W'.ownsRow W.heap.size 45 9 v' (xs.length + 1) ((xs ++ [n]).flatMap encN)) ∧ Below W.heap.size W W' := by
  obtain ⟨i0, hi, hz0, hz1, hz2⟩ := info_parts infoN
  obtain ⟨sp, sc, rfl⟩ := hv.shape
  have HV := Lib.hid (fun k x (hk : xs[k]? = some x) => hv.at hk)
  have HT := Lib.hid (fun k x (hk : xs[k]? = some x) => show xs.take (k + 1) = xs.take k ++ [x] by rw [List.take_add_one, hk]; rfl)
  clear hv
  go_enter Tryz.func31, Tryz.ntmps31
  go_wp2
  go_loopw [5, 6] (fun v i wr => ∃ k : Nat, k ≤ xs.length ∧ i = .int .i64 k ∧ wr.ownsRow (W.heap.size + 1) 45 9 v (xs.take k).length ((xs.take k).flatMap encN) ∧ Blk wr W.heap.size #[.int .i64 n.k, .int .u64 (wd n.c 0), .int .u64 (wd n.c 1), .int .u64 (wd n.c 2), .int .u64 (wd n.c 3), .int .i64 n.l, .int .i64 n.r, .int .i64 n.mn, .int .i64 n.mx] 45 ∧ Below W.heap.size W wr) (fun _ i _ => xs.length - (intOf i).toNat)
  case atStart =>
    refine ⟨0, Nat.zero_le _, rfl, ?_, (Blk.new W #[.int .i64 n.k, .int .u64 (wd n.c 0), .int .u64 (wd n.c 1), .int .u64 (wd n.c 2), .int .u64 (wd n.c 3), .int .i64 n.l, .int .i64 n.r, .int .i64 n.mn, .int .i64 n.mx] 45).alloc _, ((Below.refl _ W).alloc (Nat.le_refl _) _).alloc (by simp) _⟩
    have h := own_emptyN (W.alloc (.cells #[.int .i64 n.k, .int .u64 (wd n.c 0), .int .u64 (wd n.c 1), .int .u64 (wd n.c 2), .int .u64 (wd n.c 3), .int .i64 n.l, .int .i64 n.r, .int .i64 n.mn, .int .i64 n.mx] 45)) (W.heap.size + 1) (by simp) 45
    rw [World.size_alloc] at h
    exact h
  case round =>
    obtain ⟨k, hk, rfl, hown, hbk, hbw⟩ := hrel
    have hll : (xs.take k).length = k := by rw [List.length_take]; omega
    by_cases hlt : k < xs.length
    · obtain ⟨x, hx⟩ : ∃ x, xs[k]? = some x := ⟨_, List.getElem?_eq_getElem hlt⟩
      obtain ⟨blk, off, rfl, a0, a1, a2, a3, a4, a5, a6, a7, a8⟩ := HV.out k x hx
      have hlb : blk < W.heap.size := lt_of_cell a0
      have mv : ∀ {o : Nat} {v : Value}, W.cell? ⟨blk, o, none⟩ = some v → wr.cell? ⟨blk, o, none⟩ = some v := fun h => (hbw.cell (p := ⟨blk, _, none⟩) hlb).trans h
      have a0 := mv a0
      have a1 := mv a1
      have a2 := mv a2
      have a3 := mv a3
      have a4 := mv a4
      have a5 := mv a5
      have a6 := mv a6
      have a7 := mv a7
      have a8 := mv a8
      clear mv
      have HK := Lib.hid (HT.out k x hx)
      have HO := Lib.hid hown
      have HB := Lib.hid hbw
      have HBk := Lib.hid hbk
      have HLen := Lib.hid hll
      have hsz := hbw.size
      have hblt := hbk.lt
      clear hx hown hbw hbk hll
      go_wp2_with (at_builtin; refine wpList_append_own _ rfl _ _ 23 rfl (W.heap.size + 1) 45 i0 _ 9 72 Tryz.underlying23 hi hz0 hz1 hz2 rfl (by decide) _ _ _ rfl (own_alloc HO.out _) ⟨wr.heap.size, 0, none⟩ 1 1 (encN x) rfl rfl (cells_new9 _ _ _ _ rfl) (encN_one x) (by unfold maxLen; have := HLen.out; omega) (by have := HLen.out; omega) (by simp; omega) ?_; intro v' w2 hown2 hgrow _)
      go_roundw
      case rel => exact ⟨k + 1, by omega, by go_num, by rw [HK.out]; exact own_cast hown2 (by simp) (by rw [flat_snocN]), (HBk.out.alloc _).grownBy hgrow (fun k2 e2 => by have := own_ge HO.out k2 e2; omega), (HB.out.alloc hsz _).grown hgrow (by simp; omega) (fun k2 e2 => by have := own_ge HO.out k2 e2; omega)⟩
      case measure => simp [intOf]; omega
    · obtain rfl : k = xs.length := by omega
      rw [List.take_length] at hown
      obtain ⟨b0, b1, b2, b3, b4, b5, b6, b7, b8⟩ := hbk.nine
      have HO := Lib.hid hown
      have HB := Lib.hid hbw
      have hsz := hbw.size
      have hblt := hbk.lt
      clear hown hbw hbk hll
      go_wp2_with (at_builtin; refine wpList_append_own _ rfl _ _ 23 rfl (W.heap.size + 1) 45 i0 _ 9 72 Tryz.underlying23 hi hz0 hz1 hz2 rfl (by decide) _ _ _ rfl (own_alloc HO.out _) ⟨wr.heap.size, 0, none⟩ 1 1 (encN n) rfl rfl (cells_new9 _ _ _ _ rfl) (encN_one n) (by unfold maxLen; omega) (by omega) (by simp; omega) ?_; intro v' w2 hown2 hgrow _)
      go_ret
      exact ⟨⟨_, rfl, own_mono (own_cast hown2 (by simp) (by rw [flat_snocN])) (by omega)⟩, (HB.out.alloc hsz _).grown hgrow (by simp; omega) (fun k2 e2 => by have := own_ge HO.out k2 e2; omega)⟩

/-! ## Unary -/
set_option maxRecDepth 100000 in
theorem unary_any (n : Nd) (v : Value) (xs : List Nd) (W : World) (hv : IsX W v xs) (hl : xs.length ≤ 1099511627776) :
    Calls Tryz.prog 29 #[valN n, v] W fun e W' =>
      (∃ v', e = .returned v' ∧ W'.ownsRow W.heap.size 45 9 v' (xs.length + 1) ((xs ++ [{ n with l := (xs.length : Int) - 1 }]).flatMap encN)) ∧ Below W.heap.size W W' := by
  obtain ⟨sp, sc, rfl⟩ := hv.shape
  have hb : Below W.heap.size W (W.alloc (.cells #[.int .i64 n.k, .int .u64 (wd n.c 0), .int .u64 (wd n.c 1), .int .u64 (wd n.c 2), .int .u64 (wd n.c 3), .int .i64 ((xs.length : Int) - 1), .int .i64 n.r, .int .i64 n.mn, .int .i64 n.mx] 45)) := (Below.refl _ W).alloc (Nat.le_refl _) _
  have HW := Lib.hid (rwith_any { n with l := (xs.length : Int) - 1 } _ xs _ (hv.grows hb) hl)
  have HB := Lib.hid hb
  clear hv hb
  go_enter Tryz.func29, Tryz.ntmps29
  go_wp2_with (go_at_call 31; refine HW.out.mono ?_; rintro e W1 ⟨⟨v1, rfl, hown1⟩, hb1⟩; obtain ⟨p1, c1, rfl⟩ := own_shape hown1)
  go_ret
  have hsz := HB.out.size
  exact ⟨⟨_, rfl, own_mono hown1 hsz⟩, HB.out.trans (hb1.mono hsz)⟩
end Go.Proofs.YtgbbjobmcbdhdaaGreatDoor
