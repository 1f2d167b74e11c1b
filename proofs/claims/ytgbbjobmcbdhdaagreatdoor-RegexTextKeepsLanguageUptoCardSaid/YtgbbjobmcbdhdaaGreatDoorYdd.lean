/-
  Texts of the proof, one behind another: Wp.
-/
import Derived.Test.YtgbbjobmcbdhdaaGreatDoorYcj
set_option linter.unusedSimpArgs false
set_option linter.unusedVariables false
/-
  Walks: the reference's rows of expressions: a row cut and continued.
-/
namespace Go.Proofs.YtgbbjobmcbdhdaaGreatDoor
open Go.RowKit

/-- the slice's elements, one cell each. -/
def Cells1 (W : World) (v : Value) (es : List Value) : Prop :=
  (es = [] ∧ ∃ p cap, v = .slice p 0 cap) ∨ ∃ blk off cap, v = .slice (some ⟨blk, off, none⟩) es.length cap ∧ ∀ j e, es[j]? = some e → W.cell? ⟨blk, off + j, none⟩ = some e
theorem Cells1.shape {w : World} {v : Value} {l : List Value} (h : Cells1 w v l) : ∃ p cap, v = .slice p l.length cap := by
  rcases h with ⟨rfl, p, cap, rfl⟩ | ⟨blk, off, cap, rfl, _⟩
  · exact ⟨p, cap, rfl⟩
  · exact ⟨_, _, rfl⟩
theorem Cells1.at {w : World} {p : Option Addr} {n cap : Nat} {l : List Value} (h : Cells1 w (.slice p n cap) l) {k : Nat} {y : Value} (hk : l[k]? = some y) : ∃ blk off, p = some ⟨blk, off, none⟩ ∧ w.cell? ⟨blk, off + k, none⟩ = some y := by
  rcases h with ⟨rfl, _⟩ | ⟨blk, off, cap, he, hc⟩
  · cases hk
  · simp only [Value.slice.injEq] at he
    exact ⟨blk, off, he.1, hc k y hk⟩
theorem Cells1.grows {w w' : World} {v : Value} {l : List Value} (h : Cells1 w v l) (hb : Below w.heap.size w w') : Cells1 w' v l := by
  rcases h with h | ⟨blk, off, cap, rfl, h⟩
  · exact .inl h
  · exact .inr ⟨blk, off, cap, rfl, fun k y hk => (hb.cell (lt_of_cell (h k y hk))).trans (h k y hk)⟩
theorem own_cells1 {w : World} {base : Nat} {e : TypeId} {v : Value} {l : List Value} (h : w.ownsRow base e 1 v l.length l) : Cells1 w v l := by
  obtain ⟨hl, ⟨rfl, hn⟩ | ⟨g, cap, cur, rfl, hg, hh, hcap, hm, hsz, htk⟩⟩ := h
  · exact .inl ⟨List.length_eq_zero_iff.1 hn, none, 0, rfl⟩
  · refine .inr ⟨g, 0, cap, rfl, fun j x hj => ?_⟩
    have hjl : j < l.length := (List.getElem?_eq_some_iff.1 hj).1
    have h2 := hj
    rw [← htk, List.getElem?_take_of_lt (by omega)] at h2
    rw [Nat.zero_add]
    exact Blk.cell (vs := cur) (t := e) ⟨hh⟩ _ (by simpa using h2)
/-- a slice's length is within its capacity. -/
def CapOk : Value → Prop
  | .slice _ n c => n ≤ c
  | _ => True
/-- these values are these expressions. -/
structure AllX (W : World) (es : List Value) (ls : List (List Nd)) : Prop where
  len : es.length = ls.length
  cap : ∀ e ∈ es, CapOk e
  is : ∀ (j : Nat) e l, es[j]? = some e → ls[j]? = some l → IsX W e l
theorem AllX.grows {w w' : World} {es : List Value} {ls : List (List Nd)} (h : AllX w es ls) (hb : Below w.heap.size w w') : AllX w' es ls := ⟨h.len, h.cap, fun j e l h1 h2 => (h.is j e l h1 h2).grows hb⟩
theorem AllX.take {w : World} {es : List Value} {ls : List (List Nd)} (h : AllX w es ls) (n : Nat) : AllX w (es.take n) (ls.take n) :=
  ⟨by rw [List.length_take, List.length_take, h.len], fun e he => h.cap e (List.mem_of_mem_take he), fun j e l h1 h2 => by
    have hj : j < n := by have := (List.getElem?_eq_some_iff.1 h1).1; rw [List.length_take] at this; omega
    rw [List.getElem?_take_of_lt hj] at h1 h2
    exact h.is j e l h1 h2⟩
theorem AllX.snoc {w : World} {es : List Value} {ls : List (List Nd)} (h : AllX w es ls) {e : Value} {l : List Nd} (hx : IsX w e l) (hc : CapOk e) : AllX w (es ++ [e]) (ls ++ [l]) := by
  refine ⟨by simp [h.len], fun e' he => ?_, fun j e' l' h1 h2 => ?_⟩
  · rcases List.mem_append.1 he with he | he
    · exact h.cap e' he
    · simp only [List.mem_singleton] at he; subst he; exact hc
  rcases Nat.lt_or_ge j es.length with hlt | hge
  · rw [List.getElem?_append_left hlt] at h1
    rw [List.getElem?_append_left (by rw [← h.len]; exact hlt)] at h2
    exact h.is j e' l' h1 h2
  · rw [List.getElem?_append_right hge] at h1
    rw [List.getElem?_append_right (by rw [← h.len]; exact hge)] at h2
    have h3 := (List.getElem?_eq_some_iff.1 h1).1
    simp only [List.length_singleton] at h3
    rw [show j - es.length = 0 by omega] at h1
    rw [show j - ls.length = 0 by have := h.len; omega] at h2
    simp only [List.getElem?_cons_zero, Option.some.injEq] at h1 h2
    subst h1 h2
    exact hx
/-- a row of expressions. -/
def IsXs (W : World) (v : Value) (ls : List (List Nd)) : Prop := ∃ es, Cells1 W v es ∧ AllX W es ls
theorem IsXs.grows {w w' : World} {v : Value} {ls : List (List Nd)} (h : IsXs w v ls) (hb : Below w.heap.size w w') : IsXs w' v ls := by
  obtain ⟨es, h1, h2⟩ := h
  exact ⟨es, h1.grows hb, h2.grows hb⟩
theorem IsXs.shape {w : World} {v : Value} {ls : List (List Nd)} (h : IsXs w v ls) : ∃ p cap, v = .slice p ls.length cap := by
  obtain ⟨es, h1, h2⟩ := h
  rw [← h2.len]
  exact h1.shape
/-- element k of the row. -/
theorem IsXs.at {w : World} {p : Option Addr} {n cap : Nat} {ls : List (List Nd)} (h : IsXs w (.slice p n cap) ls) {k : Nat} {l : List Nd} (hk : ls[k]? = some l) :
    ∃ blk off q c, p = some ⟨blk, off, none⟩ ∧ w.cell? ⟨blk, off + k, none⟩ = some (.slice q l.length c) ∧ IsX w (.slice q l.length c) l ∧ l.length ≤ c := by
  obtain ⟨es, h1, h2⟩ := h
  have hkl : k < ls.length := (List.getElem?_eq_some_iff.1 hk).1
  obtain ⟨e, he⟩ : ∃ e, es[k]? = some e := ⟨_, List.getElem?_eq_getElem (by rw [h2.len]; exact hkl)⟩
  obtain ⟨blk, off, hp, hc⟩ := h1.at he
  have hx := h2.is k e l he hk
  obtain ⟨q, c, rfl⟩ := hx.shape
  exact ⟨blk, off, q, c, hp, hc, hx, h2.cap _ (List.mem_of_getElem? he)⟩
theorem IsXs.nil (w : World) (p : Option Addr) (cap : Nat) : IsXs w (.slice p 0 cap) [] := ⟨[], .inl ⟨rfl, p, cap, rfl⟩, rfl, fun e he => (by cases he), fun j e l h _ => by simp at h⟩
theorem own_cap {w : World} {base : Nat} {e : TypeId} {size : Nat} {p : Option Addr} {n c : Nat} {xs : List Value} (h : w.ownsRow base e size (.slice p n c) n xs) : n ≤ c := by
  obtain ⟨hl, ⟨hv, hn⟩ | ⟨g, cap, cur, hv, hg, hh, hcap, hm, hsz, htk⟩⟩ := h
  · simp only [Value.slice.injEq] at hv; omega
  · simp only [Value.slice.injEq] at hv; omega
theorem infoX : (Tryz.prog.info? 23).map (fun i => (i.zero, i.size, i.bytes)) = some (some (.slice none 0 0), 1, 24) := by kernel_rfl
theorem own_empty1 (W : World) (base : Nat) (hb : base ≤ W.heap.size) (t : TypeId) : (W.alloc (.cells #[] t)).ownsRow base t 1 (.slice (some ⟨W.heap.size, 0, none⟩) 0 0) 0 [] :=
  own_of_blk (Blk.new W #[] t) 0 1 rfl (by unfold maxLen; omega) hb
theorem cells_new1 (W : World) (x : Value) (t : TypeId) (m : Nat) (hm : m = W.heap.size) : ∀ j u, [x][j]? = some u → (W.alloc (.cells #[x] t)).cell? ((⟨m, 0, none⟩ : Addr).add j) = some u := by
  subst hm
  intro j u hu
  have h : (⟨W.heap.size, 0, none⟩ : Addr).add j = ⟨W.heap.size, j, none⟩ := by unfold Addr.add; split <;> simp_all
  rw [h]
  exact (Blk.new W #[x] t).cell j (by simpa using hu)

set_option maxRecDepth 100000 in
set_option maxHeartbeats 2000000 in
theorem rpile_any (v xv : Value) (ls : List (List Nd)) (x : List Nd) (n : Nat) (W : World) (hv : IsXs W v ls) (hx : IsX W xv x) (hxc : CapOk xv) (hn : n ≤ ls.length) (hl : ls.length ≤ 1099511627776) :
    Calls Tryz.prog 71 #[v, .int .i64 (n : Int), xv] W fun e W' => (∃ v', e = .returned v' ∧ IsXs W' v' (ls.take n ++ [x])) ∧ Below W.heap.size W W' := by
  obtain ⟨i0, hi, hz0, hz1, hz2⟩ := info_parts infoX
  obtain ⟨es, hc, hall⟩ := hv
  have hel := hall.len
  obtain ⟨sp, sc, rfl⟩ := hc.shape
  obtain ⟨xp, xc, rfl⟩ := hx.shape
  have HV := Lib.hid (fun k e (hk : es[k]? = some e) => hc.at hk)
  have HSh := Lib.hid (fun k (e : Value) (hk : es[k]? = some e) => show ∃ q m c, e = Value.slice q m c by
    obtain ⟨l, hl⟩ : ∃ l, ls[k]? = some l := ⟨_, List.getElem?_eq_getElem (by have := (List.getElem?_eq_some_iff.1 hk).1; omega)⟩
    obtain ⟨q, c, rfl⟩ := (hall.is k e l hk hl).shape
    exact ⟨q, _, c, rfl⟩)
  have HT := Lib.hid (fun k x (hk : es[k]? = some x) => show es.take (k + 1) = es.take k ++ [x] by rw [List.take_add_one, hk]; rfl)
  have HX := Lib.hid hx
  have HXc := Lib.hid hxc
  have HAll := Lib.hid hall
  rw [hel]
  have HEl := Lib.hid hel
  clear hc hall hx hel hxc
  go_enter Tryz.func71, Tryz.ntmps71
  go_wp2
  go_loopw [7, 8] (fun v i wr => ∃ k : Nat, k ≤ n ∧ i = .int .i64 k ∧ wr.ownsRow W.heap.size 23 1 v (es.take k).length (es.take k) ∧ Below W.heap.size W wr) (fun _ i _ => n - (intOf i).toNat)
  case atStart =>
    exact ⟨0, Nat.zero_le _, rfl, own_empty1 W W.heap.size (Nat.le_refl _) 23, (Below.refl _ W).alloc (Nat.le_refl _) _⟩
  case round =>
    obtain ⟨k, hk, rfl, hown, hbw⟩ := hrel
    have hll : (es.take k).length = k := by rw [List.length_take]; have := HEl.out; omega
    by_cases hlt : k < n
    · obtain ⟨e, he⟩ : ∃ e, es[k]? = some e := ⟨_, List.getElem?_eq_getElem (by have := HEl.out; omega)⟩
      obtain ⟨blk, off, rfl, a0⟩ := HV.out k e he
      obtain ⟨eq, em, ec, rfl⟩ := HSh.out k e he
      have hlb : blk < W.heap.size := lt_of_cell a0
      have a0 := (hbw.cell (p := ⟨blk, _, none⟩) hlb).trans a0
      have HK := Lib.hid (HT.out k _ he)
      have HO := Lib.hid hown
      have HB := Lib.hid hbw
      have HLen := Lib.hid hll
      have hsz := hbw.size
      clear he hown hbw hll

      go_wp2_with (at_builtin; refine wpList_append_own _ rfl _ _ 81 rfl W.heap.size 23 i0 _ 1 24 Tryz.underlying81 hi hz0 hz1 hz2 rfl (by decide) _ _ _ rfl (own_alloc HO.out _) ⟨wr.heap.size, 0, none⟩ 1 1 [Value.slice eq em ec] rfl rfl (cells_new1 _ _ _ _ rfl) (by intro u hu; simp only [List.mem_singleton] at hu; subst hu; rfl) (by unfold maxLen; have := HLen.out; omega) (by have := HLen.out; omega) (by simp; omega) ?_; intro v' w2 hown2 hgrow _)
      go_roundw
      case rel => exact ⟨k + 1, by omega, by go_num, by rw [HK.out]; exact own_cast hown2 (by simp) rfl, (HB.out.alloc hsz _).grown hgrow (by simp; omega) (fun k2 e2 => by have := own_ge HO.out k2 e2; omega)⟩
      case measure => simp [intOf]; omega
    · obtain rfl : k = n := by omega
      have HO := Lib.hid hown
      have HB := Lib.hid hbw
      have HLen := Lib.hid hll
      have hsz := hbw.size
      clear hown hbw hll
      go_wp2_with (at_builtin; refine wpList_append_own _ rfl _ _ 81 rfl W.heap.size 23 i0 _ 1 24 Tryz.underlying81 hi hz0 hz1 hz2 rfl (by decide) _ _ _ rfl (own_alloc HO.out _) ⟨wr.heap.size, 0, none⟩ 1 1 [Value.slice xp x.length xc] rfl rfl (cells_new1 _ _ _ _ rfl) (by intro u hu; simp only [List.mem_singleton] at hu; subst hu; rfl) (by unfold maxLen; have := HLen.out; omega) (by have := HLen.out; omega) (by simp; omega) ?_; intro v' w2 hown2 hgrow _)
      go_ret
      have hb2 := (HB.out.alloc hsz _).grown hgrow (by simp; omega) (fun k2 e2 => by have := own_ge HO.out k2 e2; omega)
      refine ⟨⟨_, rfl, es.take k ++ [.slice xp x.length xc], own_cells1 (own_cast hown2 (by simp) rfl), ?_⟩, hb2⟩
      exact ((HAll.out.take k).grows hb2).snoc (HX.out.grows hb2) HXc.out
end Go.Proofs.YtgbbjobmcbdhdaaGreatDoor
