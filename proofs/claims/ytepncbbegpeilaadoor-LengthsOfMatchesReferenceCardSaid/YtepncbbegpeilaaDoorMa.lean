/-
  Walks: the reference's Machine: a valid automaton out of any bytes.
-/
import Derived.Test.YtepncbbegpeilaaDoorSn
import Derived.Test.YtepncbbegpeilaaDoorMd
set_option linter.unusedSimpArgs false
set_option linter.unusedVariables false
namespace Go.Proofs.YtepncbbegpeilaaDoor
open Go.RowKit Go.Lib

/-- byte i of l, or 0. -/
def mb (l : List Int) (i : Nat) : Nat := (l.getD i 0).toNat
def mn (l : List Int) : Nat := if l.length = 0 then 1 else 1 + mb l 0 % 8
def mcell (l : List Int) (n s c : Nat) : Nat := mb l (1 + 4 * s + c) % n
def mrow (l : List Int) (n s : Nat) : List Int := [(mcell l n s 0 : Int), (mcell l n s 1 : Int), (mcell l n s 2 : Int)]
def macc (l : List Int) (s : Nat) : Bool := decide (mb l (1 + 4 * s + 3) % 3 = 1)
def clsM : List (BitVec 256) := [~~~(bit 97 ||| bit 98), bit 97, bit 98]
theorem mb_out {l : List Int} {i : Nat} (h : l.length ≤ i) : mb l i = 0 := by unfold mb; rw [List.getD_eq_getElem?_getD, List.getElem?_eq_none h]; rfl
/-- the value is a slice that reads as these bytes. -/
def IsY (w : World) (v : Value) (l : List Int) : Prop :=
  (l = [] ∧ ∃ p cap, v = .slice p 0 cap) ∨ ∃ blk off cap, v = .slice (some ⟨blk, off, none⟩) l.length cap ∧ ∀ j, j < l.length → w.cell? ⟨blk, off + j, none⟩ = some (.int .u8 (l.getD j 0))
theorem IsY.grows {w w' : World} {v : Value} {l : List Int} (h : IsY w v l) (hb : Below w.heap.size w w') : IsY w' v l := by
  rcases h with h | ⟨blk, off, cap, rfl, h⟩
  · exact .inl h
  · exact .inr ⟨blk, off, cap, rfl, fun j hj => (hb.cell (lt_of_cell (h j hj))).trans (h j hj)⟩
theorem IsY.at {w : World} {p : Option Addr} {n cap : Nat} {l : List Int} (h : IsY w (.slice p n cap) l) (hb : ∀ z ∈ l, 0 ≤ z ∧ z < 256) {k : Nat} (hk : k < l.length) :
    ∃ blk off, p = .some ⟨blk, off, none⟩ ∧ w.cell? ⟨blk, off + k, none⟩ = .some (.int .u8 (mb l k : Int)) ∧ mb l k < 256 := by
  rcases h with ⟨rfl, _⟩ | ⟨blk, off, cap, he, hc⟩
  · simp at hk
  · simp only [Value.slice.injEq] at he
    have hm := hb (l.getD k 0) (by rw [List.getD_eq_getElem?_getD, List.getElem?_eq_getElem hk]; exact List.getElem_mem hk)
    refine ⟨blk, off, he.1, ?_, by unfold mb; omega⟩
    rw [hc k hk]; unfold mb; rw [Int.toNat_of_nonneg hm.1]
theorem mb_lt {l : List Int} (hb : ∀ z ∈ l, 0 ≤ z ∧ z < 256) (k : Nat) : mb l k < 256 := by
  rcases Nat.lt_or_ge k l.length with h | h
  · have hm := hb (l.getD k 0) (by rw [List.getD_eq_getElem?_getD, List.getElem?_eq_getElem h]; exact List.getElem_mem h)
    unfold mb; omega
  · rw [mb_out h]; omega
theorem mn_pos (l : List Int) : 0 < mn l ∧ mn l ≤ 8 := by unfold mn; split <;> omega
/-- cell j of an owned row. -/
theorem own_cell {w : World} {base : Nat} {e : TypeId} {p : Option Addr} {n cap m : Nat} {xs : List Value} (h : w.ownsRow base e 1 (.slice p n cap) m xs) {j : Nat} {u : Value} (hj : xs[j]? = some u) :
    ∃ g, p = some ⟨g, 0, none⟩ ∧ base ≤ g ∧ w.cell? ⟨g, j, none⟩ = some u := by
  obtain ⟨hl, ⟨hv, hn⟩ | ⟨g, cap', cur, hv, hg, hh, hcap, hm, hsz, htk⟩⟩ := h
  · rw [hn, Nat.zero_mul] at hl
    rw [List.length_eq_zero_iff.1 hl] at hj; cases hj
  · simp only [Value.slice.injEq] at hv
    refine ⟨g, hv.1, hg, Blk.cell (vs := cur) (t := e) ⟨hh⟩ j ?_⟩
    have hlt := (List.getElem?_eq_some_iff.1 hj).1
    have h2 := congrArg (fun q => q[j]?) htk
    rw [List.getElem?_take_of_lt (by omega), hj] at h2
    simpa using h2
theorem own_isI {w : World} {base : Nat} {e : TypeId} {v : Value} {l : List Int} (h : w.ownsRow base e 1 v l.length (l.map (Value.int .i64))) : IsI w v l := by
  obtain ⟨p, cap, rfl⟩ := own_shape h
  cases l with
  | nil => exact .inl ⟨rfl, p, cap, rfl⟩
  | cons x l =>
    obtain ⟨g, rfl, -, -⟩ := own_cell h (j := 0) rfl
    refine .inr ⟨g, 0, cap, rfl, fun j y hj => ?_⟩
    obtain ⟨g', e, -, hc⟩ := own_cell h (j := j) (u := .int .i64 y) (by rw [List.getElem?_map, hj]; rfl)
    simp only [Option.some.injEq, Addr.mk.injEq] at e
    rw [Nat.zero_add, e.1]; exact hc
/-- the rows that are done. -/
def RowsM (W : World) (B : Nat) (l : List Int) (n : Nat) (u1 u2 : Value) (vs : List Value) : Prop :=
  ∀ (i : Nat) (rv : Value), vs[i]? = some rv → W.ownsRow B 3 1 rv 3 ((mrow l n i).map (Value.int .i64)) ∧ Apart rv u1 ∧ Apart rv u2
/-- the made automaton with its rows in blocks of their own. -/
def OwnD (w : World) (B0 : Nat) (v : Value) (l : List Int) (n : Nat) : Prop := ∃ (B q : Nat) (p1 : Option Addr) (k1 : Nat) (p2 : Option Addr) (k2 : Nat) (vs : List Value), v = .agg #[.slice (some ⟨q, 0, none⟩) 3 3, .slice p1 n k1, .slice p2 n k2] ∧ B0 ≤ q ∧ q < B ∧ vs.length = n ∧
  Blk w q #[.int .u64 18446744073709551615, .int .u64 18446744047939747839, .int .u64 18446744073709551615, .int .u64 18446744073709551615, .int .u64 0, .int .u64 8589934592, .int .u64 0, .int .u64 0, .int .u64 0, .int .u64 17179869184, .int .u64 0, .int .u64 0] 41 ∧
  w.ownsRow B 42 1 (.slice p1 n k1) n vs ∧ w.ownsRow B 4 1 (.slice p2 n k2) n (((List.range n).map (macc l)).map Value.bool) ∧ RowsM w B l n (.slice p1 n k1) (.slice p2 n k2) vs ∧ Apart (.slice p1 n k1) (.slice p2 n k2)
theorem own_isM {W : World} {B : Nat} {e : TypeId} {l : List Int} {n : Nat} {u1 u2 : Value} {vs : List Value} (h : W.ownsRow B e 1 u1 vs.length vs) (hr : RowsM W B l n u1 u2 vs) : IsM W u1 ((List.range vs.length).map (mrow l n)) := by
  obtain ⟨p, cap, rfl⟩ := own_shape h
  rcases Nat.eq_zero_or_pos vs.length with h0 | h0
  · rw [h0]; exact .inl ⟨rfl, p, cap, rfl⟩
  · obtain ⟨g, rfl, -, -⟩ := own_cell h (j := 0) (List.getElem?_eq_getElem h0)
    refine .inr ⟨g, 0, cap, by simp, fun j r hj => ?_⟩
    have hjl : j < vs.length := by have := (List.getElem?_eq_some_iff.1 hj).1; simpa using this
    rw [List.getElem?_map, List.getElem?_range hjl] at hj
    cases hj
    have hv := List.getElem?_eq_getElem hjl
    obtain ⟨g', e, -, hc⟩ := own_cell h (j := j) hv
    simp only [Option.some.injEq, Addr.mk.injEq] at e
    obtain ⟨ho, -, -⟩ := hr j _ hv
    obtain ⟨q, k, hs⟩ := own_shape ho
    rw [hs] at hc ho
    refine ⟨q, k, by rw [Nat.zero_add, e.1]; exact hc, ?_⟩
    have := own_isI (l := mrow l n j) ho
    exact this
theorem isC_m {W : World} {g : Nat} {t : TypeId} (h : Blk W g #[.int .u64 18446744073709551615, .int .u64 18446744047939747839, .int .u64 18446744073709551615, .int .u64 18446744073709551615, .int .u64 0, .int .u64 8589934592, .int .u64 0, .int .u64 0, .int .u64 0, .int .u64 17179869184, .int .u64 0, .int .u64 0] t) :
    IsC W (.slice (some ⟨g, 0, none⟩) 3 3) clsM := by
  have e0 : encC (~~~(bit 97 ||| bit 98)) = [.int .u64 18446744073709551615, .int .u64 18446744047939747839, .int .u64 18446744073709551615, .int .u64 18446744073709551615] := by
    unfold encC
    rw [show wd (~~~(bit 97 ||| bit 98)) 0 = 18446744073709551615 by decide +kernel, show wd (~~~(bit 97 ||| bit 98)) 1 = 18446744047939747839 by decide +kernel, show wd (~~~(bit 97 ||| bit 98)) 2 = 18446744073709551615 by decide +kernel, show wd (~~~(bit 97 ||| bit 98)) 3 = 18446744073709551615 by decide +kernel]
  have e1 : encC (bit 97) = [.int .u64 0, .int .u64 8589934592, .int .u64 0, .int .u64 0] := by
    unfold encC
    rw [show wd (bit 97) 0 = 0 by decide +kernel, show wd (bit 97) 1 = 8589934592 by decide +kernel, show wd (bit 97) 2 = 0 by decide +kernel, show wd (bit 97) 3 = 0 by decide +kernel]
  have e2 : encC (bit 98) = [.int .u64 0, .int .u64 17179869184, .int .u64 0, .int .u64 0] := by
    unfold encC
    rw [show wd (bit 98) 0 = 0 by decide +kernel, show wd (bit 98) 1 = 17179869184 by decide +kernel, show wd (bit 98) 2 = 0 by decide +kernel, show wd (bit 98) 3 = 0 by decide +kernel]
  refine .inr ⟨g, 0, 3, rfl, fun j x hj i v hi => ?_⟩
  have key : ∀ (c : List Value) (o : Nat), (∀ k u, c[k]? = some u → (#[Value.int .u64 18446744073709551615, .int .u64 18446744047939747839, .int .u64 18446744073709551615, .int .u64 18446744073709551615, .int .u64 0, .int .u64 8589934592, .int .u64 0, .int .u64 0, .int .u64 0, .int .u64 17179869184, .int .u64 0, .int .u64 0])[o + k]? = some u) → c[i]? = some v → W.cell? ⟨g, o + i, none⟩ = some v := fun c o hc hi => h.cell (o + i) (hc i v hi)
  match j, hj with
  | 0, hj =>
    cases hj
    rw [e0] at hi
    have := key _ 0 (fun k u hk => by match k, hk with | 0, hk => exact hk | 1, hk => exact hk | 2, hk => exact hk | 3, hk => exact hk) hi
    rwa [show 0 + 0 * 4 + i = 0 + i by omega]
  | 1, hj =>
    cases hj
    rw [e1] at hi
    have := key _ 4 (fun k u hk => by match k, hk with | 0, hk => exact hk | 1, hk => exact hk | 2, hk => exact hk | 3, hk => exact hk) hi
    rwa [show 0 + 1 * 4 + i = 4 + i by omega]
  | 2, hj =>
    cases hj
    rw [e2] at hi
    have := key _ 8 (fun k u hk => by match k, hk with | 0, hk => exact hk | 1, hk => exact hk | 2, hk => exact hk | 3, hk => exact hk) hi
    rwa [show 0 + 2 * 4 + i = 8 + i by omega]
theorem mrow_take (l : List Int) (n s C : Nat) (h : C < 3) : ((mrow l n s).take (C + 1)).map (Value.int .i64) = ((mrow l n s).take C).map (Value.int .i64) ++ [Value.int .i64 (mcell l n s C : Int)] := by
  have h3 : C = 0 ∨ C = 1 ∨ C = 2 := by omega
  rcases h3 with rfl | rfl | rfl <;> rfl
theorem range_snoc {α : Type} (f : Nat → α) (n : Nat) : (List.range (n + 1)).map f = (List.range n).map f ++ [f n] := by rw [List.range_succ, List.map_append]; rfl
theorem rowsM_nil (W : World) (B : Nat) (l : List Int) (n : Nat) (u1 u2 : Value) : RowsM W B l n u1 u2 [] := fun i rv h => by simp at h
theorem rowsM_snoc {W : World} {B : Nat} {l : List Int} {n : Nat} {u1 u2 r : Value} {vs : List Value} (h : RowsM W B l n u1 u2 vs) (hr : W.ownsRow B 3 1 r 3 ((mrow l n vs.length).map (Value.int .i64))) (a1 : Apart r u1) (a2 : Apart r u2) :
    RowsM W B l n u1 u2 (vs ++ [r]) := by
  intro i rv hi
  rcases Nat.lt_or_ge i vs.length with h1 | h1
  · rw [List.getElem?_append_left h1] at hi
    exact h i rv hi
  · rw [List.getElem?_append_right h1] at hi
    have h2 : i - vs.length = 0 := by
      rcases Nat.eq_zero_or_pos (i - vs.length) with h3 | h3
      · exact h3
      · rw [List.getElem?_eq_none (by simp; omega)] at hi; cases hi
    rw [h2] at hi
    cases hi
    obtain rfl : i = vs.length := by omega
    exact ⟨hr, a1, a2⟩
theorem slice_one (p : Option Addr) (n k : Nat) : ∀ u ∈ [Value.slice p n k], u.oneCell' = true := by intro u hu; simp at hu; subst hu; rfl
theorem infoRI : (Tryd.prog.info? 42).map (fun i => (i.zero, i.size, i.bytes)) = some (some (.slice none 0 0), 1, 24) := by kernel_rfl
theorem x1 : bits .xor .u64 18446744073709551615 8589934592 = 18446744065119617023 := by kernel_rfl
theorem x2 : bits .xor .u64 18446744065119617023 17179869184 = 18446744047939747839 := by kernel_rfl
set_option maxRecDepth 100000 in
set_option maxHeartbeats 8000000 in
theorem machine_own (p : Option Addr) (k : Nat) (l : List Int) (w : World) (hv : IsY w (.slice p l.length k) l) (hb : ∀ z ∈ l, 0 ≤ z ∧ z < 256) (hl : l.length ≤ 1152921504606846976) :
    Calls Tryd.prog 5 #[.slice p l.length k] w fun e w' =>
      (∃ v, e = .returned v ∧ OwnD w' w.heap.size v l (mn l)) ∧ Below w.heap.size w w' := by
  have HR := Lib.hid (fun W (hW : Below w.heap.size w W) j (hj : j < l.length) => (hv.grows hW).at hb hj)
  have HLt := Lib.hid (mb_lt hb)
  obtain ⟨n, hn⟩ : ∃ n, mn l = n := ⟨_, rfl⟩
  have hn1 : 0 < n ∧ n ≤ 8 := hn ▸ mn_pos l
  rw [hn]
  have y1 := x1
  have y2 := x2
  obtain ⟨ib, hib, hb0, hb1, hb2⟩ := info_parts infoBool
  obtain ⟨ii, hii, hi0, hi1, hi2⟩ := info_parts infoInt
  obtain ⟨ir, hir, hx0, hx1, hx2⟩ := info_parts infoRI
  by_cases h0 : l.length = 0
  · have hn2 : n = 1 := by rw [← hn]; unfold mn; rw [if_pos h0]
    subst hn2
    have hlz : ¬ 0 < (l.length : Int) := by omega
    clear hv hb hn
    go_enter Tryd.func5, Tryd.ntmps5
    go_wp2_with fail
    generalize hWW : (((((w.alloc (Obj.cells #[.slice none 0 0, .slice none 0 0, .slice none 0 0] 28)).alloc (Obj.cells #[.int .u64 0, .int .u64 8589934592, .int .u64 0, .int .u64 0] 41)).alloc (Obj.cells #[.int .u64 0, .int .u64 17179869184, .int .u64 0, .int .u64 0] 41)).alloc (Obj.cells #[.int .u64 18446744073709551615, .int .u64 18446744047939747839, .int .u64 18446744073709551615, .int .u64 18446744073709551615, .int .u64 0, .int .u64 8589934592, .int .u64 0, .int .u64 0, .int .u64 0, .int .u64 17179869184, .int .u64 0, .int .u64 0] 41)).alloc (Obj.cells #[.slice (some ⟨w.heap.size + 1 + 1 + 1, 0, none⟩) 3 3, .slice none 0 0, .slice none 0 0] 28)) = W0
    have R : Blk W0 w.heap.size #[.slice none 0 0, .slice none 0 0, .slice none 0 0] 28 := by rw [← hWW]; exact al_blk w [(Obj.cells #[.slice none 0 0, .slice none 0 0, .slice none 0 0] 28), (Obj.cells #[.int .u64 0, .int .u64 8589934592, .int .u64 0, .int .u64 0] 41), (Obj.cells #[.int .u64 0, .int .u64 17179869184, .int .u64 0, .int .u64 0] 41), (Obj.cells #[.int .u64 18446744073709551615, .int .u64 18446744047939747839, .int .u64 18446744073709551615, .int .u64 18446744073709551615, .int .u64 0, .int .u64 8589934592, .int .u64 0, .int .u64 0, .int .u64 0, .int .u64 17179869184, .int .u64 0, .int .u64 0] 41), (Obj.cells #[.slice (some ⟨w.heap.size + 1 + 1 + 1, 0, none⟩) 3 3, .slice none 0 0, .slice none 0 0] 28)] 0 rfl
    have Q : Blk W0 (w.heap.size + 1 + 1 + 1) #[.int .u64 18446744073709551615, .int .u64 18446744047939747839, .int .u64 18446744073709551615, .int .u64 18446744073709551615, .int .u64 0, .int .u64 8589934592, .int .u64 0, .int .u64 0, .int .u64 0, .int .u64 17179869184, .int .u64 0, .int .u64 0] 41 := by rw [← hWW]; exact al_blk w [(Obj.cells #[.slice none 0 0, .slice none 0 0, .slice none 0 0] 28), (Obj.cells #[.int .u64 0, .int .u64 8589934592, .int .u64 0, .int .u64 0] 41), (Obj.cells #[.int .u64 0, .int .u64 17179869184, .int .u64 0, .int .u64 0] 41), (Obj.cells #[.int .u64 18446744073709551615, .int .u64 18446744047939747839, .int .u64 18446744073709551615, .int .u64 18446744073709551615, .int .u64 0, .int .u64 8589934592, .int .u64 0, .int .u64 0, .int .u64 0, .int .u64 17179869184, .int .u64 0, .int .u64 0] 41), (Obj.cells #[.slice (some ⟨w.heap.size + 1 + 1 + 1, 0, none⟩) 3 3, .slice none 0 0, .slice none 0 0] 28)] 3 rfl
    have DD : Blk W0 (w.heap.size + 1 + 1 + 1 + 1) #[.slice (some ⟨w.heap.size + 1 + 1 + 1, 0, none⟩) 3 3, .slice none 0 0, .slice none 0 0] 28 := by rw [← hWW]; exact al_blk w [(Obj.cells #[.slice none 0 0, .slice none 0 0, .slice none 0 0] 28), (Obj.cells #[.int .u64 0, .int .u64 8589934592, .int .u64 0, .int .u64 0] 41), (Obj.cells #[.int .u64 0, .int .u64 17179869184, .int .u64 0, .int .u64 0] 41), (Obj.cells #[.int .u64 18446744073709551615, .int .u64 18446744047939747839, .int .u64 18446744073709551615, .int .u64 18446744073709551615, .int .u64 0, .int .u64 8589934592, .int .u64 0, .int .u64 0, .int .u64 0, .int .u64 17179869184, .int .u64 0, .int .u64 0] 41), (Obj.cells #[.slice (some ⟨w.heap.size + 1 + 1 + 1, 0, none⟩) 3 3, .slice none 0 0, .slice none 0 0] 28)] 4 rfl
    have hbw : Below w.heap.size w W0 := by rw [← hWW]; exact al_below [(Obj.cells #[.slice none 0 0, .slice none 0 0, .slice none 0 0] 28), (Obj.cells #[.int .u64 0, .int .u64 8589934592, .int .u64 0, .int .u64 0] 41), (Obj.cells #[.int .u64 0, .int .u64 17179869184, .int .u64 0, .int .u64 0] 41), (Obj.cells #[.int .u64 18446744073709551615, .int .u64 18446744047939747839, .int .u64 18446744073709551615, .int .u64 18446744073709551615, .int .u64 0, .int .u64 8589934592, .int .u64 0, .int .u64 0, .int .u64 0, .int .u64 17179869184, .int .u64 0, .int .u64 0] 41), (Obj.cells #[.slice (some ⟨w.heap.size + 1 + 1 + 1, 0, none⟩) 3 3, .slice none 0 0, .slice none 0 0] 28)] w
    have hB : w.heap.size + 1 + 1 + 1 + 1 + 1 ≤ W0.heap.size := DD.lt
    clear hWW
    obtain ⟨B, hBe⟩ : ∃ B, B = w.heap.size + 1 + 1 + 1 + 1 + 1 := ⟨_, rfl⟩
    have hDB : w.heap.size + 1 + 1 + 1 + 1 < B := by omega
    have hqD : w.heap.size + 1 + 1 + 1 < w.heap.size + 1 + 1 + 1 + 1 := by omega
    have hwq : w.heap.size < w.heap.size + 1 + 1 + 1 := by omega
    rw [← hBe] at hB
    clear hBe
    generalize w.heap.size + 1 + 1 + 1 + 1 = D at DD hDB hqD ⊢
    generalize w.heap.size + 1 + 1 + 1 = q at Q DD hqD hwq ⊢
    have O1 := World.ownsRow_nil W0 B 42 1
    have O2 := World.ownsRow_nil W0 B 4 1
    go_loopw [7] (fun i wr => ∃ (S : Nat) (u1 u2 : Value) (vs : List Value), i = .int .i64 (S : Int) ∧ S ≤ 1 ∧ vs.length = S ∧ Blk wr w.heap.size #[.slice none 0 0, .slice none 0 0, .slice none 0 0] 28 ∧ Blk wr q #[.int .u64 18446744073709551615, .int .u64 18446744047939747839, .int .u64 18446744073709551615, .int .u64 18446744073709551615, .int .u64 0, .int .u64 8589934592, .int .u64 0, .int .u64 0, .int .u64 0, .int .u64 17179869184, .int .u64 0, .int .u64 0] 41 ∧ Blk wr D #[.slice (some ⟨q, 0, none⟩) 3 3, u1, u2] 28 ∧
        wr.ownsRow B 42 1 u1 S vs ∧ wr.ownsRow B 4 1 u2 S (((List.range S).map (macc l)).map Value.bool) ∧ Apart u1 u2 ∧ RowsM wr B l 1 u1 u2 vs ∧ B ≤ wr.heap.size ∧ Below w.heap.size w wr) (fun i _ => 1 - (RowKit.intOf i).toNat)
    case atStart => exact ⟨0, _, _, [], rfl, Nat.zero_le _, rfl, R, Q, DD, O1, own_cast O2 rfl rfl, apart_nil _, rowsM_nil _ _ _ _ _ _, hB, hbw⟩
    case round =>
      clear R Q DD hB hbw O1 O2
      obtain ⟨S, u1, u2, vs, rfl, hS, hvs, R, Q, DD, O1, O2, hap, hrows, hB, hbw⟩ := hrel
      have HS1 := Lib.hid hvs
      clear hvs
      by_cases hlt : S < 1
      · have O3 : (wr.alloc (.cells #[] 3)).ownsRow B 3 1 (.slice (some ⟨wr.heap.size, 0, none⟩) 0 0) 0 [] := own_of_blk (Blk.new wr #[] 3) 0 1 rfl (by unfold maxLen; omega) hB
        have hr1 : Apart (.slice (some ⟨wr.heap.size, 0, none⟩) 0 0) u1 := fun g e1 e2 => by have h9 := own_lt O1 g e2; have h8 : wr.heap.size = g := Option.some.inj e1; omega
        have hr2 : Apart (.slice (some ⟨wr.heap.size, 0, none⟩) 0 0) u2 := fun g e1 e2 => by have h9 := own_lt O2 g e2; have h8 : wr.heap.size = g := Option.some.inj e1; omega
        have hr3 : ∀ (i : Nat) (x : Value), vs[i]? = some x → Apart x (.slice (some ⟨wr.heap.size, 0, none⟩) 0 0) := fun i x hx g e1 e2 => by have h9 := own_lt (hrows i x hx).1 g e1; have h8 : wr.heap.size = g := Option.some.inj e2; omega
        have R1 := R.alloc (.cells #[] 3)
        have Q1 := Q.alloc (.cells #[] 3)
        have D1 := DD.alloc (.cells #[] 3)
        have P1 := own_alloc O1 (.cells #[] 3)
        have P2 := own_alloc O2 (.cells #[] 3)
        have hrows1 : RowsM (wr.alloc (.cells #[] 3)) B l 1 u1 u2 vs := fun i x hx => ⟨own_alloc (hrows i x hx).1 _, (hrows i x hx).2⟩
        have hB1 : B ≤ (wr.alloc (.cells #[] 3)).heap.size := by simp; omega
        have hbw1 := hbw.alloc hbw.size (.cells #[] 3)
        clear R Q DD O1 O2 hrows hB hbw
        have hd : decide ((S : Int) < (1 : Int)) = true := decide_eq_true (by omega)
        go_wp2_with fail
        try simp only [hd]
        generalize wr.alloc (.cells #[] 3) = w1 at O3 R1 Q1 D1 P1 P2 hrows1 hB1 hbw1 ⊢
        go_loopw [8, 9] (fun rv c wi => ∃ (C : Nat) (u2 : Value), c = .int .i64 (C : Int) ∧ C ≤ 4 ∧ Blk wi w.heap.size #[.slice none 0 0, .slice none 0 0, .slice none 0 0] 28 ∧ Blk wi q #[.int .u64 18446744073709551615, .int .u64 18446744047939747839, .int .u64 18446744073709551615, .int .u64 18446744073709551615, .int .u64 0, .int .u64 8589934592, .int .u64 0, .int .u64 0, .int .u64 0, .int .u64 17179869184, .int .u64 0, .int .u64 0] 41 ∧ Blk wi D #[.slice (some ⟨q, 0, none⟩) 3 3, u1, u2] 28 ∧
            wi.ownsRow B 42 1 u1 S vs ∧ wi.ownsRow B 4 1 u2 (S + C / 4) (((List.range (S + C / 4)).map (macc l)).map Value.bool) ∧ wi.ownsRow B 3 1 rv (min C 3) (((mrow l 1 S).take C).map (Value.int .i64)) ∧
            Apart u1 u2 ∧ Apart rv u1 ∧ Apart rv u2 ∧ RowsM wi B l 1 u1 u2 vs ∧ (∀ (i : Nat) (x : Value), vs[i]? = some x → Apart x rv) ∧ B ≤ wi.heap.size ∧ Below w.heap.size w wi) (fun _ c _ => 4 - (RowKit.intOf c).toNat)
        case atStart => exact ⟨0, u2, rfl, by omega, R1, Q1, D1, P1, P2, own_cast O3 rfl rfl, hap, hr1, hr2, hrows1, hr3, hB1, hbw1⟩
        case round =>
          clear R1 Q1 D1 P1 P2 O3 hrows1 hB1 hbw1 hap hr1 hr2 hr3 u2
          obtain ⟨C, u2, rfl, hC, R, Q, DD, O1, O2, O3, hap, hr1, hr2, hrows, hr3, hB, hbw⟩ := hrel
          obtain ⟨p1, k1, rfl⟩ := own_shape O1
          obtain ⟨p2, k2, rfl⟩ := own_shape O2
          obtain ⟨p3, k3, rfl⟩ := own_shape O3
          have hg1 := own_ge O1
          have hg2 := own_ge O2
          have hg3 := own_ge O3
          by_cases hlc : C < 4
          · obtain ⟨ix, hixe⟩ : ∃ ix, 1 + 4 * S + C = ix := ⟨_, rfl⟩
            have hix : (1 : Int) + 4 * (S : Int) + (C : Int) = (ix : Int) := by omega
            obtain ⟨kv, hkv⟩ : ∃ kv, mb l ix = kv := ⟨_, rfl⟩
            have hkl : kv < 256 := hkv ▸ HLt.out ix
            have hrd : ¬ ix < l.length ∧ kv = 0 := ⟨by omega, by rw [← hkv]; exact mb_out (by omega)⟩
            by_cases hc3 : C < 3
            · have hd4 : S + C / 4 = S := by omega
              have hd5 : S + (C + 1) / 4 = S := by omega
              have hm1 : min C 3 = C := by omega
              have hm2 : min (C + 1) 3 = C + 1 := by omega
              rw [hd4] at O2 DD hap hr2 hrows
              rw [hm1] at O3 hr1 hr2 hr3 ⊢
              have hg2 := own_ge O2
              have hg3 := own_ge O3
              have HMr := Lib.hid (mrow_take l 1 S C hc3)
              obtain ⟨h4, rfl⟩ := hrd
              have hcell : mcell l 1 S C = 0 := by unfold mcell; rw [hixe, hkv, Nat.zero_mod]
              rw [hcell] at HMr
              have HO1 := Lib.hid O1
              have HO2 := Lib.hid O2
              have HO3 := Lib.hid O3
              clear O1 O2 O3 hcell hkv hixe hd4 hm1
              go_wp2_with (at_builtin; refine wpList_append_own_at _ rfl _ _ 42 rfl B 3 ii _ 1 8 Tryd.underlying42 hii hi0 hi1 hi2 rfl (by decide) _ _ _ rfl (own_alloc HO3.out _) ⟨wr.heap.size, 0, none⟩ 1 1 [.int .i64 0] rfl rfl (cells_newB _ _ _ _ rfl) (encN_one 0) (by unfold maxLen; omega) (by omega) (by simp; omega) ?_; intro v' w6 hown2 hgrow _ hat; obtain ⟨p6, k6, rfl⟩ := own_shape hown2)
              go_roundw
              case rel =>
                exact ⟨C + 1, _, by go_num, by omega,
                  (R.alloc _).grownBy hgrow (fun g e => by have := hg3 g e; omega),
                  (Q.alloc _).grownBy hgrow (fun g e => by have := hg3 g e; omega),
                  (DD.alloc _).grownBy hgrow (fun g e => by have := hg3 g e; omega),
                  own_grown (own_alloc HO1.out _) hgrow (fun g e1 e2 => hr1 g e1 e2),
                  by rw [hd5]; exact own_grown (own_alloc HO2.out _) hgrow (fun g e1 e2 => hr2 g e1 e2),
                  by rw [hm2, HMr.out]; exact own_cast hown2 rfl rfl,
                  hap, apart_new hr1 hat HO1.out, apart_new hr2 hat HO2.out,
                  fun i x hx => ⟨own_grown (own_alloc (hrows i x hx).1 _) hgrow (fun g e1 e2 => hr3 i x hx g e2 e1), (hrows i x hx).2⟩,
                  fun i x hx => (apart_new (hr3 i x hx).symm hat (hrows i x hx).1).symm,
                  by have h7 := hgrow.size; simp at h7 ⊢; omega,
                  (hbw.alloc hbw.size _).grown hgrow (by have h8 := hbw.size; simp; omega) (fun g e => by have := hg3 g e; omega)⟩
              case measure => simp [RowKit.intOf]; omega
            · have hC3 : C = 3 := by omega
              have hd4 : S + C / 4 = S := by omega
              have hd5 : S + (C + 1) / 4 = S + 1 := by omega
              have hm1 : min C 3 = 3 := by omega
              have hm2 : min (C + 1) 3 = 3 := by omega
              rw [hd4] at O2 DD hap hr2 hrows
              rw [hm1] at O3 hr1 hr2 hr3 ⊢
              have hg2 := own_ge O2
              have hg3 := own_ge O3
              have HTk := Lib.hid (show ((mrow l 1 S).take (C + 1)).map (Value.int .i64) = ((mrow l 1 S).take C).map (Value.int .i64) by rw [hC3]; rfl)
              obtain ⟨b, hbe⟩ : ∃ b, macc l S = b := ⟨_, rfl⟩
              obtain ⟨h4, rfl⟩ := hrd
              have hbf : b = false := by
                rw [← hbe]; unfold macc
                rw [show 1 + 4 * S + 3 = ix by omega, hkv]; rfl
              subst hbf
              have HOb := Lib.hid (show ((List.range (S + 1)).map (macc l)).map Value.bool = ((List.range S).map (macc l)).map Value.bool ++ [Value.bool false] by rw [range_snoc, List.map_append, hbe]; rfl)
              have HO1 := Lib.hid O1
              have HO2 := Lib.hid O2
              have HO3 := Lib.hid O3
              have d2 := DD.cell 2 rfl
              have fz := DD.free 2
              have dl := DD.lt
              clear O1 O2 O3 hkv hixe hd4 hm1 hbe hC3
              go_wp2_with (at_builtin; refine wpList_append_own_at _ rfl _ _ 26 rfl B 4 ib _ 1 1 Tryd.underlying26 hib hb0 hb1 hb2 rfl (by decide) _ _ _ rfl (own_alloc HO2.out _) ⟨wr.heap.size, 0, none⟩ 1 1 [.bool false] rfl rfl (cells_newB _ _ _ _ rfl) (bool_one false) (by unfold maxLen; omega) (by omega) (by simp; omega) ?_; intro v' w6 hown2 hgrow _ hat; obtain ⟨p6, k6, rfl⟩ := own_shape hown2; have D6 := (DD.alloc (.cells #[.bool false] 4)).grownBy hgrow (fun g e => by have := hg2 g e; omega); have d6 := D6.cell 2 rfl; have f6 := D6.free 2)
              go_roundw
              case rel =>
                exact ⟨C + 1, _, by go_num, by omega,
                  ((R.alloc _).grownBy hgrow (fun g e => by have := hg2 g e; omega)).other (by show w.heap.size ≠ D; omega) _,
                  ((Q.alloc _).grownBy hgrow (fun g e => by have := hg2 g e; omega)).other (by show q ≠ D; omega) _,
                  D6.set 2 _,
                  own_set (p := ⟨D, 2, none⟩) (own_grown (own_alloc HO1.out _) hgrow (fun g e1 e2 => hap g e2 e1)) hDB _,
                  by rw [hd5, HOb.out]; exact own_set (p := ⟨D, 2, none⟩) hown2 hDB _,
                  by rw [hm2, HTk.out]; exact own_set (p := ⟨D, 2, none⟩) (own_grown (own_alloc HO3.out _) hgrow (fun g e1 e2 => hr2 g e2 e1)) hDB _,
                  (apart_new hap.symm hat HO1.out).symm, hr1, (apart_new hr2.symm hat HO3.out).symm,
                  fun i x hx => ⟨own_set (p := ⟨D, 2, none⟩) (own_grown (own_alloc (hrows i x hx).1 _) hgrow (fun g e1 e2 => (hrows i x hx).2.2 g e2 e1)) hDB _, (hrows i x hx).2.1, (apart_new (hrows i x hx).2.2.symm hat (hrows i x hx).1).symm⟩,
                  hr3,
                  by have h7 := hgrow.size; simp at h7 ⊢; omega,
                  ((hbw.alloc hbw.size _).grown hgrow (by have h8 := hbw.size; simp; omega) (fun g e => by have := hg2 g e; omega)).setCell (by show w.heap.size ≤ D; omega) _⟩
              case measure => simp [RowKit.intOf]; omega
          · have hC4 : C = 4 := by omega
            have hd4 : S + C / 4 = S + 1 := by omega
            have hm1 : min C 3 = 3 := by omega
            rw [hd4] at O2 DD hap hr2 hrows
            rw [hm1] at O3 hr1 hr2 hr3 ⊢
            have hT3 : ((mrow l 1 S).take C).map (Value.int .i64) = (mrow l 1 S).map (Value.int .i64) := by rw [hC4]; rfl
            rw [hT3] at O3
            have HO1 := Lib.hid O1
            have HO2 := Lib.hid O2
            have HO3 := Lib.hid O3
            have d1 := DD.cell 1 rfl
            have fz := DD.free 1
            have dl := DD.lt
            clear O1 O2 O3 hd4 hm1 hT3 hC4
            go_wp2_with (at_builtin; refine wpList_append_own_at _ rfl _ _ 25 rfl B 42 ir _ 1 24 Tryd.underlying25 hir hx0 hx1 hx2 rfl (by decide) _ _ _ rfl (own_alloc HO1.out _) ⟨wr.heap.size, 0, none⟩ 1 1 [.slice p3 3 k3] rfl rfl (cells_newB _ _ _ _ rfl) (slice_one _ _ _) (by unfold maxLen; omega) (by omega) (by simp; omega) ?_; intro v' w6 hown2 hgrow _ hat; obtain ⟨p6, k6, rfl⟩ := own_shape hown2; have D6 := (DD.alloc (.cells #[.slice p3 3 k3] 42)).grownBy hgrow (fun g e => by have := hg1 g e; omega); have d6 := D6.cell 1 rfl; have f6 := D6.free 1)
            go_roundw
            case rel =>
              exact ⟨S + 1, _, _, vs ++ [.slice p3 3 k3], by go_num, by omega, by rw [List.length_append, HS1.out]; rfl,
                ((R.alloc _).grownBy hgrow (fun g e => by have := hg1 g e; omega)).other (by show w.heap.size ≠ D; omega) _,
                ((Q.alloc _).grownBy hgrow (fun g e => by have := hg1 g e; omega)).other (by show q ≠ D; omega) _,
                D6.set 1 _,
                own_set (p := ⟨D, 1, none⟩) hown2 hDB _,
                own_set (p := ⟨D, 1, none⟩) (own_grown (own_alloc HO2.out _) hgrow (fun g e1 e2 => hap g e1 e2)) hDB _,
                apart_new hap hat HO2.out,
                rowsM_snoc (fun i x hx => ⟨own_set (p := ⟨D, 1, none⟩) (own_grown (own_alloc (hrows i x hx).1 _) hgrow (fun g e1 e2 => (hrows i x hx).2.1 g e2 e1)) hDB _, (apart_new (hrows i x hx).2.1.symm hat (hrows i x hx).1).symm, (hrows i x hx).2.2⟩)
                  (by rw [HS1.out]; exact own_set (p := ⟨D, 1, none⟩) (own_grown (own_alloc HO3.out _) hgrow (fun g e1 e2 => hr1 g e2 e1)) hDB _) (apart_new hr1.symm hat HO3.out).symm hr2,
                by have h7 := hgrow.size; simp at h7 ⊢; omega,
                ((hbw.alloc hbw.size _).grown hgrow (by have h8 := hbw.size; simp; omega) (fun g e => by have := hg1 g e; omega)).setCell (by show w.heap.size ≤ D; omega) _⟩
            case measure => simp [RowKit.intOf]; omega
      · have hSn : S = 1 := by omega
        subst hSn
        obtain ⟨p1, k1, rfl⟩ := own_shape O1
        obtain ⟨p2, k2, rfl⟩ := own_shape O2
        have d0 := DD.cell 0 rfl
        have d1 := DD.cell 1 rfl
        have d2 := DD.cell 2 rfl
        have r0 := R.cell 0 rfl
        have r1 := R.cell 1 rfl
        have r2 := R.cell 2 rfl
        have z0 := R.free 0
        have z1 := R.free 1
        have z2 := R.free 2
        have hsB : w.heap.size < B := by omega
        have HO := Lib.hid (And.intro O1 (And.intro O2 hrows))
        clear O1 O2 hrows
        go_wp2
        have t0 : (wr.setCell ⟨w.heap.size, 0, none⟩ (.slice (some ⟨q, 0, none⟩) 3 3)).cell? ⟨w.heap.size, 0, none⟩ = some (.slice (some ⟨q, 0, none⟩) 3 3) := (R.set 0 _).cell 0 rfl
        have t1 : ((wr.setCell ⟨w.heap.size, 0, none⟩ (.slice (some ⟨q, 0, none⟩) 3 3)).setCell ⟨w.heap.size, 1, none⟩ (.slice p1 1 k1)).cell? ⟨w.heap.size, 1, none⟩ = some (.slice p1 1 k1) := ((R.set 0 _).set 1 _).cell 1 rfl
        have t2 : (((wr.setCell ⟨w.heap.size, 0, none⟩ (.slice (some ⟨q, 0, none⟩) 3 3)).setCell ⟨w.heap.size, 1, none⟩ (.slice p1 1 k1)).setCell ⟨w.heap.size, 2, none⟩ (.slice p2 1 k2)).cell? ⟨w.heap.size, 2, none⟩ = some (.slice p2 1 k2) := (((R.set 0 _).set 1 _).set 2 _).cell 2 rfl
        have Q' := ((Q.other (a := ⟨w.heap.size, 0, none⟩) (by show q ≠ w.heap.size; omega) (.slice (some ⟨q, 0, none⟩) 3 3)).other (a := ⟨w.heap.size, 1, none⟩) (by show q ≠ w.heap.size; omega) (.slice p1 1 k1)).other (a := ⟨w.heap.size, 2, none⟩) (by show q ≠ w.heap.size; omega) (.slice p2 1 k2)
        have M1 := own_cast (own_set (p := ⟨w.heap.size, 2, none⟩) (own_set (p := ⟨w.heap.size, 1, none⟩) (own_set (p := ⟨w.heap.size, 0, none⟩) HO.out.1 hsB (.slice (some ⟨q, 0, none⟩) 3 3)) hsB (.slice p1 1 k1)) hsB (.slice p2 1 k2)) HS1.out.symm rfl
        have M2 : RowsM _ B l 1 (.slice p1 1 k1) (.slice p2 1 k2) vs := fun i x hx => ⟨own_set (p := ⟨w.heap.size, 2, none⟩) (own_set (p := ⟨w.heap.size, 1, none⟩) (own_set (p := ⟨w.heap.size, 0, none⟩) (HO.out.2.2 i x hx).1 hsB (.slice (some ⟨q, 0, none⟩) 3 3)) hsB (.slice p1 1 k1)) hsB (.slice p2 1 k2), (HO.out.2.2 i x hx).2⟩
        have A1 := own_set (p := ⟨w.heap.size, 2, none⟩) (own_set (p := ⟨w.heap.size, 1, none⟩) (own_set (p := ⟨w.heap.size, 0, none⟩) HO.out.2.1 hsB (.slice (some ⟨q, 0, none⟩) 3 3)) hsB (.slice p1 1 k1)) hsB (.slice p2 1 k2)
        refine bodyPost_ret (v := .agg #[.slice (some ⟨q, 0, none⟩) 3 3, .slice p1 1 k1, .slice p2 1 k2]) (by simp [results, Tryd.results5, go_sem, t0, t1, t2]) rfl ⟨⟨_, rfl, B, q, p1, k1, p2, k2, vs, rfl, (by omega), (by omega), HS1.out, Q', own_cast M1 HS1.out rfl, own_cast A1 rfl rfl, M2, hap⟩, ((hbw.setCell (Nat.le_refl _) _).setCell (Nat.le_refl _) _).setCell (Nat.le_refl _) _⟩
  · obtain ⟨blk0, off0, rfl, hc0, hl0⟩ := hv.at hb (k := 0) (by omega)
    have hn2 : (1 : Int) + (mb l 0 : Int) % 8 = (n : Int) := by rw [← hn]; unfold mn; rw [if_neg h0]; omega
    generalize mb l 0 = b0 at hc0 hl0 hn2
    rw [Nat.add_zero] at hc0
    have hcl0 := lt_of_cell hc0
    have hlz : 0 < l.length := by omega
    clear hv hb hn
    go_enter Tryd.func5, Tryd.ntmps5
    go_wp2_with fail
    try simp only [hn2]
    generalize hWW : (((((w.alloc (Obj.cells #[.slice none 0 0, .slice none 0 0, .slice none 0 0] 28)).alloc (Obj.cells #[.int .u64 0, .int .u64 8589934592, .int .u64 0, .int .u64 0] 41)).alloc (Obj.cells #[.int .u64 0, .int .u64 17179869184, .int .u64 0, .int .u64 0] 41)).alloc (Obj.cells #[.int .u64 18446744073709551615, .int .u64 18446744047939747839, .int .u64 18446744073709551615, .int .u64 18446744073709551615, .int .u64 0, .int .u64 8589934592, .int .u64 0, .int .u64 0, .int .u64 0, .int .u64 17179869184, .int .u64 0, .int .u64 0] 41)).alloc (Obj.cells #[.slice (some ⟨w.heap.size + 1 + 1 + 1, 0, none⟩) 3 3, .slice none 0 0, .slice none 0 0] 28)) = W0
    have R : Blk W0 w.heap.size #[.slice none 0 0, .slice none 0 0, .slice none 0 0] 28 := by rw [← hWW]; exact al_blk w [(Obj.cells #[.slice none 0 0, .slice none 0 0, .slice none 0 0] 28), (Obj.cells #[.int .u64 0, .int .u64 8589934592, .int .u64 0, .int .u64 0] 41), (Obj.cells #[.int .u64 0, .int .u64 17179869184, .int .u64 0, .int .u64 0] 41), (Obj.cells #[.int .u64 18446744073709551615, .int .u64 18446744047939747839, .int .u64 18446744073709551615, .int .u64 18446744073709551615, .int .u64 0, .int .u64 8589934592, .int .u64 0, .int .u64 0, .int .u64 0, .int .u64 17179869184, .int .u64 0, .int .u64 0] 41), (Obj.cells #[.slice (some ⟨w.heap.size + 1 + 1 + 1, 0, none⟩) 3 3, .slice none 0 0, .slice none 0 0] 28)] 0 rfl
    have Q : Blk W0 (w.heap.size + 1 + 1 + 1) #[.int .u64 18446744073709551615, .int .u64 18446744047939747839, .int .u64 18446744073709551615, .int .u64 18446744073709551615, .int .u64 0, .int .u64 8589934592, .int .u64 0, .int .u64 0, .int .u64 0, .int .u64 17179869184, .int .u64 0, .int .u64 0] 41 := by rw [← hWW]; exact al_blk w [(Obj.cells #[.slice none 0 0, .slice none 0 0, .slice none 0 0] 28), (Obj.cells #[.int .u64 0, .int .u64 8589934592, .int .u64 0, .int .u64 0] 41), (Obj.cells #[.int .u64 0, .int .u64 17179869184, .int .u64 0, .int .u64 0] 41), (Obj.cells #[.int .u64 18446744073709551615, .int .u64 18446744047939747839, .int .u64 18446744073709551615, .int .u64 18446744073709551615, .int .u64 0, .int .u64 8589934592, .int .u64 0, .int .u64 0, .int .u64 0, .int .u64 17179869184, .int .u64 0, .int .u64 0] 41), (Obj.cells #[.slice (some ⟨w.heap.size + 1 + 1 + 1, 0, none⟩) 3 3, .slice none 0 0, .slice none 0 0] 28)] 3 rfl
    have DD : Blk W0 (w.heap.size + 1 + 1 + 1 + 1) #[.slice (some ⟨w.heap.size + 1 + 1 + 1, 0, none⟩) 3 3, .slice none 0 0, .slice none 0 0] 28 := by rw [← hWW]; exact al_blk w [(Obj.cells #[.slice none 0 0, .slice none 0 0, .slice none 0 0] 28), (Obj.cells #[.int .u64 0, .int .u64 8589934592, .int .u64 0, .int .u64 0] 41), (Obj.cells #[.int .u64 0, .int .u64 17179869184, .int .u64 0, .int .u64 0] 41), (Obj.cells #[.int .u64 18446744073709551615, .int .u64 18446744047939747839, .int .u64 18446744073709551615, .int .u64 18446744073709551615, .int .u64 0, .int .u64 8589934592, .int .u64 0, .int .u64 0, .int .u64 0, .int .u64 17179869184, .int .u64 0, .int .u64 0] 41), (Obj.cells #[.slice (some ⟨w.heap.size + 1 + 1 + 1, 0, none⟩) 3 3, .slice none 0 0, .slice none 0 0] 28)] 4 rfl
    have hbw : Below w.heap.size w W0 := by rw [← hWW]; exact al_below [(Obj.cells #[.slice none 0 0, .slice none 0 0, .slice none 0 0] 28), (Obj.cells #[.int .u64 0, .int .u64 8589934592, .int .u64 0, .int .u64 0] 41), (Obj.cells #[.int .u64 0, .int .u64 17179869184, .int .u64 0, .int .u64 0] 41), (Obj.cells #[.int .u64 18446744073709551615, .int .u64 18446744047939747839, .int .u64 18446744073709551615, .int .u64 18446744073709551615, .int .u64 0, .int .u64 8589934592, .int .u64 0, .int .u64 0, .int .u64 0, .int .u64 17179869184, .int .u64 0, .int .u64 0] 41), (Obj.cells #[.slice (some ⟨w.heap.size + 1 + 1 + 1, 0, none⟩) 3 3, .slice none 0 0, .slice none 0 0] 28)] w
    have hB : w.heap.size + 1 + 1 + 1 + 1 + 1 ≤ W0.heap.size := DD.lt
    clear hWW
    obtain ⟨B, hBe⟩ : ∃ B, B = w.heap.size + 1 + 1 + 1 + 1 + 1 := ⟨_, rfl⟩
    have hDB : w.heap.size + 1 + 1 + 1 + 1 < B := by omega
    have hqD : w.heap.size + 1 + 1 + 1 < w.heap.size + 1 + 1 + 1 + 1 := by omega
    have hwq : w.heap.size < w.heap.size + 1 + 1 + 1 := by omega
    rw [← hBe] at hB
    clear hBe
    generalize w.heap.size + 1 + 1 + 1 + 1 = D at DD hDB hqD ⊢
    generalize w.heap.size + 1 + 1 + 1 = q at Q DD hqD hwq ⊢
    have O1 := World.ownsRow_nil W0 B 42 1
    have O2 := World.ownsRow_nil W0 B 4 1
    go_loopw [7] (fun i wr => ∃ (S : Nat) (u1 u2 : Value) (vs : List Value), i = .int .i64 (S : Int) ∧ S ≤ n ∧ vs.length = S ∧ Blk wr w.heap.size #[.slice none 0 0, .slice none 0 0, .slice none 0 0] 28 ∧ Blk wr q #[.int .u64 18446744073709551615, .int .u64 18446744047939747839, .int .u64 18446744073709551615, .int .u64 18446744073709551615, .int .u64 0, .int .u64 8589934592, .int .u64 0, .int .u64 0, .int .u64 0, .int .u64 17179869184, .int .u64 0, .int .u64 0] 41 ∧ Blk wr D #[.slice (some ⟨q, 0, none⟩) 3 3, u1, u2] 28 ∧
        wr.ownsRow B 42 1 u1 S vs ∧ wr.ownsRow B 4 1 u2 S (((List.range S).map (macc l)).map Value.bool) ∧ Apart u1 u2 ∧ RowsM wr B l n u1 u2 vs ∧ B ≤ wr.heap.size ∧ Below w.heap.size w wr) (fun i _ => n - (RowKit.intOf i).toNat)
    case atStart => exact ⟨0, _, _, [], rfl, Nat.zero_le _, rfl, R, Q, DD, O1, own_cast O2 rfl rfl, apart_nil _, rowsM_nil _ _ _ _ _ _, hB, hbw⟩
    case round =>
      clear R Q DD hB hbw O1 O2
      obtain ⟨S, u1, u2, vs, rfl, hS, hvs, R, Q, DD, O1, O2, hap, hrows, hB, hbw⟩ := hrel
      have HS1 := Lib.hid hvs
      clear hvs
      by_cases hlt : S < n
      · have O3 : (wr.alloc (.cells #[] 3)).ownsRow B 3 1 (.slice (some ⟨wr.heap.size, 0, none⟩) 0 0) 0 [] := own_of_blk (Blk.new wr #[] 3) 0 1 rfl (by unfold maxLen; omega) hB
        have hr1 : Apart (.slice (some ⟨wr.heap.size, 0, none⟩) 0 0) u1 := fun g e1 e2 => by have h9 := own_lt O1 g e2; have h8 : wr.heap.size = g := Option.some.inj e1; omega
        have hr2 : Apart (.slice (some ⟨wr.heap.size, 0, none⟩) 0 0) u2 := fun g e1 e2 => by have h9 := own_lt O2 g e2; have h8 : wr.heap.size = g := Option.some.inj e1; omega
        have hr3 : ∀ (i : Nat) (x : Value), vs[i]? = some x → Apart x (.slice (some ⟨wr.heap.size, 0, none⟩) 0 0) := fun i x hx g e1 e2 => by have h9 := own_lt (hrows i x hx).1 g e1; have h8 : wr.heap.size = g := Option.some.inj e2; omega
        have R1 := R.alloc (.cells #[] 3)
        have Q1 := Q.alloc (.cells #[] 3)
        have D1 := DD.alloc (.cells #[] 3)
        have P1 := own_alloc O1 (.cells #[] 3)
        have P2 := own_alloc O2 (.cells #[] 3)
        have hrows1 : RowsM (wr.alloc (.cells #[] 3)) B l n u1 u2 vs := fun i x hx => ⟨own_alloc (hrows i x hx).1 _, (hrows i x hx).2⟩
        have hB1 : B ≤ (wr.alloc (.cells #[] 3)).heap.size := by simp; omega
        have hbw1 := hbw.alloc hbw.size (.cells #[] 3)
        clear R Q DD O1 O2 hrows hB hbw
        have hd : decide ((S : Int) < (n : Int)) = true := decide_eq_true (by omega)
        go_wp2_with fail
        try simp only [hd]
        generalize wr.alloc (.cells #[] 3) = w1 at O3 R1 Q1 D1 P1 P2 hrows1 hB1 hbw1 ⊢
        go_loopw [8, 9] (fun rv c wi => ∃ (C : Nat) (u2 : Value), c = .int .i64 (C : Int) ∧ C ≤ 4 ∧ Blk wi w.heap.size #[.slice none 0 0, .slice none 0 0, .slice none 0 0] 28 ∧ Blk wi q #[.int .u64 18446744073709551615, .int .u64 18446744047939747839, .int .u64 18446744073709551615, .int .u64 18446744073709551615, .int .u64 0, .int .u64 8589934592, .int .u64 0, .int .u64 0, .int .u64 0, .int .u64 17179869184, .int .u64 0, .int .u64 0] 41 ∧ Blk wi D #[.slice (some ⟨q, 0, none⟩) 3 3, u1, u2] 28 ∧
            wi.ownsRow B 42 1 u1 S vs ∧ wi.ownsRow B 4 1 u2 (S + C / 4) (((List.range (S + C / 4)).map (macc l)).map Value.bool) ∧ wi.ownsRow B 3 1 rv (min C 3) (((mrow l n S).take C).map (Value.int .i64)) ∧
            Apart u1 u2 ∧ Apart rv u1 ∧ Apart rv u2 ∧ RowsM wi B l n u1 u2 vs ∧ (∀ (i : Nat) (x : Value), vs[i]? = some x → Apart x rv) ∧ B ≤ wi.heap.size ∧ Below w.heap.size w wi) (fun _ c _ => 4 - (RowKit.intOf c).toNat)
        case atStart => exact ⟨0, u2, rfl, by omega, R1, Q1, D1, P1, P2, own_cast O3 rfl rfl, hap, hr1, hr2, hrows1, hr3, hB1, hbw1⟩
        case round =>
          clear R1 Q1 D1 P1 P2 O3 hrows1 hB1 hbw1 hap hr1 hr2 hr3 u2
          obtain ⟨C, u2, rfl, hC, R, Q, DD, O1, O2, O3, hap, hr1, hr2, hrows, hr3, hB, hbw⟩ := hrel
          obtain ⟨p1, k1, rfl⟩ := own_shape O1
          obtain ⟨p2, k2, rfl⟩ := own_shape O2
          obtain ⟨p3, k3, rfl⟩ := own_shape O3
          have hg1 := own_ge O1
          have hg2 := own_ge O2
          have hg3 := own_ge O3
          by_cases hlc : C < 4
          · obtain ⟨ix, hixe⟩ : ∃ ix, 1 + 4 * S + C = ix := ⟨_, rfl⟩
            have hix : (1 : Int) + 4 * (S : Int) + (C : Int) = (ix : Int) := by omega
            obtain ⟨kv, hkv⟩ : ∃ kv, mb l ix = kv := ⟨_, rfl⟩
            have hkl : kv < 256 := hkv ▸ HLt.out ix
            have hrd : (ix < l.length ∧ World.cell? wr ⟨blk0, off0 + ix, none⟩ = some (Value.int .u8 (kv : Int))) ∨ (¬ ix < l.length ∧ kv = 0) := by
              rcases Nat.lt_or_ge ix l.length with h4 | h4
              · obtain ⟨blk, off, e, hc, -⟩ := HR.out _ hbw ix h4
                rw [hkv] at hc
                simp only [Option.some.injEq, Addr.mk.injEq, and_true] at e
                obtain ⟨rfl, rfl⟩ := e
                exact .inl ⟨h4, hc⟩
              · exact .inr ⟨by omega, by rw [← hkv]; exact mb_out h4⟩
            by_cases hc3 : C < 3
            · have hd4 : S + C / 4 = S := by omega
              have hd5 : S + (C + 1) / 4 = S := by omega
              have hm1 : min C 3 = C := by omega
              have hm2 : min (C + 1) 3 = C + 1 := by omega
              rw [hd4] at O2 DD hap hr2 hrows
              rw [hm1] at O3 hr1 hr2 hr3 ⊢
              have hg2 := own_ge O2
              have hg3 := own_ge O3
              have HMr := Lib.hid (mrow_take l n S C hc3)
              rcases hrd with hrd | hrd
              · skip
                obtain ⟨h4, hcx⟩ := hrd
                have hmod : (kv : Int) % (n : Int) = ((kv % n : Nat) : Int) := (Int.natCast_emod kv n).symm
                have hcell : mcell l n S C = kv % n := by unfold mcell; rw [hixe, hkv]
                rw [hcell] at HMr
                have hnz : (n : Int) ≠ 0 := by omega
                have hml : kv % n < 8 := by have := Nat.mod_lt kv hn1.1; omega
                generalize kv % n = m at hmod HMr hml
                have HO1 := Lib.hid O1
                have HO2 := Lib.hid O2
                have HO3 := Lib.hid O3
                clear O1 O2 O3 hcell hkv hixe hd4 hm1
                go_wp2_with (at_builtin; refine wpList_append_own_at _ rfl _ _ 42 rfl B 3 ii _ 1 8 Tryd.underlying42 hii hi0 hi1 hi2 rfl (by decide) _ _ _ rfl (own_alloc HO3.out _) ⟨wr.heap.size, 0, none⟩ 1 1 [.int .i64 (m : Int)] rfl rfl (cells_newB _ _ _ _ rfl) (encN_one m) (by unfold maxLen; omega) (by omega) (by simp; omega) ?_; intro v' w6 hown2 hgrow _ hat; obtain ⟨p6, k6, rfl⟩ := own_shape hown2)
                go_roundw
                case rel =>
                  exact ⟨C + 1, _, by go_num, by omega,
                    (R.alloc _).grownBy hgrow (fun g e => by have := hg3 g e; omega),
                    (Q.alloc _).grownBy hgrow (fun g e => by have := hg3 g e; omega),
                    (DD.alloc _).grownBy hgrow (fun g e => by have := hg3 g e; omega),
                    own_grown (own_alloc HO1.out _) hgrow (fun g e1 e2 => hr1 g e1 e2),
                    by rw [hd5]; exact own_grown (own_alloc HO2.out _) hgrow (fun g e1 e2 => hr2 g e1 e2),
                    by rw [hm2, HMr.out]; exact own_cast hown2 rfl rfl,
                    hap, apart_new hr1 hat HO1.out, apart_new hr2 hat HO2.out,
                    fun i x hx => ⟨own_grown (own_alloc (hrows i x hx).1 _) hgrow (fun g e1 e2 => hr3 i x hx g e2 e1), (hrows i x hx).2⟩,
                    fun i x hx => (apart_new (hr3 i x hx).symm hat (hrows i x hx).1).symm,
                    by have h7 := hgrow.size; simp at h7 ⊢; omega,
                    (hbw.alloc hbw.size _).grown hgrow (by have h8 := hbw.size; simp; omega) (fun g e => by have := hg3 g e; omega)⟩
                case measure => simp [RowKit.intOf]; omega
              · skip
                obtain ⟨h4, rfl⟩ := hrd
                have hcell : mcell l n S C = 0 := by unfold mcell; rw [hixe, hkv, Nat.zero_mod]
                rw [hcell] at HMr
                have HO1 := Lib.hid O1
                have HO2 := Lib.hid O2
                have HO3 := Lib.hid O3
                clear O1 O2 O3 hcell hkv hixe hd4 hm1
                go_wp2_with (at_builtin; refine wpList_append_own_at _ rfl _ _ 42 rfl B 3 ii _ 1 8 Tryd.underlying42 hii hi0 hi1 hi2 rfl (by decide) _ _ _ rfl (own_alloc HO3.out _) ⟨wr.heap.size, 0, none⟩ 1 1 [.int .i64 0] rfl rfl (cells_newB _ _ _ _ rfl) (encN_one 0) (by unfold maxLen; omega) (by omega) (by simp; omega) ?_; intro v' w6 hown2 hgrow _ hat; obtain ⟨p6, k6, rfl⟩ := own_shape hown2)
                go_roundw
                case rel =>
                  exact ⟨C + 1, _, by go_num, by omega,
                    (R.alloc _).grownBy hgrow (fun g e => by have := hg3 g e; omega),
                    (Q.alloc _).grownBy hgrow (fun g e => by have := hg3 g e; omega),
                    (DD.alloc _).grownBy hgrow (fun g e => by have := hg3 g e; omega),
                    own_grown (own_alloc HO1.out _) hgrow (fun g e1 e2 => hr1 g e1 e2),
                    by rw [hd5]; exact own_grown (own_alloc HO2.out _) hgrow (fun g e1 e2 => hr2 g e1 e2),
                    by rw [hm2, HMr.out]; exact own_cast hown2 rfl rfl,
                    hap, apart_new hr1 hat HO1.out, apart_new hr2 hat HO2.out,
                    fun i x hx => ⟨own_grown (own_alloc (hrows i x hx).1 _) hgrow (fun g e1 e2 => hr3 i x hx g e2 e1), (hrows i x hx).2⟩,
                    fun i x hx => (apart_new (hr3 i x hx).symm hat (hrows i x hx).1).symm,
                    by have h7 := hgrow.size; simp at h7 ⊢; omega,
                    (hbw.alloc hbw.size _).grown hgrow (by have h8 := hbw.size; simp; omega) (fun g e => by have := hg3 g e; omega)⟩
                case measure => simp [RowKit.intOf]; omega
            · have hC3 : C = 3 := by omega
              have hd4 : S + C / 4 = S := by omega
              have hd5 : S + (C + 1) / 4 = S + 1 := by omega
              have hm1 : min C 3 = 3 := by omega
              have hm2 : min (C + 1) 3 = 3 := by omega
              rw [hd4] at O2 DD hap hr2 hrows
              rw [hm1] at O3 hr1 hr2 hr3 ⊢
              have hg2 := own_ge O2
              have hg3 := own_ge O3
              have HTk := Lib.hid (show ((mrow l n S).take (C + 1)).map (Value.int .i64) = ((mrow l n S).take C).map (Value.int .i64) by rw [hC3]; rfl)
              obtain ⟨b, hbe⟩ : ∃ b, macc l S = b := ⟨_, rfl⟩
              rcases hrd with hrd | hrd
              · skip
                obtain ⟨h4, hcx⟩ := hrd
                have hbk : ((kv : Int) % 3 == 1) = b := by
                  rw [← hbe]; unfold macc
                  rw [show 1 + 4 * S + 3 = ix by omega, hkv, Bool.eq_iff_iff, beq_iff_eq, decide_eq_true_iff]
                  omega
                have HOb := Lib.hid (show ((List.range (S + 1)).map (macc l)).map Value.bool = ((List.range S).map (macc l)).map Value.bool ++ [Value.bool b] by rw [range_snoc, List.map_append, hbe]; rfl)
                have HO1 := Lib.hid O1
                have HO2 := Lib.hid O2
                have HO3 := Lib.hid O3
                have d2 := DD.cell 2 rfl
                have fz := DD.free 2
                have dl := DD.lt
                clear O1 O2 O3 hkv hixe hd4 hm1 hbe hC3
                go_wp2_with (at_builtin; refine wpList_append_own_at _ rfl _ _ 26 rfl B 4 ib _ 1 1 Tryd.underlying26 hib hb0 hb1 hb2 rfl (by decide) _ _ _ rfl (own_alloc HO2.out _) ⟨wr.heap.size, 0, none⟩ 1 1 [.bool b] rfl rfl (cells_newB _ _ _ _ rfl) (bool_one b) (by unfold maxLen; omega) (by omega) (by simp; omega) ?_; intro v' w6 hown2 hgrow _ hat; obtain ⟨p6, k6, rfl⟩ := own_shape hown2; have D6 := (DD.alloc (.cells #[.bool b] 4)).grownBy hgrow (fun g e => by have := hg2 g e; omega); have d6 := D6.cell 2 rfl; have f6 := D6.free 2)
                go_roundw
                case rel =>
                  exact ⟨C + 1, _, by go_num, by omega,
                    ((R.alloc _).grownBy hgrow (fun g e => by have := hg2 g e; omega)).other (by show w.heap.size ≠ D; omega) _,
                    ((Q.alloc _).grownBy hgrow (fun g e => by have := hg2 g e; omega)).other (by show q ≠ D; omega) _,
                    D6.set 2 _,
                    own_set (p := ⟨D, 2, none⟩) (own_grown (own_alloc HO1.out _) hgrow (fun g e1 e2 => hap g e2 e1)) hDB _,
                    by rw [hd5, HOb.out]; exact own_set (p := ⟨D, 2, none⟩) hown2 hDB _,
                    by rw [hm2, HTk.out]; exact own_set (p := ⟨D, 2, none⟩) (own_grown (own_alloc HO3.out _) hgrow (fun g e1 e2 => hr2 g e2 e1)) hDB _,
                    (apart_new hap.symm hat HO1.out).symm, hr1, (apart_new hr2.symm hat HO3.out).symm,
                    fun i x hx => ⟨own_set (p := ⟨D, 2, none⟩) (own_grown (own_alloc (hrows i x hx).1 _) hgrow (fun g e1 e2 => (hrows i x hx).2.2 g e2 e1)) hDB _, (hrows i x hx).2.1, (apart_new (hrows i x hx).2.2.symm hat (hrows i x hx).1).symm⟩,
                    hr3,
                    by have h7 := hgrow.size; simp at h7 ⊢; omega,
                    ((hbw.alloc hbw.size _).grown hgrow (by have h8 := hbw.size; simp; omega) (fun g e => by have := hg2 g e; omega)).setCell (by show w.heap.size ≤ D; omega) _⟩
                case measure => simp [RowKit.intOf]; omega
              · skip
                obtain ⟨h4, rfl⟩ := hrd
                have hbf : b = false := by
                  rw [← hbe]; unfold macc
                  rw [show 1 + 4 * S + 3 = ix by omega, hkv]; rfl
                subst hbf
                have HOb := Lib.hid (show ((List.range (S + 1)).map (macc l)).map Value.bool = ((List.range S).map (macc l)).map Value.bool ++ [Value.bool false] by rw [range_snoc, List.map_append, hbe]; rfl)
                have HO1 := Lib.hid O1
                have HO2 := Lib.hid O2
                have HO3 := Lib.hid O3
                have d2 := DD.cell 2 rfl
                have fz := DD.free 2
                have dl := DD.lt
                clear O1 O2 O3 hkv hixe hd4 hm1 hbe hC3
                go_wp2_with (at_builtin; refine wpList_append_own_at _ rfl _ _ 26 rfl B 4 ib _ 1 1 Tryd.underlying26 hib hb0 hb1 hb2 rfl (by decide) _ _ _ rfl (own_alloc HO2.out _) ⟨wr.heap.size, 0, none⟩ 1 1 [.bool false] rfl rfl (cells_newB _ _ _ _ rfl) (bool_one false) (by unfold maxLen; omega) (by omega) (by simp; omega) ?_; intro v' w6 hown2 hgrow _ hat; obtain ⟨p6, k6, rfl⟩ := own_shape hown2; have D6 := (DD.alloc (.cells #[.bool false] 4)).grownBy hgrow (fun g e => by have := hg2 g e; omega); have d6 := D6.cell 2 rfl; have f6 := D6.free 2)
                go_roundw
                case rel =>
                  exact ⟨C + 1, _, by go_num, by omega,
                    ((R.alloc _).grownBy hgrow (fun g e => by have := hg2 g e; omega)).other (by show w.heap.size ≠ D; omega) _,
                    ((Q.alloc _).grownBy hgrow (fun g e => by have := hg2 g e; omega)).other (by show q ≠ D; omega) _,
                    D6.set 2 _,
                    own_set (p := ⟨D, 2, none⟩) (own_grown (own_alloc HO1.out _) hgrow (fun g e1 e2 => hap g e2 e1)) hDB _,
                    by rw [hd5, HOb.out]; exact own_set (p := ⟨D, 2, none⟩) hown2 hDB _,
                    by rw [hm2, HTk.out]; exact own_set (p := ⟨D, 2, none⟩) (own_grown (own_alloc HO3.out _) hgrow (fun g e1 e2 => hr2 g e2 e1)) hDB _,
                    (apart_new hap.symm hat HO1.out).symm, hr1, (apart_new hr2.symm hat HO3.out).symm,
                    fun i x hx => ⟨own_set (p := ⟨D, 2, none⟩) (own_grown (own_alloc (hrows i x hx).1 _) hgrow (fun g e1 e2 => (hrows i x hx).2.2 g e2 e1)) hDB _, (hrows i x hx).2.1, (apart_new (hrows i x hx).2.2.symm hat (hrows i x hx).1).symm⟩,
                    hr3,
                    by have h7 := hgrow.size; simp at h7 ⊢; omega,
                    ((hbw.alloc hbw.size _).grown hgrow (by have h8 := hbw.size; simp; omega) (fun g e => by have := hg2 g e; omega)).setCell (by show w.heap.size ≤ D; omega) _⟩
                case measure => simp [RowKit.intOf]; omega
          · have hC4 : C = 4 := by omega
            have hd4 : S + C / 4 = S + 1 := by omega
            have hm1 : min C 3 = 3 := by omega
            rw [hd4] at O2 DD hap hr2 hrows
            rw [hm1] at O3 hr1 hr2 hr3 ⊢
            have hT3 : ((mrow l n S).take C).map (Value.int .i64) = (mrow l n S).map (Value.int .i64) := by rw [hC4]; rfl
            rw [hT3] at O3
            have HO1 := Lib.hid O1
            have HO2 := Lib.hid O2
            have HO3 := Lib.hid O3
            have d1 := DD.cell 1 rfl
            have fz := DD.free 1
            have dl := DD.lt
            clear O1 O2 O3 hd4 hm1 hT3 hC4
            go_wp2_with (at_builtin; refine wpList_append_own_at _ rfl _ _ 25 rfl B 42 ir _ 1 24 Tryd.underlying25 hir hx0 hx1 hx2 rfl (by decide) _ _ _ rfl (own_alloc HO1.out _) ⟨wr.heap.size, 0, none⟩ 1 1 [.slice p3 3 k3] rfl rfl (cells_newB _ _ _ _ rfl) (slice_one _ _ _) (by unfold maxLen; omega) (by omega) (by simp; omega) ?_; intro v' w6 hown2 hgrow _ hat; obtain ⟨p6, k6, rfl⟩ := own_shape hown2; have D6 := (DD.alloc (.cells #[.slice p3 3 k3] 42)).grownBy hgrow (fun g e => by have := hg1 g e; omega); have d6 := D6.cell 1 rfl; have f6 := D6.free 1)
            go_roundw
            case rel =>
              exact ⟨S + 1, _, _, vs ++ [.slice p3 3 k3], by go_num, by omega, by rw [List.length_append, HS1.out]; rfl,
                ((R.alloc _).grownBy hgrow (fun g e => by have := hg1 g e; omega)).other (by show w.heap.size ≠ D; omega) _,
                ((Q.alloc _).grownBy hgrow (fun g e => by have := hg1 g e; omega)).other (by show q ≠ D; omega) _,
                D6.set 1 _,
                own_set (p := ⟨D, 1, none⟩) hown2 hDB _,
                own_set (p := ⟨D, 1, none⟩) (own_grown (own_alloc HO2.out _) hgrow (fun g e1 e2 => hap g e1 e2)) hDB _,
                apart_new hap hat HO2.out,
                rowsM_snoc (fun i x hx => ⟨own_set (p := ⟨D, 1, none⟩) (own_grown (own_alloc (hrows i x hx).1 _) hgrow (fun g e1 e2 => (hrows i x hx).2.1 g e2 e1)) hDB _, (apart_new (hrows i x hx).2.1.symm hat (hrows i x hx).1).symm, (hrows i x hx).2.2⟩)
                  (by rw [HS1.out]; exact own_set (p := ⟨D, 1, none⟩) (own_grown (own_alloc HO3.out _) hgrow (fun g e1 e2 => hr1 g e2 e1)) hDB _) (apart_new hr1.symm hat HO3.out).symm hr2,
                by have h7 := hgrow.size; simp at h7 ⊢; omega,
                ((hbw.alloc hbw.size _).grown hgrow (by have h8 := hbw.size; simp; omega) (fun g e => by have := hg1 g e; omega)).setCell (by show w.heap.size ≤ D; omega) _⟩
            case measure => simp [RowKit.intOf]; omega
      · have hSn : S = n := by omega
        subst hSn
        obtain ⟨p1, k1, rfl⟩ := own_shape O1
        obtain ⟨p2, k2, rfl⟩ := own_shape O2
        have d0 := DD.cell 0 rfl
        have d1 := DD.cell 1 rfl
        have d2 := DD.cell 2 rfl
        have r0 := R.cell 0 rfl
        have r1 := R.cell 1 rfl
        have r2 := R.cell 2 rfl
        have z0 := R.free 0
        have z1 := R.free 1
        have z2 := R.free 2
        have hsB : w.heap.size < B := by omega
        have HO := Lib.hid (And.intro O1 (And.intro O2 hrows))
        clear O1 O2 hrows
        go_wp2
        have t0 : (wr.setCell ⟨w.heap.size, 0, none⟩ (.slice (some ⟨q, 0, none⟩) 3 3)).cell? ⟨w.heap.size, 0, none⟩ = some (.slice (some ⟨q, 0, none⟩) 3 3) := (R.set 0 _).cell 0 rfl
        have t1 : ((wr.setCell ⟨w.heap.size, 0, none⟩ (.slice (some ⟨q, 0, none⟩) 3 3)).setCell ⟨w.heap.size, 1, none⟩ (.slice p1 S k1)).cell? ⟨w.heap.size, 1, none⟩ = some (.slice p1 S k1) := ((R.set 0 _).set 1 _).cell 1 rfl
        have t2 : (((wr.setCell ⟨w.heap.size, 0, none⟩ (.slice (some ⟨q, 0, none⟩) 3 3)).setCell ⟨w.heap.size, 1, none⟩ (.slice p1 S k1)).setCell ⟨w.heap.size, 2, none⟩ (.slice p2 S k2)).cell? ⟨w.heap.size, 2, none⟩ = some (.slice p2 S k2) := (((R.set 0 _).set 1 _).set 2 _).cell 2 rfl
        have Q' := ((Q.other (a := ⟨w.heap.size, 0, none⟩) (by show q ≠ w.heap.size; omega) (.slice (some ⟨q, 0, none⟩) 3 3)).other (a := ⟨w.heap.size, 1, none⟩) (by show q ≠ w.heap.size; omega) (.slice p1 S k1)).other (a := ⟨w.heap.size, 2, none⟩) (by show q ≠ w.heap.size; omega) (.slice p2 S k2)
        have M1 := own_cast (own_set (p := ⟨w.heap.size, 2, none⟩) (own_set (p := ⟨w.heap.size, 1, none⟩) (own_set (p := ⟨w.heap.size, 0, none⟩) HO.out.1 hsB (.slice (some ⟨q, 0, none⟩) 3 3)) hsB (.slice p1 S k1)) hsB (.slice p2 S k2)) HS1.out.symm rfl
        have M2 : RowsM _ B l S (.slice p1 S k1) (.slice p2 S k2) vs := fun i x hx => ⟨own_set (p := ⟨w.heap.size, 2, none⟩) (own_set (p := ⟨w.heap.size, 1, none⟩) (own_set (p := ⟨w.heap.size, 0, none⟩) (HO.out.2.2 i x hx).1 hsB (.slice (some ⟨q, 0, none⟩) 3 3)) hsB (.slice p1 S k1)) hsB (.slice p2 S k2), (HO.out.2.2 i x hx).2⟩
        have A1 := own_set (p := ⟨w.heap.size, 2, none⟩) (own_set (p := ⟨w.heap.size, 1, none⟩) (own_set (p := ⟨w.heap.size, 0, none⟩) HO.out.2.1 hsB (.slice (some ⟨q, 0, none⟩) 3 3)) hsB (.slice p1 S k1)) hsB (.slice p2 S k2)
        refine bodyPost_ret (v := .agg #[.slice (some ⟨q, 0, none⟩) 3 3, .slice p1 S k1, .slice p2 S k2]) (by simp [results, Tryd.results5, go_sem, t0, t1, t2]) rfl ⟨⟨_, rfl, B, q, p1, k1, p2, k2, vs, rfl, (by omega), (by omega), HS1.out, Q', own_cast M1 HS1.out rfl, own_cast A1 rfl rfl, M2, hap⟩, ((hbw.setCell (Nat.le_refl _) _).setCell (Nat.le_refl _) _).setCell (Nat.le_refl _) _⟩
theorem OwnD.isD {w : World} {B0 : Nat} {v : Value} {l : List Int} {n : Nat} (h : OwnD w B0 v l n) : IsD w v clsM ((List.range n).map (mrow l n)) ((List.range n).map (macc l)) := by
  obtain ⟨B, q, p1, k1, p2, k2, vs, rfl, hq0, hq, hvs, Q, O1, O2, hr, hap⟩ := h
  have M' := own_isM (own_cast O1 hvs.symm rfl) hr
  rw [hvs] at M'
  exact ⟨_, _, _, rfl, isC_m Q, M', own_isB (own_cast O2 (by simp) rfl)⟩
theorem machine_any (p : Option Addr) (k : Nat) (l : List Int) (w : World) (hv : IsY w (.slice p l.length k) l) (hb : ∀ z ∈ l, 0 ≤ z ∧ z < 256) (hl : l.length ≤ 1152921504606846976) :
    Calls Tryd.prog 5 #[.slice p l.length k] w fun e w' =>
      (∃ v, e = .returned v ∧ IsD w' v clsM ((List.range (mn l)).map (mrow l (mn l))) ((List.range (mn l)).map (macc l))) ∧ Below w.heap.size w w' :=
  (machine_own p k l w hv hb hl).mono fun _ _ ⟨⟨v, he, h⟩, hb⟩ => ⟨⟨v, he, h.isD⟩, hb⟩
end Go.Proofs.YtepncbbegpeilaaDoor
