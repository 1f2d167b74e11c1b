/-
  Texts of the proof, one behind another: Kb, Kc.
-/
import Derived.Test.YtgbbjobmcbdhdaaGreatDoorYdh
import Derived.Test.YtgbbjobmcbdhdaaGreatDoorYcf
import Derived.Test.YtgbbjobmcbdhdaaGreatDoorYcb
set_option linter.unusedSimpArgs false
set_option linter.unusedVariables false
/-
  Rows of sets: an own slice of slices, all of whose block's cells are slices: an append to it, and what it leaves alone.
-/
namespace Go.Proofs.YtgbbjobmcbdhdaaGreatDoor
open Go.RowKit

def isSl : Value → Prop
  | .slice _ _ _ => True
  | _ => False
/-- every cell of the block that a slice owns is a slice. -/
def AllSl (W : World) (v : Value) : Prop := ∀ g, v.ownBlock = some g → ∃ cur t m, W.heap[g]? = some (.cells cur t m) ∧ ∀ u ∈ cur.toList, isSl u
theorem AllSl.nil (W : World) : AllSl W (.slice none 0 0) := fun g h => by simp [Value.ownBlock] at h
theorem AllSl.block {W W' : World} {v : Value} (h : AllSl W v) (hb : ∀ g, v.ownBlock = some g → W'.heap[g]? = W.heap[g]?) : AllSl W' v := fun g hg => by
  obtain ⟨cur, t, m, h1, h2⟩ := h g hg
  exact ⟨cur, t, m, (hb g hg).trans h1, h2⟩
theorem isS_kept_sl {w w' : World} {v : Value} {l : List (Nat × Nat)} (h : IsS w v l) (hk : ∀ a u, w.cell? a = some u → ¬ isSl u → w'.cell? a = some u) : IsS w' v l := by
  rcases h with h | ⟨blk, off, cap, rfl, h⟩
  · exact .inl h
  · refine .inr ⟨blk, off, cap, rfl, fun j x hj i v hi => hk _ _ (h j x hj i v hi) ?_⟩
    unfold encS at hi
    rcases i with _ | _ | i
    · simp only [List.getElem?_cons_zero, Option.some.injEq] at hi; subst hi; exact fun h => h
    · simp only [List.getElem?_cons_succ, List.getElem?_cons_zero, Option.some.injEq] at hi; subst hi; exact fun h => h
    · simp at hi
theorem infoSl : (Tryz.prog.info? 62).map (fun i => (i.zero, i.size, i.bytes)) = some (some (.slice none 0 0), 1, 24) := by kernel_rfl
/-- one slice is appended. -/
theorem run_append_sl (W : World) (base : Nat) (ty : TypeId) (v : Value) (n : Nat) (vs : List Value) (hown : W.ownsRow base 62 1 v n vs) (hall : AllSl W v) (q : Option Addr) (k c : Nat) (B : Nat) (hB : Blk W B #[.slice q k c] 62) (hn : n ≤ 1099511627776) (hbase : base ≤ W.heap.size) :
    ∃ v' W', (Builtin.append_ #[96, 96] ty #[v, .slice (some ⟨B, 0, none⟩) 1 1]).run Tryz.prog W = .ok v' W' ∧ W'.ownsRow base 62 1 v' (n + 1) (vs ++ [.slice q k c]) ∧ W.grownBy W' v.ownBlock ∧
      NewRow W v v' ∧ AllSl W' v' := by
  obtain ⟨i0, hi, hz0, hz1, hz2⟩ := info_parts infoSl
  have hnews : ∀ j u, [Value.slice q k c][j]? = some u → W.cell? ((⟨B, 0, none⟩ : Addr).add j) = some u := by
    intro j u hu
    have hadd : (⟨B, 0, none⟩ : Addr).add j = ⟨B, j, none⟩ := by unfold Addr.add; split <;> simp_all
    rw [hadd]
    exact hB.cell j (by simpa using hu)
  obtain ⟨v', W', hr, h1, h2, _, h4⟩ := run_append_own_at (P := Tryz.prog) W base 96 ty 62 i0 _ 1 24 Tryz.underlying96 hi hz0 hz1 hz2 rfl (by decide) v n vs hown ⟨B, 0, none⟩ 1 1 [.slice q k c] rfl hnews (by intro u hu; simp only [List.mem_singleton] at hu; subst hu; rfl) (by simp only [maxLen]; omega) (by omega) hbase
  refine ⟨v', W', hr, h1, h2, ?_, ?_⟩
  · rcases h4 with h | h
    · exact .inl h
    · exact .inr fun r e => by rw [h] at e; cases e; exact Nat.le_refl _
  · have hzc : ∀ (m : Nat) (u : Value), u ∈ (Builtin.zeroCells (Value.slice none 0 0).cells m).toList → isSl u := by
      intro m u hu
      have hu2 : u ∈ Builtin.zeroCells #[Value.slice none 0 0] m := by simpa [Value.cells] using hu
      unfold Builtin.zeroCells at hu2
      rw [Array.mem_map] at hu2
      obtain ⟨i, _, rfl⟩ := hu2
      have h0 : i % (#[Value.slice none 0 0] : Array Value).size = 0 := Nat.mod_one i
      rw [h0]
      trivial
    have hvs : ∀ u ∈ vs, isSl u := by
      intro u hu
      rcases hown.2 with ⟨_, h0⟩ | ⟨g, cap, cur, rfl, _, hg, _, _, _, ht⟩
      · have hl := hown.1
        rw [h0] at hl
        have : vs = [] := List.eq_nil_of_length_eq_zero (by simpa using hl)
        subst this; cases hu
      · obtain ⟨cur', t, m, h3, h5⟩ := hall g rfl
        rw [hg] at h3; cases h3
        exact h5 u (List.mem_of_mem_take (by rw [ht]; exact hu))
    rcases hown.2 with ⟨rfl, rfl⟩ | ⟨g, cap, cur, rfl, hbg, hg, hnc, hcm, hcs, ht⟩
    · have hv0 : vs = [] := List.eq_nil_of_length_eq_zero (by simpa using hown.1)
      subst hv0
      have hr2 := run_append_nil (P := Tryz.prog) W 96 ty 62 i0 _ Tryz.underlying96 hi hz0 ⟨B, 0, none⟩ 1 1 [.slice q k c] (by rw [hz1]; rfl) hnews (by omega) (by omega) (by rw [hz2]; omega)
      rw [hr] at hr2
      injection hr2 with e1 e2
      subst e1 e2
      intro g hg
      obtain rfl : W.heap.size = g := by simpa [Value.ownBlock] using hg
      refine ⟨_, _, _, heap_alloc_new W.drew _, fun u hu => ?_⟩
      simp only [Array.toList_append, List.mem_append] at hu
      rcases hu with hu | hu
      · simp only [List.mem_singleton] at hu; subst hu; trivial
      · exact hzc _ _ hu
    · by_cases hroom : n + 1 ≤ cap
      · have hr2 := run_append_room (P := Tryz.prog) W 96 ty 62 i0 Tryz.underlying96 hi g n cap cur hg ⟨B, 0, none⟩ 1 1 [.slice q k c] (by rw [hz1]; rfl) hnews (by intro u hu; simp only [List.mem_singleton] at hu; subst hu; rfl) hroom (by rw [hz1]; simp only [List.length_singleton]; omega)
        rw [hr] at hr2
        injection hr2 with e1 e2
        subst e1 e2
        intro g' hg'
        obtain rfl : g = g' := by simpa [Value.ownBlock] using hg'
        obtain ⟨cur', t, m, h3, h5⟩ := hall g rfl
        rw [hg] at h3; cases h3
        refine ⟨_, _, _, setRow_heap W g cur _ _ _ hg, fun u hu => ?_⟩
        simp only [List.mem_append] at hu
        rcases hu with (hu | hu) | hu
        · exact h5 u (List.mem_of_mem_take hu)
        · simp only [List.mem_singleton] at hu; subst hu; trivial
        · exact h5 u (List.mem_of_mem_drop hu)
      · have holds : ∀ j u, vs[j]? = some u → W.cell? ((⟨g, 0, none⟩ : Addr).add j) = some u := hown.cells (g := g) rfl
        have hr2 := run_append_grow (P := Tryz.prog) W 96 ty 62 i0 _ Tryz.underlying96 hi hz0 ⟨g, 0, none⟩ n cap vs (by rw [hz1]; exact hown.1) holds ⟨B, 0, none⟩ 1 1 [.slice q k c] (by rw [hz1]; rfl) hnews (by omega) (by omega) (by rw [hz2]; exact growslice_fits (by omega) (by omega))
        rw [hr] at hr2
        injection hr2 with e1 e2
        subst e1 e2
        intro g' hg'
        obtain rfl : W.heap.size = g' := by simpa [Value.ownBlock] using hg'
        refine ⟨_, _, _, heap_alloc_new W.drew _, fun u hu => ?_⟩
        simp only [Array.toList_append, List.mem_append] at hu
        rcases hu with (hu | hu) | hu
        · exact hvs u hu
        · simp only [List.mem_singleton] at hu; subst hu; trivial
        · exact hzc _ _ hu
/-- a box of slices: the old slice's row grew, the new one is stored. -/
theorem box_sl {W w1 : World} {base eb : Nat} {X : Nat → Prop} {v v' : Value} {n m : Nat} {xs ys : List Value} (hv : Boxed W eb 96 v) (hsv : isSl v) (hrow : W.ownsRow base 62 1 v n xs) (hbase : base ≤ eb) (hall : AllSl W v)
    (hown : w1.ownsRow base 62 1 v' m ys) (hnew : NewRow W v v') (hall' : AllSl w1 v') (hg : W.grownBy w1 v.ownBlock) :
    Boxed (w1.setCell ⟨eb, 0, none⟩ v') eb 96 v' ∧ (w1.setCell ⟨eb, 0, none⟩ v').ownsRow base 62 1 v' m ys ∧ AllSl (w1.setCell ⟨eb, 0, none⟩ v') v' ∧ KeepsOthers W (w1.setCell ⟨eb, 0, none⟩ v') ∧ KpR eb X W (w1.setCell ⟨eb, 0, none⟩ v') ∧
      (∀ a u, W.cell? a = some u → ¬ isSl u → (w1.setCell ⟨eb, 0, none⟩ v').cell? a = some u) ∧ Below base W (w1.setCell ⟨eb, 0, none⟩ v') ∧ (∀ k, k < W.heap.size → (∀ cs t m, W.heap[k]? ≠ some (.cells cs t m)) → (w1.setCell ⟨eb, 0, none⟩ v').heap[k]? = W.heap[k]?) := by
  have hne := hv.not_row (by decide) hrow
  have hv1 := hv.kept hg hne
  have hrw : rowOf W eb = v.ownBlock := by unfold rowOf; rw [hv.cell]
  have hv2 := hv1.set v'
  have hrw2 : rowOf (w1.setCell ⟨eb, 0, none⟩ v') eb = v'.ownBlock := by unfold rowOf; rw [hv2.cell]
  have hsame : ∀ k, k ≠ eb → (∀ g, v.ownBlock = some g → k ≠ g) → k < W.heap.size → (w1.setCell ⟨eb, 0, none⟩ v').heap[k]? = W.heap[k]? := fun k h1 h2 h3 =>
    (Below.heap_setCell _ _ _ _ (by simpa using h1)).trans (hg.block k h3 (fun e => h2 k e.symm rfl))
  have hsz : W.heap.size ≤ (w1.setCell ⟨eb, 0, none⟩ v').heap.size := by simpa using hg.size
  have hrowlt : ∀ g, v.ownBlock = some g → g < W.heap.size ∧ base ≤ g ∧ ∃ cs t m, W.heap[g]? = some (.cells cs t m) := by
    intro g e
    rcases hrow.2 with ⟨rfl, _⟩ | ⟨g', cap, cur, rfl, hb, hgb, _⟩
    · simp [Value.ownBlock] at e
    · obtain rfl : g' = g := by simpa [Value.ownBlock] using e
      exact ⟨heap_lt hgb, hb, _, _, _, hgb⟩
  have hne' : ∀ g, v'.ownBlock = some g → g ≠ eb := fun g e h => hv1.not_row (by decide) hown (by rw [e, h])
  refine ⟨hv2, hown.kept (grownBy_setCell' w1 eb v') (.inr (hv1.not_row (by decide) hown).symm), hall'.block fun g hg => Below.heap_setCell _ _ _ _ (by simpa using hne' g hg), ?_, ?_, ?_, ?_, ?_⟩
  · refine (KeepsOthers.of_grownBy hg fun j o ej hj => ?_).trans (KeepsOthers.setCell _ _ _)
    obtain ⟨_, _, cs, t, m, hh⟩ := hrowlt j ej
    rw [hh] at hj; cases hj; rfl
  · refine ⟨hsz, fun k cs t m hk h1 h2 h3 => (hsame k h1 (fun g e e2 => h3 (by rw [hrw, e, e2])) (heap_lt hk)).trans hk, ?_, fun h0 r hr => ?_⟩
    · rcases hnew with h | h
      · exact .inl (by rw [hrw2, hrw, h])
      · exact .inr fun r hr => h r (by rw [← hrw2]; exact hr)
    · rw [hrw2] at hr
      rcases hown.2 with ⟨rfl, _⟩ | ⟨g', cap, cur, rfl, hb, hgb, _⟩
      · simp [Value.ownBlock] at hr
      · obtain rfl : g' = r := by simpa [Value.ownBlock] using hr
        have := heap_lt hgb
        simpa using this
  · intro a u ha hns
    by_cases h1 : a.block = eb
    · exfalso
      have hc : W.heap[eb]? = some (.cells #[v] 96 (0, 0)) := hv
      unfold World.cell? at ha
      rw [h1, hc] at ha
      obtain ⟨ab, ao, al⟩ := a
      rcases al with _ | al
      · rcases ao with _ | ao
        · simp at ha; subst ha; exact hns hsv
        · simp at ha
      · simp at ha
    · by_cases h2 : v.ownBlock = some a.block
      · exfalso
        obtain ⟨cur, t, m, h3, h4⟩ := hall _ h2
        obtain ⟨ab, ao, al⟩ := a
        simp only at h3
        unfold World.cell? at ha
        simp only [h3] at ha
        rcases al with _ | al
        · exact hns (h4 u (by
            have := Array.mem_of_getElem? (show cur[ao]? = some u from ha)
            simpa using this))
        · simp at ha
      · rw [World.cell?_of_block (hsame a.block h1 (fun g e e2 => h2 (by rw [e, e2])) (lt_of_cell ha))]; exact ha
  · exact ((Below.refl base W).grown hg (by have := hv.lt; omega) (fun k e => (hrowlt k e).2.1)).setCell (p := ⟨eb, 0, none⟩) hbase v'
  · intro k hk hnc
    refine hsame k (fun e => hnc _ _ _ (by rw [e]; exact hv)) (fun g e e2 => ?_) hk
    obtain ⟨_, _, cs, t, m, hh⟩ := hrowlt g e
    rw [← e2] at hh
    exact hnc _ _ _ hh

/-- a box with an own slice of sets: the sets that t leads to from each of the positions. -/
def RowL (b : List Int) (t : Rx) (L base : Nat) {M : Nat} (pre : List (Pm M)) (W : World) : Prop :=
  ∃ (v : Value) (vs : List Value) (ms : List (List (Nat × Nat))), Boxed W L 96 v ∧ isSl v ∧ W.ownsRow base 62 1 v vs.length vs ∧ AllSl W v ∧ vs.length = ms.length ∧ ms.length = pre.length ∧
    ∀ (j : Nat) (p : Pm M), pre[j]? = some p → ∃ q m c, ms[j]? = some m ∧ vs[j]? = some (.slice q m.length c) ∧ IsS W (.slice q m.length c) m ∧ SetOf b t [(p.1, p.1 + 1)] m
theorem RowL.kept {b : List Int} {t : Rx} {L base M : Nat} {pre : List (Pm M)} {W W' : World} {row : Option Nat} (h : RowL b t L base pre W) (hg : W.grownBy W' row) (hnc : ∀ r, row = some r → ∀ cs t m, W.heap[r]? ≠ some (.cells cs t m)) : RowL b t L base pre W' := by
  obtain ⟨v, vs, ms, hv, hsv, hr, hall, h1, h2, h3⟩ := h
  have hbk : ∀ k, k < W.heap.size → (∃ cs t m, W.heap[k]? = some (.cells cs t m)) → W'.heap[k]? = W.heap[k]? := fun k hk ⟨cs, t, m, hc⟩ => hg.block k hk fun e => hnc k e.symm _ _ _ hc
  have hkc : ∀ a u, W.cell? a = some u → W'.cell? a = some u := fun a u ha => by
    rw [World.cell?_of_block (hbk _ (lt_of_cell ha) (cells_of_cell ha))]; exact ha
  refine ⟨v, vs, ms, (hbk L hv.lt ⟨_, _, _, hv⟩).trans hv, hsv, hr.kept hg ?_, hall.block fun g hgv => ?_, h1, h2, fun j p hj => ?_⟩
  · rcases hr.2 with ⟨rfl, h0⟩ | ⟨g, cap, cur, rfl, _, hgb, _⟩
    · exact .inl rfl
    · exact .inr fun e => hnc g (by rw [← e]; rfl) _ _ _ hgb
  · obtain ⟨cur, t, m, h4, _⟩ := hall g hgv
    exact hbk g (heap_lt h4) ⟨_, _, _, h4⟩
  · obtain ⟨q, m, c, e1, e2, e3, e4⟩ := h3 j p hj
    exact ⟨q, m, c, e1, e2, e3.kept hkc, e4⟩
theorem ownFrom_rowL (b : List Int) (t : Rx) (L base M B : Nat) : OwnFrom B (fun (pre : List (Pm M)) W => RowL b t L base pre W) := by
  intro pre W W' row h hg hrow
  refine h.kept hg fun r e cs t m hc => ?_
  obtain ⟨_, o, ho, hn⟩ := hrow r e
  rw [hc] at ho; cases ho; cases hn
theorem RowL.start {b : List Int} {t : Rx} {L base M : Nat} {W : World} (h : Boxed W L 96 (.slice none 0 0)) : RowL b t L base ([] : List (Pm M)) W :=
  ⟨_, [], [], h, trivial, World.ownsRow_nil _ _ _ _, AllSl.nil _, rfl, rfl, fun j p hj => by simp at hj⟩
theorem RowL.isL {b : List Int} {t : Rx} {L base M : Nat} {pre : List (Pm M)} {W : World} (h : RowL b t L base pre W) :
    ∃ v ms, Boxed W L 96 v ∧ (∃ p n c, v = .slice p n c) ∧ IsL W v ms ∧ ms.length = pre.length ∧ ∀ (j : Nat) (p : Pm M), pre[j]? = some p → ∃ m, ms[j]? = some m ∧ SetOf b t [(p.1, p.1 + 1)] m := by
  obtain ⟨v, vs, ms, hv, hsv, hr, hall, h1, h2, h3⟩ := h
  refine ⟨v, ms, hv, ?_, ?_, h2, fun j p hj => ?_⟩
  · cases v <;> first | exact ⟨_, _, _, rfl⟩ | exact hsv.elim
  · rcases hr.2 with ⟨rfl, h0⟩ | ⟨g, cap, cur, rfl, _, hgb, hnc, hcm, hcs, ht⟩
    · exact .inl ⟨List.eq_nil_of_length_eq_zero (by omega), none, 0, rfl⟩
    · refine .inr ⟨g, 0, cap, by rw [h1], fun j l hj => ?_⟩
      have hjl : j < ms.length := (List.getElem?_eq_some_iff.1 hj).1
      obtain ⟨q, m, c, e1, e2, e3, _⟩ := h3 j pre[j] (List.getElem?_eq_getElem (by omega))
      rw [hj] at e1; cases e1
      refine ⟨q, c, ?_, e3⟩
      have hc := hr.cells (g := g) rfl j _ e2
      have hadd : (⟨g, 0, none⟩ : Addr).add j = ⟨g, 0 + j, none⟩ := by unfold Addr.add; split <;> simp_all
      rw [hadd] at hc
      exact hc
  · obtain ⟨q, m, c, e1, _, _, e4⟩ := h3 j p hj
    exact ⟨m, e1, e4⟩
/-- the invariant behind a round. -/
theorem RowL.snoc {b : List Int} {t : Rx} {L base M : Nat} {pre : List (Pm M)} {W w1 : World} {v v' : Value} {vs : List Value} {ms : List (List (Nat × Nat))} {y : Pm M} {q : Option Addr} {m : List (Nat × Nat)} {c : Nat}
    (hv : Boxed w1 L 96 v') (hr : w1.ownsRow base 62 1 v' (vs.length + 1) (vs ++ [.slice q m.length c])) (hsv : isSl v') (hall : AllSl w1 v') (h1 : vs.length = ms.length) (h2 : ms.length = pre.length)
    (h3 : ∀ (j : Nat) (p : Pm M), pre[j]? = some p → ∃ q m c, ms[j]? = some m ∧ vs[j]? = some (.slice q m.length c) ∧ IsS W (.slice q m.length c) m ∧ SetOf b t [(p.1, p.1 + 1)] m)
    (hk : ∀ a u, W.cell? a = some u → ¬ isSl u → w1.cell? a = some u) (hm : IsS W (.slice q m.length c) m) (hs : SetOf b t [(y.1, y.1 + 1)] m) : RowL b t L base (pre ++ [y]) w1 := by
  refine ⟨v', vs ++ [.slice q m.length c], ms ++ [m], hv, hsv, by rw [List.length_append, List.length_singleton]; exact hr, hall, by simp [h1], by simp [h2], fun j p hj => ?_⟩
  rcases Nat.lt_or_ge j pre.length with hlt | hge
  · rw [List.getElem?_append_left hlt] at hj
    obtain ⟨q', m', c', e1, e2, e3, e4⟩ := h3 j p hj
    exact ⟨q', m', c', by rw [List.getElem?_append_left (by omega)]; exact e1, by rw [List.getElem?_append_left (by omega)]; exact e2, isS_kept_sl e3 hk, e4⟩
  · rw [List.getElem?_append_right hge] at hj
    have hj0 : j - pre.length = 0 := by
      have := (List.getElem?_eq_some_iff.1 hj).1
      simp at this; omega
    rw [hj0] at hj
    simp only [List.getElem?_cons_zero, Option.some.injEq] at hj
    subst hj
    exact ⟨q, m, c, by rw [List.getElem?_append_right (by omega)]; simp [show j - ms.length = 0 by omega], by rw [List.getElem?_append_right (by omega)]; simp [show j - vs.length = 0 by omega], isS_kept_sl hm hk, hs⟩
theorem memo_kept_sl {W W' : World} {mb : Nat} {xs : List Nd} {b : List Int} (h : MemoOk W mb xs b) (hb : W'.heap[mb]? = W.heap[mb]?) (hk : ∀ a u, W.cell? a = some u → ¬ isSl u → W'.cell? a = some u) : MemoOk W' mb xs b :=
  (Memo.block h hb).mono fun _ _ _ ⟨m, h1, h2⟩ => ⟨m, isS_kept_sl h1 hk, h2⟩
theorem ownFrom_memo {β : Type} {B mb : Nat} {xs : List Nd} {b : List Int} (hB : mb < B) : OwnFrom B (fun (_ : β) W => MemoOk W mb xs b) := by
  intro s W W' row hs hg hr
  cases row with
  | none => exact memo_kept_sl hs (hg.block mb hs.lt (by simp)) fun a u ha _ => by rw [World.cell?_of_block (hg.block _ (lt_of_cell ha) (by simp))]; exact ha
  | some r =>
    obtain ⟨h1, o, ho, hc⟩ := hr r rfl
    exact hs.row hg (fun cs t m h => by rw [h] at ho; cases ho; cases hc) (by omega)
theorem kpR_grown {eb r : Nat} {X : Nat → Prop} {W W' : World} (hg : W.grownBy W' (some r)) (he : eb ≠ r) (hlt : eb < W.heap.size) (hr : NoCells W r) : KpR eb X W W' := by
  have hrow : rowOf W' eb = rowOf W eb := rowOf_of_block (hg.block eb hlt (by simpa using he))
  refine ⟨hg.size, fun k cs t m hk _ _ _ => ?_, .inl hrow, fun h0 q h1 => ?_⟩
  · have hne : k ≠ r := fun e => by subst e; exact hr cs t m hk
    rw [hg.block k (heap_lt hk) (by simpa using hne)]; exact hk
  · rw [hrow] at h1
    exact Nat.lt_of_lt_of_le (h0 q h1) hg.size
theorem step_append_sl {ops : Array Oper} {o : Oper} {a : Act} {K : Act → World → Prop} {Q : Exit → Act → World → Prop} {E : Prop} (W : World) (base : Nat) (v : Value) (n : Nat) (vs : List Value) (q : Option Addr) (k c : Nat) (B : Nat) (hgd : o.guard = none) (s x : Operand)
    (ho : o.op = .call { callee := .builtin .append, args := #[s, x], argTypes := #[96, 96] }) (hs : a.eval s = v) (hx : a.eval x = .slice (some ⟨B, 0, none⟩) 1 1)
    (hown : W.ownsRow base 62 1 v n vs) (hall : AllSl W v) (hB : Blk W B #[.slice q k c] 62) (hn : n ≤ 1099511627776) (hbase : base ≤ W.heap.size)
    (h : ∀ v' W', W'.ownsRow base 62 1 v' (n + 1) (vs ++ [.slice q k c]) → W.grownBy W' v.ownBlock → NewRow W v v' → AllSl W' v' → K (a.put o.dst v') W') :
    if Region.wanted o (yielded ops a.tmps) = true then Oper.wp Tryz.prog o a W K Q else E := by
  have hw : Region.wanted o (yielded ops a.tmps) = true := by simp [Region.wanted, hgd]
  rw [if_pos hw]
  obtain ⟨v', W', hr, h1, h2, h3, h4⟩ := run_append_sl W base o.type v n vs hown hall q k c B hB hn hbase
  unfold Oper.wp execOp
  simp only [ho, resolve, invoke, builtin, Sem.run_bind, Sem.run_pure, Result.andThen_ok, List.map_toArray, List.map_cons, List.map_nil, hs, hx, hr]
  exact h v' W' h1 h2 h3 h4
theorem good_one (p : Nat) : Good [(p, p + 1)] := by simp [Good]
theorem on_one {p q : Nat} (h : On [(p, p + 1)] q) : q = p := by
  obtain ⟨s, hs, h1, h2⟩ := h
  simp only [List.mem_singleton] at hs
  subst hs
  dsimp only at h1 h2
  omega
theorem MemoOk.noCells {W : World} {mb : Nat} {xs : List Nd} {b : List Int} (h : MemoOk W mb xs b) : NoCells W mb := fun cs t m hc => by
  obtain ⟨es, clock, hb, _⟩ := h
  rw [hb] at hc; cases hc
end Go.Proofs.YtgbbjobmcbdhdaaGreatDoor

/-
  The union of a row of sets.
-/
namespace Go.Proofs.YtgbbjobmcbdhdaaGreatDoor
open Go.RowKit

theorem flatten_le {α : Type} {N : Nat} : ∀ {ms : List (List α)}, (∀ m ∈ ms, m.length ≤ N) → ms.flatten.length ≤ ms.length * N
  | [], _ => by simp
  | m :: ms, h => by
    have h1 := h m (by simp)
    have h2 := flatten_le (ms := ms) fun x hx => h x (by simp [hx])
    rw [List.flatten_cons, List.length_append, List.length_cons, Nat.succ_mul]
    omega
theorem row_mem {b : List Int} {t : Rx} {M : Nat} {pre : List (Pm M)} {ms : List (List (Nat × Nat))} (hlen : ms.length = pre.length)
    (h : ∀ (j : Nat) (p : Pm M), pre[j]? = some p → ∃ m, ms[j]? = some m ∧ SetOf b t [(p.1, p.1 + 1)] m) : ∀ m ∈ ms, ∃ p : Pm M, p ∈ pre ∧ SetOf b t [(p.1, p.1 + 1)] m := by
  intro m hm
  obtain ⟨j, hj⟩ := List.mem_iff_getElem?.1 hm
  have hjl : j < pre.length := by have := (List.getElem?_eq_some_iff.1 hj).1; omega
  obtain ⟨m', h1, h2⟩ := h j pre[j] (List.getElem?_eq_getElem hjl)
  rw [hj] at h1; cases h1
  exact ⟨_, List.getElem_mem hjl, h2⟩
theorem row_ends {b : List Int} {t : Rx} {M : Nat} {pre : List (Pm M)} {ms : List (List (Nat × Nat))} (hlen : ms.length = pre.length)
    (h : ∀ (j : Nat) (p : Pm M), pre[j]? = some p → ∃ m, ms[j]? = some m ∧ SetOf b t [(p.1, p.1 + 1)] m) : ∀ m ∈ ms, ∀ s ∈ m, s.1 < s.2 ∧ s.2 ≤ b.length + 1 := by
  intro m hm
  obtain ⟨p, _, hs⟩ := row_mem hlen h m hm
  exact good_ends hs.1 hs.le
theorem row_flat {b : List Int} {t : Rx} {M : Nat} {pre : List (Pm M)} {ms : List (List (Nat × Nat))} (hlen : ms.length = pre.length)
    (h : ∀ (j : Nat) (p : Pm M), pre[j]? = some p → ∃ m, ms[j]? = some m ∧ SetOf b t [(p.1, p.1 + 1)] m) (hb : b.length ≤ 1048576) (hp : pre.length ≤ 1048577) : ms.flatten.length ≤ 2199023255552 := by
  have h1 : ∀ m ∈ ms, m.length ≤ 1048577 := fun m hm => by
    obtain ⟨p, _, hs⟩ := row_mem hlen h m hm
    have := len_pts hs.1
    have := pts_len hs.1 hs.le
    omega
  have h2 := flatten_le h1
  have h3 : ms.length * 1048577 ≤ 1048577 * 1048577 := Nat.mul_le_mul_right _ (by omega)
  omega
theorem row_union {b : List Int} {t : Rx} {M : Nat} {pre : List (Pm M)} {ms : List (List (Nat × Nat))} {l u : List (Nat × Nat)} (hpre : pre.map (·.1) = pts l) (hlen : ms.length = pre.length)
    (h : ∀ (j : Nat) (p : Pm M), pre[j]? = some p → ∃ m, ms[j]? = some m ∧ SetOf b t [(p.1, p.1 + 1)] m) (hg : Good u) (hu : ∀ q, On u q ↔ ∃ m ∈ ms, On m q) : SetOf b t l u := by
  refine ⟨hg, fun q => (hu q).trans ⟨?_, ?_⟩⟩
  · rintro ⟨m, hm, hq⟩
    obtain ⟨p, hp, hs⟩ := row_mem hlen h m hm
    obtain ⟨p', hp', h'⟩ := (hs.2 q).1 hq
    obtain rfl := on_one hp'
    exact ⟨p.1, mem_pts.1 (by rw [← hpre]; exact List.mem_map_of_mem hp), h'⟩
  · rintro ⟨p, hp, h'⟩
    have hm := mem_pts.2 hp
    rw [← hpre] at hm
    obtain ⟨y, hy, rfl⟩ := List.mem_map.1 hm
    obtain ⟨j, hj⟩ := List.mem_iff_getElem?.1 hy
    obtain ⟨m, h1, hs⟩ := h j y hj
    exact ⟨m, List.mem_of_getElem? h1, (hs.2 q).2 ⟨y.1, ((only_good y.1).2 y.1).2 rfl, h'⟩⟩
theorem only_isS (p : Nat) (W : World) : IsS (W.alloc (.cells #[.int .i64 (p : Int), .int .i64 ((p + 1 : Nat) : Int)] 66)) (.slice (some ⟨W.heap.size, 0, none⟩) 1 1) [(p, p + 1)] := by
  have hb := Blk.new W #[.int .i64 (p : Int), .int .i64 ((p + 1 : Nat) : Int)] 66
  refine .inr ⟨W.heap.size, 0, 1, rfl, fun j x hj i v hi => ?_⟩
  rcases j with _ | j
  · simp only [List.getElem?_cons_zero, Option.some.injEq] at hj
    subst hj
    unfold encS at hi
    rcases i with _ | _ | i
    · simp only [List.getElem?_cons_zero, Option.some.injEq] at hi; subst hi; exact hb.cell 0 rfl
    · simp only [List.getElem?_cons_succ, List.getElem?_cons_zero, Option.some.injEq] at hi; subst hi; exact hb.cell 1 rfl
    · simp at hi
  · simp at hj
theorem pts_le {l : List (Nat × Nat)} {N : Nat} (h : ∀ q, On l q → q ≤ N) : ∀ p ∈ pts l, p ≤ N := fun p hp => h p (mem_pts.1 hp)
theorem RowL.open {b : List Int} {t : Rx} {L base M : Nat} {pre : List (Pm M)} {W : World} (h : RowL b t L base pre W) : ∃ pv n cv, Boxed W L 96 (.slice pv n cv) ∧ n = pre.length := by
  obtain ⟨v, vs, ms, hv, hsv, hr, hall, h1, h2, h3⟩ := h
  obtain ⟨pv, cv, rfl⟩ := own_shape hr
  exact ⟨_, _, _, hv, by omega⟩
theorem RowL.at {b : List Int} {t : Rx} {L base M : Nat} {pre : List (Pm M)} {W : World} {u : Value} (h : RowL b t L base pre W) (hu : Boxed W L 96 u) :
    ∃ (vs : List Value) (ms : List (List (Nat × Nat))), W.ownsRow base 62 1 u pre.length vs ∧ AllSl W u ∧ vs.length = ms.length ∧ ms.length = pre.length ∧
      ∀ (j : Nat) (p : Pm M), pre[j]? = some p → ∃ q m c, ms[j]? = some m ∧ vs[j]? = some (.slice q m.length c) ∧ IsS W (.slice q m.length c) m ∧ SetOf b t [(p.1, p.1 + 1)] m := by
  obtain ⟨v, vs, ms, hv, hsv, hr, hall, h1, h2, h3⟩ := h
  obtain rfl : v = u := by
    have := hv.symm.trans hu
    simpa using this
  exact ⟨vs, ms, by rw [← h2, ← h1]; exact hr, hall, h1, h2, h3⟩
/-- a round's end: the row grew, and is stored. -/
theorem RowL.grow {b : List Int} {t : Rx} {L base M : Nat} {X : Nat → Prop} {pre : List (Pm M)} {w6 w7 : World} {pv : Option Addr} {n cv : Nat} {v' : Value} {vs : List Value} {ms : List (List (Nat × Nat))} {q : Option Addr} {m : List (Nat × Nat)} {c : Nat} {y : Pm M}
    (hv : Boxed w6 L 96 (.slice pv n cv)) (hrow : w6.ownsRow base 62 1 (.slice pv n cv) pre.length vs) (hbase : base ≤ L) (hall : AllSl w6 (.slice pv n cv)) (h1 : vs.length = ms.length) (h2 : ms.length = pre.length)
    (h3 : ∀ (j : Nat) (p : Pm M), pre[j]? = some p → ∃ q m c, ms[j]? = some m ∧ vs[j]? = some (.slice q m.length c) ∧ IsS w6 (.slice q m.length c) m ∧ SetOf b t [(p.1, p.1 + 1)] m)
    (hown : w7.ownsRow base 62 1 v' (pre.length + 1) (vs ++ [.slice q m.length c])) (hnew : NewRow w6 (.slice pv n cv) v') (hall' : AllSl w7 v') (hg : w6.grownBy w7 (Value.slice pv n cv).ownBlock)
    (hm : IsS w6 (.slice q m.length c) m) (hs : SetOf b t [(y.1, y.1 + 1)] m) :
    RowL b t L base (pre ++ [y]) (w7.setCell ⟨L, 0, none⟩ v') ∧ KeepsOthers w6 (w7.setCell ⟨L, 0, none⟩ v') ∧ KpR L X w6 (w7.setCell ⟨L, 0, none⟩ v') ∧ (∀ a u, w6.cell? a = some u → ¬ isSl u → (w7.setCell ⟨L, 0, none⟩ v').cell? a = some u) ∧ Below base w6 (w7.setCell ⟨L, 0, none⟩ v') ∧
      (∀ k, k < w6.heap.size → (∀ cs t m, w6.heap[k]? ≠ some (.cells cs t m)) → (w7.setCell ⟨L, 0, none⟩ v').heap[k]? = w6.heap[k]?) := by
  obtain ⟨a1, a2, a3, a4, a5, a6, a7, a8⟩ := box_sl (X := X) hv trivial hrow hbase hall hown hnew hall' hg
  refine ⟨RowL.snoc (v := .slice pv n cv) a1 (by rw [h1, h2]; exact a2) ?_ a3 h1 h2 h3 a6 hm hs, a4, a5, a6, a7, a8⟩
  obtain ⟨_, _, rfl⟩ := own_shape hown
  trivial
end Go.Proofs.YtgbbjobmcbdhdaaGreatDoor
