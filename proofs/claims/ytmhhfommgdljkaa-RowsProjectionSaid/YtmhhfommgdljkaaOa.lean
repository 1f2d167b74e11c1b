/-
  Systems, rows and lists of ints as arguments, opened.
-/
import Derived.Test.YtmhhfommgdljkaaDa
import Derived.Test.YtmhhfommgdljkaaRows
import Derived.Carry
import Derived.WalkKit
import Derived.ProofKit
import Derived.OpenShut
import Derived.Deep.Grids
import Derived.SizedLaws
set_option linter.unusedSimpArgs false
set_option linter.unusedVariables false
namespace Go.Proofs.Ytmhhfommgdljkaa
open Go.ChangeShapes Go.WideShapes Go.ChangeAt Go.RowKit Go.Deep

theorem laidOutA : laidOutB Try.prog = true := by kernel_rfl
theorem cellsInt : Try.prog.cellsOf 3 = 1 := by kernel_rfl
theorem cellsIs : Try.prog.cellsOf 22 = 1 := by kernel_rfl
theorem cellsRow : Try.prog.cellsOf 37 = 2 := by kernel_rfl
theorem cellsRws : Try.prog.cellsOf 23 = 1 := by kernel_rfl
theorem cellsSys : Try.prog.cellsOf 25 = 2 := by kernel_rfl
theorem open_is {H : Type} {enc : TypeId × Value → H} {W : World} {base : Nat} {sp : Nat → Bool} {held : Bool} {fuel : Nat} {v : Value} {x : DataW H × List MemPlace}
    (hf : DataW.trod enc Try.prog W base sp held fuel 22 [v] = some x) : ∃ l, IsI W v l := by
  have us := Try.underlying22
  have ue := Try.underlying3
  rcases open_ints us ue cellsInt hf with ⟨hcs, _⟩ | ⟨a, len, cap, zs, hcs, _, hl, hm, hz, hd, hcell, hwz⟩
  · simp only [List.cons.injEq, and_true] at hcs
    subst hcs
    exact ⟨[], IsI.nil W⟩
  · simp only [List.cons.injEq, and_true] at hcs
    subst hcs
    have hzl : len ≤ zs.length := by rw [hz]; split <;> omega
    have hlen : (zs.take len).length = len := by simp; omega
    refine ⟨zs.take len, some a, cap, by rw [hlen], by omega, fun e => (by cases e), fun j x hj => ?_⟩
    obtain ⟨b, off, rfl, hc⟩ := ints_at hcell (by rw [List.getElem?_take] at hj; split at hj <;> simp_all; omega)
    refine ⟨b, off, rfl, ?_⟩
    rw [List.getElem?_take] at hj
    split at hj
    · have hjl := (List.getElem?_eq_some_iff.1 hj).1
      rw [hc j hjl, List.getD_eq_getElem?_getD, hj]; rfl
    · cases hj
theorem open_rw {H : Type} {enc : TypeId × Value → H} {W : World} {base : Nat} {sp : Nat → Bool} {held : Bool} {fuel : Nat} {cs : List Value} {y : DataW H × List MemPlace} (hl : cs.length = 2)
    (hf : DataW.trod enc Try.prog W base sp held fuel 37 cs = some y) : ∃ (u : Value) (r : Rw), cs = [u, .int .i64 r.C] ∧ IsI W u r.A := by
  have ut := Try.underlying37
  match cs, hl with
  | [e0, e1], _ =>
    obtain ⟨xs, n, _, _, _, hlen, hx⟩ := DataW.trod_struct ut hf
    have h0 := hx 0 _ rfl
    have h1 := hx 1 _ rfl
    have hn : xs.length = 2 := hlen
    match xs, hn with
    | [y0, y1], _ =>
      obtain ⟨l, hI⟩ := open_is (v := e0) (show DataW.trod enc Try.prog W base sp held n 22 [e0] = some y0 from h0)
      obtain ⟨a, ea, _, _⟩ := DataW.trod_int Try.underlying3 (show DataW.trod enc Try.prog W base sp held n 3 [e1] = some y1 from h1)
      simp only [List.cons.injEq, and_true] at ea
      subst ea
      exact ⟨e0, ⟨l, a⟩, rfl, hI⟩
set_option maxRecDepth 100000 in
theorem open_rws {H : Type} {enc : TypeId × Value → H} {W : World} {base : Nat} {sp : Nat → Bool} {held : Bool} {fuel : Nat} {v : Value} {x : DataW H × List MemPlace}
    (hf : DataW.trod enc Try.prog W base sp held fuel 23 [v] = some x) : ∃ l, IsRs W v l := by
  have us := Try.underlying23
  rcases DataW.trod_slice us hf with ⟨hcs, _⟩ | ⟨a, len, cap, elems, rest, n, _, hcs, hx, hb, hl, hm, hlen, hel, hsp, hns⟩
  · simp only [List.cons.injEq, and_true] at hcs
    subst hcs
    exact ⟨[], IsRs.nil W⟩
  · simp only [List.cons.injEq, and_true] at hcs
    subst hcs
    have each : ∀ i, i < len → ∃ q : Value × Rw, W.cell? ((a.add (i * 2)).add 0) = some q.1 ∧ W.cell? ((a.add (i * 2)).add 1) = some (.int .i64 q.2.C) ∧ IsI W q.1 q.2.A := by
      intro i hi
      have h := hel i hi
      rw [cellsRow] at h
      obtain ⟨y, hy⟩ : ∃ y, elems[i]? = some y := ⟨_, List.getElem?_eq_getElem (by omega)⟩
      rw [hy, Option.bind_eq_some_iff] at h
      obtain ⟨cs, hcs, hy'⟩ := h
      obtain ⟨_, hlen2, hcell⟩ := World.cells?_some hcs
      obtain ⟨u, r, rfl, hI⟩ := open_rw hlen2 hy'
      exact ⟨(u, r), hcell 0 (by simp), hcell 1 (by simp), hI⟩
    obtain ⟨f, hf⟩ : ∃ f : Nat → Value × Rw, ∀ i, i < len → W.cell? ((a.add (i * 2)).add 0) = some (f i).1 ∧ W.cell? ((a.add (i * 2)).add 1) = some (.int .i64 (f i).2.C) ∧ IsI W (f i).1 (f i).2.A := by
      refine ⟨fun i => if h : i < len then Classical.choose (each i h) else (.bool false, ⟨[], 0⟩), fun i hi => ?_⟩
      simp only [dif_pos hi]
      exact Classical.choose_spec (each i hi)
    have hll : ((List.range len).map fun i => (f i).2).length = len := by simp
    refine ⟨(List.range len).map fun i => (f i).2, some a, cap, by rw [hll], by rw [hll]; exact hl, fun e => (by cases e), fun j r hj => ?_⟩
    have hjl : j < len := by rw [← hll]; exact (List.getElem?_eq_some_iff.1 hj).1
    obtain ⟨c0, c1, hI⟩ := hf j hjl
    obtain ⟨b, off, spot⟩ := a
    have hspot : spot = none := by simpa [Addr.add] using World.cell?_spot (hf 0 (by omega)).1
    subst hspot
    rw [List.getElem?_map, List.getElem?_range hjl] at hj
    simp only [Option.map_some, Option.some.injEq] at hj
    subst hj
    rw [addr_add, addr_add] at c0 c1
    exact ⟨b, off, (f j).1, rfl, c0, c1, hI⟩
set_option maxRecDepth 100000 in
theorem open_iarg {H : Type} {enc : TypeId × Value → H} {W : World} {base : Nat} {sp : Nat → Bool} {held : Bool} {r : Reach} {b0 : Nat} {v : Value} {d : DataW H} {ps : List MemPlace}
    (hval : Value.okWide Try.prog W r b0 22 v) (hd : DataW.Trod enc Try.prog W base sp held 22 v d ps) : ∃ l, IsI W v l := by
  obtain ⟨p, len, cap, rfl⟩ := okWide_slice Try.underlying22 hval
  obtain ⟨fuel, hf⟩ := hd
  exact open_is (v := .slice p len cap) (x := (d, ps)) hf
set_option maxRecDepth 100000 in
theorem open_row {H : Type} {enc : TypeId × Value → H} {W : World} {base : Nat} {sp : Nat → Bool} {held : Bool} {r : Reach} {b0 : Nat} {v : Value} {d : DataW H} {ps : List MemPlace}
    (hval : Value.okWide Try.prog W r b0 37 v) (hd : DataW.Trod enc Try.prog W base sp held 37 v d ps) : ∃ (u : Value) (q : Rw), v = .agg #[u, .int .i64 q.C] ∧ IsI W u q.A := by
  have ut := Try.underlying37
  obtain ⟨⟨cs⟩, rfl, hcs⟩ := okWide_struct ut hval
  rw [cellsRow] at hcs
  obtain ⟨fuel, hf⟩ := hd
  obtain ⟨u, q, e, hI⟩ := open_rw hcs hf
  have e2 : cs = [u, .int .i64 q.C] := e
  subst e2
  exact ⟨u, q, rfl, hI⟩
set_option maxRecDepth 100000 in
theorem open_sys {H : Type} {enc : TypeId × Value → H} {W : World} {base : Nat} {sp : Nat → Bool} {held : Bool} {r : Reach} {b0 : Nat} {v : Value} {d : DataW H} {ps : List MemPlace}
    (hval : Value.okWide Try.prog W r b0 25 v) (hd : DataW.Trod enc Try.prog W base sp held 25 v d ps) : ∃ s : Sy, IsS W v s := by
  have ut := Try.underlying25
  obtain ⟨⟨cs⟩, rfl, hcs⟩ := okWide_struct ut hval
  rw [cellsSys] at hcs
  obtain ⟨fuel, hf⟩ := hd
  match cs, hcs with
  | [e0, e1], _ =>
    obtain ⟨xs, n, _, _, _, hlen, hx⟩ := DataW.trod_struct ut hf
    have h0 := hx 0 _ rfl
    have h1 := hx 1 _ rfl
    have hn : xs.length = 2 := hlen
    match xs, hn with
    | [y0, y1], _ =>
      obtain ⟨l, hI⟩ := open_is (v := e0) (show DataW.trod enc Try.prog W base sp held n 22 [e0] = some y0 from h0)
      obtain ⟨R, hR⟩ := open_rws (v := e1) (show DataW.trod enc Try.prog W base sp held n 23 [e1] = some y1 from h1)
      exact ⟨⟨l, R⟩, e0, e1, rfl, hI, hR⟩
end Go.Proofs.Ytmhhfommgdljkaa
