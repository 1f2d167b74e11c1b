/-
  Slices of ints, rows, systems: how they read.
-/
import Derived.Test.YtmhhfommgdljkaaB
import Derived.Test.YtmhhfommgdljkaaPa
import Derived.Test.YtmhhfommgdljkaaProg
import Derived.WalkSpells
import Derived.WalkLawsBesides
import Derived.Handy
import Derived.Lib.Hide
import Derived.Deep.OwnRows
import Derived.Deep.QuietTactic
import Derived.BigQuiet
import Derived.Maps.AppendAt
import Derived.Carry
import Derived.IntWalk
set_option linter.unusedSimpArgs false
set_option linter.unusedVariables false
namespace Go.Proofs.Ytmhhfommgdljkaa
open Go.RowKit Go.Lib

theorem ret_bool {a b : Bool} (h : a = b) : Ending.returned (.bool a) = .returned (.bool b) := by rw [h]
theorem ret_int {k : IntKind} {a b : Int} (h : a = b) : Ending.returned (.int k a) = .returned (.int k b) := by rw [h]
theorem lt_of_cell {w : World} {a : Addr} {v : Value} (h : w.cell? a = some v) : a.block < w.heap.size := by
  rcases Nat.lt_or_ge a.block w.heap.size with hlt | hge
  · exact hlt
  · unfold World.cell? at h; rw [Array.getElem?_eq_none hge] at h; cases h
theorem below_drews {B : Nat} {a w : World} (h : Below B a w) (n : Nat) : Below B a (w.drewN n) := ⟨h.os, h.tape, h.output, h.size, h.block⟩
theorem below_drew {B : Nat} {a w : World} (h : Below B a w) : Below B a w.drew := ⟨h.os, h.tape, h.output, h.size, h.block⟩
theorem below_one {w w1 : World} {o : Obj} (hb : Below (w.alloc o).heap.size (w.alloc o) w1) : Below w.heap.size w w1 := ((Below.refl _ w).alloc (Nat.le_refl _) o).trans (hb.mono (by simp))
theorem below_two {w w1 w2 : World} (h : Below w.heap.size w w1) (hb : Below w1.heap.size w1 w2) : Below w.heap.size w w2 := h.trans (hb.mono h.size)
theorem below_then {B : Nat} {w w1 w2 : World} (h : Below B w w1) (hb : Below w1.heap.size w1 w2) (hB : B ≤ w1.heap.size) : Below B w w2 := h.trans (hb.mono hB)
theorem get_of_lt {α : Type} {l : List α} {k : Nat} (h : k < l.length) : ∃ c, l[k]? = Option.some c := ⟨_, List.getElem?_eq_getElem h⟩
theorem lt_of_get {α : Type} {l : List α} {k : Nat} {c : α} (h : l[k]? = Option.some c) : k < l.length := (List.getElem?_eq_some_iff.1 h).1
theorem cell_one_new (w : World) (v : Value) (t : TypeId) : ∀ (j : Nat) (u : Value), [v][j]? = some u → (w.alloc (.cells #[v] t)).cell? ((⟨w.heap.size, 0, none⟩ : Addr).add j) = some u := by
  intro j u h
  cases j with
  | zero => simp at h; subst h; exact (Blk.new w #[v] t).cell 0 rfl
  | succ j => simp at h
theorem own_shape {w : World} {base : Nat} {e : TypeId} {size : Nat} {v : Value} {n : Nat} {xs : List Value} (h : w.ownsRow base e size v n xs) : ∃ p cap, v = .slice p n cap := by
  rcases h.2 with ⟨rfl, rfl⟩ | ⟨g, cap, cur, rfl, _⟩
  · exact ⟨_, _, rfl⟩
  · exact ⟨_, _, rfl⟩
theorem info_parts {T : TypeId} {z : Value} {s b : Nat} (h : (Try.prog.info? T).map (fun i => (i.zero, i.size, i.bytes)) = some (some z, s, b)) : ∃ i0, Try.prog.info? T = some i0 ∧ i0.zero = some z ∧ i0.size = s ∧ i0.bytes = b := by
  cases hi : Try.prog.info? T with
  | none => rw [hi] at h; cases h
  | some i => rw [hi] at h; simp only [Option.map_some, Option.some.injEq, Prod.mk.injEq] at h; exact ⟨i, rfl, h.1, h.2.1, h.2.2⟩
theorem infoI : (Try.prog.info? 3).map (fun i => (i.zero, i.size, i.bytes)) = some (some (.int .i64 0), 1, 8) := by kernel_rfl

/-- the value is a slice that reads as these ints. -/
structure IsI (w : World) (v : Value) (l : List Int) : Prop where
  is : ∃ p cap, v = .slice p l.length cap ∧ l.length ≤ cap ∧ (p = none → cap = 0) ∧ ∀ (j : Nat) (x : Int), l[j]? = some x → ∃ b o, p = some ⟨b, o, none⟩ ∧ w.cell? ⟨b, o + j, none⟩ = some (.int .i64 x)
theorem IsI.shape {w : World} {v : Value} {l : List Int} (h : IsI w v l) : ∃ p cap, v = .slice p l.length cap ∧ l.length ≤ cap := by
  obtain ⟨p, cap, e, h1, _⟩ := h.is
  exact ⟨p, cap, e, h1⟩
theorem IsI.kept {w w' : World} {v : Value} {l : List Int} (h : IsI w v l) (hk : ∀ a u, w.cell? a = some u → w'.cell? a = some u) : IsI w' v l := by
  obtain ⟨p, cap, e, h1, h0, h2⟩ := h.is
  exact ⟨p, cap, e, h1, h0, fun j x hx => by obtain ⟨b, o, e1, h3⟩ := h2 j x hx; exact ⟨b, o, e1, hk _ _ h3⟩⟩
theorem IsI.grows {w w' : World} {v : Value} {l : List Int} (h : IsI w v l) (hb : Below w.heap.size w w') : IsI w' v l :=
  h.kept fun _ _ hc => (hb.cell (lt_of_cell hc)).trans hc
theorem IsI.at {w : World} {p : Option Addr} {n cap : Nat} {l : List Int} (h : IsI w (.slice p n cap) l) {j : Nat} {x : Int} (hx : l[j]? = some x) :
    ∃ b o, p = some ⟨b, o, none⟩ ∧ w.cell? ⟨b, o + j, none⟩ = some (.int .i64 x) := by
  obtain ⟨q, c, e, _, _, h2⟩ := h.is
  simp only [Value.slice.injEq] at e
  obtain ⟨rfl, -, -⟩ := e
  exact h2 j x hx
theorem IsI.nil (w : World) : IsI w (.slice none 0 0) [] := ⟨none, 0, rfl, Nat.le_refl _, fun _ => rfl, fun j x hx => by simp at hx⟩
/-- what is owned reads. -/
theorem own_isI {w : World} {base : Nat} {e : TypeId} {v : Value} {l : List Int} (h : w.ownsRow base e 1 v l.length (l.map (Value.int .i64))) : IsI w v l := by
  obtain ⟨hl, ⟨rfl, hn⟩ | ⟨g, cap, cur, rfl, hg, hh, hcap, hm, hsz, htk⟩⟩ := h
  · obtain rfl : l = [] := List.length_eq_zero_iff.1 hn
    exact IsI.nil w
  · refine ⟨some ⟨g, 0, none⟩, cap, rfl, hcap, fun h => (by cases h), fun j x hj => ⟨g, 0, rfl, ?_⟩⟩
    rw [Nat.zero_add]
    refine Blk.cell (vs := cur) (t := e) ⟨hh⟩ j ?_
    have hjl := lt_of_get hj
    have h2 := congrArg (fun q => q[j]?) htk
    rw [List.getElem?_take_of_lt (by omega), List.getElem?_map, hj] at h2
    simpa using h2
/-- the value is a row. -/
def IsR (w : World) (v : Value) (r : Rw) : Prop := ∃ u, v = .agg #[u, .int .i64 r.C] ∧ IsI w u r.A
theorem IsR.grows {w w' : World} {v : Value} {r : Rw} (h : IsR w v r) (hb : Below w.heap.size w w') : IsR w' v r := by
  obtain ⟨u, e, h1⟩ := h
  exact ⟨u, e, h1.grows hb⟩
/-- the value is a slice that reads as these rows. -/
structure IsRs (w : World) (v : Value) (l : List Rw) : Prop where
  is : ∃ p cap, v = .slice p l.length cap ∧ l.length ≤ cap ∧ (p = none → cap = 0) ∧ ∀ (j : Nat) (r : Rw), l[j]? = some r → ∃ b o u, p = some ⟨b, o, none⟩ ∧ w.cell? ⟨b, o + j * 2, none⟩ = some u ∧ w.cell? ⟨b, o + j * 2 + 1, none⟩ = some (.int .i64 r.C) ∧ IsI w u r.A
theorem IsRs.shape {w : World} {v : Value} {l : List Rw} (h : IsRs w v l) : ∃ p cap, v = .slice p l.length cap ∧ l.length ≤ cap := by
  obtain ⟨p, cap, e, h1, _⟩ := h.is
  exact ⟨p, cap, e, h1⟩
theorem IsRs.kept {w w' : World} {v : Value} {l : List Rw} (h : IsRs w v l) (hk : ∀ a u, w.cell? a = some u → w'.cell? a = some u) : IsRs w' v l := by
  obtain ⟨p, cap, e, h1, h0, h2⟩ := h.is
  exact ⟨p, cap, e, h1, h0, fun j x hx => by obtain ⟨b, o, u, e1, h3, h4, h5⟩ := h2 j x hx; exact ⟨b, o, u, e1, hk _ _ h3, hk _ _ h4, h5.kept hk⟩⟩
theorem IsRs.grows {w w' : World} {v : Value} {l : List Rw} (h : IsRs w v l) (hb : Below w.heap.size w w') : IsRs w' v l :=
  h.kept fun _ _ hc => (hb.cell (lt_of_cell hc)).trans hc
theorem IsRs.at {w : World} {p : Option Addr} {n cap : Nat} {l : List Rw} (h : IsRs w (.slice p n cap) l) {j : Nat} {r : Rw} (hx : l[j]? = some r) :
    ∃ b o u, p = some ⟨b, o, none⟩ ∧ w.cell? ⟨b, o + j * 2, none⟩ = some u ∧ w.cell? ⟨b, o + j * 2 + 1, none⟩ = some (.int .i64 r.C) ∧ IsI w u r.A := by
  obtain ⟨q, c, e, _, _, h2⟩ := h.is
  simp only [Value.slice.injEq] at e
  obtain ⟨rfl, -, -⟩ := e
  exact h2 j r hx
theorem IsRs.nil (w : World) : IsRs w (.slice none 0 0) [] := ⟨none, 0, rfl, Nat.le_refl _, fun _ => rfl, fun j x hx => by simp at hx⟩
/-- the value is a system. -/
def IsS (w : World) (v : Value) (s : Sy) : Prop := ∃ t u, v = .agg #[t, u] ∧ IsI w t s.T ∧ IsRs w u s.R
theorem IsS.grows {w w' : World} {v : Value} {s : Sy} (h : IsS w v s) (hb : Below w.heap.size w w') : IsS w' v s := by
  obtain ⟨t, u, e, h1, h2⟩ := h
  exact ⟨t, u, e, h1.grows hb, h2.grows hb⟩
theorem IsS.shape {w : World} {v : Value} {s : Sy} (h : IsS w v s) : ∃ tp tc rp rc, v = .agg #[.slice tp s.T.length tc, .slice rp s.R.length rc] ∧ s.T.length ≤ tc ∧ s.R.length ≤ rc ∧ IsI w (.slice tp s.T.length tc) s.T ∧ IsRs w (.slice rp s.R.length rc) s.R := by
  obtain ⟨t, u, rfl, h1, h2⟩ := h
  obtain ⟨tp, tc, rfl, ht⟩ := h1.shape
  obtain ⟨rp, rc, rfl, hr⟩ := h2.shape
  exact ⟨tp, tc, rp, rc, rfl, ht, hr, h1, h2⟩
/-- what a call that only computes and draws leaves. -/
def Fits (m : Nat) (l : List Int) : Prop := l.length ≤ m
end Go.Proofs.Ytmhhfommgdljkaa
