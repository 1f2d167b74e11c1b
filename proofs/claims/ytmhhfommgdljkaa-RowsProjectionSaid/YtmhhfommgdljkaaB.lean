/-
  Small facts on a block known whole: no program is named here.
-/
import Derived.WalkKit
set_option linter.unusedSimpArgs false
set_option linter.unusedVariables false
namespace Go.Proofs.Ytmhhfommgdljkaa
open Go.RowKit

/-- Block b of the world holds these cells, none of them frozen. -/
structure Blk (w : World) (b : Nat) (vs : Array Value) (t : TypeId) : Prop where
  is : w.heap[b]? = some (.cells vs t (0, 0))

theorem Blk.cell {w : World} {b : Nat} {vs : Array Value} {t : TypeId} (h : Blk w b vs t) (i : Nat) {v : Value} (hv : vs[i]? = some v) : w.cell? ⟨b, i, none⟩ = some v := by
  simp [World.cell?, h.is, hv]
theorem Blk.free {w : World} {b : Nat} {vs : Array Value} {t : TypeId} (h : Blk w b vs t) (i : Nat) : w.frozen? ⟨b, i, none⟩ = false := by
  simp [World.frozen?, h.is]
theorem Blk.lt {w : World} {b : Nat} {vs : Array Value} {t : TypeId} (h : Blk w b vs t) : b < w.heap.size := by
  rcases Nat.lt_or_ge b w.heap.size with hlt | hge
  · exact hlt
  · have := h.is; rw [Array.getElem?_eq_none hge] at this; cases this
theorem Blk.below {w w' : World} {b : Nat} {vs : Array Value} {t : TypeId} (h : Blk w b vs t) {B : Nat} (hb : Below B w w') (hlt : b < B) : Blk w' b vs t :=
  ⟨(hb.block b hlt).trans h.is⟩
theorem Blk.grows {w w' : World} {b : Nat} {vs : Array Value} {t : TypeId} (h : Blk w b vs t) (hb : Below w.heap.size w w') : Blk w' b vs t := h.below hb h.lt
theorem Blk.set {w : World} {b : Nat} {vs : Array Value} {t : TypeId} (h : Blk w b vs t) (i : Nat) (v : Value) : Blk (w.setCell ⟨b, i, none⟩ v) b (vs.setIfInBounds i v) t := by
  constructor
  simp only [World.setCell, Array.getElem?_modify, h.is]
  simp
theorem Blk.other {w : World} {b : Nat} {vs : Array Value} {t : TypeId} (h : Blk w b vs t) {a : Addr} (hne : b ≠ a.block) (v : Value) : Blk (w.setCell a v) b vs t :=
  ⟨(Below.heap_setCell _ _ _ _ hne).trans h.is⟩
theorem Blk.alloc {w : World} {b : Nat} {vs : Array Value} {t : TypeId} (h : Blk w b vs t) (o : Obj) : Blk (w.alloc o) b vs t :=
  ⟨(Below.heap_alloc _ _ _ h.lt).trans h.is⟩
theorem Blk.drew {w : World} {b : Nat} {vs : Array Value} {t : TypeId} (h : Blk w b vs t) : Blk w.drew b vs t := ⟨h.is⟩
theorem Blk.new (w : World) (vs : Array Value) (t : TypeId) : Blk (w.alloc (.cells vs t)) w.heap.size vs t := by
  constructor; show (w.heap.push _)[w.heap.size]? = _; simp
theorem Blk.alloc1 (w : World) (vs us : Array Value) (t u : TypeId) (o : Obj := .cells vs t) (ho : o = .cells vs t := by rfl) : Blk ((w.alloc o).alloc (.cells us u)) (w.heap.size + 1) us u := by
  have h := Blk.new (w.alloc o) us u
  simpa using h
theorem Blk.alloc2 (w : World) (o p : Obj) (us : Array Value) (u : TypeId) : Blk (((w.alloc o).alloc p).alloc (.cells us u)) (w.heap.size + 2) us u := by
  have h := Blk.new ((w.alloc o).alloc p) us u
  simpa using h
theorem Blk.alloc3 (w : World) (o p q : Obj) (us : Array Value) (u : TypeId) : Blk ((((w.alloc o).alloc p).alloc q).alloc (.cells us u)) (w.heap.size + 3) us u := by
  have h := Blk.new (((w.alloc o).alloc p).alloc q) us u
  simpa using h
theorem Blk.cast {w : World} {b : Nat} {vs us : Array Value} {t : TypeId} (h : Blk w b vs t) (e : vs = us) : Blk w b us t := e ▸ h
/-- A block of four cells, cell by cell. -/
theorem Blk.four {w : World} {b : Nat} {v0 v1 v2 v3 : Value} {t : TypeId} (h : Blk w b #[v0, v1, v2, v3] t) :
    w.cell? ⟨b, 0, none⟩ = some v0 ∧ w.cell? ⟨b, 1, none⟩ = some v1 ∧ w.cell? ⟨b, 2, none⟩ = some v2 ∧ w.cell? ⟨b, 3, none⟩ = some v3 ∧
    w.frozen? ⟨b, 0, none⟩ = false ∧ w.frozen? ⟨b, 1, none⟩ = false ∧ w.frozen? ⟨b, 2, none⟩ = false ∧ w.frozen? ⟨b, 3, none⟩ = false :=
  ⟨h.cell 0 rfl, h.cell 1 rfl, h.cell 2 rfl, h.cell 3 rfl, h.free 0, h.free 1, h.free 2, h.free 3⟩
theorem Blk.set4 {w : World} {b : Nat} {v0 v1 v2 v3 : Value} {t : TypeId} (h : Blk w b #[v0, v1, v2, v3] t) (u0 u1 u2 u3 : Value) :
    Blk ((((w.setCell ⟨b, 0, none⟩ u0).setCell ⟨b, 1, none⟩ u1).setCell ⟨b, 2, none⟩ u2).setCell ⟨b, 3, none⟩ u3) b #[u0, u1, u2, u3] t :=
  (((h.set 0 u0).set 1 u1).set 2 u2).set 3 u3
theorem Blk.other4 {w : World} {b : Nat} {vs : Array Value} {t : TypeId} (h : Blk w b vs t) {c : Nat} (hne : b ≠ c) (u0 u1 u2 u3 : Value) :
    Blk ((((w.setCell ⟨c, 0, none⟩ u0).setCell ⟨c, 1, none⟩ u1).setCell ⟨c, 2, none⟩ u2).setCell ⟨c, 3, none⟩ u3) b vs t :=
  (((h.other hne u0).other hne u1).other hne u2).other hne u3
theorem below_set4 {B : Nat} {a w : World} (h : Below B a w) {c : Nat} (hc : B ≤ c) (u0 u1 u2 u3 : Value) :
    Below B a ((((w.setCell ⟨c, 0, none⟩ u0).setCell ⟨c, 1, none⟩ u1).setCell ⟨c, 2, none⟩ u2).setCell ⟨c, 3, none⟩ u3) :=
  (((h.setCell hc u0).setCell hc u1).setCell hc u2).setCell hc u3
theorem Blk.grownBy {w w' : World} {b : Nat} {vs : Array Value} {t : TypeId} {row : Option Nat} (h : Blk w b vs t) (hg : w.grownBy w' row) (hne : ∀ k, row = some k → k ≠ b) : Blk w' b vs t :=
  ⟨(hg.block b h.lt (fun e => (hne b e.symm) rfl)).trans h.is⟩
theorem own_ge {w : World} {base : Nat} {e : TypeId} {size : Nat} {v : Value} {n : Nat} {xs : List Value} (h : w.ownsRow base e size v n xs) : ∀ k, v.ownBlock = some k → base ≤ k := by
  intro k hk
  rcases h.2 with ⟨rfl, _⟩ | ⟨g, cap, cur, rfl, hg, _⟩
  · cases hk
  · cases hk; exact hg
theorem own_below {w w' : World} {base : Nat} {e : TypeId} {size : Nat} {v : Value} {n : Nat} {xs : List Value} (h : w.ownsRow base e size v n xs) (hb : Below w.heap.size w w') : w'.ownsRow base e size v n xs := by
  refine ⟨h.1, ?_⟩
  rcases h.2 with h2 | ⟨g, cap, cur, hv, hg, hh, r⟩
  · exact .inl h2
  · refine .inr ⟨g, cap, cur, hv, hg, ?_, r⟩
    have : g < w.heap.size := Blk.lt (vs := cur) (t := e) ⟨hh⟩
    rw [hb.block g this]; exact hh
theorem own_alloc {w : World} {base : Nat} {e : TypeId} {size : Nat} {v : Value} {n : Nat} {xs : List Value} (h : w.ownsRow base e size v n xs) (o : Obj) : (w.alloc o).ownsRow base e size v n xs :=
  own_below h ((Below.refl _ w).alloc (Nat.le_refl _) o)
theorem own_set {w : World} {base : Nat} {e : TypeId} {size : Nat} {v : Value} {n : Nat} {xs : List Value} (h : w.ownsRow base e size v n xs) {p : Addr} (hp : p.block < base) (u : Value) : (w.setCell p u).ownsRow base e size v n xs :=
  ownsRow_setCell_below h hp u
theorem own_mono {w : World} {base base' : Nat} {e : TypeId} {size : Nat} {v : Value} {n : Nat} {xs : List Value} (h : w.ownsRow base e size v n xs) (hb : base' ≤ base) : w.ownsRow base' e size v n xs := by
  refine ⟨h.1, ?_⟩
  rcases h.2 with h2 | ⟨g, cap, cur, hv, hg, r⟩
  · exact .inl h2
  · exact .inr ⟨g, cap, cur, hv, Nat.le_trans hb hg, r⟩
theorem own_cast {w : World} {base : Nat} {e : TypeId} {size : Nat} {v : Value} {n m : Nat} {xs ys : List Value} (h : w.ownsRow base e size v n xs) (hn : n = m) (hx : xs = ys) : w.ownsRow base e size v m ys := by subst hn; subst hx; exact h
theorem own_of_blk {w : World} {b base : Nat} {cs : Array Value} {e : TypeId} (h : Blk w b cs e) (n size : Nat) (hn : cs.size = n * size) (hm : n ≤ maxLen) (hb : base ≤ b) : w.ownsRow base e size (.slice (some ⟨b, 0, none⟩) n n) n cs.toList :=
  ⟨by simp [hn], .inr ⟨b, n, cs, rfl, hb, h.is, Nat.le_refl _, hm, hn, by rw [← hn, List.take_of_length_le]; simp⟩⟩
end Go.Proofs.Ytmhhfommgdljkaa
