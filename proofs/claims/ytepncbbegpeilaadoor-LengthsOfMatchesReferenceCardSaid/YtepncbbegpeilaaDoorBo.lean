/-
  Rows of booleans: how they read, how they are owned.
-/
import Derived.Test.YtepncbbegpeilaaDoorB
import Derived.Test.YtepncbbegpeilaaDoorMt
import Derived.WalkSpells
import Derived.WalkLawsBesides
import Derived.Handy
import Derived.Lib.Hide
set_option linter.unusedSimpArgs false
set_option linter.unusedVariables false
namespace Go.Proofs.YtepncbbegpeilaaDoor
open Go.RowKit Go.Lib

theorem ret_bool {a b : Bool} (h : a = b) : Ending.returned (.bool a) = .returned (.bool b) := by rw [h]
theorem ret_int {k : IntKind} {a b : Int} (h : a = b) : Ending.returned (.int k a) = .returned (.int k b) := by rw [h]
theorem lt_of_cell {w : World} {a : Addr} {v : Value} (h : w.cell? a = some v) : a.block < w.heap.size := by
  rcases Nat.lt_or_ge a.block w.heap.size with hlt | hge
  · exact hlt
  · unfold World.cell? at h; rw [Array.getElem?_eq_none hge] at h; cases h
theorem below_drews {B : Nat} {a w : World} (h : Below B a w) (n : Nat) : Below B a (w.drewN n) := ⟨h.os, h.tape, h.output, h.size, h.block⟩
theorem below_one {w w1 : World} {o : Obj} (hb : Below (w.alloc o).heap.size (w.alloc o) w1) : Below w.heap.size w w1 := ((Below.refl _ w).alloc (Nat.le_refl _) o).trans (hb.mono (by simp))
theorem below_two {w w1 w2 : World} (h : Below w.heap.size w w1) (hb : Below w1.heap.size w1 w2) : Below w.heap.size w w2 := h.trans (hb.mono h.size)
theorem get_of_lt {α : Type} {l : List α} {k : Nat} (h : k < l.length) : ∃ c, l[k]? = Option.some c := ⟨_, List.getElem?_eq_getElem h⟩
theorem getD_of {l : List Bool} {k : Nat} {b : Bool} (h : l[k]? = some b) : l.getD k false = b := by rw [List.getD_eq_getElem?_getD, h]; rfl
theorem get_getD {l : List Bool} {k : Nat} (h : k < l.length) : l[k]? = some (l.getD k false) := by rw [List.getD_eq_getElem?_getD, List.getElem?_eq_getElem h]; rfl

/-- these booleans stand one behind the other from there on. -/
def ReadsB (w : World) (blk off : Nat) (l : List Bool) : Prop := ∀ j, j < l.length → w.cell? ⟨blk, off + j, none⟩ = some (.bool (l.getD j false))
/-- the value is a slice that reads as these booleans. -/
def IsB (w : World) (v : Value) (l : List Bool) : Prop :=
  (l = [] ∧ ∃ p cap, v = .slice p 0 cap ∧ (p = none → cap = 0)) ∨ ∃ blk off cap, v = .slice (some ⟨blk, off, none⟩) l.length cap ∧ l.length ≤ cap ∧ ReadsB w blk off l
theorem IsB.shape {w : World} {v : Value} {l : List Bool} (h : IsB w v l) : ∃ p cap, v = .slice p l.length cap := by
  rcases h with ⟨rfl, p, cap, rfl, _⟩ | ⟨blk, off, cap, rfl, _⟩
  · exact ⟨p, cap, rfl⟩
  · exact ⟨_, _, rfl⟩
theorem IsB.kept {w w' : World} {v : Value} {l : List Bool} (h : IsB w v l) (hk : ∀ a u, w.cell? a = some u → w'.cell? a = some u) : IsB w' v l := by
  rcases h with h | ⟨blk, off, cap, rfl, hc, h⟩
  · exact .inl h
  · exact .inr ⟨blk, off, cap, rfl, hc, fun j hj => hk _ _ (h j hj)⟩
theorem IsB.grows {w w' : World} {v : Value} {l : List Bool} (h : IsB w v l) (hb : Below w.heap.size w w') : IsB w' v l :=
  h.kept fun _ _ hc => (hb.cell (lt_of_cell hc)).trans hc
theorem IsB.below {w w' : World} {v : Value} {l : List Bool} {B : Nat} (h : IsB w v l) (hb : Below B w w') (hB : w.heap.size ≤ B) : IsB w' v l := h.grows (hb.mono hB)
theorem IsB.some {w : World} {v : Value} {l : List Bool} (h : IsB w v l) (hz : 0 < l.length) : ∃ blk off cap, v = .slice (some ⟨blk, off, none⟩) l.length cap ∧ l.length ≤ cap ∧ ReadsB w blk off l := by
  rcases h with ⟨rfl, _⟩ | h
  · simp at hz
  · exact h
theorem IsB.at {w : World} {p : Option Addr} {n cap : Nat} {l : List Bool} (h : IsB w (.slice p n cap) l) {k : Nat} (hk : k < l.length) :
    ∃ blk off, p = .some ⟨blk, off, none⟩ ∧ w.cell? ⟨blk, off + k, none⟩ = .some (.bool (l.getD k false)) := by
  rcases h with ⟨rfl, _⟩ | ⟨blk, off, cap, he, _, hc⟩
  · simp at hk
  · simp only [Value.slice.injEq] at he
    exact ⟨blk, off, he.1, hc k hk⟩
theorem ReadsB.drop {w : World} {blk off : Nat} {l : List Bool} (h : ReadsB w blk off l) (k : Nat) : ReadsB w blk (off + k) (l.drop k) := by
  intro j hj
  rw [List.length_drop] at hj
  have := h (k + j) (by omega)
  rw [getD_drop, Nat.add_assoc]; exact this
theorem ReadsB.take {w : World} {blk off : Nat} {l : List Bool} (h : ReadsB w blk off l) (k : Nat) : ReadsB w blk off (l.take k) := by
  intro j hj
  rw [List.length_take] at hj
  rw [getD_take _ _ _ (by omega)]; exact h j (by omega)

/-- what is owned reads. -/
theorem own_isB {w : World} {base : Nat} {e : TypeId} {v : Value} {l : List Bool} (h : w.ownsRow base e 1 v l.length (l.map Value.bool)) : IsB w v l := by
  obtain ⟨hl, ⟨rfl, hn⟩ | ⟨g, cap, cur, rfl, hg, hh, hcap, hm, hsz, htk⟩⟩ := h
  · exact .inl ⟨List.length_eq_zero_iff.1 hn, none, 0, rfl, fun _ => rfl⟩
  · refine .inr ⟨g, 0, cap, rfl, hcap, fun j hj => ?_⟩
    rw [Nat.zero_add]
    refine Blk.cell (vs := cur) (t := e) ⟨hh⟩ j ?_
    have h2 := congrArg (fun q => q[j]?) htk
    rw [List.getElem?_take_of_lt (by omega), List.getElem?_map, get_getD hj] at h2
    simpa using h2
theorem own_shape {w : World} {base : Nat} {e : TypeId} {size : Nat} {v : Value} {n : Nat} {xs : List Value} (h : w.ownsRow base e size v n xs) : ∃ p cap, v = .slice p n cap := by
  rcases h.2 with ⟨rfl, rfl⟩ | ⟨g, cap, cur, rfl, _⟩
  · exact ⟨_, _, rfl⟩
  · exact ⟨_, _, rfl⟩
/-- the element type's table. -/
theorem infoBool : (Tryd.prog.info? 4).map (fun i => (i.zero, i.size, i.bytes)) = some (some (.bool false), 1, 1) := by kernel_rfl
theorem info_parts {T : TypeId} {z : Value} {s b : Nat} (h : (Tryd.prog.info? T).map (fun i => (i.zero, i.size, i.bytes)) = some (some z, s, b)) : ∃ i0, Tryd.prog.info? T = some i0 ∧ i0.zero = some z ∧ i0.size = s ∧ i0.bytes = b := by
  cases hi : Tryd.prog.info? T with
  | none => rw [hi] at h; cases h
  | some i => rw [hi] at h; simp only [Option.map_some, Option.some.injEq, Prod.mk.injEq] at h; exact ⟨i, rfl, h.1, h.2.1, h.2.2⟩
/-- the value is a set with this head and cycle. -/
def IsSet (w : World) (v : Value) (h c : List Bool) : Prop := ∃ vh vc, v = .agg #[vh, vc] ∧ IsB w vh h ∧ IsB w vc c
theorem IsSet.kept {w w' : World} {v : Value} {h c : List Bool} (a : IsSet w v h c) (hk : ∀ a u, w.cell? a = some u → w'.cell? a = some u) : IsSet w' v h c := by
  obtain ⟨vh, vc, rfl, a1, a2⟩ := a
  exact ⟨vh, vc, rfl, a1.kept hk, a2.kept hk⟩
theorem IsSet.grows {w w' : World} {v : Value} {h c : List Bool} (a : IsSet w v h c) (hb : Below w.heap.size w w') : IsSet w' v h c :=
  a.kept fun _ _ hc => (hb.cell (lt_of_cell hc)).trans hc
theorem IsSet.shape {w : World} {v : Value} {h c : List Bool} (a : IsSet w v h c) : ∃ hp hk cp ck, v = .agg #[.slice hp h.length hk, .slice cp c.length ck] ∧ IsB w (.slice hp h.length hk) h ∧ IsB w (.slice cp c.length ck) c := by
  obtain ⟨vh, vc, rfl, a1, a2⟩ := a
  obtain ⟨hp, hk, rfl⟩ := a1.shape
  obtain ⟨cp, ck, rfl⟩ := a2.shape
  exact ⟨hp, hk, cp, ck, rfl, a1, a2⟩
end Go.Proofs.YtepncbbegpeilaaDoor
