/-
  Texts of the proof, one behind another: B, Rw, Rv.
-/
import Derived.WalkKit
set_option linter.unusedSimpArgs false
set_option linter.unusedVariables false
namespace Go.Proofs.YtkhphiilnplgjaaGreatDoor
open Go.RowKit

/-- Block b of the world holds these cells, none of them frozen. -/
structure Blk (w : World) (b : Nat) (vs : Array Value) (t : TypeId) : Prop where
  is : w.heap[b]? = some (.cells vs t (0, 0))

theorem Blk.cell {w : World} {b : Nat} {vs : Array Value} {t : TypeId} (h : Blk w b vs t) (i : Nat) {v : Value} (hv : vs[i]? = some v) : w.cell? ⟨b, i, none⟩ = some v := by
  simp [World.cell?, h.is, hv]
theorem Blk.free {w : World} {b : Nat} {vs : Array Value} {t : TypeId} (h : Blk w b vs t) (i : Nat) : w.frozen? ⟨b, i, none⟩ = false := by
  simp [World.frozen?, h.is]
theorem Blk.lt {w : World} {b : Nat} {vs : Array Value} {t : TypeId} (h : Blk w b vs t) : b < w.heap.size := by
  rcases Nat.lt_or_ge b w.heap.size with hlt | hge
  · exact hlt
  · have := h.is; rw [Array.getElem?_eq_none hge] at this; cases this
theorem Blk.below {w w' : World} {b : Nat} {vs : Array Value} {t : TypeId} (h : Blk w b vs t) {B : Nat} (hb : Below B w w') (hlt : b < B) : Blk w' b vs t :=
  ⟨(hb.block b hlt).trans h.is⟩
theorem Blk.grows {w w' : World} {b : Nat} {vs : Array Value} {t : TypeId} (h : Blk w b vs t) (hb : Below w.heap.size w w') : Blk w' b vs t := h.below hb h.lt
theorem Blk.set {w : World} {b : Nat} {vs : Array Value} {t : TypeId} (h : Blk w b vs t) (i : Nat) (v : Value) : Blk (w.setCell ⟨b, i, none⟩ v) b (vs.setIfInBounds i v) t := by
  constructor
  simp only [World.setCell, Array.getElem?_modify, h.is]
  simp
theorem Blk.other {w : World} {b : Nat} {vs : Array Value} {t : TypeId} (h : Blk w b vs t) {a : Addr} (hne : b ≠ a.block) (v : Value) : Blk (w.setCell a v) b vs t :=
  ⟨(Below.heap_setCell _ _ _ _ hne).trans h.is⟩
theorem Blk.alloc {w : World} {b : Nat} {vs : Array Value} {t : TypeId} (h : Blk w b vs t) (o : Obj) : Blk (w.alloc o) b vs t :=
  ⟨(Below.heap_alloc _ _ _ h.lt).trans h.is⟩
theorem Blk.drew {w : World} {b : Nat} {vs : Array Value} {t : TypeId} (h : Blk w b vs t) : Blk w.drew b vs t := ⟨h.is⟩
theorem Blk.new (w : World) (vs : Array Value) (t : TypeId) : Blk (w.alloc (.cells vs t)) w.heap.size vs t := by
  constructor; show (w.heap.push _)[w.heap.size]? = _; simp
theorem Blk.alloc1 (w : World) (vs us : Array Value) (t u : TypeId) (o : Obj := .cells vs t) (ho : o = .cells vs t := by rfl) : Blk ((w.alloc o).alloc (.cells us u)) (w.heap.size + 1) us u := by
  have h := Blk.new (w.alloc o) us u
  simpa using h
theorem Blk.alloc2 (w : World) (o p : Obj) (us : Array Value) (u : TypeId) : Blk (((w.alloc o).alloc p).alloc (.cells us u)) (w.heap.size + 2) us u := by
  have h := Blk.new ((w.alloc o).alloc p) us u
  simpa using h
theorem Blk.alloc3 (w : World) (o p q : Obj) (us : Array Value) (u : TypeId) : Blk ((((w.alloc o).alloc p).alloc q).alloc (.cells us u)) (w.heap.size + 3) us u := by
  have h := Blk.new (((w.alloc o).alloc p).alloc q) us u
  simpa using h
theorem Blk.cast {w : World} {b : Nat} {vs us : Array Value} {t : TypeId} (h : Blk w b vs t) (e : vs = us) : Blk w b us t := e ▸ h
/-- A block of four cells, cell by cell. -/
theorem Blk.four {w : World} {b : Nat} {v0 v1 v2 v3 : Value} {t : TypeId} (h : Blk w b #[v0, v1, v2, v3] t) :
    w.cell? ⟨b, 0, none⟩ = some v0 ∧ w.cell? ⟨b, 1, none⟩ = some v1 ∧ w.cell? ⟨b, 2, none⟩ = some v2 ∧ w.cell? ⟨b, 3, none⟩ = some v3 ∧
    w.frozen? ⟨b, 0, none⟩ = false ∧ w.frozen? ⟨b, 1, none⟩ = false ∧ w.frozen? ⟨b, 2, none⟩ = false ∧ w.frozen? ⟨b, 3, none⟩ = false :=
  ⟨h.cell 0 rfl, h.cell 1 rfl, h.cell 2 rfl, h.cell 3 rfl, h.free 0, h.free 1, h.free 2, h.free 3⟩
theorem Blk.set4 {w : World} {b : Nat} {v0 v1 v2 v3 : Value} {t : TypeId} (h : Blk w b #[v0, v1, v2, v3] t) (u0 u1 u2 u3 : Value) :
    Blk ((((w.setCell ⟨b, 0, none⟩ u0).setCell ⟨b, 1, none⟩ u1).setCell ⟨b, 2, none⟩ u2).setCell ⟨b, 3, none⟩ u3) b #[u0, u1, u2, u3] t :=
  (((h.set 0 u0).set 1 u1).set 2 u2).set 3 u3
theorem Blk.other4 {w : World} {b : Nat} {vs : Array Value} {t : TypeId} (h : Blk w b vs t) {c : Nat} (hne : b ≠ c) (u0 u1 u2 u3 : Value) :
    Blk ((((w.setCell ⟨c, 0, none⟩ u0).setCell ⟨c, 1, none⟩ u1).setCell ⟨c, 2, none⟩ u2).setCell ⟨c, 3, none⟩ u3) b vs t :=
  (((h.other hne u0).other hne u1).other hne u2).other hne u3
theorem below_set4 {B : Nat} {a w : World} (h : Below B a w) {c : Nat} (hc : B ≤ c) (u0 u1 u2 u3 : Value) :
    Below B a ((((w.setCell ⟨c, 0, none⟩ u0).setCell ⟨c, 1, none⟩ u1).setCell ⟨c, 2, none⟩ u2).setCell ⟨c, 3, none⟩ u3) :=
  (((h.setCell hc u0).setCell hc u1).setCell hc u2).setCell hc u3
theorem Blk.grownBy {w w' : World} {b : Nat} {vs : Array Value} {t : TypeId} {row : Option Nat} (h : Blk w b vs t) (hg : w.grownBy w' row) (hne : ∀ k, row = some k → k ≠ b) : Blk w' b vs t :=
  ⟨(hg.block b h.lt (fun e => (hne b e.symm) rfl)).trans h.is⟩
theorem own_ge {w : World} {base : Nat} {e : TypeId} {size : Nat} {v : Value} {n : Nat} {xs : List Value} (h : w.ownsRow base e size v n xs) : ∀ k, v.ownBlock = some k → base ≤ k := by
  intro k hk
  rcases h.2 with ⟨rfl, _⟩ | ⟨g, cap, cur, rfl, hg, _⟩
  · cases hk
  · cases hk; exact hg
theorem own_below {w w' : World} {base : Nat} {e : TypeId} {size : Nat} {v : Value} {n : Nat} {xs : List Value} (h : w.ownsRow base e size v n xs) (hb : Below w.heap.size w w') : w'.ownsRow base e size v n xs := by
  refine ⟨h.1, ?_⟩
  rcases h.2 with h2 | ⟨g, cap, cur, hv, hg, hh, r⟩
  · exact .inl h2
  · refine .inr ⟨g, cap, cur, hv, hg, ?_, r⟩
    have : g < w.heap.size := Blk.lt (vs := cur) (t := e) ⟨hh⟩
    rw [hb.block g this]; exact hh
theorem own_alloc {w : World} {base : Nat} {e : TypeId} {size : Nat} {v : Value} {n : Nat} {xs : List Value} (h : w.ownsRow base e size v n xs) (o : Obj) : (w.alloc o).ownsRow base e size v n xs :=
  own_below h ((Below.refl _ w).alloc (Nat.le_refl _) o)
theorem own_set {w : World} {base : Nat} {e : TypeId} {size : Nat} {v : Value} {n : Nat} {xs : List Value} (h : w.ownsRow base e size v n xs) {p : Addr} (hp : p.block < base) (u : Value) : (w.setCell p u).ownsRow base e size v n xs :=
  ownsRow_setCell_below h hp u
theorem own_mono {w : World} {base base' : Nat} {e : TypeId} {size : Nat} {v : Value} {n : Nat} {xs : List Value} (h : w.ownsRow base e size v n xs) (hb : base' ≤ base) : w.ownsRow base' e size v n xs := by
  refine ⟨h.1, ?_⟩
  rcases h.2 with h2 | ⟨g, cap, cur, hv, hg, r⟩
  · exact .inl h2
  · exact .inr ⟨g, cap, cur, hv, Nat.le_trans hb hg, r⟩
theorem own_cast {w : World} {base : Nat} {e : TypeId} {size : Nat} {v : Value} {n m : Nat} {xs ys : List Value} (h : w.ownsRow base e size v n xs) (hn : n = m) (hx : xs = ys) : w.ownsRow base e size v m ys := by subst hn; subst hx; exact h
theorem own_of_blk {w : World} {b base : Nat} {cs : Array Value} {e : TypeId} (h : Blk w b cs e) (n size : Nat) (hn : cs.size = n * size) (hm : n ≤ maxLen) (hb : base ≤ b) : w.ownsRow base e size (.slice (some ⟨b, 0, none⟩) n n) n cs.toList :=
  ⟨by simp [hn], .inr ⟨b, n, cs, rfl, hb, h.is, Nat.le_refl _, hm, hn, by rw [← hn, List.take_of_length_le]; simp⟩⟩
end Go.Proofs.YtkhphiilnplgjaaGreatDoor

namespace Go.Proofs.YtkhphiilnplgjaaGreatDoor

/-- the value of a hex digit, or -1. -/
def hexI (z : Int) : Int := if 48 ≤ z ∧ z ≤ 57 then z - 48 else if 97 ≤ z ∧ z ≤ 102 then z - 87 else if 65 ≤ z ∧ z ≤ 70 then z - 55 else -1
theorem hexI_lt (z : Int) : hexI z < 16 := by unfold hexI; repeat' split <;> omega
theorem hexI_ge (z : Int) : -1 ≤ hexI z := by unfold hexI; repeat' split <;> omega
def lowI (z : Int) : Int := if 65 ≤ z ∧ z ≤ 90 then z + 32 else z
def upI (z : Int) : Int := if 97 ≤ z ∧ z ≤ 122 then z - 32 else z

/-- the byte of the percent sequence that stands at the beginning. -/
def seqI : List Int → Option Int
  | x :: a :: b :: _ => if x = 37 ∧ 0 ≤ hexI a ∧ 0 ≤ hexI b then some (16 * hexI a + hexI b) else none
  | _ => none
def decF (lax : Bool) : Nat → List Int → Option (List Int)
  | 0, _ => some []
  | _ + 1, [] => some []
  | n + 1, x :: l => match seqI (x :: l) with
    | some y => (decF lax n (l.drop 2)).map (y :: ·)
    | none => if x = 37 ∧ lax = false then none else (decF lax n l).map (x :: ·)
theorem decF_more (lax : Bool) : ∀ (n m : Nat) (l : List Int), l.length ≤ n → n ≤ m → decF lax n l = decF lax m l
  | 0, m, l, h, _ => by
    obtain rfl : l = [] := List.length_eq_zero_iff.1 (by omega)
    cases m <;> rfl
  | n + 1, 0, l, _, h2 => by omega
  | n + 1, m + 1, [], _, _ => rfl
  | n + 1, m + 1, x :: l, h, h2 => by
    simp only [List.length_cons] at h
    simp only [decF]
    rw [decF_more lax n m l (by omega) (by omega), decF_more lax n m (l.drop 2) (by rw [List.length_drop]; omega) (by omega)]
/-- percent sequences decoded; none where the word is rejected. -/
def dec (lax : Bool) (l : List Int) : Option (List Int) := decF lax l.length l
theorem dec_nil (lax : Bool) : dec lax [] = some [] := rfl
theorem dec_seq (lax : Bool) (x : Int) (l : List Int) (y : Int) (h : seqI (x :: l) = some y) : dec lax (x :: l) = (dec lax (l.drop 2)).map (y :: ·) := by
  show decF lax (l.length + 1) (x :: l) = _
  simp only [decF, h]
  rw [show dec lax (l.drop 2) = decF lax l.length (l.drop 2) from decF_more lax _ _ _ (Nat.le_refl _) (by rw [List.length_drop]; omega)]
theorem dec_bad (l : List Int) (h : seqI (37 :: l) = none) : dec false (37 :: l) = none := by
  show decF false (l.length + 1) (37 :: l) = _
  simp [decF, h]
theorem dec_one (lax : Bool) (x : Int) (l : List Int) (h : seqI (x :: l) = none) (hx : ¬ (x = 37 ∧ lax = false)) : dec lax (x :: l) = (dec lax l).map (x :: ·) := by
  show decF lax (l.length + 1) (x :: l) = _
  simp only [decF, h]
  rw [if_neg hx]
  rfl
theorem seqI_len {l : List Int} {y : Int} (h : seqI l = some y) : 3 ≤ l.length := by
  match l, h with
  | _ :: _ :: _ :: _, _ => simp

/-- occurrences replaced, most of them at the most. -/
def repF (old new : List Int) : Nat → Nat → List Int → List Int
  | 0, _, _ => []
  | _ + 1, _, [] => []
  | f + 1, m, x :: l => if 0 < m ∧ old.isPrefixOf (x :: l) = true then new ++ repF old new f (m - 1) ((x :: l).drop old.length) else x :: repF old new f m l
theorem repF_more (old new : List Int) (h0 : 0 < old.length) : ∀ (n k m : Nat) (l : List Int), l.length ≤ n → n ≤ k → repF old new n m l = repF old new k m l
  | 0, k, m, l, h, _ => by
    obtain rfl : l = [] := List.length_eq_zero_iff.1 (by omega)
    cases k <;> rfl
  | n + 1, 0, m, l, _, h2 => by omega
  | n + 1, k + 1, m, [], _, _ => rfl
  | n + 1, k + 1, m, x :: l, h, h2 => by
    simp only [List.length_cons] at h
    simp only [repF]
    rw [repF_more old new h0 n k m l (by omega) (by omega), repF_more old new h0 n k (m - 1) ((x :: l).drop old.length) (by simp only [List.length_drop, List.length_cons]; omega) (by omega)]
def rep (old new : List Int) (m : Nat) (l : List Int) : List Int := repF old new l.length m l
theorem rep_nil (old new : List Int) (m : Nat) : rep old new m [] = [] := rfl
theorem rep_hit (old new : List Int) (h0 : 0 < old.length) (m : Nat) (l : List Int) (hm : 0 < m) (h : old.isPrefixOf l = true) (hl : 0 < l.length) : rep old new m l = new ++ rep old new (m - 1) (l.drop old.length) := by
  cases l with
  | nil => simp at hl
  | cons x l =>
    show repF old new (l.length + 1) m (x :: l) = _
    simp only [repF]
    rw [if_pos ⟨hm, h⟩, show rep old new (m - 1) ((x :: l).drop old.length) = repF old new l.length (m - 1) ((x :: l).drop old.length) from repF_more old new h0 _ _ _ _ (Nat.le_refl _) (by simp only [List.length_drop, List.length_cons]; omega)]
theorem rep_miss (old new : List Int) (m : Nat) (x : Int) (l : List Int) (h : ¬ (0 < m ∧ old.isPrefixOf (x :: l) = true)) : rep old new m (x :: l) = x :: rep old new m l := by
  show repF old new (l.length + 1) m (x :: l) = _
  simp only [repF]
  rw [if_neg h]
  rfl
theorem rep_zero (old new : List Int) : ∀ l, rep old new 0 l = l
  | [] => rfl
  | x :: l => by rw [rep_miss old new 0 x l (by omega), rep_zero old new l]
/-- runs of one byte made single; p: the byte ahead is that byte. -/
def sqz (c : Int) : Bool → List Int → List Int
  | _, [] => []
  | p, x :: l => if x = c ∧ p = true then sqz c true l else x :: sqz c (decide (x = c)) l
/-- is the operation valid? -/
def valI (k : Int) (old new : List Int) : Bool :=
  if k = 1 ∨ k = 2 ∨ k = 3 ∨ k = 4 then decide (old.length = 0 ∧ new.length = 0)
  else if k = 5 ∨ k = 6 then decide (1 ≤ old.length ∧ old.length ≤ 4 ∧ new.length ≤ 4)
  else if k = 7 then decide (1 ≤ old.length ∧ old.length ≤ 8 ∧ new.length = 0)
  else if k = 8 then decide (old.length = 1 ∧ new.length = 0) else false
/-- what an operation of a valid kind does. -/
def doK (k : Int) (old new b : List Int) : Option (List Int) :=
  if k = 1 then some (b.map lowI) else if k = 2 then some (b.map upI) else if k = 3 then dec false b else if k = 4 then dec true b
  else if k = 5 then some (rep old new 1 b) else if k = 6 then some (rep old new b.length b)
  else if k = 7 then some (b.filter fun z => !old.contains z) else some (sqz (old.getD 0 0) false b)
def doI (k : Int) (old new b : List Int) : Option (List Int) := if valI k old new = true then doK k old new b else none
theorem drop_cons {b : List Int} {i : Nat} {x : Int} (h : b[i]? = some x) : b.drop i = x :: b.drop (i + 1) := by
  obtain ⟨hi, rfl⟩ := List.getElem?_eq_some_iff.1 h
  exact List.drop_eq_getElem_cons hi
theorem seq_three {b : List Int} {i : Nat} {x y z : Int} (hx : b[i]? = some x) (hy : b[i + 1]? = some y) (hz : b[i + 2]? = some z) :
    seqI (b.drop i) = if x = 37 ∧ 0 ≤ hexI y ∧ 0 ≤ hexI z then some (16 * hexI y + hexI z) else none := by
  rw [drop_cons hx, drop_cons hy, drop_cons hz]; rfl
theorem seq_short {b : List Int} {i : Nat} (h : b.length ≤ i + 2) : seqI (b.drop i) = none := by
  have hl : (b.drop i).length ≤ 2 := by rw [List.length_drop]; omega
  match h2 : b.drop i with
  | [] => rfl
  | [_] => rfl
  | [_, _] => rfl
  | _ :: _ :: _ :: _ => rw [h2] at hl; simp at hl
theorem seq_ne {b : List Int} {i : Nat} {x : Int} (hx : b[i]? = some x) (h : x ≠ 37) : seqI (b.drop i) = none := by
  rw [drop_cons hx]
  match b.drop (i + 1) with
  | [] => rfl
  | [_] => rfl
  | _ :: _ :: _ => simp [seqI, h]
theorem dec_step3 {lax : Bool} {b acc : List Int} {i : Nat} {y : Int} (h : seqI (b.drop i) = some y) : (dec lax (b.drop i)).map (acc ++ ·) = (dec lax (b.drop (i + 3))).map ((acc ++ [y]) ++ ·) := by
  have hl := seqI_len h
  rw [List.length_drop] at hl
  have hx := List.getElem?_eq_getElem (l := b) (i := i) (by omega)
  rw [drop_cons hx] at h ⊢
  rw [dec_seq _ _ _ _ h, List.drop_drop, Option.map_map]
  congr 1
  funext q
  simp
theorem dec_step1 {lax : Bool} {b acc : List Int} {i : Nat} {x : Int} (hx : b[i]? = some x) (h : seqI (b.drop i) = none) (h2 : ¬ (x = 37 ∧ lax = false)) : (dec lax (b.drop i)).map (acc ++ ·) = (dec lax (b.drop (i + 1))).map ((acc ++ [x]) ++ ·) := by
  rw [drop_cons hx] at h ⊢
  rw [dec_one _ _ _ h h2, Option.map_map]
  congr 1
  funext q
  simp
theorem dec_stop {b acc : List Int} {i : Nat} (hx : b[i]? = some 37) (h : seqI (b.drop i) = none) : (dec false (b.drop i)).map (acc ++ ·) = none := by
  rw [drop_cons hx] at h ⊢
  rw [dec_bad _ h]; rfl
theorem seq_byte {l : List Int} {y : Int} (h : seqI l = some y) : 0 ≤ y ∧ y < 256 := by
  match l, h with
  | x :: a :: b :: _, h =>
    simp only [seqI] at h
    split at h
    · rename_i hc
      cases h
      have := hexI_lt a; have := hexI_lt b
      omega
    · cases h
theorem rep_hit_at {old new b acc : List Int} {m i : Nat} (h0 : 0 < old.length) (hm : 0 < m) (h : old.isPrefixOf (b.drop i) = true) (hi : i < b.length) :
    acc ++ rep old new m (b.drop i) = (acc ++ new) ++ rep old new (m - 1) (b.drop (i + old.length)) := by
  rw [rep_hit old new h0 m (b.drop i) hm h (by rw [List.length_drop]; omega), List.drop_drop, List.append_assoc]
theorem rep_miss_at {old new b acc : List Int} {m i : Nat} {x : Int} (hx : b[i]? = some x) (h : ¬ (0 < m ∧ old.isPrefixOf (b.drop i) = true)) :
    acc ++ rep old new m (b.drop i) = (acc ++ [x]) ++ rep old new m (b.drop (i + 1)) := by
  rw [drop_cons hx] at h ⊢
  rw [rep_miss old new m x _ h]; simp
theorem rep_end {old new b acc : List Int} {m : Nat} : acc ++ rep old new m (b.drop b.length) = acc := by
  rw [List.drop_length, rep_nil, List.append_nil]
theorem hit_room {old b : List Int} {i : Nat} (h : old.isPrefixOf (b.drop i) = true) (h0 : 0 < old.length) : i + old.length ≤ b.length := by
  rw [List.isPrefixOf_iff_prefix] at h
  have := h.length_le
  rw [List.length_drop] at this
  omega
theorem take_snoc {b : List Int} {i : Nat} {x : Int} (hx : b[i]? = some x) : b.take (i + 1) = b.take i ++ [x] := by rw [List.take_add_one, hx]; rfl
theorem map_step {f : Int → Int} {b : List Int} {i : Nat} {x : Int} (hx : b[i]? = some x) : (b.take (i + 1)).map f = (b.take i).map f ++ [f x] := by rw [take_snoc hx]; simp
theorem filter_no {old b : List Int} {i : Nat} {x : Int} (hx : b[i]? = some x) (h : old.contains x = true) : ((b.take (i + 1)).filter fun z => !old.contains z) = (b.take i).filter fun z => !old.contains z := by
  rw [take_snoc hx, List.filter_append]
  have : ([x].filter fun z => !old.contains z) = [] := by rw [List.filter_cons, h]; rfl
  rw [this, List.append_nil]
theorem filter_yes {old b : List Int} {i : Nat} {x : Int} (hx : b[i]? = some x) (h : old.contains x = false) : ((b.take (i + 1)).filter fun z => !old.contains z) = ((b.take i).filter fun z => !old.contains z) ++ [x] := by
  rw [take_snoc hx, List.filter_append]
  have : ([x].filter fun z => !old.contains z) = [x] := by rw [List.filter_cons, h]; rfl
  rw [this]
theorem lowI_byte {z : Int} (h : 0 ≤ z ∧ z < 256) : 0 ≤ lowI z ∧ lowI z < 256 := by unfold lowI; split <;> omega
theorem upI_byte {z : Int} (h : 0 ≤ z ∧ z < 256) : 0 ≤ upI z ∧ upI z < 256 := by unfold upI; split <;> omega
/-- is the byte ahead of this index that byte? -/
def prevB (c : Int) (b : List Int) : Nat → Bool
  | 0 => false
  | i + 1 => decide (b[i]? = some c)
theorem prev_succ {c : Int} {b : List Int} {i : Nat} {x : Int} (hx : b[i]? = some x) : prevB c b (i + 1) = decide (x = c) := by simp [prevB, hx]
theorem sqz_first {c : Int} {b acc : List Int} (hx : b[0]? = some c) : acc ++ sqz c (prevB c b 0) (b.drop 0) = (acc ++ [c]) ++ sqz c (prevB c b (0 + 1)) (b.drop (0 + 1)) := by
  rw [prev_succ hx, drop_cons hx]
  simp [sqz, prevB]
theorem sqz_skip {c : Int} {b acc : List Int} {i : Nat} (hi : 0 < i) (hx : b[i]? = some c) (hy : b[i - 1]? = some c) : acc ++ sqz c (prevB c b i) (b.drop i) = acc ++ sqz c (prevB c b (i + 1)) (b.drop (i + 1)) := by
  obtain ⟨j, rfl⟩ : ∃ j, i = j + 1 := ⟨i - 1, by omega⟩
  rw [Nat.add_sub_cancel] at hy
  rw [prev_succ hx, prev_succ hy, drop_cons hx]
  simp [sqz]
theorem sqz_keep {c : Int} {b acc : List Int} {i : Nat} {x : Int} (hx : b[i]? = some x) (h : x ≠ c ∨ (0 < i ∧ ∃ y, b[i - 1]? = some y ∧ y ≠ c)) : acc ++ sqz c (prevB c b i) (b.drop i) = (acc ++ [x]) ++ sqz c (prevB c b (i + 1)) (b.drop (i + 1)) := by
  rw [prev_succ hx, drop_cons hx]
  have hn : ¬ (x = c ∧ prevB c b i = true) := by
    rintro ⟨h1, h2⟩
    rcases h with h | ⟨hi, y, hy, hyc⟩
    · exact h h1
    · obtain ⟨j, rfl⟩ : ∃ j, i = j + 1 := ⟨i - 1, by omega⟩
      rw [Nat.add_sub_cancel] at hy
      rw [prev_succ hy, decide_eq_true_iff] at h2
      exact hyc h2
  simp only [sqz]
  rw [if_neg hn]
  simp
theorem dec_seq_rest {lax : Bool} {r acc : List Int} {y : Int} (h : seqI r = some y) : (dec lax r).map (acc ++ ·) = (dec lax (r.drop 3)).map ((acc ++ [y]) ++ ·) := by
  have := dec_step3 (lax := lax) (b := r) (acc := acc) (i := 0) (y := y) (by rw [List.drop_zero]; exact h)
  rwa [List.drop_zero, Nat.zero_add] at this
theorem dec_one_rest {lax : Bool} {r acc : List Int} {x : Int} (hx : r[0]? = some x) (h : seqI r = none) (h2 : ¬ (x = 37 ∧ lax = false)) : (dec lax r).map (acc ++ ·) = (dec lax (r.drop 1)).map ((acc ++ [x]) ++ ·) := by
  have := dec_step1 (lax := lax) (b := r) (acc := acc) (i := 0) hx (by rw [List.drop_zero]; exact h) h2
  rwa [List.drop_zero, Nat.zero_add] at this
theorem dec_stop_rest {r acc : List Int} (hx : r[0]? = some 37) (h : seqI r = none) : (dec false r).map (acc ++ ·) = none := by
  have := dec_stop (b := r) (acc := acc) (i := 0) hx (by rw [List.drop_zero]; exact h)
  rwa [List.drop_zero] at this
/-- from f to t: what is left when members of the class are taken off at both ends. -/
structure TrimIs (c : Int → Bool) (b : List Int) (f t : Nat) : Prop where
  ft : f ≤ t
  tl : t ≤ b.length
  lo : ∀ j, j < f → ∀ x, b[j]? = some x → c x = true
  lo1 : ∀ x, b[f]? = some x → c x = false
  hi : ∀ j, t ≤ j → ∀ x, b[j]? = some x → c x = true
  hi1 : f < t → ∀ x, b[t - 1]? = some x → c x = false
theorem TrimIs.unique {c : Int → Bool} {b : List Int} {f t f' t' : Nat} (h : TrimIs c b f t) (h' : TrimIs c b f' t') : f = f' ∧ t = t' := by
  have hf : f = f' := by
    rcases Nat.lt_trichotomy f f' with hlt | h1 | hlt
    · have hx := List.getElem?_eq_getElem (l := b) (i := f) (by have := h'.ft; have := h'.tl; omega)
      have a := h.lo1 _ hx
      rw [h'.lo f hlt _ hx] at a; cases a
    · exact h1
    · have hx := List.getElem?_eq_getElem (l := b) (i := f') (by have := h.ft; have := h.tl; omega)
      have a := h'.lo1 _ hx
      rw [h.lo f' hlt _ hx] at a; cases a
  subst hf
  refine ⟨rfl, ?_⟩
  rcases Nat.lt_trichotomy t t' with hlt | h1 | hlt
  · have h2 := h.ft; have h3 := h'.tl
    have hx := List.getElem?_eq_getElem (l := b) (i := t' - 1) (by omega)
    have a := h'.hi1 (by omega) _ hx
    rw [h.hi (t' - 1) (by omega) _ hx] at a; cases a
  · exact h1
  · have h2 := h'.ft; have h3 := h.tl
    have hx := List.getElem?_eq_getElem (l := b) (i := t - 1) (by omega)
    have a := h.hi1 (by omega) _ hx
    rw [h'.hi (t - 1) (by omega) _ hx] at a; cases a
/-- where a word stands first from f on, if anywhere. -/
def NextO (old b : List Int) (f : Nat) : Option Nat → Prop
  | none => ∀ j, f ≤ j → j < b.length → old.isPrefixOf (b.drop j) = false
  | some i => f ≤ i ∧ i < b.length ∧ old.isPrefixOf (b.drop i) = true ∧ ∀ j, f ≤ j → j < i → old.isPrefixOf (b.drop j) = false
theorem rep_next {old new b : List Int} (h0 : 0 < old.length) {m : Nat} (hm : 0 < m) : ∀ {d f i : Nat}, i - f = d → NextO old b f (some i) → rep old new m (b.drop f) = (b.drop f).take (i - f) ++ new ++ rep old new (m - 1) (b.drop (i + old.length))
  | 0, f, i, hd, ⟨h1, h2, h3, _⟩ => by
    obtain rfl : f = i := by omega
    rw [Nat.sub_self, List.take_zero, List.nil_append, rep_hit old new h0 m (b.drop f) hm h3 (by rw [List.length_drop]; omega), List.drop_drop]
  | d + 1, f, i, hd, ⟨h1, h2, h3, h4⟩ => by
    have hx := List.getElem?_eq_getElem (l := b) (i := f) (by omega)
    have hno := h4 f (Nat.le_refl _) (by omega)
    have ih := rep_next (new := new) h0 hm (d := d) (f := f + 1) (i := i) (by omega) ⟨by omega, h2, h3, fun j a c => h4 j (by omega) c⟩
    rw [drop_cons hx] at hno ⊢
    rw [rep_miss old new m _ _ (fun h => by rw [hno] at h; cases h.2), ih, show i - f = (i - (f + 1)) + 1 by omega, List.take_succ_cons]
    simp
theorem rep_never {old new b : List Int} {m : Nat} : ∀ {d f : Nat}, b.length - f = d → NextO old b f none → rep old new m (b.drop f) = b.drop f
  | 0, f, hd, _ => by rw [List.drop_eq_nil_of_le (by omega)]; rfl
  | d + 1, f, hd, h => by
    have hx := List.getElem?_eq_getElem (l := b) (i := f) (by omega)
    have hno := h f (Nat.le_refl _) (by omega)
    have ih := rep_never (new := new) (m := m) (d := d) (f := f + 1) (by omega) (fun j a c => h j (by omega) c)
    rw [drop_cons hx] at hno ⊢
    rw [rep_miss old new m _ _ (fun h => by rw [hno] at h; cases h.2), ih]
theorem rep_enough {old new : List Int} (h0 : 0 < old.length) : ∀ (n : Nat) (l : List Int) (m k : Nat), l.length ≤ n → l.length ≤ m → l.length ≤ k → rep old new m l = rep old new k l
  | 0, l, m, k, h, _, _ => by
    obtain rfl : l = [] := List.length_eq_zero_iff.1 (by omega)
    rfl
  | n + 1, [], m, k, _, _, _ => rfl
  | n + 1, x :: l, m, k, h, h1, h2 => by
    simp only [List.length_cons] at h h1 h2
    by_cases hp : old.isPrefixOf (x :: l) = true
    · rw [rep_hit old new h0 m _ (by omega) hp (by simp), rep_hit old new h0 k _ (by omega) hp (by simp)]
      rw [rep_enough h0 n ((x :: l).drop old.length) (m - 1) (k - 1) (by simp only [List.length_drop, List.length_cons]; omega) (by simp only [List.length_drop, List.length_cons]; omega) (by simp only [List.length_drop, List.length_cons]; omega)]
    · rw [rep_miss old new m x l (fun h => hp h.2), rep_miss old new k x l (fun h => hp h.2), rep_enough h0 n l m k (by omega) (by omega) (by omega)]
end Go.Proofs.YtkhphiilnplgjaaGreatDoor

namespace Go.Proofs.YtkhphiilnplgjaaGreatDoor

theorem sqz_idem (c : Int) : ∀ (l : List Int) (p : Bool), sqz c p (sqz c p l) = sqz c p l
  | [], _ => rfl
  | x :: l, p => by
    by_cases hx : x = c
    · subst hx
      cases p with
      | true =>
        have e : sqz x true (x :: l) = sqz x true l := by simp [sqz]
        rw [e]
        exact sqz_idem x l true
      | false =>
        have e : sqz x false (x :: l) = x :: sqz x true l := by simp [sqz]
        rw [e]
        have e2 : ∀ m, sqz x false (x :: m) = x :: sqz x true m := fun m => by simp [sqz]
        rw [e2, sqz_idem x l true]
    · have e : ∀ (q : Bool) (m : List Int), sqz c q (x :: m) = x :: sqz c false m := fun q m => by simp [sqz, hx]
      rw [e, e, sqz_idem c l false]
theorem sqz_head (c : Int) : ∀ (l : List Int), (sqz c true l)[0]? ≠ some c
  | [] => by simp [sqz]
  | x :: l => by
    by_cases hx : x = c
    · subst hx
      have e : sqz x true (x :: l) = sqz x true l := by simp [sqz]
      rw [e]; exact sqz_head x l
    · have e : sqz c true (x :: l) = x :: sqz c false l := by simp [sqz, hx]
      rw [e]; simpa using hx
theorem sqz_no2 (c : Int) : ∀ (l : List Int) (p : Bool) (i : Nat), (sqz c p l)[i]? = some c → (sqz c p l)[i + 1]? ≠ some c
  | [], p, i, h => by simp [sqz] at h
  | x :: l, p, i, h => by
    by_cases hx : x = c
    · subst hx
      cases p with
      | true =>
        have e : sqz x true (x :: l) = sqz x true l := by simp [sqz]
        rw [e] at h ⊢
        exact sqz_no2 x l true i h
      | false =>
        have e : sqz x false (x :: l) = x :: sqz x true l := by simp [sqz]
        rw [e] at h ⊢
        cases i with
        | zero => simpa using sqz_head x l
        | succ i => simpa using sqz_no2 x l true i (by simpa using h)
    · have e : sqz c p (x :: l) = x :: sqz c false l := by simp [sqz, hx]
      rw [e] at h ⊢
      cases i with
      | zero => simp at h; exact absurd h hx
      | succ i => simpa using sqz_no2 c l false i (by simpa using h)
theorem sqz_len (c : Int) : ∀ (l : List Int) (p : Bool), (sqz c p l).length ≤ l.length
  | [], _ => by simp [sqz]
  | x :: l, p => by
    have h1 := sqz_len c l true
    have h2 := sqz_len c l (decide (x = c))
    simp only [sqz]
    split
    · simp only [List.length_cons]; omega
    · simp only [List.length_cons]; omega
theorem part_len {b : List Int} {f t : Nat} (h1 : f ≤ t) (h2 : t ≤ b.length) : ((b.take t).drop f).length = t - f := by rw [List.length_drop, List.length_take]; omega
theorem part_at {b : List Int} {f t : Nat} {j : Nat} (h : f + j < t) : ((b.take t).drop f)[j]? = b[f + j]? := by rw [List.getElem?_drop, List.getElem?_take_of_lt h]
/-- the ends of what Trim leaves are no members. -/
theorem trim_ends {P : Int → Bool} {b tt : List Int} {f t : Nat} (h : TrimIs P b f t) (e : tt = (b.take t).drop f) (hn : 0 < tt.length) :
    ∃ x y, tt[0]? = some x ∧ P x = false ∧ tt[tt.length - 1]? = some y ∧ P y = false := by
  subst e
  have hl := part_len h.ft h.tl
  rw [hl] at hn ⊢
  have hft := h.ft
  have htl := h.tl
  have hx := List.getElem?_eq_getElem (l := b) (i := f) (by omega)
  have hy := List.getElem?_eq_getElem (l := b) (i := t - 1) (by omega)
  refine ⟨_, _, (part_at (by omega)).trans hx, h.lo1 _ hx, ?_, h.hi1 (by omega) _ hy⟩
  rw [part_at (by omega), show f + (t - f - 1) = t - 1 by omega, hy]
/-- what Trim left is left alone. -/
theorem trim_again {P : Int → Bool} {b tt : List Int} {f t f' t' : Nat} (h : TrimIs P b f t) (e : tt = (b.take t).drop f) (h' : TrimIs P tt f' t') : (tt.take t').drop f' = tt := by
  rcases Nat.eq_zero_or_pos tt.length with h0 | hn
  · obtain rfl : tt = [] := List.length_eq_zero_iff.1 h0
    simp
  · obtain ⟨x, y, hx, px, hy, py⟩ := trim_ends h e hn
    have hf : f' = 0 := by
      rcases Nat.eq_zero_or_pos f' with h1 | h1
      · exact h1
      · have := h'.lo 0 h1 x hx
        rw [px] at this; cases this
    have htt : t' = tt.length := by
      rcases Nat.lt_or_ge (tt.length - 1) t' with h1 | h1
      · have := h'.tl; omega
      · have := h'.hi (tt.length - 1) h1 y hy
        rw [py] at this; cases this
    subst hf; subst htt
    simp
end Go.Proofs.YtkhphiilnplgjaaGreatDoor
