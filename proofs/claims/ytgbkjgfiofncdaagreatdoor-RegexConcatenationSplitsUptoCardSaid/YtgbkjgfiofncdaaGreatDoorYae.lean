/-
  Texts of the proof, one behind another: Pa, Pb, Pc, Pd, Pe.
-/
import Derived.Test.YtgbkjgfiofncdaaGreatDoorYab
import Derived.Test.YtgbkjgfiofncdaaGreatDoorYac
import Derived.Test.YtgbkjgfiofncdaaGreatDoorShelf
import Derived.Test.YtgbkjgfiofncdaaGreatDoorYad
import Derived.Lib.Hide
import Derived.Deep.QuietTactic
import Derived.BigQuiet
import Derived.RegionTactic
import Derived.BigRegion
import Derived.ChangeAlike
import Derived.Outline
import Derived.IntWalk
import Derived.Lib.Bytealg
set_option linter.unusedSimpArgs false
set_option linter.unusedVariables false
/-
  Nodes of an expression, the parser's memory, what a call of the parser keeps.
-/
namespace Go.Proofs.YtgbkjgfiofncdaaGreatDoor
open Go.RowKit

abbrev valN (n : Nd) : Value := .agg #[.int .i64 n.k, .int .u64 (wd n.c 0), .int .u64 (wd n.c 1), .int .u64 (wd n.c 2), .int .u64 (wd n.c 3), .int .i64 n.l, .int .i64 n.r, .int .i64 n.mn, .int .i64 n.mx]
def encN (n : Nd) : List Value := [.int .i64 n.k, .int .u64 (wd n.c 0), .int .u64 (wd n.c 1), .int .u64 (wd n.c 2), .int .u64 (wd n.c 3), .int .i64 n.l, .int .i64 n.r, .int .i64 n.mn, .int .i64 n.mx]
abbrev Bad (a : Int) (er : Int) : Ending := .panicked [{ v := .iface 72 (.agg #[.int .i64 a, .int .i64 er]), recovered := false }]

/-- what a call of the parser keeps: all blocks but the parser's own and the rows of nodes. -/
structure KP (B : Nat) (W W' : World) : Prop where
  os : W'.os = W.os
  tape : W'.tape = W.tape
  output : W'.output = W.output
  size : W.heap.size ≤ W'.heap.size
  block : ∀ k, k < W.heap.size → k ≠ B → (B < k → ∀ cur m, W.heap[k]? ≠ some (.cells cur 45 m)) → W'.heap[k]? = W.heap[k]?
theorem KP.refl (B : Nat) (W : World) : KP B W W := ⟨rfl, rfl, rfl, Nat.le_refl _, fun _ _ _ _ => rfl⟩
theorem KP.trans {B : Nat} {a b c : World} (h : KP B a b) (k : KP B b c) : KP B a c :=
  ⟨k.os.trans h.os, k.tape.trans h.tape, k.output.trans h.output, Nat.le_trans h.size k.size, fun i hi hne hno => by
    have e1 := h.block i hi hne hno
    exact (k.block i (Nat.lt_of_lt_of_le hi h.size) hne (by rw [e1]; exact hno)).trans e1⟩
theorem KP.of_below {B : Nat} {a b : World} (h : Below a.heap.size a b) : KP B a b := ⟨h.os, h.tape, h.output, h.size, fun k hk _ _ => h.block k hk⟩
theorem KP.of_grown {B : Nat} {a b : World} {row : Option Nat} (h : a.grownBy b row) (hr : ∀ k, row = some k → k ≠ B → B < k ∧ ∃ cur m, a.heap[k]? = some (.cells cur 45 m)) : KP B a b :=
  ⟨h.os, h.tape, h.output, h.size, fun k hk hne hno => h.block k hk fun e => by
    obtain ⟨hlt, cur, m, hc⟩ := hr k e.symm hne
    exact hno hlt cur m hc⟩
theorem KP.alloc {B : Nat} {a b : World} (h : KP B a b) (o : Obj) : KP B a (b.alloc o) := h.trans (KP.of_below ((Below.refl _ _).alloc (Nat.le_refl _) o))
theorem KP.drew {B : Nat} {a b : World} (h : KP B a b) : KP B a b.drew := h.trans (KP.of_below (Below.refl _ _).drew)
theorem KP.set {B : Nat} {a b : World} (h : KP B a b) (i : Nat) (v : Value) : KP B a (b.setCell ⟨B, i, none⟩ v) :=
  h.trans ⟨rfl, rfl, rfl, by simp, fun k _ hne _ => Below.heap_setCell _ _ _ _ (by simpa using hne)⟩
theorem Blk.keptP {B : Nat} {W W' : World} {b : Nat} {vs : Array Value} {t : TypeId} (h : Blk W b vs t) (hk : KP B W W') (hne : b ≠ B) (ht : t ≠ 45) : Blk W' b vs t :=
  ⟨(hk.block b h.lt hne fun _ cur m e => by
    rw [h.is] at e
    simp only [Option.some.injEq, Obj.cells.injEq] at e
    exact ht e.2.1).trans h.is⟩
theorem own_shape {w : World} {base : Nat} {e : TypeId} {size : Nat} {v : Value} {n : Nat} {xs : List Value} (h : w.ownsRow base e size v n xs) : ∃ p cap, v = .slice p n cap := by
  rcases h.2 with ⟨rfl, rfl⟩ | ⟨g, cap, cur, rfl, _⟩
  · exact ⟨_, _, rfl⟩
  · exact ⟨_, _, rfl⟩
/-- the parser's memory: what it has read up to where, the nodes so far. -/
structure PS (W : World) (B : Nat) (s : ByteArray) (at_ : Nat) (v : Value) (xs : List Nd) : Prop where
  is : Blk W B #[.string s, .int .i64 (at_ : Int), v] 75
  own : W.ownsRow (B + 1) 45 9 v xs.length (xs.flatMap encN)
theorem Blk.three {w : World} {b : Nat} {v0 v1 v2 : Value} {t : TypeId} (h : Blk w b #[v0, v1, v2] t) :
    w.cell? ⟨b, 0, none⟩ = some v0 ∧ w.cell? ⟨b, 1, none⟩ = some v1 ∧ w.cell? ⟨b, 2, none⟩ = some v2 ∧
    w.frozen? ⟨b, 0, none⟩ = false ∧ w.frozen? ⟨b, 1, none⟩ = false ∧ w.frozen? ⟨b, 2, none⟩ = false :=
  ⟨h.cell 0 rfl, h.cell 1 rfl, h.cell 2 rfl, h.free 0, h.free 1, h.free 2⟩
theorem own_other_set {W : World} {B e size n : Nat} {v : Value} {xs : List Value} (h : W.ownsRow (B + 1) e size v n xs) (i : Nat) (x : Value) : (W.setCell ⟨B, i, none⟩ x).ownsRow (B + 1) e size v n xs :=
  h.kept (row := some B) ⟨rfl, rfl, rfl, by simp, fun k _ hne => Below.heap_setCell _ _ _ _ (by simp; intro e; exact hne (by rw [e]))⟩ (by
    rcases hv : v.ownBlock with _ | g
    · exact .inl rfl
    · right; intro e; have := own_ge h g hv; cases e; omega)
theorem PS.to {W : World} {B : Nat} {s : ByteArray} {a : Nat} {v : Value} {xs : List Nd} (h : PS W B s a v xs) (b : Nat) : PS (W.setCell ⟨B, 1, none⟩ (.int .i64 (b : Int))) B s b v xs :=
  ⟨h.is.set 1 _, own_other_set h.own 1 _⟩
theorem PS.drew {W : World} {B : Nat} {s : ByteArray} {a : Nat} {v : Value} {xs : List Nd} (h : PS W B s a v xs) : PS W.drew B s a v xs := ⟨h.is.drew, h.own.drew⟩
theorem PS.grows {W W' : World} {B : Nat} {s : ByteArray} {a : Nat} {v : Value} {xs : List Nd} (h : PS W B s a v xs) (hb : Below W.heap.size W W') : PS W' B s a v xs := ⟨h.is.grows hb, own_below h.own hb⟩
theorem PS.alloc {W : World} {B : Nat} {s : ByteArray} {a : Nat} {v : Value} {xs : List Nd} (h : PS W B s a v xs) (o : Obj) : PS (W.alloc o) B s a v xs := ⟨h.is.alloc o, own_alloc h.own o⟩
theorem KP.drewN {B : Nat} {a b : World} (h : KP B a b) (n : Nat) : KP B a (b.drewN n) := h.trans ⟨rfl, rfl, rfl, Nat.le_refl _, fun _ _ _ _ => rfl⟩
theorem Blk.drewN {w : World} {b : Nat} {vs : Array Value} {t : TypeId} (h : Blk w b vs t) (n : Nat) : Blk (w.drewN n) b vs t := ⟨h.is⟩
theorem PS.drewN {W : World} {B : Nat} {s : ByteArray} {a : Nat} {v : Value} {xs : List Nd} (h : PS W B s a v xs) (n : Nat) : PS (W.drewN n) B s a v xs := h.grows ⟨rfl, rfl, rfl, Nat.le_refl _, fun _ _ => rfl⟩
/-- how a reader of a part without nodes ends. -/
def PostL {α : Type} (val : α → Value) (B : Nat) (s : ByteArray) (v : Value) (xs : List Nd) (W : World) : LR α → Ending → World → Prop
  | .ok a q, e, W' => e = .returned (val a) ∧ q ≤ s.size ∧ PS W' B s q v xs ∧ KP B W W'
  | .bad q er, e, W' => e = Bad q er ∧ KP B W W'
end Go.Proofs.YtgbkjgfiofncdaaGreatDoor

/-
  Walks: the parser's readers of one byte.
-/
namespace Go.Proofs.YtgbkjgfiofncdaaGreatDoor
open Go.RowKit

abbrev L (s : ByteArray) : List UInt8 := s.data.toList
theorem at_str {s : ByteArray} {p : Nat} (h : p < s.size) : (L s)[p]? = some s[p] := by
  rw [List.getElem?_eq_getElem (by simpa using h)]; rfl
theorem at_none {s : ByteArray} {p : Nat} (h : s.size ≤ p) : (L s)[p]? = none := List.getElem?_eq_none (by simpa using h)
theorem at_some {s : ByteArray} {p : Nat} {y : UInt8} (h : (L s)[p]? = some y) : ∃ hp : p < s.size, s[p] = y := by
  rcases Nat.lt_or_ge p s.size with hp | hp
  · refine ⟨hp, ?_⟩
    rw [at_str hp] at h; exact Option.some.inj h
  · rw [at_none hp] at h; cases h

set_option maxHeartbeats 400000 in
theorem next_ok {s : ByteArray} {p B : Nat} {v : Value} {xs : List Nd} {W : World} (h : PS W B s p v xs) (hs : s.size ≤ 4000) (hp : p < s.size) :
    Calls Tryz.prog 180 #[.pointer (some ⟨B, 0, none⟩)] W fun e W' => e = .returned (.int .u8 ((s[p]).toNat : Int)) ∧ p + 1 ≤ s.size ∧ PS W' B s (p + 1) v xs ∧ KP B W W' := by
  obtain ⟨c0, c1, c2, f0, f1, f2⟩ := h.is.three
  have he : ((p : Int) == (s.size : Int)) = false := beq_eq_false_iff_ne.2 (by omega)
  go_enter Tryz.func180, Tryz.ntmps180
  have w1 : IntKind.i64.wrap ((p : Int) + 1) = (p : Int) + 1 := IntWalk.i64_in _ (by omega)
  have w2 : IntKind.i64.wrap ((p : Int) + 1 - 1) = (p : Int) := by rw [IntWalk.i64_in _ (by omega)]; omega
  have w3 : (0 : Int) ≤ (p : Int) + 1 := by omega
  go_wp2
  go_quiet (fail)
  go_wp2
  go_quiet (fail)
  go_wp2
  go_ret
  exact ⟨rfl, hp, ((h.drewN _).to (p + 1)).drewN _, (((KP.refl B W).drewN _).set _ _).drewN _⟩
set_option maxHeartbeats 400000 in
theorem next_end {s : ByteArray} {p B : Nat} {v : Value} {xs : List Nd} {W : World} (h : PS W B s p v xs) (hs : s.size ≤ 4000) (hp : p = s.size) :
    Calls Tryz.prog 180 #[.pointer (some ⟨B, 0, none⟩)] W fun e W' => e = Bad p 21 ∧ KP B W W' := by
  subst hp
  obtain ⟨c0, c1, c2, f0, f1, f2⟩ := h.is.three
  have he : ((s.size : Int) == (s.size : Int)) = true := by simp
  go_enter Tryz.func180, Tryz.ntmps180
  go_wp2
  go_quiet (fail)
  go_wp2
  exact ⟨rfl, rfl, (KP.refl B W).drewN _⟩
set_option maxHeartbeats 400000 in
theorem refuse_any {s : ByteArray} {p B : Nat} {v : Value} {xs : List Nd} {W : World} (h : PS W B s (p + 1) v xs) (hs : s.size ≤ 4000) (hp : p < s.size) :
    Calls Tryz.prog 182 #[.pointer (some ⟨B, 0, none⟩)] W fun e W' => e = Bad p 20 ∧ KP B W W' := by
  obtain ⟨c0, c1, c2, f0, f1, f2⟩ := h.is.three
  go_enter Tryz.func182, Tryz.ntmps182
  have w2 : IntKind.i64.wrap (((p + 1 : Nat) : Int) - 1) = (p : Int) := by rw [IntWalk.i64_in _ (by omega)]; omega
  go_wp2
  exact ⟨rfl, rfl, (KP.refl B W)⟩
set_option maxHeartbeats 400000 in
theorem take_yes {s : ByteArray} {p B : Nat} {v : Value} {xs : List Nd} {W : World} {c : UInt8} (cI : Int) (hI : cI = (c.toNat : Int)) (h : PS W B s p v xs) (hs : s.size ≤ 4000) (hp : (L s)[p]? = some c) :
    Calls Tryz.prog 67 #[.pointer (some ⟨B, 0, none⟩), .int .u8 cI] W fun e W' => e = .returned (.bool true) ∧ p + 1 ≤ s.size ∧ PS W' B s (p + 1) v xs ∧ KP B W W' := by
  subst hI
  obtain ⟨hlt, he⟩ := at_some hp
  obtain ⟨c0, c1, c2, f0, f1, f2⟩ := h.is.three
  have e1 : ((p : Int) == (s.size : Int)) = false := beq_eq_false_iff_ne.2 (by omega)
  have e2 : ((s[p].toNat : Int) != (c.toNat : Int)) = false := by rw [he]; simp
  have w1 : IntKind.i64.wrap ((p : Int) + 1) = (p : Int) + 1 := IntWalk.i64_in _ (by omega)
  go_enter Tryz.func67, Tryz.ntmps67
  clear he hp
  go_wp2
  go_quiet (fail)
  go_wp2
  go_ret
  exact ⟨rfl, hlt, (h.drewN _).to (p + 1), ((KP.refl B W).drewN _).set _ _⟩
set_option maxHeartbeats 400000 in
theorem take_no {s : ByteArray} {p B : Nat} {v : Value} {xs : List Nd} {W : World} {c : UInt8} (cI : Int) (hI : cI = (c.toNat : Int)) (h : PS W B s p v xs) (hs : s.size ≤ 4000) (hle : p ≤ s.size) (hp : (L s)[p]? ≠ some c) :
    Calls Tryz.prog 67 #[.pointer (some ⟨B, 0, none⟩), .int .u8 cI] W fun e W' => e = .returned (.bool false) ∧ PS W' B s p v xs ∧ KP B W W' := by
  subst hI
  obtain ⟨c0, c1, c2, f0, f1, f2⟩ := h.is.three
  by_cases hlt : p < s.size
  · have e1 : ((p : Int) == (s.size : Int)) = false := beq_eq_false_iff_ne.2 (by omega)
    have e2 : ((s[p].toNat : Int) != (c.toNat : Int)) = true := by
      rw [bne_iff_ne]
      intro e
      rw [at_str hlt] at hp
      exact hp (congrArg some (UInt8.toNat.inj (by omega)))
    go_enter Tryz.func67, Tryz.ntmps67
    clear hp
    go_wp2
    go_quiet (fail)
    go_wp2
    go_ret
    exact ⟨rfl, h.drewN _, (KP.refl B W).drewN _⟩
  · obtain rfl : p = s.size := by omega
    have e1 : ((s.size : Int) == (s.size : Int)) = true := by simp
    go_enter Tryz.func67, Tryz.ntmps67
    clear hp
    go_wp2
    go_quiet (fail)
    go_wp2
    go_ret
    exact ⟨rfl, h.drewN _, (KP.refl B W).drewN _⟩
theorem digit_any (y : UInt8) (W : World) :
    Calls Tryz.prog 193 #[.int .u8 (y.toNat : Int)] W fun e W' => e = .returned (.bool (digitB y)) ∧ W' = W := by
  have hd : digitB y = (decide (48 ≤ y.toNat) && decide (y.toNat ≤ 57)) := by
    simp [digitB, UInt8.le_iff_toNat_le]
  rw [hd]
  by_cases h1 : 48 ≤ y.toNat
  · by_cases h2 : y.toNat ≤ 57
    · have e1 : decide ((48 : Int) ≤ (y.toNat : Int)) = true := by simp; omega
      have e2 : decide ((y.toNat : Int) ≤ 57) = true := by simp; omega
      have r : (decide (48 ≤ y.toNat) && decide (y.toNat ≤ 57)) = true := by simp [h1, h2]
      rw [r]
      go_enter Tryz.func193, Tryz.ntmps193
      go_wp2
      go_ret
      exact ⟨rfl, rfl⟩
    · have e1 : decide ((48 : Int) ≤ (y.toNat : Int)) = true := by simp; omega
      have e2 : decide ((y.toNat : Int) ≤ 57) = false := by simp; omega
      have r : (decide (48 ≤ y.toNat) && decide (y.toNat ≤ 57)) = false := by simp [h2]
      rw [r]
      go_enter Tryz.func193, Tryz.ntmps193
      go_wp2
      go_ret
      exact ⟨rfl, rfl⟩
  · have e1 : decide ((48 : Int) ≤ (y.toNat : Int)) = false := by simp; omega
    have r : (decide (48 ≤ y.toNat) && decide (y.toNat ≤ 57)) = false := by simp [h1]
    rw [r]
    go_enter Tryz.func193, Tryz.ntmps193
    go_wp2
    go_ret
    exact ⟨rfl, rfl⟩
theorem index_neg (l : List UInt8) (y : UInt8) : decide (Lib.indexByte l y < 0) = !l.contains y := by
  induction l with
  | nil => simp [Lib.indexByte]
  | cons b l ih =>
    have hg := Lib.indexByte_ge l y
    by_cases h : b = y
    · subst h; simp [Lib.indexByte]
    · have hne : (b == y) = false := by simp [h]
      have hny : ¬ y = b := fun e => h e.symm
      unfold Lib.indexByte
      rw [hne, if_neg (by simp)]
      rw [List.contains_cons]
      have : (y == b) = false := by simp [hny]
      rw [this, Bool.false_or, ← ih]
      by_cases hm : Lib.indexByte l y = -1
      · simp [hm]
      · have h1 : (Lib.indexByte l y == -1) = false := by simp [hm]
        rw [h1, if_neg (by simp)]
        by_cases hl : Lib.indexByte l y < 0
        · omega
        · rw [decide_eq_false hl, decide_eq_false (by omega)]
set_option maxHeartbeats 400000 in
theorem plain_any (y : UInt8) (W : World) :
    Calls Tryz.prog 101 #[.int .u8 (y.toNat : Int)] W fun e W' => e = .returned (.bool (plainB y)) ∧ W' = W := by
  have hd : plainB y = (decide (33 ≤ y.toNat) && decide (y.toNat ≤ 126) && !special.contains y) := by
    simp [plainB, UInt8.le_iff_toNat_le]
  rw [hd]
  have hy : ((y.toNat : Int)).toNat.toUInt8 = y := by simp
  by_cases h1 : 33 ≤ y.toNat
  · have e1 : decide ((33 : Int) ≤ (y.toNat : Int)) = true := by simp; omega
    by_cases h2 : y.toNat ≤ 126
    · have e2 : decide ((y.toNat : Int) ≤ 126) = true := by simp; omega
      have r : (decide (33 ≤ y.toNat) && decide (y.toNat ≤ 126) && !special.contains y) = !special.contains y := by simp [h1, h2]
      rw [r]
      go_enter Tryz.func101, Tryz.ntmps101
      go_wp2_with (go_at_call 117; refine (Tryz.strings_IndexByte _ _ _).mono ?_; rintro e w' ⟨rfl, rfl⟩)
      go_ret
      exact ⟨ret_bool (index_neg _ _), rfl⟩
    · have e2 : decide ((y.toNat : Int) ≤ 126) = false := by simp; omega
      have r : (decide (33 ≤ y.toNat) && decide (y.toNat ≤ 126) && !special.contains y) = false := by simp [h2]
      rw [r]
      go_enter Tryz.func101, Tryz.ntmps101
      go_wp2
      go_ret
      exact ⟨rfl, rfl⟩
  · have e1 : decide ((33 : Int) ≤ (y.toNat : Int)) = false := by simp; omega
    have r : (decide (33 ≤ y.toNat) && decide (y.toNat ≤ 126) && !special.contains y) = false := by simp [h1]
    rw [r]
    go_enter Tryz.func101, Tryz.ntmps101
    go_wp2
    go_ret
    exact ⟨rfl, rfl⟩
end Go.Proofs.YtgbkjgfiofncdaaGreatDoor

/-
  Walks: the parser's readers of bytes of a kind, chars.
-/
namespace Go.Proofs.YtgbkjgfiofncdaaGreatDoor
open Go.RowKit

theorem PS.to_cells {W : World} {B : Nat} {s : ByteArray} {a : Nat} {v : Value} {xs : List Nd} (h : PS W B s a v xs) :
    W.cell? ⟨B, 0, none⟩ = some (.string s) ∧ W.cell? ⟨B, 1, none⟩ = some (.int .i64 (a : Int)) ∧ W.cell? ⟨B, 2, none⟩ = some v ∧
    W.frozen? ⟨B, 0, none⟩ = false ∧ W.frozen? ⟨B, 1, none⟩ = false ∧ W.frozen? ⟨B, 2, none⟩ = false := h.is.three

set_option maxHeartbeats 400000 in
theorem expect_any {s : ByteArray} {p B : Nat} {v : Value} {xs : List Nd} {W : World} (c : UInt8) (cI : Int) (hI : cI = (c.toNat : Int)) (h : PS W B s p v xs) (hs : s.size ≤ 4000) (hle : p ≤ s.size) :
    Calls Tryz.prog 176 #[.pointer (some ⟨B, 0, none⟩), .int .u8 cI] W (PostL (fun _ => .tuple #[]) B s v xs W (expectS (L s) c p)) := by
  subst hI
  rcases Nat.lt_or_ge p s.size with hlt | hge
  · by_cases hy : s[p] = c
    · have hx : expectS (L s) c p = .ok () (p + 1) := by unfold expectS; rw [at_str hlt]; simp [hy]
      rw [hx]
      have e2 : ((s[p].toNat : Int) != (c.toNat : Int)) = false := by rw [hy]; simp
      clear hy
      go_enter Tryz.func176, Tryz.ntmps176
      go_wp2_with (go_at_call 180; refine (next_ok h hs hlt).mono ?_; rintro e W1 ⟨rfl, hq, h1, hk1⟩)
      first | go_end0 | skip
      exact ⟨rfl, hq, h1, hk1⟩
    · have hx : expectS (L s) c p = .bad p 20 := by unfold expectS; rw [at_str hlt]; simp [hy]
      rw [hx]
      have e2 : ((s[p].toNat : Int) != (c.toNat : Int)) = true := by
        rw [bne_iff_ne]; intro e; exact hy (UInt8.toNat.inj (by omega))
      clear hy
      go_enter Tryz.func176, Tryz.ntmps176
      go_wp2_with (first | (go_at_call 180; refine (next_ok h hs hlt).mono ?_; rintro e W1 ⟨rfl, hq, h1, hk1⟩) | (go_at_call 182; refine (refuse_any h1 hs hlt).mono ?_; rintro e W2 ⟨rfl, hk2⟩))
      exact ⟨rfl, rfl, hk1.trans hk2⟩
  · obtain rfl : p = s.size := by omega
    have hx : expectS (L s) c s.size = .bad s.size 21 := by unfold expectS; rw [at_none (Nat.le_refl _)]
    rw [hx]
    go_enter Tryz.func176, Tryz.ntmps176
    go_wp2_with (go_at_call 180; refine (next_end h hs rfl).mono ?_; rintro e W1 ⟨rfl, hk1⟩)
    exact ⟨rfl, rfl, hk1⟩
theorem hexV_lt {y : UInt8} {v : Nat} (h : hexV y = some v) : v < 16 := by
  have hy := y.toNat_lt
  unfold hexV digitB at h
  simp only [Bool.and_eq_true, decide_eq_true_eq, UInt8.le_iff_toNat_le] at h
  have e1 : (48 : UInt8).toNat = 48 := rfl
  have e2 : (57 : UInt8).toNat = 57 := rfl
  have e3 : (97 : UInt8).toNat = 97 := rfl
  have e4 : (102 : UInt8).toNat = 102 := rfl
  have e5 : (65 : UInt8).toNat = 65 := rfl
  have e6 : (70 : UInt8).toNat = 70 := rfl
  rw [e1, e2, e3, e4, e5, e6] at h
  split at h
  · cases h; omega
  · split at h
    · cases h; omega
    · split at h
      · cases h; omega
      · cases h
theorem digitB_iff (y : UInt8) : digitB y = (decide (48 ≤ y.toNat) && decide (y.toNat ≤ 57)) := by simp [digitB, UInt8.le_iff_toNat_le]
set_option maxHeartbeats 1000000 in
theorem hex_any {s : ByteArray} {p B : Nat} {v : Value} {xs : List Nd} {W : World} (h : PS W B s p v xs) (hs : s.size ≤ 4000) (hle : p ≤ s.size) :
    Calls Tryz.prog 181 #[.pointer (some ⟨B, 0, none⟩)] W (PostL (fun (n : Nat) => .int .u8 (n : Int)) B s v xs W (hexS (L s) p)) := by
  rcases Nat.lt_or_ge p s.size with hlt | hge
  · have hx : hexS (L s) p = match hexV s[p] with | some v => .ok v (p + 1) | none => .bad p 20 := by unfold hexS; rw [at_str hlt]; rfl
    rw [hx]
    clear hx
    have HN := Lib.hid (next_ok h hs hlt)
    generalize s[p] = y at HN
    have hy := y.toNat_lt
    by_cases d1 : 48 ≤ y.toNat ∧ y.toNat ≤ 57
    · have hd : digitB y = true := by rw [digitB_iff]; simp [d1]
      have hv : hexV y = some (y.toNat - 48) := by unfold hexV; rw [hd]; rfl
      rw [hv]
      have e1 : IntKind.u8.wrap ((y.toNat : Int) - 48) = ((y.toNat - 48 : Nat) : Int) := by rw [IntKind.wrap_u8]; omega
      have HD := Lib.hid (fun W => hd ▸ digit_any y W)
      clear hd hv
      go_enter Tryz.func181, Tryz.ntmps181
      go_wp2_with (first | (go_at_call 180; refine HN.out.mono ?_; rintro e W1 ⟨rfl, hq, h1, hk1⟩) | (go_at_call 193; refine (HD.out _).mono ?_; rintro e W2 ⟨rfl, rfl⟩))
      go_ret
      exact ⟨rfl, hq, h1, hk1⟩
    have hd : digitB y = false := by rw [digitB_iff]; simp; omega
    have HD := Lib.hid (fun W => hd ▸ digit_any y W)
    by_cases d2 : 97 ≤ y.toNat ∧ y.toNat ≤ 102
    · have hv : hexV y = some (y.toNat - 87) := by
        unfold hexV; rw [hd, if_neg (by simp), if_pos (by simpa [UInt8.le_iff_toNat_le] using d2)]
      rw [hv]
      have e0 : decide ((97 : Int) ≤ (y.toNat : Int)) = true := by simp; omega
      have e00 : decide ((y.toNat : Int) ≤ 102) = true := by simp; omega
      have e1 : IntKind.u8.wrap ((y.toNat : Int) - 97) = ((y.toNat : Int) - 97) := by rw [IntKind.wrap_u8]; omega
      have e2 : IntKind.u8.wrap ((y.toNat : Int) - 97 + 10) = ((y.toNat - 87 : Nat) : Int) := by rw [IntKind.wrap_u8]; omega
      clear hd hv
      go_enter Tryz.func181, Tryz.ntmps181
      go_wp2_with (first | (go_at_call 180; refine HN.out.mono ?_; rintro e W1 ⟨rfl, hq, h1, hk1⟩) | (go_at_call 193; refine (HD.out _).mono ?_; rintro e W2 ⟨rfl, rfl⟩) | (go_at_call 182; refine (refuse_any h1 hs hlt).mono ?_; rintro e W3 ⟨rfl, hk2⟩))
      go_ret
      exact ⟨rfl, hq, h1, hk1⟩
    by_cases d3 : 65 ≤ y.toNat ∧ y.toNat ≤ 70
    · have hv : hexV y = some (y.toNat - 55) := by
        unfold hexV; rw [hd, if_neg (by simp), if_neg (by simp [UInt8.le_iff_toNat_le]; omega), if_pos (by simpa [UInt8.le_iff_toNat_le] using d3)]
      rw [hv]
      have e0 : decide ((97 : Int) ≤ (y.toNat : Int)) = false := by simp; omega
      have e00 : decide ((65 : Int) ≤ (y.toNat : Int)) = true := by simp; omega
      have e000 : decide ((y.toNat : Int) ≤ 70) = true := by simp; omega
      have e1 : IntKind.u8.wrap ((y.toNat : Int) - 65) = ((y.toNat : Int) - 65) := by rw [IntKind.wrap_u8]; omega
      have e2 : IntKind.u8.wrap ((y.toNat : Int) - 65 + 10) = ((y.toNat - 55 : Nat) : Int) := by rw [IntKind.wrap_u8]; omega
      clear hd hv
      go_enter Tryz.func181, Tryz.ntmps181
      go_wp2_with (first | (go_at_call 180; refine HN.out.mono ?_; rintro e W1 ⟨rfl, hq, h1, hk1⟩) | (go_at_call 193; refine (HD.out _).mono ?_; rintro e W2 ⟨rfl, rfl⟩) | (go_at_call 182; refine (refuse_any h1 hs hlt).mono ?_; rintro e W3 ⟨rfl, hk2⟩))
      go_ret
      exact ⟨rfl, hq, h1, hk1⟩
    have hv : hexV y = none := by
      unfold hexV; rw [hd, if_neg (by simp), if_neg (by simp [UInt8.le_iff_toNat_le]; omega), if_neg (by simp [UInt8.le_iff_toNat_le]; omega)]
    rw [hv]
    clear hd hv
    by_cases k1 : 97 ≤ y.toNat
    · have e0 : decide ((97 : Int) ≤ (y.toNat : Int)) = true := by simp; omega
      have e1 : decide ((y.toNat : Int) ≤ 102) = false := by simp; omega
      have e2 : decide ((65 : Int) ≤ (y.toNat : Int)) = true := by simp; omega
      have e3 : decide ((y.toNat : Int) ≤ 70) = false := by simp; omega
      go_enter Tryz.func181, Tryz.ntmps181
      go_wp2_with (first | (go_at_call 180; refine HN.out.mono ?_; rintro e W1 ⟨rfl, hq, h1, hk1⟩) | (go_at_call 193; refine (HD.out _).mono ?_; rintro e W2 ⟨rfl, rfl⟩) | (go_at_call 182; refine (refuse_any h1 hs hlt).mono ?_; rintro e W3 ⟨rfl, hk2⟩))
      exact ⟨rfl, rfl, hk1.trans hk2⟩
    · have e0 : decide ((97 : Int) ≤ (y.toNat : Int)) = false := by simp; omega
      by_cases k2 : 65 ≤ y.toNat
      · have e2 : decide ((65 : Int) ≤ (y.toNat : Int)) = true := by simp; omega
        have e3 : decide ((y.toNat : Int) ≤ 70) = false := by simp; omega
        go_enter Tryz.func181, Tryz.ntmps181
        go_wp2_with (first | (go_at_call 180; refine HN.out.mono ?_; rintro e W1 ⟨rfl, hq, h1, hk1⟩) | (go_at_call 193; refine (HD.out _).mono ?_; rintro e W2 ⟨rfl, rfl⟩) | (go_at_call 182; refine (refuse_any h1 hs hlt).mono ?_; rintro e W3 ⟨rfl, hk2⟩))
        exact ⟨rfl, rfl, hk1.trans hk2⟩
      · have e2 : decide ((65 : Int) ≤ (y.toNat : Int)) = false := by simp; omega
        go_enter Tryz.func181, Tryz.ntmps181
        go_wp2_with (first | (go_at_call 180; refine HN.out.mono ?_; rintro e W1 ⟨rfl, hq, h1, hk1⟩) | (go_at_call 193; refine (HD.out _).mono ?_; rintro e W2 ⟨rfl, rfl⟩) | (go_at_call 182; refine (refuse_any h1 hs hlt).mono ?_; rintro e W3 ⟨rfl, hk2⟩))
        exact ⟨rfl, rfl, hk1.trans hk2⟩
  · obtain rfl : p = s.size := by omega
    have hx : hexS (L s) s.size = .bad s.size 21 := by unfold hexS; rw [at_none (Nat.le_refl _)]
    rw [hx]
    go_enter Tryz.func181, Tryz.ntmps181
    go_wp2_with (go_at_call 180; refine (next_end h hs rfl).mono ?_; rintro e W1 ⟨rfl, hk1⟩)
    exact ⟨rfl, rfl, hk1⟩
theorem or_hex : ∀ a b : Fin 16, bits BinOp.or .u8 (((a.val : Nat) : Int) * 16) ((b.val : Nat) : Int) = ((16 * a.val + b.val : Nat) : Int) := by decide +kernel
theorem hexS_ok {s : ByteArray} {p n q : Nat} (h : hexS (L s) p = .ok n q) : n < 16 ∧ q ≤ s.size := by
  unfold hexS at h
  split at h
  · cases h
  · rename_i y hy
    obtain ⟨hlt, -⟩ := at_some hy
    split at h
    · rename_i v hv
      cases h
      exact ⟨hexV_lt hv, hlt⟩
    · cases h
set_option maxHeartbeats 2000000 in
theorem char_any {s : ByteArray} {p B : Nat} {v : Value} {xs : List Nd} {W : World} (h : PS W B s p v xs) (hs : s.size ≤ 4000) (hle : p ≤ s.size) :
    Calls Tryz.prog 154 #[.pointer (some ⟨B, 0, none⟩)] W (PostL (fun (n : Nat) => .int .u8 (n : Int)) B s v xs W (charS (L s) p)) := by
  rcases Nat.lt_or_ge p s.size with hlt | hge
  · have HN := Lib.hid (next_ok h hs hlt)
    by_cases h92 : s[p] = 92
    · have hx : charS (L s) p = match expectS (L s) 120 (p + 1) with
          | .bad q er => .bad q er
          | .ok _ q => match hexS (L s) q with
            | .bad q er => .bad q er
            | .ok h q => match hexS (L s) q with
              | .bad q er => .bad q er
              | .ok l q => .ok (16 * h + l) q := by unfold charS; rw [at_str hlt]; simp only [h92, if_true]; rfl
      rw [hx]
      clear hx
      rw [h92] at HN
      have e92 : (((92 : UInt8).toNat : Int) == 92) = true := by decide
      cases hE : expectS (L s) 120 (p + 1) with
      | bad q er =>
        have HE : Hid (∀ W1, PS W1 B s (p + 1) v xs → Calls Tryz.prog 176 #[.pointer (some ⟨B, 0, none⟩), .int .u8 120] W1 (PostL (fun _ => .tuple #[]) B s v xs W1 (.bad q er))) :=
          Lib.hid fun W1 h1 => by rw [← hE]; exact expect_any 120 120 rfl h1 hs hlt
        clear hE
        go_enter Tryz.func154, Tryz.ntmps154
        go_wp2_with (first | (go_at_call 180; refine HN.out.mono ?_; rintro e W1 ⟨rfl, hq, h1, hk1⟩) | (go_at_call 176; refine (HE.out _ h1).mono ?_; rintro e W2 ⟨rfl, hk2⟩))
        exact ⟨rfl, rfl, hk1.trans hk2⟩
      | ok u q =>
        have hq2 : q ≤ s.size := by
          unfold expectS at hE
          split at hE
          · cases hE
          · rename_i y hy
            split at hE
            · cases hE
              obtain ⟨hh, -⟩ := at_some hy
              exact hh
            · cases hE
        have HE : Hid (∀ W1, PS W1 B s (p + 1) v xs → Calls Tryz.prog 176 #[.pointer (some ⟨B, 0, none⟩), .int .u8 120] W1 (PostL (fun _ => .tuple #[]) B s v xs W1 (.ok u q))) :=
          Lib.hid fun W1 h1 => by rw [← hE]; exact expect_any 120 120 rfl h1 hs hlt
        clear hE
        dsimp only
        cases hH : hexS (L s) q with
        | bad q2 er =>
          have HH : Hid (∀ W1, PS W1 B s q v xs → Calls Tryz.prog 181 #[.pointer (some ⟨B, 0, none⟩)] W1 (PostL (fun (n : Nat) => .int .u8 (n : Int)) B s v xs W1 (.bad q2 er))) :=
            Lib.hid fun W1 h1 => by rw [← hH]; exact hex_any h1 hs hq2
          clear hH
          go_enter Tryz.func154, Tryz.ntmps154
          go_wp2_with (first | (go_at_call 180; refine HN.out.mono ?_; rintro e W1 ⟨rfl, hq, h1, hk1⟩) | (go_at_call 176; refine (HE.out _ h1).mono ?_; rintro e W2 ⟨rfl, hq2, h2, hk2⟩) | (go_at_call 181; refine (HH.out _ h2).mono ?_; clear HH; rintro e W3 ⟨rfl, hk3⟩) | (go_at_call 181; refine (HJ.out _ h3).mono ?_; rintro e W4 ⟨rfl, hk4⟩))
          exact ⟨rfl, rfl, (hk1.trans hk2).trans hk3⟩
        | ok a q2 =>
          have ha : a < 16 ∧ q2 ≤ s.size := hexS_ok hH
          have HH : Hid (∀ W1, PS W1 B s q v xs → Calls Tryz.prog 181 #[.pointer (some ⟨B, 0, none⟩)] W1 (PostL (fun (n : Nat) => .int .u8 (n : Int)) B s v xs W1 (.ok a q2))) :=
            Lib.hid fun W1 h1 => by rw [← hH]; exact hex_any h1 hs hq2
          clear hH
          dsimp only
          cases hJ : hexS (L s) q2 with
          | bad q3 er =>
            have HJ : Hid (∀ W1, PS W1 B s q2 v xs → Calls Tryz.prog 181 #[.pointer (some ⟨B, 0, none⟩)] W1 (PostL (fun (n : Nat) => .int .u8 (n : Int)) B s v xs W1 (.bad q3 er))) :=
              Lib.hid fun W1 h1 => by rw [← hJ]; exact hex_any h1 hs ha.2
            clear hJ
            go_enter Tryz.func154, Tryz.ntmps154
            go_wp2_with (first | (go_at_call 180; refine HN.out.mono ?_; rintro e W1 ⟨rfl, hq, h1, hk1⟩) | (go_at_call 176; refine (HE.out _ h1).mono ?_; rintro e W2 ⟨rfl, hq2, h2, hk2⟩) | (go_at_call 181; refine (HH.out _ h2).mono ?_; clear HH; rintro e W3 ⟨rfl, hq3, h3, hk3⟩) | (go_at_call 181; refine (HJ.out _ h3).mono ?_; rintro e W4 ⟨rfl, hk4⟩))
            exact ⟨rfl, rfl, ((hk1.trans hk2).trans hk3).trans hk4⟩
          | ok b q3 =>
            have hb : b < 16 ∧ q3 ≤ s.size := hexS_ok hJ
            obtain ⟨ha1, ha2⟩ := ha
            obtain ⟨hb1, hb2⟩ := hb
            have HJ : Hid (∀ W1, PS W1 B s q2 v xs → Calls Tryz.prog 181 #[.pointer (some ⟨B, 0, none⟩)] W1 (PostL (fun (n : Nat) => .int .u8 (n : Int)) B s v xs W1 (.ok b q3))) :=
              Lib.hid fun W1 h1 => by rw [← hJ]; exact hex_any h1 hs ha2
            clear hJ
            go_enter Tryz.func154, Tryz.ntmps154
            go_wp2_with (first | (go_at_call 180; refine HN.out.mono ?_; rintro e W1 ⟨rfl, hq, h1, hk1⟩) | (go_at_call 176; refine (HE.out _ h1).mono ?_; rintro e W2 ⟨rfl, hq2, h2, hk2⟩) | (go_at_call 181; refine (HH.out _ h2).mono ?_; clear HH; rintro e W3 ⟨rfl, hq3, h3, hk3⟩) | (go_at_call 181; refine (HJ.out _ h3).mono ?_; rintro e W4 ⟨rfl, hq4, h4, hk4⟩))
            go_ret
            exact ⟨ret_int (or_hex ⟨a, ha1⟩ ⟨b, hb1⟩), hq4, h4, ((hk1.trans hk2).trans hk3).trans hk4⟩
    · have hx : charS (L s) p = if plainB s[p] = true then .ok s[p].toNat (p + 1) else .bad p 20 := by unfold charS; rw [at_str hlt]; simp only [h92, if_false]
      rw [hx]
      clear hx
      generalize s[p] = y at HN h92
      have e92 : ((y.toNat : Int) == 92) = false := by
        rw [beq_eq_false_iff_ne]; intro e; exact h92 (UInt8.toNat.inj (by show y.toNat = 92; omega))
      cases hd : plainB y with
      | true =>
        have HD := Lib.hid (fun W => hd ▸ plain_any y W)
        clear hd h92
        rw [if_pos rfl]
        go_enter Tryz.func154, Tryz.ntmps154
        go_wp2_with (first | (go_at_call 180; refine HN.out.mono ?_; rintro e W1 ⟨rfl, hq, h1, hk1⟩) | (go_at_call 101; refine (HD.out _).mono ?_; rintro e W2 ⟨rfl, rfl⟩) | (go_at_call 182; refine (refuse_any h1 hs hlt).mono ?_; rintro e W3 ⟨rfl, hk2⟩))
        go_ret
        exact ⟨rfl, hq, h1, hk1⟩
      | false =>
        have HD := Lib.hid (fun W => hd ▸ plain_any y W)
        clear hd h92
        rw [if_neg (by simp)]
        go_enter Tryz.func154, Tryz.ntmps154
        go_wp2_with (first | (go_at_call 180; refine HN.out.mono ?_; rintro e W1 ⟨rfl, hq, h1, hk1⟩) | (go_at_call 101; refine (HD.out _).mono ?_; rintro e W2 ⟨rfl, rfl⟩) | (go_at_call 182; refine (refuse_any h1 hs hlt).mono ?_; rintro e W3 ⟨rfl, hk2⟩))
        exact ⟨rfl, rfl, hk1.trans hk2⟩
  · obtain rfl : p = s.size := by omega
    have hx : charS (L s) s.size = .bad s.size 21 := by unfold charS; rw [at_none (Nat.le_refl _)]
    rw [hx]
    go_enter Tryz.func154, Tryz.ntmps154
    go_wp2_with (go_at_call 180; refine (next_end h hs rfl).mono ?_; rintro e W1 ⟨rfl, hk1⟩)
    exact ⟨rfl, rfl, hk1⟩
end Go.Proofs.YtgbkjgfiofncdaaGreatDoor

/-
  Walks: the parser's numbers, bounds, repetitions.
-/
namespace Go.Proofs.YtgbkjgfiofncdaaGreatDoor
open Go.RowKit

/-- a byte's place in the rest of a text. -/
theorem drop_cons {s : ByteArray} {p : Nat} (h : p < s.size) : (L s).drop p = s[p] :: (L s).drop (p + 1) := by
  rw [List.drop_eq_getElem_cons (by simpa using h)]; rfl
theorem digitsS_bound : ∀ (l : List UInt8) (n : Nat), n ≤ 17 → (digitsS n l).1 ≤ 17 ∧ (digitsS n l).2 ≤ l.length
  | [], n, h => ⟨h, Nat.le_refl _⟩
  | y :: l, n, h => by
    unfold digitsS
    split
    · have := digitsS_bound l (min (10 * n + (y.toNat - 48)) 17) (by omega)
      simp only [List.length_cons]; omega
    · exact ⟨h, Nat.zero_le _⟩

/-- a number's result. -/
def numRes (X : Nat × Nat) (p : Nat) : LR Nat := if 16 < X.1 then .bad p 2 else .ok X.1 (p + 1 + X.2)
theorem numRes_yes {X : Nat × Nat} {p n : Nat} (h : X.1 = n ∧ 16 < n) : numRes X p = .bad p 2 := by unfold numRes; rw [h.1, if_pos h.2]
theorem numRes_no {X : Nat × Nat} {p n : Nat} (h : X.1 = n ∧ ¬ 16 < n) : numRes X p = .ok n (p + 1 + X.2) := by unfold numRes; rw [h.1, if_neg h.2]
def posOf (w : World) (B : Nat) : Nat := match w.cell? ⟨B, 1, none⟩ with
  | some (.int _ n) => n.toNat
  | _ => 0
theorem posOf_eq {W : World} {B : Nat} {s : ByteArray} {a : Nat} {v : Value} {xs : List Nd} (h : PS W B s a v xs) : posOf W B = a := by
  unfold posOf; rw [h.to_cells.2.1]; simp
set_option maxRecDepth 100000 in
set_option maxHeartbeats 2000000 in
theorem number_any {s : ByteArray} {p B : Nat} {v : Value} {xs : List Nd} {W : World} (h : PS W B s p v xs) (hs : s.size ≤ 4000) (hle : p ≤ s.size) :
    Calls Tryz.prog 183 #[.pointer (some ⟨B, 0, none⟩)] W (PostL (fun (n : Nat) => .int .i64 (n : Int)) B s v xs W (numberS (L s) p)) := by
  obtain ⟨c0, c1, c2, f0, f1, f2⟩ := h.to_cells
  rcases Nat.lt_or_ge p s.size with hlt | hge
  · have hx : numberS (L s) p = if digitB s[p] = true then numRes (digitsS (s[p].toNat - 48) ((L s).drop (p + 1))) p else .bad p 20 := by
      unfold numberS; rw [at_str hlt]; rfl
    rw [hx]
    clear hx
    have HN := Lib.hid (next_ok h hs hlt)
    generalize s[p] = y at HN
    cases hd : digitB y with
    | false =>
      have HD := Lib.hid (fun W => hd ▸ digit_any y W)
      rw [if_neg (by simp)]
      clear hd
      go_enter Tryz.func183, Tryz.ntmps183
      go_wp2_with (first | (go_at_call 180; refine HN.out.mono ?_; rintro e W1 ⟨rfl, hq, h1, hk1⟩) | (go_at_call 193; refine (HD.out _).mono ?_; rintro e W2 ⟨rfl, rfl⟩) | (go_at_call 182; refine (refuse_any h1 hs hlt).mono ?_; rintro e W3 ⟨rfl, hk2⟩))
      exact ⟨rfl, rfl, hk1.trans hk2⟩
    | true =>
      have HD := Lib.hid (fun W => hd ▸ digit_any y W)
      rw [if_pos rfl]
      have hy : 48 ≤ y.toNat ∧ y.toNat ≤ 57 := by rw [digitB_iff] at hd; simpa using hd
      clear hd
      obtain ⟨hy1, hy2⟩ := hy
      have e1 : IntKind.u8.wrap ((y.toNat : Int) - 48) = ((y.toNat - 48 : Nat) : Int) := by rw [IntKind.wrap_u8]; omega
      have hn : y.toNat - 48 ≤ 9 := by omega
      generalize y.toNat - 48 = n0 at e1 hn
      generalize hX : digitsS n0 ((L s).drop (p + 1)) = X
      have HX := Lib.hid hX
      clear hX
      go_enter Tryz.func183, Tryz.ntmps183
      go_wp2_with (first | (go_at_call 180; refine HN.out.mono ?_; rintro e W1 ⟨rfl, hq, h1, hk1⟩) | (go_at_call 193; refine (HD.out _).mono ?_; rintro e W2 ⟨rfl, rfl⟩))
      go_loopw [5] (fun nv wr => ∃ (n q : Nat), nv = .int .i64 (n : Int) ∧ n ≤ 17 ∧ q ≤ s.size ∧ PS wr B s q v xs ∧ KP B W wr ∧ (digitsS n ((L s).drop q)).1 = X.1 ∧ q + (digitsS n ((L s).drop q)).2 = p + 1 + X.2) (fun _ wr => s.size - posOf wr B)
      case atStart => exact ⟨n0, p + 1, rfl, by omega, hq, h1, hk1, by rw [HX.out], by rw [HX.out]⟩
      case round =>
        clear h1 hk1 c0 c1 c2 f0 f1 f2 HN HX
        obtain ⟨n, q, rfl, hn17, hqs, hr, hkr, hinv1, hinv2⟩ := hrel
        obtain ⟨c0, c1, c2, f0, f1, f2⟩ := hr.to_cells
        have hpos : posOf wr B = q := posOf_eq hr
        by_cases g1 : 0 < n
        · have t0 : decide ((0 : Int) < (n : Int)) = true := by simp; omega
          by_cases g2 : q < s.size
          · have t2 : decide ((q : Int) < (s.size : Int)) = true := by simp; omega
            cases hd : digitB s[q] with
            | true =>
              have HQ := Lib.hid (fun W => hd ▸ digit_any s[q] W)
              have HM := Lib.hid (fun W1 (h1 : PS W1 B s q v xs) => next_ok h1 hs g2)
              have hy : 48 ≤ s[q].toNat ∧ s[q].toNat ≤ 57 := by rw [digitB_iff] at hd; simpa using hd
              have hstep : digitsS n ((L s).drop q) = ((digitsS (min (10 * n + (s[q].toNat - 48)) 17) ((L s).drop (q + 1))).1, (digitsS (min (10 * n + (s[q].toNat - 48)) 17) ((L s).drop (q + 1))).2 + 1) := by
                rw [drop_cons g2, digitsS, if_pos ⟨g1, hd⟩]
              rw [hstep] at hinv1 hinv2
              clear hstep hd
              obtain ⟨hy1, hy2⟩ := hy
              have e1 : IntKind.u8.wrap ((s[q].toNat : Int) - 48) = ((s[q].toNat - 48 : Nat) : Int) := by rw [IntKind.wrap_u8]; omega
              have hd9 : s[q].toNat - 48 ≤ 9 := by omega
              have HI := Lib.hid (And.intro hinv1 hinv2)
              clear hinv1 hinv2
              go_wp2_with fail
              go_quiet ((go_at_call 193; exact Calls.quiet_of_same (HQ.out _)))
              go_wp2_with (go_at_call 180; refine (HM.out _ (hr.drewN _)).mono ?_; rintro e W1 ⟨rfl, hq1, h1, hk1⟩)
              go_roundw
              case rel => exact ⟨min (10 * n + (s[q].toNat - 48)) 17, q + 1, by rw [Value.int.injEq]; refine ⟨rfl, ?_⟩; omega, by omega, hq1, h1, (hkr.drewN _).trans hk1, HI.out.1, by have := HI.out.2; omega⟩
              case measure =>
                have hpos1 : posOf W1 B = q + 1 := posOf_eq h1
                omega
            | false =>
              have HQ := Lib.hid (fun W => hd ▸ digit_any s[q] W)
              have hstep : digitsS n ((L s).drop q) = (n, 0) := by
                rw [drop_cons g2, digitsS, if_neg (by simp [hd])]
              have X1 : X.1 = n := by rw [hstep] at hinv1; exact hinv1.symm
              have X2 : p + 1 + X.2 = q := by rw [hstep] at hinv2; exact hinv2.symm
              clear hstep hd
              go_wp2_with fail
              go_quiet ((go_at_call 193; exact Calls.quiet_of_same (HQ.out _)))
              have hk5 := hkr.drewN nq
              by_cases hbig : 16 < n
              · have t1 : decide ((16 : Int) < (n : Int)) = true := by simp; omega
                have HB := Lib.hid (And.intro X1 hbig)
                clear X1 X2 hbig hinv1 hinv2
                go_wp2
                refine ⟨rfl, ?_⟩
                rw [numRes_yes HB.out]
                exact ⟨rfl, hk5⟩
              · have t1 : decide ((16 : Int) < (n : Int)) = false := by simp; omega
                have hq5 : p + 1 + X.2 ≤ s.size := by omega
                have h5 : PS (wr.drewN nq) B s (p + 1 + X.2) v xs := by rw [X2]; exact hr.drewN nq
                have HB := Lib.hid (And.intro X1 hbig)
                clear X1 X2 hbig hinv1 hinv2
                go_wp2
                go_ret
                rw [numRes_no HB.out]
                exact ⟨rfl, hq5, h5, hk5⟩
          · obtain rfl : q = s.size := by omega
            have t2 : decide ((s.size : Int) < (s.size : Int)) = false := by simp
            have HQ : Hid (∀ W : World, True) := fun _ => trivial
            have hstep : digitsS n ((L s).drop s.size) = (n, 0) := by
              rw [List.drop_eq_nil_of_le (by simp)]; rfl
            have X1 : X.1 = n := by rw [hstep] at hinv1; exact hinv1.symm
            have X2 : p + 1 + X.2 = s.size := by rw [hstep] at hinv2; exact hinv2.symm
            clear hstep
            go_wp2_with fail
            go_quiet (fail)
            have hk5 := hkr.drewN nq
            by_cases hbig : 16 < n
            · have t1 : decide ((16 : Int) < (n : Int)) = true := by simp; omega
              have HB := Lib.hid (And.intro X1 hbig)
              clear X1 X2 hbig hinv1 hinv2
              go_wp2
              refine ⟨rfl, ?_⟩
              rw [numRes_yes HB.out]
              exact ⟨rfl, hk5⟩
            · have t1 : decide ((16 : Int) < (n : Int)) = false := by simp; omega
              have hq5 : p + 1 + X.2 ≤ s.size := by omega
              have h5 : PS (wr.drewN nq) B s (p + 1 + X.2) v xs := by rw [X2]; exact hr.drewN nq
              have HB := Lib.hid (And.intro X1 hbig)
              clear X1 X2 hbig hinv1 hinv2
              go_wp2
              go_ret
              rw [numRes_no HB.out]
              exact ⟨rfl, hq5, h5, hk5⟩
        · obtain rfl : n = 0 := by omega
          have t0 : decide ((0 : Int) < ((0 : Nat) : Int)) = false := by simp
          have hstep : digitsS 0 ((L s).drop q) = (0, 0) := by
            cases (L s).drop q with
            | nil => rfl
            | cons a l => rw [digitsS, if_neg (by simp)]
          have X1 : X.1 = 0 := by rw [hstep] at hinv1; exact hinv1.symm
          have X2 : p + 1 + X.2 = q := by rw [hstep] at hinv2; exact hinv2.symm
          clear hstep
          have t1 : decide ((16 : Int) < ((0 : Nat) : Int)) = false := by simp
          go_wp2_with fail
          go_quiet (fail)
          have hk5 := hkr.drewN nq
          have hq5 : p + 1 + X.2 ≤ s.size := by omega
          have h5 : PS (wr.drewN nq) B s (p + 1 + X.2) v xs := by rw [X2]; exact hr.drewN nq
          have HB := Lib.hid X1
          clear X1 X2 hinv1 hinv2
          go_wp2
          go_ret
          rw [numRes_no ⟨HB.out, by omega⟩]
          exact ⟨rfl, hq5, h5, hk5⟩
  · obtain rfl : p = s.size := by omega
    have hx : numberS (L s) s.size = .bad s.size 21 := by unfold numberS; rw [at_none (Nat.le_refl _)]
    rw [hx]
    go_enter Tryz.func183, Tryz.ntmps183
    go_wp2_with (go_at_call 180; refine (next_end h hs rfl).mono ?_; rintro e W1 ⟨rfl, hk1⟩)
    exact ⟨rfl, rfl, hk1⟩
end Go.Proofs.YtgbkjgfiofncdaaGreatDoor

/-
  Walks: the parser's bounds and repetitions.
-/
namespace Go.Proofs.YtgbkjgfiofncdaaGreatDoor
open Go.RowKit

/-- a contract at one known result. -/
theorem LR.bad_le {s : ByteArray} {p : Nat} (h : p ≤ s.size) : p ≤ s.size := h
theorem expectS_ok {s : ByteArray} {c : UInt8} {p q : Nat} {u : Unit} (h : expectS (L s) c p = .ok u q) : q ≤ s.size := by
  unfold expectS at h
  split at h
  · cases h
  · rename_i y hy
    split at h
    · cases h
      obtain ⟨hh, -⟩ := at_some hy
      exact hh
    · cases h
theorem numberS_ok {s : ByteArray} {p n q : Nat} (h : numberS (L s) p = .ok n q) : n ≤ 16 ∧ q ≤ s.size := by
  unfold numberS at h
  split at h
  · cases h
  · rename_i y hy
    obtain ⟨hlt, -⟩ := at_some hy
    split at h
    · rename_i hd
      have hd' : 48 ≤ y.toNat ∧ y.toNat ≤ 57 := by rw [digitB_iff] at hd; simpa using hd
      have hb := digitsS_bound ((L s).drop (p + 1)) (y.toNat - 48) (by omega)
      have hl : ((L s).drop (p + 1)).length = s.size - (p + 1) := by simp
      dsimp only at h
      split at h
      · cases h
      · rename_i hn
        cases h
        omega
    · cases h
theorem charS_ok {s : ByteArray} {p n q : Nat} (h : charS (L s) p = .ok n q) : n < 256 ∧ q ≤ s.size := by
  unfold charS at h
  split at h
  · cases h
  · rename_i y hy
    obtain ⟨hlt, -⟩ := at_some hy
    split at h
    · split at h
      · cases h
      · split at h
        · cases h
        · rename_i h1 hh1
          have a := hexS_ok hh1
          split at h
          · cases h
          · rename_i h2 hh2
            have b := hexS_ok hh2
            cases h
            exact ⟨by omega, b.2⟩
    · split at h
      · cases h
        have := y.toNat_lt
        exact ⟨by omega, hlt⟩
      · cases h

set_option maxRecDepth 100000 in
set_option maxHeartbeats 4000000 in
theorem bounds_any {s : ByteArray} {p B : Nat} {v : Value} {xs : List Nd} {W : World} (h : PS W B s p v xs) (hs : s.size ≤ 4000) (hle : p ≤ s.size) :
    Calls Tryz.prog 155 #[.pointer (some ⟨B, 0, none⟩)] W (PostL (fun (b : Int × Int) => .tuple #[.int .i64 b.1, .int .i64 b.2]) B s v xs W (boundsS (L s) p)) := by
  unfold boundsS
  have HN := Lib.hid (number_any h hs hle)
  cases hN : numberS (L s) p with
  | bad q er =>
    rw [hN] at HN
    clear hN
    go_enter Tryz.func155, Tryz.ntmps155
    go_wp2_with (go_at_call 183; refine HN.out.mono ?_; rintro e W1 ⟨rfl, hk1⟩)
    exact ⟨rfl, rfl, hk1⟩
  | ok a q =>
    rw [hN] at HN
    obtain ⟨ha, hq⟩ := numberS_ok hN
    clear hN
    dsimp only
    have HE := Lib.hid (fun W1 (h1 : PS W1 B s q v xs) => expect_any 44 44 rfl h1 hs hq)
    cases hE : expectS (L s) 44 q with
    | bad q2 er =>
      rw [hE] at HE
      clear hE
      go_enter Tryz.func155, Tryz.ntmps155
      go_wp2_with (first | (go_at_call 183; refine HN.out.mono ?_; rintro e W1 ⟨rfl, hq1, h1, hk1⟩) | (go_at_call 176; refine (HE.out _ h1).mono ?_; rintro e W2 ⟨rfl, hk2⟩))
      exact ⟨rfl, rfl, hk1.trans hk2⟩
    | ok u q2 =>
      rw [hE] at HE
      have hq2 := expectS_ok hE
      clear hE
      dsimp only
      by_cases hT : (L s)[q2]? = some 125
      · rw [if_pos hT]
        have HT := Lib.hid (fun W1 (h1 : PS W1 B s q2 v xs) => take_yes 125 rfl h1 hs hT)
        clear hT
        go_enter Tryz.func155, Tryz.ntmps155
        go_wp2_with (first | (go_at_call 183; refine HN.out.mono ?_; rintro e W1 ⟨rfl, hq1, h1, hk1⟩) | (go_at_call 176; refine (HE.out _ h1).mono ?_; rintro e W2 ⟨rfl, hq2', h2, hk2⟩) | (go_at_call 67; refine (HT.out _ h2).mono ?_; rintro e W3 ⟨rfl, hq3, h3, hk3⟩))
        go_ret2
        exact ⟨rfl, hq3, h3, (hk1.trans hk2).trans hk3⟩
      · rw [if_neg hT]
        have HT := Lib.hid (fun W1 (h1 : PS W1 B s q2 v xs) => take_no 125 rfl h1 hs hq2 hT)
        clear hT
        have HM := Lib.hid (fun W1 (h1 : PS W1 B s q2 v xs) => number_any h1 hs hq2)
        cases hM : numberS (L s) q2 with
        | bad q3 er =>
          rw [hM] at HM
          clear hM
          go_enter Tryz.func155, Tryz.ntmps155
          go_wp2_with (first | (go_at_call 183; refine HN.out.mono ?_; clear HN; rintro e W1 ⟨rfl, hq1, h1, hk1⟩) | (go_at_call 176; refine (HE.out _ h1).mono ?_; rintro e W2 ⟨rfl, hq2', h2, hk2⟩) | (go_at_call 67; refine (HT.out _ h2).mono ?_; rintro e W3 ⟨rfl, h3, hk3⟩; obtain ⟨c0, c1, c2, f0, f1, f2⟩ := h3.to_cells) | (go_at_call 183; refine (HM.out _ h3).mono ?_; rintro e W4 ⟨rfl, hk4⟩))
          exact ⟨rfl, rfl, ((hk1.trans hk2).trans hk3).trans hk4⟩
        | ok b q3 =>
          rw [hM] at HM
          obtain ⟨hb, hq3⟩ := numberS_ok hM
          clear hM
          dsimp only
          by_cases hlt : b < a
          · rw [if_pos hlt]
            have t1 : decide ((b : Int) < (a : Int)) = true := by simp; omega
            go_enter Tryz.func155, Tryz.ntmps155
            go_wp2_with (first | (go_at_call 183; refine HN.out.mono ?_; clear HN; rintro e W1 ⟨rfl, hq1, h1, hk1⟩) | (go_at_call 176; refine (HE.out _ h1).mono ?_; rintro e W2 ⟨rfl, hq2', h2, hk2⟩) | (go_at_call 67; refine (HT.out _ h2).mono ?_; rintro e W3 ⟨rfl, h3, hk3⟩; obtain ⟨c0, c1, c2, f0, f1, f2⟩ := h3.to_cells) | (go_at_call 183; refine (HM.out _ h3).mono ?_; rintro e W4 ⟨rfl, hq4, h4, hk4⟩))
            exact ⟨rfl, rfl, ((hk1.trans hk2).trans hk3).trans hk4⟩
          · rw [if_neg hlt]
            have t1 : decide ((b : Int) < (a : Int)) = false := by simp; omega
            have HF := Lib.hid (fun W1 (h1 : PS W1 B s q3 v xs) => expect_any 125 125 rfl h1 hs hq3)
            cases hF : expectS (L s) 125 q3 with
            | bad q4 er =>
              rw [hF] at HF
              clear hF
              go_enter Tryz.func155, Tryz.ntmps155
              go_wp2_with (first | (go_at_call 183; refine HN.out.mono ?_; clear HN; rintro e W1 ⟨rfl, hq1, h1, hk1⟩) | (go_at_call 176; refine (HE.out _ h1).mono ?_; clear HE; rintro e W2 ⟨rfl, hq2', h2, hk2⟩) | (go_at_call 67; refine (HT.out _ h2).mono ?_; rintro e W3 ⟨rfl, h3, hk3⟩; obtain ⟨c0, c1, c2, f0, f1, f2⟩ := h3.to_cells) | (go_at_call 183; refine (HM.out _ h3).mono ?_; rintro e W4 ⟨rfl, hq4, h4, hk4⟩) | (go_at_call 176; refine (HF.out _ h4).mono ?_; rintro e W5 ⟨rfl, hk5⟩))
              exact ⟨rfl, rfl, (((hk1.trans hk2).trans hk3).trans hk4).trans hk5⟩
            | ok u2 q4 =>
              rw [hF] at HF
              clear hF
              go_enter Tryz.func155, Tryz.ntmps155
              go_wp2_with (first | (go_at_call 183; refine HN.out.mono ?_; clear HN; rintro e W1 ⟨rfl, hq1, h1, hk1⟩) | (go_at_call 176; refine (HE.out _ h1).mono ?_; clear HE; rintro e W2 ⟨rfl, hq2', h2, hk2⟩) | (go_at_call 67; refine (HT.out _ h2).mono ?_; rintro e W3 ⟨rfl, h3, hk3⟩; obtain ⟨c0, c1, c2, f0, f1, f2⟩ := h3.to_cells) | (go_at_call 183; refine (HM.out _ h3).mono ?_; rintro e W4 ⟨rfl, hq4, h4, hk4⟩) | (go_at_call 176; refine (HF.out _ h4).mono ?_; rintro e W5 ⟨rfl, hq5, h5, hk5⟩))
              go_ret2
              exact ⟨rfl, hq5, h5, (((hk1.trans hk2).trans hk3).trans hk4).trans hk5⟩
end Go.Proofs.YtgbkjgfiofncdaaGreatDoor
