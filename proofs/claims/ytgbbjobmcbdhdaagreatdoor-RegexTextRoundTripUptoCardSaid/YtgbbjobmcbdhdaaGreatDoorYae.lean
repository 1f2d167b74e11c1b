/-
  Texts of the proof, one behind another: Pa, Pb.
-/
import Derived.Test.YtgbbjobmcbdhdaaGreatDoorYab
import Derived.Test.YtgbbjobmcbdhdaaGreatDoorYac
import Derived.Test.YtgbbjobmcbdhdaaGreatDoorShelf
import Derived.Test.YtgbbjobmcbdhdaaGreatDoorYad
import Derived.Lib.Hide
import Derived.Deep.QuietTactic
import Derived.BigQuiet
import Derived.RegionTactic
import Derived.BigRegion
import Derived.ChangeAlike
import Derived.Outline
import Derived.IntWalk
import Derived.Lib.Bytealg
set_option linter.unusedSimpArgs false
set_option linter.unusedVariables false
/-
  Nodes of an expression, the parser's memory, what a call of the parser keeps.
-/
namespace Go.Proofs.YtgbbjobmcbdhdaaGreatDoor
open Go.RowKit

abbrev valN (n : Nd) : Value := .agg #[.int .i64 n.k, .int .u64 (wd n.c 0), .int .u64 (wd n.c 1), .int .u64 (wd n.c 2), .int .u64 (wd n.c 3), .int .i64 n.l, .int .i64 n.r, .int .i64 n.mn, .int .i64 n.mx]
def encN (n : Nd) : List Value := [.int .i64 n.k, .int .u64 (wd n.c 0), .int .u64 (wd n.c 1), .int .u64 (wd n.c 2), .int .u64 (wd n.c 3), .int .i64 n.l, .int .i64 n.r, .int .i64 n.mn, .int .i64 n.mx]
abbrev Bad (a : Int) (er : Int) : Ending := .panicked [{ v := .iface 72 (.agg #[.int .i64 a, .int .i64 er]), recovered := false }]

/-- what a call of the parser keeps: all blocks but the parser's own and the rows of nodes. -/
structure KP (B : Nat) (W W' : World) : Prop where
  os : W'.os = W.os
  tape : W'.tape = W.tape
  output : W'.output = W.output
  size : W.heap.size ≤ W'.heap.size
  block : ∀ k, k < W.heap.size → k ≠ B → (B < k → ∀ cur m, W.heap[k]? ≠ some (.cells cur 45 m)) → W'.heap[k]? = W.heap[k]?
theorem KP.refl (B : Nat) (W : World) : KP B W W := ⟨rfl, rfl, rfl, Nat.le_refl _, fun _ _ _ _ => rfl⟩
theorem KP.trans {B : Nat} {a b c : World} (h : KP B a b) (k : KP B b c) : KP B a c :=
  ⟨k.os.trans h.os, k.tape.trans h.tape, k.output.trans h.output, Nat.le_trans h.size k.size, fun i hi hne hno => by
    have e1 := h.block i hi hne hno
    exact (k.block i (Nat.lt_of_lt_of_le hi h.size) hne (by rw [e1]; exact hno)).trans e1⟩
theorem KP.of_below {B : Nat} {a b : World} (h : Below a.heap.size a b) : KP B a b := ⟨h.os, h.tape, h.output, h.size, fun k hk _ _ => h.block k hk⟩
theorem KP.of_grown {B : Nat} {a b : World} {row : Option Nat} (h : a.grownBy b row) (hr : ∀ k, row = some k → k ≠ B → B < k ∧ ∃ cur m, a.heap[k]? = some (.cells cur 45 m)) : KP B a b :=
  ⟨h.os, h.tape, h.output, h.size, fun k hk hne hno => h.block k hk fun e => by
    obtain ⟨hlt, cur, m, hc⟩ := hr k e.symm hne
    exact hno hlt cur m hc⟩
theorem KP.alloc {B : Nat} {a b : World} (h : KP B a b) (o : Obj) : KP B a (b.alloc o) := h.trans (KP.of_below ((Below.refl _ _).alloc (Nat.le_refl _) o))
theorem KP.drew {B : Nat} {a b : World} (h : KP B a b) : KP B a b.drew := h.trans (KP.of_below (Below.refl _ _).drew)
theorem KP.set {B : Nat} {a b : World} (h : KP B a b) (i : Nat) (v : Value) : KP B a (b.setCell ⟨B, i, none⟩ v) :=
  h.trans ⟨rfl, rfl, rfl, by simp, fun k _ hne _ => Below.heap_setCell _ _ _ _ (by simpa using hne)⟩
theorem Blk.keptP {B : Nat} {W W' : World} {b : Nat} {vs : Array Value} {t : TypeId} (h : Blk W b vs t) (hk : KP B W W') (hne : b ≠ B) (ht : t ≠ 45) : Blk W' b vs t :=
  ⟨(hk.block b h.lt hne fun _ cur m e => by
    rw [h.is] at e
    simp only [Option.some.injEq, Obj.cells.injEq] at e
    exact ht e.2.1).trans h.is⟩
theorem own_shape {w : World} {base : Nat} {e : TypeId} {size : Nat} {v : Value} {n : Nat} {xs : List Value} (h : w.ownsRow base e size v n xs) : ∃ p cap, v = .slice p n cap := by
  rcases h.2 with ⟨rfl, rfl⟩ | ⟨g, cap, cur, rfl, _⟩
  · exact ⟨_, _, rfl⟩
  · exact ⟨_, _, rfl⟩
/-- the parser's memory: what it has read up to where, the nodes so far. -/
structure PS (W : World) (B : Nat) (s : ByteArray) (at_ : Nat) (v : Value) (xs : List Nd) : Prop where
  is : Blk W B #[.string s, .int .i64 (at_ : Int), v] 75
  own : W.ownsRow (B + 1) 45 9 v xs.length (xs.flatMap encN)
theorem Blk.three {w : World} {b : Nat} {v0 v1 v2 : Value} {t : TypeId} (h : Blk w b #[v0, v1, v2] t) :
    w.cell? ⟨b, 0, none⟩ = some v0 ∧ w.cell? ⟨b, 1, none⟩ = some v1 ∧ w.cell? ⟨b, 2, none⟩ = some v2 ∧
    w.frozen? ⟨b, 0, none⟩ = false ∧ w.frozen? ⟨b, 1, none⟩ = false ∧ w.frozen? ⟨b, 2, none⟩ = false :=
  ⟨h.cell 0 rfl, h.cell 1 rfl, h.cell 2 rfl, h.free 0, h.free 1, h.free 2⟩
theorem own_other_set {W : World} {B e size n : Nat} {v : Value} {xs : List Value} (h : W.ownsRow (B + 1) e size v n xs) (i : Nat) (x : Value) : (W.setCell ⟨B, i, none⟩ x).ownsRow (B + 1) e size v n xs :=
  h.kept (row := some B) ⟨rfl, rfl, rfl, by simp, fun k _ hne => Below.heap_setCell _ _ _ _ (by simp; intro e; exact hne (by rw [e]))⟩ (by
    rcases hv : v.ownBlock with _ | g
    · exact .inl rfl
    · right; intro e; have := own_ge h g hv; cases e; omega)
theorem PS.to {W : World} {B : Nat} {s : ByteArray} {a : Nat} {v : Value} {xs : List Nd} (h : PS W B s a v xs) (b : Nat) : PS (W.setCell ⟨B, 1, none⟩ (.int .i64 (b : Int))) B s b v xs :=
  ⟨h.is.set 1 _, own_other_set h.own 1 _⟩
theorem PS.drew {W : World} {B : Nat} {s : ByteArray} {a : Nat} {v : Value} {xs : List Nd} (h : PS W B s a v xs) : PS W.drew B s a v xs := ⟨h.is.drew, h.own.drew⟩
theorem PS.grows {W W' : World} {B : Nat} {s : ByteArray} {a : Nat} {v : Value} {xs : List Nd} (h : PS W B s a v xs) (hb : Below W.heap.size W W') : PS W' B s a v xs := ⟨h.is.grows hb, own_below h.own hb⟩
theorem PS.alloc {W : World} {B : Nat} {s : ByteArray} {a : Nat} {v : Value} {xs : List Nd} (h : PS W B s a v xs) (o : Obj) : PS (W.alloc o) B s a v xs := ⟨h.is.alloc o, own_alloc h.own o⟩
theorem KP.drewN {B : Nat} {a b : World} (h : KP B a b) (n : Nat) : KP B a (b.drewN n) := h.trans ⟨rfl, rfl, rfl, Nat.le_refl _, fun _ _ _ _ => rfl⟩
theorem Blk.drewN {w : World} {b : Nat} {vs : Array Value} {t : TypeId} (h : Blk w b vs t) (n : Nat) : Blk (w.drewN n) b vs t := ⟨h.is⟩
theorem PS.drewN {W : World} {B : Nat} {s : ByteArray} {a : Nat} {v : Value} {xs : List Nd} (h : PS W B s a v xs) (n : Nat) : PS (W.drewN n) B s a v xs := h.grows ⟨rfl, rfl, rfl, Nat.le_refl _, fun _ _ => rfl⟩
/-- how a reader of a part without nodes ends. -/
def PostL {α : Type} (val : α → Value) (B : Nat) (s : ByteArray) (v : Value) (xs : List Nd) (W : World) : LR α → Ending → World → Prop
  | .ok a q, e, W' => e = .returned (val a) ∧ q ≤ s.size ∧ PS W' B s q v xs ∧ KP B W W'
  | .bad q er, e, W' => e = Bad q er ∧ KP B W W'
end Go.Proofs.YtgbbjobmcbdhdaaGreatDoor

/-
  Walks: the parser's readers of one byte.
-/
namespace Go.Proofs.YtgbbjobmcbdhdaaGreatDoor
open Go.RowKit

abbrev L (s : ByteArray) : List UInt8 := s.data.toList
theorem at_str {s : ByteArray} {p : Nat} (h : p < s.size) : (L s)[p]? = some s[p] := by
  rw [List.getElem?_eq_getElem (by simpa using h)]; rfl
theorem at_none {s : ByteArray} {p : Nat} (h : s.size ≤ p) : (L s)[p]? = none := List.getElem?_eq_none (by simpa using h)
theorem at_some {s : ByteArray} {p : Nat} {y : UInt8} (h : (L s)[p]? = some y) : ∃ hp : p < s.size, s[p] = y := by
  rcases Nat.lt_or_ge p s.size with hp | hp
  · refine ⟨hp, ?_⟩
    rw [at_str hp] at h; exact Option.some.inj h
  · rw [at_none hp] at h; cases h

set_option maxHeartbeats 400000 in
theorem next_ok {s : ByteArray} {p B : Nat} {v : Value} {xs : List Nd} {W : World} (h : PS W B s p v xs) (hs : s.size ≤ 4000) (hp : p < s.size) :
    Calls Tryz.prog 180 #[.pointer (some ⟨B, 0, none⟩)] W fun e W' => e = .returned (.int .u8 ((s[p]).toNat : Int)) ∧ p + 1 ≤ s.size ∧ PS W' B s (p + 1) v xs ∧ KP B W W' := by
  obtain ⟨c0, c1, c2, f0, f1, f2⟩ := h.is.three
  have he : ((p : Int) == (s.size : Int)) = false := beq_eq_false_iff_ne.2 (by omega)
  go_enter Tryz.func180, Tryz.ntmps180
  have w1 : IntKind.i64.wrap ((p : Int) + 1) = (p : Int) + 1 := IntWalk.i64_in _ (by omega)
  have w2 : IntKind.i64.wrap ((p : Int) + 1 - 1) = (p : Int) := by rw [IntWalk.i64_in _ (by omega)]; omega
  have w3 : (0 : Int) ≤ (p : Int) + 1 := by omega
  go_wp2
  go_quiet (fail)
  go_wp2
  go_quiet (fail)
  go_wp2
  go_ret
  exact ⟨rfl, hp, ((h.drewN _).to (p + 1)).drewN _, (((KP.refl B W).drewN _).set _ _).drewN _⟩
set_option maxHeartbeats 400000 in
theorem next_end {s : ByteArray} {p B : Nat} {v : Value} {xs : List Nd} {W : World} (h : PS W B s p v xs) (hs : s.size ≤ 4000) (hp : p = s.size) :
    Calls Tryz.prog 180 #[.pointer (some ⟨B, 0, none⟩)] W fun e W' => e = Bad p 21 ∧ KP B W W' := by
  subst hp
  obtain ⟨c0, c1, c2, f0, f1, f2⟩ := h.is.three
  have he : ((s.size : Int) == (s.size : Int)) = true := by simp
  go_enter Tryz.func180, Tryz.ntmps180
  go_wp2
  go_quiet (fail)
  go_wp2
  exact ⟨rfl, rfl, (KP.refl B W).drewN _⟩
set_option maxHeartbeats 400000 in
theorem refuse_any {s : ByteArray} {p B : Nat} {v : Value} {xs : List Nd} {W : World} (h : PS W B s (p + 1) v xs) (hs : s.size ≤ 4000) (hp : p < s.size) :
    Calls Tryz.prog 182 #[.pointer (some ⟨B, 0, none⟩)] W fun e W' => e = Bad p 20 ∧ KP B W W' := by
  obtain ⟨c0, c1, c2, f0, f1, f2⟩ := h.is.three
  go_enter Tryz.func182, Tryz.ntmps182
  have w2 : IntKind.i64.wrap (((p + 1 : Nat) : Int) - 1) = (p : Int) := by rw [IntWalk.i64_in _ (by omega)]; omega
  go_wp2
  exact ⟨rfl, rfl, (KP.refl B W)⟩
set_option maxHeartbeats 400000 in
theorem take_yes {s : ByteArray} {p B : Nat} {v : Value} {xs : List Nd} {W : World} {c : UInt8} (cI : Int) (hI : cI = (c.toNat : Int)) (h : PS W B s p v xs) (hs : s.size ≤ 4000) (hp : (L s)[p]? = some c) :
    Calls Tryz.prog 67 #[.pointer (some ⟨B, 0, none⟩), .int .u8 cI] W fun e W' => e = .returned (.bool true) ∧ p + 1 ≤ s.size ∧ PS W' B s (p + 1) v xs ∧ KP B W W' := by
  subst hI
  obtain ⟨hlt, he⟩ := at_some hp
  obtain ⟨c0, c1, c2, f0, f1, f2⟩ := h.is.three
  have e1 : ((p : Int) == (s.size : Int)) = false := beq_eq_false_iff_ne.2 (by omega)
  have e2 : ((s[p].toNat : Int) != (c.toNat : Int)) = false := by rw [he]; simp
  have w1 : IntKind.i64.wrap ((p : Int) + 1) = (p : Int) + 1 := IntWalk.i64_in _ (by omega)
  go_enter Tryz.func67, Tryz.ntmps67
  clear he hp
  go_wp2
  go_quiet (fail)
  go_wp2
  go_ret
  exact ⟨rfl, hlt, (h.drewN _).to (p + 1), ((KP.refl B W).drewN _).set _ _⟩
set_option maxHeartbeats 400000 in
theorem take_no {s : ByteArray} {p B : Nat} {v : Value} {xs : List Nd} {W : World} {c : UInt8} (cI : Int) (hI : cI = (c.toNat : Int)) (h : PS W B s p v xs) (hs : s.size ≤ 4000) (hle : p ≤ s.size) (hp : (L s)[p]? ≠ some c) :
    Calls Tryz.prog 67 #[.pointer (some ⟨B, 0, none⟩), .int .u8 cI] W fun e W' => e = .returned (.bool false) ∧ PS W' B s p v xs ∧ KP B W W' := by
  subst hI
  obtain ⟨c0, c1, c2, f0, f1, f2⟩ := h.is.three
  by_cases hlt : p < s.size
  · have e1 : ((p : Int) == (s.size : Int)) = false := beq_eq_false_iff_ne.2 (by omega)
    have e2 : ((s[p].toNat : Int) != (c.toNat : Int)) = true := by
      rw [bne_iff_ne]
      intro e
      rw [at_str hlt] at hp
      exact hp (congrArg some (UInt8.toNat.inj (by omega)))
    go_enter Tryz.func67, Tryz.ntmps67
    clear hp
    go_wp2
    go_quiet (fail)
    go_wp2
    go_ret
    exact ⟨rfl, h.drewN _, (KP.refl B W).drewN _⟩
  · obtain rfl : p = s.size := by omega
    have e1 : ((s.size : Int) == (s.size : Int)) = true := by simp
    go_enter Tryz.func67, Tryz.ntmps67
    clear hp
    go_wp2
    go_quiet (fail)
    go_wp2
    go_ret
    exact ⟨rfl, h.drewN _, (KP.refl B W).drewN _⟩
theorem digit_any (y : UInt8) (W : World) :
    Calls Tryz.prog 193 #[.int .u8 (y.toNat : Int)] W fun e W' => e = .returned (.bool (digitB y)) ∧ W' = W := by
  have hd : digitB y = (decide (48 ≤ y.toNat) && decide (y.toNat ≤ 57)) := by
    simp [digitB, UInt8.le_iff_toNat_le]
  rw [hd]
  by_cases h1 : 48 ≤ y.toNat
  · by_cases h2 : y.toNat ≤ 57
    · have e1 : decide ((48 : Int) ≤ (y.toNat : Int)) = true := by simp; omega
      have e2 : decide ((y.toNat : Int) ≤ 57) = true := by simp; omega
      have r : (decide (48 ≤ y.toNat) && decide (y.toNat ≤ 57)) = true := by simp [h1, h2]
      rw [r]
      go_enter Tryz.func193, Tryz.ntmps193
      go_wp2
      go_ret
      exact ⟨rfl, rfl⟩
    · have e1 : decide ((48 : Int) ≤ (y.toNat : Int)) = true := by simp; omega
      have e2 : decide ((y.toNat : Int) ≤ 57) = false := by simp; omega
      have r : (decide (48 ≤ y.toNat) && decide (y.toNat ≤ 57)) = false := by simp [h2]
      rw [r]
      go_enter Tryz.func193, Tryz.ntmps193
      go_wp2
      go_ret
      exact ⟨rfl, rfl⟩
  · have e1 : decide ((48 : Int) ≤ (y.toNat : Int)) = false := by simp; omega
    have r : (decide (48 ≤ y.toNat) && decide (y.toNat ≤ 57)) = false := by simp [h1]
    rw [r]
    go_enter Tryz.func193, Tryz.ntmps193
    go_wp2
    go_ret
    exact ⟨rfl, rfl⟩
theorem index_neg (l : List UInt8) (y : UInt8) : decide (Lib.indexByte l y < 0) = !l.contains y := by
  induction l with
  | nil => simp [Lib.indexByte]
  | cons b l ih =>
    have hg := Lib.indexByte_ge l y
    by_cases h : b = y
    · subst h; simp [Lib.indexByte]
    · have hne : (b == y) = false := by simp [h]
      have hny : ¬ y = b := fun e => h e.symm
      unfold Lib.indexByte
      rw [hne, if_neg (by simp)]
      rw [List.contains_cons]
      have : (y == b) = false := by simp [hny]
      rw [this, Bool.false_or, ← ih]
      by_cases hm : Lib.indexByte l y = -1
      · simp [hm]
      · have h1 : (Lib.indexByte l y == -1) = false := by simp [hm]
        rw [h1, if_neg (by simp)]
        by_cases hl : Lib.indexByte l y < 0
        · omega
        · rw [decide_eq_false hl, decide_eq_false (by omega)]
set_option maxHeartbeats 400000 in
theorem plain_any (y : UInt8) (W : World) :
    Calls Tryz.prog 101 #[.int .u8 (y.toNat : Int)] W fun e W' => e = .returned (.bool (plainB y)) ∧ W' = W := by
  have hd : plainB y = (decide (33 ≤ y.toNat) && decide (y.toNat ≤ 126) && !special.contains y) := by
    simp [plainB, UInt8.le_iff_toNat_le]
  rw [hd]
  have hy : ((y.toNat : Int)).toNat.toUInt8 = y := by simp
  by_cases h1 : 33 ≤ y.toNat
  · have e1 : decide ((33 : Int) ≤ (y.toNat : Int)) = true := by simp; omega
    by_cases h2 : y.toNat ≤ 126
    · have e2 : decide ((y.toNat : Int) ≤ 126) = true := by simp; omega
      have r : (decide (33 ≤ y.toNat) && decide (y.toNat ≤ 126) && !special.contains y) = !special.contains y := by simp [h1, h2]
      rw [r]
      go_enter Tryz.func101, Tryz.ntmps101
      go_wp2_with (go_at_call 117; refine (Tryz.strings_IndexByte _ _ _).mono ?_; rintro e w' ⟨rfl, rfl⟩)
      go_ret
      exact ⟨ret_bool (index_neg _ _), rfl⟩
    · have e2 : decide ((y.toNat : Int) ≤ 126) = false := by simp; omega
      have r : (decide (33 ≤ y.toNat) && decide (y.toNat ≤ 126) && !special.contains y) = false := by simp [h2]
      rw [r]
      go_enter Tryz.func101, Tryz.ntmps101
      go_wp2
      go_ret
      exact ⟨rfl, rfl⟩
  · have e1 : decide ((33 : Int) ≤ (y.toNat : Int)) = false := by simp; omega
    have r : (decide (33 ≤ y.toNat) && decide (y.toNat ≤ 126) && !special.contains y) = false := by simp [h1]
    rw [r]
    go_enter Tryz.func101, Tryz.ntmps101
    go_wp2
    go_ret
    exact ⟨rfl, rfl⟩
end Go.Proofs.YtgbbjobmcbdhdaaGreatDoor
