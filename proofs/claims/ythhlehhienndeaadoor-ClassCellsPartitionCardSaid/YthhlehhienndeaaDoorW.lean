/-
  Plain facts on the partition that a list of classes induces. No program is named here.
-/
import Derived.Test.YthhlehhienndeaaDoorN
set_option linter.unusedSimpArgs false
set_option linter.unusedVariables false
namespace Go.Proofs.YthhlehhienndeaaDoor

theorem mem_ext {x y : BitVec 256} (h : ∀ j, j < 256 → mem x j = mem y j) : x = y := BitVec.eq_of_getLsbD_eq h
theorem mem_or (x y : BitVec 256) (j : Nat) : mem (x ||| y) j = (mem x j || mem y j) := BitVec.getLsbD_or
theorem mem_and (x y : BitVec 256) (j : Nat) : mem (x &&& y) j = (mem x j && mem y j) := BitVec.getLsbD_and
theorem mem_not (x : BitVec 256) (j : Nat) (hj : j < 256) : mem (~~~x) j = !mem x j := by unfold mem; rw [BitVec.getLsbD_not]; simp [hj]
theorem mem_zero (j : Nat) : mem 0 j = false := by unfold mem; simp
theorem mem_bit (b j : Nat) (hb : b < 256) : mem (bit b) j = decide (b = j) := bit_getLsbD b j hb
theorem mem_sel (p : Nat → Bool) (j : Nat) (hj : j < 256) : mem (sel p 256) j = p j := by unfold mem; rw [sel_bit p j 256 (Nat.le_refl _)]; simp [hj]
theorem mem_lt {x : BitVec 256} {j : Nat} (h : mem x j = true) : j < 256 := by
  rcases Nat.lt_or_ge j 256 with hl | hl
  · exact hl
  · unfold mem at h; rw [BitVec.getLsbD_of_ge _ _ hl] at h; cases h
theorem exists_mem {x : BitVec 256} (h : x ≠ 0) : ∃ j, mem x j = true := by
  by_cases e : ∃ j, mem x j = true
  · exact e
  · exfalso
    apply h
    apply mem_ext; intro j _
    rw [mem_zero]
    cases hm : mem x j with
    | false => rfl
    | true => exact (e ⟨j, hm⟩).elim
theorem ne_zero_of_mem {x : BitVec 256} {j : Nat} (h : mem x j = true) : x ≠ 0 := by
  rintro rfl; rw [mem_zero] at h; cases h

/-- the least member, or -1. -/
def leastOf (x : BitVec 256) : Int := (mems x 256).headD (-1)
theorem mems_head (x : BitVec 256) (i : Nat) (hi : mem x i = true) (hlt : ∀ j, j < i → mem x j = false) : ∀ k, i < k → (mems x k).head? = some (i : Int) := by
  intro k hk
  unfold mems
  rw [filter_first (mem x) i hi hlt k hk]; rfl
theorem leastOf_eq (x : BitVec 256) (i : Nat) (hi : mem x i = true) (hlt : ∀ j, j < i → mem x j = false) : leastOf x = i := by
  have h := mems_head x i hi hlt 256 (mem_lt hi)
  unfold leastOf
  cases hm : mems x 256 with
  | nil => rw [hm] at h; cases h
  | cons z r => rw [hm] at h; simpa using h
theorem first_mem (x : BitVec 256) : ∀ n, (∃ j, j < n ∧ mem x j = true) → ∃ i, i < n ∧ mem x i = true ∧ ∀ j, j < i → mem x j = false
  | 0, h => by obtain ⟨j, hj, _⟩ := h; omega
  | n + 1, h => by
    by_cases e : ∃ j, j < n ∧ mem x j = true
    · obtain ⟨i, h1, h2, h3⟩ := first_mem x n e
      exact ⟨i, by omega, h2, h3⟩
    · obtain ⟨j, hj, hm⟩ := h
      have hjn : j = n := by
        rcases Nat.lt_or_ge j n with hl | hl
        · exact (e ⟨j, hl, hm⟩).elim
        · omega
      subst hjn
      refine ⟨j, by omega, hm, fun i hi => ?_⟩
      cases hmi : mem x i with
      | false => rfl
      | true => exact (e ⟨i, hi, hmi⟩).elim
theorem least_spec (x : BitVec 256) (h : x ≠ 0) : ∃ i, i < 256 ∧ mem x i = true ∧ (∀ j, j < i → mem x j = false) ∧ leastOf x = i := by
  obtain ⟨j, hj⟩ := exists_mem h
  obtain ⟨i, h1, h2, h3⟩ := first_mem x 256 ⟨j, mem_lt hj, hj⟩
  exact ⟨i, h1, h2, h3, leastOf_eq x i h2 h3⟩

/-- two bytes are members of the same classes. -/
def alike (cs : List (BitVec 256)) (i j : Nat) : Bool := cs.all fun c => mem c i == mem c j
theorem alike_iff (cs : List (BitVec 256)) (i j : Nat) : alike cs i j = true ↔ ∀ c ∈ cs, mem c i = mem c j := by
  unfold alike; rw [List.all_eq_true]; simp
theorem alike_refl (cs : List (BitVec 256)) (i : Nat) : alike cs i i = true := (alike_iff cs i i).2 fun _ _ => rfl
theorem alike_symm (cs : List (BitVec 256)) (i j : Nat) : alike cs i j = alike cs j i := by
  rw [Bool.eq_iff_iff, alike_iff, alike_iff]
  exact ⟨fun h c hc => (h c hc).symm, fun h c hc => (h c hc).symm⟩
theorem alike_trans {cs : List (BitVec 256)} {i j k : Nat} (h : alike cs i j = true) : alike cs i k = alike cs j k := by
  rw [Bool.eq_iff_iff, alike_iff, alike_iff]
  have h' := (alike_iff cs i j).1 h
  exact ⟨fun g c hc => (h' c hc).symm.trans (g c hc), fun g c hc => (h' c hc).trans (g c hc)⟩
theorem alike_snoc (cs : List (BitVec 256)) (c : BitVec 256) (i j : Nat) : alike (cs ++ [c]) i j = (alike cs i j && (mem c i == mem c j)) := by
  unfold alike; rw [List.all_append]; simp

def cls (cs : List (BitVec 256)) (i : Nat) : BitVec 256 := sel (fun j => alike cs i j) 256
def isRep (cs : List (BitVec 256)) (i : Nat) : Bool := (List.range i).all fun j => !alike cs j i
def reps (cs : List (BitVec 256)) (k : Nat) : List Nat := (List.range k).filter (isRep cs)
/-- the cells, in the order of their least members. -/
def canon (cs : List (BitVec 256)) : List (BitVec 256) := (reps cs 256).map (cls cs)

theorem mem_cls (cs : List (BitVec 256)) (i j : Nat) (hj : j < 256) : mem (cls cs i) j = alike cs i j := mem_sel _ j hj
theorem isRep_iff (cs : List (BitVec 256)) (i : Nat) : isRep cs i = true ↔ ∀ j, j < i → alike cs j i = false := by
  unfold isRep; rw [List.all_eq_true]; simp
theorem least_cls (cs : List (BitVec 256)) (i : Nat) (hi : i < 256) (hr : isRep cs i = true) : leastOf (cls cs i) = i := by
  apply leastOf_eq
  · rw [mem_cls _ _ _ hi]; exact alike_refl cs i
  · intro j hj; rw [mem_cls _ _ _ (by omega), alike_symm]; exact (isRep_iff cs i).1 hr j hj
/-- every byte is alike to a representative. -/
theorem rep_of (cs : List (BitVec 256)) (j : Nat) : ∃ i, i ≤ j ∧ isRep cs i = true ∧ alike cs i j = true := by
  induction j using Nat.strongRecOn with
  | _ j ih =>
    by_cases h : isRep cs j = true
    · exact ⟨j, Nat.le_refl _, h, alike_refl cs j⟩
    · have : ∃ i, i < j ∧ alike cs i j = true := by
        by_cases e : ∃ i, i < j ∧ alike cs i j = true
        · exact e
        · exfalso; apply h; rw [isRep_iff]; intro i hi
          cases ha : alike cs i j with
          | false => rfl
          | true => exact (e ⟨i, hi, ha⟩).elim
      obtain ⟨i, hi, ha⟩ := this
      obtain ⟨r, h1, h2, h3⟩ := ih i hi
      exact ⟨r, by omega, h2, by rw [alike_trans h3]; exact ha⟩

def disj (p q : BitVec 256) : Prop := ∀ j, ¬ (mem p j = true ∧ mem q j = true)
/-- l is the partition that cs induces, in whatever order. -/
structure Inv (cs l : List (BitVec 256)) : Prop where
  cover : ∀ j, j < 256 → ∃ p ∈ l, mem p j = true
  ne : ∀ p ∈ l, p ≠ 0
  same : ∀ p ∈ l, ∀ i j, j < 256 → mem p i = true → mem p j = alike cs i j
  apart : l.Pairwise disj

def isZ (q : BitVec 256) : Bool := decide (q = 0)
def parts2 (c p : BitVec 256) : List (BitVec 256) := [p &&& c, p &&& ~~~c].filter (fun q => !isZ q)
def splitL (c : BitVec 256) (l : List (BitVec 256)) : List (BitVec 256) := l.flatMap (parts2 c)
theorem mem_parts2 (c p q : BitVec 256) : q ∈ parts2 c p ↔ (q = p &&& c ∨ q = p &&& ~~~c) ∧ q ≠ 0 := by
  unfold parts2 isZ; simp
theorem Inv.split {cs l : List (BitVec 256)} (h : Inv cs l) (c : BitVec 256) : Inv (cs ++ [c]) (splitL c l) where
  cover j hj := by
    obtain ⟨p, hp, hm⟩ := h.cover j hj
    cases hc : mem c j with
    | true =>
      have hq : mem (p &&& c) j = true := by rw [mem_and, hm, hc]; rfl
      exact ⟨p &&& c, List.mem_flatMap.2 ⟨p, hp, (mem_parts2 _ _ _).2 ⟨.inl rfl, ne_zero_of_mem hq⟩⟩, hq⟩
    | false =>
      have hq : mem (p &&& ~~~c) j = true := by rw [mem_and, mem_not _ _ hj, hm, hc]; rfl
      exact ⟨p &&& ~~~c, List.mem_flatMap.2 ⟨p, hp, (mem_parts2 _ _ _).2 ⟨.inr rfl, ne_zero_of_mem hq⟩⟩, hq⟩
  ne q hq := by
    obtain ⟨p, _, hp⟩ := List.mem_flatMap.1 hq
    exact ((mem_parts2 _ _ _).1 hp).2
  same q hq i j hj hi := by
    obtain ⟨p, hp, hpq⟩ := List.mem_flatMap.1 hq
    have hi256 := mem_lt hi
    rcases ((mem_parts2 _ _ _).1 hpq).1 with rfl | rfl
    · rw [mem_and, Bool.and_eq_true] at hi
      rw [mem_and, alike_snoc, h.same p hp i j hj hi.1, hi.2]; cases mem c j <;> rfl
    · rw [mem_and, Bool.and_eq_true, mem_not _ _ hi256] at hi
      have hci : mem c i = false := by simpa using hi.2
      rw [mem_and, mem_not _ _ hj, alike_snoc, h.same p hp i j hj hi.1, hci]; cases mem c j <;> rfl
  apart := by
    unfold splitL
    rw [List.pairwise_flatMap]
    have hsub : ∀ p q, q ∈ parts2 c p → ∀ j, mem q j = true → mem p j = true := by
      intro p q hq j hj
      rcases ((mem_parts2 _ _ _).1 hq).1 with rfl | rfl <;> (rw [mem_and, Bool.and_eq_true] at hj; exact hj.1)
    refine ⟨fun p _ => ?_, h.apart.imp fun {a b} hab x hx y hy j hj => hab j ⟨hsub a x hx j hj.1, hsub b y hy j hj.2⟩⟩
    unfold parts2
    refine List.Pairwise.filter _ ?_
    refine List.pairwise_cons.2 ⟨fun q hq => ?_, List.pairwise_singleton _ _⟩
    obtain rfl : q = p &&& ~~~c := by simpa using hq
    rintro j ⟨h1, h2⟩
    have hj := mem_lt h1
    rw [mem_and, Bool.and_eq_true] at h1 h2
    rw [mem_not _ _ hj, h1.2] at h2
    simp at h2
theorem Inv.perm {cs l m : List (BitVec 256)} (h : Inv cs l) (hp : l.Perm m) : Inv cs m where
  cover j hj := by obtain ⟨p, h1, h2⟩ := h.cover j hj; exact ⟨p, hp.mem_iff.1 h1, h2⟩
  ne p h1 := h.ne p (hp.mem_iff.2 h1)
  same p h1 := h.same p (hp.mem_iff.2 h1)
  apart := (hp.pairwise_iff (fun {a b} hab j hj => hab j ⟨hj.2, hj.1⟩)).1 h.apart
theorem Inv.cls_of {cs l : List (BitVec 256)} (h : Inv cs l) {p : BitVec 256} (hp : p ∈ l) {i : Nat} (hi : mem p i = true) : p = cls cs i :=
  mem_ext fun j hj => by rw [mem_cls _ _ _ hj]; exact h.same p hp i j hj hi
theorem least_lt_of_disj {p q : BitVec 256} (hp : p ≠ 0) (hq : q ≠ 0) (hd : disj p q) : leastOf p ≠ leastOf q := by
  obtain ⟨i, _, h1, _, e1⟩ := least_spec p hp
  obtain ⟨j, _, h2, _, e2⟩ := least_spec q hq
  intro e
  have : i = j := by omega
  subst this
  exact hd i ⟨h1, h2⟩
/-- two strictly sorted lists with the same elements. -/
theorem eq_of_incr {α : Type} (f : α → Int) : ∀ l m : List α, l.Pairwise (fun a b => f a < f b) → m.Pairwise (fun a b => f a < f b) → (∀ x, x ∈ l ↔ x ∈ m) → l = m
  | [], [], _, _, _ => rfl
  | [], b :: m, _, _, h => by have := (h b).2 (by simp); simp at this
  | a :: l, [], _, _, h => by have := (h a).1 (by simp); simp at this
  | a :: l, b :: m, hl, hm, h => by
    obtain ⟨ha, hl'⟩ := List.pairwise_cons.1 hl
    obtain ⟨hb, hm'⟩ := List.pairwise_cons.1 hm
    have hab : a = b := by
      rcases List.mem_cons.1 ((h a).1 (by simp)) with e | e
      · exact e
      · rcases List.mem_cons.1 ((h b).2 (by simp)) with e' | e'
        · exact e'.symm
        · have h1 := hb a e; have h2 := ha b e'; omega
    subst hab
    refine congrArg (a :: ·) (eq_of_incr f l m hl' hm' fun x => ⟨fun hx => ?_, fun hx => ?_⟩)
    · rcases List.mem_cons.1 ((h x).1 (List.mem_cons_of_mem _ hx)) with e | e
      · subst e; have := ha x hx; omega
      · exact e
    · rcases List.mem_cons.1 ((h x).2 (List.mem_cons_of_mem _ hx)) with e | e
      · subst e; have := hb x hx; omega
      · exact e
theorem canon_mem (cs : List (BitVec 256)) (p : BitVec 256) : p ∈ canon cs ↔ ∃ i, i < 256 ∧ isRep cs i = true ∧ p = cls cs i := by
  unfold canon reps
  simp only [List.mem_map, List.mem_filter, List.mem_range]
  exact ⟨fun ⟨i, ⟨h1, h2⟩, h3⟩ => ⟨i, h1, h2, h3.symm⟩, fun ⟨i, h1, h2, h3⟩ => ⟨i, ⟨h1, h2⟩, h3.symm⟩⟩
theorem canon_incr (cs : List (BitVec 256)) : (canon cs).Pairwise (fun a b => leastOf a < leastOf b) := by
  unfold canon
  rw [List.pairwise_map]
  have h1 : (reps cs 256).Pairwise (· < ·) := List.Pairwise.filter _ List.pairwise_lt_range
  refine List.Pairwise.imp_of_mem ?_ h1
  intro a b ha hb hab
  simp only [reps, List.mem_filter, List.mem_range] at ha hb
  rw [least_cls cs a ha.1 ha.2, least_cls cs b hb.1 hb.2]; omega
theorem Inv.mem_canon {cs l : List (BitVec 256)} (h : Inv cs l) (p : BitVec 256) : p ∈ l ↔ p ∈ canon cs := by
  rw [canon_mem]
  constructor
  · intro hp
    obtain ⟨i, hi, h1, h2, _⟩ := least_spec p (h.ne p hp)
    refine ⟨i, hi, (isRep_iff cs i).2 fun j hj => ?_, h.cls_of hp h1⟩
    have := h.same p hp i j (by omega) h1
    rw [alike_symm, ← this]; exact h2 j hj
  · rintro ⟨i, hi, hr, rfl⟩
    obtain ⟨p, hp, hm⟩ := h.cover i hi
    rw [← h.cls_of hp hm]; exact hp
theorem Inv.eq_canon {cs l : List (BitVec 256)} (h : Inv cs l) (hs : l.Pairwise (fun a b => leastOf a < leastOf b)) : l = canon cs :=
  eq_of_incr leastOf _ _ hs (canon_incr cs) h.mem_canon
theorem Inv.incr_of_le {cs l : List (BitVec 256)} (h : Inv cs l) (hs : l.Pairwise (fun a b => leastOf a ≤ leastOf b)) : l.Pairwise (fun a b => leastOf a < leastOf b) := by
  have h2 := List.Pairwise.and hs h.apart
  refine List.Pairwise.imp_of_mem ?_ h2
  intro a b ha hb hab
  have := least_lt_of_disj (h.ne a ha) (h.ne b hb) hab.2
  have := hab.1
  omega
theorem canon_len (cs : List (BitVec 256)) : (canon cs).length ≤ 256 := by
  unfold canon reps; rw [List.length_map]; exact Nat.le_trans (List.length_filter_le _ _) (by simp)
theorem Inv.len {cs l : List (BitVec 256)} (h : Inv cs l) : l.length ≤ 256 := by
  let m := l.mergeSort fun a b => decide (leastOf a ≤ leastOf b)
  have hp : l.Perm m := (List.mergeSort_perm _ _).symm
  have hs : m.Pairwise (fun a b => leastOf a ≤ leastOf b) := by
    have := List.pairwise_mergeSort (le := fun a b : BitVec 256 => decide (leastOf a ≤ leastOf b)) (fun a b c h1 h2 => by simp at *; omega) (fun a b => by simp; omega) l
    exact this.imp fun hab => by simpa using hab
  have hi := h.perm hp
  rw [hp.length_eq, hi.eq_canon (hi.incr_of_le hs)]
  exact canon_len cs
theorem canon_congr {cs ds : List (BitVec 256)} (h : ∀ i j, i < 256 → j < 256 → alike cs i j = alike ds i j) : canon cs = canon ds := by
  have h1 : ∀ i, i < 256 → isRep cs i = isRep ds i := by
    intro i hi
    rw [Bool.eq_iff_iff, isRep_iff, isRep_iff]
    exact ⟨fun g j hj => by rw [← h j i (by omega) hi]; exact g j hj, fun g j hj => by rw [h j i (by omega) hi]; exact g j hj⟩
  have h2 : reps cs 256 = reps ds 256 := List.filter_congr fun i hi => h1 i (List.mem_range.1 hi)
  unfold canon
  rw [h2]
  refine List.map_congr_left fun i hi => ?_
  simp only [reps, List.mem_filter, List.mem_range] at hi
  exact mem_ext fun j hj => by rw [mem_cls _ _ _ hj, mem_cls _ _ _ hj, h i j hi.1 hj]
/-- the canonical list is the partition. -/
theorem canon_inv (cs : List (BitVec 256)) : Inv cs (canon cs) where
  cover j hj := by
    obtain ⟨i, h1, h2, h3⟩ := rep_of cs j
    exact ⟨cls cs i, (canon_mem _ _).2 ⟨i, by omega, h2, rfl⟩, by rw [mem_cls _ _ _ hj]; exact h3⟩
  ne p hp := by
    obtain ⟨i, hi, _, rfl⟩ := (canon_mem _ _).1 hp
    exact ne_zero_of_mem (j := i) (by rw [mem_cls _ _ _ hi]; exact alike_refl _ _)
  same p hp i j hj hi := by
    obtain ⟨r, _, _, rfl⟩ := (canon_mem _ _).1 hp
    have hi256 := mem_lt hi
    rw [mem_cls _ _ _ hi256] at hi
    rw [mem_cls _ _ _ hj, alike_trans hi]
  apart := by
    unfold canon
    rw [List.pairwise_map]
    have h1 : (reps cs 256).Pairwise (· < ·) := List.Pairwise.filter _ List.pairwise_lt_range
    refine List.Pairwise.imp_of_mem ?_ h1
    rintro a b ha hb hab j ⟨h2, h3⟩
    have hj := mem_lt h2
    simp only [reps, List.mem_filter, List.mem_range] at ha hb
    rw [mem_cls _ _ _ hj] at h2 h3
    have := (isRep_iff cs b).1 hb.2 a hab
    rw [alike_trans h2, alike_symm, h3] at this
    cases this
end Go.Proofs.YthhlehhienndeaaDoor
