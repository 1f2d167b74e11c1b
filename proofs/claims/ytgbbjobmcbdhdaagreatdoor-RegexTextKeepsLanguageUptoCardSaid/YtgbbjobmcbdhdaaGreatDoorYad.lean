/-
  Texts of the proof, one behind another: Sp, Rx, Nd.
-/
import Derived.Test.YtgbbjobmcbdhdaaGreatDoorYaa
set_option linter.unusedSimpArgs false
set_option linter.unusedVariables false
/-
  Plain facts on sets of positions as lists of spans. No program is named here.
-/
namespace Go.Proofs.YtgbbjobmcbdhdaaGreatDoor

/-- spans in increasing order that neither overlap nor touch, none of them empty. -/
def Good : List (Nat × Nat) → Prop
  | [] => True
  | [s] => s.1 < s.2
  | s :: t :: l => s.1 < s.2 ∧ s.2 < t.1 ∧ Good (t :: l)
/-- p is a position of the set. -/
def On (l : List (Nat × Nat)) (p : Nat) : Prop := ∃ s ∈ l, s.1 ≤ p ∧ p < s.2

theorem Good.tail {s : Nat × Nat} {l : List (Nat × Nat)} (h : Good (s :: l)) : Good l := by
  cases l with
  | nil => trivial
  | cons t l => exact h.2.2
theorem Good.head {s : Nat × Nat} {l : List (Nat × Nat)} (h : Good (s :: l)) : s.1 < s.2 := by
  cases l with
  | nil => exact h
  | cons t l => exact h.1
theorem on_nil (p : Nat) : ¬ On [] p := by rintro ⟨s, hs, _⟩; cases hs
theorem on_cons {s : Nat × Nat} {l : List (Nat × Nat)} {p : Nat} : On (s :: l) p ↔ (s.1 ≤ p ∧ p < s.2) ∨ On l p := by
  constructor
  · rintro ⟨t, ht, h⟩
    rcases List.mem_cons.1 ht with rfl | ht
    · exact .inl h
    · exact .inr ⟨t, ht, h⟩
  · rintro (h | ⟨t, ht, h⟩)
    · exact ⟨s, by simp, h⟩
    · exact ⟨t, by simp [ht], h⟩
theorem on_append {l m : List (Nat × Nat)} {p : Nat} : On (l ++ m) p ↔ On l p ∨ On m p := by
  constructor
  · rintro ⟨t, ht, h⟩
    rcases List.mem_append.1 ht with ht | ht
    · exact .inl ⟨t, ht, h⟩
    · exact .inr ⟨t, ht, h⟩
  · rintro (⟨t, ht, h⟩ | ⟨t, ht, h⟩)
    · exact ⟨t, by simp [ht], h⟩
    · exact ⟨t, by simp [ht], h⟩
/-- what comes behind the first span lies beyond it. -/
theorem Good.beyond {s : Nat × Nat} {l : List (Nat × Nat)} (h : Good (s :: l)) : ∀ t ∈ l, s.2 < t.1 := by
  induction l generalizing s with
  | nil => intro t ht; cases ht
  | cons u l ih =>
    intro t ht
    rcases List.mem_cons.1 ht with rfl | ht
    · exact h.2.1
    · have h1 := ih h.2.2 t ht
      have h2 := h.2.1
      have h3 := h.2.2.head
      omega
theorem Good.on_beyond {s : Nat × Nat} {l : List (Nat × Nat)} (h : Good (s :: l)) {p : Nat} (hp : On l p) : s.2 < p := by
  obtain ⟨t, ht, h1, _⟩ := hp
  have := h.beyond t ht
  omega
theorem Good.mem {l : List (Nat × Nat)} (h : Good l) : ∀ s ∈ l, s.1 < s.2 := by
  induction l with
  | nil => intro s hs; cases hs
  | cons t l ih =>
    intro s hs
    rcases List.mem_cons.1 hs with rfl | hs
    · exact h.head
    · exact ih h.tail s hs
/-- a good list is known by its positions. -/
theorem good_ext : ∀ {l m : List (Nat × Nat)}, Good l → Good m → (∀ p, On l p ↔ On m p) → l = m
  | [], [], _, _, _ => rfl
  | [], t :: m, _, hm, h => absurd ((h t.1).2 (on_cons.2 (.inl ⟨Nat.le_refl _, hm.head⟩))) (on_nil _)
  | s :: l, [], hl, _, h => absurd ((h s.1).1 (on_cons.2 (.inl ⟨Nat.le_refl _, hl.head⟩))) (on_nil _)
  | s :: l, t :: m, hl, hm, h => by
    have hs := hl.head
    have ht := hm.head
    have e1 : s.1 = t.1 := by
      rcases on_cons.1 ((h s.1).1 (on_cons.2 (.inl ⟨Nat.le_refl _, hs⟩))) with h1 | h1
      · rcases on_cons.1 ((h t.1).2 (on_cons.2 (.inl ⟨Nat.le_refl _, ht⟩))) with h2 | h2
        · omega
        · have := hl.on_beyond h2; omega
      · have := hm.on_beyond h1
        rcases on_cons.1 ((h t.1).2 (on_cons.2 (.inl ⟨Nat.le_refl _, ht⟩))) with h2 | h2
        · omega
        · have := hl.on_beyond h2; omega
    have e2 : s.2 = t.2 := by
      rcases Nat.lt_trichotomy s.2 t.2 with hlt | heq | hgt
      · have h1 := (h s.2).2 (on_cons.2 (.inl ⟨by omega, hlt⟩))
        rcases on_cons.1 h1 with h2 | h2
        · omega
        · have := hl.on_beyond h2; omega
      · exact heq
      · have h1 := (h t.2).1 (on_cons.2 (.inl ⟨by omega, hgt⟩))
        rcases on_cons.1 h1 with h2 | h2
        · omega
        · have := hm.on_beyond h2; omega
    have est : s = t := Prod.ext e1 e2
    subst est
    refine congrArg (s :: ·) (good_ext hl.tail hm.tail fun p => ⟨fun hp => ?_, fun hp => ?_⟩)
    · have hb := hl.on_beyond hp
      rcases on_cons.1 ((h p).1 (on_cons.2 (.inr hp))) with h2 | h2
      · omega
      · exact h2
    · have hb := hm.on_beyond hp
      rcases on_cons.1 ((h p).2 (on_cons.2 (.inr hp))) with h2 | h2
      · omega
      · exact h2

/-- a span added at the end: joined to the last one where they overlap or touch. -/
def addS : List (Nat × Nat) → Nat → Nat → List (Nat × Nat)
  | [], f, t => [(f, t)]
  | [s], f, t => if f ≤ s.2 then [(s.1, max s.2 t)] else [s, (f, t)]
  | s :: u :: l, f, t => s :: addS (u :: l) f t
theorem addS_snoc (l : List (Nat × Nat)) (s : Nat × Nat) (f t : Nat) : addS (l ++ [s]) f t = if f ≤ s.2 then l ++ [(s.1, max s.2 t)] else l ++ [s, (f, t)] := by
  induction l with
  | nil => rfl
  | cons u l ih =>
    cases l with
    | nil => simp only [List.cons_append, List.nil_append] at ih ⊢; rw [addS, ih]; split <;> rfl
    | cons v l => simp only [List.cons_append] at ih ⊢; rw [addS, ih]; split <;> rfl
theorem addS_ne (l : List (Nat × Nat)) (f t : Nat) : addS l f t ≠ [] := by
  cases l with
  | nil => simp [addS]
  | cons s l => cases l with
    | nil => simp only [addS]; split <;> simp
    | cons u l => simp [addS]
theorem addS_head (s : Nat × Nat) (l : List (Nat × Nat)) (f t : Nat) : ∃ e m, addS (s :: l) f t = (s.1, e) :: m := by
  cases l with
  | nil => simp only [addS]; split <;> exact ⟨_, _, rfl⟩
  | cons u l => exact ⟨s.2, _, rfl⟩
theorem addS_good : ∀ {l : List (Nat × Nat)} {f t : Nat}, Good l → (∀ s ∈ l, s.1 ≤ f) → f < t → Good (addS l f t) ∧ ∀ p, On (addS l f t) p ↔ On l p ∨ (f ≤ p ∧ p < t)
  | [], f, t, _, _, hft => ⟨hft, fun p => by simp [addS, on_cons, on_nil]⟩
  | [s], f, t, hl, hs, hft => by
    have h0 : s.1 < s.2 := hl
    have h1 := hs s (by simp)
    simp only [addS]
    split
    · refine ⟨by show s.1 < max s.2 t; omega, fun p => ?_⟩
      simp only [on_cons, on_nil, or_false]; omega
    · refine ⟨⟨h0, by omega, hft⟩, fun p => ?_⟩
      simp only [on_cons, on_nil, or_false]
  | s :: u :: l, f, t, hl, hs, hft => by
    obtain ⟨h1, h2⟩ := addS_good (f := f) (t := t) hl.2.2 (fun v hv => hs v (by simp [hv])) hft
    obtain ⟨e, m, hem⟩ := addS_head u l f t
    simp only [addS]
    refine ⟨?_, fun p => ?_⟩
    · rw [hem] at h1 ⊢
      exact ⟨hl.1, hl.2.1, h1⟩
    · rw [on_cons, h2 p, on_cons (s := s), or_assoc]
theorem addS_starts {l : List (Nat × Nat)} {f t B : Nat} (h : ∀ s ∈ l, s.1 ≤ B) (hf : f ≤ B) : ∀ s ∈ addS l f t, s.1 ≤ B := by
  induction l with
  | nil => intro s hs; simp [addS] at hs; subst hs; exact hf
  | cons u l ih =>
    cases l with
    | nil =>
      intro s hs
      have hu := h u (by simp)
      simp only [addS] at hs
      split at hs
      · simp at hs; subst hs; exact hu
      · simp at hs; rcases hs with rfl | rfl
        · exact hu
        · exact hf
    | cons v l =>
      intro s hs
      rcases List.mem_cons.1 hs with rfl | hs
      · exact h s (by simp)
      · exact ih (fun w hw => h w (by simp [hw])) s hs

/-- spans one after the other added. -/
def addAll (l : List (Nat × Nat)) : List (Nat × Nat) → List (Nat × Nat)
  | [] => l
  | s :: m => addAll (addS l s.1 s.2) m
theorem addAll_snoc (l m : List (Nat × Nat)) (s : Nat × Nat) : addAll l (m ++ [s]) = addS (addAll l m) s.1 s.2 := by
  induction m generalizing l with
  | nil => rfl
  | cons u m ih => exact ih _
theorem addAll_good : ∀ {m l : List (Nat × Nat)}, Good l → (∀ s ∈ l, ∀ u ∈ m, s.1 ≤ u.1) → m.Pairwise (fun s u => s.1 ≤ u.1) → (∀ s ∈ m, s.1 < s.2) →
    Good (addAll l m) ∧ ∀ p, On (addAll l m) p ↔ On l p ∨ On m p
  | [], l, hl, _, _, _ => ⟨hl, fun p => by simp [addAll, on_nil]⟩
  | s :: m, l, hl, hlm, hm, hs => by
    obtain ⟨hm1, hm2⟩ := List.pairwise_cons.1 hm
    obtain ⟨g1, g2⟩ := addS_good (f := s.1) (t := s.2) hl (fun u hu => hlm u hu s (by simp)) (hs s (by simp))
    obtain ⟨g3, g4⟩ := addAll_good (m := m) g1 (fun u hu v hv => addS_starts (B := v.1) (fun a ha => hlm a ha v (by simp [hv])) (hm1 v hv) u hu) hm2 (fun u hu => hs u (by simp [hu]))
    refine ⟨g3, fun p => ?_⟩
    show On (addAll (addS l s.1 s.2) m) p ↔ _
    rw [g4 p, g2 p, on_cons, or_assoc]

/-- the positions of a set in their order. -/
def pts : List (Nat × Nat) → List Nat
  | [] => []
  | s :: l => List.range' s.1 (s.2 - s.1) ++ pts l
theorem mem_pts {l : List (Nat × Nat)} {p : Nat} : p ∈ pts l ↔ On l p := by
  induction l with
  | nil => simp [pts, on_nil]
  | cons s l ih =>
    rw [on_cons, ← ih, pts, List.mem_append, List.mem_range'_1]
    constructor
    · rintro (h | h)
      · exact .inl (by omega)
      · exact .inr h
    · rintro (h | h)
      · exact .inl (by omega)
      · exact .inr h
theorem pts_incr : ∀ {l : List (Nat × Nat)}, Good l → (pts l).Pairwise (· < ·)
  | [], _ => by simp [pts]
  | s :: l, h => by
    rw [pts, List.pairwise_append]
    refine ⟨List.pairwise_lt_range', pts_incr h.tail, fun a ha b hb => ?_⟩
    rw [List.mem_range'_1] at ha
    have := h.on_beyond (mem_pts.1 hb)
    have := h.head
    omega
/-- the set of these positions, in increasing order. -/
def ofPts (l : List Nat) : List (Nat × Nat) := addAll [] (l.map fun p => (p, p + 1))
theorem ofPts_snoc (l : List Nat) (p : Nat) : ofPts (l ++ [p]) = addS (ofPts l) p (p + 1) := by
  unfold ofPts; rw [List.map_append, List.map_cons, List.map_nil, addAll_snoc]
theorem ofPts_good {l : List Nat} (h : l.Pairwise (· < ·)) : Good (ofPts l) ∧ ∀ p, On (ofPts l) p ↔ p ∈ l := by
  have hm : (l.map fun p => (p, p + 1)).Pairwise (fun s u => s.1 ≤ u.1) := by
    rw [List.pairwise_map]; exact h.imp (fun hab => Nat.le_of_lt hab)
  obtain ⟨g1, g2⟩ := addAll_good (l := []) (m := l.map fun p => (p, p + 1)) trivial (fun s hs => by cases hs) hm (fun s hs => by
    obtain ⟨p, _, rfl⟩ := List.mem_map.1 hs; exact Nat.lt_succ_self p)
  refine ⟨g1, fun p => ?_⟩
  show On (addAll [] _) p ↔ _
  rw [g2 p]
  constructor
  · rintro (h | ⟨s, hs, h⟩)
    · exact absurd h (on_nil _)
    · obtain ⟨q, hq, rfl⟩ := List.mem_map.1 hs
      obtain rfl : p = q := by simp at h; omega
      exact hq
  · intro hp
    exact .inr ⟨(p, p + 1), List.mem_map.2 ⟨p, hp, rfl⟩, by simp⟩
/-- the set of one position. -/
theorem only_good (p : Nat) : Good [(p, p + 1)] ∧ ∀ q, On [(p, p + 1)] q ↔ q = p := ⟨Nat.lt_succ_self p, fun q => by simp only [on_cons, on_nil, or_false]; omega⟩

/-- the positions from p to n that are not in l. -/
def gaps (p : Nat) (n : Nat) : List (Nat × Nat) → List (Nat × Nat)
  | [] => if p ≤ n then [(p, n + 1)] else []
  | s :: l => if p < s.1 then (p, s.1) :: gaps s.2 n l else gaps s.2 n l
theorem gaps_good : ∀ {l : List (Nat × Nat)} {p n : Nat}, Good l → (∀ s ∈ l, p ≤ s.1) → (∀ s ∈ l, s.2 ≤ n + 1) → Good (gaps p n l) ∧ (∀ q, On (gaps p n l) q ↔ p ≤ q ∧ q ≤ n ∧ ¬ On l q)
  | [], p, n, _, _, _ => by
    unfold gaps
    split
    · refine ⟨by show p < n + 1; omega, fun q => ?_⟩
      simp only [on_cons, on_nil, or_false, not_false_eq_true, and_true]; omega
    · refine ⟨trivial, fun q => ?_⟩
      simp only [on_nil, not_false_eq_true, and_true, false_iff]; omega
  | s :: l, p, n, hl, hp, hn => by
    have h0 := hl.head
    have h1 := hp s (by simp)
    have h2 := hn s (by simp)
    obtain ⟨g1, g2⟩ := gaps_good (l := l) (p := s.2) (n := n) hl.tail (fun u hu => Nat.le_of_lt (hl.beyond u hu)) (fun u hu => hn u (by simp [hu]))
    have hbe := fun q hq => hl.on_beyond (p := q) hq
    unfold gaps
    split
    · refine ⟨?_, fun q => ?_⟩
      · cases hg : gaps s.2 n l with
        | nil => show p < s.1; omega
        | cons u m =>
          rw [hg] at g1 g2
          have := ((g2 u.1).1 (on_cons.2 (.inl ⟨Nat.le_refl _, g1.head⟩))).1
          exact ⟨by show p < s.1; omega, by show s.1 < u.1; omega, g1⟩
      · simp only [on_cons, g2 q]
        have := hbe q
        by_cases hq : On l q
        · have := hbe q hq; simp [hq]; omega
        · simp [hq]; omega
    · refine ⟨g1, fun q => ?_⟩
      simp only [on_cons, g2 q]
      by_cases hq : On l q
      · have := hbe q hq; simp [hq]
      · simp [hq]; omega
end Go.Proofs.YtgbbjobmcbdhdaaGreatDoor

/-
  Plain facts on regular expressions as trees: which spans of a word they match; images of sets. No program is named here.
-/
namespace Go.Proofs.YtgbbjobmcbdhdaaGreatDoor
/-- k steps of a relation. -/
def pow (R : Nat → Nat → Prop) : Nat → Nat → Nat → Prop
  | 0, i, j => i = j
  | k + 1, i, j => ∃ m, R i m ∧ pow R k m j
theorem pow_snoc (R : Nat → Nat → Prop) : ∀ (k i j : Nat), pow R (k + 1) i j ↔ ∃ m, pow R k i m ∧ R m j
  | 0, i, j => by
    constructor
    · rintro ⟨m, h, h2⟩; exact ⟨i, rfl, by cases h2; exact h⟩
    · rintro ⟨m, h, h2⟩; cases h; exact ⟨j, h2, rfl⟩
  | k + 1, i, j => by
    constructor
    · rintro ⟨m, h, h2⟩
      obtain ⟨u, h3, h4⟩ := (pow_snoc R k m j).1 h2
      exact ⟨u, ⟨m, h, h3⟩, h4⟩
    · rintro ⟨u, ⟨m, h, h3⟩, h4⟩
      exact ⟨m, h, (pow_snoc R k m j).2 ⟨u, h3, h4⟩⟩
/-- where a set leads to by one step, by k steps. -/
def img (R : Nat → Nat → Prop) (S : Nat → Prop) (q : Nat) : Prop := ∃ p, S p ∧ R p q
def imgN (R : Nat → Nat → Prop) (S : Nat → Prop) : Nat → Nat → Prop
  | 0 => S
  | k + 1 => img R (imgN R S k)
theorem imgN_iff (R : Nat → Nat → Prop) (S : Nat → Prop) : ∀ (k q : Nat), imgN R S k q ↔ ∃ p, S p ∧ pow R k p q
  | 0, q => ⟨fun h => ⟨q, h, rfl⟩, by rintro ⟨p, h, rfl⟩; exact h⟩
  | k + 1, q => by
    constructor
    · rintro ⟨m, h, h2⟩
      obtain ⟨p, hp, h3⟩ := (imgN_iff R S k m).1 h
      exact ⟨p, hp, (pow_snoc R k p q).2 ⟨m, h3, h2⟩⟩
    · rintro ⟨p, hp, h⟩
      obtain ⟨m, h1, h2⟩ := (pow_snoc R k p q).1 h
      exact ⟨m, (imgN_iff R S k m).2 ⟨p, hp, h1⟩, h2⟩
theorem img_congr {R : Nat → Nat → Prop} {S T : Nat → Prop} (h : ∀ p, S p ↔ T p) (q : Nat) : img R S q ↔ img R T q :=
  ⟨fun ⟨p, hp, hr⟩ => ⟨p, (h p).1 hp, hr⟩, fun ⟨p, hp, hr⟩ => ⟨p, (h p).2 hp, hr⟩⟩
theorem imgN_congr {R : Nat → Nat → Prop} {S T : Nat → Prop} (h : ∀ p, S p ↔ T p) : ∀ (k q : Nat), imgN R S k q ↔ imgN R T k q
  | 0, q => h q
  | k + 1, q => img_congr (imgN_congr h k) q
theorem imgN_add (R : Nat → Nat → Prop) (S : Nat → Prop) (k : Nat) : ∀ (j q : Nat), imgN R (imgN R S k) j q ↔ imgN R S (k + j) q
  | 0, _ => Iff.rfl
  | j + 1, q => img_congr (imgN_add R S k j) q
/-- a set that one step leads back to itself stays. -/
theorem imgN_fix {R : Nat → Nat → Prop} {S : Nat → Prop} (h : ∀ q, img R S q ↔ S q) : ∀ (k q : Nat), imgN R S k q ↔ S q
  | 0, _ => Iff.rfl
  | k + 1, q => (img_congr (imgN_fix h k) q).trans (h q)
/-- what fewer than c steps reach. -/
def upto (R : Nat → Nat → Prop) (S : Nat → Prop) (c q : Nat) : Prop := ∃ j, j < c ∧ imgN R S j q
theorem upto_zero (R : Nat → Nat → Prop) (S : Nat → Prop) (q : Nat) : ¬ upto R S 0 q := by rintro ⟨j, hj, _⟩; omega
theorem upto_one (R : Nat → Nat → Prop) (S : Nat → Prop) (q : Nat) : upto R S 1 q ↔ S q :=
  ⟨by rintro ⟨j, hj, h⟩; obtain rfl : j = 0 := by omega
      exact h, fun h => ⟨0, by omega, h⟩⟩
theorem upto_succ (R : Nat → Nat → Prop) (S : Nat → Prop) (c q : Nat) : upto R S (c + 1) q ↔ S q ∨ img R (upto R S c) q := by
  constructor
  · rintro ⟨j, hj, h⟩
    cases j with
    | zero => exact .inl h
    | succ j =>
      obtain ⟨p, hp, hr⟩ := h
      exact .inr ⟨p, ⟨j, by omega, hp⟩, hr⟩
  · rintro (h | ⟨p, ⟨j, hj, hp⟩, hr⟩)
    · exact ⟨0, by omega, h⟩
    · exact ⟨j + 1, by omega, p, hp, hr⟩
theorem upto_mono {R : Nat → Nat → Prop} {S : Nat → Prop} {c d q : Nat} (h : c ≤ d) : upto R S c q → upto R S d q := by
  rintro ⟨j, hj, h2⟩; exact ⟨j, by omega, h2⟩
theorem upto_stays {R : Nat → Nat → Prop} {S : Nat → Prop} {c : Nat} (h : ∀ q, upto R S (c + 1) q → upto R S c q) : ∀ (d q : Nat), upto R S d q → upto R S c q
  | 0, q, hq => absurd hq (upto_zero R S q)
  | d + 1, q, hq => by
    rcases (upto_succ R S d q).1 hq with h1 | ⟨p, hp, hr⟩
    · exact h q ((upto_succ R S c q).2 (.inl h1))
    · exact h q ((upto_succ R S c q).2 (.inr ⟨p, upto_stays h d p hp, hr⟩))
/-- one round of the search: what was reached, what the last step led to, what is fresh of that. -/
theorem search_step {R : Nat → Nat → Prop} {S T F : Nat → Prop} {c : Nat} (hT : ∀ q, upto R S (c + 1) q ↔ upto R S c q ∨ T q)
    (hF : ∀ q, F q ↔ T q ∧ ¬ upto R S c q) (q : Nat) : upto R S (c + 2) q ↔ upto R S (c + 1) q ∨ img R F q := by
  rw [upto_succ R S (c + 1) q]
  constructor
  · rintro (h | ⟨p, hp, hr⟩)
    · exact .inl ((upto_succ R S c q).2 (.inl h))
    · by_cases hc : upto R S c p
      · exact .inl ((upto_succ R S c q).2 (.inr ⟨p, hc, hr⟩))
      · rcases (hT p).1 hp with h1 | h1
        · exact absurd h1 hc
        · exact .inr ⟨p, (hF p).2 ⟨h1, hc⟩, hr⟩
  · rintro (h | ⟨p, hp, hr⟩)
    · rcases (upto_succ R S c q).1 h with h1 | ⟨p, hp, hr⟩
      · exact .inl h1
      · exact .inr ⟨p, upto_mono (by omega) hp, hr⟩
    · exact .inr ⟨p, (hT p).2 (.inr ((hF p).1 hp).1), hr⟩

/-- an expression as a tree. -/
inductive Rx where
  | none
  | empty
  | cls (c : BitVec 256)
  | cat (l r : Rx)
  | alt (l r : Rx)
  | and (l r : Rx)
  | not (l : Rx)
  | rep (l : Rx) (least : Nat) (most : Option Nat)
/-- the tree matches the word from position i up to position j. -/
def sp (b : List Int) : Rx → Nat → Nat → Prop
  | .none, _, _ => False
  | .empty, i, j => i = j ∧ i ≤ b.length
  | .cls c, i, j => j = i + 1 ∧ ∃ y, b[i]? = some y ∧ mem c y.toNat = true
  | .cat l r, i, j => ∃ m, sp b l i m ∧ sp b r m j
  | .alt l r, i, j => sp b l i j ∨ sp b r i j
  | .and l r, i, j => sp b l i j ∧ sp b r i j
  | .not l, i, j => i ≤ j ∧ j ≤ b.length ∧ ¬ sp b l i j
  | .rep l lo hi, i, j => i ≤ b.length ∧ ∃ k, lo ≤ k ∧ (∀ h, hi = some h → k ≤ h) ∧ pow (sp b l) k i j
theorem pow_le {R : Nat → Nat → Prop} {n : Nat} (h : ∀ i j, R i j → i ≤ j ∧ j ≤ n) : ∀ {k i j : Nat}, i ≤ n → pow R k i j → i ≤ j ∧ j ≤ n
  | 0, i, j, hi, hp => by cases hp; exact ⟨Nat.le_refl _, hi⟩
  | k + 1, i, j, _, ⟨m, h1, h2⟩ => by
    have a := h i m h1
    have b := pow_le h a.2 h2
    omega
theorem sp_le (b : List Int) : ∀ (t : Rx) (i j : Nat), sp b t i j → i ≤ j ∧ j ≤ b.length
  | .none, _, _, h => h.elim
  | .empty, i, j, h => by obtain ⟨rfl, h⟩ := h; exact ⟨Nat.le_refl _, h⟩
  | .cls c, i, j, h => by
    obtain ⟨rfl, y, hy, _⟩ := h
    have := (List.getElem?_eq_some_iff.1 hy).1
    omega
  | .cat l r, i, j, h => by
    obtain ⟨m, h1, h2⟩ := h
    have a := sp_le b l i m h1
    have c := sp_le b r m j h2
    omega
  | .alt l r, i, j, h => by
    rcases h with h | h
    · exact sp_le b l i j h
    · exact sp_le b r i j h
  | .and l r, i, j, h => sp_le b l i j h.1
  | .not l, i, j, h => ⟨h.1, h.2.1⟩
  | .rep l lo hi, i, j, h => by
    obtain ⟨h0, k, _, _, hp⟩ := h
    exact pow_le (sp_le b l) h0 hp
/-- where the tree's matches end that begin in the set. -/
def ends (b : List Int) (t : Rx) (S : Nat → Prop) (q : Nat) : Prop := img (sp b t) S q
theorem rep_ends {b : List Int} {l : Rx} {lo : Nat} {hi : Option Nat} {S : Nat → Prop} (hS : ∀ p, S p → p ≤ b.length) (q : Nat) :
    ends b (.rep l lo hi) S q ↔ ∃ j, (∀ h, hi = some h → lo + j ≤ h) ∧ imgN (sp b l) (imgN (sp b l) S lo) j q := by
  constructor
  · rintro ⟨p, hp, _, k, h1, h2, h3⟩
    refine ⟨k - lo, fun h e => by have := h2 h e; omega, ?_⟩
    rw [imgN_add, show lo + (k - lo) = k by omega, imgN_iff]
    exact ⟨p, hp, h3⟩
  · rintro ⟨j, h1, h2⟩
    rw [imgN_add, imgN_iff] at h2
    obtain ⟨p, hp, h3⟩ := h2
    exact ⟨p, hp, hS p hp, lo + j, by omega, h1, h3⟩
end Go.Proofs.YtgbbjobmcbdhdaaGreatDoor

/-
  Plain: nodes of expressions; the parser as a function with fuel. No program is named here.
-/
namespace Go.Proofs.YtgbbjobmcbdhdaaGreatDoor
/-- a node. -/
structure Nd where
  k : Int
  c : BitVec 256
  l : Int
  r : Int
  mn : Int
  mx : Int
deriving DecidableEq
def ofQ (l : List Int) : BitVec 256 := l.foldl (fun c b => c ||| bit b.toNat) 0
def rngQ (lo : Int) (k : Nat) : BitVec 256 := ofQ ((List.range k).map fun (j : Nat) => lo + (j : Int))

/-- what a reader of a part of a text without nodes gives: the value and where it stands, or a failure. -/
inductive LR (α : Type) where
  | ok (a : α) (p : Nat)
  | bad (p : Nat) (er : Int)
deriving DecidableEq
/-- .. of a part with nodes; out: the fuel did not suffice. -/
inductive PR where
  | ok (l : Nat) (p : Nat) (xs : List Nd)
  | bad (p : Nat) (er : Int)
  | out
deriving DecidableEq

def special : List UInt8 := [33, 38, 40, 41, 42, 43, 45, 46, 63, 91, 92, 93, 94, 123, 124, 125, 126]
def plainB (y : UInt8) : Bool := decide (33 ≤ y) && decide (y ≤ 126) && !special.contains y
def digitB (y : UInt8) : Bool := decide (48 ≤ y) && decide (y ≤ 57)
def hexV (y : UInt8) : Option Nat :=
  if digitB y then some (y.toNat - 48) else if 97 ≤ y ∧ y ≤ 102 then some (y.toNat - 87) else if 65 ≤ y ∧ y ≤ 70 then some (y.toNat - 55) else none

section
variable (s : List UInt8)
def nextS (p : Nat) : LR UInt8 := match s[p]? with
  | none => .bad p 21
  | some y => .ok y (p + 1)
def expectS (c : UInt8) (p : Nat) : LR Unit := match s[p]? with
  | none => .bad p 21
  | some y => if y = c then .ok () (p + 1) else .bad p 20
def hexS (p : Nat) : LR Nat := match s[p]? with
  | none => .bad p 21
  | some y => match hexV y with
    | some v => .ok v (p + 1)
    | none => .bad p 20
def charS (p : Nat) : LR Nat := match s[p]? with
  | none => .bad p 21
  | some y => if y = 92 then
      match expectS s 120 (p + 1) with
      | .bad q er => .bad q er
      | .ok _ q => match hexS s q with
        | .bad q er => .bad q er
        | .ok h q => match hexS s q with
          | .bad q er => .bad q er
          | .ok l q => .ok (16 * h + l) q
    else if plainB y then .ok y.toNat (p + 1) else .bad p 20
/-- further digits. -/
def digitsS : Nat → List UInt8 → Nat × Nat
  | n, [] => (n, 0)
  | n, y :: l => if 0 < n ∧ digitB y = true then
      let r := digitsS (min (10 * n + (y.toNat - 48)) 17) l
      (r.1, r.2 + 1)
    else (n, 0)
def numberS (p : Nat) : LR Nat := match s[p]? with
  | none => .bad p 21
  | some y => if digitB y then
      let r := digitsS (y.toNat - 48) (s.drop (p + 1))
      if 16 < r.1 then .bad p 2 else .ok r.1 (p + 1 + r.2)
    else .bad p 20
def boundsS (p : Nat) : LR (Int × Int) := match numberS s p with
  | .bad q er => .bad q er
  | .ok a q => match expectS s 44 q with
    | .bad q er => .bad q er
    | .ok _ q => if s[q]? = some 125 then .ok (a, -1) (q + 1) else
      match numberS s q with
      | .bad q er => .bad q er
      | .ok b q2 => if b < a then .bad q 20 else
        match expectS s 125 q2 with
        | .bad q er => .bad q er
        | .ok _ q3 => .ok (a, b) q3
def repeatS (p : Nat) : LR (Option (Int × Int)) :=
  if s[p]? = some 42 then .ok (some (0, -1)) (p + 1)
  else if s[p]? = some 43 then .ok (some (1, -1)) (p + 1)
  else if s[p]? = some 63 then .ok (some (0, 1)) (p + 1)
  else if s[p]? = some 123 then match boundsS s (p + 1) with
    | .bad q er => .bad q er
    | .ok b q => .ok (some b) q
  else .ok none p
def pairS (p : Nat) : LR (BitVec 256) := match charS s p with
  | .bad q er => .bad q er
  | .ok a q => if s[q]? = some 45 then
      match charS s (q + 1) with
      | .bad q er => .bad q er
      | .ok b q2 => if b < a then .bad (q + 1) 20 else .ok (rngQ a (b + 1 - a)) q2
    else .ok (ofQ [(a : Int)]) q
/-- the chars of a class; none: the fuel did not suffice. -/
def classLoop : Nat → BitVec 256 → Nat → Option (LR (BitVec 256))
  | 0, _, _ => none
  | f + 1, c, p => if s[p]? = some 93 then some (.ok c (p + 1)) else
    match pairS s p with
    | .bad q er => some (.bad q er)
    | .ok d q => classLoop f (c ||| d) q
def classS (f : Nat) (p : Nat) : Option (LR (BitVec 256)) :=
  if s[p]? = some 94 then match classLoop s f 0 (p + 1) with
    | some (.ok c q) => some (.ok (rngQ 0 256 &&& ~~~c) q)
    | e => e
  else classLoop s f 0 p
/-- a node added. -/
def putS (n : Nd) (p : Nat) (xs : List Nd) : PR := if xs.length < 1000000 then .ok xs.length p (xs ++ [n]) else .out
def clsNd (c : BitVec 256) : Nd := ⟨3, c, 0, 0, 0, 0⟩
def groupS (alt : Nat → List Nd → PR) (p : Nat) (xs : List Nd) : PR :=
  if s[p]? = some 41 then putS ⟨2, 0, 0, 0, 0, 0⟩ (p + 1) xs else
  match alt p xs with
  | .ok l q ys => match expectS s 41 q with
    | .bad q er => .bad q er
    | .ok _ q2 => .ok l q2 ys
  | e => e
def atomS (alt : Nat → List Nd → PR) (f : Nat) (p : Nat) (xs : List Nd) : PR :=
  if s[p]? = some 46 then putS (clsNd (rngQ 0 256)) (p + 1) xs
  else if s[p]? = some 33 then putS ⟨1, 0, 0, 0, 0, 0⟩ (p + 1) xs
  else if s[p]? = some 40 then groupS s alt (p + 1) xs
  else if s[p]? = some 91 then match classS s f (p + 1) with
    | none => .out
    | some (.bad q er) => .bad q er
    | some (.ok c q) => putS (clsNd c) q xs
  else match charS s p with
    | .bad q er => .bad q er
    | .ok y q => putS (clsNd (ofQ [(y : Int)])) q xs
def repLoop : Nat → Nat → Nat → List Nd → PR
  | 0, _, _, _ => .out
  | f + 1, l, p, xs => match repeatS s p with
    | .bad q er => .bad q er
    | .ok none q => .ok l q xs
    | .ok (some b) q => match putS ⟨8, 0, l, 0, b.1, b.2⟩ q xs with
      | .ok l2 q2 ys => repLoop f l2 q2 ys
      | e => e
def itemS (alt : Nat → List Nd → PR) (f : Nat) : Nat → Nat → List Nd → PR
  | 0, _, _ => .out
  | m + 1, p, xs => if s[p]? = some 126 then
      match itemS alt f m (p + 1) xs with
      | .ok l q ys => putS ⟨7, 0, l, 0, 0, 0⟩ q ys
      | e => e
    else match atomS s alt f p xs with
      | .ok l q ys => repLoop s f l q ys
      | e => e
/-- operands joined from the left. -/
def joinS (kind : Int) (operand : Nat → List Nd → PR) (more : Nat → Option Nat) : Nat → Nat → Nat → List Nd → PR
  | 0, _, _, _ => .out
  | f + 1, l, p, xs => match more p with
    | none => .ok l p xs
    | some q => match operand q xs with
      | .ok r q2 ys => match putS ⟨kind, 0, l, r, 0, 0⟩ q2 ys with
        | .ok l2 q3 zs => joinS kind operand more f l2 q3 zs
        | e => e
      | e => e
def chainS (kind : Int) (operand : Nat → List Nd → PR) (more : Nat → Option Nat) (f p : Nat) (xs : List Nd) : PR := match operand p xs with
  | .ok l q ys => joinS kind operand more f l q ys
  | e => e
def takeS (c : UInt8) (p : Nat) : Option Nat := if s[p]? = some c then some (p + 1) else none
/-- an item can begin here. -/
def itemAt (p : Nat) : Bool := match s[p]? with
  | none => false
  | some y => plainB y || [126, 46, 33, 40, 91, 92].contains y
def moreItem (p : Nat) : Option Nat := if itemAt s p then some p else none
def catS (alt : Nat → List Nd → PR) (f p : Nat) (xs : List Nd) : PR := chainS 4 (itemS s alt f f) (moreItem s) f p xs
def andS (alt : Nat → List Nd → PR) (f p : Nat) (xs : List Nd) : PR := chainS 6 (catS s alt f) (takeS s 38) f p xs
def altS : Nat → Nat → List Nd → PR
  | 0, _, _ => .out
  | f + 1, p, xs => chainS 5 (andS s (altS f) f) (takeS s 124) f p xs
/-- the result of Parse: the nodes, or an offset and an error; none: the fuel did not suffice. -/
def parseS (f : Nat) : Option (Except (Nat × Int) (List Nd)) :=
  if 4000 < s.length then some (.error (0, 2)) else
  match altS s f 0 [] with
  | .out => none
  | .bad q er => some (.error (q, er))
  | .ok _ q ys => if q < s.length then some (.error (q, 20)) else if 200 < ys.length then some (.error (s.length, 2)) else some (.ok ys)
end
def str (t : String) : List UInt8 := t.toUTF8.toList
end Go.Proofs.YtgbbjobmcbdhdaaGreatDoor
