/-
  Texts of the proof, one behind another: Mt.
-/
import Derived.Test.YtkhphiilnplgjaaGreatDoorProg
set_option linter.unusedSimpArgs false
set_option linter.unusedVariables false
namespace Go.Proofs.YtkhphiilnplgjaaGreatDoor
/-- whether n is a member of the set with this head and cycle. -/
def atL (h c : List Bool) (n : Nat) : Bool := if n < h.length then h.getD n false else c.getD ((n - h.length) % c.length) false
/-- the first p elements of the cycle repeat. -/
def Good (c : List Bool) (p : Nat) : Prop := c.length % p = 0 ∧ ∀ i, i + p < c.length → c.getD (i + p) false = c.getD i false
structure IsPer (c : List Bool) (p : Nat) : Prop where
  pos : 0 < p
  le : p ≤ c.length
  ok : Good c p
  least : ∀ q, 0 < q → q < p → ¬ Good c q
/-- from N on, f has the period p. -/
def From (f : Nat → Bool) (p N : Nat) : Prop := ∀ n, N ≤ n → f (n + p) = f n
structure IsCanon (f : Nat → Bool) (h c : List Bool) : Prop where
  pos : 0 < c.length
  val : ∀ n, atL h c n = f n
  minC : ∀ p N, 0 < p → From f p N → c.length ≤ p
  minH : ∀ N, From f c.length N → h.length ≤ N

theorem From.mul {f : Nat → Bool} {p N : Nat} (h : From f p N) (k : Nat) : From f (p * k) N := by
  induction k with
  | zero => intro n _; simp
  | succ k ih => intro n hn; rw [Nat.mul_succ, ← Nat.add_assoc, h _ (by omega), ih n hn]
theorem From.mod {f : Nat → Bool} {a b N : Nat} (ha : From f a N) (hb : From f b N) : From f (a % b) N := by
  intro n hn
  have h1 := hb.mul (a / b) (n + a % b) (by omega)
  have h2 : n + a % b + b * (a / b) = n + a := by have := Nat.mod_add_div a b; omega
  rw [h2, ha n hn] at h1
  exact h1.symm
theorem From.gcd {f : Nat → Bool} {N : Nat} : ∀ {a b : Nat}, From f a N → From f b N → From f (Nat.gcd a b) N := by
  intro a
  induction a using Nat.strongRecOn with
  | _ a ih =>
    intro b ha hb
    by_cases h0 : a = 0
    · subst h0; simpa using hb
    · rw [Nat.gcd_rec]
      exact ih (b % a) (Nat.mod_lt _ (by omega)) (hb.mod ha) ha
theorem From.mono {f : Nat → Bool} {p N M : Nat} (h : From f p N) (hM : N ≤ M) : From f p M := fun n hn => h n (by omega)

theorem atL_add (h c : List Bool) (n : Nat) (hc : 0 < c.length) (hn : h.length ≤ n) : atL h c (n + c.length) = atL h c n := by
  unfold atL
  rw [if_neg (by omega), if_neg (by omega)]
  have : n + c.length - h.length = (n - h.length) + c.length := by omega
  rw [this, Nat.add_mod_right]
theorem atL_cycle (h c : List Bool) (i : Nat) (hi : i < c.length) : atL h c (h.length + i) = c.getD i false := by
  unfold atL
  rw [if_neg (by omega), Nat.add_sub_cancel_left, Nat.mod_eq_of_lt hi]
theorem atL_head (h c : List Bool) (i : Nat) (hi : i < h.length) : atL h c i = h.getD i false := by
  unfold atL; rw [if_pos hi]
theorem atL_from (h c : List Bool) (hc : 0 < c.length) : From (atL h c) c.length h.length := fun n hn => atL_add h c n hc hn

/-- a canonical form is determined by the members. -/
theorem IsCanon.unique {f g : Nat → Bool} {h c h' c' : List Bool} (a : IsCanon f h c) (b : IsCanon g h' c') (hfg : ∀ n, f n = g n) : h = h' ∧ c = c' := by
  obtain rfl : f = g := funext hfg
  have fa : From f c.length h.length := by
    intro n hn; rw [← a.val, ← a.val]; exact atL_add h c n a.pos hn
  have fb : From f c'.length h'.length := by
    intro n hn; rw [← b.val, ← b.val]; exact atL_add h' c' n b.pos hn
  have hc : c.length = c'.length := Nat.le_antisymm (a.minC _ _ b.pos fb) (b.minC _ _ a.pos fa)
  have hh : h.length = h'.length := Nat.le_antisymm (a.minH _ (hc ▸ fb)) (b.minH _ (hc ▸ fa))
  constructor
  · apply List.ext_getElem hh
    intro i h1 h2
    have e1 := atL_head h c i h1
    have e2 := atL_head h' c' i h2
    rw [a.val] at e1; rw [b.val] at e2
    simp only [List.getD_eq_getElem?_getD, List.getElem?_eq_getElem h1, Option.getD_some] at e1
    simp only [List.getD_eq_getElem?_getD, List.getElem?_eq_getElem h2, Option.getD_some] at e2
    rw [← e1, ← e2]
  · apply List.ext_getElem hc
    intro i h1 h2
    have e1 := atL_cycle h c i h1
    have e2 := atL_cycle h' c' i h2
    rw [a.val] at e1; rw [b.val, ← hh] at e2
    simp only [List.getD_eq_getElem?_getD, List.getElem?_eq_getElem h1, Option.getD_some] at e1
    simp only [List.getD_eq_getElem?_getD, List.getElem?_eq_getElem h2, Option.getD_some] at e2
    rw [← e1, ← e2]

/-- the elements of l are the members of f; from H on, P of them repeat. -/
structure Rep (f : Nat → Bool) (l : List Bool) (H : Nat) : Prop where
  lt : H < l.length
  val : ∀ n, n < l.length → l.getD n false = f n
  per : From f (l.length - H) H

theorem getD_take (l : List Bool) (H i : Nat) (hi : i < H) : (l.take H).getD i false = l.getD i false := by
  simp only [List.getD_eq_getElem?_getD, List.getElem?_take, hi, if_true]
theorem getD_drop (l : List Bool) (H i : Nat) : (l.drop H).getD i false = l.getD (H + i) false := by
  simp only [List.getD_eq_getElem?_getD, List.getElem?_drop]
theorem good_iff {f : Nat → Bool} {l : List Bool} {H p : Nat} (r : Rep f l H) (hd : (l.length - H) % p = 0) (hp : 0 < p) : Good (l.drop H) p ↔ From f p H := by
  have hlen : (l.drop H).length = l.length - H := by simp
  have hlt := r.lt
  constructor
  · intro hg
    have key : ∀ k i, i < l.length - H → f (H + i + (l.length - H) * k) = f (H + i) := fun k i hi => r.per.mul k (H + i) (by omega)
    obtain ⟨m, hm⟩ := Nat.dvd_of_mod_eq_zero hd
    have hm0 : 0 < m := by rcases Nat.eq_zero_or_pos m with h | h; · subst h; simp at hm; omega
                           · exact h
    have hple : p ≤ l.length - H := by rw [hm]; exact Nat.le_mul_of_pos_right p hm0
    -- within one period
    have one : ∀ i, i < l.length - H → f (H + i + p) = f (H + i) := by
      intro i hi
      by_cases h1 : i + p < l.length - H
      · have := hg.2 i (by rw [hlen]; exact h1)
        rw [getD_drop, getD_drop, r.val _ (by omega), r.val _ (by omega)] at this
        rw [← this]; congr 1; omega
      · -- i + p - P is less than p; it is i modulo p
        have h2 : f (H + i + p) = f (H + (i + p - (l.length - H))) := by
          have := r.per (H + (i + p - (l.length - H))) (by omega)
          rw [← this]; congr 1; omega
        rw [h2]
        -- climb from i + p - P by steps of p to i
        have climb : ∀ k j, j + p * k < l.length - H → f (H + (j + p * k)) = f (H + j) := by
          intro k
          induction k with
          | zero => intro j _; simp
          | succ k ih =>
            intro j hj
            rw [Nat.mul_succ] at hj ⊢
            have := hg.2 (j + p * k) (by rw [hlen]; omega)
            rw [getD_drop, getD_drop, r.val _ (by omega), r.val _ (by omega)] at this
            have e : H + (j + (p * k + p)) = H + (j + p * k + p) := by omega
            rw [e, this]
            exact ih j (by omega)
        have h3 : p * (m - 1) + p = l.length - H := by
          rw [hm]; obtain ⟨t, rfl⟩ : ∃ t, m = t + 1 := ⟨m - 1, by omega⟩
          rw [Nat.add_sub_cancel, Nat.mul_succ]
        have := climb (m - 1) (i + p - (l.length - H)) (by omega)
        rw [← this]; congr 1; omega
    intro n hn
    have e1 : n = H + (n - H) % (l.length - H) + (l.length - H) * ((n - H) / (l.length - H)) := by
      have := Nat.mod_add_div (n - H) (l.length - H); omega
    have hi : (n - H) % (l.length - H) < l.length - H := Nat.mod_lt _ (by omega)
    generalize (n - H) % (l.length - H) = i at e1 hi
    generalize (n - H) / (l.length - H) = k at e1
    have a1 := r.per.mul k (H + i) (by omega)
    have a2 := r.per.mul k (H + i + p) (by omega)
    have a3 := one i hi
    subst e1
    rw [a1, ← a3, ← a2]; congr 1; omega
  · intro hf
    refine ⟨by rw [hlen]; exact hd, fun i hi => ?_⟩
    rw [hlen] at hi
    rw [getD_drop, getD_drop, r.val _ (by omega), r.val _ (by omega)]
    have := hf (H + i) (by omega)
    rw [← this]; congr 1; omega

/-- the least period of the cycle is no greater than any period of the set. -/
theorem per_least {f : Nat → Bool} {l : List Bool} {H p : Nat} (r : Rep f l H) (hp : IsPer (l.drop H) p) : From f p H ∧ ∀ q N, 0 < q → From f q N → p ≤ q := by
  have hlen : (l.drop H).length = l.length - H := by simp
  have hlt := r.lt
  refine ⟨(good_iff r (by have := hp.ok.1; rwa [hlen] at this) hp.pos).1 hp.ok, fun q N hq hf => ?_⟩
  have hg0 : 0 < Nat.gcd (l.length - H) q := Nat.gcd_pos_of_pos_right _ hq
  have hgN : From f (Nat.gcd (l.length - H) q) (H + N) := (r.per.mono (by omega)).gcd (hf.mono (by omega))
  have hdv : (l.length - H) % Nat.gcd (l.length - H) q = 0 := Nat.mod_eq_zero_of_dvd (Nat.gcd_dvd_left _ _)
  have hgH : From f (Nat.gcd (l.length - H) q) H := by
    intro n hn
    have b1 := r.per.mul N n hn
    have b2 := r.per.mul N (n + Nat.gcd (l.length - H) q) (by omega)
    have b3 : N ≤ (l.length - H) * N := Nat.le_mul_of_pos_left N (by omega)
    have b4 := hgN (n + (l.length - H) * N) (by omega)
    rw [b1] at b4
    rw [← b4, ← b2]; congr 1; omega
  have hgood := (good_iff r hdv hg0).2 hgH
  have hle : Nat.gcd (l.length - H) q ≤ q := Nat.le_of_dvd hq (Nat.gcd_dvd_right _ _)
  rcases Nat.lt_or_ge (Nat.gcd (l.length - H) q) p with h | h
  · exact absurd hgood (hp.least _ hg0 h)
  · omega

/-- the form that is read from N on is canonical. -/
theorem canon_of {f : Nat → Bool} {l : List Bool} {H p N : Nat} (r : Rep f l H) (hp : IsPer (l.drop H) p) (hN : N ≤ H) (hF : From f p N) (hleast : N = 0 ∨ f (N - 1) ≠ f (N - 1 + p)) :
    IsCanon f (l.take N) ((l.drop N).take p) := by
  have hlen : (l.drop H).length = l.length - H := by simp
  have hlt := r.lt
  have hple := hp.le
  have hpp := hp.pos
  rw [hlen] at hple
  have hl1 : (l.take N).length = N := by rw [List.length_take]; omega
  have hl2 : ((l.drop N).take p).length = p := by rw [List.length_take, List.length_drop]; omega
  refine ⟨by omega, ?_, ?_, ?_⟩
  · intro n
    by_cases hn : n < N
    · rw [atL_head _ _ _ (by omega), getD_take _ _ _ hn, r.val _ (by omega)]
    · have e1 : n = N + (n - N) % p + p * ((n - N) / p) := by have := Nat.mod_add_div (n - N) p; omega
      have hi : (n - N) % p < p := Nat.mod_lt _ hpp
      unfold atL
      rw [if_neg (by omega), hl1, hl2, getD_take _ _ _ hi, getD_drop, r.val _ (by omega)]
      have := hF.mul ((n - N) / p) (N + (n - N) % p) (by omega)
      rw [← this, ← e1]
  · intro q M hq hf
    rw [hl2]
    exact (per_least r hp).2 q M hq hf
  · intro M hM
    rw [hl2] at hM
    rw [hl1]
    rcases Nat.lt_or_ge M N with h | h
    · rcases hleast with h0 | h0
      · omega
      · exact absurd (hM (N - 1) (by omega)).symm h0
    · exact h

theorem rep_of_set (h c : List Bool) (hc : 0 < c.length) : Rep (atL h c) (h ++ c) h.length where
  lt := by rw [List.length_append]; omega
  val n hn := by
    rw [List.length_append] at hn
    by_cases h1 : n < h.length
    · rw [atL_head _ _ _ h1]; simp [List.getD_eq_getElem?_getD, List.getElem?_append, h1]
    · have e : n = h.length + (n - h.length) := by omega
      rw [e, atL_cycle _ _ _ (by omega)]; simp only [List.getD_eq_getElem?_getD]; rw [List.getElem?_append_right (by omega)]; congr 2; omega
  per := by
    have : (h ++ c).length - h.length = c.length := by rw [List.length_append]; omega
    rw [this]; exact atL_from h c hc
theorem rep_of_fun (f : Nat → Bool) (H P : Nat) (hP : 0 < P) (hF : From f P H) (l : List Bool) (hl : l.length = H + P) (hv : ∀ n, n < H + P → l.getD n false = f n) : Rep f l H where
  lt := by omega
  val n hn := hv n (by omega)
  per := by rw [show l.length - H = P by omega]; exact hF
/-! the sums of two sets. -/
/-- whether n is a sum of a member of a and a member of b. -/
def sumB (f g : Nat → Bool) (n : Nat) : Bool := (List.range (n + 1)).any fun x => f x && g (n - x)
theorem sumB_iff (f g : Nat → Bool) (n : Nat) : sumB f g n = true ↔ ∃ x y, x + y = n ∧ f x = true ∧ g y = true := by
  unfold sumB
  rw [List.any_eq_true]
  constructor
  · rintro ⟨x, hx, h⟩
    rw [List.mem_range] at hx
    rw [Bool.and_eq_true] at h
    exact ⟨x, n - x, by omega, h.1, h.2⟩
  · rintro ⟨x, y, h, h1, h2⟩
    refine ⟨x, List.mem_range.2 (by omega), ?_⟩
    have : n - x = y := by omega
    rw [h1, this, h2]; rfl
theorem sumB_from (f g : Nat → Bool) (P Hf Hg : Nat) (hf : From f P Hf) (hg : From g P Hg) : From (sumB f g) P (Hf + Hg + P) := by
  intro n hn
  rw [Bool.eq_iff_iff, sumB_iff, sumB_iff]
  constructor
  · rintro ⟨x, y, h, h1, h2⟩
    by_cases hx : Hf + P ≤ x
    · exact ⟨x - P, y, by omega, by rw [← h1, ← hf (x - P) (by omega)]; congr 1; omega, h2⟩
    · exact ⟨x, y - P, by omega, h1, by rw [← h2, ← hg (y - P) (by omega)]; congr 1; omega⟩
  · rintro ⟨x, y, h, h1, h2⟩
    by_cases hx : Hf ≤ x
    · exact ⟨x + P, y, by omega, by rw [hf x hx]; exact h1, h2⟩
    · exact ⟨x, y + P, by omega, h1, by rw [hg y (by omega)]; exact h2⟩
theorem sumB_comm (f g : Nat → Bool) (n : Nat) : sumB f g n = sumB g f n := by
  rw [Bool.eq_iff_iff, sumB_iff, sumB_iff]
  constructor <;> (rintro ⟨x, y, h, h1, h2⟩; exact ⟨y, x, by omega, h2, h1⟩)
theorem sumB_assoc (f g h : Nat → Bool) (n : Nat) : sumB (sumB f g) h n = sumB f (sumB g h) n := by
  rw [Bool.eq_iff_iff, sumB_iff, sumB_iff]
  constructor
  · rintro ⟨x, y, e, h1, h2⟩
    obtain ⟨a, b, e2, h3, h4⟩ := (sumB_iff _ _ _).1 h1
    exact ⟨a, b + y, by omega, h3, (sumB_iff _ _ _).2 ⟨b, y, rfl, h4, h2⟩⟩
  · rintro ⟨x, y, e, h1, h2⟩
    obtain ⟨a, b, e2, h3, h4⟩ := (sumB_iff _ _ _).1 h2
    exact ⟨x + a, b, by omega, (sumB_iff _ _ _).2 ⟨x, a, rfl, h1, h3⟩, h4⟩
theorem sumB_or (f g h : Nat → Bool) (n : Nat) : sumB f (fun k => g k || h k) n = (sumB f g n || sumB f h n) := by
  rw [Bool.eq_iff_iff, Bool.or_eq_true, sumB_iff, sumB_iff, sumB_iff]
  constructor
  · rintro ⟨x, y, e, h1, h2⟩
    rcases Bool.or_eq_true _ _ ▸ h2 with h2 | h2
    · exact .inl ⟨x, y, e, h1, h2⟩
    · exact .inr ⟨x, y, e, h1, h2⟩
  · rintro (⟨x, y, e, h1, h2⟩ | ⟨x, y, e, h1, h2⟩)
    · exact ⟨x, y, e, h1, by rw [h2]; rfl⟩
    · exact ⟨x, y, e, h1, by rw [h2, Bool.or_true]⟩

/-- a part of a set: its least members, and what may be added to each any number of times. -/
def InPart (ls : List Nat) (s n : Nat) : Prop := ∃ i ∈ ls, ∃ k, n = i + s * k
/-- the sums of two parts, as the loop over the numbers finds them. -/
def sumsTo (xs ys : List Nat) (s t : Nat) (n : Nat) : Prop := ∃ i ∈ xs, ∃ j ∈ ys, ∃ k m, n = i + j + s * k + t * m
theorem sumsTo_iff (xs ys : List Nat) (s t n : Nat) : sumsTo xs ys s t n ↔ ∃ a b, a + b = n ∧ InPart xs s a ∧ InPart ys t b := by
  constructor
  · rintro ⟨i, hi, j, hj, k, m, rfl⟩
    exact ⟨i + s * k, j + t * m, by omega, ⟨i, hi, k, rfl⟩, ⟨j, hj, m, rfl⟩⟩
  · rintro ⟨a, b, rfl, ⟨i, hi, k, rfl⟩, ⟨j, hj, m, rfl⟩⟩
    exact ⟨i, hi, j, hj, k, m, by omega⟩
/-- the number follows from a lesser one, or is a sum of least members. -/
theorem sumsTo_step (xs ys : List Nat) (s t n : Nat) : sumsTo xs ys s t n ↔ (∃ i ∈ xs, ∃ j ∈ ys, n = i + j) ∨ (0 < s ∧ s ≤ n ∧ sumsTo xs ys s t (n - s)) ∨ (0 < t ∧ t ≤ n ∧ sumsTo xs ys s t (n - t)) := by
  constructor
  · rintro ⟨i, hi, j, hj, k, m, rfl⟩
    by_cases hs : 0 < s ∧ 0 < k
    · obtain ⟨k, rfl⟩ : ∃ k', k = k' + 1 := ⟨k - 1, by omega⟩
      rw [Nat.mul_succ]
      exact .inr (.inl ⟨hs.1, by omega, i, hi, j, hj, k, m, by omega⟩)
    · by_cases ht : 0 < t ∧ 0 < m
      · obtain ⟨m, rfl⟩ : ∃ m', m = m' + 1 := ⟨m - 1, by omega⟩
        rw [Nat.mul_succ]
        exact .inr (.inr ⟨ht.1, by omega, i, hi, j, hj, k, m, by omega⟩)
      · refine .inl ⟨i, hi, j, hj, ?_⟩
        have h1 : s * k = 0 := by
          rcases Nat.eq_zero_or_pos s with h | h
          · simp [h]
          · have : k = 0 := by omega
            simp [this]
        have h2 : t * m = 0 := by
          rcases Nat.eq_zero_or_pos t with h | h
          · simp [h]
          · have : m = 0 := by omega
            simp [this]
        omega
  · rintro (⟨i, hi, j, hj, rfl⟩ | ⟨hs, hle, i, hi, j, hj, k, m, e⟩ | ⟨ht, hle, i, hi, j, hj, k, m, e⟩)
    · exact ⟨i, hi, j, hj, 0, 0, by omega⟩
    · exact ⟨i, hi, j, hj, k + 1, m, by rw [Nat.mul_succ]; omega⟩
    · exact ⟨i, hi, j, hj, k, m + 1, by rw [Nat.mul_succ]; omega⟩
/-- the members of a set below n, from m on. -/
def mem2 (h c : List Bool) (m n : Nat) : List Nat := (List.range n).filter fun k => m ≤ k && atL h c k
theorem in_mem2 (h c : List Bool) (m n k : Nat) : k ∈ mem2 h c m n ↔ k < n ∧ m ≤ k ∧ atL h c k = true := by
  unfold mem2
  rw [List.mem_filter, List.mem_range, Bool.and_eq_true, decide_eq_true_eq]
/-- a set is its two parts. -/
theorem parts_iff (h c : List Bool) (hc : 0 < c.length) (n : Nat) : atL h c n = true ↔ InPart (mem2 h c 0 h.length) 0 n ∨ InPart (mem2 h c h.length (h.length + c.length)) c.length n := by
  constructor
  · intro hn
    by_cases h1 : n < h.length
    · exact .inl ⟨n, (in_mem2 _ _ _ _ _).2 ⟨h1, Nat.zero_le _, hn⟩, 0, by omega⟩
    · have e1 : n = h.length + (n - h.length) % c.length + c.length * ((n - h.length) / c.length) := by have := Nat.mod_add_div (n - h.length) c.length; omega
      have hi : (n - h.length) % c.length < c.length := Nat.mod_lt _ hc
      refine .inr ⟨h.length + (n - h.length) % c.length, (in_mem2 _ _ _ _ _).2 ⟨by omega, by omega, ?_⟩, _, e1⟩
      have := (atL_from h c hc).mul ((n - h.length) / c.length) (h.length + (n - h.length) % c.length) (by omega)
      rw [← this, ← e1]; exact hn
  · rintro (⟨i, hi, k, rfl⟩ | ⟨i, hi, k, rfl⟩)
    · have := ((in_mem2 _ _ _ _ _).1 hi).2.2
      simpa using this
    · obtain ⟨h1, h2, h3⟩ := (in_mem2 _ _ _ _ _).1 hi
      rw [(atL_from h c hc).mul k i h2]; exact h3
/-- the sums of two sets are those of their parts. -/
theorem sum_parts (h c h' c' : List Bool) (hc : 0 < c.length) (hc' : 0 < c'.length) (n : Nat) :
    sumB (atL h c) (atL h' c') n = true ↔
      (sumsTo (mem2 h c 0 h.length) (mem2 h' c' 0 h'.length) 0 0 n ∨ sumsTo (mem2 h c 0 h.length) (mem2 h' c' h'.length (h'.length + c'.length)) 0 c'.length n) ∨
      sumsTo (mem2 h c h.length (h.length + c.length)) (mem2 h' c' 0 h'.length) c.length 0 n ∨ sumsTo (mem2 h c h.length (h.length + c.length)) (mem2 h' c' h'.length (h'.length + c'.length)) c.length c'.length n := by
  rw [sumB_iff]
  simp only [sumsTo_iff]
  constructor
  · rintro ⟨x, y, e, h1, h2⟩
    rcases (parts_iff h c hc x).1 h1 with h1 | h1 <;> rcases (parts_iff h' c' hc' y).1 h2 with h2 | h2
    · exact .inl (.inl ⟨x, y, e, h1, h2⟩)
    · exact .inl (.inr ⟨x, y, e, h1, h2⟩)
    · exact .inr (.inl ⟨x, y, e, h1, h2⟩)
    · exact .inr (.inr ⟨x, y, e, h1, h2⟩)
  · rintro ((⟨x, y, e, h1, h2⟩ | ⟨x, y, e, h1, h2⟩) | (⟨x, y, e, h1, h2⟩ | ⟨x, y, e, h1, h2⟩))
    · exact ⟨x, y, e, (parts_iff h c hc x).2 (.inl h1), (parts_iff h' c' hc' y).2 (.inl h2)⟩
    · exact ⟨x, y, e, (parts_iff h c hc x).2 (.inl h1), (parts_iff h' c' hc' y).2 (.inr h2)⟩
    · exact ⟨x, y, e, (parts_iff h c hc x).2 (.inr h1), (parts_iff h' c' hc' y).2 (.inl h2)⟩
    · exact ⟨x, y, e, (parts_iff h c hc x).2 (.inr h1), (parts_iff h' c' hc' y).2 (.inr h2)⟩
/-- both periods divide their least common multiple. -/
theorem lcm_from {f : Nat → Bool} {a N : Nat} (h : From f a N) (m : Nat) (hd : a ∣ m) : From f m N := by
  obtain ⟨k, rfl⟩ := hd; exact h.mul k
theorem both_from {f g : Nat → Bool} {P N M : Nat} (o : Bool → Bool → Bool) (hf : From f P N) (hg : From g P M) : From (fun n => o (f n) (g n)) P (max N M) := by
  intro n hn
  show o _ _ = o _ _
  rw [hf n (by omega), hg n (by omega)]
theorem IsCanon.head_le {f : Nat → Bool} {h c : List Bool} (a : IsCanon f h c) {P N : Nat} (hP : 0 < P) (hf : From f P N) : c.length ≤ P ∧ h.length ≤ N := by
  refine ⟨a.minC _ _ hP hf, a.minH _ ?_⟩
  -- the least period holds wherever some period does
  have fa : From f c.length h.length := by
    intro n hn; rw [← a.val, ← a.val]; exact atL_add h c n a.pos hn
  intro n hn
  have b1 := hf.mul h.length n hn
  have b2 := hf.mul h.length (n + c.length) (by omega)
  have b3 : h.length ≤ P * h.length := Nat.le_mul_of_pos_left _ hP
  have b4 := fa (n + P * h.length) (by omega)
  rw [b1] at b4
  rw [← b4, ← b2]; congr 1; omega
theorem IsCanon.congr {f g : Nat → Bool} {h c : List Bool} (a : IsCanon f h c) (e : ∀ n, f n = g n) : IsCanon g h c := by
  obtain rfl : f = g := funext e; exact a
/-- a canonical form is its own. -/
theorem IsCanon.own {f : Nat → Bool} {h c : List Bool} (a : IsCanon f h c) : IsCanon (atL h c) h c := a.congr fun n => (a.val n).symm
end Go.Proofs.YtkhphiilnplgjaaGreatDoor
