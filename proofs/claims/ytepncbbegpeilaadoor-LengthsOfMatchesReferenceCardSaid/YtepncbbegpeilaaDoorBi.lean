/-
  Sets of states as the bits of a number. No program is named here.
-/
import Derived.Test.YtepncbbegpeilaaDoorKn
import Derived.Test.YtepncbbegpeilaaDoorMt
set_option linter.unusedSimpArgs false
set_option linter.unusedVariables false
namespace Go.Proofs.YtepncbbegpeilaaDoor

/-- a row's targets. -/
def rowBits (r : List Int) : Nat := r.foldl (fun a t => a ||| 2 ^ t.toNat) 0
/-- the states below k that are marked. -/
def accBits (acc : List Bool) : Nat → Nat
  | 0 => 0
  | k + 1 => if acc.getD k false then accBits acc k ||| 2 ^ k else accBits acc k
/-- the states that are reached from those of R by one byte. -/
def stepBits (tb : List Nat) (R : Nat) : Nat := (List.range tb.length).foldl (fun a q => if R.testBit q then a ||| tb.getD q 0 else a) 0
/-- the states that are reached by n bytes. -/
def seqBits (tb : List Nat) : Nat → Nat
  | 0 => 1
  | n + 1 => stepBits tb (seqBits tb n)
theorem testBit_pow (q j : Nat) : (2 ^ q).testBit j = decide (q = j) := by
  rw [Nat.testBit_two_pow]
theorem or_lt {a b n : Nat} (ha : a < 2 ^ n) (hb : b < 2 ^ n) : a ||| b < 2 ^ n := Nat.or_lt_two_pow ha hb
theorem fold_or_bit (f : Nat → Nat) (p : Nat → Bool) (t : Nat) : ∀ (l : List Nat) (a : Nat), (l.foldl (fun a q => if p q then a ||| f q else a) a).testBit t = (a.testBit t || l.any fun q => p q && (f q).testBit t)
  | [], a => by simp
  | q :: l, a => by
    rw [List.foldl_cons, fold_or_bit f p t l, List.any_cons]
    cases hp : p q
    · simp
    · rw [if_pos rfl, Nat.testBit_or]; simp [Bool.or_assoc]
theorem stepBits_bit (tb : List Nat) (R t : Nat) : (stepBits tb R).testBit t = (List.range tb.length).any fun q => R.testBit q && (tb.getD q 0).testBit t := by
  unfold stepBits
  rw [fold_or_bit (fun q => tb.getD q 0) (fun q => R.testBit q) t]; simp
theorem rowBits_snoc (r : List Int) (t : Int) : rowBits (r ++ [t]) = rowBits r ||| 2 ^ t.toNat := by unfold rowBits; rw [List.foldl_append]; rfl
theorem rowBits_take {r : List Int} {k : Nat} {t : Int} (h : r[k]? = some t) : rowBits (r.take (k + 1)) = rowBits (r.take k) ||| 2 ^ t.toNat := by
  rw [List.take_add_one, h]; exact rowBits_snoc _ _
theorem rowBits_bit (r : List Int) (t : Nat) : (rowBits r).testBit t = r.any fun x => decide (x.toNat = t) := by
  have key : ∀ (l : List Int) (a : Nat), (l.foldl (fun a t => a ||| 2 ^ t.toNat) a).testBit t = (a.testBit t || l.any fun x => decide (x.toNat = t)) := by
    intro l
    induction l with
    | nil => intro a; simp
    | cons x l ih => intro a; rw [List.foldl_cons, ih, List.any_cons, Nat.testBit_or, testBit_pow, Bool.or_assoc]
  unfold rowBits; rw [key]; simp
theorem rowBits_lt {r : List Int} {n : Nat} (h : ∀ t ∈ r, t.toNat < n) : rowBits r < 2 ^ n := by
  have key : ∀ (l : List Int) (a : Nat), a < 2 ^ n → (∀ t ∈ l, t.toNat < n) → l.foldl (fun a t => a ||| 2 ^ t.toNat) a < 2 ^ n := by
    intro l
    induction l with
    | nil => intro a ha _; exact ha
    | cons x l ih => intro a ha hl; rw [List.foldl_cons]; exact ih _ (or_lt ha (Nat.pow_lt_pow_right (by decide) (hl x (by simp)))) fun t ht => hl t (by simp [ht])
  exact key r 0 (Nat.two_pow_pos n) h
theorem accBits_lt (acc : List Bool) (n : Nat) : ∀ k, k ≤ n → accBits acc k < 2 ^ n
  | 0, _ => Nat.two_pow_pos n
  | k + 1, h => by
    unfold accBits
    split
    · exact or_lt (accBits_lt acc n k (by omega)) (Nat.pow_lt_pow_right (by decide) (by omega))
    · exact accBits_lt acc n k (by omega)
theorem accBits_bit (acc : List Bool) (t : Nat) : ∀ k, (accBits acc k).testBit t = (decide (t < k) && acc.getD t false)
  | 0 => by simp [accBits]
  | k + 1 => by
    unfold accBits
    have ih := accBits_bit acc t k
    cases ha : acc.getD k false
    · rw [if_neg (by simp), ih]
      by_cases e : t = k
      · subst e; simp only [List.getD_eq_getElem?_getD] at ha ⊢; simp [ha]
      · have : decide (t < k) = decide (t < k + 1) := by rw [decide_eq_decide]; omega
        rw [this]
    · rw [if_pos rfl, Nat.testBit_or, ih, testBit_pow]
      by_cases e : k = t
      · subst e; simp only [List.getD_eq_getElem?_getD] at ha ⊢; simp [ha]
      · have : decide (t < k) = decide (t < k + 1) := by rw [decide_eq_decide]; omega
        rw [this]; simp [e]
theorem stepBits_lt {tb : List Nat} {n : Nat} (h : ∀ q, q < tb.length → tb.getD q 0 < 2 ^ n) (R : Nat) : stepBits tb R < 2 ^ n := by
  have key : ∀ (l : List Nat) (a : Nat), a < 2 ^ n → (∀ q ∈ l, q < tb.length) → l.foldl (fun a q => if R.testBit q then a ||| tb.getD q 0 else a) a < 2 ^ n := by
    intro l
    induction l with
    | nil => intro a ha _; exact ha
    | cons x l ih =>
      intro a ha hl
      rw [List.foldl_cons]
      refine ih _ ?_ fun q hq => hl q (by simp [hq])
      split
      · exact or_lt ha (h x (hl x (by simp)))
      · exact ha
  exact key _ 0 (Nat.two_pow_pos n) fun q hq => List.mem_range.1 hq
theorem seqBits_lt {tb : List Nat} {n : Nat} (hn : 0 < n) (h : ∀ q, q < tb.length → tb.getD q 0 < 2 ^ n) : ∀ k, seqBits tb k < 2 ^ n
  | 0 => Nat.one_lt_two_pow (by omega)
  | k + 1 => stepBits_lt h _
/-- a repeated set repeats for ever. -/
theorem seqBits_from {tb : List Nat} {H i : Nat} (h : seqBits tb i = seqBits tb H) (hle : H ≤ i) : ∀ k, seqBits tb (H + k + (i - H)) = seqBits tb (H + k)
  | 0 => by rw [Nat.add_zero, show H + (i - H) = i by omega, h]
  | k + 1 => by
    have ih := seqBits_from h hle k
    rw [show H + (k + 1) + (i - H) = (H + k + (i - H)) + 1 by omega, show H + (k + 1) = (H + k) + 1 by omega]
    show stepBits tb _ = stepBits tb _
    rw [ih]
/-- whether some accepting state is reached by k bytes. -/
def accN (tb : List Nat) (A k : Nat) : Bool := decide (seqBits tb k &&& A ≠ 0)
theorem accN_from {tb : List Nat} {A H i : Nat} (h : seqBits tb i = seqBits tb H) (hle : H ≤ i) : From (accN tb A) (i - H) H := by
  intro k hk
  have := seqBits_from h hle (k - H)
  rw [show H + (k - H) = k by omega] at this
  unfold accN; rw [this]
/-- one bit less, one row more. -/
theorem step_bit {tb : List Nat} {R s to : Nat} (hs : s ≠ 0) (h64 : s < 2 ^ 64) (hsub : ∀ j, s.testBit j = true → R.testBit j = true) (hq : ∀ j, R.testBit j = true → j < tb.length)
    (hto : ∀ t, to.testBit t = (List.range tb.length).any fun q => (R.testBit q && !s.testBit q) && (tb.getD q 0).testBit t) :
    Lib.ctz 64 s < tb.length ∧ (∀ j, (s &&& (s - 1)).testBit j = true → R.testBit j = true) ∧
    ∀ t, (to ||| tb.getD (Lib.ctz 64 s) 0).testBit t = (List.range tb.length).any fun q => (R.testBit q && !(s &&& (s - 1)).testBit q) && (tb.getD q 0).testBit t := by
  obtain ⟨h1, h2, h3, h4⟩ := low_bits s hs h64
  have hc := hq _ (hsub _ h1)
  refine ⟨hc, fun j hj => ?_, fun t => ?_⟩
  · rw [h4, Bool.and_eq_true] at hj
    exact hsub j hj.1
  · rw [Nat.testBit_or, hto, Bool.eq_iff_iff, Bool.or_eq_true, List.any_eq_true, List.any_eq_true]
    constructor
    · rintro (⟨q, hq1, hq2⟩ | hq2)
      · refine ⟨q, hq1, ?_⟩
        rw [Bool.and_eq_true, Bool.and_eq_true, Bool.not_eq_true'] at hq2 ⊢
        exact ⟨⟨hq2.1.1, by rw [h4, hq2.1.2]; rfl⟩, hq2.2⟩
      · refine ⟨Lib.ctz 64 s, List.mem_range.2 hc, ?_⟩
        rw [Bool.and_eq_true, Bool.and_eq_true, Bool.not_eq_true']
        exact ⟨⟨hsub _ h1, by rw [h4]; simp⟩, hq2⟩
    · rintro ⟨q, hq1, hq2⟩
      rw [Bool.and_eq_true, Bool.and_eq_true, Bool.not_eq_true', h4] at hq2
      by_cases e : q = Lib.ctz 64 s
      · subst e; exact .inr hq2.2
      · refine .inl ⟨q, hq1, ?_⟩
        have h5 := hq2.1.2
        simp [e] at h5
        rw [Bool.and_eq_true, Bool.and_eq_true, Bool.not_eq_true']
        exact ⟨⟨hq2.1.1, h5⟩, hq2.2⟩
theorem step_done {tb : List Nat} {R to : Nat} (hto : ∀ t, to.testBit t = (List.range tb.length).any fun q => (R.testBit q && !(0 : Nat).testBit q) && (tb.getD q 0).testBit t) : to = stepBits tb R := by
  apply Nat.eq_of_testBit_eq
  intro t
  rw [hto, stepBits_bit]
  simp
theorem step_start (tb : List Nat) (R t : Nat) : (0 : Nat).testBit t = (List.range tb.length).any fun q => (R.testBit q && !R.testBit q) && (tb.getD q 0).testBit t := by
  rw [Nat.zero_testBit, eq_comm, List.any_eq_false]
  intro q _
  cases R.testBit q <;> simp
theorem bit_lt {R n j : Nat} (hR : R < 2 ^ n) (hj : R.testBit j = true) : j < n := by
  rcases Nat.lt_or_ge j n with h | h
  · exact h
  · rw [Nat.testBit_lt_two_pow (Nat.lt_of_lt_of_le hR (Nat.pow_le_pow_right (by decide) h))] at hj; cases hj
/-- distinct numbers below m are no more than m. -/
theorem distinct_le : ∀ {m : Nat} {l : List Nat}, l.Nodup → (∀ x ∈ l, x < m) → l.length ≤ m
  | 0, l, _, h => by
    cases l with
    | nil => simp
    | cons x l => exact absurd (h x (by simp)) (by omega)
  | m + 1, l, hd, h => by
    by_cases hm : m ∈ l
    · have h1 := distinct_le (m := m) (hd.erase m) fun x hx => by
        have h2 := (hd.mem_erase_iff).1 hx
        have := h x h2.2
        omega
      rw [List.length_erase_of_mem hm] at h1
      omega
    · have h1 := distinct_le (m := m) hd fun x hx => by
        have := h x hx
        have : x ≠ m := fun e => hm (e ▸ hx)
        omega
      omega
end Go.Proofs.YtepncbbegpeilaaDoor
