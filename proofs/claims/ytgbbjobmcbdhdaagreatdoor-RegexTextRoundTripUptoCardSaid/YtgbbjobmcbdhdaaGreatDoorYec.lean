/-
  Texts of the proof, one behind another: Nt.
-/
import Derived.Test.YtgbbjobmcbdhdaaGreatDoorYba
set_option linter.unusedSimpArgs false
set_option linter.unusedVariables false
/-
  Plain: the parser's fuel suffices: it reads or refuses any text. No program is named here.
-/
namespace Go.Proofs.YtgbbjobmcbdhdaaGreatDoor.Nt
section
variable {s : List UInt8}
theorem some_in {p : Nat} {y : UInt8} (h : s[p]? = some y) : p < s.length := (List.getElem?_eq_some_iff.1 h).1
theorem expectS_in {c : UInt8} {p q : Nat} {u : Unit} (h : expectS s c p = .ok u q) : p < s.length ∧ q = p + 1 := by
  have := expectS_fwd h
  omega
theorem charS_in {p n q : Nat} (h : charS s p = .ok n q) : p < s.length := by
  unfold charS at h
  split at h
  · cases h
  · rename_i hy
    exact some_in hy
theorem pairS_in {p q : Nat} {c : BitVec 256} (h : pairS s p = .ok c q) : p < s.length := by
  unfold pairS at h
  split at h
  · cases h
  · rename_i ha
    exact charS_in ha
theorem repeatS_in {p q : Nat} {b : Int × Int} (h : repeatS s p = .ok (some b) q) : p < s.length := by
  unfold repeatS at h
  split at h
  · rename_i hy; exact some_in hy
  · split at h
    · rename_i hy; exact some_in hy
    · split at h
      · rename_i hy; exact some_in hy
      · split at h
        · rename_i hy; exact some_in hy
        · cases h
theorem putS_in {n : Nd} {p l q : Nat} {xs ys : List Nd} (h : putS n p xs = .ok l q ys) : q = p ∧ ys.length = xs.length + 1 := by
  unfold putS at h
  split at h
  · cases h; exact ⟨rfl, by simp⟩
  · cases h
theorem putS_not {n : Nd} {p : Nat} {xs : List Nd} (h : xs.length < 1000000) : putS n p xs ≠ .out := by
  unfold putS
  rw [if_pos h]
  intro e
  cases e
/-! ## Each reader takes bytes, and makes at most two nodes of a byte -/
def Fit (s : List UInt8) (g : Nat → List Nd → PR) : Prop := ∀ p xs l q ys, g p xs = .ok l q ys → p < s.length ∧ p < q ∧ ys.length + 1 + 2 * (s.length - q) ≤ xs.length + 2 * (s.length - p)
theorem groupS_fit {alt : Nat → List Nd → PR} (ha : Fit s alt) : Fit s (groupS s alt) := by
  intro p xs l q ys h
  unfold groupS at h
  split at h
  · rename_i hy
    have h1 := some_in hy
    have h2 := putS_in h
    omega
  · split at h
    · rename_i hx
      have h1 := ha _ _ _ _ _ hx
      split at h
      · cases h
      · rename_i he
        have h2 := expectS_in he
        cases h; omega
    · rename_i hno
      exact absurd h (hno _ _ _)
theorem atomS_fit {alt : Nat → List Nd → PR} {f : Nat} (ha : Fit s alt) : Fit s (atomS s alt f) := by
  intro p xs l q ys h
  unfold atomS at h
  split at h
  · rename_i hy
    have h1 := some_in hy
    have h2 := putS_in h
    omega
  · split at h
    · rename_i hy
      have h1 := some_in hy
      have h2 := putS_in h
      omega
    · split at h
      · rename_i hy
        have h1 := some_in hy
        have h2 := groupS_fit ha _ _ _ _ _ h
        omega
      · split at h
        · rename_i hy
          have h1 := some_in hy
          split at h
          · cases h
          · cases h
          · rename_i hc
            have h2 := classS_fwd hc
            have h3 := putS_in h
            omega
        · split at h
          · cases h
          · rename_i hc
            have h1 := charS_in hc
            have h2 := charS_fwd hc
            have h3 := putS_in h
            omega
theorem repLoop_fit : ∀ {f l p : Nat} {xs : List Nd} {l2 q : Nat} {ys : List Nd}, repLoop s f l p xs = .ok l2 q ys → p ≤ q ∧ ys.length + 2 * (s.length - q) ≤ xs.length + 2 * (s.length - p)
  | 0, _, _, _, _, _, _, h => by cases h
  | f + 1, l, p, xs, l2, q, ys, h => by
    rw [repLoop] at h
    split at h
    · cases h
    · rename_i hr
      have := (repeatS_fwd hr).1 rfl
      cases h; omega
    · rename_i b q1 hr
      have e0 := repeatS_in hr
      have e1 := (repeatS_fwd hr).2 _ rfl
      split at h
      · rename_i hp
        have e2 := putS_in hp
        have e3 := repLoop_fit h
        omega
      · rename_i hno
        exact absurd h (hno _ _ _)
theorem itemS_fit {alt : Nat → List Nd → PR} {f : Nat} (ha : Fit s alt) : ∀ m, Fit s (itemS s alt f m)
  | 0 => fun _ _ _ _ _ h => by cases h
  | m + 1 => by
    intro p xs l q ys h
    rw [itemS] at h
    split at h
    · rename_i hy
      have h0 := some_in hy
      split at h
      · rename_i hi
        have h1 := itemS_fit ha m _ _ _ _ _ hi
        have h2 := putS_in h
        omega
      · rename_i hno
        exact absurd h (hno _ _ _)
    · split at h
      · rename_i hi
        have h1 := atomS_fit ha _ _ _ _ _ hi
        have h2 := repLoop_fit h
        omega
      · rename_i hno
        exact absurd h (hno _ _ _)
theorem joinS_fit {kind : Int} {op : Nat → List Nd → PR} {more : Nat → Option Nat} (ho : Fit s op) (hm : ∀ p q, more p = some q → p ≤ q) : ∀ {f l p : Nat} {xs : List Nd} {l2 q : Nat} {ys : List Nd}, joinS kind op more f l p xs = .ok l2 q ys → p ≤ q ∧ ys.length + 2 * (s.length - q) ≤ xs.length + 2 * (s.length - p)
  | 0, _, _, _, _, _, _, h => by cases h
  | f + 1, l, p, xs, l2, q, ys, h => by
    rw [joinS] at h
    split at h
    · cases h; omega
    · rename_i q1 hq
      have e1 := hm _ _ hq
      split at h
      · rename_i hx
        have e2 := ho _ _ _ _ _ hx
        split at h
        · rename_i hp
          have e3 := putS_in hp
          have e4 := joinS_fit ho hm h
          omega
        · rename_i hno
          exact absurd h (hno _ _ _)
      · rename_i hno
        exact absurd h (hno _ _ _)
theorem chainS_fit {kind : Int} {op : Nat → List Nd → PR} {more : Nat → Option Nat} {f : Nat} (ho : Fit s op) (hm : ∀ p q, more p = some q → p ≤ q) : Fit s (chainS kind op more f) := by
  intro p xs l q ys h
  unfold chainS at h
  split at h
  · rename_i hx
    have h1 := ho _ _ _ _ _ hx
    have h2 := joinS_fit ho hm h
    omega
  · rename_i hno
    exact absurd h (hno _ _ _)
theorem catS_fit {alt : Nat → List Nd → PR} (ha : Fit s alt) (f : Nat) : Fit s (catS s alt f) := chainS_fit (itemS_fit ha f) (fun _ _ => moreItem_fwd)
theorem andS_fit {alt : Nat → List Nd → PR} (ha : Fit s alt) (f : Nat) : Fit s (andS s alt f) := chainS_fit (catS_fit ha f) (fun _ _ => takeS_fwd)
theorem altS_fit : ∀ f, Fit s (altS s f)
  | 0 => fun _ _ _ _ _ h => by cases h
  | f + 1 => by
    have h : Fit s (chainS 5 (andS s (altS s f) f) (takeS s 124) f) := chainS_fit (andS_fit (altS_fit f) f) (fun _ _ => takeS_fwd)
    intro p xs l q ys hx
    exact h p xs l q ys hx
/-! ## The fuel suffices -/
def Enough (s : List UInt8) (n : Nat) (g : Nat → List Nd → PR) : Prop := ∀ p xs, s.length - p < n → xs.length + 2 * (s.length - p) < 1000000 → g p xs ≠ .out
theorem classLoop_some : ∀ (f : Nat) (c : BitVec 256) (p : Nat), s.length - p < f → classLoop s f c p ≠ none
  | 0, _, _, h => by omega
  | f + 1, c, p, h => by
    rw [classLoop]
    split
    · intro e; cases e
    · split
      · intro e; cases e
      · rename_i hd
        have h1 := pairS_in hd
        have h2 := pairS_fwd hd
        exact classLoop_some f _ _ (by omega)
theorem classS_some {f p : Nat} (h : s.length - p < f) : classS s f p ≠ none := by
  unfold classS
  split
  · have h1 := classLoop_some (s := s) f 0 (p + 1) (by omega)
    split
    · intro e; cases e
    · exact h1
  · exact classLoop_some f 0 p h
theorem groupS_some {alt : Nat → List Nd → PR} {n : Nat} (ha : Enough s n alt) : Enough s n (groupS s alt) := by
  intro p xs hn hb
  unfold groupS
  split
  · exact putS_not (by omega)
  · split
    · split
      · intro e; cases e
      · intro e; cases e
    · exact ha p xs hn hb
theorem atomS_some {alt : Nat → List Nd → PR} {n : Nat} (ha : Enough s n alt) : Enough s (n + 1) (atomS s alt (n + 1)) := by
  intro p xs hn hb
  unfold atomS
  split
  · exact putS_not (by omega)
  · split
    · exact putS_not (by omega)
    · split
      · rename_i hy
        have h1 := some_in hy
        exact groupS_some ha (p + 1) xs (by omega) (by omega)
      · split
        · rename_i hy
          have h1 := some_in hy
          split
          · rename_i hc
            exact absurd hc (classS_some (by omega))
          · intro e; cases e
          · exact putS_not (by omega)
        · split
          · intro e; cases e
          · exact putS_not (by omega)
theorem repLoop_some : ∀ (f l p : Nat) (xs : List Nd), s.length - p < f → xs.length + 2 * (s.length - p) < 1000000 → repLoop s f l p xs ≠ .out
  | 0, _, _, _, h, _ => by omega
  | f + 1, l, p, xs, h, hb => by
    rw [repLoop]
    split
    · intro e; cases e
    · intro e; cases e
    · rename_i b q1 hr
      have e0 := repeatS_in hr
      have e1 := (repeatS_fwd hr).2 _ rfl
      split
      · rename_i hp
        have e2 := putS_in hp
        exact repLoop_some f _ _ _ (by omega) (by omega)
      · exact putS_not (by omega)
theorem itemS_some {alt : Nat → List Nd → PR} {n : Nat} (hf : Fit s alt) (ha : Enough s n alt) : ∀ m, m ≤ n + 1 → Enough s m (itemS s alt (n + 1) m)
  | 0, _ => fun p xs h _ => by omega
  | m + 1, hm => by
    intro p xs hn hb
    rw [itemS]
    split
    · rename_i hy
      have h0 := some_in hy
      split
      · rename_i hi
        have h1 := itemS_fit hf m _ _ _ _ _ hi
        exact putS_not (by omega)
      · exact itemS_some hf ha m (by omega) (p + 1) xs (by omega) (by omega)
    · split
      · rename_i hi
        have h1 := atomS_fit hf _ _ _ _ _ hi
        exact repLoop_some _ _ _ _ (by omega) (by omega)
      · exact atomS_some ha p xs (by omega) hb
theorem joinS_some {kind : Int} {op : Nat → List Nd → PR} {more : Nat → Option Nat} {n : Nat} (hf : Fit s op) (ho : Enough s n op) (hm : ∀ p q, more p = some q → p ≤ q) : ∀ (f l p : Nat) (xs : List Nd), s.length - p < f → f ≤ n → xs.length + 2 * (s.length - p) < 1000000 → joinS kind op more f l p xs ≠ .out
  | 0, _, _, _, h, _, _ => by omega
  | f + 1, l, p, xs, h, hn, hb => by
    rw [joinS]
    split
    · intro e; cases e
    · rename_i q1 hq
      have e1 := hm _ _ hq
      split
      · rename_i hx
        have e2 := hf _ _ _ _ _ hx
        split
        · rename_i hp
          have e3 := putS_in hp
          exact joinS_some hf ho hm f _ _ _ (by omega) (by omega) (by omega)
        · exact putS_not (by omega)
      · exact ho _ _ (by omega) (by omega)
theorem chainS_some {kind : Int} {op : Nat → List Nd → PR} {more : Nat → Option Nat} {n : Nat} (hf : Fit s op) (ho : Enough s n op) (hm : ∀ p q, more p = some q → p ≤ q) : Enough s n (chainS kind op more n) := by
  intro p xs hn hb
  unfold chainS
  split
  · rename_i hx
    have h1 := hf _ _ _ _ _ hx
    exact joinS_some hf ho hm n _ _ _ (by omega) (Nat.le_refl _) (by omega)
  · exact ho p xs hn hb
theorem altS_some : ∀ f, Enough s f (altS s (f + 1))
  | 0 => fun p xs h _ => by omega
  | f + 1 => by
    have hf := altS_fit (s := s) (f + 1)
    have hc : Enough s (f + 1) (catS s (altS s (f + 1)) (f + 1)) := chainS_some (itemS_fit hf (f + 1)) (itemS_some hf (altS_some f) (f + 1) (Nat.le_refl _)) (fun _ _ => moreItem_fwd)
    have hd : Enough s (f + 1) (andS s (altS s (f + 1)) (f + 1)) := chainS_some (catS_fit hf _) hc (fun _ _ => takeS_fwd)
    have h : Enough s (f + 1) (chainS 5 (andS s (altS s (f + 1)) (f + 1)) (takeS s 124) (f + 1)) := chainS_some (andS_fit hf _) hd (fun _ _ => takeS_fwd)
    intro p xs hn hb
    exact h p xs hn hb
/-! ## A refusal is an error -/
theorem expectS_bad {c : UInt8} {p q : Nat} {er : Int} (h : expectS s c p = .bad q er) : er ≠ 0 := by
  unfold expectS at h
  split at h
  · cases h; decide
  · split at h
    · cases h
    · cases h; decide
theorem hexS_bad {p q : Nat} {er : Int} (h : hexS s p = .bad q er) : er ≠ 0 := by
  unfold hexS at h
  split at h
  · cases h; decide
  · split at h
    · cases h
    · cases h; decide
theorem charS_bad {p q : Nat} {er : Int} (h : charS s p = .bad q er) : er ≠ 0 := by
  unfold charS at h
  split at h
  · cases h; decide
  · split at h
    · split at h
      · rename_i he; cases h; exact expectS_bad he
      · split at h
        · rename_i he; cases h; exact hexS_bad he
        · split at h
          · rename_i he; cases h; exact hexS_bad he
          · cases h
    · split at h
      · cases h
      · cases h; decide
theorem numberS_bad {p q : Nat} {er : Int} (h : numberS s p = .bad q er) : er ≠ 0 := by
  unfold numberS at h
  split at h
  · cases h; decide
  · split at h
    · dsimp only at h
      split at h
      · cases h; decide
      · cases h
    · cases h; decide
theorem boundsS_bad {p q : Nat} {er : Int} (h : boundsS s p = .bad q er) : er ≠ 0 := by
  unfold boundsS at h
  split at h
  · rename_i hn; cases h; exact numberS_bad hn
  · split at h
    · rename_i he; cases h; exact expectS_bad he
    · split at h
      · cases h
      · split at h
        · rename_i hm; cases h; exact numberS_bad hm
        · split at h
          · cases h; decide
          · split at h
            · rename_i hf; cases h; exact expectS_bad hf
            · cases h
theorem repeatS_bad {p q : Nat} {er : Int} (h : repeatS s p = .bad q er) : er ≠ 0 := by
  unfold repeatS at h
  split at h
  · cases h
  · split at h
    · cases h
    · split at h
      · cases h
      · split at h
        · split at h
          · rename_i hb; cases h; exact boundsS_bad hb
          · cases h
        · cases h
theorem pairS_bad {p q : Nat} {er : Int} (h : pairS s p = .bad q er) : er ≠ 0 := by
  unfold pairS at h
  split at h
  · rename_i ha; cases h; exact charS_bad ha
  · split at h
    · split at h
      · rename_i hb; cases h; exact charS_bad hb
      · split at h
        · cases h; decide
        · cases h
    · cases h
theorem classLoop_bad : ∀ {f : Nat} {c : BitVec 256} {p q : Nat} {er : Int}, classLoop s f c p = some (.bad q er) → er ≠ 0
  | 0, _, _, _, _, h => by cases h
  | f + 1, c, p, q, er, h => by
    rw [classLoop] at h
    split at h
    · cases h
    · split at h
      · rename_i hd; cases h; exact pairS_bad hd
      · exact classLoop_bad h
theorem classS_bad {f p q : Nat} {er : Int} (h : classS s f p = some (.bad q er)) : er ≠ 0 := by
  unfold classS at h
  split at h
  · split at h
    · cases h
    · exact classLoop_bad h
  · exact classLoop_bad h
theorem putS_bad {n : Nd} {p q : Nat} {er : Int} {xs : List Nd} (h : putS n p xs = .bad q er) : er ≠ 0 := by
  unfold putS at h
  split at h <;> cases h
def Errs (g : Nat → List Nd → PR) : Prop := ∀ p xs q er, g p xs = .bad q er → er ≠ 0
theorem groupS_bad {alt : Nat → List Nd → PR} (ha : Errs alt) : Errs (groupS s alt) := by
  intro p xs q er h
  unfold groupS at h
  split at h
  · exact putS_bad h
  · split at h
    · split at h
      · rename_i he; cases h; exact expectS_bad he
      · cases h
    · exact ha _ _ _ _ h
theorem atomS_bad {alt : Nat → List Nd → PR} {f : Nat} (ha : Errs alt) : Errs (atomS s alt f) := by
  intro p xs q er h
  unfold atomS at h
  split at h
  · exact putS_bad h
  · split at h
    · exact putS_bad h
    · split at h
      · exact groupS_bad ha _ _ _ _ h
      · split at h
        · split at h
          · cases h
          · rename_i hc; cases h; exact classS_bad hc
          · exact putS_bad h
        · split at h
          · rename_i hc; cases h; exact charS_bad hc
          · exact putS_bad h
theorem repLoop_bad : ∀ {f l p q : Nat} {xs : List Nd} {er : Int}, repLoop s f l p xs = .bad q er → er ≠ 0
  | 0, _, _, _, _, _, h => by cases h
  | f + 1, l, p, q, xs, er, h => by
    rw [repLoop] at h
    split at h
    · rename_i hr; cases h; exact repeatS_bad hr
    · cases h
    · split at h
      · exact repLoop_bad h
      · exact putS_bad h
theorem itemS_bad {alt : Nat → List Nd → PR} {f : Nat} (ha : Errs alt) : ∀ m, Errs (itemS s alt f m)
  | 0 => fun _ _ _ _ h => by cases h
  | m + 1 => by
    intro p xs q er h
    rw [itemS] at h
    split at h
    · split at h
      · exact putS_bad h
      · exact itemS_bad ha m _ _ _ _ h
    · split at h
      · exact repLoop_bad h
      · exact atomS_bad ha _ _ _ _ h
theorem joinS_bad {kind : Int} {op : Nat → List Nd → PR} {more : Nat → Option Nat} (ho : Errs op) : ∀ {f l p q : Nat} {xs : List Nd} {er : Int}, joinS kind op more f l p xs = .bad q er → er ≠ 0
  | 0, _, _, _, _, _, h => by cases h
  | f + 1, l, p, q, xs, er, h => by
    rw [joinS] at h
    split at h
    · cases h
    · split at h
      · split at h
        · exact joinS_bad ho h
        · exact putS_bad h
      · exact ho _ _ _ _ h
theorem chainS_bad {kind : Int} {op : Nat → List Nd → PR} {more : Nat → Option Nat} {f : Nat} (ho : Errs op) : Errs (chainS kind op more f) := by
  intro p xs q er h
  unfold chainS at h
  split at h
  · exact joinS_bad ho h
  · exact ho _ _ _ _ h
theorem altS_bad : ∀ f, Errs (altS s f)
  | 0 => fun _ _ _ _ h => by cases h
  | f + 1 => by
    have h : Errs (chainS 5 (andS s (altS s f) f) (takeS s 124) f) := chainS_bad (chainS_bad (chainS_bad (itemS_bad (altS_bad f) f)))
    intro p xs q er hx
    exact h p xs q er hx
end
theorem parse_bad {s : List UInt8} {f q : Nat} {er : Int} (h : parseS s f = some (.error (q, er))) : er ≠ 0 := by
  unfold parseS at h
  split at h
  · cases h; decide
  · split at h
    · cases h
    · rename_i hx
      cases h
      exact altS_bad _ _ _ _ _ hx
    · split at h
      · cases h; decide
      · split at h
        · cases h; decide
        · cases h
/-- any text is read or refused. -/
theorem parse_total (s : List UInt8) : ∃ r, parseS s (s.length + 2) = some r := by
  unfold parseS
  split
  · exact ⟨_, rfl⟩
  · have h := altS_some (s := s) (s.length + 1) 0 [] (by omega) (by simp; omega)
    split
    · rename_i he
      exact absurd he h
    · exact ⟨_, rfl⟩
    · split
      · exact ⟨_, rfl⟩
      · split
        · exact ⟨_, rfl⟩
        · exact ⟨_, rfl⟩
end Go.Proofs.YtgbbjobmcbdhdaaGreatDoor.Nt
