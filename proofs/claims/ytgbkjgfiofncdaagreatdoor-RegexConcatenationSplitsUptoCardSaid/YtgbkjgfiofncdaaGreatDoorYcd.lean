/-
  Texts of the proof, one behind another: Nq.
-/
import Derived.Test.YtgbkjgfiofncdaaGreatDoorYad
set_option linter.unusedSimpArgs false
set_option linter.unusedVariables false
/-
  Plain: the parser goes forward.
-/
namespace Go.Proofs.YtgbkjgfiofncdaaGreatDoor
section
variable {s : List UInt8}
theorem expectS_fwd {c : UInt8} {p q : Nat} {u : Unit} (h : expectS s c p = .ok u q) : q = p + 1 ∧ q ≤ s.length := by
  unfold expectS at h
  split at h
  · cases h
  · rename_i y hy
    have := (List.getElem?_eq_some_iff.1 hy).1
    split at h
    · cases h; exact ⟨rfl, this⟩
    · cases h
theorem hexS_fwd {p n q : Nat} (h : hexS s p = .ok n q) : q = p + 1 := by
  unfold hexS at h
  split at h
  · cases h
  · split at h
    · cases h; rfl
    · cases h
theorem charS_fwd {p n q : Nat} (h : charS s p = .ok n q) : p < q := by
  unfold charS at h
  split at h
  · cases h
  · split at h
    · split at h
      · cases h
      · rename_i he
        have e0 := (expectS_fwd he).1
        split at h
        · cases h
        · rename_i h1 hh1
          have a := hexS_fwd hh1
          split at h
          · cases h
          · rename_i h2 hh2
            have b := hexS_fwd hh2
            cases h; omega
    · split at h
      · cases h; omega
      · cases h
theorem numberS_fwd {p n q : Nat} (h : numberS s p = .ok n q) : p < q := by
  unfold numberS at h
  split at h
  · cases h
  · split at h
    · dsimp only at h
      split at h
      · cases h
      · cases h; omega
    · cases h
theorem boundsS_fwd {p q : Nat} {b : Int × Int} (h : boundsS s p = .ok b q) : p < q := by
  unfold boundsS at h
  split at h
  · cases h
  · rename_i hn
    have e1 := numberS_fwd hn
    split at h
    · cases h
    · rename_i he
      have e2 := (expectS_fwd he).1
      split at h
      · cases h; omega
      · split at h
        · cases h
        · rename_i hm
          have e3 := numberS_fwd hm
          split at h
          · cases h
          · split at h
            · cases h
            · rename_i hf
              have e4 := (expectS_fwd hf).1
              cases h; omega
theorem repeatS_fwd {p q : Nat} {b : Option (Int × Int)} (h : repeatS s p = .ok b q) : (b = none → q = p) ∧ (∀ x, b = some x → p < q) := by
  unfold repeatS at h
  repeat' split at h
  all_goals first
    | (cases h; exact ⟨(fun e => by cases e), fun _ _ => by omega⟩)
    | (rename_i hb; cases h; have := boundsS_fwd hb; exact ⟨(fun e => by cases e), fun _ _ => by omega⟩)
    | (cases h; exact ⟨fun _ => rfl, (fun _ e => by cases e)⟩)
    | cases h
theorem pairS_fwd {p q : Nat} {c : BitVec 256} (h : pairS s p = .ok c q) : p < q := by
  unfold pairS at h
  split at h
  · cases h
  · rename_i a q1 ha
    have a1 := charS_fwd ha
    split at h
    · split at h
      · cases h
      · rename_i b q2 hb
        have b1 := charS_fwd hb
        split at h
        · cases h
        · cases h; omega
    · cases h; omega
theorem classLoop_fwd : ∀ {f : Nat} {c d : BitVec 256} {p q : Nat}, classLoop s f c p = some (.ok d q) → p < q
  | 0, _, _, _, _, h => by cases h
  | f + 1, c, d, p, q, h => by
    rw [classLoop] at h
    split at h
    · simp only [Option.some.injEq, LR.ok.injEq] at h; omega
    · split at h
      · simp at h
      · rename_i e q2 he
        have := pairS_fwd he
        have := classLoop_fwd h
        omega
theorem classS_fwd {f : Nat} {c : BitVec 256} {p q : Nat} (h : classS s f p = some (.ok c q)) : p < q := by
  unfold classS at h
  split at h
  · split at h
    · rename_i d q2 hd
      simp only [Option.some.injEq, LR.ok.injEq] at h
      have := classLoop_fwd hd
      omega
    · rename_i hno
      exact absurd h (hno _ _)
  · exact classLoop_fwd h
theorem putS_fwd {n : Nd} {p l q : Nat} {xs ys : List Nd} (h : putS n p xs = .ok l q ys) : q = p := by
  unfold putS at h
  split at h
  · cases h; rfl
  · cases h
/-- a reader goes forward. -/
def Fwd (g : Nat → List Nd → PR) : Prop := ∀ p xs l q ys, g p xs = .ok l q ys → p < q
theorem groupS_fwd {alt : Nat → List Nd → PR} (ha : Fwd alt) : Fwd (groupS s alt) := by
  intro p xs l q ys h
  unfold groupS at h
  split at h
  · have := putS_fwd h; omega
  · split at h
    · rename_i hx
      have h1 := ha _ _ _ _ _ hx
      split at h
      · cases h
      · rename_i he
        have := (expectS_fwd he).1
        cases h; omega
    · rename_i hno
      exact absurd h (hno _ _ _)
theorem atomS_fwd {alt : Nat → List Nd → PR} {f : Nat} (ha : Fwd alt) : Fwd (atomS s alt f) := by
  intro p xs l q ys h
  unfold atomS at h
  split at h
  · have := putS_fwd h; omega
  · split at h
    · have := putS_fwd h; omega
    · split at h
      · have := groupS_fwd ha _ _ _ _ _ h; omega
      · split at h
        · split at h
          · cases h
          · cases h
          · rename_i hc
            have := classS_fwd hc
            have := putS_fwd h
            omega
        · split at h
          · cases h
          · rename_i hc
            have := charS_fwd hc
            have := putS_fwd h
            omega
theorem repLoop_fwd : ∀ {f l p : Nat} {xs : List Nd} {l2 q : Nat} {ys : List Nd}, repLoop s f l p xs = .ok l2 q ys → p ≤ q
  | 0, _, _, _, _, _, _, h => by cases h
  | f + 1, l, p, xs, l2, q, ys, h => by
    rw [repLoop] at h
    split at h
    · cases h
    · rename_i hr
      have := (repeatS_fwd hr).1 rfl
      cases h; omega
    · rename_i b q1 hr
      have e1 := (repeatS_fwd hr).2 _ rfl
      split at h
      · rename_i hp
        have e2 := putS_fwd hp
        have e3 := repLoop_fwd h
        omega
      · rename_i hno
        exact absurd h (hno _ _ _)
theorem itemS_fwd {alt : Nat → List Nd → PR} {f : Nat} (ha : Fwd alt) : ∀ m, Fwd (itemS s alt f m)
  | 0 => fun _ _ _ _ _ h => by cases h
  | m + 1 => by
    intro p xs l q ys h
    rw [itemS] at h
    split at h
    · split at h
      · rename_i hi
        have := itemS_fwd ha m _ _ _ _ _ hi
        have := putS_fwd h
        omega
      · rename_i hno
        exact absurd h (hno _ _ _)
    · split at h
      · rename_i hi
        have := atomS_fwd ha _ _ _ _ _ hi
        have := repLoop_fwd h
        omega
      · rename_i hno
        exact absurd h (hno _ _ _)
theorem joinS_fwd {kind : Int} {op : Nat → List Nd → PR} {more : Nat → Option Nat} (ho : Fwd op) (hm : ∀ p q, more p = some q → p ≤ q) : ∀ {f l p : Nat} {xs : List Nd} {l2 q : Nat} {ys : List Nd}, joinS kind op more f l p xs = .ok l2 q ys → p ≤ q
  | 0, _, _, _, _, _, _, h => by cases h
  | f + 1, l, p, xs, l2, q, ys, h => by
    rw [joinS] at h
    split at h
    · cases h; omega
    · rename_i q1 hq
      have e1 := hm _ _ hq
      split at h
      · rename_i hx
        have e2 := ho _ _ _ _ _ hx
        split at h
        · rename_i hp
          have e3 := putS_fwd hp
          have e4 := joinS_fwd ho hm h
          omega
        · rename_i hno
          exact absurd h (hno _ _ _)
      · rename_i hno
        exact absurd h (hno _ _ _)
theorem chainS_fwd {kind : Int} {op : Nat → List Nd → PR} {more : Nat → Option Nat} {f : Nat} (ho : Fwd op) (hm : ∀ p q, more p = some q → p ≤ q) : Fwd (chainS kind op more f) := by
  intro p xs l q ys h
  unfold chainS at h
  split at h
  · rename_i hx
    have := ho _ _ _ _ _ hx
    have := joinS_fwd ho hm h
    omega
  · rename_i hno
    exact absurd h (hno _ _ _)
theorem takeS_fwd {c : UInt8} {p q : Nat} (h : takeS s c p = some q) : p ≤ q := by
  unfold takeS at h
  split at h
  · cases h; omega
  · cases h
theorem moreItem_fwd {p q : Nat} (h : moreItem s p = some q) : p ≤ q := by
  unfold moreItem at h
  split at h
  · cases h; omega
  · cases h
theorem catS_fwd {alt : Nat → List Nd → PR} {f : Nat} (ha : Fwd alt) : Fwd (catS s alt f) := chainS_fwd (itemS_fwd ha f) (fun _ _ => moreItem_fwd)
theorem andS_fwd {alt : Nat → List Nd → PR} {f : Nat} (ha : Fwd alt) : Fwd (andS s alt f) := chainS_fwd (catS_fwd ha) (fun _ _ => takeS_fwd)
theorem altS_fwd : ∀ f, Fwd (altS s f)
  | 0 => fun _ _ _ _ _ h => by cases h
  | f + 1 => by
    have h : Fwd (chainS 5 (andS s (altS s f) f) (takeS s 124) f) := chainS_fwd (andS_fwd (altS_fwd f)) (fun _ _ => takeS_fwd)
    intro p xs l q ys hx
    exact h p xs l q ys hx
end
end Go.Proofs.YtgbkjgfiofncdaaGreatDoor
