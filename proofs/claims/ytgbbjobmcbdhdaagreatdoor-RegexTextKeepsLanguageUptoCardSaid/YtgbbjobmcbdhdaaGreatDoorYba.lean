/-
  Texts of the proof, one behind another: Nq, Fa, Fb, Fc, Ff.
-/
import Derived.Test.YtgbbjobmcbdhdaaGreatDoorYad
set_option linter.unusedSimpArgs false
set_option linter.unusedVariables false
/-
  Plain: the parser goes forward.
-/
namespace Go.Proofs.YtgbbjobmcbdhdaaGreatDoor
section
variable {s : List UInt8}
theorem expectS_fwd {c : UInt8} {p q : Nat} {u : Unit} (h : expectS s c p = .ok u q) : q = p + 1 ∧ q ≤ s.length := by
  unfold expectS at h
  split at h
  · cases h
  · rename_i y hy
    have := (List.getElem?_eq_some_iff.1 hy).1
    split at h
    · cases h; exact ⟨rfl, this⟩
    · cases h
theorem hexS_fwd {p n q : Nat} (h : hexS s p = .ok n q) : q = p + 1 := by
  unfold hexS at h
  split at h
  · cases h
  · split at h
    · cases h; rfl
    · cases h
theorem charS_fwd {p n q : Nat} (h : charS s p = .ok n q) : p < q := by
  unfold charS at h
  split at h
  · cases h
  · split at h
    · split at h
      · cases h
      · rename_i he
        have e0 := (expectS_fwd he).1
        split at h
        · cases h
        · rename_i h1 hh1
          have a := hexS_fwd hh1
          split at h
          · cases h
          · rename_i h2 hh2
            have b := hexS_fwd hh2
            cases h; omega
    · split at h
      · cases h; omega
      · cases h
theorem numberS_fwd {p n q : Nat} (h : numberS s p = .ok n q) : p < q := by
  unfold numberS at h
  split at h
  · cases h
  · split at h
    · dsimp only at h
      split at h
      · cases h
      · cases h; omega
    · cases h
theorem boundsS_fwd {p q : Nat} {b : Int × Int} (h : boundsS s p = .ok b q) : p < q := by
  unfold boundsS at h
  split at h
  · cases h
  · rename_i hn
    have e1 := numberS_fwd hn
    split at h
    · cases h
    · rename_i he
      have e2 := (expectS_fwd he).1
      split at h
      · cases h; omega
      · split at h
        · cases h
        · rename_i hm
          have e3 := numberS_fwd hm
          split at h
          · cases h
          · split at h
            · cases h
            · rename_i hf
              have e4 := (expectS_fwd hf).1
              cases h; omega
theorem repeatS_fwd {p q : Nat} {b : Option (Int × Int)} (h : repeatS s p = .ok b q) : (b = none → q = p) ∧ (∀ x, b = some x → p < q) := by
  unfold repeatS at h
  repeat' split at h
  all_goals first
    | (cases h; exact ⟨(fun e => by cases e), fun _ _ => by omega⟩)
    | (rename_i hb; cases h; have := boundsS_fwd hb; exact ⟨(fun e => by cases e), fun _ _ => by omega⟩)
    | (cases h; exact ⟨fun _ => rfl, (fun _ e => by cases e)⟩)
    | cases h
theorem pairS_fwd {p q : Nat} {c : BitVec 256} (h : pairS s p = .ok c q) : p < q := by
  unfold pairS at h
  split at h
  · cases h
  · rename_i a q1 ha
    have a1 := charS_fwd ha
    split at h
    · split at h
      · cases h
      · rename_i b q2 hb
        have b1 := charS_fwd hb
        split at h
        · cases h
        · cases h; omega
    · cases h; omega
theorem classLoop_fwd : ∀ {f : Nat} {c d : BitVec 256} {p q : Nat}, classLoop s f c p = some (.ok d q) → p < q
  | 0, _, _, _, _, h => by cases h
  | f + 1, c, d, p, q, h => by
    rw [classLoop] at h
    split at h
    · simp only [Option.some.injEq, LR.ok.injEq] at h; omega
    · split at h
      · simp at h
      · rename_i e q2 he
        have := pairS_fwd he
        have := classLoop_fwd h
        omega
theorem classS_fwd {f : Nat} {c : BitVec 256} {p q : Nat} (h : classS s f p = some (.ok c q)) : p < q := by
  unfold classS at h
  split at h
  · split at h
    · rename_i d q2 hd
      simp only [Option.some.injEq, LR.ok.injEq] at h
      have := classLoop_fwd hd
      omega
    · rename_i hno
      exact absurd h (hno _ _)
  · exact classLoop_fwd h
theorem putS_fwd {n : Nd} {p l q : Nat} {xs ys : List Nd} (h : putS n p xs = .ok l q ys) : q = p := by
  unfold putS at h
  split at h
  · cases h; rfl
  · cases h
/-- a reader goes forward. -/
def Fwd (g : Nat → List Nd → PR) : Prop := ∀ p xs l q ys, g p xs = .ok l q ys → p < q
theorem groupS_fwd {alt : Nat → List Nd → PR} (ha : Fwd alt) : Fwd (groupS s alt) := by
  intro p xs l q ys h
  unfold groupS at h
  split at h
  · have := putS_fwd h; omega
  · split at h
    · rename_i hx
      have h1 := ha _ _ _ _ _ hx
      split at h
      · cases h
      · rename_i he
        have := (expectS_fwd he).1
        cases h; omega
    · rename_i hno
      exact absurd h (hno _ _ _)
theorem atomS_fwd {alt : Nat → List Nd → PR} {f : Nat} (ha : Fwd alt) : Fwd (atomS s alt f) := by
  intro p xs l q ys h
  unfold atomS at h
  split at h
  · have := putS_fwd h; omega
  · split at h
    · have := putS_fwd h; omega
    · split at h
      · have := groupS_fwd ha _ _ _ _ _ h; omega
      · split at h
        · split at h
          · cases h
          · cases h
          · rename_i hc
            have := classS_fwd hc
            have := putS_fwd h
            omega
        · split at h
          · cases h
          · rename_i hc
            have := charS_fwd hc
            have := putS_fwd h
            omega
theorem repLoop_fwd : ∀ {f l p : Nat} {xs : List Nd} {l2 q : Nat} {ys : List Nd}, repLoop s f l p xs = .ok l2 q ys → p ≤ q
  | 0, _, _, _, _, _, _, h => by cases h
  | f + 1, l, p, xs, l2, q, ys, h => by
    rw [repLoop] at h
    split at h
    · cases h
    · rename_i hr
      have := (repeatS_fwd hr).1 rfl
      cases h; omega
    · rename_i b q1 hr
      have e1 := (repeatS_fwd hr).2 _ rfl
      split at h
      · rename_i hp
        have e2 := putS_fwd hp
        have e3 := repLoop_fwd h
        omega
      · rename_i hno
        exact absurd h (hno _ _ _)
theorem itemS_fwd {alt : Nat → List Nd → PR} {f : Nat} (ha : Fwd alt) : ∀ m, Fwd (itemS s alt f m)
  | 0 => fun _ _ _ _ _ h => by cases h
  | m + 1 => by
    intro p xs l q ys h
    rw [itemS] at h
    split at h
    · split at h
      · rename_i hi
        have := itemS_fwd ha m _ _ _ _ _ hi
        have := putS_fwd h
        omega
      · rename_i hno
        exact absurd h (hno _ _ _)
    · split at h
      · rename_i hi
        have := atomS_fwd ha _ _ _ _ _ hi
        have := repLoop_fwd h
        omega
      · rename_i hno
        exact absurd h (hno _ _ _)
theorem joinS_fwd {kind : Int} {op : Nat → List Nd → PR} {more : Nat → Option Nat} (ho : Fwd op) (hm : ∀ p q, more p = some q → p ≤ q) : ∀ {f l p : Nat} {xs : List Nd} {l2 q : Nat} {ys : List Nd}, joinS kind op more f l p xs = .ok l2 q ys → p ≤ q
  | 0, _, _, _, _, _, _, h => by cases h
  | f + 1, l, p, xs, l2, q, ys, h => by
    rw [joinS] at h
    split at h
    · cases h; omega
    · rename_i q1 hq
      have e1 := hm _ _ hq
      split at h
      · rename_i hx
        have e2 := ho _ _ _ _ _ hx
        split at h
        · rename_i hp
          have e3 := putS_fwd hp
          have e4 := joinS_fwd ho hm h
          omega
        · rename_i hno
          exact absurd h (hno _ _ _)
      · rename_i hno
        exact absurd h (hno _ _ _)
theorem chainS_fwd {kind : Int} {op : Nat → List Nd → PR} {more : Nat → Option Nat} {f : Nat} (ho : Fwd op) (hm : ∀ p q, more p = some q → p ≤ q) : Fwd (chainS kind op more f) := by
  intro p xs l q ys h
  unfold chainS at h
  split at h
  · rename_i hx
    have := ho _ _ _ _ _ hx
    have := joinS_fwd ho hm h
    omega
  · rename_i hno
    exact absurd h (hno _ _ _)
theorem takeS_fwd {c : UInt8} {p q : Nat} (h : takeS s c p = some q) : p ≤ q := by
  unfold takeS at h
  split at h
  · cases h; omega
  · cases h
theorem moreItem_fwd {p q : Nat} (h : moreItem s p = some q) : p ≤ q := by
  unfold moreItem at h
  split at h
  · cases h; omega
  · cases h
theorem catS_fwd {alt : Nat → List Nd → PR} {f : Nat} (ha : Fwd alt) : Fwd (catS s alt f) := chainS_fwd (itemS_fwd ha f) (fun _ _ => moreItem_fwd)
theorem andS_fwd {alt : Nat → List Nd → PR} {f : Nat} (ha : Fwd alt) : Fwd (andS s alt f) := chainS_fwd (catS_fwd ha) (fun _ _ => takeS_fwd)
theorem altS_fwd : ∀ f, Fwd (altS s f)
  | 0 => fun _ _ _ _ _ h => by cases h
  | f + 1 => by
    have h : Fwd (chainS 5 (andS s (altS s f) f) (takeS s 124) f) := chainS_fwd (andS_fwd (altS_fwd f)) (fun _ _ => takeS_fwd)
    intro p xs l q ys hx
    exact h p xs l q ys hx
end
end Go.Proofs.YtgbbjobmcbdhdaaGreatDoor

/-
  Plain: the text of an expression's tree; the parser gives the tree back, in postorder. No program is named here.
-/
namespace Go.Proofs.YtgbbjobmcbdhdaaGreatDoor

/-! ## Trees as lists of nodes -/
def Rx.size : Rx → Nat
  | .none => 1
  | .empty => 1
  | .cls _ => 1
  | .cat l r => l.size + r.size + 1
  | .alt l r => l.size + r.size + 1
  | .and l r => l.size + r.size + 1
  | .not l => l.size + 1
  | .rep l _ _ => l.size + 1
theorem size_pos : ∀ (t : Rx), 1 ≤ t.size
  | .none => Nat.le_refl _
  | .empty => Nat.le_refl _
  | .cls _ => Nat.le_refl _
  | .cat _ _ => by simp [Rx.size]
  | .alt _ _ => by simp [Rx.size]
  | .and _ _ => by simp [Rx.size]
  | .not _ => by simp [Rx.size]
  | .rep _ _ _ => by simp [Rx.size]
def hiI : Option Nat → Int
  | none => -1
  | some h => (h : Int)
/-- the nodes of a tree in postorder, behind o others. -/
def flat : Rx → Nat → List Nd
  | .none, _ => [⟨1, 0, 0, 0, 0, 0⟩]
  | .empty, _ => [⟨2, 0, 0, 0, 0, 0⟩]
  | .cls c, _ => [⟨3, c, 0, 0, 0, 0⟩]
  | .cat l r, o => flat l o ++ (flat r (o + l.size) ++ [⟨4, 0, ((o + l.size - 1 : Nat) : Int), ((o + l.size + r.size - 1 : Nat) : Int), 0, 0⟩])
  | .alt l r, o => flat l o ++ (flat r (o + l.size) ++ [⟨5, 0, ((o + l.size - 1 : Nat) : Int), ((o + l.size + r.size - 1 : Nat) : Int), 0, 0⟩])
  | .and l r, o => flat l o ++ (flat r (o + l.size) ++ [⟨6, 0, ((o + l.size - 1 : Nat) : Int), ((o + l.size + r.size - 1 : Nat) : Int), 0, 0⟩])
  | .not l, o => flat l o ++ [⟨7, 0, ((o + l.size - 1 : Nat) : Int), 0, 0, 0⟩]
  | .rep l lo hi, o => flat l o ++ [⟨8, 0, ((o + l.size - 1 : Nat) : Int), 0, (lo : Int), hiI hi⟩]
theorem flatT_len : ∀ (t : Rx) (o : Nat), (flat t o).length = t.size
  | .none, _ => rfl
  | .empty, _ => rfl
  | .cls _, _ => rfl
  | .cat l r, o => by simp [flat, Rx.size, flatT_len l, flatT_len r]; omega
  | .alt l r, o => by simp [flat, Rx.size, flatT_len l, flatT_len r]; omega
  | .and l r, o => by simp [flat, Rx.size, flatT_len l, flatT_len r]; omega
  | .not l, o => by simp [flat, Rx.size, flatT_len l]
  | .rep l _ _, o => by simp [flat, Rx.size, flatT_len l]
/-- the bounds of the repetitions are as validity asks. -/
def OkT : Rx → Prop
  | .none => True
  | .empty => True
  | .cls _ => True
  | .cat l r => OkT l ∧ OkT r
  | .alt l r => OkT l ∧ OkT r
  | .and l r => OkT l ∧ OkT r
  | .not l => OkT l
  | .rep l lo hi => OkT l ∧ lo ≤ 16 ∧ ∀ h, hi = some h → lo ≤ h ∧ h ≤ 16

/-! ## The text -/
def Rx.isCat : Rx → Bool
  | .cat _ _ => true
  | _ => false
def Rx.isAlt : Rx → Bool
  | .alt _ _ => true
  | _ => false
def Rx.isAnd : Rx → Bool
  | .and _ _ => true
  | _ => false
def Rx.isNot : Rx → Bool
  | .not _ => true
  | _ => false
def hexD (v : Nat) : UInt8 := if v < 10 then UInt8.ofNat (48 + v) else UInt8.ofNat (87 + v)
def charT (y : Nat) : List UInt8 := if plainB (UInt8.ofNat y) then [UInt8.ofNat y] else [92, 120, hexD (y / 16), hexD (y % 16)]
/-- the runs of consecutive numbers of an increasing list. -/
def runs : List Nat → List (Nat × Nat)
  | [] => []
  | x :: l => match runs l with
    | [] => [(x, x)]
    | r :: rs => if r.1 = x + 1 then (x, r.2) :: rs else (x, x) :: r :: rs
def runT (r : Nat × Nat) : List UInt8 := if r.2 = r.1 then charT r.1 else if r.2 = r.1 + 1 then charT r.1 ++ charT r.2 else charT r.1 ++ 45 :: charT r.2
def memN (c : BitVec 256) : List Nat := (List.range 256).filter (mem c)
def clsT (c : BitVec 256) : List UInt8 :=
  if (memN c).length = 256 then [46] else if (memN c).length = 1 then charT ((memN c).headD 0) else 91 :: ((runs (memN c)).flatMap runT ++ [93])
def numT (n : Nat) : List UInt8 := if n < 10 then [UInt8.ofNat (48 + n)] else [49, UInt8.ofNat (38 + n)]
def repT (lo : Nat) : Option Nat → List UInt8
  | none => if lo = 0 then [42] else if lo = 1 then [43] else 123 :: (numT lo ++ [44, 125])
  | some h => if lo = 0 ∧ h = 1 then [63] else 123 :: (numT lo ++ 44 :: (numT h ++ [125]))
def parB (b : Bool) (s : List UInt8) : List UInt8 := if b then 40 :: (s ++ [41]) else s
def fmtT : Rx → List UInt8
  | .none => [33]
  | .empty => [40, 41]
  | .cls c => clsT c
  | .cat l r => parB (l.isAlt || l.isAnd) (fmtT l) ++ parB (r.isCat || r.isAlt || r.isAnd) (fmtT r)
  | .alt l r => fmtT l ++ 124 :: parB r.isAlt (fmtT r)
  | .and l r => parB l.isAlt (fmtT l) ++ 38 :: parB (r.isAlt || r.isAnd) (fmtT r)
  | .not l => 126 :: parB (l.isCat || l.isAlt || l.isAnd) (fmtT l)
  | .rep l lo hi => parB (l.isCat || l.isAlt || l.isAnd || l.isNot) (fmtT l) ++ repT lo hi

/-! ## Chars, classes, numbers, repetitions are read back -/
theorem dropT_cons {s : List UInt8} {p : Nat} {a : UInt8} {l : List UInt8} (h : s.drop p = a :: l) : s[p]? = some a ∧ s.drop (p + 1) = l := by
  have h0 : s[p]? = some a := by rw [← List.head?_drop, h]; rfl
  refine ⟨h0, ?_⟩
  have : s.drop (p + 1) = (s.drop p).drop 1 := by rw [List.drop_drop]
  rw [this, h]; rfl
theorem drop_app {s : List UInt8} {p : Nat} {t l : List UInt8} (h : s.drop p = t ++ l) : s.drop (p + t.length) = l := by
  rw [← List.drop_drop, h, List.drop_left]
theorem drop_head {s : List UInt8} {p : Nat} : s[p]? = (s.drop p).head? := by rw [List.head?_drop]
theorem hexV_D : ∀ v, v < 16 → hexV (hexD v) = some v := by decide
theorem plain_facts : ∀ y : Fin 256, plainB (UInt8.ofNat y.1) = true → UInt8.ofNat y.1 ≠ 92 ∧ UInt8.ofNat y.1 ≠ 45 ∧ UInt8.ofNat y.1 ≠ 93 ∧ UInt8.ofNat y.1 ≠ 94 ∧ UInt8.ofNat y.1 ≠ 46 ∧ UInt8.ofNat y.1 ≠ 33 ∧ UInt8.ofNat y.1 ≠ 40 ∧ UInt8.ofNat y.1 ≠ 91 ∧ UInt8.ofNat y.1 ≠ 126 := by decide +kernel
theorem ofNat_toNat {y : Nat} (h : y < 256) : (UInt8.ofNat y).toNat = y := by simp; omega
theorem charT_len (y : Nat) : 1 ≤ (charT y).length ∧ (charT y).length ≤ 4 := by unfold charT; split <;> simp
theorem charS_T {s : List UInt8} {p y : Nat} {rest : List UInt8} (hy : y < 256) (h : s.drop p = charT y ++ rest) : charS s p = .ok y (p + (charT y).length) := by
  unfold charT at h ⊢
  split at h
  · rename_i hp
    rw [if_pos hp]
    obtain ⟨h0, _⟩ := dropT_cons h
    have hf := plain_facts ⟨y, hy⟩ hp
    simp [charS, h0, hf.1, hp, ofNat_toNat hy]
  · rename_i hp
    rw [if_neg hp]
    obtain ⟨h0, h1⟩ := dropT_cons h
    obtain ⟨h1, h2⟩ := dropT_cons h1
    obtain ⟨h2, h3⟩ := dropT_cons h2
    obtain ⟨h3, _⟩ := dropT_cons h3
    have a := hexV_D (y / 16) (by omega)
    have b := hexV_D (y % 16) (by omega)
    have e : 16 * (y / 16) + y % 16 = y := by omega
    simp [charS, h0, h1, h2, h3, expectS, hexS, a, b, e]
/-- what a char begins with is neither '-' nor ']' nor '^'. -/
theorem charT_head {y : Nat} (hy : y < 256) (l : List UInt8) : ∃ a m, charT y ++ l = a :: m ∧ a ≠ 45 ∧ a ≠ 93 ∧ a ≠ 94 := by
  unfold charT
  split
  · rename_i hp
    have hf := plain_facts ⟨y, hy⟩ hp
    exact ⟨_, _, rfl, hf.2.1, hf.2.2.1, hf.2.2.2.1⟩
  · exact ⟨_, _, rfl, by decide, by decide, by decide⟩
theorem pair_one {s : List UInt8} {p y : Nat} {rest : List UInt8} (hy : y < 256) (h : s.drop p = charT y ++ rest) (hr : rest.head? ≠ some 45) : pairS s p = .ok (ofQ [(y : Int)]) (p + (charT y).length) := by
  have h2 := drop_app h
  have h3 : s[p + (charT y).length]? ≠ some 45 := by rw [drop_head, h2]; exact hr
  simp [pairS, charS_T hy h, h3]
theorem pair_two {s : List UInt8} {p a b : Nat} {rest : List UInt8} (hb : b < 256) (hab : a ≤ b) (h : s.drop p = charT a ++ 45 :: (charT b ++ rest)) :
    pairS s p = .ok (rngQ a (b + 1 - a)) (p + (charT a ++ 45 :: charT b).length) := by
  have h2 := drop_app h
  obtain ⟨h3, h4⟩ := dropT_cons h2
  have hlt : ¬ b < a := by omega
  simp [pairS, charS_T (show a < 256 by omega) h, h3, charS_T hb h4, hlt]
  omega
def runC (r : Nat × Nat) : BitVec 256 := rngQ r.1 (r.2 + 1 - r.1)
theorem runC_one (a : Nat) : runC (a, a) = ofQ [(a : Int)] := by
  simp [runC, rngQ, show a + 1 - a = 1 by omega, List.range_succ]
theorem ofQ_append (l m : List Int) : ofQ (l ++ m) = ofQ l ||| ofQ m := by
  have h : ∀ (m : List Int) (c : BitVec 256), m.foldl (fun c b => c ||| bit b.toNat) c = c ||| m.foldl (fun c b => c ||| bit b.toNat) 0 := by
    intro m
    induction m with
    | nil => intro c; simp
    | cons b m ih =>
      intro c
      simp only [List.foldl_cons]
      rw [ih (c ||| bit b.toNat), ih ((0 : BitVec 256) ||| bit b.toNat)]
      simp [BitVec.or_assoc]
  unfold ofQ
  rw [List.foldl_append, h m]
theorem runC_two (a : Nat) : runC (a, a + 1) = ofQ [(a : Int)] ||| ofQ [((a + 1 : Nat) : Int)] := by
  rw [← ofQ_append]
  simp [runC, rngQ, show a + 1 + 1 - a = 2 by omega, List.range_succ]
def runsC (l : List (Nat × Nat)) (c : BitVec 256) : BitVec 256 := l.foldl (fun c r => c ||| runC r) c
theorem loop_step {s : List UInt8} {f p q : Nat} {c d : BitVec 256} (h0 : s[p]? ≠ some 93) (h : pairS s p = .ok d q) : classLoop s (f + 1) c p = classLoop s f (c ||| d) q := by
  rw [classLoop, if_neg h0, h]
theorem runT_head {r : Nat × Nat} (h1 : r.1 ≤ r.2) (h2 : r.2 < 256) (l : List UInt8) : ∃ a m, runT r ++ l = a :: m ∧ a ≠ 45 ∧ a ≠ 93 ∧ a ≠ 94 := by
  unfold runT
  split
  · exact charT_head (by omega) _
  · split
    · rw [List.append_assoc]; exact charT_head (by omega) _
    · rw [List.append_assoc]; exact charT_head (by omega) _
theorem runs_head {l : List (Nat × Nat)} (h : ∀ r ∈ l, r.1 ≤ r.2 ∧ r.2 < 256) (rest : List UInt8) : ∃ a m, l.flatMap runT ++ 93 :: rest = a :: m ∧ a ≠ 45 ∧ a ≠ 94 := by
  cases l with
  | nil => exact ⟨_, _, rfl, by decide, by decide⟩
  | cons r l =>
    obtain ⟨h1, h2⟩ := h r (by simp)
    rw [List.flatMap_cons, List.append_assoc]
    obtain ⟨a, m, e, a1, _, a3⟩ := runT_head h1 h2 (l.flatMap runT ++ 93 :: rest)
    exact ⟨a, m, e, a1, a3⟩
theorem runT_len (r : Nat × Nat) : 1 ≤ (runT r).length ∧ (runT r).length ≤ 9 := by
  have a := charT_len r.1
  have b := charT_len r.2
  unfold runT
  split
  · omega
  · split <;> simp <;> omega
/-- a list of runs is read as the union of them. -/
theorem class_runs {s : List UInt8} : ∀ (l : List (Nat × Nat)) (f p : Nat) (c : BitVec 256) (rest : List UInt8), (∀ r ∈ l, r.1 ≤ r.2 ∧ r.2 < 256) → (l.flatMap runT).length < f → s.drop p = l.flatMap runT ++ 93 :: rest →
    classLoop s f c p = some (.ok (runsC l c) (p + (l.flatMap runT).length + 1))
  | [], 0, _, _, _, _, hf, _ => by omega
  | [], f + 1, p, c, rest, _, _, h => by
    obtain ⟨h0, _⟩ := dropT_cons (show s.drop p = 93 :: rest from h)
    simp [classLoop, h0, runsC]
  | r :: l, f, p, c, rest, hl, hf, h => by
    obtain ⟨h1, h2⟩ := hl r (by simp)
    have hl' : ∀ r ∈ l, r.1 ≤ r.2 ∧ r.2 < 256 := fun r hr => hl r (by simp [hr])
    obtain ⟨ra, rb⟩ := r
    dsimp only at h1 h2
    obtain ⟨a, m, hm, ha, _⟩ := runs_head hl' rest
    rw [List.flatMap_cons, List.append_assoc] at h
    rw [List.flatMap_cons, List.length_append] at hf ⊢
    have hc1 := charT_len ra
    have hc2 := charT_len rb
    obtain ⟨x, mx, hx, hx1, hx2, hx3⟩ := runT_head (r := (ra, rb)) h1 h2 (l.flatMap runT ++ 93 :: rest)
    have hp : s[p]? ≠ some 93 := by rw [drop_head, h, hx]; simpa using hx2
    by_cases e1 : rb = ra
    · subst e1
      have et : runT (rb, rb) = charT rb := by simp [runT]
      rw [et] at h hf ⊢
      obtain ⟨f, rfl⟩ : ∃ g, f = g + 1 := ⟨f - 1, by omega⟩
      rw [loop_step hp (pair_one h2 h (by rw [hm]; simpa using ha)), class_runs l f _ _ rest hl' (by omega) (drop_app h)]
      simp only [runsC, List.foldl_cons, runC_one, Nat.add_assoc]
    · by_cases e2 : rb = ra + 1
      · subst e2
        have et : runT (ra, ra + 1) = charT ra ++ charT (ra + 1) := by simp [runT]
        rw [et] at h hf ⊢
        rw [List.append_assoc] at h
        rw [List.length_append] at hf ⊢
        obtain ⟨f, rfl⟩ : ∃ g, f = g + 2 := ⟨f - 2, by omega⟩
        obtain ⟨y, my, hy, hy1, hy2, _⟩ := charT_head h2 (l.flatMap runT ++ 93 :: rest)
        have h' := drop_app h
        have hp2 : s[p + (charT ra).length]? ≠ some 93 := by rw [drop_head, h', hy]; simpa using hy2
        rw [loop_step hp (pair_one (by omega) h (by rw [hy]; simpa using hy1)), loop_step hp2 (pair_one h2 h' (by rw [hm]; simpa using ha)), class_runs l f _ _ rest hl' (by omega) (drop_app h')]
        simp only [runsC, List.foldl_cons, runC_two, BitVec.or_assoc, Nat.add_assoc]
      · have et : runT (ra, rb) = charT ra ++ 45 :: charT rb := by simp [runT, e1, e2]
        rw [et] at h hf ⊢
        rw [List.append_assoc, List.cons_append] at h
        obtain ⟨f, rfl⟩ : ∃ g, f = g + 1 := ⟨f - 1, by omega⟩
        have h' : s.drop (p + (charT ra ++ 45 :: charT rb).length) = l.flatMap runT ++ 93 :: rest := drop_app (by rw [List.append_assoc]; exact h)
        simp only [List.length_append, List.length_cons] at hf
        rw [loop_step hp (pair_two h2 h1 h), class_runs l f _ _ rest hl' (by omega) h']
        simp only [runsC, List.foldl_cons, runC, Nat.add_assoc]
end Go.Proofs.YtgbbjobmcbdhdaaGreatDoor

/-
  Plain: classes, numbers and repetitions are read back. No program is named here.
-/
namespace Go.Proofs.YtgbbjobmcbdhdaaGreatDoor

/-! ## The runs of a class are the class -/
theorem runC_cons {x a b : Nat} (h : a = x + 1) (hab : a ≤ b) : runC (x, b) = ofQ [(x : Int)] ||| runC (a, b) := by
  subst h
  unfold runC rngQ
  dsimp only
  rw [← ofQ_append, show b + 1 - x = (b + 1 - (x + 1)) + 1 by omega, List.range_succ_eq_map, List.map_cons, List.map_map]
  simp only [Int.natCast_zero, Int.add_zero, List.singleton_append]
  congr 2
  refine List.map_congr_left fun j _ => ?_
  simp only [Function.comp]
  omega
theorem runsC_acc (l : List (Nat × Nat)) : ∀ c, runsC l c = c ||| runsC l 0 := by
  induction l with
  | nil => intro c; simp [runsC]
  | cons r l ih =>
    intro c
    have h : ∀ c, runsC (r :: l) c = runsC l (c ||| runC r) := fun _ => rfl
    rw [h, h, ih (c ||| runC r), ih ((0 : BitVec 256) ||| runC r)]
    simp [BitVec.or_assoc]
theorem runs_ok {N : Nat} : ∀ {l : List Nat}, (∀ x ∈ l, x < N) → (∀ r ∈ runs l, r.1 ≤ r.2 ∧ r.2 < N) ∧ (runs l = [] → l = [])
  | [], _ => ⟨fun r hr => (by cases hr), fun _ => rfl⟩
  | x :: l, h => by
    have hx := h x (by simp)
    obtain ⟨ih, ih2⟩ := runs_ok (l := l) fun y hy => h y (by simp [hy])
    rw [runs]
    split
    · refine ⟨fun r hr => ?_, fun e => (by cases e)⟩
      obtain rfl : r = (x, x) := by simpa using hr
      exact ⟨Nat.le_refl _, hx⟩
    · rename_i r rs hrs
      rw [hrs] at ih
      have hr := ih r (by simp)
      split
      · refine ⟨fun u hu => ?_, fun e => (by cases e)⟩
        rcases List.mem_cons.1 hu with rfl | hu
        · exact ⟨by dsimp only; omega, hr.2⟩
        · exact ih u (by simp [hu])
      · refine ⟨fun u hu => ?_, fun e => (by cases e)⟩
        rcases List.mem_cons.1 hu with rfl | hu
        · exact ⟨Nat.le_refl _, hx⟩
        · exact ih u hu
theorem runs_class {N : Nat} : ∀ {l : List Nat}, (∀ x ∈ l, x < N) → runsC (runs l) 0 = ofQ (l.map fun x : Nat => (x : Int))
  | [], _ => rfl
  | x :: l, h => by
    have h' : ∀ y ∈ l, y < N := fun y hy => h y (by simp [hy])
    have ih := runs_class h'
    have ho := (runs_ok h').1
    have hone : ofQ ((x :: l).map fun x : Nat => (x : Int)) = ofQ [(x : Int)] ||| ofQ (l.map fun x : Nat => (x : Int)) := by rw [← ofQ_append]; rfl
    rw [hone, ← ih, runs]
    split
    · rename_i hn
      rw [hn]
      simp [runsC, runC_one]
    · rename_i r rs hrs
      rw [hrs] at ho ⊢
      split
      · rename_i e
        have e1 : runsC ((x, r.2) :: rs) 0 = runsC rs (0 ||| runC (x, r.2)) := rfl
        have e2 : runsC (r :: rs) 0 = runsC rs (0 ||| runC r) := rfl
        rw [e1, e2, runsC_acc rs (0 ||| runC (x, r.2)), runsC_acc rs (0 ||| runC r), runC_cons e (ho r (by simp)).1]
        simp [BitVec.or_assoc]
      · have e1 : runsC ((x, x) :: r :: rs) 0 = runsC (r :: rs) (0 ||| runC (x, x)) := rfl
        rw [e1, runsC_acc, runC_one]
        simp
theorem mem_memN {c : BitVec 256} {x : Nat} : x ∈ memN c ↔ x < 256 ∧ mem c x = true := by unfold memN; simp [List.mem_filter]
theorem ofQ_mem (l : List Nat) (h : ∀ x ∈ l, x < 256) : ∀ j, j < 256 → (ofQ (l.map fun x : Nat => (x : Int))).getLsbD j = decide (j ∈ l) := by
  intro j hj
  induction l with
  | nil => simp [ofQ]
  | cons x l ih =>
    have hone : ofQ ((x :: l).map fun x : Nat => (x : Int)) = ofQ [(x : Int)] ||| ofQ (l.map fun x : Nat => (x : Int)) := by rw [← ofQ_append]; rfl
    have hb : ofQ [(x : Int)] = bit x := by simp [ofQ]
    rw [hone, hb, BitVec.getLsbD_or, ih fun y hy => h y (by simp [hy]), bit_getLsbD _ _ (h x (by simp))]
    by_cases e : x = j
    · subst e; simp
    · have e' : ¬ j = x := fun h => e h.symm
      simp [e, e']
theorem ofQ_memN (c : BitVec 256) : ofQ ((memN c).map fun x : Nat => (x : Int)) = c := by
  apply BitVec.eq_of_getLsbD_eq
  intro j hj
  rw [ofQ_mem _ (fun x hx => (mem_memN.1 hx).1) j hj]
  by_cases hm : mem c j = true
  · simp only [mem_memN.2 ⟨hj, hm⟩, decide_true]; exact hm.symm
  · have : ¬ j ∈ memN c := fun h => hm (mem_memN.1 h).2
    simp only [this, decide_false]; exact (by simpa using hm : mem c j = false).symm
theorem memN_full {c : BitVec 256} (h : (memN c).length = 256) : rngQ 0 256 = c := by
  have h1 : memN c = List.range 256 := by
    unfold memN at h ⊢
    exact List.filter_eq_self.2 (List.length_filter_eq_length_iff.1 (h.trans List.length_range.symm))
  have h2 : ∀ k : Nat, rngQ 0 k = ofQ ((List.range k).map fun x : Nat => (x : Int)) := fun k => by
    unfold rngQ
    exact congrArg ofQ (List.map_congr_left fun j _ => Int.zero_add _)
  rw [h2 256, ← h1]
  exact ofQ_memN c
theorem memN_one {c : BitVec 256} (h : (memN c).length = 1) : (memN c).headD 0 < 256 ∧ ofQ [(((memN c).headD 0 : Nat) : Int)] = c := by
  obtain ⟨x, hx⟩ := List.length_eq_one_iff.1 h
  refine ⟨?_, ?_⟩
  · rw [hx]; exact (mem_memN.1 (hx ▸ List.mem_singleton_self x : x ∈ memN c)).1
  · conv => rhs; rw [← ofQ_memN c]
    rw [hx]; rfl
theorem memN_class (c : BitVec 256) : runsC (runs (memN c)) 0 = c := by
  rw [runs_class fun x hx => (mem_memN.1 hx).1, ofQ_memN]
theorem memN_runs (c : BitVec 256) : ∀ r ∈ runs (memN c), r.1 ≤ r.2 ∧ r.2 < 256 := (runs_ok fun x hx => (mem_memN.1 hx).1).1

/-! ## Numbers and repetitions -/
def NoDig (l : List UInt8) : Prop := ∀ y, l.head? = some y → digitB y = false
theorem digitsS_stop {n : Nat} {l : List UInt8} (h : NoDig l) : digitsS n l = (n, 0) := by
  cases l with
  | nil => rfl
  | cons y l => rw [digitsS, if_neg]; rintro ⟨_, h2⟩; rw [h y rfl] at h2; cases h2
theorem num_facts : ∀ n, n < 17 → (n < 10 → digitB (UInt8.ofNat (48 + n)) = true ∧ (UInt8.ofNat (48 + n)).toNat - 48 = n) ∧ (10 ≤ n → digitB (UInt8.ofNat (38 + n)) = true ∧ min (10 * 1 + ((UInt8.ofNat (38 + n)).toNat - 48)) 17 = n) := by decide +kernel
theorem numberS_T {s : List UInt8} {p n : Nat} {rest : List UInt8} (hn : n ≤ 16) (hr : NoDig rest) (h : s.drop p = numT n ++ rest) : numberS s p = .ok n (p + (numT n).length) := by
  obtain ⟨f1, f2⟩ := num_facts n (by omega)
  have h16 : ¬ 16 < n := by omega
  unfold numT at h ⊢
  split at h
  · rename_i h10
    obtain ⟨d1, d2⟩ := f1 h10
    rw [if_pos h10]
    obtain ⟨h0, h1⟩ := dropT_cons h
    have h1 : s.drop (p + 1) = rest := h1
    simp only [numberS, h0, d1, d2, if_true, h1, digitsS_stop hr, h16, if_false, List.length_singleton, Nat.add_zero]
  · rename_i h10
    obtain ⟨d1, d2⟩ := f2 (by omega)
    rw [if_neg h10]
    obtain ⟨h0, h1⟩ := dropT_cons h
    have e49 : digitB 49 = true := by decide
    have e1 : (49 : UInt8).toNat - 48 = 1 := by decide
    have e2 : digitsS 1 ([UInt8.ofNat (38 + n)] ++ rest) = (n, 1) := by
      rw [List.singleton_append, digitsS, if_pos ⟨by omega, d1⟩, d2, digitsS_stop hr]
    simp only [numberS, h0, e49, e1, if_true]
    rw [show List.drop (p + 1) s = [UInt8.ofNat (38 + n)] ++ rest from h1, e2]
    simp only [h16, if_false, List.length_cons, List.length_nil]
theorem numT_len (n : Nat) : 1 ≤ (numT n).length ∧ (numT n).length ≤ 2 := by unfold numT; split <;> simp
theorem repT_n (lo : Nat) : repT lo none = if lo = 0 then [42] else if lo = 1 then [43] else 123 :: (numT lo ++ [44, 125]) := rfl
theorem repT_s (lo h : Nat) : repT lo (some h) = if lo = 0 ∧ h = 1 then [63] else 123 :: (numT lo ++ 44 :: (numT h ++ [125])) := rfl
theorem repT_len (lo : Nat) (hi : Option Nat) : 1 ≤ (repT lo hi).length ∧ (repT lo hi).length ≤ 7 := by
  have a := numT_len lo
  cases hi with
  | none =>
    rw [repT_n]
    split
    · simp
    · split
      · simp
      · simp only [List.length_cons, List.length_append, List.length_nil]; omega
  | some h =>
    have b := numT_len h
    rw [repT_s]
    split
    · simp
    · simp only [List.length_cons, List.length_append, List.length_nil]; omega
theorem noDig_cons {y : UInt8} {l : List UInt8} (h : digitB y = false) : NoDig (y :: l) := fun z hz => by
  obtain rfl : y = z := by simpa using hz
  exact h
theorem numT_ne125 {n : Nat} (h : n ≤ 16) (l : List UInt8) : (numT n ++ l).head? ≠ some 125 := by
  have h0 : ∀ n, n < 17 → (numT n).head? ≠ some 125 ∧ numT n ≠ [] := by decide +kernel
  obtain ⟨h1, h2⟩ := h0 n (by omega)
  rw [List.head?_append]
  cases hx : numT n with
  | nil => exact absurd hx h2
  | cons a m => rw [hx] at h1; simpa using h1
theorem repeatS_T {s : List UInt8} {p lo : Nat} {hi : Option Nat} {rest : List UInt8} (hlo : lo ≤ 16) (hhi : ∀ h, hi = some h → lo ≤ h ∧ h ≤ 16) (h : s.drop p = repT lo hi ++ rest) :
    repeatS s p = .ok (some ((lo : Int), hiI hi)) (p + (repT lo hi).length) := by
  have d44 : digitB 44 = false := by decide
  have d125 : digitB 125 = false := by decide
  cases hi with
  | none =>
    rw [repT_n] at h ⊢
    by_cases e0 : lo = 0
    · subst e0
      rw [if_pos rfl] at h ⊢
      obtain ⟨h0, _⟩ := dropT_cons h
      simp [repeatS, h0, hiI]
    rw [if_neg e0] at h ⊢
    by_cases e1 : lo = 1
    · subst e1
      rw [if_pos rfl] at h ⊢
      obtain ⟨h0, _⟩ := dropT_cons h
      simp [repeatS, h0, hiI]
    rw [if_neg e1] at h ⊢
    rw [List.cons_append, List.append_assoc] at h
    obtain ⟨h0, h1⟩ := dropT_cons h
    have hn := numberS_T hlo (noDig_cons d44) h1
    obtain ⟨h2, h3⟩ := dropT_cons (drop_app h1)
    obtain ⟨h3, _⟩ := dropT_cons h3
    simp [repeatS, h0, boundsS, hn, expectS, h2, h3, hiI]
    omega
  | some m =>
    obtain ⟨hm1, hm2⟩ := hhi m rfl
    rw [repT_s] at h ⊢
    by_cases e0 : lo = 0 ∧ m = 1
    · obtain ⟨rfl, rfl⟩ := e0
      rw [if_pos ⟨rfl, rfl⟩] at h ⊢
      obtain ⟨h0, _⟩ := dropT_cons h
      simp [repeatS, h0, hiI]
    rw [if_neg e0] at h ⊢
    rw [List.cons_append, List.append_assoc, List.cons_append, List.append_assoc] at h
    obtain ⟨h0, h1⟩ := dropT_cons h
    have hn := numberS_T hlo (noDig_cons d44) h1
    obtain ⟨h2, h3⟩ := dropT_cons (drop_app h1)
    have hn2 := numberS_T hm2 (noDig_cons d125) h3
    have h4 : s[p + 1 + (numT lo).length + 1]? ≠ some 125 := by rw [drop_head, h3]; exact numT_ne125 hm2 _
    obtain ⟨h5, _⟩ := dropT_cons (drop_app h3)
    have hlt : ¬ m < lo := by omega
    simp [repeatS, h0, boundsS, hn, expectS, h2, h4, hn2, hlt, h5, hiI]
    omega
end Go.Proofs.YtgbbjobmcbdhdaaGreatDoor

/-
  Plain: the parser reads the text of a tree as the tree. No program is named here.
-/
namespace Go.Proofs.YtgbbjobmcbdhdaaGreatDoor

/-! ## What a text can begin with, and what may follow it -/
def startC (y : UInt8) : Bool := plainB y || [126, 46, 33, 40, 91, 92].contains y
def repC (y : UInt8) : Bool := y == 42 || y == 43 || y == 63 || y == 123
theorem start_facts : ∀ y : Fin 256, startC (UInt8.ofNat y.1) = true → repC (UInt8.ofNat y.1) = false ∧ UInt8.ofNat y.1 ≠ 41 := by decide +kernel
theorem start_rep {y : UInt8} (h : startC y = true) : repC y = false ∧ y ≠ 41 := by
  have e : UInt8.ofNat y.toNat = y := by simp
  have := start_facts ⟨y.toNat, y.toNat_lt⟩
  rw [e] at this
  exact this h
def Starts (l : List UInt8) : Prop := ∃ y m, l = y :: m ∧ startC y = true
theorem Starts.app {l m : List UInt8} (h : Starts l) : Starts (l ++ m) := by
  obtain ⟨y, k, rfl, hy⟩ := h
  exact ⟨y, k ++ m, rfl, hy⟩
theorem Starts.len {l : List UInt8} (h : Starts l) : 1 ≤ l.length := by
  obtain ⟨y, k, rfl, _⟩ := h
  simp
theorem char_starts {y : Nat} : Starts (charT y) := by
  unfold charT
  split
  · rename_i h
    exact ⟨_, _, rfl, by unfold startC; rw [h]; rfl⟩
  · exact ⟨_, _, rfl, by decide⟩
theorem cls_starts (c : BitVec 256) : Starts (clsT c) := by
  unfold clsT
  split
  · exact ⟨_, _, rfl, by decide⟩
  · split
    · exact char_starts
    · exact ⟨_, _, rfl, by decide⟩
theorem par_starts {b : Bool} {l : List UInt8} (h : Starts l) : Starts (parB b l) := by
  unfold parB
  split
  · exact ⟨_, _, rfl, by decide⟩
  · exact h
theorem fmt_starts : ∀ (t : Rx), Starts (fmtT t)
  | .none => ⟨_, _, rfl, by decide⟩
  | .empty => ⟨_, _, rfl, by decide⟩
  | .cls c => cls_starts c
  | .cat l _ => (par_starts (fmt_starts l)).app
  | .alt l _ => (fmt_starts l).app
  | .and l _ => (par_starts (fmt_starts l)).app
  | .not _ => ⟨_, _, rfl, by decide⟩
  | .rep l _ _ => (par_starts (fmt_starts l)).app
/-- no repetition follows; no item; no '&'; no '|'. -/
def NoRep (l : List UInt8) : Prop := ∀ y, l.head? = some y → repC y = false
def NoItem (l : List UInt8) : Prop := ∀ y, l.head? = some y → startC y = false
theorem Starts.noRep {l : List UInt8} (h : Starts l) : NoRep l := by
  obtain ⟨y, k, rfl, hy⟩ := h
  intro z hz
  obtain rfl : y = z := by simpa using hz
  exact (start_rep hy).1

section
variable {s : List UInt8}
theorem rep_none {p : Nat} {rest : List UInt8} (h : s.drop p = rest) (hr : NoRep rest) : repeatS s p = .ok none p := by
  have hk : ∀ c : UInt8, repC c = true → s[p]? ≠ some c := by
    intro c hc e
    rw [drop_head, h] at e
    rw [hr c e] at hc; cases hc
  unfold repeatS
  rw [if_neg (hk 42 (by decide)), if_neg (hk 43 (by decide)), if_neg (hk 63 (by decide)), if_neg (hk 123 (by decide))]
theorem item_none {p : Nat} {rest : List UInt8} (h : s.drop p = rest) (hr : NoItem rest) : moreItem s p = none := by
  unfold moreItem itemAt
  rw [drop_head, h]
  cases hl : rest.head? with
  | none => rfl
  | some y =>
    have h2 := hr y hl
    unfold startC at h2
    exact if_neg (fun e => Bool.false_ne_true (h2.symm.trans e))
theorem item_some {p : Nat} {rest : List UInt8} (h : s.drop p = rest) (hr : Starts rest) : moreItem s p = some p := by
  obtain ⟨y, k, rfl, hy⟩ := hr
  obtain ⟨h0, _⟩ := dropT_cons h
  unfold moreItem itemAt
  unfold startC at hy
  rw [h0]
  exact if_pos hy
theorem take_none {c : UInt8} {p : Nat} {rest : List UInt8} (h : s.drop p = rest) (hr : rest.head? ≠ some c) : takeS s c p = none := by
  unfold takeS
  rw [drop_head, h, if_neg hr]
theorem take_some {c : UInt8} {p : Nat} {rest : List UInt8} (h : s.drop p = c :: rest) : takeS s c p = some (p + 1) := by
  unfold takeS
  rw [(dropT_cons h).1, if_pos rfl]

/-! ## Texts that are read as a tree, level by level -/
def AtomRd (s : List UInt8) (t : Rx) (T : List UInt8) : Prop := ∀ (f m p : Nat) (xs : List Nd) (rest : List UInt8), T.length ≤ f → s.drop p = T ++ rest → xs.length + t.size ≤ 1000000 →
  ∃ g, f + 1 ≤ g + T.length ∧ itemS s (altS s f) f (m + 1) p xs = repLoop s g (xs.length + t.size - 1) (p + T.length) (xs ++ flat t xs.length)
def ItemRd (s : List UInt8) (t : Rx) (T : List UInt8) : Prop := ∀ (f m p : Nat) (xs : List Nd) (rest : List UInt8), T.length ≤ f → T.length ≤ m → s.drop p = T ++ rest → NoRep rest → xs.length + t.size ≤ 1000000 →
  itemS s (altS s f) f m p xs = .ok (xs.length + t.size - 1) (p + T.length) (xs ++ flat t xs.length)
def CatRd (s : List UInt8) (t : Rx) (T : List UInt8) : Prop := ∀ (f0 f p : Nat) (xs : List Nd) (rest : List UInt8), T.length ≤ f0 → T.length ≤ f → s.drop p = T ++ rest → NoRep rest → xs.length + t.size ≤ 1000000 →
  ∃ g, f + 1 ≤ g + T.length ∧ chainS 4 (itemS s (altS s f0) f0 f0) (moreItem s) f p xs = joinS 4 (itemS s (altS s f0) f0 f0) (moreItem s) g (xs.length + t.size - 1) (p + T.length) (xs ++ flat t xs.length)
def AndRd (s : List UInt8) (t : Rx) (T : List UInt8) : Prop := ∀ (f0 f p : Nat) (xs : List Nd) (rest : List UInt8), T.length ≤ f0 → T.length ≤ f → s.drop p = T ++ rest → NoRep rest → NoItem rest → xs.length + t.size ≤ 1000000 →
  ∃ g, f + 1 ≤ g + T.length ∧ chainS 6 (catS s (altS s f0) f0) (takeS s 38) f p xs = joinS 6 (catS s (altS s f0) f0) (takeS s 38) g (xs.length + t.size - 1) (p + T.length) (xs ++ flat t xs.length)
def AltRd (s : List UInt8) (t : Rx) (T : List UInt8) : Prop := ∀ (f0 f p : Nat) (xs : List Nd) (rest : List UInt8), T.length ≤ f0 → T.length ≤ f → s.drop p = T ++ rest → NoRep rest → NoItem rest → rest.head? ≠ some 38 → xs.length + t.size ≤ 1000000 →
  ∃ g, f + 1 ≤ g + T.length ∧ chainS 5 (andS s (altS s f0) f0) (takeS s 124) f p xs = joinS 5 (andS s (altS s f0) f0) (takeS s 124) g (xs.length + t.size - 1) (p + T.length) (xs ++ flat t xs.length)
def TopRd (s : List UInt8) (t : Rx) (T : List UInt8) : Prop := ∀ (f p : Nat) (xs : List Nd) (rest : List UInt8), T.length ≤ f → s.drop p = T ++ rest → NoRep rest → NoItem rest → rest.head? ≠ some 38 → rest.head? ≠ some 124 → xs.length + t.size ≤ 1000000 →
  altS s (f + 1) p xs = .ok (xs.length + t.size - 1) (p + T.length) (xs ++ flat t xs.length)

theorem AtomRd.item {t : Rx} {T : List UInt8} (h : AtomRd s t T) (hT : 1 ≤ T.length) : ItemRd s t T := by
  intro f m p xs rest hf hm hd hr hx
  obtain ⟨m, rfl⟩ : ∃ k, m = k + 1 := ⟨m - 1, by omega⟩
  obtain ⟨g, hg, he⟩ := h f m p xs rest hf hd hx
  obtain ⟨g, rfl⟩ : ∃ k, g = k + 1 := ⟨g - 1, by omega⟩
  rw [he, repLoop, rep_none (drop_app hd) hr]
theorem ItemRd.cat {t : Rx} {T : List UInt8} (h : ItemRd s t T) (hT : 1 ≤ T.length) : CatRd s t T := by
  intro f0 f p xs rest hf0 hf hd hr hx
  refine ⟨f, by omega, ?_⟩
  rw [chainS, h f0 f0 p xs rest hf0 hf0 hd hr hx]
theorem CatRd.one {t : Rx} {T : List UInt8} (h : CatRd s t T) (f0 p : Nat) (xs : List Nd) (rest : List UInt8) (hf : T.length ≤ f0) (hd : s.drop p = T ++ rest) (hr : NoRep rest) (hi : NoItem rest) (hx : xs.length + t.size ≤ 1000000) :
    catS s (altS s f0) f0 p xs = .ok (xs.length + t.size - 1) (p + T.length) (xs ++ flat t xs.length) := by
  obtain ⟨g, hg, he⟩ := h f0 f0 p xs rest hf hf hd hr hx
  obtain ⟨g, rfl⟩ : ∃ k, g = k + 1 := ⟨g - 1, by omega⟩
  rw [catS, he, joinS, item_none (drop_app hd) hi]
theorem CatRd.and {t : Rx} {T : List UInt8} (h : CatRd s t T) (hT : 1 ≤ T.length) : AndRd s t T := by
  intro f0 f p xs rest hf0 hf hd hr hi hx
  refine ⟨f, by omega, ?_⟩
  rw [chainS, h.one f0 p xs rest hf0 hd hr hi hx]
theorem AndRd.one {t : Rx} {T : List UInt8} (h : AndRd s t T) (f0 p : Nat) (xs : List Nd) (rest : List UInt8) (hf : T.length ≤ f0) (hd : s.drop p = T ++ rest) (hr : NoRep rest) (hi : NoItem rest) (ha : rest.head? ≠ some 38) (hx : xs.length + t.size ≤ 1000000) :
    andS s (altS s f0) f0 p xs = .ok (xs.length + t.size - 1) (p + T.length) (xs ++ flat t xs.length) := by
  obtain ⟨g, hg, he⟩ := h f0 f0 p xs rest hf hf hd hr hi hx
  obtain ⟨g, rfl⟩ : ∃ k, g = k + 1 := ⟨g - 1, by omega⟩
  rw [andS, he, joinS, take_none (drop_app hd) ha]
theorem AndRd.alt {t : Rx} {T : List UInt8} (h : AndRd s t T) (hT : 1 ≤ T.length) : AltRd s t T := by
  intro f0 f p xs rest hf0 hf hd hr hi ha hx
  refine ⟨f, by omega, ?_⟩
  rw [chainS, h.one f0 p xs rest hf0 hd hr hi ha hx]
theorem AltRd.top {t : Rx} {T : List UInt8} (h : AltRd s t T) : TopRd s t T := by
  intro f p xs rest hf hd hr hi ha hb hx
  obtain ⟨g, hg, he⟩ := h f f p xs rest hf hf hd hr hi ha hx
  obtain ⟨g, rfl⟩ : ∃ k, g = k + 1 := ⟨g - 1, by omega⟩
  rw [altS, he, joinS, take_none (drop_app hd) hb]
theorem noRep41 (l : List UInt8) : NoRep (41 :: l) := fun y hy => by
  obtain rfl : 41 = y := by simpa using hy
  decide
theorem noItem41 (l : List UInt8) : NoItem (41 :: l) := fun y hy => by
  obtain rfl : 41 = y := by simpa using hy
  decide
theorem noRep38 (l : List UInt8) : NoRep (38 :: l) := fun y hy => by
  obtain rfl : 38 = y := by simpa using hy
  decide
theorem noItem38 (l : List UInt8) : NoItem (38 :: l) := fun y hy => by
  obtain rfl : 38 = y := by simpa using hy
  decide
theorem noRep124 (l : List UInt8) : NoRep (124 :: l) := fun y hy => by
  obtain rfl : 124 = y := by simpa using hy
  decide
theorem noItem124 (l : List UInt8) : NoItem (124 :: l) := fun y hy => by
  obtain rfl : 124 = y := by simpa using hy
  decide
/-- an atom that is no char. -/
theorem TopRd.paren {t : Rx} {T : List UInt8} (h : TopRd s t T) (hs : Starts T) : AtomRd s t (40 :: (T ++ [41])) := by
  intro f m p xs rest hf hd hx
  simp only [List.length_cons, List.length_append, List.length_nil] at hf
  obtain ⟨f, rfl⟩ : ∃ k, f = k + 1 := ⟨f - 1, by omega⟩
  refine ⟨f + 1, by simp only [List.length_cons]; omega, ?_⟩
  obtain ⟨h0, h1⟩ := dropT_cons hd
  rw [List.append_eq, List.append_assoc] at h1
  have hne : s[p + 1]? ≠ some 41 := by
    obtain ⟨y, k, rfl, hy⟩ := hs
    obtain ⟨e, _⟩ := dropT_cons h1
    rw [e]
    intro e2
    exact (start_rep hy).2 (by simpa using e2)
  have ha := h f (p + 1) xs (41 :: rest) (by omega) h1 (noRep41 _) (noItem41 _) (by simp) (by simp) hx
  obtain ⟨h2, _⟩ := dropT_cons (drop_app h1)
  have e126 : ¬ (40 : UInt8) = 126 := by decide
  have e46 : ¬ (40 : UInt8) = 46 := by decide
  have e33 : ¬ (40 : UInt8) = 33 := by decide
  simp only [itemS, h0, Option.some.injEq, e126, e46, e33, if_false, if_true, atomS, groupS, hne, ha, expectS, h2]
  simp only [List.length_cons, List.length_append, List.length_nil]
  congr 1
  omega
theorem cls_rd (c : BitVec 256) : AtomRd s (.cls c) (clsT c) := by
  intro f m p xs rest hf hd hx
  refine ⟨f, by have := (cls_starts c).len; omega, ?_⟩
  have hlen : xs.length < 1000000 := by simp only [Rx.size] at hx; omega
  have key : atomS s (altS s f) f p xs = .ok xs.length (p + (clsT c).length) (xs ++ [clsNd c]) ∧ s[p]? ≠ some 126 := by
    have char : ∀ y : Nat, y < 256 → ofQ [(y : Int)] = c → clsT c = charT y → atomS s (altS s f) f p xs = .ok xs.length (p + (clsT c).length) (xs ++ [clsNd c]) ∧ s[p]? ≠ some 126 := by
      intro y hy hc he
      rw [he] at hd ⊢
      have hr := charS_T hy hd
      have hp : ∀ z : UInt8, z = 46 ∨ z = 33 ∨ z = 40 ∨ z = 91 ∨ z = 126 → s[p]? ≠ some z := by
        intro z hz e
        unfold charT at hd
        split at hd
        · rename_i hpl
          obtain ⟨h0, _⟩ := dropT_cons hd
          have hf := plain_facts ⟨y, hy⟩ hpl
          rw [h0] at e
          have e : UInt8.ofNat y = z := by simpa using e
          dsimp only at hf
          rw [e] at hf
          obtain ⟨_, _, _, _, f1, f2, f3, f4, f5⟩ := hf
          rcases hz with h | h | h | h | h
          · exact f1 h
          · exact f2 h
          · exact f3 h
          · exact f4 h
          · exact f5 h
        · obtain ⟨h0, _⟩ := dropT_cons hd
          rw [h0] at e
          have e : (92 : UInt8) = z := by simpa using e
          subst e
          revert hz; decide
      refine ⟨?_, hp 126 (by simp)⟩
      unfold atomS
      rw [if_neg (hp 46 (by simp)), if_neg (hp 33 (by simp)), if_neg (hp 40 (by simp)), if_neg (hp 91 (by simp)), hr]
      simp only [putS, if_pos hlen, hc]
    by_cases h1 : (memN c).length = 256
    · have he : clsT c = [46] := by unfold clsT; rw [if_pos h1]
      rw [he] at hd ⊢
      obtain ⟨h0, _⟩ := dropT_cons hd
      refine ⟨?_, by rw [h0]; decide⟩
      unfold atomS
      rw [if_pos h0, putS, if_pos hlen, memN_full h1]
      rfl
    by_cases h2 : (memN c).length = 1
    · obtain ⟨hy, hc⟩ := memN_one h2
      exact char _ hy hc (by unfold clsT; rw [if_neg h1, if_pos h2])
    have he : clsT c = 91 :: ((runs (memN c)).flatMap runT ++ [93]) := by unfold clsT; rw [if_neg h1, if_neg h2]
    rw [he] at hd hf ⊢
    obtain ⟨h0, h3⟩ := dropT_cons hd
    rw [List.append_eq, List.append_assoc, List.singleton_append] at h3
    simp only [List.length_cons, List.length_append, List.length_nil] at hf
    have hcl := class_runs (runs (memN c)) f (p + 1) 0 rest (memN_runs c) (by omega) h3
    rw [memN_class] at hcl
    obtain ⟨a, k, ha, _, ha2⟩ := runs_head (memN_runs c) rest
    have h94 : s[p + 1]? ≠ some 94 := by rw [drop_head, h3, ha]; simpa using ha2
    refine ⟨?_, by rw [h0]; decide⟩
    unfold atomS
    rw [h0, if_neg (by decide), if_neg (by decide), if_neg (by decide), if_pos rfl, classS, if_neg h94, hcl]
    simp only [putS, if_pos hlen, List.length_cons, List.length_append, List.length_nil]
    congr 1
    omega
  rw [itemS, if_neg key.2, key.1]
  rfl
theorem none_rd : AtomRd s .none [33] := by
  intro f m p xs rest hf hd hx
  refine ⟨f, by simp, ?_⟩
  have hlen : xs.length < 1000000 := by simp only [Rx.size] at hx; omega
  obtain ⟨h0, _⟩ := dropT_cons hd
  rw [itemS, h0, if_neg (by decide), atomS, h0, if_neg (by decide), if_pos rfl, putS, if_pos hlen]
  rfl
theorem empty_rd : AtomRd s .empty [40, 41] := by
  intro f m p xs rest hf hd hx
  refine ⟨f, by simp, ?_⟩
  have hlen : xs.length < 1000000 := by simp only [Rx.size] at hx; omega
  obtain ⟨h0, h1⟩ := dropT_cons hd
  obtain ⟨h1, _⟩ := dropT_cons h1
  rw [itemS, h0, if_neg (by decide), atomS, h0, if_neg (by decide), if_neg (by decide), if_pos rfl, groupS, h1, if_pos rfl, putS, if_pos hlen]
  rfl
theorem rep_rd {l : Rx} {T : List UInt8} {lo : Nat} {hi : Option Nat} (h : AtomRd s l T) (hlo : lo ≤ 16) (hhi : ∀ h, hi = some h → lo ≤ h ∧ h ≤ 16) : AtomRd s (.rep l lo hi) (T ++ repT lo hi) := by
  intro f m p xs rest hf hd hx
  rw [List.length_append] at hf
  rw [List.append_assoc] at hd
  have hsz := size_pos l
  simp only [Rx.size] at hx ⊢
  obtain ⟨g, hg, he⟩ := h f m p xs _ (by omega) hd (by omega)
  have hl := (repT_len lo hi).1
  obtain ⟨g, rfl⟩ : ∃ k, g = k + 1 := ⟨g - 1, by omega⟩
  refine ⟨g, by rw [List.length_append]; omega, ?_⟩
  have hlen : (xs ++ flat l xs.length).length < 1000000 := by rw [List.length_append, flatT_len]; omega
  rw [he, repLoop, repeatS_T hlo hhi (drop_app hd)]
  dsimp only
  rw [putS, if_pos hlen]
  dsimp only
  rw [List.length_append, flatT_len, List.length_append, flat, List.append_assoc]
  congr 1
  · omega
theorem not_rd {l : Rx} {T : List UInt8} (h : ItemRd s l T) : ItemRd s (.not l) (126 :: T) := by
  intro f m p xs rest hf hm hd hr hx
  rw [List.length_cons] at hf hm
  obtain ⟨m, rfl⟩ : ∃ k, m = k + 1 := ⟨m - 1, by omega⟩
  simp only [Rx.size] at hx ⊢
  have hsz := size_pos l
  obtain ⟨h0, h1⟩ := dropT_cons hd
  have hlen : (xs ++ flat l xs.length).length < 1000000 := by rw [List.length_append, flatT_len]; omega
  rw [itemS, if_pos h0, h f m (p + 1) xs rest (by omega) (by omega) h1 hr (by omega)]
  dsimp only
  rw [putS, if_pos hlen]
  rw [List.length_append, flatT_len, List.length_cons, flat, List.append_assoc]
  congr 1
  · omega
theorem cat_rd {l r : Rx} {S T : List UInt8} (h : CatRd s l S) (h2 : ItemRd s r T) (hT : Starts T) (hS : 1 ≤ S.length) : CatRd s (.cat l r) (S ++ T) := by
  intro f0 f p xs rest hf0 hf hd hr hx
  rw [List.length_append] at hf0 hf
  rw [List.append_assoc] at hd
  have hsl := size_pos l
  have hsr := size_pos r
  have hTl := hT.len
  simp only [Rx.size] at hx ⊢
  obtain ⟨g, hg, he⟩ := h f0 f p xs (T ++ rest) (by omega) (by omega) hd hT.app.noRep (by omega)
  obtain ⟨g, rfl⟩ : ∃ k, g = k + 1 := ⟨g - 1, by omega⟩
  refine ⟨g, by rw [List.length_append]; omega, ?_⟩
  have hd2 := drop_app hd
  have hlen2 : (xs ++ flat l xs.length).length = xs.length + l.size := by rw [List.length_append, flatT_len]
  have hi := h2 f0 f0 (p + S.length) (xs ++ flat l xs.length) rest (by omega) (by omega) hd2 hr (by rw [hlen2]; omega)
  rw [he, joinS, item_some hd2 hT.app]
  dsimp only
  rw [hi]
  dsimp only
  have hlen : (xs ++ flat l xs.length ++ flat r (xs ++ flat l xs.length).length).length < 1000000 := by rw [List.length_append, flatT_len, hlen2]; omega
  rw [putS, if_pos hlen]
  dsimp only
  rw [List.length_append, flatT_len, hlen2, List.length_append, flat, List.append_assoc, List.append_assoc, Nat.add_assoc p]
  congr 1
  · omega
theorem and_rd {l r : Rx} {S T : List UInt8} (h : AndRd s l S) (h2 : CatRd s r T) (hS : 1 ≤ S.length) : AndRd s (.and l r) (S ++ 38 :: T) := by
  intro f0 f p xs rest hf0 hf hd hr hi hx
  rw [List.length_append, List.length_cons] at hf0 hf
  rw [List.append_assoc, List.cons_append] at hd
  have hsl := size_pos l
  have hsr := size_pos r
  simp only [Rx.size] at hx ⊢
  obtain ⟨g, hg, he⟩ := h f0 f p xs (38 :: (T ++ rest)) (by omega) (by omega) hd (noRep38 _) (noItem38 _) (by omega)
  obtain ⟨g, rfl⟩ : ∃ k, g = k + 1 := ⟨g - 1, by omega⟩
  refine ⟨g, by rw [List.length_append, List.length_cons]; omega, ?_⟩
  have hd2 := drop_app hd
  obtain ⟨_, hd3⟩ := dropT_cons hd2
  have hlen2 : (xs ++ flat l xs.length).length = xs.length + l.size := by rw [List.length_append, flatT_len]
  have hi := h2.one f0 (p + S.length + 1) (xs ++ flat l xs.length) rest (by omega) hd3 hr hi (by rw [hlen2]; omega)
  rw [he, joinS, take_some hd2]
  dsimp only
  rw [hi]
  dsimp only
  have hlen : (xs ++ flat l xs.length ++ flat r (xs ++ flat l xs.length).length).length < 1000000 := by rw [List.length_append, flatT_len, hlen2]; omega
  rw [putS, if_pos hlen]
  dsimp only
  rw [List.length_append, flatT_len, hlen2, List.length_append, List.length_cons, flat, List.append_assoc, List.append_assoc]
  congr 1
  · omega
  · omega
theorem alt_rd {l r : Rx} {S T : List UInt8} (h : AltRd s l S) (h2 : AndRd s r T) (hS : 1 ≤ S.length) : AltRd s (.alt l r) (S ++ 124 :: T) := by
  intro f0 f p xs rest hf0 hf hd hr hi ha hx
  rw [List.length_append, List.length_cons] at hf0 hf
  rw [List.append_assoc, List.cons_append] at hd
  have hsl := size_pos l
  have hsr := size_pos r
  simp only [Rx.size] at hx ⊢
  obtain ⟨g, hg, he⟩ := h f0 f p xs (124 :: (T ++ rest)) (by omega) (by omega) hd (noRep124 _) (noItem124 _) (by simp) (by omega)
  obtain ⟨g, rfl⟩ : ∃ k, g = k + 1 := ⟨g - 1, by omega⟩
  refine ⟨g, by rw [List.length_append, List.length_cons]; omega, ?_⟩
  have hd2 := drop_app hd
  obtain ⟨_, hd3⟩ := dropT_cons hd2
  have hlen2 : (xs ++ flat l xs.length).length = xs.length + l.size := by rw [List.length_append, flatT_len]
  have hi := h2.one f0 (p + S.length + 1) (xs ++ flat l xs.length) rest (by omega) hd3 hr hi ha (by rw [hlen2]; omega)
  rw [he, joinS, take_some hd2]
  dsimp only
  rw [hi]
  dsimp only
  have hlen : (xs ++ flat l xs.length ++ flat r (xs ++ flat l xs.length).length).length < 1000000 := by rw [List.length_append, flatT_len, hlen2]; omega
  rw [putS, if_pos hlen]
  dsimp only
  rw [List.length_append, flatT_len, hlen2, List.length_append, List.length_cons, flat, List.append_assoc, List.append_assoc]
  congr 1
  · omega
  · omega

/-! ## Every tree -/
structure Rd (s : List UInt8) (t : Rx) : Prop where
  top : TopRd s t (fmtT t)
  alt : AltRd s t (fmtT t)
  and : t.isAlt = false → AndRd s t (fmtT t)
  cat : t.isAlt = false → t.isAnd = false → CatRd s t (fmtT t)
  item : t.isAlt = false → t.isAnd = false → t.isCat = false → ItemRd s t (fmtT t)
  atom : t.isAlt = false → t.isAnd = false → t.isCat = false → t.isNot = false → AtomRd s t (fmtT t)
theorem Rd.of_atom {t : Rx} (h : AtomRd s t (fmtT t)) : Rd s t :=
  have hl := (fmt_starts t).len
  have a := h.item hl
  have b := a.cat hl
  have c := b.and hl
  have d := c.alt hl
  ⟨d.top, d, fun _ => c, fun _ _ => b, fun _ _ _ => a, fun _ _ _ _ => h⟩
theorem par_len {b : Bool} {t : Rx} : 1 ≤ (parB b (fmtT t)).length := (par_starts (fmt_starts t)).len
theorem Rd.par {t : Rx} (h : Rd s t) : AtomRd s t (40 :: (fmtT t ++ [41])) := h.top.paren (fmt_starts t)
theorem Rd.pAtom {t : Rx} (h : Rd s t) : AtomRd s t (parB (t.isCat || t.isAlt || t.isAnd || t.isNot) (fmtT t)) := by
  unfold parB
  split
  · exact h.par
  · rename_i hb
    simp only [Bool.not_eq_true, Bool.or_eq_false_iff] at hb
    exact h.atom hb.1.1.2 hb.1.2 hb.1.1.1 hb.2
theorem Rd.pItem {t : Rx} (h : Rd s t) : ItemRd s t (parB (t.isCat || t.isAlt || t.isAnd) (fmtT t)) := by
  unfold parB
  split
  · exact h.par.item (by simp)
  · rename_i hb
    simp only [Bool.not_eq_true, Bool.or_eq_false_iff] at hb
    exact h.item hb.1.2 hb.2 hb.1.1
theorem Rd.pCat {t : Rx} (h : Rd s t) : CatRd s t (parB (t.isAlt || t.isAnd) (fmtT t)) := by
  unfold parB
  split
  · exact (h.par.item (by simp)).cat (by simp)
  · rename_i hb
    simp only [Bool.not_eq_true, Bool.or_eq_false_iff] at hb
    exact h.cat hb.1 hb.2
theorem Rd.pAnd {t : Rx} (h : Rd s t) : AndRd s t (parB t.isAlt (fmtT t)) := by
  unfold parB
  split
  · exact ((h.par.item (by simp)).cat (by simp)).and (by simp)
  · rename_i hb
    exact h.and (by simpa using hb)
theorem rd_all : ∀ (t : Rx), OkT t → Rd s t
  | .none, _ => Rd.of_atom none_rd
  | .empty, _ => Rd.of_atom empty_rd
  | .cls c, _ => Rd.of_atom (cls_rd c)
  | .rep l lo hi, h => Rd.of_atom (rep_rd (rd_all l h.1).pAtom h.2.1 h.2.2)
  | .not l, h =>
    have hl := (fmt_starts (.not l)).len
    have a : ItemRd s (.not l) (fmtT (.not l)) := not_rd (rd_all l h).pItem
    have b := a.cat hl
    have c := b.and hl
    have d := c.alt hl
    ⟨d.top, d, fun _ => c, fun _ _ => b, fun _ _ _ => a, fun _ _ _ e => (by cases e)⟩
  | .cat l r, h =>
    have hl := (fmt_starts (.cat l r)).len
    have b : CatRd s (.cat l r) (fmtT (.cat l r)) := cat_rd (rd_all l h.1).pCat (rd_all r h.2).pItem (par_starts (fmt_starts r)) par_len
    have c := b.and hl
    have d := c.alt hl
    ⟨d.top, d, fun _ => c, fun _ _ => b, fun _ _ e => (by cases e), fun _ _ e => (by cases e)⟩
  | .and l r, h =>
    have hl := (fmt_starts (.and l r)).len
    have c : AndRd s (.and l r) (fmtT (.and l r)) := and_rd (rd_all l h.1).pAnd (rd_all r h.2).pCat par_len
    have d := c.alt hl
    ⟨d.top, d, fun _ => c, fun _ e => (by cases e), fun _ e => (by cases e), fun _ e => (by cases e)⟩
  | .alt l r, h =>
    have d : AltRd s (.alt l r) (fmtT (.alt l r)) := alt_rd (rd_all l h.1).alt (rd_all r h.2).pAnd (fmt_starts l).len
    ⟨d.top, d, fun e => (by cases e), fun e => (by cases e), fun e => (by cases e), fun e => (by cases e)⟩
end
/-- the parser gives back the tree whose text it reads. -/
theorem parse_fmt {t : Rx} (h : OkT t) (hs : t.size ≤ 200) (hl : (fmtT t).length ≤ 4000) (f : Nat) (hf : (fmtT t).length ≤ f) : parseS (fmtT t) (f + 1) = some (.ok (flat t 0)) := by
  have hr : (∀ (y : UInt8), ([] : List UInt8).head? = some y → repC y = false) := fun y hy => by cases hy
  have hi : (∀ (y : UInt8), ([] : List UInt8).head? = some y → startC y = false) := fun y hy => by cases hy
  have h1 := (rd_all (s := fmtT t) t h).top f 0 [] [] hf (by simp) hr hi (by simp) (by simp) (by simp; omega)
  have h4 : ¬ 4000 < (fmtT t).length := by omega
  have h2 : ¬ 200 < t.size := by omega
  unfold parseS
  rw [if_neg h4, h1]
  dsimp only
  have h3 : ¬ 0 + (fmtT t).length < (fmtT t).length := by omega
  have h5 : ¬ 200 < ([] ++ flat t ([] : List Nd).length).length := by rw [List.nil_append, flatT_len]; exact h2
  rw [if_neg h3, if_neg h5]
  rfl
end Go.Proofs.YtgbbjobmcbdhdaaGreatDoor

/-
  Plain: the runs of a class, one after the other; the lengths of texts. No program is named here.
-/
namespace Go.Proofs.YtgbbjobmcbdhdaaGreatDoor

theorem runs_first {x : Nat} {l : List Nat} : ∃ e rs, runs (x :: l) = (x, e) :: rs := by
  rw [runs]
  split
  · exact ⟨_, _, rfl⟩
  · split
    · exact ⟨_, _, rfl⟩
    · exact ⟨_, _, rfl⟩
theorem drop_getD {l : List Nat} {k : Nat} (h : k < l.length) : l.drop k = l.getD k 0 :: l.drop (k + 1) := by
  rw [List.drop_eq_getElem_cons h, List.getD_eq_getElem?_getD, List.getElem?_eq_getElem h]; rfl
theorem runs_step : ∀ (d : Nat) (l : List Nat) (k : Nat), k + d < l.length → (∀ j, k ≤ j → j < k + d → l.getD (j + 1) 0 = l.getD j 0 + 1) → (k + d + 1 = l.length ∨ l.getD (k + d + 1) 0 ≠ l.getD (k + d) 0 + 1) →
    runs (l.drop k) = (l.getD k 0, l.getD (k + d) 0) :: runs (l.drop (k + d + 1))
  | 0, l, k, h, _, h2 => by
    rw [Nat.add_zero] at h h2 ⊢
    rw [drop_getD h, runs]
    rcases Nat.lt_or_ge (k + 1) l.length with hlt | hge
    · rw [drop_getD hlt]
      obtain ⟨e, rs, hr⟩ := runs_first (x := l.getD (k + 1) 0) (l := l.drop (k + 1 + 1))
      rw [hr]
      dsimp only
      rw [if_neg (by rcases h2 with h2 | h2 <;> omega)]
    · rw [List.drop_eq_nil_of_le hge]; rfl
  | d + 1, l, k, h, h1, h2 => by
    have ih := runs_step d l (k + 1) (by omega) (fun j a b => h1 j (by omega) (by omega)) (by rw [show k + 1 + d = k + (d + 1) by omega]; exact h2)
    have h0 := h1 k (Nat.le_refl _) (by omega)
    rw [drop_getD (by omega), runs, ih]
    dsimp only
    rw [if_pos h0, show k + 1 + d = k + (d + 1) by omega]
theorem runs_text (l : List Nat) (k m : Nat) (hkm : k < m) (hm : m ≤ l.length) (h1 : ∀ j, k ≤ j → j + 1 < m → l.getD (j + 1) 0 = l.getD j 0 + 1) (h2 : m = l.length ∨ l.getD m 0 ≠ l.getD (m - 1) 0 + 1) :
    (runs (l.drop k)).flatMap runT = runT (l.getD k 0, l.getD (m - 1) 0) ++ (runs (l.drop m)).flatMap runT := by
  have := runs_step (m - 1 - k) l k (by omega) (fun j a b => h1 j a (by omega)) (by
    rw [show k + (m - 1 - k) + 1 = m by omega, show k + (m - 1 - k) = m - 1 by omega]
    rcases h2 with h2 | h2
    · exact .inl h2
    · exact .inr h2)
  rw [show k + (m - 1 - k) + 1 = m by omega, show k + (m - 1 - k) = m - 1 by omega] at this
  rw [this, List.flatMap_cons]
theorem memN_incr (c : BitVec 256) : (memN c).Pairwise (· < ·) := List.Pairwise.filter _ List.pairwise_lt_range
theorem memN_len (c : BitVec 256) : (memN c).length ≤ 256 := by
  have := List.length_filter_le (mem c) (List.range 256)
  rwa [List.length_range] at this
theorem memN_next {c : BitVec 256} {j : Nat} (h : j + 1 < (memN c).length) : (memN c).getD j 0 < (memN c).getD (j + 1) 0 := by
  have h1 := List.pairwise_iff_getElem.1 (memN_incr c) j (j + 1) (by omega) h (by omega)
  rw [List.getD_eq_getElem?_getD, List.getD_eq_getElem?_getD, List.getElem?_eq_getElem h, List.getElem?_eq_getElem (show j < (memN c).length by omega)]
  exact h1
theorem memN_lt {c : BitVec 256} {j : Nat} (h : j < (memN c).length) : (memN c).getD j 0 < 256 := by
  rw [List.getD_eq_getElem?_getD, List.getElem?_eq_getElem h]
  exact (mem_memN.1 (List.getElem_mem h)).1
theorem runs_length : ∀ (l : List Nat), (runs l).length ≤ l.length
  | [] => Nat.le_refl _
  | x :: l => by
    have ih := runs_length l
    rw [runs]
    split
    · simp
    · rename_i r rs hr
      rw [hr] at ih
      split
      · simpa using Nat.le_succ_of_le ih
      · simpa using ih
theorem runsT_len (l : List (Nat × Nat)) : (l.flatMap runT).length ≤ 9 * l.length := by
  induction l with
  | nil => simp
  | cons r l ih =>
    have := (runT_len r).2
    simp only [List.flatMap_cons, List.length_append, List.length_cons]; omega
theorem clsT_len (c : BitVec 256) : (clsT c).length ≤ 2306 := by
  have a := runsT_len (runs (memN c))
  have b := runs_length (memN c)
  have d := memN_len c
  unfold clsT
  split
  · simp
  · split
    · have := (charT_len ((memN c).headD 0)).2; omega
    · simp only [List.length_cons, List.length_append, List.length_nil]; omega
theorem parB_len (b : Bool) (l : List UInt8) : l.length ≤ (parB b l).length ∧ (parB b l).length ≤ l.length + 2 := by
  unfold parB
  split
  · simp only [List.length_cons, List.length_append, List.length_nil]; omega
  · omega
theorem fmt_len : ∀ (t : Rx), (fmtT t).length ≤ 2320 * t.size
  | .none => by decide
  | .empty => by decide
  | .cls c => by have := clsT_len c; simp only [fmtT, Rx.size]; omega
  | .cat l r => by
    have a := fmt_len l
    have b := fmt_len r
    have c := (parB_len (l.isAlt || l.isAnd) (fmtT l)).2
    have d := (parB_len (r.isCat || r.isAlt || r.isAnd) (fmtT r)).2
    simp only [fmtT, Rx.size, List.length_append]; omega
  | .alt l r => by
    have a := fmt_len l
    have b := fmt_len r
    have d := (parB_len r.isAlt (fmtT r)).2
    simp only [fmtT, Rx.size, List.length_append, List.length_cons]; omega
  | .and l r => by
    have a := fmt_len l
    have b := fmt_len r
    have c := (parB_len l.isAlt (fmtT l)).2
    have d := (parB_len (r.isAlt || r.isAnd) (fmtT r)).2
    simp only [fmtT, Rx.size, List.length_append, List.length_cons]; omega
  | .not l => by
    have a := fmt_len l
    have c := (parB_len (l.isCat || l.isAlt || l.isAnd) (fmtT l)).2
    simp only [fmtT, Rx.size, List.length_cons]; omega
  | .rep l lo hi => by
    have a := fmt_len l
    have c := (parB_len (l.isCat || l.isAlt || l.isAnd || l.isNot) (fmtT l)).2
    have d := (repT_len lo hi).2
    simp only [fmtT, Rx.size, List.length_append]; omega
/-- the size of a tree in a list of nodes, all of whose nodes are used once, is bounded by the list's. -/
theorem charT_of {y : Nat} (h : plainB (UInt8.ofNat y) = true) : charT y = [UInt8.ofNat y] := by unfold charT; rw [if_pos h]
theorem charT_hex {y : Nat} (h : plainB (UInt8.ofNat y) = false) : charT y = [92, 120, hexD (y / 16), hexD (y % 16)] := by unfold charT; rw [if_neg (by rw [h]; decide)]
end Go.Proofs.YtgbbjobmcbdhdaaGreatDoor
