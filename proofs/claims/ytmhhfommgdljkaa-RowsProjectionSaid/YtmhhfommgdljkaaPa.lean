/-
  Systems of rows, boxes, refutations: the plain mathematics. No program is named here.
-/
import Derived.WalkKit
set_option linter.unusedSimpArgs false
set_option linter.unusedVariables false
namespace Go.Proofs.Ytmhhfommgdljkaa
/-- a row: coefficients and a constant. -/
structure Rw where
  A : List Int
  C : Int
deriving DecidableEq
/-- a system: upper bounds and rows. -/
structure Sy where
  T : List Int
  R : List Rw
/-- a variable's values, and the rows of the branch that say so. -/
structure Iv where
  lo : Int
  hi : Int
  lr : Int
  hr : Int
def dot : List Int → List Int → Int
  | a :: A, x :: X => a * x + dot A X
  | _, _ => 0
def grd : List Int → List Iv → Int
  | a :: A, v :: B => max (a * v.lo) (a * v.hi) + grd A B
  | _, _ => 0
def val (r : Rw) (x : List Int) : Int := r.C + dot r.A x
def gr (r : Rw) (b : List Iv) : Int := r.C + grd r.A b
def inside (m a : Int) : Bool := decide (-m ≤ a) && decide (a ≤ m)
def withinB (r : Rw) (m : Int) : Bool := r.A.all (inside m) && inside m r.C
def okTop (t : Int) : Bool := decide (0 ≤ t) && decide (t ≤ 64)
def okRow (n : Nat) (r : Rw) : Bool := decide (r.A.length = n) && withinB r 1000
def validB (s : Sy) : Bool := decide (1 ≤ s.T.length ∧ s.T.length ≤ 12 ∧ s.R.length ≤ 24) && (s.T.all okTop && s.R.all (okRow s.T.length))
def holdsB (r : Rw) (x : List Int) : Bool :=
  decide (r.A.length = x.length ∧ x.length ≤ 12) && (withinB r 1048576 && (x.all (inside 1048576) && decide (0 ≤ val r x)))
/-- the number of candidate points. -/
def vol : List Iv → Nat
  | [] => 1
  | v :: b => (v.hi - v.lo + 1).toNat * vol b
def pts : List Int → Int
  | [] => 1
  | t :: T => (t + 1) * pts T
/-- a point of a box. -/
def InB : List Iv → List Int → Prop
  | v :: b, x :: X => v.lo ≤ x ∧ x ≤ v.hi ∧ InB b X
  | [], [] => True
  | _, _ => False
theorem InB.length : ∀ {b : List Iv} {x : List Int}, InB b x → x.length = b.length
  | [], [], _ => rfl
  | v :: b, x :: X, h => by simp [InB.length h.2.2]
  | [], _ :: _, h => h.elim
  | _ :: _, [], h => h.elim
theorem InB.iff : ∀ {b : List Iv} {x : List Int}, InB b x ↔ x.length = b.length ∧ ∀ (i : Nat) (v : Iv) (y : Int), b[i]? = some v → x[i]? = some y → v.lo ≤ y ∧ y ≤ v.hi
  | [], [] => by simp [InB]
  | v :: b, x :: X => by
    constructor
    · intro h
      refine ⟨h.length, fun i w y hw hy => ?_⟩
      cases i with
      | zero => simp at hw hy; subst hw; subst hy; exact ⟨h.1, h.2.1⟩
      | succ i => exact (InB.iff.1 h.2.2).2 i w y (by simpa using hw) (by simpa using hy)
    · intro ⟨h1, h2⟩
      have h0 := h2 0 v x rfl rfl
      exact ⟨h0.1, h0.2, InB.iff.2 ⟨by simpa using h1, fun i w y hw hy => h2 (i + 1) w y (by simpa using hw) (by simpa using hy)⟩⟩
  | [], _ :: _ => by simp [InB]
  | _ :: _, [] => by simp [InB]
theorem mul_le_grd (a x lo hi : Int) (h1 : lo ≤ x) (h2 : x ≤ hi) : a * x ≤ max (a * lo) (a * hi) := by
  rcases Int.le_total 0 a with h | h
  · have := Int.mul_le_mul_of_nonneg_left h2 h; omega
  · have := Int.mul_le_mul_of_nonpos_left h h1; omega
theorem dot_le_grd : ∀ {A : List Int} {b : List Iv} {x : List Int}, InB b x → dot A x ≤ grd A b
  | [], _, _, _ => by simp [dot, grd]
  | a :: A, [], [], _ => by simp [dot, grd]
  | a :: A, v :: b, x :: X, h => by
    have h1 := mul_le_grd a x v.lo v.hi h.1 h.2.1
    have h2 := dot_le_grd (A := A) h.2.2
    simp only [dot, grd]; omega
  | _, [], _ :: _, h => h.elim
  | _, _ :: _, [], h => h.elim
theorem val_le_gr {r : Rw} {b : List Iv} {x : List Int} (h : InB b x) : val r x ≤ gr r b := by
  unfold val gr; have := dot_le_grd (A := r.A) h; omega
/-- the lower corner. -/
def lows (b : List Iv) : List Int := b.map (·.lo)
theorem lows_in : ∀ {b : List Iv}, (∀ v ∈ b, v.lo ≤ v.hi) → InB b (lows b)
  | [], _ => trivial
  | v :: b, h => ⟨Int.le_refl _, h v (by simp), lows_in fun u hu => h u (by simp [hu])⟩
theorem grd_point : ∀ {A : List Int} {b : List Iv}, (∀ v ∈ b, v.lo = v.hi) → grd A b = dot A (lows b)
  | [], b, _ => by simp [grd, dot]
  | a :: A, [], _ => by simp [grd, dot, lows]
  | a :: A, v :: b, h => by
    have h0 := h v (by simp)
    have h2 := grd_point (A := A) (b := b) fun u hu => h u (by simp [hu])
    simp only [grd, dot, lows, List.map_cons] at h2 ⊢
    rw [h2, ← h0]; omega
theorem point_of : ∀ {b : List Iv} {x : List Int}, (∀ v ∈ b, v.lo = v.hi) → InB b x → x = lows b
  | [], [], _, _ => rfl
  | v :: b, x :: X, h, hx => by
    have h0 := h v (by simp)
    rw [point_of (b := b) (fun u hu => h u (by simp [hu])) hx.2.2]
    have h1 := hx.1
    have h2 := hx.2.1
    simp only [lows, List.map_cons, List.cons.injEq, and_true]; omega
  | [], _ :: _, _, h => h.elim
  | _ :: _, [], _, h => h.elim
/-- all rows hold. -/
def Sol (rs : List Rw) (x : List Int) : Prop := ∀ r ∈ rs, 0 ≤ val r x
def lessB : List Int → List Int → Bool
  | x :: X, y :: Y => if x = y then lessB X Y else decide (x < y)
  | _, _ => false
/-- the least solution of a box. -/
structure Least (rs : List Rw) (b : List Iv) (x : List Int) : Prop where
  inb : InB b x
  sol : Sol rs x
  least : ∀ z, InB b z → Sol rs z → lessB z x = false
def NoSol (rs : List Rw) (b : List Iv) : Prop := ∀ z, InB b z → ¬ Sol rs z
theorem lessB_irrefl : ∀ x : List Int, lessB x x = false
  | [] => rfl
  | x :: X => by simp [lessB, lessB_irrefl X]
theorem lessB_asymm : ∀ {x y : List Int}, lessB x y = true → lessB y x = false
  | [], _, h => by simp [lessB] at h
  | _ :: _, [], h => by simp [lessB] at h
  | x :: X, y :: Y, h => by
    simp only [lessB] at h ⊢
    by_cases e : x = y
    · subst e; simp at h ⊢; exact lessB_asymm h
    · rw [if_neg e] at h; rw [if_neg (Ne.symm e)]; simp at h ⊢; omega
theorem less_total : ∀ {x y : List Int}, x.length = y.length → lessB x y = false → lessB y x = false → x = y
  | [], [], _, _, _ => rfl
  | [], _ :: _, h, _, _ => by simp at h
  | _ :: _, [], h, _, _ => by simp at h
  | x :: X, y :: Y, hl, h1, h2 => by
    simp only [lessB] at h1 h2
    by_cases e : x = y
    · subst e; simp at h1 h2; rw [less_total (by simpa using hl) h1 h2]
    · rw [if_neg e] at h1; rw [if_neg (Ne.symm e)] at h2; simp at h1 h2; omega
theorem Least.unique {rs : List Rw} {b : List Iv} {x y : List Int} (h : Least rs b x) (k : Least rs b y) : x = y :=
  less_total (by rw [h.inb.length, k.inb.length]) (k.least x h.inb h.sol) (h.least y k.inb k.sol)
/-- the first row that fails everywhere in the box. -/
def failK (rs : List Rw) (b : List Iv) : Nat := rs.findIdx fun r => decide (gr r b < 0)
theorem failK_lt {rs : List Rw} {b : List Iv} (h : failK rs b < rs.length) : ∃ r, rs[failK rs b]? = some r ∧ gr r b < 0 := by
  have h2 := List.findIdx_getElem (w := h)
  exact ⟨_, List.getElem?_eq_getElem h, of_decide_eq_true h2⟩
theorem failK_no {rs : List Rw} {b : List Iv} (h : ¬ failK rs b < rs.length) : ∀ r ∈ rs, 0 ≤ gr r b := by
  intro r hr
  have h1 : failK rs b = rs.length := Nat.le_antisymm (List.findIdx_le_length ..) (by omega)
  have h2 := List.findIdx_eq_length.1 h1 r hr
  have h3 := of_decide_eq_false h2
  omega
theorem failK_eq {rs : List Rw} {b : List Iv} {k : Nat} {r : Rw} (hk : rs[k]? = some r) (hr : gr r b < 0) (hb : ∀ (j : Nat) (q : Rw), j < k → rs[j]? = some q → 0 ≤ gr q b) : failK rs b = k := by
  obtain ⟨hlt, rfl⟩ := List.getElem?_eq_some_iff.1 hk
  unfold failK
  rw [List.findIdx_eq hlt]
  refine ⟨by simpa using hr, fun j hj => ?_⟩
  have := hb j _ hj (List.getElem?_eq_getElem (by omega))
  simpa using this
theorem failK_none {rs : List Rw} {b : List Iv} (hb : ∀ (j : Nat) (q : Rw), rs[j]? = some q → 0 ≤ gr q b) : failK rs b = rs.length := by
  unfold failK
  rw [List.findIdx_eq_length]
  intro r hr
  obtain ⟨j, hj, rfl⟩ := List.mem_iff_getElem.1 hr
  have := hb j _ (List.getElem?_eq_getElem hj)
  simpa using this
theorem noSol_of_fail {rs : List Rw} {b : List Iv} (h : failK rs b < rs.length) : NoSol rs b := by
  obtain ⟨r, hr, hg⟩ := failK_lt h
  intro z hz hs
  have h1 := hs r (List.mem_of_getElem? hr)
  have h2 := val_le_gr (r := r) hz
  omega
/-- the first variable with several values. -/
def openK (b : List Iv) : Nat := b.findIdx fun v => decide (v.lo < v.hi)
theorem openK_lt {b : List Iv} (h : openK b < b.length) : ∃ v, b[openK b]? = some v ∧ v.lo < v.hi := by
  have h2 := List.findIdx_getElem (w := h)
  exact ⟨_, List.getElem?_eq_getElem h, of_decide_eq_true h2⟩
theorem openK_before {b : List Iv} {j : Nat} {v : Iv} (hj : j < openK b) (hv : b[j]? = some v) : v.hi ≤ v.lo := by
  have h := List.not_of_lt_findIdx hj
  obtain ⟨hlt, rfl⟩ := List.getElem?_eq_some_iff.1 hv
  have h2 : ¬ (b[j].lo < b[j].hi) := by simpa using h
  omega
theorem openK_no {b : List Iv} (h : ¬ openK b < b.length) : ∀ v ∈ b, v.hi ≤ v.lo := by
  intro v hv
  obtain ⟨j, hj, rfl⟩ := List.mem_iff_getElem.1 hv
  exact openK_before (by omega) (List.getElem?_eq_getElem hj)
theorem openK_eq {b : List Iv} {k : Nat} {v : Iv} (hk : b[k]? = some v) (hr : v.lo < v.hi) (hb : ∀ (j : Nat) (q : Iv), j < k → b[j]? = some q → q.hi ≤ q.lo) : openK b = k := by
  obtain ⟨hlt, rfl⟩ := List.getElem?_eq_some_iff.1 hk
  unfold openK
  rw [List.findIdx_eq hlt]
  refine ⟨by simpa using hr, fun j hj => ?_⟩
  have := hb j _ hj (List.getElem?_eq_getElem (by omega))
  simpa using this
theorem openK_none {b : List Iv} (hb : ∀ (j : Nat) (q : Iv), b[j]? = some q → q.hi ≤ q.lo) : openK b = b.length := by
  unfold openK
  rw [List.findIdx_eq_length]
  intro r hr
  obtain ⟨j, hj, rfl⟩ := List.mem_iff_getElem.1 hr
  have := hb j _ (List.getElem?_eq_getElem hj)
  simpa using this
/-- no interval is empty. -/
def Full (b : List Iv) : Prop := ∀ v ∈ b, 0 ≤ v.lo ∧ v.lo ≤ v.hi ∧ v.hi ≤ 64
theorem least_leaf {rs : List Rw} {b : List Iv} (hf : ¬ failK rs b < rs.length) (ho : ¬ openK b < b.length) (hb : Full b) : Least rs b (lows b) := by
  have heq : ∀ v ∈ b, v.lo = v.hi := fun v hv => by have := openK_no ho v hv; have := (hb v hv).2.1; omega
  refine ⟨lows_in fun v hv => (hb v hv).2.1, fun r hr => ?_, fun z hz _ => ?_⟩
  · have h1 := failK_no hf r hr
    unfold gr at h1; rw [grd_point heq] at h1; exact h1
  · rw [point_of heq hz]; exact lessB_irrefl _
/-- the two halves of a box at a variable. -/
def lower (b : List Iv) (i : Nat) (v : Iv) (h : Int) : List Iv := b.set i { v with hi := (v.lo + v.hi) / 2, hr := h }
def upper (b : List Iv) (i : Nat) (v : Iv) (l : Int) : List Iv := b.set i { v with lo := (v.lo + v.hi) / 2 + 1, lr := l }
theorem set_at {α : Type} {b : List α} {i : Nat} {v u : α} (h : b[i]? = some v) (j : Nat) : (b.set i u)[j]? = if j = i then some u else b[j]? := by
  obtain ⟨hlt, _⟩ := List.getElem?_eq_some_iff.1 h
  rw [List.getElem?_set]
  by_cases e : i = j
  · subst e; simp [hlt]
  · rw [if_neg e, if_neg (Ne.symm e)]
theorem mem_set_of {α : Type} {b : List α} {i : Nat} {u w : α} (h : w ∈ b.set i u) : w ∈ b ∨ w = u := by
  rcases List.mem_or_eq_of_mem_set h with h | h
  · exact .inl h
  · exact .inr h
theorem Full.lower {b : List Iv} {i : Nat} {v : Iv} (hb : Full b) (hv : b[i]? = some v) (h : v.lo < v.hi) (k : Int) : Full (lower b i v k) := fun w hw => by
  rcases mem_set_of hw with h1 | rfl
  · exact hb w h1
  · have := hb v (List.mem_of_getElem? hv); simp only; omega
theorem Full.upper {b : List Iv} {i : Nat} {v : Iv} (hb : Full b) (hv : b[i]? = some v) (h : v.lo < v.hi) (k : Int) : Full (upper b i v k) := fun w hw => by
  rcases mem_set_of hw with h1 | rfl
  · exact hb w h1
  · have := hb v (List.mem_of_getElem? hv); simp only; omega
theorem InB.of_lower {b : List Iv} {i : Nat} {v : Iv} {z : List Int} (hv : b[i]? = some v) (h : v.lo ≤ v.hi) {k : Int} (hz : InB (lower b i v k) z) : InB b z ∧ ∀ y, z[i]? = some y → y ≤ (v.lo + v.hi) / 2 := by
  rw [InB.iff] at hz ⊢
  obtain ⟨h1, h2⟩ := hz
  refine ⟨⟨by rw [h1]; simp [Go.Proofs.Ytmhhfommgdljkaa.lower], fun j w y hw hy => ?_⟩, fun y hy => ?_⟩
  · by_cases e : j = i
    · subst e
      rw [hv] at hw; cases hw
      have := h2 j _ y (by rw [Go.Proofs.Ytmhhfommgdljkaa.lower, set_at hv, if_pos rfl]) hy
      simp only at this; omega
    · exact h2 j w y (by rw [Go.Proofs.Ytmhhfommgdljkaa.lower, set_at hv, if_neg e]; exact hw) hy
  · exact (h2 i _ y (by rw [Go.Proofs.Ytmhhfommgdljkaa.lower, set_at hv, if_pos rfl]) hy).2
theorem InB.of_upper {b : List Iv} {i : Nat} {v : Iv} {z : List Int} (hv : b[i]? = some v) (h : v.lo ≤ v.hi) {k : Int} (hz : InB (upper b i v k) z) : InB b z ∧ ∀ y, z[i]? = some y → (v.lo + v.hi) / 2 < y := by
  rw [InB.iff] at hz ⊢
  obtain ⟨h1, h2⟩ := hz
  refine ⟨⟨by rw [h1]; simp [Go.Proofs.Ytmhhfommgdljkaa.upper], fun j w y hw hy => ?_⟩, fun y hy => ?_⟩
  · by_cases e : j = i
    · subst e
      rw [hv] at hw; cases hw
      have := h2 j _ y (by rw [Go.Proofs.Ytmhhfommgdljkaa.upper, set_at hv, if_pos rfl]) hy
      simp only at this; omega
    · exact h2 j w y (by rw [Go.Proofs.Ytmhhfommgdljkaa.upper, set_at hv, if_neg e]; exact hw) hy
  · have := (h2 i _ y (by rw [Go.Proofs.Ytmhhfommgdljkaa.upper, set_at hv, if_pos rfl]) hy).1; simp only at this; omega
theorem InB.split {b : List Iv} {i : Nat} {v : Iv} {z : List Int} (hv : b[i]? = some v) (hz : InB b z) (k l : Int) : InB (lower b i v k) z ∨ InB (upper b i v l) z := by
  have hlen := hz.length
  rw [InB.iff] at hz
  obtain ⟨hlt, _⟩ := List.getElem?_eq_some_iff.1 hv
  have hzi : z[i]? = some (z[i]'(by omega)) := List.getElem?_eq_getElem (by omega)
  generalize z[i]'(by omega) = y at hzi
  have hy := hz.2 i v y hv hzi
  by_cases hle : y ≤ (v.lo + v.hi) / 2
  · left
    rw [InB.iff]
    refine ⟨by rw [hlen]; simp [Go.Proofs.Ytmhhfommgdljkaa.lower], fun j w u hw hu => ?_⟩
    rw [Go.Proofs.Ytmhhfommgdljkaa.lower, set_at hv] at hw
    by_cases e : j = i
    · subst e; rw [if_pos rfl] at hw; cases hw; rw [hzi] at hu; cases hu; exact ⟨hy.1, hle⟩
    · rw [if_neg e] at hw; exact hz.2 j w u hw hu
  · right
    rw [InB.iff]
    refine ⟨by rw [hlen]; simp [Go.Proofs.Ytmhhfommgdljkaa.upper], fun j w u hw hu => ?_⟩
    rw [Go.Proofs.Ytmhhfommgdljkaa.upper, set_at hv] at hw
    by_cases e : j = i
    · subst e; rw [if_pos rfl] at hw; cases hw; rw [hzi] at hu; cases hu; exact ⟨by simp only; omega, hy.2⟩
    · rw [if_neg e] at hw; exact hz.2 j w u hw hu
theorem lessB_at : ∀ {i : Nat} {x z : List Int} {p q : Int}, (∀ (j : Nat) (a c : Int), j < i → x[j]? = some a → z[j]? = some c → a = c) → x[i]? = some p → z[i]? = some q → p < q → lessB z x = false
  | 0, x :: X, z :: Z, p, q, _, hp, hq, h => by
    simp at hp hq; subst hp; subst hq; simp [lessB, show ¬ z = x by omega]; omega
  | i + 1, x :: X, z :: Z, p, q, he, hp, hq, h => by
    have e := he 0 x z (by omega) rfl rfl
    subst e
    simp only [lessB, if_true]
    exact lessB_at (i := i) (fun j a c hj ha hc => he (j + 1) a c (by omega) (by simpa using ha) (by simpa using hc)) (by simpa using hp) (by simpa using hq) h
  | _, [], _, _, _, _, hp, _, _ => by simp at hp
  | _, _ :: _, [], _, _, _, _, hq, _ => by simp at hq
theorem Least.of_lower {rs : List Rw} {b : List Iv} {v : Iv} {x : List Int} (hi : openK b < b.length) (hb : Full b) (hv : b[openK b]? = some v) {k : Int} (h : Least rs (lower b (openK b) v k) x) : Least rs b x := by
  have hvv := hb v (List.mem_of_getElem? hv)
  have hx := InB.of_lower hv hvv.2.1 h.inb
  refine ⟨hx.1, h.sol, fun z hz hs => ?_⟩
  rcases InB.split hv hz k k with h1 | h1
  · exact h.least z h1 hs
  · have hzz := InB.of_upper hv hvv.2.1 h1
    have lx := hx.1.length
    have lz := hz.length
    have ex : x[openK b]? = some (x[openK b]'(by omega)) := List.getElem?_eq_getElem (by omega)
    have ez : z[openK b]? = some (z[openK b]'(by omega)) := List.getElem?_eq_getElem (by omega)
    refine lessB_at (i := openK b) (fun j a c hj ha hc => ?_) ex ez (by have := hx.2 _ ex; have := hzz.2 _ ez; omega)
    have hbj : b[j]? = some (b[j]'(by omega)) := List.getElem?_eq_getElem (by omega)
    have h3 := openK_before hj hbj
    have h4 := (InB.iff.1 hx.1).2 j _ _ hbj ha
    have h5 := (InB.iff.1 hz).2 j _ _ hbj hc
    omega
theorem Least.of_upper {rs : List Rw} {b : List Iv} {i : Nat} {v : Iv} {x : List Int} (hvv : v.lo ≤ v.hi) (hv : b[i]? = some v) {k l : Int} (h0 : NoSol rs (lower b i v k)) (h : Least rs (upper b i v l) x) : Least rs b x := by
  have hx := InB.of_upper hv hvv h.inb
  refine ⟨hx.1, h.sol, fun z hz hs => ?_⟩
  rcases InB.split hv hz k l with h1 | h1
  · exact absurd hs (h0 z h1)
  · exact h.least z h1 hs
theorem NoSol.both {rs : List Rw} {b : List Iv} {i : Nat} {v : Iv} (hv : b[i]? = some v) {k l : Int} (h0 : NoSol rs (lower b i v k)) (h1 : NoSol rs (upper b i v l)) : NoSol rs b := fun z hz hs => by
  rcases InB.split hv hz k l with h | h
  · exact h0 z h hs
  · exact h1 z h hs
/-- volumes. -/
theorem vol_pos : ∀ {b : List Iv}, Full b → 1 ≤ vol b
  | [], _ => Nat.le_refl _
  | v :: b, h => by
    have h1 := h v (by simp)
    have h2 := vol_pos (b := b) fun u hu => h u (by simp [hu])
    unfold vol
    exact Nat.mul_pos (by omega) h2
theorem vol_set : ∀ {b : List Iv} {i : Nat} {v : Iv} (u w : Iv), b[i]? = some v → (u.hi - u.lo + 1).toNat + (w.hi - w.lo + 1).toNat = (v.hi - v.lo + 1).toNat → vol (b.set i u) + vol (b.set i w) = vol b
  | [], _, _, _, _, h, _ => by simp at h
  | x :: b, 0, v, u, w, h, e => by
    simp at h; subst h
    simp only [List.set_cons_zero, vol]
    rw [← Nat.add_mul, e]
  | x :: b, i + 1, v, u, w, h, e => by
    simp only [List.set_cons_succ, vol]
    rw [← Nat.mul_add, vol_set u w (by simpa using h) e]
theorem vol_halves {b : List Iv} {i : Nat} {v : Iv} (hv : b[i]? = some v) (h : v.lo < v.hi) (k l : Int) : vol (lower b i v k) + vol (upper b i v l) = vol b :=
  vol_set _ _ hv (by simp only; omega)
/-- a step of a refutation. -/
structure Sp where
  k : Int
  M : List Int
  R : Int
  D : Int
  X : Int
  K : Int
  N : Int
  E : Int
deriving DecidableEq
def plainB (t : Sp) : Bool :=
  if t.k = 1 then decide (t.R = 0 ∧ t.D = 0 ∧ t.X = 0 ∧ t.K = 0 ∧ t.E = 0)
  else if t.k = 2 then decide (t.M = [] ∧ t.X = 0 ∧ t.K = 0 ∧ t.E = 0)
  else if t.k = 3 then decide (t.M = [] ∧ t.R = 0 ∧ t.D = 0)
  else if t.k = 4 then decide (t.M = [] ∧ t.R = 0 ∧ t.D = 0 ∧ t.X = 0 ∧ t.K = 0 ∧ t.N = 0 ∧ t.E = 0)
  else false
def childs (t : Sp) : List Int := if t.k = 1 ∨ t.k = 2 then [t.N] else if t.k = 3 then [t.N, t.E] else []
/-- the children of a step, each greater than the step and used once. -/
def chB (n at_ : Nat) (seen : List Int) : List Int → Option (List Int)
  | [] => some seen
  | c :: cs => if c ≤ at_ ∨ (n : Int) ≤ c ∨ c ∈ seen then none else chB n at_ (c :: seen) cs
def shB (n : Nat) : Nat → List Int → List Sp → Bool
  | _, _, [] => true
  | i, seen, t :: p => plainB t && (match chB n i seen (childs t) with | none => false | some s => shB n (i + 1) s p)
def shapedB (p : List Sp) : Bool := decide (1 ≤ p.length ∧ p.length ≤ 65536) && shB p.length 0 [] p
def addS (m : Int) (r acc : Rw) : Rw := ⟨List.zipWith (fun t a => t + m * a) acc.A r.A, acc.C + m * r.C⟩
def big : Int := 1099511627776
def sumS : List Int → List Rw → Rw → Option Rw
  | [], [], acc => some acc
  | m :: M, r :: br, acc => if 0 ≤ m ∧ m ≤ 1000 then (if withinB (addS m r acc) big = true then sumS M br (addS m r acc) else none) else none
  | _, _, _ => none
def zeroR (n : Nat) : Rw := ⟨List.replicate n 0, 0⟩
def cutS (k d : Int) (br : List Rw) : Option Rw :=
  if 0 ≤ k ∧ 2 ≤ d then (match br[k.toNat]? with
    | none => none
    | some r => if r.A.all (fun a => decide (a % d = 0)) = true then some ⟨r.A.map (· / d), r.C / d⟩ else none) else none
def atLeast (n i : Nat) (k : Int) : Rw := ⟨(List.replicate n 0).set i 1, -k⟩
def atMost (n i : Nat) (k : Int) : Rw := ⟨(List.replicate n 0).set i (-1), k⟩
def splitS (x k : Int) (n : Nat) : Option (Rw × Rw) :=
  if 0 ≤ x ∧ x < n ∧ -1048576 ≤ k ∧ k ≤ 1048576 then some (atMost n x.toNat k, atLeast n x.toNat (k + 1)) else none
def absurdB (r : Rw) : Bool := r.A.all (fun a => decide (a ≤ 0)) && decide (r.C < 0)
def width (br : List Rw) : Nat := match br with | [] => 0 | r :: _ => r.A.length
/-- the rows that a step adds for its children. -/
def addedS (t : Sp) (br : List Rw) : Option (List Rw) :=
  if t.k = 1 then (sumS t.M br (zeroR (width br))).map fun r => [r]
  else if t.k = 2 then (cutS t.R t.D br).map fun r => [r]
  else if t.k = 3 then (splitS t.X t.K (width br)).map fun q => [q.1, q.2]
  else match br.getLast? with
    | none => none
    | some r => if absurdB r = true then some [] else none
/-- whether a step on a branch leads to closed branches alone. -/
def clF (p : List Sp) : Nat → Nat → List Rw → Bool
  | 0, _, _ => false
  | f + 1, i, br => match p[i]? with
    | none => false
    | some t => match addedS t br with
      | none => false
      | some rs => ((childs t).zip rs).all fun q => clF p f q.1.toNat (br ++ [q.2])
def givenS (s : Sy) : List Rw := s.R ++ ((List.range s.T.length).map (fun i => atLeast s.T.length i 0) ++ s.T.mapIdx (fun i t => atMost s.T.length i t))
def checkB (s : Sy) (p : List Sp) : Bool := validB s && (shapedB p && clF p p.length 0 (givenS s))

theorem chB_some {n i : Nat} : ∀ {cs seen s : List Int}, chB n i seen cs = some s → ∀ c ∈ cs, (i : Int) < c ∧ c < n
  | [], _, _, _, c, hc => by cases hc
  | d :: cs, seen, s, h, c, hc => by
    unfold chB at h
    by_cases e : d ≤ i ∨ (n : Int) ≤ d ∨ d ∈ seen
    · rw [if_pos e] at h; cases h
    · rw [if_neg e] at h
      rcases List.mem_cons.1 hc with rfl | hc
      · omega
      · exact chB_some h c hc
theorem shB_child {n : Nat} : ∀ {p : List Sp} {i : Nat} {seen : List Int}, shB n i seen p = true → ∀ j t, p[j]? = some t → ∀ c ∈ childs t, ((i + j : Nat) : Int) < c ∧ c < n
  | [], _, _, _, j, t, h, _, _ => by simp at h
  | u :: p, i, seen, h, j, t, ht, c, hc => by
    simp only [shB, Bool.and_eq_true] at h
    obtain ⟨_, h2⟩ := h
    cases hs : chB n i seen (childs u) with
    | none => rw [hs] at h2; cases h2
    | some s =>
      rw [hs] at h2
      cases j with
      | zero => simp at ht; subst ht; simpa using chB_some hs c hc
      | succ j =>
        have := shB_child h2 j t (by simpa using ht) c hc
        omega
theorem shaped_child {p : List Sp} (h : shapedB p = true) {i : Nat} {t : Sp} (ht : p[i]? = some t) {c : Int} (hc : c ∈ childs t) : (i : Int) < c ∧ c < p.length := by
  simp only [shapedB, Bool.and_eq_true] at h
  simpa using shB_child h.2 i t ht c hc
/-- more fuel than steps left changes nothing. -/
theorem clF_fuel {p : List Sp} (h : shapedB p = true) : ∀ {f g i : Nat} {br : List Rw}, p.length ≤ f + i → p.length ≤ g + i → i < p.length → clF p f i br = clF p g i br
  | 0, _, _, _, h1, _, h3 => by omega
  | _ + 1, 0, _, _, _, h2, h3 => by omega
  | f + 1, g + 1, i, br, h1, h2, h3 => by
    unfold clF
    rw [List.getElem?_eq_getElem h3]
    simp only
    cases addedS p[i] br with
    | none => rfl
    | some rs =>
      simp only
      rw [Bool.eq_iff_iff, List.all_eq_true, List.all_eq_true]
      refine forall_congr' fun q => forall_congr' fun hq => ?_
      have hc := shaped_child h (List.getElem?_eq_getElem h3) (List.of_mem_zip hq).1
      rw [clF_fuel (g := g) h (by omega) (by omega) (by omega)]
def clP (p : List Sp) (i : Nat) (br : List Rw) : Bool := clF p p.length i br
theorem clP_step {p : List Sp} (h : shapedB p = true) {i : Nat} {t : Sp} (ht : p[i]? = some t) (br : List Rw) :
    clP p i br = match addedS t br with | none => false | some rs => ((childs t).zip rs).all fun q => clP p q.1.toNat (br ++ [q.2]) := by
  obtain ⟨hi, rfl⟩ := List.getElem?_eq_some_iff.1 ht
  unfold clP
  rw [clF_fuel h (g := p.length + 1) (by omega) (by omega) hi]
  show clF p (p.length + 1) i br = _
  rw [clF, List.getElem?_eq_getElem hi]
/-- the weighted sum of a number of each row. -/
def ws (f : Rw → Int) : List Int → List Rw → Int
  | m :: M, r :: br => m * f r + ws f M br
  | _, _ => 0
theorem ws_set {f : Rw → Int} : ∀ {m : List Int} {br : List Rw} {q : Nat} {r : Rw} (c : Int), m[q]? = some 0 → br[q]? = some r → ws f (m.set q c) br = ws f m br + c * f r
  | [], _, _, _, _, h, _ => by simp at h
  | _ :: _, [], _, _, _, _, h => by simp at h
  | m :: M, r :: br, 0, s, c, h1, h2 => by
    simp at h1 h2; subst h1; subst h2; simp only [List.set_cons_zero, ws]; omega
  | m :: M, r :: br, q + 1, s, c, h1, h2 => by
    simp only [List.set_cons_succ, ws]
    rw [ws_set c (by simpa using h1) (by simpa using h2)]; omega
theorem ws_zero {f : Rw → Int} : ∀ {n : Nat} {br : List Rw}, ws f (List.replicate n 0) br = 0
  | 0, _ => by simp [ws]
  | n + 1, [] => by simp [ws, List.replicate_succ]
  | n + 1, r :: br => by simp [ws, List.replicate_succ, ws_zero (n := n) (br := br)]
def co (j : Nat) (r : Rw) : Int := r.A.getD j 0
theorem inside_iff {m a : Int} : inside m a = true ↔ -m ≤ a ∧ a ≤ m := by unfold inside; simp
theorem within_iff {r : Rw} {m : Int} : withinB r m = true ↔ (∀ a ∈ r.A, -m ≤ a ∧ a ≤ m) ∧ -m ≤ r.C ∧ r.C ≤ m := by
  unfold withinB; rw [Bool.and_eq_true, List.all_eq_true, inside_iff]; simp only [inside_iff]
theorem okRow_iff {n : Nat} {r : Rw} : okRow n r = true ↔ r.A.length = n ∧ withinB r 1000 = true := by unfold okRow; simp
theorem mul_small {m a : Int} (h : 0 ≤ m ∧ m ≤ 1000) (k : -1000 ≤ a ∧ a ≤ 1000) : -1000000 ≤ m * a ∧ m * a ≤ 1000000 := by
  have h1 : m * a ≤ m * 1000 := Int.mul_le_mul_of_nonneg_left k.2 h.1
  have h2 : m * (-1000) ≤ m * a := Int.mul_le_mul_of_nonneg_left k.1 h.1
  omega
theorem sum_some {n : Nat} : ∀ {M : List Int} {br : List Rw} {acc : Rw} (B : Int), M.length = br.length → (∀ m ∈ M, 0 ≤ m ∧ m ≤ 1000) → (∀ r ∈ br, okRow n r = true) → acc.A.length = n → withinB acc B = true → B + 1000000 * M.length ≤ big →
    ∃ t, sumS M br acc = some t ∧ t.A.length = n ∧ t.C = acc.C + ws Rw.C M br ∧ ∀ j, j < n → co j t = co j acc + ws (co j) M br
  | [], [], acc, B, _, _, _, hl, _, _ => ⟨acc, rfl, hl, by simp [ws], fun j _ => by simp [ws]⟩
  | m :: M, r :: br, acc, B, h1, h2, h3, hl, hw, hB => by
    have hm := h2 m (by simp)
    have hr := okRow_iff.1 (h3 r (by simp))
    rw [within_iff] at hw
    have hr2 := within_iff.1 hr.2
    have hlen : (addS m r acc).A.length = n := by simp [addS, hr.1, hl]
    have hcj : ∀ j, j < n → co j (addS m r acc) = co j acc + m * co j r := by
      intro j hj
      unfold co addS
      simp only [List.getD_eq_getElem?_getD]
      rw [List.getElem?_zipWith, List.getElem?_eq_getElem (by omega), List.getElem?_eq_getElem (by omega)]
      rfl
    have hwn : withinB (addS m r acc) (B + 1000000) = true := by
      rw [within_iff]
      refine ⟨fun a ha => ?_, ?_⟩
      · obtain ⟨j, hj, rfl⟩ := List.mem_iff_getElem.1 ha
        have hj' : j < n := by omega
        have e := hcj j hj'
        unfold co at e
        simp only [List.getD_eq_getElem?_getD] at e
        rw [List.getElem?_eq_getElem hj, List.getElem?_eq_getElem (by omega), List.getElem?_eq_getElem (by omega)] at e
        simp only [Option.getD_some] at e
        rw [e]
        have q1 := hw.1 _ (List.getElem_mem (l := acc.A) (n := j) (by omega))
        have q2 := mul_small hm (hr2.1 _ (List.getElem_mem (l := r.A) (n := j) (by omega)))
        omega
      · have q2 := mul_small hm hr2.2
        have := hw.2
        show -(B + 1000000) ≤ acc.C + m * r.C ∧ acc.C + m * r.C ≤ B + 1000000
        omega
    simp only [List.length_cons] at hB h1
    obtain ⟨t, ht, hl2, hC, hA⟩ := sum_some (n := n) (M := M) (br := br) (acc := addS m r acc) (B + 1000000) (by omega) (fun x hx => h2 x (by simp [hx])) (fun x hx => h3 x (by simp [hx])) hlen hwn (by omega)
    refine ⟨t, ?_, hl2, ?_, fun j hj => ?_⟩
    · unfold sumS
      rw [if_pos hm, if_pos, ht]
      rw [within_iff] at hwn ⊢
      exact ⟨fun a ha => by have := hwn.1 a ha; omega, by have := hwn.2; omega⟩
    · rw [hC]; simp only [ws, addS]; omega
    · rw [hA j hj, hcj j hj]; simp only [ws]; omega
  | [], _ :: _, _, _, h, _, _, _, _, _ => by simp at h
  | _ :: _, [], _, _, h, _, _, _, _, _ => by simp at h
/-- the multipliers of a row that fails in a box. -/
def mk : List Int → List Iv → List Int → List Int
  | a :: A, v :: b, m => mk A b (if 0 < a then m.set v.hr.toNat a else m.set v.lr.toNat (-a))
  | _, _, m => m
theorem mk_length : ∀ {A : List Int} {b : List Iv} {m : List Int}, (mk A b m).length = m.length
  | [], _, _ => by simp [mk]
  | _ :: _, [], _ => by simp [mk]
  | a :: A, v :: b, m => by unfold mk; rw [mk_length]; split <;> simp
theorem mk_mem : ∀ {A : List Int} {b : List Iv} {m : List Int}, (∀ a ∈ A, -1000 ≤ a ∧ a ≤ 1000) → (∀ x ∈ m, 0 ≤ x ∧ x ≤ 1000) → ∀ x ∈ mk A b m, 0 ≤ x ∧ x ≤ 1000
  | [], _, _, _, h => by simpa [mk] using h
  | _ :: _, [], _, _, h => by simpa [mk] using h
  | a :: A, v :: b, m, h1, h2 => by
    unfold mk
    refine mk_mem (fun x hx => h1 x (by simp [hx])) fun x hx => ?_
    have ha := h1 a (by simp)
    split at hx
    · rcases mem_set_of hx with h | rfl
      · exact h2 x h
      · omega
    · rcases mem_set_of hx with h | rfl
      · exact h2 x h
      · omega
/-- how a branch's rows state a box. -/
structure Rel (rs : List Rw) (n : Nat) (b : List Iv) (br : List Rw) : Prop where
  len : b.length = n
  ok : ∀ r ∈ br, okRow n r = true
  rows : ∀ (k : Nat) (r : Rw), rs[k]? = some r → br[k]? = some r
  pos : ∀ (i : Nat) (v : Iv), b[i]? = some v → 0 ≤ v.lr ∧ 0 ≤ v.hr ∧ rs.length ≤ v.lr.toNat ∧ rs.length ≤ v.hr.toNat
  low : ∀ (i : Nat) (v : Iv), b[i]? = some v → br[v.lr.toNat]? = some (atLeast n i v.lo)
  high : ∀ (i : Nat) (v : Iv), b[i]? = some v → br[v.hr.toNat]? = some (atMost n i v.hi)
theorem co_atLeast {n i j : Nat} (hi : i < n) (k : Int) : co j (atLeast n i k) = if j = i then 1 else 0 := by
  unfold co atLeast
  simp only [List.getD_eq_getElem?_getD, List.getElem?_set, List.length_replicate, List.getElem?_replicate]
  by_cases e : i = j
  · subst e; simp [hi]
  · rw [if_neg e, if_neg (Ne.symm e)]; split <;> rfl
theorem co_atMost {n i j : Nat} (hi : i < n) (k : Int) : co j (atMost n i k) = if j = i then -1 else 0 := by
  unfold co atMost
  simp only [List.getD_eq_getElem?_getD, List.getElem?_set, List.length_replicate, List.getElem?_replicate]
  by_cases e : i = j
  · subst e; simp [hi]
  · rw [if_neg e, if_neg (Ne.symm e)]; split <;> rfl
/-- the position of a bound's row, its multiplier. -/
def posn (a : Int) (v : Iv) : Nat := if 0 < a then v.hr.toNat else v.lr.toNat
def mult (a : Int) : Int := if 0 < a then a else -a
theorem mk_cons (a : Int) (A : List Int) (v : Iv) (b : List Iv) (m : List Int) : mk (a :: A) (v :: b) m = mk A b (m.set (posn a v) (mult a)) := by
  rw [mk]; unfold posn mult; split <;> rfl
theorem Rel.row {rs br : List Rw} {n : Nat} {b : List Iv} (h : Rel rs n b br) {i : Nat} {v : Iv} (hv : b[i]? = some v) (a : Int) : ∃ r, br[posn a v]? = some r ∧ (∀ j, co j r = if j = i then (if 0 < a then -1 else 1) else 0) ∧ mult a * r.C = max (a * v.lo) (a * v.hi) + (if v.lo ≤ v.hi then 0 else mult a * r.C - max (a * v.lo) (a * v.hi)) := by
  have hi : i < n := by rw [← h.len]; exact (List.getElem?_eq_some_iff.1 hv).1
  unfold posn mult
  by_cases ha : 0 < a
  · rw [if_pos ha]
    refine ⟨_, h.high i v hv, fun j => by rw [co_atMost hi, if_pos ha], ?_⟩
    rw [if_pos ha]
    by_cases hl : v.lo ≤ v.hi
    · rw [if_pos hl]
      have := Int.mul_le_mul_of_nonneg_left hl (Int.le_of_lt ha)
      show a * v.hi = _
      omega
    · rw [if_neg hl]; omega
  · rw [if_neg ha]
    refine ⟨_, h.low i v hv, fun j => by rw [co_atLeast hi, if_neg ha], ?_⟩
    rw [if_neg ha]
    by_cases hl : v.lo ≤ v.hi
    · rw [if_pos hl]
      have := Int.mul_le_mul_of_nonpos_left (show a ≤ 0 by omega) hl
      show -a * -v.lo = _
      have e : -a * -v.lo = a * v.lo := by rw [Int.neg_mul_neg]
      omega
    · rw [if_neg hl]; omega
theorem Rel.apart {rs br : List Rw} {n : Nat} {b : List Iv} (h : Rel rs n b br) {i j : Nat} {v u : Iv} (hv : b[i]? = some v) (hu : b[j]? = some u) (hne : i ≠ j) (a c : Int) : posn a v ≠ posn c u := by
  intro e
  obtain ⟨r, hr, h1, _⟩ := h.row hv a
  obtain ⟨q, hq, h2, _⟩ := h.row hu c
  rw [e, hq] at hr
  cases hr
  have e1 := h1 i
  rw [h2 i, if_neg hne, if_pos rfl] at e1
  split at e1 <;> omega
/-- what the multipliers make of the rows. -/
theorem ws_mk {rs br : List Rw} {n : Nat} {B : List Iv} (h : Rel rs n B br) (hB : Full B) (f : Rw → Int) (g : Nat → Int → Iv → Int)
    (hf : ∀ (i : Nat) (v : Iv) (a : Int) (r : Rw), B[i]? = some v → br[posn a v]? = some r → (∀ j, co j r = if j = i then (if 0 < a then -1 else 1) else 0) → mult a * r.C = max (a * v.lo) (a * v.hi) → mult a * f r = g i a v) :
    ∀ (A : List Int) (b : List Iv) (i : Nat) (m : List Int), (∀ j, b[j]? = B[i + j]?) → m.length = br.length → (∀ (j : Nat) (v : Iv) (a : Int), b[j]? = some v → m[posn a v]? = some 0) →
      ws f (mk A b m) br = ws f m br + ((A.zip b).mapIdx fun j q => g (i + j) q.1 q.2).sum
  | [], b, i, m, _, _, _ => by simp [mk]
  | a :: A, [], i, m, _, _, _ => by simp [mk]
  | a :: A, v :: b, i, m, hb, hl, hm => by
    have hv : B[i]? = some v := by have := hb 0; simpa using this.symm
    obtain ⟨r, hr, h1, h2⟩ := h.row hv a
    rw [if_pos (hB v (List.mem_of_getElem? hv)).2.1, Int.add_zero] at h2
    rw [mk_cons, ws_mk h hB f g hf A b (i + 1) _ (fun j => by have := hb (j + 1); simp only [List.getElem?_cons_succ] at this; rw [this]; congr 1; omega) (by simp [hl]) (fun j u c hu => by
      have hu' : B[i + 1 + j]? = some u := by have := hb (j + 1); simp only [List.getElem?_cons_succ] at this; rw [← hu, this]; congr 1; omega
      have hne := h.apart hv hu' (by omega) a c
      rw [List.getElem?_set_ne hne]
      exact hm (j + 1) u c (by simpa using hu))]
    rw [ws_set _ (hm 0 v a rfl) hr, hf i v a r hv hr h1 h2]
    have e : ∀ j, i + 1 + j = i + (j + 1) := fun j => by omega
    simp only [List.zip_cons_cons, List.mapIdx_cons, List.sum_cons, Nat.add_zero, e]
    omega
theorem sum_neg_self : ∀ (A : List Int) (b : List Iv) (i j : Nat), A.length = b.length →
    ((A.zip b).mapIdx fun l q => if j = i + l then -q.1 else 0).sum = if i ≤ j then -(A.getD (j - i) 0) else 0
  | [], [], i, j, _ => by simp
  | a :: A, v :: b, i, j, h => by
    have e : ∀ l, (i + 1) + l = i + (l + 1) := fun l => by omega
    have ih := sum_neg_self A b (i + 1) j (by simpa using h)
    simp only [e] at ih
    simp only [List.zip_cons_cons, List.mapIdx_cons, List.sum_cons, Nat.add_zero]
    rw [ih]
    by_cases h1 : j = i
    · subst h1; rw [if_pos rfl, if_neg (by omega), if_pos (Nat.le_refl _)]; simp
    · rw [if_neg h1]
      by_cases h2 : i ≤ j
      · rw [if_pos h2, if_pos (by omega)]
        have : j - i = (j - (i + 1)) + 1 := by omega
        rw [this]; simp
      · rw [if_neg h2, if_neg (by omega)]; simp
  | [], _ :: _, _, _, h => by simp at h
  | _ :: _, [], _, _, h => by simp at h
theorem sum_grd : ∀ (A : List Int) (b : List Iv), ((A.zip b).mapIdx fun _ q => max (q.1 * q.2.lo) (q.1 * q.2.hi)).sum = grd A b
  | [], _ => by simp [grd]
  | _ :: _, [] => by simp [grd]
  | a :: A, v :: b => by
    simp only [List.zip_cons_cons, List.mapIdx_cons, List.sum_cons, grd]
    rw [sum_grd A b]
theorem width_ok {n : Nat} {br : List Rw} (h : ∀ r ∈ br, okRow n r = true) (h0 : 0 < br.length) : width br = n := by
  cases br with
  | nil => simp at h0
  | cons r br => exact (okRow_iff.1 (h r (by simp))).1
def leafM (r : Rw) (b : List Iv) (k size : Nat) : List Int := mk r.A b ((List.replicate size 0).set k 1)
theorem leaf_sum {rs br : List Rw} {n : Nat} {b : List Iv} (h : Rel rs n b br) (hb : Full b) {k : Nat} {r : Rw} (hr : rs[k]? = some r) (hg : gr r b < 0) (hs : br.length ≤ 1000000) :
    ∃ t, sumS (leafM r b k br.length) br (zeroR (width br)) = some t ∧ absurdB t = true := by
  have hbr := h.rows k r hr
  obtain ⟨hk, _⟩ := List.getElem?_eq_some_iff.1 hbr
  obtain ⟨hk2, _⟩ := List.getElem?_eq_some_iff.1 hr
  have hok := okRow_iff.1 (h.ok r (List.mem_of_getElem? hbr))
  have hw := within_iff.1 hok.2
  have hM : ∀ m ∈ leafM r b k br.length, 0 ≤ m ∧ m ≤ 1000 := mk_mem hw.1 fun x hx => by
    rcases mem_set_of hx with h1 | rfl
    · have := List.eq_of_mem_replicate h1; omega
    · omega
  have hl : (leafM r b k br.length).length = br.length := by unfold leafM; rw [mk_length]; simp
  rw [width_ok h.ok (by omega)]
  obtain ⟨t, ht, hn, hC, hA⟩ := sum_some (n := n) (acc := zeroR n) 0 hl hM h.ok (by simp [zeroR]) (by rw [within_iff]; simp [zeroR]) (by rw [hl]; unfold big; omega)
  have hm0 : ∀ (j : Nat) (v : Iv) (a : Int), b[j]? = some v → ((List.replicate br.length (0 : Int)).set k 1)[posn a v]? = some 0 := fun j v a hv => by
    have hp := h.pos j v hv
    obtain ⟨q, hq, _⟩ := h.row hv a
    obtain ⟨hq2, _⟩ := List.getElem?_eq_some_iff.1 hq
    have hne : k ≠ posn a v := by unfold posn; split <;> omega
    rw [List.getElem?_set_ne hne, List.getElem?_replicate, if_pos hq2]
  have hset : ∀ f : Rw → Int, ws f ((List.replicate br.length (0 : Int)).set k 1) br = f r := fun f => by
    rw [ws_set 1 (by rw [List.getElem?_replicate, if_pos hk]) hbr, ws_zero]; omega
  refine ⟨t, ht, ?_⟩
  have hCv : t.C = gr r b := by
    rw [hC]
    unfold leafM
    rw [ws_mk h hb Rw.C (fun _ a v => max (a * v.lo) (a * v.hi)) (fun _ _ _ _ _ _ _ e => e) r.A b 0 _ (fun j => by rw [Nat.zero_add]) (by simp) hm0, hset, sum_grd]
    simp [zeroR, gr]
  have hAv : ∀ j, j < n → co j t = 0 := fun j hj => by
    rw [hA j hj]
    unfold leafM
    rw [ws_mk h hb (co j) (fun l a _ => if j = l then -a else 0) (fun i v a q _ _ e1 _ => by
      rw [e1 j]; unfold mult
      by_cases e : j = i
      · rw [if_pos e, if_pos e]; split <;> omega
      · rw [if_neg e, if_neg e]; omega) r.A b 0 _ (fun j => by rw [Nat.zero_add]) (by simp) hm0, hset, sum_neg_self r.A b 0 j (by rw [hok.1, h.len]), if_pos (Nat.zero_le _)]
    have : co j (zeroR n) = 0 := by
      unfold co zeroR
      simp only [List.getD_eq_getElem?_getD, List.getElem?_replicate]
      rw [if_pos hj]; rfl
    rw [this, Nat.sub_zero]
    unfold co; omega
  unfold absurdB
  rw [Bool.and_eq_true, List.all_eq_true]
  refine ⟨fun a ha => ?_, by rw [hCv]; simpa using hg⟩
  obtain ⟨j, hj, rfl⟩ := List.mem_iff_getElem.1 ha
  have := hAv j (by omega)
  unfold co at this
  simp only [List.getD_eq_getElem?_getD] at this
  rw [List.getElem?_eq_getElem hj] at this
  simp only [Option.getD_some] at this
  rw [this]; rfl
def At (p : List Sp) (i : Nat) (N : List Sp) : Prop := ∀ (j : Nat) (t : Sp), N[j]? = some t → p[i + j]? = some t
/-- a part of a refutation that closes a branch. -/
structure Seg (i : Nat) (br : List Rw) (N : List Sp) : Prop where
  ok : ∀ p, At p i N → ∀ f, N.length ≤ f → clF p f i br = true
  sh : ∀ (n : Nat) (seen : List Int) (rest : List Sp), i + N.length ≤ n → (∀ c ∈ seen, c ≤ (i : Int) ∨ ((i + N.length : Nat) : Int) ≤ c) →
    ∃ s, shB n i seen (N ++ rest) = shB n (i + N.length) s rest ∧ ∀ c ∈ s, c ∈ seen ∨ ((i : Int) < c ∧ c < ((i + N.length : Nat) : Int))
  pos : 1 ≤ N.length
def sumStep (i : Nat) (M : List Int) : Sp := ⟨1, M, 0, 0, 0, 0, ((i + 1 : Nat) : Int), 0⟩
def closeStep : Sp := ⟨4, [], 0, 0, 0, 0, 0, 0⟩
def splitStep (i x e : Nat) (k : Int) : Sp := ⟨3, [], 0, 0, (x : Int), k, ((i + 1 : Nat) : Int), (e : Int)⟩
theorem seg_leaf {i : Nat} {br : List Rw} {M : List Int} {t : Rw} (h : sumS M br (zeroR (width br)) = some t) (ht : absurdB t = true) : Seg i br [sumStep i M, closeStep] := by
  refine ⟨fun p hp f hf => ?_, fun n seen rest hn hs => ?_, by simp⟩
  · have h0 := hp 0 _ rfl
    have h1 := hp 1 _ rfl
    obtain ⟨f, rfl⟩ : ∃ g, f = g + 2 := ⟨f - 2, by simp at hf; omega⟩
    have hc : clF p (f + 1) (i + 1) (br ++ [t]) = true := by
      rw [clF, h1]
      simp [addedS, closeStep, childs, ht]
    rw [clF, show p[i]? = some (sumStep i M) from h0]
    simp [addedS, sumStep, childs, h, hc]
  · simp only [List.length_cons, List.length_nil] at hn hs ⊢
    have hmem : ¬ ((i : Int) + 1 ∈ seen) := fun hc => by have := hs _ hc; omega
    refine ⟨((i + 1 : Nat) : Int) :: seen, ?_, fun c hc => ?_⟩
    · have e1 : plainB (sumStep i M) = true := by simp [plainB, sumStep]
      have e2 : plainB closeStep = true := by simp [plainB, closeStep]
      have e3 : chB n i seen (childs (sumStep i M)) = some (((i + 1 : Nat) : Int) :: seen) := by
        simp only [childs, sumStep, true_or, if_true, chB]
        rw [if_neg]
        push_cast
        intro h3
        rcases h3 with h3 | h3 | h3
        · omega
        · omega
        · exact hmem h3
      simp only [List.cons_append, List.nil_append, shB, e1, e3, e2, Bool.true_and]
      simp [childs, closeStep, chB]
    · rcases List.mem_cons.1 hc with rfl | hc
      · exact .inr (by omega)
      · exact .inl hc
theorem At.tail {p : List Sp} {i : Nat} {t : Sp} {A B : List Sp} (h : At p i (t :: (A ++ B))) : p[i]? = some t ∧ At p (i + 1) A ∧ At p (i + 1 + A.length) B := by
  refine ⟨by simpa using h 0 t rfl, fun j u hu => ?_, fun j u hu => ?_⟩
  · have := h (j + 1) u (by simp only [List.getElem?_cons_succ]; rw [List.getElem?_append_left (List.getElem?_eq_some_iff.1 hu).1]; exact hu)
    rw [← this]; congr 1; omega
  · have := h (A.length + j + 1) u (by simp only [List.getElem?_cons_succ]; rw [List.getElem?_append_right (by omega)]; simpa using hu)
    rw [← this]; congr 1; omega
theorem seg_split {i n x : Nat} {br : List Rw} {A B : List Sp} {k : Int} (hw : width br = n) (hx : x < n) (hk : -1048576 ≤ k ∧ k ≤ 1048576) (hA : Seg (i + 1) (br ++ [atMost n x k]) A) (hB : Seg (i + 1 + A.length) (br ++ [atLeast n x (k + 1)]) B) :
    Seg i br (splitStep i x (i + 1 + A.length) k :: (A ++ B)) := by
  have pA := hA.pos
  have pB := hB.pos
  refine ⟨fun p hp f hf => ?_, fun m seen rest hm hs => ?_, by simp⟩
  · obtain ⟨h0, h1, h2⟩ := hp.tail
    simp only [List.length_cons, List.length_append] at hf
    obtain ⟨f, rfl⟩ : ∃ g, f = g + 1 := ⟨f - 1, by omega⟩
    have e1 := hA.ok p h1 f (by omega)
    have e2 := hB.ok p h2 f (by omega)
    rw [clF, h0]
    have hsp : splitS (x : Int) k n = some (atMost n x k, atLeast n x (k + 1)) := by
      unfold splitS; rw [if_pos (by omega)]; simp
    have ht1 : ((i + 1 : Nat) : Int).toNat = i + 1 := by omega
    have ht2 : ((i + 1 + A.length : Nat) : Int).toNat = i + 1 + A.length := by omega
    simp only [addedS, splitStep, childs, hw, hsp, Option.map_some]
    simp only [show ¬ ((3 : Int) = 1) by omega, show ¬ ((3 : Int) = 2) by omega, if_false, if_true, or_self, List.zip_cons_cons, List.zip_nil_right, List.all_cons, List.all_nil, Bool.and_true, ht1, ht2, e1, e2]
  · simp only [List.length_cons, List.length_append] at hm hs ⊢
    have e1 : plainB (splitStep i x (i + 1 + A.length) k) = true := by simp [plainB, splitStep]
    have n1 : ¬ (((i + 1 : Nat) : Int) ∈ seen) := fun hc => by have := hs _ hc; omega
    have n2 : ¬ (((i + 1 + A.length : Nat) : Int) ∈ seen) := fun hc => by have := hs _ hc; omega
    have e3 : chB m i seen (childs (splitStep i x (i + 1 + A.length) k)) = some (((i + 1 + A.length : Nat) : Int) :: ((i + 1 : Nat) : Int) :: seen) := by
      simp only [childs, splitStep, show ¬ ((3 : Int) = 1) by omega, show ¬ ((3 : Int) = 2) by omega, if_false, if_true, or_self, chB]
      rw [if_neg, if_neg]
      · intro h3
        rcases h3 with h3 | h3 | h3
        · omega
        · omega
        · rcases List.mem_cons.1 h3 with h4 | h4
          · omega
          · exact n2 h4
      · intro h3
        rcases h3 with h3 | h3 | h3
        · omega
        · omega
        · exact n1 h3
    obtain ⟨s1, h1, k1⟩ := hA.sh m (((i + 1 + A.length : Nat) : Int) :: ((i + 1 : Nat) : Int) :: seen) (B ++ rest) (by omega) (fun c hc => by
      rcases List.mem_cons.1 hc with rfl | hc
      · right; omega
      · rcases List.mem_cons.1 hc with rfl | hc
        · left; omega
        · have := hs c hc; omega)
    obtain ⟨s2, h2, k2⟩ := hB.sh m s1 rest (by omega) (fun c hc => by
      rcases k1 c hc with h | h
      · rcases List.mem_cons.1 h with rfl | h
        · left; omega
        · rcases List.mem_cons.1 h with rfl | h
          · left; omega
          · have := hs c h; omega
      · left; omega)
    refine ⟨s2, ?_, fun c hc => ?_⟩
    · simp only [List.cons_append, List.append_assoc, shB, e1, e3, Bool.true_and]
      rw [h1, h2]; congr 1; omega
    · rcases k2 c hc with h | h
      · rcases k1 c h with h | h
        · rcases List.mem_cons.1 h with rfl | h
          · right; omega
          · rcases List.mem_cons.1 h with rfl | h
            · right; omega
            · exact .inl h
        · right; omega
      · right; omega
theorem ok_atLeast {n i : Nat} {k : Int} (h : -1000 ≤ k ∧ k ≤ 1000) : okRow n (atLeast n i k) = true := by
  rw [okRow_iff, within_iff]
  refine ⟨by simp [atLeast], fun a ha => ?_, by show -1000 ≤ -k ∧ -k ≤ 1000; omega⟩
  rcases mem_set_of ha with h1 | rfl
  · have := List.eq_of_mem_replicate h1; omega
  · omega
theorem ok_atMost {n i : Nat} {k : Int} (h : -1000 ≤ k ∧ k ≤ 1000) : okRow n (atMost n i k) = true := by
  rw [okRow_iff, within_iff]
  refine ⟨by simp [atMost], fun a ha => ?_, by show -1000 ≤ k ∧ k ≤ 1000; omega⟩
  rcases mem_set_of ha with h1 | rfl
  · have := List.eq_of_mem_replicate h1; omega
  · omega
theorem get_snoc {α : Type} {l : List α} {q : Nat} {r x : α} (h : l[q]? = some r) : (l ++ [x])[q]? = some r := by
  rw [List.getElem?_append_left (List.getElem?_eq_some_iff.1 h).1]; exact h
theorem get_last {α : Type} (l : List α) (x : α) : (l ++ [x])[l.length]? = some x := by
  rw [List.getElem?_append_right (Nat.le_refl _)]; simp
theorem Rel.lower {rs br : List Rw} {n : Nat} {b : List Iv} (h : Rel rs n b br) {i : Nat} {v : Iv} (hv : b[i]? = some v) (hb : Full b) (hr : rs.length ≤ br.length) :
    Rel rs n (lower b i v (br.length : Int)) (br ++ [atMost n i ((v.lo + v.hi) / 2)]) := by
  have hvb := hb v (List.mem_of_getElem? hv)
  refine ⟨by simp [Go.Proofs.Ytmhhfommgdljkaa.lower, h.len], fun r hr => ?_, fun k r hk => get_snoc (h.rows k r hk), fun j w hw => ?_, fun j w hw => ?_, fun j w hw => ?_⟩
  · rcases List.mem_append.1 hr with hr | hr
    · exact h.ok r hr
    · rw [List.mem_singleton] at hr; subst hr; exact ok_atMost (by omega)
  all_goals
    rw [Go.Proofs.Ytmhhfommgdljkaa.lower, set_at hv] at hw
    by_cases e : j = i
    · subst e
      rw [if_pos rfl] at hw; cases hw
      first
        | (have := h.pos j v hv; simp only; omega)
        | exact get_snoc (h.low j v hv)
        | (simp only [Int.toNat_natCast]; exact get_last _ _)
    · rw [if_neg e] at hw
      first
        | exact h.pos j w hw
        | exact get_snoc (h.low j w hw)
        | exact get_snoc (h.high j w hw)
theorem Rel.upper {rs br : List Rw} {n : Nat} {b : List Iv} (h : Rel rs n b br) {i : Nat} {v : Iv} (hv : b[i]? = some v) (hb : Full b) (hr : rs.length ≤ br.length) :
    Rel rs n (upper b i v (br.length : Int)) (br ++ [atLeast n i ((v.lo + v.hi) / 2 + 1)]) := by
  have hvb := hb v (List.mem_of_getElem? hv)
  refine ⟨by simp [Go.Proofs.Ytmhhfommgdljkaa.upper, h.len], fun r hr => ?_, fun k r hk => get_snoc (h.rows k r hk), fun j w hw => ?_, fun j w hw => ?_, fun j w hw => ?_⟩
  · rcases List.mem_append.1 hr with hr | hr
    · exact h.ok r hr
    · rw [List.mem_singleton] at hr; subst hr; exact ok_atLeast (by omega)
  all_goals
    rw [Go.Proofs.Ytmhhfommgdljkaa.upper, set_at hv] at hw
    by_cases e : j = i
    · subst e
      rw [if_pos rfl] at hw; cases hw
      first
        | (have := h.pos j v hv; simp only; omega)
        | exact get_snoc (h.high j v hv)
        | (simp only [Int.toNat_natCast]; exact get_last _ _)
    · rw [if_neg e] at hw
      first
        | exact h.pos j w hw
        | exact get_snoc (h.low j w hw)
        | exact get_snoc (h.high j w hw)
def wholeB (s : Sy) : List Iv := s.T.mapIdx fun i t => ⟨0, t, ((s.R.length + i : Nat) : Int), ((s.R.length + s.T.length + i : Nat) : Int)⟩
theorem valid_iff {s : Sy} : validB s = true ↔ (1 ≤ s.T.length ∧ s.T.length ≤ 12 ∧ s.R.length ≤ 24) ∧ (∀ t ∈ s.T, 0 ≤ t ∧ t ≤ 64) ∧ ∀ r ∈ s.R, okRow s.T.length r = true := by
  unfold validB
  rw [Bool.and_eq_true, Bool.and_eq_true, List.all_eq_true, List.all_eq_true]
  simp [okTop]
theorem given_length (s : Sy) : (givenS s).length = s.R.length + 2 * s.T.length := by simp [givenS]; omega
theorem given_low {s : Sy} {i : Nat} (h : i < s.T.length) : (givenS s)[s.R.length + i]? = some (atLeast s.T.length i 0) := by
  unfold givenS
  rw [List.getElem?_append_right (by omega), Nat.add_sub_cancel_left, List.getElem?_append_left (by simpa using h)]
  simp [h]
theorem given_high {s : Sy} {i : Nat} {t : Int} (h : s.T[i]? = some t) : (givenS s)[s.R.length + s.T.length + i]? = some (atMost s.T.length i t) := by
  unfold givenS
  rw [List.getElem?_append_right (by omega), List.getElem?_append_right (by simp; omega)]
  simp only [List.length_map, List.length_range]
  rw [show s.R.length + s.T.length + i - s.R.length - s.T.length = i by omega, List.getElem?_mapIdx, h]; rfl
theorem whole_at {s : Sy} {i : Nat} {v : Iv} (h : (wholeB s)[i]? = some v) : ∃ t, s.T[i]? = some t ∧ v = ⟨0, t, ((s.R.length + i : Nat) : Int), ((s.R.length + s.T.length + i : Nat) : Int)⟩ := by
  unfold wholeB at h
  rw [List.getElem?_mapIdx] at h
  cases ht : s.T[i]? with
  | none => rw [ht] at h; cases h
  | some t => rw [ht] at h; simp only [Option.map_some, Option.some.injEq] at h; exact ⟨t, rfl, h.symm⟩
theorem whole_full {s : Sy} (h : validB s = true) : Full (wholeB s) := fun v hv => by
  obtain ⟨i, hi⟩ := List.mem_iff_getElem?.1 hv
  obtain ⟨t, ht, rfl⟩ := whole_at hi
  have := (valid_iff.1 h).2.1 t (List.mem_of_getElem? ht)
  simp only; omega
theorem whole_rel {s : Sy} (h : validB s = true) : Rel s.R s.T.length (wholeB s) (givenS s) := by
  have hv := valid_iff.1 h
  refine ⟨by simp [wholeB], fun r hr => ?_, fun k r hk => ?_, fun i v hi => ?_, fun i v hi => ?_, fun i v hi => ?_⟩
  · unfold givenS at hr
    rcases List.mem_append.1 hr with hr | hr
    · exact hv.2.2 r hr
    · rcases List.mem_append.1 hr with hr | hr
      · obtain ⟨i, _, rfl⟩ := List.mem_map.1 hr
        exact ok_atLeast (by omega)
      · obtain ⟨i, hi, rfl⟩ := List.mem_mapIdx.1 hr
        have := hv.2.1 _ (List.getElem_mem hi)
        exact ok_atMost (by omega)
  · unfold givenS
    rw [List.getElem?_append_left (List.getElem?_eq_some_iff.1 hk).1]; exact hk
  all_goals obtain ⟨t, ht, rfl⟩ := whole_at hi
  · simp only; omega
  · simp only [Int.toNat_natCast]
    exact given_low (List.getElem?_eq_some_iff.1 ht).1
  · simp only [Int.toNat_natCast]
    exact given_high ht
theorem whole_in : ∀ {T : List Int} {x : List Int} (f g : Nat → Int), InB (T.mapIdx fun i t => (⟨0, t, f i, g i⟩ : Iv)) x ↔ x.length = T.length ∧ ∀ (i : Nat) (t y : Int), T[i]? = some t → x[i]? = some y → 0 ≤ y ∧ y ≤ t := by
  intro T x f g
  rw [InB.iff]
  simp only [List.length_mapIdx]
  refine and_congr_right fun _ => ⟨fun h i t y ht hy => ?_, fun h i v y hv hy => ?_⟩
  · have := h i ⟨0, t, f i, g i⟩ y (by rw [List.getElem?_mapIdx, ht]; rfl) hy
    exact this
  · rw [List.getElem?_mapIdx] at hv
    cases ht : T[i]? with
    | none => rw [ht] at hv; cases hv
    | some t => rw [ht] at hv; simp only [Option.map_some, Option.some.injEq] at hv; subst hv; exact h i t y ht hy
/-- a candidate point. -/
def Cand (T x : List Int) : Prop := x.length = T.length ∧ ∀ (i : Nat) (t y : Int), T[i]? = some t → x[i]? = some y → 0 ≤ y ∧ y ≤ t
theorem cand_iff {s : Sy} {x : List Int} : InB (wholeB s) x ↔ Cand s.T x := whole_in _ _
theorem check_seg {s : Sy} {N : List Sp} (h : validB s = true) (hN : Seg 0 (givenS s) N) (hl : N.length ≤ 65536) : checkB s N = true := by
  unfold checkB
  rw [h, Bool.true_and, Bool.and_eq_true]
  refine ⟨?_, hN.ok N (fun j t ht => by simpa using ht) _ (Nat.le_refl _)⟩
  unfold shapedB
  rw [Bool.and_eq_true]
  refine ⟨decide_eq_true ⟨hN.pos, hl⟩, ?_⟩
  obtain ⟨s', h1, _⟩ := hN.sh N.length [] [] (by omega) (fun c hc => by cases hc)
  rw [List.append_nil] at h1
  rw [h1]; rfl
end Go.Proofs.Ytmhhfommgdljkaa
