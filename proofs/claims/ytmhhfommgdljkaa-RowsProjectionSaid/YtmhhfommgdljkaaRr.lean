/-
  A region in whatever order, by a relation for each operation: what its slot holds is told of the world, and later operations of the region keep it.
-/
import Derived.Test.YtmhhfommgdljkaaRa
import Derived.Test.YtmhhfommgdljkaaLa
set_option linter.unusedSimpArgs false
set_option linter.unusedVariables false
namespace Go.Proofs.Ytmhhfommgdljkaa
open Go Go.RowKit Go.Lib

def slotOf (ops : Array Oper) (i : Nat) : Option Tmp := (ops[i]?).bind (·.dst)
/-- each operation has a slot of its own and waits for earlier ones only. -/
def tidyFrom : List Oper → Nat → List Tmp → Bool
  | [], _, _ => true
  | o :: l, k, ds => (match o.dst with
    | some d => !ds.contains d && tidyFrom l (k + 1) (d :: ds)
    | none => false) && o.after.all fun e => Nat.blt e.on k
theorem tidy_spec : ∀ (l : List Oper) (k : Nat) (ds : List Tmp), tidyFrom l k ds = true →
    (∀ (i : Nat) (o : Oper), l[i]? = some o → ∃ d, o.dst = some d ∧ d ∉ ds) ∧ (∀ (i j : Nat) (o o' : Oper), l[i]? = some o → l[j]? = some o' → o.dst = o'.dst → i = j) ∧ (∀ (i : Nat) (o : Oper), l[i]? = some o → ∀ e ∈ o.after.toList, e.on < k + i)
  | [], _, _, _ => ⟨fun i o h => by simp at h, fun i j o o' h => by simp at h, fun i o h => by simp at h⟩
  | o :: l, k, ds, h => by
    unfold tidyFrom at h
    rw [Bool.and_eq_true] at h
    obtain ⟨h1, h2⟩ := h
    cases hd : o.dst with
    | none => rw [hd] at h1; cases h1
    | some d =>
      rw [hd] at h1
      simp only [Bool.and_eq_true, Bool.not_eq_true', List.contains_eq_mem, decide_eq_false_iff_not] at h1
      obtain ⟨a1, a2, a3⟩ := tidy_spec l (k + 1) (d :: ds) h1.2
      refine ⟨fun i o' hi => ?_, fun i j o1 o2 hi hj he => ?_, fun i o' hi e he => ?_⟩
      · cases i with
        | zero => simp at hi; subst hi; exact ⟨d, hd, h1.1⟩
        | succ i => obtain ⟨d', e1, e2⟩ := a1 i o' (by simpa using hi); exact ⟨d', e1, fun h => e2 (List.mem_cons_of_mem _ h)⟩
      · cases i with
        | zero =>
          simp at hi; subst hi
          cases j with
          | zero => rfl
          | succ j =>
            obtain ⟨d', e1, e2⟩ := a1 j o2 (by simpa using hj)
            rw [hd, e1] at he
            simp only [Option.some.injEq] at he
            subst he
            exact absurd (List.mem_cons_self ..) e2
        | succ i =>
          cases j with
          | zero =>
            simp at hj; subst hj
            obtain ⟨d', e1, e2⟩ := a1 i o1 (by simpa using hi)
            rw [hd, e1] at he
            simp only [Option.some.injEq] at he
            subst he
            exact absurd (List.mem_cons_self ..) e2
          | succ j => rw [a2 i j o1 o2 (by simpa using hi) (by simpa using hj) he]
      · cases i with
        | zero =>
          simp at hi; subst hi
          have h3 := Array.all_eq_true'.1 h2 e (by simpa using he)
          have : e.on < k := Nat.le_of_ble_eq_true h3
          omega
        | succ i => have := a3 i o' (by simpa using hi) e he; omega
/-- does an operation of these write the slot? -/
def writes (ops : Array Oper) (t : Tmp) : Bool := ops.any fun o => o.dst == some t
theorem writes_no {ops : Array Oper} {t : Tmp} (h : writes ops t = false) (i : Nat) : slotOf ops i ≠ some t := by
  intro hs
  unfold slotOf at hs
  cases ho : ops[i]? with
  | none => rw [ho] at hs; cases hs
  | some o =>
    rw [ho] at hs
    unfold writes at h
    rw [Array.any_eq_false'] at h
    have := h o (Array.mem_of_getElem? ho)
    simp only [Option.bind_some] at hs
    rw [hs] at this
    simp at this
section
variable (P : Program) (ops : Array Oper) (R : Nat → Value → World → Prop) (a0 : Act) (n0 : Nat) (w0 : World)
/-- what stands when number k's turn has come. -/
structure Turn (k : Nat) (a : Act) (w : World) : Prop where
  below : Below n0 w0 w
  size : a.tmps.size = a0.tmps.size
  defs : a.defers = a0.defers
  old : ∀ t, (∀ i, slotOf ops i ≠ some t) → a.tmps[t]? = a0.tmps[t]?
  new : ∀ (o : Oper) (e : Edge) (t : Tmp), ops[k]? = some o → e ∈ o.after.toList → Region.binds .any e = true → slotOf ops e.on = some t → ∃ v, a.tmps[t]? = some v ∧ R e.on v w
/-- what number k must do: its slot holds what is told of it. -/
def Duty (Q : Exit → Act → World → Prop) (k : Nat) (o : Oper) : Prop := ∀ (a : Act) (w : World), Turn ops R a0 n0 w0 k a w →
  if Region.wanted o (yielded ops a.tmps) = true then ∀ K : Act → World → Prop, (∀ v w', Below w.heap.size w w' → R k v w' → K (a.put o.dst v) w') → Oper.wp P o a w K Q else R k undef w
structure RInv (listed : Array Bool) (a : Act) (w : World) : Prop where
  lsize : listed.size = ops.size
  below : Below n0 w0 w
  size : a.tmps.size = a0.tmps.size
  defs : a.defers = a0.defers
  old : ∀ t, (∀ i, slotOf ops i ≠ some t) → a.tmps[t]? = a0.tmps[t]?
  new : ∀ i t, listed.getD i false = true → slotOf ops i = some t → ∃ v, a.tmps[t]? = some v ∧ R i v w
def Duties (Q : Exit → Act → World → Prop) : Nat → List Oper → Prop
  | _, [] => True
  | k, o :: l => Duty P ops R a0 n0 w0 Q k o ∧ Duties Q (k + 1) l
theorem Duties.get {Q : Exit → Act → World → Prop} : ∀ (l : List Oper) (k : Nat), Duties P ops R a0 n0 w0 Q k l → ∀ (i : Nat) (o : Oper), l[i]? = some o → Duty P ops R a0 n0 w0 Q (k + i) o
  | [], _, _, i, o, hi => by simp at hi
  | _ :: l, k, h, i, o, hi => by
    cases i with
    | zero => simp at hi; subst hi; exact h.1
    | succ i =>
      have := Duties.get l (k + 1) h.2 i o (by simpa using hi)
      rwa [Nat.add_right_comm, Nat.add_assoc] at this
end
theorem below_trans {n0 : Nat} {w0 w w' : World} (hn : n0 ≤ w0.heap.size) (h : Below n0 w0 w) (h' : Below w.heap.size w w') : Below n0 w0 w' := h.trans (h'.mono (Nat.le_trans hn h.size))
/-- a region that draws its order, by a relation for each operation. -/
theorem wp_region_rel {P : Program} {l : List Oper} {Q : Exit → Act → World → Prop} {id : Nat} {a0 : Act} {w0 : World} {n0 : Nat} (R : Nat → Value → World → Prop) (hm : P.follows .mixedOrders = true)
    (hn : n0 ≤ w0.heap.size)
    (hR : ∀ i v w w', R i v w → Below w.heap.size w w' → R i v w')
    (ht : tidyFrom l 0 [] = true)
    (hs : l.all (fun o => match o.dst with | some d => Nat.blt d a0.tmps.size | none => false) = true)
    (h : Duties P l.toArray R a0 n0 w0 Q 0 l)
    (hend : ∀ (a : Act) (w : World), Below n0 w0 w → a.tmps.size = a0.tmps.size → a.defers = a0.defers → (∀ t, (∀ i, slotOf l.toArray i ≠ some t) → a.tmps[t]? = a0.tmps[t]?) →
      (∀ i t, slotOf l.toArray i = some t → ∃ v, a.tmps[t]? = some v ∧ R i v w) → Q .normal a w) : (Code.region id l.toArray true).wp P Q a0 w0 := by
  obtain ⟨t1, t2, t3⟩ := tidy_spec l 0 [] ht
  have hdst : ∀ (i : Nat) (o : Oper), l[i]? = some o → ∃ d, o.dst = some d ∧ d < a0.tmps.size := fun i o hi => by
    have := List.all_eq_true.1 hs o (List.mem_of_getElem? hi)
    cases hd : o.dst with
    | none => rw [hd] at this; cases this
    | some d => rw [hd] at this; exact ⟨d, rfl, Nat.le_of_ble_eq_true this⟩
  refine wp_region_inv hm (RInv l.toArray R a0 n0 w0) ⟨by simp, below_drew (Below.refl _ _), rfl, rfl, fun t _ => rfl, fun i t hi => ?_⟩ ?_ ?_
  · exfalso
    rw [Array.getD_eq_getD_getElem?] at hi
    simp only [List.size_toArray, Array.getElem?_replicate] at hi
    split at hi <;> simp at hi
  · intro listed a w i hI hi
    obtain ⟨r1, r2, r3⟩ := ready_spec hi
    have hlt : i < l.length := by simpa using r1
    have hio : l.toArray[i]? = some l[i] := by simp [hlt]
    have hio' : l[i]? = some l[i] := by simp [hlt]
    have hd := Duties.get P l.toArray R a0 n0 w0 l 0 h i _ hio'
    rw [Nat.zero_add] at hd
    obtain ⟨d, hd1, hd2⟩ := hdst i _ hio'
    have hso : slotOf l.toArray i = some d := by unfold slotOf; rw [hio]; exact hd1
    have hT : Turn l.toArray R a0 n0 w0 i a w := ⟨hI.below, hI.size, hI.defs, hI.old, fun o e t ho he hb hs => hI.new _ _ (r3 o ho e he hb) hs⟩
    have step : ∀ v w', Below w.heap.size w w' → R i v w' → RInv l.toArray R a0 n0 w0 (listed.setIfInBounds i true) (a.put l[i].dst v) w' := fun v w' hb hr => by
      rw [hd1]
      refine ⟨by simp [hI.lsize], below_trans hn hI.below hb, by simp [Act.put, hI.size], hI.defs, fun t hno => ?_, fun j t hj hs' => ?_⟩
      · have : d ≠ t := fun e => hno i (by rw [hso, e])
        show (a.tmps.setIfInBounds d v)[t]? = _
        rw [Array.getElem?_setIfInBounds_ne this]
        exact hI.old t hno
      · show ∃ u, (a.tmps.setIfInBounds d v)[t]? = some u ∧ _
        by_cases e : j = i
        · subst e
          rw [hso] at hs'
          simp only [Option.some.injEq] at hs'
          subst hs'
          exact ⟨v, by rw [Array.getElem?_setIfInBounds_self_of_lt (by rw [hI.size]; exact hd2)], hr⟩
        · have hne : d ≠ t := fun e2 => by
            subst e2
            unfold slotOf at hs' hso
            cases ho : l[j]? with
            | none => simp [ho] at hs'
            | some oj =>
              simp only [List.getElem?_toArray, ho, hio', Option.bind_some] at hs' hso
              exact e (t2 j i oj _ ho hio' (by rw [hs', hso]))
          have hj' : listed.getD j false = true := by
            simp only [Array.getD_eq_getD_getElem?] at hj ⊢
            rwa [Array.getElem?_setIfInBounds_ne (Ne.symm e)] at hj
          obtain ⟨u, h1, h2⟩ := hI.new j t hj' hs'
          exact ⟨u, by rw [Array.getElem?_setIfInBounds_ne hne]; exact h1, hR _ _ _ _ h2 hb⟩
    have hd := hd a w hT
    refine wpOp_step hio fun K' hK => ?_
    split
    · rename_i hw
      rw [if_pos hw] at hd
      exact hd K' fun v w' hb hr => hK _ _ (step v w' hb hr)
    · rename_i hw
      rw [if_neg hw] at hd
      exact hK _ _ (step undef w (Below.refl _ _) hd)
  · intro listed a w hI hr
    have all : ∀ i, i < l.length → listed.getD i false = true := fun i => by
      induction i using Nat.strongRecOn with
      | _ i ih =>
        intro hi
        cases hl : listed.getD i false with
        | true => rfl
        | false =>
          exfalso
          have hin : i ∈ Region.ready .any l.toArray listed := by
            rw [mem_ready]
            have hsz : i < listed.size := by rw [hI.lsize]; simpa using hi
            refine ⟨?_, l[i], by simp [hi], fun e he _ => ?_⟩
            · simp only [Array.getD_eq_getD_getElem?, Array.getElem?_eq_getElem hsz, Option.getD_some] at hl ⊢
              exact hl
            · have := t3 i l[i] (by simp [hi]) e (by simpa using he)
              exact ih e.on (by omega) (by omega)
          rw [hr] at hin; cases hin
    refine hend a w hI.below hI.size hI.defs hI.old fun i t hs' => hI.new i t (all i ?_) hs'
    unfold slotOf at hs'
    cases ho : l[i]? with
    | none => simp [ho] at hs'
    | some o => exact lt_of_get ho
/-! Duties by kinds. -/
section
variable {P : Program} {ops : Array Oper} {R : Nat → Value → World → Prop} {a0 : Act} {n0 : Nat} {w0 : World} {Q : Exit → Act → World → Prop} {k : Nat} {o : Oper} {a : Act} {w : World}
theorem Turn.slot (h : Turn ops R a0 n0 w0 k a w) {j : Nat} {t : Tmp} (hw : waits .any ops k j = true) (hs : slotOf ops j = some t) : ∃ v, a.tmps[t]? = some v ∧ R j v w := by
  unfold waits at hw
  cases ho : ops[k]? with
  | none => rw [ho] at hw; cases hw
  | some o =>
    rw [ho] at hw
    obtain ⟨e, he, hb⟩ := Array.any_eq_true'.1 hw
    rw [Bool.and_eq_true, beq_iff_eq] at hb
    obtain ⟨hb, rfl⟩ := hb
    exact h.new o e t ho (by simpa using he) hb hs
theorem Turn.was (h : Turn ops R a0 n0 w0 k a w) {t : Tmp} {v : Value} (hw : writes ops t = false) (h0 : a0.tmps[t]? = some v) : a.tmps[t]? = some v := by rw [h.old t (writes_no hw)]; exact h0
theorem eval_tmp {t : Tmp} {v : Value} (h : a.tmps[t]? = some v) : a.eval (.tmp t) = v := by show a.tmps.getD t undef = v; rw [Array.getD_eq_getD_getElem?, h]; rfl
theorem eval_const (v : Value) : a.eval (.const v) = v := rfl
theorem wanted_none (h : o.guard = none) {y : Nat → Option Bool} : Region.wanted o y = true := by unfold Region.wanted; rw [h]
theorem wanted_some {g : Nat} {t : Tmp} {b : Bool} (h : o.guard = some (g, b)) (hs : slotOf ops g = some t) (hv : a.tmps[t]? = some (.bool b)) : Region.wanted o (yielded ops a.tmps) = true := by
  unfold Region.wanted
  rw [h]
  show (yielded ops a.tmps g == some b) = true
  unfold yielded
  unfold slotOf at hs
  rw [hs, Option.bind_some, hv]
  simp
theorem duty_want (hw : ∀ (a : Act) (w : World), Turn ops R a0 n0 w0 k a w → Region.wanted o (yielded ops a.tmps) = true)
    (h : ∀ (a : Act) (w : World), Turn ops R a0 n0 w0 k a w → ∀ K : Act → World → Prop, (∀ v w', Below w.heap.size w w' → R k v w' → K (a.put o.dst v) w') → Oper.wp P o a w K Q) : Duty P ops R a0 n0 w0 Q k o := fun a w hT => by
  rw [if_pos (hw a w hT)]
  exact h a w hT
/-- an operation that yields a value and leaves the world. -/
theorem duty_val (hw : ∀ (a : Act) (w : World), Turn ops R a0 n0 w0 k a w → Region.wanted o (yielded ops a.tmps) = true)
    (h : ∀ (a : Act) (w : World), Turn ops R a0 n0 w0 k a w → ∃ v, (execOp a.eval o).run P w = .ok (.value v) w ∧ R k v w) : Duty P ops R a0 n0 w0 Q k o :=
  duty_want hw fun a w hT K hK => by
    obtain ⟨v, h1, h2⟩ := h a w hT
    unfold Oper.wp
    rw [h1]
    exact hK v w (Below.refl _ _) h2
theorem duty_new (hw : ∀ (a : Act) (w : World), Turn ops R a0 n0 w0 k a w → Region.wanted o (yielded ops a.tmps) = true)
    (h : ∀ (a : Act) (w : World), Turn ops R a0 n0 w0 k a w → ∃ v w', (execOp a.eval o).run P w = .ok (.value v) w' ∧ Below w.heap.size w w' ∧ R k v w') : Duty P ops R a0 n0 w0 Q k o :=
  duty_want hw fun a w hT K hK => by
    obtain ⟨v, w', h1, h2, h3⟩ := h a w hT
    unfold Oper.wp
    rw [h1]
    exact hK v w' h2 h3
theorem duty_call (hw : ∀ (a : Act) (w : World), Turn ops R a0 n0 w0 k a w → Region.wanted o (yielded ops a.tmps) = true)
    (h : ∀ (a : Act) (w : World), Turn ops R a0 n0 w0 k a w → ∃ f xs, (execOp a.eval o).run P w = .ok (.enter f xs) w ∧ Calls P f xs w fun e w' => ∃ v, e = .returned v ∧ Below w.heap.size w w' ∧ R k v w') : Duty P ops R a0 n0 w0 Q k o :=
  duty_want hw fun a w hT K hK => by
    obtain ⟨f, xs, h1, h2⟩ := h a w hT
    unfold Oper.wp
    rw [h1]
    refine Calls.mono h2 fun e w' he => ?_
    obtain ⟨v, rfl, h3, h4⟩ := he
    exact hK v w' h3 h4
theorem results_one {fn : Func} {T : Array Value} {t : Tmp} {v : Value} (h : fn.results = #[.tmp t]) (e : T[t]? = some v) : (results fn T).run P w = .ok v w := by
  have e' : T.getD t undef = v := by rw [Array.getD_eq_getD_getElem?, e]; rfl
  rw [results_tmp h, e']
theorem exec_move {x : Operand} (h : o.op = .move x) : (execOp a.eval o).run P w = .ok (.value (a.eval x)) w := by unfold execOp; rw [h]; rfl
theorem exec_assign {x : Operand} (h : o.op = .assign x) : (execOp a.eval o).run P w = .ok (.value (a.eval x)) w := by unfold execOp; rw [h]; rfl
end
end Go.Proofs.Ytmhhfommgdljkaa
