/-
  Texts of the proof, one behind another: Cr.
-/
import Derived.RangeFuncNested
import Derived.RangeFuncCalls
set_option linter.unusedSimpArgs false
set_option linter.unusedVariables false
namespace Go.Proofs.YtkhphiilnplgjaaGreatDoor
open Go.RowKit

/-- what a world must say across the book-keeping of the loop: a turn of a block that is no cells and lies at or beyond B; a new block. -/
structure Calm {β : Type} (B : Nat) (I : β → World → Prop) : Prop where
  put : ∀ s W l o o', I s W → B ≤ l → W.heap[l]? = some o → o.isCells = false → I s (W.putObj l o')
  lay : ∀ s W o, I s W → B ≤ W.heap.size → I s (W.alloc o)

/-- how the body's walk must end. -/
def bodyEnd {β : Type} (B : Nat) (Kp : World → World → Prop) (I : List β → World → Prop) (Ix : Code → List β → World → Prop) (s : List β) (W : World) : Exit → Act → World → Prop
  | .normal, _, W' => KeepsFrom B W W' ∧ Kp W W' ∧ I s W'
  | .ret, _, W' => KeepsFrom B W W' ∧ Ix .ret s W'
  | .exit id, _, W' => KeepsFrom B W W' ∧ Ix (.exit id) s W'
  | .goto t, _, W' => KeepsFrom B W W' ∧ Ix (.goto t) s W'
  | _, _, _ => False

theorem range_law {β : Type} {P : Program} {n : Nat} {g : Operand} {ps : Array Tmp} {assign body : Code} {Q : Exit → Act → World → Prop} {a : Act} {w : World} {gf : Nat} {lb : Array Value}
    (hn : 1 ≤ n) (hg : a.eval g = .func (.func gf) #[] lb) (eg : ∀ args w, (callFunc gf args).run P w = .ok (.enter gf args) w)
    {encs : β → Array Value} (hps : ∀ x, (encs x).size = ps.size) {Kp : World → World → Prop} (hKt : ∀ {A B C : World}, Kp A B → Kp B C → Kp A C)
    (hKp : ∀ (W : World) (l : Nat) (o o' : Obj), w.heap.size ≤ l → W.heap[l]? = some o → o.isCells = false → Kp W (W.putObj l o')) {S Sp : List β → Prop} {N : Nat}
    (iter : ∀ (l : Nat) (J Jx : List β → World → Prop) (W : World), Below w.heap.size w W →
      (∀ pre x W1, J pre W1 → pre.length < N → YieldAt Fence.wide (n - 1 - 1) P l (encs x) W1 fun e W' =>
        (e = .returned (.bool true) ∧ J (pre ++ [x]) W' ∧ Kp W1 W') ∨ (e = .returned (.bool false) ∧ Jx (pre ++ [x]) W')) →
      J [] W → CallsIn Fence.wide (n - 1) P gf (#[.func (.yield l) #[] #[]] ++ lb) W fun e W' => (∃ v, e = .returned v) ∧ ((∃ ys, S ys ∧ J ys W') ∨ (∃ pre, Sp pre ∧ Jx pre W')))
    (I : List β → World → Prop) (Ix : Code → List β → World → Prop) (cI : Calm w.heap.size I) (cX : ∀ c, Calm w.heap.size (Ix c)) (h0 : I [] w) (a₁ : β → Act)
    (hassign : ∀ (l : Nat) (x : β) (W : World) (K : Act → World → Prop), K (a₁ x) W →
      assign.wpIn (Fence.wide.inRound l) (n - 1 - 1) P (Exit.then K (fun _ _ _ => False)) { tmps := (ps.zip (encs x)).foldl (fun t (p, v) => t.setIfInBounds p v) a.tmps, defers := [] } W)
    (hbody : ∀ (l : Nat) (pre : List β) (x : β) (W : World), I pre W → pre.length < N → body.wpIn (Fence.wide.inRound l) (n - 1 - 1) P (bodyEnd w.heap.size Kp I Ix (pre ++ [x]) W) (a₁ x) W)
    (hdone : ∀ (D : Nat) (ys : List β) (W : World), w.heap.size ≤ D → S ys → I ys W → W.heap[D]? = some (.deferred (some [])) → Q .normal { a with defers := { target := .collected D, args := #[] } :: a.defers } W)
    (hstop : ∀ (D : Nat) (c : Code) (pre : List β) (W : World), w.heap.size ≤ D → Sp pre → Ix c pre W → W.heap[D]? = some (.deferred (some [])) → c.wpIn Fence.wide n P Q { a with defers := { target := .collected D, args := #[] } :: a.defers } W) :
    (Code.rangeFunc g ps assign body).wpIn Fence.wide n P Q a w := by
  -- the two blocks of the loop's own: D for the rounds' deferred calls, L the record
  refine wpIn_rangeFunc fun fn _ => ?_
  let D := w.heap.size
  let L := w.heap.size + 1
  let r (st : LoopState) (pe : Option Code) : Loop := { state := st, pending := pe, fn := fn, tmps := a.tmps, params := ps, assign := assign, body := body, defers := D }
  let V := (w.alloc (.deferred (some []))).alloc (.loop (r .ready none))
  have vL : V.heap[L]? = some (.loop (r .ready none)) := by
    have h := World.alloc_heap_new (w.alloc (.deferred (some []))) (.loop (r .ready none)); rwa [World.size_alloc] at h
  have vD : V.heap[D]? = some (.deferred (some [])) := (Below.heap_alloc _ _ _ (by simp [D])).trans (World.alloc_heap_new w _)
  have vI : I [] V := cI.lay _ _ _ (cI.lay _ _ _ h0 (Nat.le_refl _)) (by simp)
  have vB : Below w.heap.size w V := ((Below.refl _ w).alloc (Nat.le_refl _) _).alloc (by simp) _
  have hDL : D ≠ L := by simp [D, L]
  refine ⟨L, [{ target := .collected D, args := #[] }], V, { target := .fn (.func gf) lb, args := #[.func (.yield L) #[] #[]] }, V, gf, #[.func (.yield L) #[] #[]] ++ lb, V, run_enterLoop_outer _ _ _ _ _, ?_, fun _ _ => trivial, ?_, fun _ => hn, ?_⟩
  · simp only [resolve, hg]
    simp [go_sem]
  · simp [invoke, go_sem, eg]
  -- between two rounds the record is ready; once a round has left, it is done and bears the jump
  let J : List β → World → Prop := fun s W => I s W ∧ W.heap[L]? = some (.loop (r .ready none)) ∧ W.heap[D]? = some (.deferred (some []))
  let Jx : List β → World → Prop := fun s W => ∃ c, Ix c s W ∧ W.heap[L]? = some (.loop (r .done (some c))) ∧ W.heap[D]? = some (.deferred (some []))
  have oneRound : ∀ pre x W1, J pre W1 → pre.length < N → YieldAt Fence.wide (n - 1 - 1) P L (encs x) W1 fun e W' =>
      (e = .returned (.bool true) ∧ J (pre ++ [x]) W' ∧ Kp W1 W') ∨ (e = .returned (.bool false) ∧ Jx (pre ++ [x]) W') := by
    rintro pre x W1 ⟨iW, lW, dW⟩ hlen
    refine ⟨fn, _, assign, body, run_yield (P := P) (args := encs x) lW (hps x), roundIn_of_wpIn trivial (hassign L x W1 _ ?_)⟩
    have sizeL : L < W1.heap.size := (Array.getElem?_eq_some_iff.1 lW).1
    let W2 := W1.putObj L (.loop { r .ready none with state := .busy })
    have l2 : W2.heap[L]? = some (.loop { r .ready none with state := .busy }) := World.putObj_heap_same sizeL
    have d2 : W2.heap[D]? = some (.deferred (some [])) := (World.putObj_heap_other hDL).trans dW
    have k2 : Kp W1 W2 := hKp _ _ _ _ (by simp [L]) lW rfl
    refine ⟨W2, run_beginRound lW rfl, wpIn_mono (hbody L pre x W2 (cI.put _ _ _ _ _ iW (by simp [L]) lW rfl) hlen) ?_⟩
    -- how the round's end turns the record
    have close : ∀ (jump : Option Code) (st : LoopState) (W3 : World), (if jump.isNone then LoopState.ready else .done) = st → KeepsFrom w.heap.size W2 W3 →
        W3.heap[L]? = some (.loop { r .ready none with state := .busy }) ∧
        (Instr.endRound L jump).run P W3 = .ok (.bool jump.isNone) (W3.putObj L (.loop (r st jump))) ∧
        (W3.putObj L (.loop (r st jump))).heap[L]? = some (.loop (r st jump)) ∧ (W3.putObj L (.loop (r st jump))).heap[D]? = some (.deferred (some [])) := by
      rintro jump st W3 rfl k3
      have l3 := k3.same L _ (by simp [L]) l2 rfl
      have d3 := k3.same D _ (Nat.le_refl _) d2 rfl
      exact ⟨l3, run_endRound (P := P) jump l3, World.putObj_heap_same (Array.getElem?_eq_some_iff.1 l3).1, (World.putObj_heap_other hDL).trans d3⟩
    intro e a3 W3 hend
    match e, hend with
    | .normal, ⟨k3, kp, i3⟩ =>
      obtain ⟨l3, run, l4, d4⟩ := close none _ W3 rfl k3
      exact ⟨_, _, run, .inl ⟨rfl, ⟨cI.put _ _ _ _ _ i3 (by simp [L]) l3 rfl, l4, d4⟩, hKt k2 (hKt kp (hKp _ _ _ _ (by simp [L]) l3 rfl))⟩⟩
    | .ret, ⟨k3, i3⟩ =>
      obtain ⟨l3, run, l4, d4⟩ := close (some .ret) _ W3 rfl k3
      exact ⟨_, _, run, .inr ⟨rfl, _, (cX _).put _ _ _ _ _ i3 (by simp [L]) l3 rfl, l4, d4⟩⟩
    | .exit id, ⟨k3, i3⟩ =>
      obtain ⟨l3, run, l4, d4⟩ := close (some (.exit id)) _ W3 rfl k3
      exact ⟨_, _, run, .inr ⟨rfl, _, (cX _).put _ _ _ _ _ i3 (by simp [L]) l3 rfl, l4, d4⟩⟩
    | .goto t, ⟨k3, i3⟩ =>
      obtain ⟨l3, run, l4, d4⟩ := close (some (.goto t)) _ W3 rfl k3
      exact ⟨_, _, run, .inr ⟨rfl, _, (cX _).put _ _ _ _ _ i3 (by simp [L]) l3 rfl, l4, d4⟩⟩
  refine (iter L J Jx V vB oneRound ⟨vI, vL, vD⟩).mono ?_
  rintro e W4 ⟨⟨v, rfl⟩, (⟨ys, hS, i4, l4, d4⟩ | ⟨pre, hSp, c, i4, l4, d4⟩)⟩
  · exact ⟨none, _, run_endLoop (P := P) l4 (by simp [r]), hdone D ys _ (Nat.le_refl _) hS (cI.put _ _ _ _ _ i4 (by simp [L]) l4 rfl) ((World.putObj_heap_other hDL).trans d4)⟩
  · exact ⟨some c, _, run_endLoop (P := P) l4 (by simp [r]), hstop D c pre _ (Nat.le_refl _) hSp ((cX c).put _ _ _ _ _ i4 (by simp [L]) l4 rfl) ((World.putObj_heap_other hDL).trans d4)⟩
end Go.Proofs.YtkhphiilnplgjaaGreatDoor
