/-
  Texts of the proof, one behind another: Rst.
-/
import Derived.RangeFuncWrites
set_option linter.unusedSimpArgs false
set_option linter.unusedVariables false
namespace Go.Proofs.YtkhphiilnplgjaaGreatDoor
open Go.RowKit

/-- how the body of a round may be left, its state s' reached. -/
def postS {σ : Type} (B : Nat) (Kp : World → World → Prop) (I : σ → World → Prop) (X : Code → σ → World → Prop) (s' : σ) (W : World) : Exit → Act → World → Prop
  | .normal, _, W' => KeepsFrom B W W' ∧ Kp W W' ∧ I s' W'
  | .exit id, _, W' => KeepsFrom B W W' ∧ X (.exit id) s' W'
  | _, _, _ => False
/-- an iterator that goes from state to state. -/
def SeqSt {σ : Type} (n : Nat) (P : Program) (gf : Nat) (lb : Array Value) (enc : Nat → Array Value) (V : σ → Nat → σ → Prop) (Dn : σ → Prop) (s0 : σ) (Kp : World → World → Prop) (w : World) : Prop :=
  ∀ (l : Nat) (J Jx : σ → World → Prop) (W : World), Below w.heap.size w W → AbidesFrom W.heap.size J → AbidesFrom W.heap.size Jx →
    (∀ s x s' W1, V s x s' → J s W1 → YieldAt Fence.wide (n - 1) P l (enc x) W1 fun e W' => (e = .returned (.bool true) ∧ J s' W' ∧ Kp W1 W') ∨ (e = .returned (.bool false) ∧ Jx s' W')) → J s0 W →
    CallsIn Fence.wide n P gf (#[.func (.yield l) #[] #[]] ++ lb) W fun e W' => (∃ v, e = .returned v) ∧ ((∃ s, Dn s ∧ J s W') ∨ (∃ s, Jx s W'))
theorem wpIn_range_st {σ : Type} {n : Nat} {P : Program} {g : Operand} {ps : Array Tmp} {assign body : Code} {Q : Exit → Act → World → Prop} {a : Act} {w : World} (h1 : 1 ≤ n) {gf : Nat} {lb : Array Value}
    (hg : a.eval g = .func (.func gf) #[] lb) (eg : ∀ args w, (callFunc gf args).run P w = .ok (.enter gf args) w) {enc : Nat → Array Value} (hps : ∀ x, (enc x).size = ps.size)
    {V : σ → Nat → σ → Prop} {Dn : σ → Prop} {s0 : σ} {Kp : World → World → Prop} (hKt : ∀ {A B C : World}, Kp A B → Kp B C → Kp A C) (hKb : ∀ (W : World) (l : Nat) (o o' : Obj), w.heap.size ≤ l → W.heap[l]? = some o → o.isCells = false → Kp W (W.putObj l o')) (hseq : SeqSt (n - 1) P gf lb enc V Dn s0 Kp w)
    (I : σ → World → Prop) (X : Code → σ → World → Prop) (hI : OwnFrom w.heap.size I) (hX : ∀ c, OwnFrom w.heap.size (X c)) (h0 : I s0 w) (a1 : Nat → Act)
    (hassign : ∀ (l x : Nat) (W : World) (K : Act → World → Prop), K (a1 x) W → assign.wpIn (Fence.wide.inRound l) (n - 1 - 1) P (Exit.then K (fun _ _ _ => False)) { tmps := (ps.zip (enc x)).foldl (fun t (p, v) => t.setIfInBounds p v) a.tmps, defers := [] } W)
    (hbody : ∀ (l : Nat) (s : σ) (x : Nat) (s' : σ) (W : World), V s x s' → I s W → body.wpIn (Fence.wide.inRound l) (n - 1 - 1) P (postS w.heap.size Kp I X s' W) (a1 x) W)
    (hdone : ∀ (D : Nat) (s : σ) (W : World), w.heap.size ≤ D → Dn s → I s W → W.heap[D]? = some (.deferred (some [])) → Q .normal { a with defers := { target := .collected D, args := #[] } :: a.defers } W)
    (hstop : ∀ (D id : Nat) (s : σ) (W : World), w.heap.size ≤ D → X (.exit id) s W → W.heap[D]? = some (.deferred (some [])) → (Code.exit id).wpIn Fence.wide n P Q { a with defers := { target := .collected D, args := #[] } :: a.defers } W) :
    (Code.rangeFunc g ps assign body).wpIn Fence.wide n P Q a w := by
  refine wpIn_rangeFunc fun fn hfn => ?_
  generalize hrec : (fun (st : LoopState) (pe : Option Code) => ({ state := st, pending := pe, fn, tmps := a.tmps, params := ps, assign, body, defers := w.heap.size } : Loop)) = rec
  have hr0 : ∀ st pe, rec st pe = { state := st, pending := pe, fn, tmps := a.tmps, params := ps, assign, body, defers := w.heap.size } := fun st pe => by rw [← hrec]
  clear hrec
  generalize hW1 : (w.alloc (.deferred (some []))).alloc (.loop (rec .ready none)) = W1
  have hL1 : W1.heap[w.heap.size + 1]? = some (.loop (rec .ready none)) := by
    rw [← hW1]
    have h := World.alloc_heap_new (w.alloc (.deferred (some []))) (.loop (rec .ready none))
    rwa [World.size_alloc] at h
  have hK1 : W1.heap[w.heap.size]? = some (.deferred (some [])) := by
    rw [← hW1]; exact (Below.heap_alloc _ _ _ (by simp)).trans (World.alloc_heap_new w _)
  have hI1 : I s0 W1 := by rw [← hW1]; exact hI.alloc _ (hI.alloc _ h0)
  have hb1 : Below w.heap.size w W1 := by rw [← hW1]; exact ((Below.refl _ w).alloc (Nat.le_refl _) _).alloc (by simp) _
  have hsz1 : w.heap.size ≤ W1.heap.size := hb1.size
  refine ⟨w.heap.size + 1, [{ target := .collected w.heap.size, args := #[] }], W1, { target := .fn (.func gf) lb, args := #[.func (.yield (w.heap.size + 1)) #[] #[]] }, W1, gf,
    #[.func (.yield (w.heap.size + 1)) #[] #[]] ++ lb, W1, ?_, ?_, ?_, ?_, fun _ => h1, ?_⟩
  · rw [← hW1, hr0]; exact run_enterLoop_outer _ _ _ _ _
  · simp only [resolve, hg]
    simp [go_sem]
  · intro f' hf'; exact trivial
  · simp [invoke, go_sem, eg]
  · have hput : ∀ (W : World) (o o' : Obj), W.heap[w.heap.size + 1]? = some o → o.isCells = false → Kp W (W.putObj (w.heap.size + 1) o') := fun W o o' h hc => hKb W _ o o' (by omega) h hc
    refine (hseq (w.heap.size + 1)
      (fun s W => I s W ∧ W.heap[w.heap.size + 1]? = some (.loop (rec .ready none)) ∧ W.heap[w.heap.size]? = some (.deferred (some [])))
      (fun s W => ∃ id, X (.exit id) s W ∧ W.heap[w.heap.size + 1]? = some (.loop (rec .done (some (.exit id)))) ∧ W.heap[w.heap.size]? = some (.deferred (some [])))
      W1 hb1 (fun s A B row hs hg' hr => ?_) (fun s A B row hs hg' hr => ?_) ?_ ⟨hI1, hL1, hK1⟩).mono ?_
    · have hr2 : ∀ r, row = some r → ∃ o : Obj, A.heap[r]? = some o ∧ o.isWalk = true := fun r e => (hr r e).2
      refine ⟨hI s A B row hs.1 hg' (fun r e => ?_), (grownBy_keeps hg' hr2 hs.2.1 rfl).trans hs.2.1, (grownBy_keeps hg' hr2 hs.2.2 rfl).trans hs.2.2⟩
      obtain ⟨hB, o, ho, hw⟩ := hr r e
      exact ⟨by omega, o, ho, Obj.not_cells_of_walk hw⟩
    · have hr2 : ∀ r, row = some r → ∃ o : Obj, A.heap[r]? = some o ∧ o.isWalk = true := fun r e => (hr r e).2
      obtain ⟨id, hc, hl, hk⟩ := hs
      refine ⟨id, hX _ s A B row hc hg' (fun r e => ?_), (grownBy_keeps hg' hr2 hl rfl).trans hl, (grownBy_keeps hg' hr2 hk rfl).trans hk⟩
      obtain ⟨hB, o, ho, hw⟩ := hr r e
      exact ⟨by omega, o, ho, Obj.not_cells_of_walk hw⟩
    · rintro s x s' W hv ⟨hi, hl, hk⟩
      have hlt : w.heap.size + 1 < W.heap.size := (Array.getElem?_eq_some_iff.1 hl).1
      have hy := run_yield (P := P) (args := enc x) hl (by rw [hr0]; exact hps x)
      rw [hr0] at hy
      refine ⟨fn, _, assign, body, hy, roundIn_of_wpIn hfn (hassign _ x W _ ⟨_, run_beginRound hl (by rw [hr0]), ?_⟩)⟩
      generalize hWb : W.putObj (w.heap.size + 1) (.loop { rec .ready none with state := .busy }) = Wb
      have hl2 : Wb.heap[w.heap.size + 1]? = some (.loop { rec .ready none with state := .busy }) := by rw [← hWb]; exact World.putObj_heap_same hlt
      have hk2 : Wb.heap[w.heap.size]? = some (.deferred (some [])) := by rw [← hWb]; exact (World.putObj_heap_other (by omega)).trans hk
      have hw2 : Kp W Wb := by rw [← hWb]; exact hput W _ _ hl rfl
      have hi2 : I s Wb := by rw [← hWb]; exact hI.putObj _ hi (by omega) hl rfl
      refine wpIn_mono (hbody _ s x s' Wb hv hi2) ?_
      rintro e a3 W3 hp
      have fin : ∀ (jump : Option Code), KeepsFrom w.heap.size Wb W3 →
          (Instr.endRound (w.heap.size + 1) jump).run P W3 = .ok (.bool jump.isNone) (W3.putObj (w.heap.size + 1) (.loop (rec (if jump.isNone then .ready else .done) jump))) ∧
          W3.heap[w.heap.size + 1]? = some (.loop { rec .ready none with state := .busy }) ∧
          (W3.putObj (w.heap.size + 1) (.loop (rec (if jump.isNone then .ready else .done) jump))).heap[w.heap.size + 1]? = some (.loop (rec (if jump.isNone then .ready else .done) jump)) ∧
          (W3.putObj (w.heap.size + 1) (.loop (rec (if jump.isNone then .ready else .done) jump))).heap[w.heap.size]? = some (.deferred (some [])) := fun jump hk3 => by
        have hl3 := hk3.same _ _ (by omega) hl2 rfl
        have he := run_endRound (P := P) jump hl3
        simp only [hr0] at he ⊢
        refine ⟨he, by simpa only [hr0] using hl3, World.putObj_heap_same (Array.getElem?_eq_some_iff.1 hl3).1, (World.putObj_heap_other (by omega)).trans (hk3.same _ _ (Nat.le_refl _) hk2 rfl)⟩
      cases e with
      | normal =>
        obtain ⟨hk3, hb3, hi3⟩ := hp
        obtain ⟨hr, hl3, hl4, hk4⟩ := fin none hk3
        exact ⟨_, _, hr, .inl ⟨rfl, ⟨hI.putObj _ hi3 (by omega) hl3 rfl, hl4, hk4⟩, hKt (hKt hw2 hb3) (hput W3 _ _ hl3 rfl)⟩⟩
      | exit id =>
        obtain ⟨hk3, hi3⟩ := hp
        obtain ⟨hr, hl3, hl4, hk4⟩ := fin (some (.exit id)) hk3
        exact ⟨_, _, hr, .inr ⟨rfl, id, (hX _).putObj _ hi3 (by omega) hl3 rfl, hl4, hk4⟩⟩
      | ret => exact hp.elim
      | goto t => exact hp.elim
      | panic ch => exact hp.elim
      | outgrown => exact hp.elim
    · rintro e W2 ⟨⟨v, rfl⟩, (⟨s, hS, hi, hl, hk⟩ | ⟨s, id, hi, hl, hk⟩)⟩
      · have he := run_endLoop (P := P) hl (by rw [hr0]; simp)
        rw [hr0] at he
        exact ⟨none, _, he, hdone _ s _ (Nat.le_refl _) hS (hI.putObj _ hi (by omega) hl rfl) ((World.putObj_heap_other (by omega)).trans hk)⟩
      · have he := run_endLoop (P := P) hl (by rw [hr0]; simp)
        rw [hr0] at he
        exact ⟨some (.exit id), _, he, hstop _ id s _ (Nat.le_refl _) ((hX _).putObj _ hi (by omega) hl rfl) ((World.putObj_heap_other (by omega)).trans hk)⟩
/-- the cells of these blocks are kept. -/
def KpC (S : Nat → Prop) (W W' : World) : Prop := ∀ (a : Addr) (u : Value), S a.block → W.cell? a = some u → W'.cell? a = some u
theorem KpC.refl (S : Nat → Prop) (W : World) : KpC S W W := fun _ _ _ h => h
theorem KpC.trans {S : Nat → Prop} {A B C : World} (h : KpC S A B) (h2 : KpC S B C) : KpC S A C := fun a u hs hc => h2 a u hs (h a u hs hc)
theorem KpC.put (S : Nat → Prop) (W : World) (l : Nat) (o o' : Obj) (h : W.heap[l]? = some o) (hc : o.isCells = false) : KpC S W (W.putObj l o') := fun a u _ hu => by
  by_cases e : a.block = l
  · unfold World.cell? at hu
    rw [e, h] at hu
    cases o <;> simp_all [Obj.isCells]
  · unfold World.cell? at hu ⊢
    rw [World.putObj_heap_other e]; exact hu
theorem KpC.grown {S : Nat → Prop} {W W' : World} {row : Option Nat} (hg : W.grownBy W' row) (hr : ∀ k, row = some k → ¬ S k) : KpC S W W' := fun a u hs hu => by
  have hlt : a.block < W.heap.size := by
    rcases Nat.lt_or_ge a.block W.heap.size with h | h
    · exact h
    · unfold World.cell? at hu; rw [Array.getElem?_eq_none h] at hu; cases hu
  unfold World.cell? at hu ⊢
  rw [hg.block a.block hlt (fun e => hr _ e.symm hs)]; exact hu
theorem KpC.set {S : Nat → Prop} {W : World} {p : Addr} (hp : ¬ S p.block) (v : Value) : KpC S W (W.setCell p v) := fun a u hs hu => by
  have hne : a.block ≠ p.block := fun e => hp (e ▸ hs)
  unfold World.cell? at hu ⊢
  rw [Below.heap_setCell _ _ _ _ hne]; exact hu
end Go.Proofs.YtkhphiilnplgjaaGreatDoor
