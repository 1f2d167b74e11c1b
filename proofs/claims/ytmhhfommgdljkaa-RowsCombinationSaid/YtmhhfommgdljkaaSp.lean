/-
  Refutations as they lie in memory; walk: exclude.
-/
import Derived.Test.YtmhhfommgdljkaaPj
set_option linter.unusedSimpArgs false
set_option linter.unusedVariables false
namespace Go.Proofs.Ytmhhfommgdljkaa
open Go.RowKit Go.Lib

/-- the blocks of cells of these types are kept. -/
def KeptTy (S : TypeId → Prop) (W W' : World) : Prop := ∀ (b : Nat) (cs : Array Value) (t : TypeId), S t → W.heap[b]? = some (.cells cs t (0, 0)) → W'.heap[b]? = some (.cells cs t (0, 0))
theorem KeptTy.trans {S : TypeId → Prop} {A B C : World} (h : KeptTy S A B) (k : KeptTy S B C) : KeptTy S A C := fun b cs t hs hb => k b cs t hs (h b cs t hs hb)
theorem KeptTy.below {S : TypeId → Prop} {W W' : World} (h : Below W.heap.size W W') : KeptTy S W W' := fun b _ _ _ hb => (h.block b (Array.getElem?_eq_some_iff.1 hb).1).trans hb
theorem KeptTy.grown {S : TypeId → Prop} {W W' : World} {base n size : Nat} {e : TypeId} {v : Value} {xs : List Value} (hg : W.grownBy W' v.ownBlock) (hv : W.ownsRow base e size v n xs) (hS : ¬ S e) : KeptTy S W W' := fun b cs t hs hb =>
  (hg.block b (Array.getElem?_eq_some_iff.1 hb).1 (fun he => by
    rcases hv.2 with ⟨rfl, _⟩ | ⟨g, cap, cur, rfl, _, hh, _⟩
    · cases he
    · simp only [Value.ownBlock, Option.some.injEq] at he
      subst he
      rw [hh] at hb
      simp only [Option.some.injEq, Obj.cells.injEq] at hb
      exact hS (hb.2.1 ▸ hs))).trans hb
theorem KeptTy.set {S : TypeId → Prop} {W : World} {p : Addr} {vs : Array Value} {t : TypeId} (hp : Blk W p.block vs t) (hS : ¬ S t) (v : Value) : KeptTy S W (W.setCell p v) := fun b cs t' hs hb => by
  have hne : b ≠ p.block := fun e => by
    subst e
    rw [hp.is] at hb
    simp only [Option.some.injEq, Obj.cells.injEq] at hb
    exact hS (hb.2.1 ▸ hs)
  rw [Below.heap_setCell _ _ _ _ hne]; exact hb
theorem own_keep {S : TypeId → Prop} {W W' : World} {base : Nat} {e : TypeId} {size : Nat} {v : Value} {n : Nat} {xs : List Value} (h : W.ownsRow base e size v n xs) (hk : KeptTy S W W') (he : S e) : W'.ownsRow base e size v n xs := by
  refine ⟨h.1, ?_⟩
  rcases h.2 with h2 | ⟨g, cap, cur, hv, hb, hh, r⟩
  · exact .inl h2
  · exact .inr ⟨g, cap, cur, hv, hb, hk _ _ _ he hh, r⟩
/-- the types of blocks that a search leaves alone. -/
def KS (t : TypeId) : Prop := t = 3 ∨ t = 58
theorem KS_int : KS 3 := .inl rfl
theorem KS_box : KS 58 := .inr rfl
theorem KS_step : ¬ KS 49 := by unfold KS; decide
theorem KS_search : ¬ KS 54 := by unfold KS; decide
theorem BxAt.keep {W W' : World} {g : Nat} {B : List Iv} (h : BxAt W g B) (hk : KeptTy KS W W') : BxAt W' g B := ⟨⟨hk _ _ _ KS_box h.1.is⟩, h.2⟩
/-- a step's cells. -/
def spL (u : Value) (t : Sp) : List Value := [.int .i64 t.k, u, .int .i64 t.R, .int .i64 t.D, .int .i64 t.X, .int .i64 t.K, .int .i64 t.N, .int .i64 t.E]
def OwnI (base : Nat) (w : World) (v : Value) (l : List Int) : Prop := w.ownsRow base 3 1 v l.length (l.map (Value.int .i64))
theorem OwnI.nil (base : Nat) (w : World) : OwnI base w (.slice none 0 0) [] := World.ownsRow_nil _ _ _ _
theorem OwnI.keep {base : Nat} {W W' : World} {v : Value} {l : List Int} (h : OwnI base W v l) (hk : KeptTy KS W W') : OwnI base W' v l := own_keep h hk KS_int
def cellsOf (L : List (Value × Sp)) : List Value := L.flatMap fun q => spL q.1 q.2
/-- a refutation as a row of its own. -/
def PfAt (base : Nat) (w : World) (v : Value) (P : List Sp) : Prop :=
  ∃ L : List (Value × Sp), L.map (·.2) = P ∧ w.ownsRow base 49 8 v L.length (cellsOf L) ∧ ∀ q ∈ L, OwnI base w q.1 q.2.M
theorem PfAt.nil (base : Nat) (w : World) : PfAt base w (.slice none 0 0) [] := ⟨[], rfl, World.ownsRow_nil _ _ _ _, fun _ h => by cases h⟩
theorem PfAt.below {base : Nat} {W W' : World} {v : Value} {P : List Sp} (h : PfAt base W v P) (hb : Below W.heap.size W W') : PfAt base W' v P := by
  obtain ⟨L, hL, ho, hp⟩ := h
  exact ⟨L, hL, own_below ho hb, fun q hq => own_below (hp q hq) hb⟩
theorem PfAt.own {base : Nat} {W : World} {v : Value} {P : List Sp} (h : PfAt base W v P) : ∃ xs, W.ownsRow base 49 8 v P.length xs := by
  obtain ⟨L, rfl, ho, _⟩ := h
  rw [List.length_map]; exact ⟨_, ho⟩
theorem PfAt.shape {base : Nat} {W : World} {v : Value} {P : List Sp} (h : PfAt base W v P) : ∃ p cap, v = .slice p P.length cap := by
  obtain ⟨xs, h1⟩ := h.own
  exact own_shape h1
theorem infoSt : (Try.prog.info? 49).map (fun i => (i.zero, i.size, i.bytes)) = some (some (.agg #[.int .i64 0, .slice none 0 0, .int .i64 0, .int .i64 0, .int .i64 0, .int .i64 0, .int .i64 0, .int .i64 0]), 8, 80) := by kernel_rfl
theorem cells_new (w : World) (l : List Value) (t : TypeId) (cs : Array Value) (hc : cs = l.toArray) : ∀ (j : Nat) (u : Value), l[j]? = some u → (w.alloc (.cells cs t)).cell? ((⟨w.heap.size, 0, none⟩ : Addr).add j) = some u := by
  intro j u h
  subst hc
  have hadd : (⟨w.heap.size, 0, none⟩ : Addr).add j = ⟨w.heap.size, j, none⟩ := by unfold Addr.add; split <;> simp_all
  rw [hadd]
  exact (Blk.new w l.toArray t).cell j (by simpa using h)
theorem mk_take : ∀ {A : List Int} {b : List Iv} {i : Nat} {a : Int} {v : Iv} (m : List Int), A[i]? = some a → b[i]? = some v → mk (A.take (i + 1)) b m = (mk (A.take i) b m).set (posn a v) (mult a)
  | [], _, _, _, _, _, h, _ => by simp at h
  | _ :: _, [], _, _, _, _, _, h => by simp at h
  | x :: A, u :: b, 0, a, v, m, h1, h2 => by
    simp at h1 h2; subst h1; subst h2
    simp [mk_cons, mk]
  | x :: A, u :: b, i + 1, a, v, m, h1, h2 => by
    simp only [List.take_succ_cons, mk_cons]
    exact mk_take _ (by simpa using h1) (by simpa using h2)
def intsA (m : List Int) : Array Value := (m.map (Value.int .i64)).toArray
theorem intsA_size (m : List Int) : (intsA m).size = m.length := by simp [intsA]
theorem intsA_get {m : List Int} {j : Nat} {x : Int} (h : m[j]? = some x) : (intsA m)[j]? = some (.int .i64 x) := by simp [intsA, h]
theorem intsA_set (m : List Int) (j : Nat) (x : Int) : (intsA m).setIfInBounds j (.int .i64 x) = intsA (m.set j x) := by simp [intsA, List.map_set]
theorem made_ints (n : Nat) : madeCells #[Value.int .i64 0] n = intsA (List.replicate n 0) := by
  unfold intsA
  rw [List.map_replicate]
  apply Array.ext
  · simp [madeCells]
  · intro j h1 h2
    simp [madeCells, Nat.mod_one]
end Go.Proofs.Ytmhhfommgdljkaa
