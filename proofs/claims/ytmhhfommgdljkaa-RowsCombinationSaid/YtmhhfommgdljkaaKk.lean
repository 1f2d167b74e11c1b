/-
  The stack of the checker as a row of its own.
-/
import Derived.Test.YtmhhfommgdljkaaKj
set_option linter.unusedSimpArgs false
set_option linter.unusedVariables false
namespace Go.Proofs.Ytmhhfommgdljkaa
open Go.RowKit Go.Lib

theorem KeptTy.sub {S T : TypeId → Prop} {W W' : World} (h : KeptTy S W W') (hs : ∀ t, T t → S t) : KeptTy T W W' := fun b cs t ht hb => h b cs t (hs t ht) hb
/-- all blocks but those of one type. -/
def NotTy (e : TypeId) (t : TypeId) : Prop := t ≠ e
theorem KS_not {e : TypeId} (h : ¬ KS e) : ∀ t, KS t → NotTy e t := fun t ht he => h (he ▸ ht)
theorem flat_take {α β : Type} (f : α → List β) (c : Nat) (hf : ∀ q, (f q).length = c) : ∀ (L : List α) (k : Nat), (L.flatMap f).take (k * c) = (L.take k).flatMap f
  | [], k => by simp
  | q :: L, 0 => by simp
  | q :: L, k + 1 => by
    rw [List.flatMap_cons, List.take_succ_cons, List.flatMap_cons, ← flat_take f c hf L k, Nat.succ_mul, Nat.add_comm, ← hf q, List.take_length_add_append]
theorem own_take {w : World} {base : Nat} {e : TypeId} {size n : Nat} {xs : List Value} {p : Option Addr} {cap k : Nat} (h : w.ownsRow base e size (.slice p n cap) n xs) (hk : k ≤ n) (hn : 0 < n) : (∃ g, p = some ⟨g, 0, none⟩) ∧ w.ownsRow base e size (.slice p k cap) k (xs.take (k * size)) ∧ n ≤ cap := by
  obtain ⟨hl, ⟨hv, hn0⟩ | ⟨g', cap', cur, hv, hg, hh, hcap, hm, hsz, htk⟩⟩ := h
  · omega
  · simp only [Value.slice.injEq] at hv
    obtain ⟨rfl, -, rfl⟩ := hv
    refine ⟨⟨g', rfl⟩, ⟨?_, .inr ⟨g', cap, cur, rfl, hg, hh, by omega, hm, hsz, ?_⟩⟩, hcap⟩
    · rw [List.length_take, hl, Nat.min_eq_left (Nat.mul_le_mul_right _ hk)]
    · rw [← htk, List.take_take, Nat.min_eq_left (Nat.mul_le_mul_right _ hk)]
/-- a branch shortened. -/
theorem BrAt.take {w0 w : World} {p : Option Addr} {n cap k : Nat} {br : List Rw} (h : BrAt w0 w (.slice p n cap) br) (hk : k ≤ br.length) (h0 : 0 < br.length) :
    ∃ g L, p = some ⟨g, 0, none⟩ ∧ (n = br.length ∧ br.length ≤ cap) ∧ L.map (·.2) = br.take k ∧ L.length = k ∧ w.ownsRow w0.heap.size 37 2 (.slice p k cap) k (rwCells L) ∧ ∀ q ∈ L, RowV w0 w q.1 q.2.A := by
  obtain ⟨L, rfl, ho, hp⟩ := h
  rw [List.length_map] at hk h0
  obtain ⟨p', c', e⟩ := own_shape ho
  simp only [Value.slice.injEq] at e
  obtain ⟨-, rfl, -⟩ := e
  obtain ⟨⟨g, rfl⟩, ho2, hcap⟩ := own_take ho hk h0
  refine ⟨g, L.take k, rfl, ⟨by rw [List.length_map], by rw [List.length_map]; exact hcap⟩, by rw [List.map_take], by rw [List.length_take, Nat.min_eq_left hk], ?_, fun q hq => hp q (List.mem_of_mem_take hq)⟩
  have e := flat_take (fun q : Value × Rw => rwL q.1 q.2) 2 (fun _ => rfl) L k
  unfold rwCells at ho2 ⊢
  rw [e] at ho2
  exact ho2
theorem BrAt.keep {w0 w w' : World} {v : Value} {br : List Rw} (h : BrAt w0 w v br) (hk : KeptTy (NotTy 66) w w') : BrAt w0 w' v br := by
  obtain ⟨L, hL, ho, hp⟩ := h
  exact ⟨L, hL, own_keep ho hk (by unfold NotTy; decide), fun q hq => (hp q hq).keep (hk.sub (KS_not (by unfold KS; decide)))⟩
theorem RsO.keep {base : Nat} {w w' : World} {v : Value} {l : List Rw} (h : RsO base w v l) (hk : KeptTy (NotTy 66) w w') : RsO base w' v l := by
  obtain ⟨p, cap, e, h1, h2⟩ := h
  exact ⟨p, cap, e, h1, fun j r hj => by obtain ⟨b', cs, u, e1, hB, c0, c1, ho⟩ := h2 j r hj; exact ⟨b', cs, u, e1, ⟨hk _ _ _ (by unfold NotTy; decide) hB.is⟩, c0, c1, ho.keep (hk.sub (KS_not (by unfold KS; decide)))⟩⟩
theorem RsO.at {base : Nat} {w : World} {p : Option Addr} {n cap : Nat} {l : List Rw} (h : RsO base w (.slice p n cap) l) {j : Nat} {r : Rw} (hj : l[j]? = some r) : ∃ b u, p = some ⟨b, 0, none⟩ ∧ n = l.length ∧ w.cell? ⟨b, j * 2, none⟩ = some u ∧ w.cell? ⟨b, j * 2 + 1, none⟩ = some (.int .i64 r.C) ∧ OwnI base w u r.A := by
  obtain ⟨p', cap', e, h1, h2⟩ := h
  simp only [Value.slice.injEq] at e
  obtain ⟨rfl, rfl, -⟩ := e
  obtain ⟨b', cs, u, e1, hB, c0, c1, ho⟩ := h2 j r hj
  exact ⟨b', u, e1, rfl, hB.cell _ c0, hB.cell _ c1, ho⟩
theorem RsO.shape {base : Nat} {w : World} {v : Value} {l : List Rw} (h : RsO base w v l) : ∃ p cap, v = .slice p l.length cap := by
  obtain ⟨p', cap', e, h1, h2⟩ := h
  exact ⟨_, _, e⟩
def vsL (u : Value) (x : Vis) : List Value := [.int .i64 (x.i : Int), .int .i64 (x.b : Int), u, .int .i64 x.r.C]
def vsCells (L : List (Value × Vis)) : List Value := L.flatMap fun q => vsL q.1 q.2
theorem vsCells_append (A B : List (Value × Vis)) : vsCells (A ++ B) = vsCells A ++ vsCells B := by unfold vsCells; rw [List.flatMap_append]
theorem vsCells_len (L : List (Value × Vis)) : (vsCells L).length = L.length * 4 := by
  induction L with
  | nil => rfl
  | cons x L ih => show (vsCells L).length + 1 + 1 + 1 + 1 = _; rw [ih, List.length_cons]; omega
/-- the stack as a row of its own. -/
def VsAt (w0 w : World) (v : Value) (S : List Vis) : Prop :=
  ∃ L : List (Value × Vis), L.map (·.2) = S ∧ w.ownsRow w0.heap.size 66 4 v L.length (vsCells L) ∧ ∀ q ∈ L, RowV w0 w q.1 q.2.r.A
theorem VsAt.keep {w0 w w' : World} {v : Value} {S : List Vis} (h : VsAt w0 w v S) (hk : KeptTy (NotTy 37) w w') : VsAt w0 w' v S := by
  obtain ⟨L, hL, ho, hp⟩ := h
  exact ⟨L, hL, own_keep ho hk (by unfold NotTy; decide), fun q hq => (hp q hq).keep (hk.sub (KS_not KS_row))⟩
theorem VsAt.grows {w0 w w' : World} {v : Value} {S : List Vis} (h : VsAt w0 w v S) (hb : Below w.heap.size w w') : VsAt w0 w' v S := h.keep (KeptTy.below hb)
theorem VsAt.shape {w0 w : World} {v : Value} {S : List Vis} (h : VsAt w0 w v S) : ∃ p cap, v = .slice p S.length cap := by
  obtain ⟨L, rfl, ho, -⟩ := h
  obtain ⟨p, cap, e⟩ := own_shape ho
  exact ⟨p, cap, by rw [e, List.length_map]⟩
/-- the top of the stack. -/
theorem VsAt.top {w0 w : World} {p : Option Addr} {n cap : Nat} {A : List Vis} {x : Vis} (h : VsAt w0 w (.slice p n cap) (A ++ [x])) :
    ∃ g u, p = some ⟨g, 0, none⟩ ∧ (n = A.length + 1 ∧ A.length + 1 ≤ cap) ∧ RowV w0 w u x.r.A ∧ VsAt w0 w (.slice p A.length cap) A ∧ g < w.heap.size ∧
      w.cell? ⟨g, A.length * 4, none⟩ = some (.int .i64 (x.i : Int)) ∧ w.cell? ⟨g, A.length * 4 + 1, none⟩ = some (.int .i64 (x.b : Int)) ∧ w.cell? ⟨g, A.length * 4 + 2, none⟩ = some u ∧ w.cell? ⟨g, A.length * 4 + 3, none⟩ = some (.int .i64 x.r.C) := by
  obtain ⟨L, hL, ho, hp⟩ := h
  have hlen : L.length = A.length + 1 := by have := congrArg List.length hL; simpa using this
  obtain ⟨p', c', e⟩ := own_shape ho
  simp only [Value.slice.injEq] at e
  obtain ⟨-, rfl, -⟩ := e
  obtain ⟨⟨g, rfl⟩, ho2, hcap⟩ := own_take (k := A.length) ho (by omega) (by omega)
  have hq : ∃ q, L[A.length]? = some q := get_of_lt (by omega)
  obtain ⟨q, hq⟩ := hq
  have hqx : q.2 = x := by
    have h1 : (L.map (·.2))[A.length]? = some q.2 := by rw [List.getElem?_map, hq]; rfl
    rw [hL] at h1
    simpa using h1.symm
  have hsplit : L = L.take A.length ++ [q] := by
    have h1 := take_snoc hq
    rw [← h1, List.take_of_length_le (by omega)]
  have hcells : vsCells L = vsCells (L.take A.length) ++ vsL q.1 q.2 := by
    conv => lhs; rw [hsplit]
    rw [vsCells_append]; simp [vsCells]
  have htl : (vsCells (L.take A.length)).length = A.length * 4 := by rw [vsCells_len, List.length_take, Nat.min_eq_left (by omega)]
  have hget : ∀ (k : Nat) (y : Value), (vsL q.1 q.2)[k]? = some y → w.cell? ⟨g, A.length * 4 + k, none⟩ = some y := by
    intro k y hy
    refine (own_cell ho (j := A.length * 4 + k) ?_).1
    rw [hcells, List.getElem?_append_right (by omega), htl, Nat.add_sub_cancel_left]
    exact hy
  have hglt : g < w.heap.size := (own_cell ho (j := A.length * 4) (x := .int .i64 (q.2.i : Int)) (by rw [hcells, List.getElem?_append_right (by omega), htl, Nat.sub_self]; rfl)).2.2.1
  refine ⟨g, q.1, rfl, ⟨hlen, by omega⟩, by rw [← hqx]; exact hp q (List.mem_of_getElem? hq), ⟨L.take A.length, ?_, ?_, fun y hy => hp y (List.mem_of_mem_take hy)⟩, hglt, ?_, ?_, ?_, ?_⟩
  · rw [List.map_take, hL, List.take_left]
  · have e := flat_take (fun q : Value × Vis => vsL q.1 q.2) 4 (fun _ => rfl) L A.length
    unfold vsCells at ho2 ⊢
    rw [e] at ho2
    rw [List.length_take, Nat.min_eq_left (by omega)]
    exact ho2
  · rw [← hqx]; exact hget 0 _ rfl
  · rw [← hqx]; exact hget 1 _ rfl
  · exact hget 2 _ rfl
  · rw [← hqx]; exact hget 3 _ rfl
theorem VsAt.push {w0 w w' : World} {v v' : Value} {L : List (Value × Vis)} {x : Vis} {u : Value} (hp : ∀ q ∈ L, RowV w0 w q.1 q.2.r.A) (ho : w.ownsRow w0.heap.size 66 4 v L.length (vsCells L)) (hr : RowV w0 w u x.r.A)
    (hown : w'.ownsRow w0.heap.size 66 4 v' (L.length + 1) (vsCells L ++ vsL u x)) (hg : w.grownBy w' v.ownBlock) : VsAt w0 w' v' (L.map (·.2) ++ [x]) ∧ KeptTy (NotTy 66) w w' := by
  have hk0 : KeptTy (NotTy 66) w w' := KeptTy.grown hg ho (fun h => h rfl)
  have hk : KeptTy KS w w' := hk0.sub (KS_not (by unfold KS; decide))
  refine ⟨⟨L ++ [(u, x)], by rw [List.map_append]; rfl, ?_, fun q hq => ?_⟩, hk0⟩
  · rw [vsCells_append, List.length_append]
    have e : vsCells [(u, x)] = vsL u x := by simp [vsCells]
    rw [e]; exact hown
  · rcases List.mem_append.1 hq with h | h
    · exact (hp q h).keep hk
    · rw [List.mem_singleton] at h; subst h; exact hr.keep hk
theorem RowV.one {w0 w : World} {u : Value} {l : List Int} (h : RowV w0 w u l) : ∃ p cap, u = .slice p l.length cap := by
  rcases h with h | h
  · obtain ⟨p, c, e, -⟩ := h.shape; exact ⟨p, c, e⟩
  · obtain ⟨p, c, e, -⟩ := h.isI.shape; exact ⟨p, c, e⟩
end Go.Proofs.Ytmhhfommgdljkaa
