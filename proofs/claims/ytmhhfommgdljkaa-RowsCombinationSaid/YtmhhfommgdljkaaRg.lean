/-
  Refutations in memory: a step's field is set; the leaf of a search.
-/
import Derived.Test.YtmhhfommgdljkaaEc
import Derived.Deep.RegionLaw
set_option linter.unusedSimpArgs false
set_option linter.unusedVariables false
namespace Go.Proofs.Ytmhhfommgdljkaa
open Go.RowKit Go.Lib

theorem own_set_at {w : World} {base : Nat} {e : TypeId} {size : Nat} {g cap n : Nat} {xs : List Value} (h : w.ownsRow base e size (.slice (some ⟨g, 0, none⟩) n cap) n xs) {j : Nat} (hj : j < n * size) (x : Value) :
    (w.setCell ⟨g, j, none⟩ x).ownsRow base e size (.slice (some ⟨g, 0, none⟩) n cap) n (xs.set j x) := by
  obtain ⟨hl, ⟨hv, hn⟩ | ⟨g', cap', cur, hv, hg, hh, hcap, hm, hsz, htk⟩⟩ := h
  · cases hv
  · simp only [Value.slice.injEq, Option.some.injEq, Addr.mk.injEq, and_true, true_and] at hv
    obtain ⟨rfl, rfl⟩ := hv
    refine ⟨by simpa using hl, .inr ⟨g, cap, cur.setIfInBounds j x, rfl, hg, ?_, hcap, hm, by simpa using hsz, ?_⟩⟩
    · exact ((Blk.mk hh : Blk w g cur e).set j x).is
    · rw [Array.toList_setIfInBounds, List.take_set, htk]
theorem own_cell {w : World} {base : Nat} {e : TypeId} {size : Nat} {g cap n : Nat} {xs : List Value} (h : w.ownsRow base e size (.slice (some ⟨g, 0, none⟩) n cap) n xs) {j : Nat} {x : Value} (hx : xs[j]? = some x) :
    w.cell? ⟨g, j, none⟩ = some x ∧ w.frozen? ⟨g, j, none⟩ = false ∧ g < w.heap.size ∧ base ≤ g ∧ ∃ cur, Blk w g cur e := by
  obtain ⟨hl, ⟨hv, hn⟩ | ⟨g', cap', cur, hv, hg, hh, hcap, hm, hsz, htk⟩⟩ := h
  · cases hv
  · simp only [Value.slice.injEq, Option.some.injEq, Addr.mk.injEq, and_true, true_and] at hv
    obtain ⟨rfl, rfl⟩ := hv
    have B : Blk w g cur e := ⟨hh⟩
    refine ⟨B.cell j ?_, B.free j, B.lt, hg, cur, B⟩
    have h2 := congrArg (fun q => q[j]?) htk
    have hjl := lt_of_get hx
    rw [hx, List.getElem?_take_of_lt (by omega)] at h2
    simpa using h2
theorem cellsOf_length : ∀ L : List (Value × Sp), (cellsOf L).length = L.length * 8
  | [] => rfl
  | q :: L => by
    have ih := cellsOf_length L
    simp only [cellsOf, List.flatMap_cons, List.length_append, List.length_cons] at ih ⊢
    rw [ih]; simp [spL]; omega
theorem cellsOf_at : ∀ {L : List (Value × Sp)} {j : Nat} {u : Value} {t : Sp}, L[j]? = some (u, t) → ∀ (k : Nat) (x : Value), (spL u t)[k]? = some x → (cellsOf L)[j * 8 + k]? = some x
  | [], _, _, _, h, _, _, _ => by simp at h
  | q :: L, 0, u, t, h, k, x, hx => by
    simp at h; subst h
    simp only [cellsOf, List.flatMap_cons, Nat.zero_mul, Nat.zero_add]
    rw [List.getElem?_append_left (lt_of_get hx)]; exact hx
  | q :: L, j + 1, u, t, h, k, x, hx => by
    have ih := cellsOf_at (L := L) (j := j) (by simpa using h) k x hx
    simp only [cellsOf, List.flatMap_cons] at ih ⊢
    rw [List.getElem?_append_right (by simp [spL]; omega)]
    rw [← ih]; congr 1; simp [spL]; omega
theorem cellsOf_set : ∀ {L : List (Value × Sp)} {j : Nat} {u : Value} {t : Sp} (x : Int), L[j]? = some (u, t) → (cellsOf L).set (j * 8 + 7) (.int .i64 x) = cellsOf (L.set j (u, { t with E := x }))
  | [], _, _, _, _, h => by simp at h
  | q :: L, 0, u, t, x, h => by
    simp at h; subst h
    simp [cellsOf, spL]
  | q :: L, j + 1, u, t, x, h => by
    have ih := cellsOf_set (L := L) (j := j) x (by simpa using h)
    simp only [cellsOf, List.flatMap_cons, List.set_cons_succ] at ih ⊢
    rw [List.set_append_right _ _ (by simp [spL]; omega)]
    rw [← ih]; congr 2; simp [spL]; omega
/-- a step's second child is set. -/
theorem PfAt.setE {base : Nat} {w : World} {p : Option Addr} {n cap : Nat} {P : List Sp} (h : PfAt base w (.slice p n cap) P) {j : Nat} {t : Sp} (ht : P[j]? = some t) (x : Int) :
    ∃ g cur, p = some ⟨g, 0, none⟩ ∧ Blk w g cur 49 ∧ base ≤ g ∧ (w.cell? ⟨g, j * 8 + 7, none⟩ = some (.int .i64 t.E)) ∧ PfAt base (w.setCell ⟨g, j * 8 + 7, none⟩ (.int .i64 x)) (.slice p n cap) (P.set j { t with E := x }) := by
  obtain ⟨L, hL, ho, hp⟩ := h
  obtain ⟨q, hq⟩ : ∃ q, L[j]? = some q := by
    rw [← hL, List.getElem?_map] at ht
    cases hh : L[j]? with
    | none => rw [hh] at ht; cases ht
    | some q => exact ⟨q, rfl⟩
  obtain ⟨u, t'⟩ := q
  obtain rfl : t' = t := by rw [← hL, List.getElem?_map, hq] at ht; simpa using ht
  have hjl := lt_of_get hq
  have hc := cellsOf_at hq 7 (.int .i64 t'.E) rfl
  have ho2 := ho
  obtain ⟨_, ⟨_, hn⟩ | ⟨g, cap', cur, hv, hg, _⟩⟩ := ho2
  · omega
  · simp only [Value.slice.injEq] at hv
    obtain ⟨rfl, rfl, rfl⟩ := hv
    obtain ⟨c1, c2, c3, c4, cur2, hB⟩ := own_cell ho hc
    refine ⟨g, cur2, rfl, hB, c4, c1, L.set j (u, { t' with E := x }), ?_, ?_, ?_⟩
    · rw [List.map_set, hL]
    · rw [← cellsOf_set x hq, List.length_set]
      exact own_set_at ho (by rw [Nat.mul_comm]; omega) _
    · intro q hq2
      have hk : KeptTy KS w (w.setCell ⟨g, j * 8 + 7, none⟩ (.int .i64 x)) := KeptTy.set (p := ⟨g, j * 8 + 7, none⟩) hB KS_step _
      rcases List.mem_or_eq_of_mem_set hq2 with h1 | rfl
      · exact (hp q h1).keep hk
      · exact (hp (u, t') (List.mem_of_getElem? hq)).keep hk
theorem PfAt.keepS {base : Nat} {W W' : World} {v : Value} {P : List Sp} (h : PfAt base W v P) (hk : KeptTy KS W W') (hs : KeptTy (fun t => t = 49) W W') : PfAt base W' v P := by
  obtain ⟨L, hL, ho, hp⟩ := h
  exact ⟨L, hL, own_keep ho hs rfl, fun q hq => (hp q hq).keep hk⟩
theorem grow_step {ops : Array Oper} {o : Oper} {a : Act} {w : World} {K : Act → World → Prop} {Q : Exit → Act → World → Prop} {E : Prop} (hgd : o.guard = none) (s x : Operand) (t : TypeId)
    (ho : o.op = .call { callee := .builtin .append, args := #[s, x], argTypes := #[t, t] }) (hty : o.type = t)
    (base : Nat) (e : TypeId) (i : TypeInfo) (z : Value) (size bytes : Nat) (ht : Try.prog.underlying t = some (.slice e)) (hi : Try.prog.info? e = some i) (hz : i.zero = some z)
    (hsize : i.size = size) (hby : i.bytes = bytes) (hzs : z.cells.size = size) (hsz : 0 < size)
    (v : Value) (n : Nat) (xs : List Value) (hs : a.eval s = v) (hown : w.ownsRow base e size v n xs)
    (ad : Addr) (m c : Nat) (news : List Value) (hx : a.eval x = .slice (some ad) m c) (hl : news.length = m * size) (hnews : ∀ j u, news[j]? = some u → w.cell? (ad.add j) = some u) (h1 : ∀ u ∈ news, u.oneCell' = true)
    (h63 : n + m ≤ maxLen) (hbytes : (n + m) * bytes ≤ 140737488355328) (hbase : base ≤ w.heap.size)
    (h : ∀ v' w', w'.ownsRow base e size v' (n + m) (xs ++ news) → w.grownBy w' v.ownBlock → K (a.put o.dst v') w') :
    if Region.wanted o (yielded ops a.tmps) = true then Oper.wp Try.prog o a w K Q else E := by
  rw [if_pos (by simp [Region.wanted, hgd])]
  obtain ⟨v', w', hrun, h2, h3, _⟩ := run_append_own_at (P := Try.prog) w base t t e i z size bytes ht hi hz hsize hby hzs hsz v n xs hown ad m c news hl hnews h1 h63 hbytes hbase
  unfold Oper.wp execOp
  simp only [ho, hty, resolve, invoke, builtin, Sem.run_bind, Sem.run_pure, Result.andThen_ok, List.map_toArray, List.map_cons, List.map_nil, hs, hx, hrun]
  exact h v' w' h2 h3
/-- a step was appended and stored. -/
theorem push_step {base F : Nat} {W W7 : World} {vt vr vs : Value} {p7 : Option Addr} {c7 : Nat} {P : List Sp} {L : List (Value × Sp)} (t : Sp) (u : Value) (news : List Value) (hn : news = spL u t) (hL : L.map (·.2) = P) (hp : ∀ q ∈ L, OwnI base W q.1 q.2.M)
    (hM : OwnI base W u t.M) (hown : W7.ownsRow base 49 8 (.slice p7 (L.length + 1) c7) (L.length + 1) (cellsOf L ++ news)) (hF : Blk W7 F #[vt, vr, vs] 54) (hk : KeptTy KS W W7) :
    Blk (W7.setCell ⟨F, 2, none⟩ (.slice p7 (L.length + 1) c7)) F #[vt, vr, .slice p7 (L.length + 1) c7] 54 ∧ PfAt base (W7.setCell ⟨F, 2, none⟩ (.slice p7 (L.length + 1) c7)) (.slice p7 (L.length + 1) c7) (P ++ [t]) ∧ KeptTy KS W (W7.setCell ⟨F, 2, none⟩ (.slice p7 (L.length + 1) c7)) := by
  have k2 := hk.trans (KeptTy.set (p := ⟨F, 2, none⟩) hF KS_search (.slice p7 (L.length + 1) c7))
  refine ⟨hF.set 2 _, ⟨L ++ [(u, t)], by rw [List.map_append, hL]; rfl, ?_, fun q hq => ?_⟩, k2⟩
  · rw [cellsOf_append, List.length_append]
    have : cellsOf [(u, t)] = news := by rw [hn]; simp [cellsOf]
    rw [this]
    exact own_keep (S := fun t => t = 49) hown (KeptTy.set (p := ⟨F, 2, none⟩) hF (by decide) _) rfl
  · rcases List.mem_append.1 hq with h | h
    · exact (hp q h).keep k2
    · rw [List.mem_singleton] at h; subst h; exact hM.keep k2
end Go.Proofs.Ytmhhfommgdljkaa
