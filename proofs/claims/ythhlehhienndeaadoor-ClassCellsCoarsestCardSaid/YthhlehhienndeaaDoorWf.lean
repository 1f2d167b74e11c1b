/-
  What the canonical cells satisfy: they are apart, they cover, each class is the union of those that it meets; and which lists have the same cells.
-/
import Derived.Test.YthhlehhienndeaaDoorW
set_option linter.unusedSimpArgs false
set_option linter.unusedVariables false
namespace Go.Proofs.YthhlehhienndeaaDoor

theorem mem_fold (j : Nat) : ∀ (l : List (BitVec 256)) (a : BitVec 256), mem (l.foldl (fun a p => a ||| p) a) j = (mem a j || l.any fun p => mem p j)
  | [], a => by simp
  | p :: l, a => by rw [List.foldl_cons, mem_fold j l, mem_or, List.any_cons, Bool.or_assoc]
/-- the union of the first ones. -/
def ups (l : List (BitVec 256)) (i : Nat) : BitVec 256 := (l.take i).foldl (fun a p => a ||| p) 0
theorem ups_step (l : List (BitVec 256)) (k : Nat) (p : BitVec 256) (h : l[k]? = some p) : ups l (k + 1) = ups l k ||| p := by
  unfold ups; rw [List.take_add_one, h, List.foldl_append]; rfl
theorem mem_ups (l : List (BitVec 256)) (i j : Nat) : mem (ups l i) j = (l.take i).any fun p => mem p j := by
  unfold ups; rw [mem_fold, mem_zero, Bool.false_or]
theorem Inv.no_two {cs l : List (BitVec 256)} (h : Inv cs l) {i k : Nat} {p q : BitVec 256} (hik : i < k) (hi : l[i]? = some q) (hk : l[k]? = some p) : disj q p := by
  obtain ⟨h1, rfl⟩ := List.getElem?_eq_some_iff.1 hi
  obtain ⟨h2, rfl⟩ := List.getElem?_eq_some_iff.1 hk
  exact List.pairwise_iff_getElem.1 h.apart i k h1 h2 hik
theorem Inv.ups_apart {cs l : List (BitVec 256)} (h : Inv cs l) {k : Nat} {p : BitVec 256} (hk : l[k]? = some p) : ups l k &&& p = 0 := mem_ext fun j hj => by
  rw [mem_and, mem_ups, mem_zero]
  cases hp : mem p j with
  | false => simp
  | true =>
    rw [Bool.and_true, List.any_eq_false]
    intro q hq hm
    obtain ⟨i, hi⟩ := List.getElem?_of_mem hq
    rw [List.getElem?_take] at hi
    split at hi
    · rename_i hik
      exact h.no_two hik hi hk j ⟨hm, hp⟩
    · cases hi
theorem Inv.ups_all {cs l : List (BitVec 256)} (h : Inv cs l) : ups l l.length = ~~~(0 : BitVec 256) := mem_ext fun j hj => by
  rw [mem_ups, List.take_length, mem_not _ _ hj, mem_zero, List.any_eq_true.2]
  · rfl
  · exact h.cover j hj
/-- the union of those among the first ones that meet a class. -/
def mets (l : List (BitVec 256)) (c : BitVec 256) (i : Nat) : BitVec 256 := ((l.take i).filter fun p => !isZ (p &&& c)).foldl (fun a p => a ||| p) 0
theorem mets_hit (l : List (BitVec 256)) (c : BitVec 256) (k : Nat) (p : BitVec 256) (h : l[k]? = some p) (hp : p &&& c ≠ 0) : mets l c (k + 1) = mets l c k ||| p := by
  unfold mets; rw [List.take_add_one, h, List.filter_append, List.foldl_append]
  have e : ([p].filter fun p => !isZ (p &&& c)) = [p] := by simp [isZ]; exact hp
  show List.foldl _ _ ([p].filter fun p => !isZ (p &&& c)) = _
  rw [e]; rfl
theorem mets_miss (l : List (BitVec 256)) (c : BitVec 256) (k : Nat) (p : BitVec 256) (h : l[k]? = some p) (hp : p &&& c = 0) : mets l c (k + 1) = mets l c k := by
  unfold mets; rw [List.take_add_one, h, List.filter_append, List.foldl_append]
  have e : ([p].filter fun p => !isZ (p &&& c)) = [] := by simp [isZ, hp]
  show List.foldl _ _ ([p].filter fun p => !isZ (p &&& c)) = _
  rw [e]; rfl
theorem Inv.mets_all {cs l : List (BitVec 256)} (h : Inv cs l) {c : BitVec 256} (hc : c ∈ cs) : mets l c l.length = c := mem_ext fun j hj => by
  unfold mets
  rw [mem_fold, mem_zero, Bool.false_or, List.take_length, Bool.eq_iff_iff, List.any_eq_true]
  constructor
  · rintro ⟨p, hp, hm⟩
    obtain ⟨hp1, hp2⟩ := List.mem_filter.1 hp
    have hne : p &&& c ≠ 0 := by simpa [isZ] using hp2
    obtain ⟨k, hk⟩ := exists_mem hne
    rw [mem_and, Bool.and_eq_true] at hk
    have ha := h.same p hp1 k j hj hk.1
    rw [hm] at ha
    rw [← (alike_iff cs k j).1 ha.symm c hc]
    exact hk.2
  · intro hm
    obtain ⟨p, hp, hpj⟩ := h.cover j hj
    refine ⟨p, List.mem_filter.2 ⟨hp, ?_⟩, hpj⟩
    have hne : p &&& c ≠ 0 := ne_zero_of_mem (j := j) (by rw [mem_and, hpj, hm]; rfl)
    simp [isZ]; exact hne
/-- a byte's cell. -/
theorem Inv.cell_at {cs l : List (BitVec 256)} (h : Inv cs l) {j : Nat} (hj : j < 256) : ∃ (k : Nat) (p : BitVec 256), l[k]? = some p ∧ mem p j = true ∧ ∀ i, i < k → ∀ y, l[i]? = some y → mem y j = false := by
  obtain ⟨p, hp, hm⟩ := h.cover j hj
  obtain ⟨k, hk⟩ := List.getElem?_of_mem hp
  refine ⟨k, p, hk, hm, fun i hi y hy => ?_⟩
  cases e : mem y j with
  | false => rfl
  | true => exact (h.no_two hi hy hk j ⟨e, hm⟩).elim
theorem Inv.cell_alike {cs l : List (BitVec 256)} (h : Inv cs l) {i j k k' : Nat} {p p' : BitVec 256} (hi : i < 256) (hj : j < 256) (hk : l[k]? = some p) (hp : mem p i = true) (hk' : l[k']? = some p') (hp' : mem p' j = true) :
    k = k' ↔ alike cs i j = true := by
  constructor
  · rintro rfl
    obtain rfl : p = p' := Option.some.inj (hk.symm.trans hk')
    rw [← h.same p (List.mem_of_getElem? hk) i j hj hp]; exact hp'
  · intro ha
    have hpj : mem p j = true := by rw [h.same p (List.mem_of_getElem? hk) i j hj hp]; exact ha
    rcases Nat.lt_trichotomy k k' with hlt | he | hlt
    · exact (h.no_two hlt hk hk' j ⟨hpj, hp'⟩).elim
    · exact he
    · exact (h.no_two hlt hk' hk j ⟨hp', hpj⟩).elim
/-- lists with the same cells. -/
theorem canon_comb {cs ds : List (BitVec 256)} (h1 : ∀ c ∈ cs, c ∈ ds) (h2 : ∀ d ∈ ds, ∀ i j, i < 256 → j < 256 → alike cs i j = true → mem d i = mem d j) : canon ds = canon cs :=
  canon_congr fun i j hi hj => by
    rw [Bool.eq_iff_iff]
    exact ⟨fun h => (alike_iff cs i j).2 fun c hc => (alike_iff ds i j).1 h c (h1 c hc), fun h => (alike_iff ds i j).2 fun d hd => h2 d hd i j hi hj h⟩
theorem canon_rev (cs : List (BitVec 256)) : canon cs.reverse = canon cs :=
  canon_comb (fun c hc => List.mem_reverse.2 hc) fun d hd i j _ _ h => (alike_iff cs i j).1 h d (List.mem_reverse.1 hd)
theorem canon_canon (cs : List (BitVec 256)) : canon (canon cs) = canon cs := by
  have hI := canon_inv cs
  refine canon_congr fun i j hi hj => ?_
  rw [Bool.eq_iff_iff]
  constructor
  · intro h
    obtain ⟨p, hp, hm⟩ := hI.cover i hi
    have := (alike_iff _ i j).1 h p hp
    rw [← hI.same p hp i j hj hm, ← this]; exact hm
  · intro h
    refine (alike_iff _ i j).2 fun p hp => ?_
    cases e : mem p i with
    | true => rw [hI.same p hp i j hj e, h]
    | false =>
      cases e' : mem p j with
      | false => rfl
      | true =>
        have := hI.same p hp j i hi e'
        rw [alike_symm, h, e] at this
        cases this
/-- each class and its complement, one behind the other. -/
def tws (l : List (BitVec 256)) : List (BitVec 256) := l.flatMap fun x => [x, ~~~x]
theorem mem_tws {l : List (BitVec 256)} {d : BitVec 256} (h : d ∈ tws l) : ∃ x ∈ l, d = x ∨ d = ~~~x := by
  unfold tws at h
  obtain ⟨x, hx, hd⟩ := List.mem_flatMap.1 h
  exact ⟨x, hx, by simpa using hd⟩
theorem canon_tws {cs es : List (BitVec 256)} (he : ∀ e ∈ es, ∃ x ∈ cs, ∃ y ∈ cs, e = x ||| y ∨ e = x &&& ~~~y) : canon (tws cs.reverse ++ es) = canon cs := by
  refine canon_comb (fun c hc => List.mem_append.2 (.inl ?_)) fun d hd i j hi hj h => ?_
  · unfold tws
    exact List.mem_flatMap.2 ⟨c, List.mem_reverse.2 hc, by simp⟩
  · have ha := (alike_iff cs i j).1 h
    rcases List.mem_append.1 hd with hd | hd
    · obtain ⟨x, hx, rfl | rfl⟩ := mem_tws hd
      · exact ha _ (List.mem_reverse.1 hx)
      · rw [mem_not _ _ hi, mem_not _ _ hj, ha _ (List.mem_reverse.1 hx)]
    · obtain ⟨x, hx, y, hy, rfl | rfl⟩ := he d hd
      · rw [mem_or, mem_or, ha x hx, ha y hy]
      · rw [mem_and, mem_and, mem_not _ _ hi, mem_not _ _ hj, ha x hx, ha y hy]
theorem tws_len (l : List (BitVec 256)) : (tws l).length = 2 * l.length := by
  induction l with
  | nil => rfl
  | cons x l ih => show (x :: ~~~x :: tws l).length = _; simp [ih]; omega
end Go.Proofs.YthhlehhienndeaaDoor
