/-
  Texts of the proof, one behind another: Wx, Ua, Ub.
-/
import Derived.Test.YtgbbjobmcbdhdaaGreatDoorYda
import Derived.Test.YtgbbjobmcbdhdaaGreatDoorYci
import Derived.Test.YtgbbjobmcbdhdaaGreatDoorYba
import Derived.Test.YtgbbjobmcbdhdaaGreatDoorYdb
set_option linter.unusedSimpArgs false
set_option linter.unusedVariables false
/-
  Plain: good nodes, made expressions and what they match; spoiled expressions; piles of expressions. No walk here.
-/
namespace Go.Proofs.YtgbbjobmcbdhdaaGreatDoor
/-- good nodes: each fits, each but the last one is an operand once. -/
structure Wf (xs : List Nd) : Prop where
  pos : 0 < xs.length
  chk : ∀ (i : Nat) n, xs[i]? = some n → chkN n (i : Int) = 0
  use : ∀ i : Nat, i + 1 < xs.length → (xs.flatMap opsN).count (i : Int) = 1
theorem Wf.tree {xs : List Nd} (h : Wf xs) : treeB xs = true := by
  unfold treeB
  rw [List.all_eq_true]
  intro i hi
  rw [List.mem_range] at hi
  exact decide_eq_true (h.use i (by omega))
theorem Wf.valid {xs : List Nd} (h : Wf xs) (h2 : xs.length ≤ 200) : validE xs = 0 := by
  have := h.pos
  unfold validE
  rw [if_neg (by omega), if_neg (by omega), firstE_zero xs 0 (fun k n hk => by simpa using h.chk k n hk), h.tree]
  rfl
theorem chk_parts {n : Nd} {i : Int} (h : chkN n i = 0) : knownB n.k = true ∧ n = usedN n ∧ boundsErr n = 0 := by
  unfold chkN at h
  split at h
  · cases h
  · rename_i hno
    refine ⟨?_, ?_, ?_⟩
    · cases hb : knownB n.k
      · exact absurd (.inl hb) hno
      · rfl
    · exact Classical.byContradiction fun hne => hno (.inr hne)
    · unfold chkR at h
      split at h
      · cases h
      · exact h
theorem chk_make {n : Nd} {i : Int} (hk : knownB n.k = true) (hu : n = usedN n) (ho : ∀ j ∈ opsN n, 0 ≤ j ∧ j < i) (hb : boundsErr n = 0) : chkN n i = 0 := by
  unfold chkN
  rw [if_neg (by rintro (h | h); · rw [hk] at h; cases h
                 · exact h hu)]
  have : (opsN n).any (badOp i) = false := by
    rw [Bool.eq_false_iff]
    intro h
    obtain ⟨j, hj, hbad⟩ := List.any_eq_true.1 h
    have := ho j hj
    unfold badOp at hbad
    simp at hbad
    omega
  rw [this]
  exact hb
/-- a node whose operands stand d places further on. -/
def shN (d : Int) (n : Nd) : Nd :=
  if n.k = 4 ∨ n.k = 5 ∨ n.k = 6 then ⟨n.k, n.c, n.l + d, n.r + d, n.mn, n.mx⟩ else if n.k = 7 ∨ n.k = 8 then ⟨n.k, n.c, n.l + d, n.r, n.mn, n.mx⟩ else n
theorem shN_two {d : Int} {n : Nd} (h : n.k = 4 ∨ n.k = 5 ∨ n.k = 6) : shN d n = ⟨n.k, n.c, n.l + d, n.r + d, n.mn, n.mx⟩ := by unfold shN; rw [if_pos h]
theorem shN_one {d : Int} {n : Nd} (h : n.k = 7 ∨ n.k = 8) : shN d n = ⟨n.k, n.c, n.l + d, n.r, n.mn, n.mx⟩ := by unfold shN; rw [if_neg (by omega), if_pos h]
theorem shN_none {d : Int} {n : Nd} (h : ¬ (n.k = 4 ∨ n.k = 5 ∨ n.k = 6)) (h2 : ¬ (n.k = 7 ∨ n.k = 8)) : shN d n = n := by unfold shN; rw [if_neg h, if_neg h2]
theorem shN_k (d : Int) (n : Nd) : (shN d n).k = n.k := by unfold shN; split <;> (try split) <;> rfl
theorem shN_c (d : Int) (n : Nd) : (shN d n).c = n.c := by unfold shN; split <;> (try split) <;> rfl
theorem shN_mn (d : Int) (n : Nd) : (shN d n).mn = n.mn := by unfold shN; split <;> (try split) <;> rfl
theorem shN_mx (d : Int) (n : Nd) : (shN d n).mx = n.mx := by unfold shN; split <;> (try split) <;> rfl
theorem opsN_sh (d : Int) (n : Nd) : opsN (shN d n) = (opsN n).map (· + d) := by
  by_cases h : n.k = 4 ∨ n.k = 5 ∨ n.k = 6
  · rw [shN_two h, opsN_two (n := ⟨n.k, n.c, n.l + d, n.r + d, n.mn, n.mx⟩) h, opsN_two h]; rfl
  · by_cases h2 : n.k = 7 ∨ n.k = 8
    · rw [shN_one h2, opsN_one (n := ⟨n.k, n.c, n.l + d, n.r, n.mn, n.mx⟩) h2, opsN_one h2]; rfl
    · rw [shN_none h h2]
      have : opsN n = [] := by unfold opsN; rw [if_neg h, if_neg h2]
      rw [this]; rfl
theorem used_sh {d : Int} {n : Nd} (h : n = usedN n) : shN d n = usedN (shN d n) := by
  obtain ⟨k, c, l, r, mn, mx⟩ := n
  by_cases h4 : k = 4 ∨ k = 5 ∨ k = 6
  · rw [shN_two h4]
    have hk : k ≠ 3 := by omega
    simp only [usedN, hk, h4, if_true, if_false, Nd.mk.injEq, true_and] at h ⊢
    exact h
  · by_cases h7 : k = 7 ∨ k = 8
    · rw [shN_one h7]
      rcases h7 with rfl | rfl
      · simp [usedN] at h ⊢
        exact h
      · simp [usedN] at h ⊢
        exact h
    · rw [shN_none h4 h7]; exact h
theorem chk_sh {n : Nd} {i : Int} {d : Nat} (h : chkN n i = 0) : chkN (shN d n) (i + d) = 0 := by
  obtain ⟨h1, h2, h3⟩ := chk_parts h
  refine chk_make (by rw [shN_k]; exact h1) (used_sh h2) (fun j hj => ?_) (by unfold boundsErr at h3 ⊢; rw [shN_mn, shN_mx]; exact h3)
  rw [opsN_sh] at hj
  obtain ⟨j0, hj0, rfl⟩ := List.mem_map.1 hj
  have := chk_zero h j0 hj0
  omega
/-- a node kept before further ones keeps its check. -/
theorem flat_sh (d : Int) (ys : List Nd) : (ys.map (shN d)).flatMap opsN = (ys.flatMap opsN).map (· + d) := by
  induction ys with
  | nil => rfl
  | cons y ys ih => rw [List.map_cons, List.flatMap_cons, ih, List.flatMap_cons, List.map_append, opsN_sh]
theorem Wf.ops_lt {xs : List Nd} (h : Wf xs) : ∀ j ∈ xs.flatMap opsN, 0 ≤ j ∧ j + 1 < (xs.length : Int) := by
  intro j hj
  obtain ⟨n, hn, hj⟩ := List.mem_flatMap.1 hj
  obtain ⟨i, hi⟩ := List.mem_iff_getElem?.1 hn
  have h1 := chk_zero (h.chk i n hi) j hj
  have h2 := (List.getElem?_eq_some_iff.1 hi).1
  omega
theorem Wf.count_no {xs : List Nd} (h : Wf xs) (j : Int) (hj : j < 0 ∨ (xs.length : Int) ≤ j + 1) : (xs.flatMap opsN).count j = 0 := by
  rw [List.count_eq_zero]
  intro hm
  have := h.ops_lt j hm
  omega
theorem count_sh (l : List Int) (d j : Int) : (l.map (· + d)).count j = l.count (j - d) := by
  induction l with
  | nil => rfl
  | cons a l ih =>
    rw [List.map_cons, List.count_cons, List.count_cons, ih]
    congr 1
    by_cases h : a = j - d
    · subst h; simp
    · have : ¬ (a + d = j) := by omega
      simp [h, this]
/-- a root over one expression. -/
def un (n : Nd) (xs : List Nd) : List Nd := xs ++ [⟨n.k, n.c, (xs.length : Int) - 1, n.r, n.mn, n.mx⟩]
theorem un_len (n : Nd) (xs : List Nd) : (un n xs).length = xs.length + 1 := by simp [un]
theorem Wf.un {xs : List Nd} (h : Wf xs) {n : Nd} (hk : n.k = 7 ∨ n.k = 8) (hc : n.c = 0) (hr : n.r = 0) (hb : n.k = 7 → n.mn = 0 ∧ n.mx = 0) (he : n.k = 8 → boundsErr n = 0) : Wf (un n xs) := by
  have hp := h.pos
  obtain ⟨k, c, l, r, mn, mx⟩ := n
  dsimp only at hk hc hr hb he
  subst hc hr
  refine ⟨by rw [un_len]; omega, fun i m hi => ?_, fun i hi => ?_⟩
  · unfold Go.Proofs.YtgbbjobmcbdhdaaGreatDoor.un at hi
    rcases Nat.lt_or_ge i xs.length with hlt | hge
    · rw [List.getElem?_append_left hlt] at hi
      exact h.chk i m hi
    · rw [List.getElem?_append_right hge] at hi
      have hi0 := (List.getElem?_eq_some_iff.1 hi).1
      simp only [List.length_singleton] at hi0
      rw [show i - xs.length = 0 by omega] at hi
      simp only [List.getElem?_cons_zero, Option.some.injEq] at hi
      subst hi
      refine chk_make ?_ ?_ ?_ ?_
      · rcases hk with rfl | rfl <;> rfl
      · rcases hk with rfl | rfl
        · have := hb rfl
          simp [usedN, this.1, this.2]
        · simp [usedN]
      · intro j hj
        rw [opsN_one hk] at hj
        simp only [List.mem_singleton] at hj
        subst hj
        omega
      · rcases hk with rfl | rfl
        · have := hb rfl
          simp [boundsErr, this.1, this.2]
        · have := he rfl
          unfold boundsErr at this ⊢
          exact this
  · rw [un_len] at hi
    unfold Go.Proofs.YtgbbjobmcbdhdaaGreatDoor.un
    rw [List.flatMap_append, List.count_append, List.flatMap_cons, List.flatMap_nil, List.append_nil, opsN_one hk]
    by_cases hl : i + 1 < xs.length
    · rw [h.use i hl]
      have : ¬ ((xs.length : Int) - 1 = (i : Int)) := by omega
      simp [List.count_cons, this]
    · rw [h.count_no i (by omega)]
      have : (xs.length : Int) - 1 = (i : Int) := by omega
      simp [this]
/-- a root over two expressions. -/
def bin (k : Int) (xs ys : List Nd) : List Nd := xs ++ ys.map (shN xs.length) ++ [⟨k, 0, (xs.length : Int) - 1, (xs.length : Int) + ys.length - 1, 0, 0⟩]
theorem bin_len (k : Int) (xs ys : List Nd) : (bin k xs ys).length = xs.length + ys.length + 1 := by simp [bin]; omega
theorem bin_left {k : Int} {xs ys : List Nd} {i : Nat} (h : i < xs.length) : (bin k xs ys)[i]? = xs[i]? := by
  unfold bin
  rw [List.append_assoc, List.getElem?_append_left h]
theorem bin_right {k : Int} {xs ys : List Nd} {i : Nat} (h : i < ys.length) : (bin k xs ys)[i + xs.length]? = (ys[i]?).map (shN xs.length) := by
  unfold bin
  rw [List.append_assoc, List.getElem?_append_right (by omega), List.getElem?_append_left (by simp; omega), show i + xs.length - xs.length = i by omega, List.getElem?_map]
theorem bin_root {k : Int} {xs ys : List Nd} : (bin k xs ys)[xs.length + ys.length]? = some ⟨k, 0, (xs.length : Int) - 1, (xs.length : Int) + ys.length - 1, 0, 0⟩ := by
  unfold bin
  rw [List.getElem?_append_right (by simp)]
  simp
theorem Wf.bin {xs ys : List Nd} (h : Wf xs) (h' : Wf ys) {k : Int} (hk : k = 4 ∨ k = 5 ∨ k = 6) : Wf (bin k xs ys) := by
  have hp := h.pos
  have hp' := h'.pos
  refine ⟨by rw [bin_len]; omega, fun i m hi => ?_, fun i hi => ?_⟩
  · have hil := (List.getElem?_eq_some_iff.1 hi).1
    rw [bin_len] at hil
    rcases Nat.lt_or_ge i xs.length with hlt | hge
    · rw [bin_left hlt] at hi
      exact h.chk i m hi
    · rcases Nat.lt_or_ge i (xs.length + ys.length) with hlt2 | hge2
      · obtain ⟨j, rfl⟩ : ∃ j, i = j + xs.length := ⟨i - xs.length, by omega⟩
        rw [bin_right (by omega)] at hi
        obtain ⟨n, hn, rfl⟩ := Option.map_eq_some_iff.1 hi
        have := chk_sh (d := xs.length) (h'.chk j n hn)
        rwa [show ((j + xs.length : Nat) : Int) = (j : Int) + (xs.length : Int) by omega]
      · obtain rfl : i = xs.length + ys.length := by omega
        rw [bin_root] at hi
        simp only [Option.some.injEq] at hi
        subst hi
        refine chk_make ?_ ?_ ?_ ?_
        · rcases hk with rfl | rfl | rfl <;> rfl
        · have hk3 : k ≠ 3 := by omega
          simp [usedN, hk3, hk]
        · intro j hj
          rw [opsN_two hk] at hj
          simp only [List.mem_cons, List.not_mem_nil, or_false] at hj
          rcases hj with rfl | rfl <;> omega
        · rfl
  · rw [bin_len] at hi
    unfold Go.Proofs.YtgbbjobmcbdhdaaGreatDoor.bin
    rw [List.flatMap_append, List.flatMap_append, List.count_append, List.count_append, flat_sh, count_sh, List.flatMap_cons, List.flatMap_nil, List.append_nil, opsN_two hk]
    by_cases hl : i + 1 < xs.length
    · rw [h.use i hl, h'.count_no _ (by omega)]
      have t1 : ¬ ((xs.length : Int) - 1 = (i : Int)) := by omega
      have t2 : ¬ ((xs.length : Int) + ys.length - 1 = (i : Int)) := by omega
      simp [List.count_cons, t1, t2]
    · rw [h.count_no i (by omega)]
      by_cases hl2 : i + 1 = xs.length
      · rw [h'.count_no _ (by omega)]
        have t1 : ((xs.length : Int) - 1 = (i : Int)) := by omega
        have t2 : ¬ ((xs.length : Int) + ys.length - 1 = (i : Int)) := by omega
        simp [List.count_cons, t1, t2]
      · have t1 : ¬ ((xs.length : Int) - 1 = (i : Int)) := by omega
        by_cases hl3 : i + 1 = xs.length + ys.length
        · rw [h'.count_no _ (by omega)]
          have t2 : ((xs.length : Int) + ys.length - 1 = (i : Int)) := by omega
          simp [List.count_cons, t1, t2]
        · have t2 : ¬ ((xs.length : Int) + ys.length - 1 = (i : Int)) := by omega
          have := h'.use (i - xs.length) (by omega)
          rw [show (((i - xs.length : Nat) : Int)) = (i : Int) - (xs.length : Int) by omega] at this
          rw [this]
          simp [List.count_cons, t1, t2]

/-! ## Trees of made expressions -/
theorem rx_left {xs zs : List Nd} (h : ∀ (i : Nat) n, xs[i]? = some n → ∀ j ∈ opsN n, 0 ≤ j ∧ j < (i : Int)) : ∀ (f i : Nat), i < xs.length → rx (xs ++ zs) f i = rx xs f i
  | 0, _, _ => rfl
  | f + 1, i, hi => by
    obtain ⟨n, hn⟩ : ∃ n, xs[i]? = some n := ⟨_, List.getElem?_eq_getElem hi⟩
    have two : (n.k = 4 ∨ n.k = 5 ∨ n.k = 6) → rx (xs ++ zs) f n.l.toNat = rx xs f n.l.toNat ∧ rx (xs ++ zs) f n.r.toNat = rx xs f n.r.toNat := fun hk => by
      have h1 := h i n hn n.l (by rw [opsN_two hk]; simp)
      have h2 := h i n hn n.r (by rw [opsN_two hk]; simp)
      exact ⟨rx_left h f _ (by omega), rx_left h f _ (by omega)⟩
    have one : (n.k = 7 ∨ n.k = 8) → rx (xs ++ zs) f n.l.toNat = rx xs f n.l.toNat := fun hk => by
      have h1 := h i n hn n.l (by rw [opsN_one hk]; simp)
      exact rx_left h f _ (by omega)
    unfold rx
    rw [List.getElem?_append_left hi, hn]
    dsimp only
    by_cases h4 : n.k = 4
    · simp only [h4]; rw [(two (.inl h4)).1, (two (.inl h4)).2]
    by_cases h5 : n.k = 5
    · simp only [h5]; rw [(two (.inr (.inl h5))).1, (two (.inr (.inl h5))).2]
    by_cases h6 : n.k = 6
    · simp only [h6]; rw [(two (.inr (.inr h6))).1, (two (.inr (.inr h6))).2]
    by_cases h7 : n.k = 7
    · simp only [h7]; rw [one (.inl h7)]; simp
    by_cases h8 : n.k = 8
    · simp only [h8]; rw [one (.inr h8)]; simp
    simp only [h4, h5, h6, h7, h8, if_false]
theorem rx_right {xs ys : List Nd} {k : Int} (h : ∀ (i : Nat) n, ys[i]? = some n → ∀ j ∈ opsN n, 0 ≤ j ∧ j < (i : Int)) : ∀ (f i : Nat), i < ys.length → rx (bin k xs ys) f (i + xs.length) = rx ys f i
  | 0, _, _ => rfl
  | f + 1, i, hi => by
    obtain ⟨n, hn⟩ : ∃ n, ys[i]? = some n := ⟨_, List.getElem?_eq_getElem hi⟩
    have two : (n.k = 4 ∨ n.k = 5 ∨ n.k = 6) → rx (bin k xs ys) f (n.l + xs.length).toNat = rx ys f n.l.toNat ∧ rx (bin k xs ys) f (n.r + xs.length).toNat = rx ys f n.r.toNat := fun hk => by
      have h1 := h i n hn n.l (by rw [opsN_two hk]; simp)
      have h2 := h i n hn n.r (by rw [opsN_two hk]; simp)
      rw [show (n.l + xs.length).toNat = n.l.toNat + xs.length by omega, show (n.r + xs.length).toNat = n.r.toNat + xs.length by omega]
      exact ⟨rx_right h f _ (by omega), rx_right h f _ (by omega)⟩
    have one : (n.k = 7 ∨ n.k = 8) → rx (bin k xs ys) f (n.l + xs.length).toNat = rx ys f n.l.toNat := fun hk => by
      have h1 := h i n hn n.l (by rw [opsN_one hk]; simp)
      rw [show (n.l + xs.length).toNat = n.l.toNat + xs.length by omega]
      exact rx_right h f _ (by omega)
    unfold rx
    rw [bin_right hi, hn]
    dsimp only [Option.map_some]
    rw [shN_k, shN_c, shN_mn, shN_mx]
    by_cases h4 : n.k = 4
    · have hk : n.k = 4 ∨ n.k = 5 ∨ n.k = 6 := .inl h4
      rw [shN_two hk]; simp only [h4]; rw [(two hk).1, (two hk).2]
    by_cases h5 : n.k = 5
    · have hk : n.k = 4 ∨ n.k = 5 ∨ n.k = 6 := .inr (.inl h5)
      rw [shN_two hk]; simp only [h5]; rw [(two hk).1, (two hk).2]
    by_cases h6 : n.k = 6
    · have hk : n.k = 4 ∨ n.k = 5 ∨ n.k = 6 := .inr (.inr h6)
      rw [shN_two hk]; simp only [h6]; rw [(two hk).1, (two hk).2]
    by_cases h7 : n.k = 7
    · rw [shN_one (.inl h7)]; simp only [h7]; rw [one (.inl h7)]; simp
    by_cases h8 : n.k = 8
    · rw [shN_one (.inr h8)]; simp only [h8]; rw [one (.inr h8)]; simp
    simp only [h4, h5, h6, h7, h8, if_false]
theorem Wf.ops {xs : List Nd} (h : Wf xs) : ∀ (i : Nat) n, xs[i]? = some n → ∀ j ∈ opsN n, 0 ≤ j ∧ j < (i : Int) := fun i n hi => chk_zero (h.chk i n hi)
/-- the tree of an expression. -/
def tree (xs : List Nd) : Rx := tr xs (xs.length - 1)
theorem tr_append {xs zs : List Nd} (h : Wf xs) {i : Nat} (hi : i < xs.length) : tr (xs ++ zs) i = tr xs i := rx_left h.ops _ _ hi
theorem tr_bin_l {xs ys : List Nd} (h : Wf xs) {k : Int} : tr (bin k xs ys) (xs.length - 1) = tree xs := by
  unfold tree bin
  rw [List.append_assoc]
  exact tr_append h (by have := h.pos; omega)
theorem tr_bin_r {xs ys : List Nd} (h' : Wf ys) {k : Int} (hy : ys.length ≤ 200) : tr (bin k xs ys) (xs.length + ys.length - 1) = tree ys := by
  have hp := h'.pos
  unfold tree
  rw [show xs.length + ys.length - 1 = (ys.length - 1) + xs.length by omega]
  unfold tr
  rw [rx_right h'.ops _ _ (by omega), rx_fuel (okX_of (h'.valid hy)) _ (ys.length - 1 + 1) _ (by omega) (by omega)]
theorem tree_bin {xs ys : List Nd} (h : Wf xs) (h' : Wf ys) {k : Int} (hk : k = 4 ∨ k = 5 ∨ k = 6) (hl : xs.length + ys.length + 1 ≤ 200) :
    tree (bin k xs ys) = if k = 4 then .cat (tree xs) (tree ys) else if k = 5 then .alt (tree xs) (tree ys) else .and (tree xs) (tree ys) := by
  have hp := h.pos
  have hp' := h'.pos
  have hX := okX_of ((h.bin h' hk).valid (by rw [bin_len]; exact hl))
  have hr := bin_root (k := k) (xs := xs) (ys := ys)
  have e1 : ((xs.length : Int) - 1).toNat = xs.length - 1 := by omega
  have e2 : ((xs.length : Int) + ys.length - 1).toNat = xs.length + ys.length - 1 := by omega
  rw [show tree (bin k xs ys) = tr (bin k xs ys) (xs.length + ys.length) by unfold tree; rw [bin_len]; rfl]
  rcases hk with rfl | rfl | rfl
  · rw [tr_cat hX hr rfl, if_pos rfl]
    dsimp only
    rw [e1, e2, tr_bin_l h, tr_bin_r h' (by omega)]
  · rw [tr_alt hX hr rfl, if_neg (by decide), if_pos rfl]
    dsimp only
    rw [e1, e2, tr_bin_l h, tr_bin_r h' (by omega)]
  · rw [tr_and hX hr rfl, if_neg (by decide), if_neg (by decide)]
    dsimp only
    rw [e1, e2, tr_bin_l h, tr_bin_r h' (by omega)]
theorem un_root (n : Nd) (xs : List Nd) : (un n xs)[xs.length]? = some ⟨n.k, n.c, (xs.length : Int) - 1, n.r, n.mn, n.mx⟩ := by
  unfold un
  rw [List.getElem?_append_right (by omega)]
  simp
theorem tree_un {xs : List Nd} {n : Nd} (h : Wf xs) (hu : Wf (un n xs)) (hk : n.k = 7 ∨ n.k = 8) (hl : xs.length + 1 ≤ 200) :
    tree (un n xs) = if n.k = 7 then .not (tree xs) else .rep (tree xs) n.mn.toNat (if n.mx = -1 then none else some n.mx.toNat) := by
  have hp := h.pos
  have hX := okX_of (hu.valid (by rw [un_len]; exact hl))
  have hr := un_root n xs
  have e1 : ((xs.length : Int) - 1).toNat = xs.length - 1 := by omega
  have e2 : tr (un n xs) (xs.length - 1) = tree xs := by unfold un tree; exact tr_append h (by omega)
  rw [show tree (un n xs) = tr (un n xs) xs.length by unfold tree; rw [un_len]; rfl]
  rcases hk with hk | hk
  · rw [tr_not hX hr hk, if_pos hk]
    dsimp only
    rw [e1, e2]
  · rw [tr_rep hX hr hk, if_neg (show ¬ n.k = 7 by omega)]
    dsimp only
    rw [e1, e2]

/-! ## What made expressions match -/
theorem match_wf {xs : List Nd} (h : Wf xs) (hl : xs.length ≤ 200) {b : List Int} : matchB xs b = true ↔ sp b (tree xs) 0 b.length := by
  rw [matchB_true]
  exact ⟨fun h => h.2, fun h2 => ⟨h.valid hl, h2⟩⟩
theorem match_alt {xs ys : List Nd} (h : Wf xs) (h' : Wf ys) (hl : xs.length + ys.length + 1 ≤ 200) (b : List Int) : matchB (bin 5 xs ys) b = (matchB xs b || matchB ys b) := by
  rw [Bool.eq_iff_iff, Bool.or_eq_true, match_wf (h.bin h' (by simp)) (by rw [bin_len]; exact hl), match_wf h (by omega), match_wf h' (by omega), tree_bin h h' (by simp) hl]
  exact Iff.rfl
theorem match_and {xs ys : List Nd} (h : Wf xs) (h' : Wf ys) (hl : xs.length + ys.length + 1 ≤ 200) (b : List Int) : matchB (bin 6 xs ys) b = (matchB xs b && matchB ys b) := by
  rw [Bool.eq_iff_iff, Bool.and_eq_true, match_wf (h.bin h' (by simp)) (by rw [bin_len]; exact hl), match_wf h (by omega), match_wf h' (by omega), tree_bin h h' (by simp) hl]
  exact Iff.rfl
def notN : Nd := ⟨7, 0, 0, 0, 0, 0⟩
theorem wf_not {xs : List Nd} (h : Wf xs) : Wf (un notN xs) := h.un (.inl rfl) rfl rfl (fun _ => ⟨rfl, rfl⟩) (fun h => by cases h)
theorem match_not {xs : List Nd} (h : Wf xs) (hl : xs.length + 1 ≤ 200) (b : List Int) : matchB (un notN xs) b = !matchB xs b := by
  rw [Bool.eq_iff_iff, Bool.not_eq_true', ← Bool.not_eq_true, match_wf (wf_not h) (by rw [un_len]; exact hl), match_wf h (by omega), tree_un h (wf_not h) (.inl rfl) hl]
  exact ⟨fun h => h.2.2, fun h => ⟨Nat.zero_le _, Nat.le_refl _, h⟩⟩
theorem sp_take {b : List Int} (t : Rx) (k : Nat) (hk : k ≤ b.length) : ∀ (i j : Nat), j ≤ k → (sp (b.take k) t i j ↔ sp b t i j) := by
  have hlen : (b.take k).length = k := by rw [List.length_take]; omega
  induction t with
  | none => intro i j _; exact Iff.rfl
  | empty =>
    intro i j hj
    simp only [sp, hlen]
    constructor <;> rintro ⟨rfl, _⟩ <;> exact ⟨rfl, by omega⟩
  | cls c =>
    intro i j hj
    simp only [sp]
    constructor
    · rintro ⟨rfl, y, hy, hm⟩
      refine ⟨rfl, y, ?_, hm⟩
      rwa [List.getElem?_take_of_lt (by omega)] at hy
    · rintro ⟨rfl, y, hy, hm⟩
      refine ⟨rfl, y, ?_, hm⟩
      rwa [List.getElem?_take_of_lt (by omega)]
  | cat l r ihl ihr =>
    intro i j hj
    simp only [sp]
    constructor
    · rintro ⟨m, h1, h2⟩
      have := (sp_le _ r m j h2).1
      exact ⟨m, (ihl i m (by omega)).1 h1, (ihr m j hj).1 h2⟩
    · rintro ⟨m, h1, h2⟩
      have := (sp_le _ r m j h2).1
      exact ⟨m, (ihl i m (by omega)).2 h1, (ihr m j hj).2 h2⟩
  | alt l r ihl ihr => intro i j hj; simp only [sp, ihl i j hj, ihr i j hj]
  | and l r ihl ihr => intro i j hj; simp only [sp, ihl i j hj, ihr i j hj]
  | not l ih =>
    intro i j hj
    simp only [sp, ih i j hj, hlen]
    constructor
    · rintro ⟨h1, _, h2⟩; exact ⟨h1, by omega, h2⟩
    · rintro ⟨h1, _, h2⟩; exact ⟨h1, by omega, h2⟩
  | rep l lo hi ih =>
    intro i j hj
    have hpow : ∀ (n i : Nat), i ≤ k → (pow (sp (b.take k) l) n i j ↔ pow (sp b l) n i j) := by
      intro n
      induction n with
      | zero => intro i _; exact Iff.rfl
      | succ n ihn =>
        intro i hi
        simp only [pow]
        constructor
        · rintro ⟨m, h1, h2⟩
          have h3 := (sp_le _ l i m h1).2
          rw [hlen] at h3
          exact ⟨m, (ih i m h3).1 h1, (ihn m h3).1 h2⟩
        · rintro ⟨m, h1, h2⟩
          have h3 := (sp_le _ l i m h1)
          have h4 := (pow_le (sp_le b l) h3.2 h2).1
          exact ⟨m, (ih i m (by omega)).2 h1, (ihn m (by omega)).2 h2⟩
    simp only [sp, hlen]
    constructor
    · rintro ⟨h0, n, h1, h2, h3⟩
      exact ⟨by omega, n, h1, h2, (hpow n i h0).1 h3⟩
    · rintro ⟨h0, n, h1, h2, h3⟩
      have := (pow_le (sp_le b l) h0 h3).1
      exact ⟨by omega, n, h1, h2, (hpow n i (by omega)).2 h3⟩
theorem sp_drop {b : List Int} (t : Rx) (k : Nat) (hk : k ≤ b.length) : ∀ (i j : Nat), sp (b.drop k) t i j ↔ sp b t (i + k) (j + k) := by
  have hlen : (b.drop k).length = b.length - k := List.length_drop
  induction t with
  | none => intro i j; exact Iff.rfl
  | empty =>
    intro i j
    simp only [sp, hlen]
    omega
  | cls c =>
    intro i j
    simp only [sp, List.getElem?_drop]
    constructor
    · rintro ⟨rfl, y, hy, hm⟩
      exact ⟨by omega, y, by rw [Nat.add_comm i k]; exact hy, hm⟩
    · rintro ⟨h, y, hy, hm⟩
      exact ⟨by omega, y, by rw [Nat.add_comm k i]; exact hy, hm⟩
  | cat l r ihl ihr =>
    intro i j
    simp only [sp]
    constructor
    · rintro ⟨m, h1, h2⟩
      exact ⟨m + k, (ihl i m).1 h1, (ihr m j).1 h2⟩
    · rintro ⟨m, h1, h2⟩
      have := (sp_le _ l _ _ h1).1
      obtain ⟨m, rfl⟩ : ∃ u, m = u + k := ⟨m - k, by omega⟩
      exact ⟨m, (ihl i m).2 h1, (ihr m j).2 h2⟩
  | alt l r ihl ihr => intro i j; simp only [sp, ihl i j, ihr i j]
  | and l r ihl ihr => intro i j; simp only [sp, ihl i j, ihr i j]
  | not l ih =>
    intro i j
    simp only [sp, ih i j, hlen]
    constructor
    · rintro ⟨h1, h3, h2⟩; exact ⟨by omega, by omega, h2⟩
    · rintro ⟨h1, h3, h2⟩; exact ⟨by omega, by omega, h2⟩
  | rep l lo hi ih =>
    intro i j
    have hpow : ∀ (n i : Nat), (pow (sp (b.drop k) l) n i j ↔ pow (sp b l) n (i + k) (j + k)) := by
      intro n
      induction n with
      | zero => intro i; simp only [pow]; omega
      | succ n ihn =>
        intro i
        simp only [pow]
        constructor
        · rintro ⟨m, h1, h2⟩
          exact ⟨m + k, (ih i m).1 h1, (ihn m).1 h2⟩
        · rintro ⟨m, h1, h2⟩
          have := (sp_le _ l _ _ h1).1
          obtain ⟨m, rfl⟩ : ∃ u, m = u + k := ⟨m - k, by omega⟩
          exact ⟨m, (ih i m).2 h1, (ihn m).2 h2⟩
    simp only [sp, hlen, hpow]
    constructor
    · rintro ⟨h0, h⟩; exact ⟨by omega, h⟩
    · rintro ⟨h0, h⟩; exact ⟨by omega, h⟩
/-- is there a split below k? -/
noncomputable def splitB (xs ys : List Nd) (b : List Int) : Nat → Bool
  | 0 => false
  | k + 1 => splitB xs ys b k || (matchB xs (b.take k) && matchB ys (b.drop k))
theorem splitB_iff {xs ys : List Nd} {b : List Int} : ∀ k, splitB xs ys b k = true ↔ ∃ i, i < k ∧ matchB xs (b.take i) = true ∧ matchB ys (b.drop i) = true
  | 0 => by simp [splitB]
  | k + 1 => by
    rw [splitB, Bool.or_eq_true, splitB_iff k, Bool.and_eq_true]
    constructor
    · rintro (⟨i, h, h1⟩ | h)
      · exact ⟨i, by omega, h1⟩
      · exact ⟨k, by omega, h⟩
    · rintro ⟨i, h, h1⟩
      by_cases e : i = k
      · subst e; exact .inr h1
      · exact .inl ⟨i, by omega, h1⟩
theorem match_cat {xs ys : List Nd} (h : Wf xs) (h' : Wf ys) (hl : xs.length + ys.length + 1 ≤ 200) (b : List Int) : matchB (bin 4 xs ys) b = splitB xs ys b (b.length + 1) := by
  rw [Bool.eq_iff_iff, splitB_iff, match_wf (h.bin h' (by simp)) (by rw [bin_len]; exact hl), tree_bin h h' (by simp) hl, if_pos rfl]
  constructor
  · rintro ⟨m, h1, h2⟩
    have := sp_le _ _ _ _ h2
    refine ⟨m, by omega, ?_, ?_⟩
    · rw [match_wf h (by omega), List.length_take, Nat.min_eq_left (by omega)]
      exact (sp_take _ m (by omega) 0 m (Nat.le_refl _)).2 h1
    · rw [match_wf h' (by omega), List.length_drop]
      refine (sp_drop _ m (by omega) 0 _).2 ?_
      rw [Nat.zero_add, show b.length - m + m = b.length by omega]
      exact h2
  · rintro ⟨m, hm, h1, h2⟩
    rw [match_wf h (by omega), List.length_take, Nat.min_eq_left (by omega)] at h1
    rw [match_wf h' (by omega), List.length_drop] at h2
    have h2 := (sp_drop _ m (by omega) 0 _).1 h2
    rw [Nat.zero_add, show b.length - m + m = b.length by omega] at h2
    exact ⟨m, (sp_take _ m (by omega) 0 m (Nat.le_refl _)).1 h1, h2⟩
/-- a node that repeats. -/
def repN (mn mx : Int) : Nd := ⟨8, 0, 0, 0, mn, mx⟩
theorem wf_rep {xs : List Nd} (h : Wf xs) {mn mx : Int} (h0 : 0 ≤ mn ∧ mn ≤ 16) (h1 : mx = -1 ∨ mn ≤ mx ∧ mx ≤ 16) : Wf (un (repN mn mx) xs) :=
  h.un (.inr rfl) rfl rfl (fun h => by cases h) (fun _ => by
    unfold boundsErr repN
    dsimp only
    repeat' split
    all_goals omega)
theorem match_rep {xs : List Nd} (h : Wf xs) (hl : xs.length + 1 ≤ 200) {mn mx : Int} (h0 : 0 ≤ mn ∧ mn ≤ 16) (h1 : mx = -1 ∨ mn ≤ mx ∧ mx ≤ 16) (b : List Int) :
    matchB (un (repN mn mx) xs) b = true ↔ sp b (.rep (tree xs) mn.toNat (if mx = -1 then none else some mx.toNat)) 0 b.length := by
  rw [match_wf (wf_rep h h0 h1) (by rw [un_len]; exact hl), tree_un h (wf_rep h h0 h1) (.inr rfl) hl]
  exact Iff.rfl
theorem rep_unfold {b : List Int} {t : Rx} {lo : Nat} {hi : Option Nat} (h0 : hi ≠ some 0) {i j : Nat} (hb : i ≤ b.length) : sp b (.rep t lo hi) i j ↔ (lo = 0 ∧ i = j) ∨ sp b (.cat t (.rep t (lo - 1) (hi.map (· - 1)))) i j := by
  constructor
  · rintro ⟨h1, k, h2, h3, h4⟩
    cases k with
    | zero => exact .inl ⟨by omega, h4⟩
    | succ k =>
      obtain ⟨m, h5, h6⟩ := h4
      refine .inr ⟨m, h5, (sp_le _ _ _ _ h5).2, k, by omega, fun h e => ?_, h6⟩
      obtain ⟨u, rfl, rfl⟩ := Option.map_eq_some_iff.1 e
      have := h3 u rfl
      omega
  · rintro (⟨h1, rfl⟩ | ⟨m, h5, h1, k, h2, h3, h6⟩)
    · exact ⟨hb, 0, by omega, fun h _ => Nat.zero_le _, rfl⟩
    · refine ⟨hb, k + 1, by omega, fun h e => ?_, m, h5, h6⟩
      subst e
      have := h3 (h - 1) rfl
      have : h ≠ 0 := fun e => h0 (by rw [e])
      omega
/-- a repetition unfolds once. -/
theorem match_unfold {xs : List Nd} (h : Wf xs) (hl : 2 * xs.length + 2 ≤ 200) {mn mx mn' mx' : Int} (h0 : 0 ≤ mn ∧ mn ≤ 16) (h1 : mx = -1 ∨ mn ≤ mx ∧ mx ≤ 16) (hz : mx ≠ 0) (hn' : mn' = max (mn - 1) 0) (hx' : mx = -1 ∧ mx' = -1 ∨ mx ≠ -1 ∧ mx' = mx - 1) (b : List Int) :
    matchB (un (repN mn mx) xs) b = ((decide (mn = 0) && decide (b.length = 0)) || matchB (bin 4 xs (un (repN mn' mx') xs)) b) := by
  have hw : Wf (un (repN mn' mx') xs) := wf_rep h (by omega) (by omega)
  rw [Bool.eq_iff_iff, Bool.or_eq_true, Bool.and_eq_true, decide_eq_true_iff, decide_eq_true_iff, match_rep h (by omega) h0 h1, rep_unfold ?_ (Nat.zero_le _), match_wf (h.bin hw (by simp)) (by rw [bin_len, un_len]; omega), tree_bin h hw (by simp) (by rw [un_len]; omega), if_pos rfl,
    tree_un h hw (.inr rfl) (by omega), if_neg (show ¬ (repN mn' mx').k = 7 from (by decide : ¬ (8 : Int) = 7))]
  · have e1 : mn'.toNat = mn.toNat - 1 := by omega
    have e2 : (if mx' = -1 then none else some mx'.toNat) = (if mx = -1 then none else some mx.toNat : Option Nat).map (· - 1) := by
      rcases hx' with ⟨rfl, rfl⟩ | ⟨h1, h2⟩
      · rfl
      · rw [if_neg (by omega), if_neg h1, h2, Option.map_some]
        congr 1
        show (mx - 1).toNat = mx.toNat - 1
        omega
    constructor
    · rintro (⟨h2, h3⟩ | h2)
      · exact .inl ⟨by omega, h3.symm⟩
      · right
        show sp b (.cat (tree xs) (.rep (tree xs) mn'.toNat (if mx' = -1 then none else some mx'.toNat))) 0 b.length
        rw [e1, e2]; exact h2
    · rintro (⟨h2, h3⟩ | h2)
      · exact .inl ⟨by omega, h3.symm⟩
      · right
        have h2 : sp b (.cat (tree xs) (.rep (tree xs) mn'.toNat (if mx' = -1 then none else some mx'.toNat))) 0 b.length := h2
        rw [e1, e2] at h2; exact h2
  · rcases hx' with ⟨rfl, _⟩ | ⟨h2, _⟩
    · simp
    · rw [if_neg h2]
      simp only [ne_eq, Option.some.injEq]
      omega
/-- x{0,0} matches the empty word alone. -/
theorem match_zero {xs : List Nd} (h : Wf xs) (hl : xs.length + 1 ≤ 200) (b : List Int) : matchB (un (repN 0 0) xs) b = decide (b.length = 0) := by
  rw [Bool.eq_iff_iff, match_rep h hl (by omega) (by omega), decide_eq_true_iff, if_neg (by decide)]
  constructor
  · rintro ⟨_, k, _, h3, h4⟩
    have := h3 0 rfl
    obtain rfl : k = 0 := by omega
    exact Eq.symm h4
  · intro h4
    exact ⟨Nat.zero_le _, 0, Nat.le_refl _, fun h _ => Nat.zero_le _, h4.symm⟩
/-- a class whose text is short. -/
def ShortC (c : BitVec 256) : Prop := (clsT c).length ≤ 60
/-- a node without operands, as a leaf is: a class has a short text. -/
def LeafN (n : Nd) : Prop := n = ⟨1, 0, 0, 0, 0, 0⟩ ∨ n = ⟨2, 0, 0, 0, 0, 0⟩ ∨ ∃ c, ShortC c ∧ n = ⟨3, c, 0, 0, 0, 0⟩
theorem wf_leaf {n : Nd} (h : LeafN n) : Wf [n] := by
  refine ⟨by simp, fun i m hi => ?_, fun i hi => by simp at hi⟩
  have hi0 := (List.getElem?_eq_some_iff.1 hi).1
  simp only [List.length_singleton] at hi0
  obtain rfl : i = 0 := by omega
  simp only [List.getElem?_cons_zero, Option.some.injEq] at hi
  subst hi
  rcases h with rfl | rfl | ⟨c, _, rfl⟩
  · rfl
  · rfl
  · exact chk_make rfl (by simp [usedN]) (by simp [opsN]) rfl

/-! ## Spoiled expressions -/
theorem firstE_last : ∀ (l : List Nd) (i : Nat) (n : Nd), (∀ (k : Nat) m, l[k]? = some m → chkN m ((i + k : Nat) : Int) = 0) → firstE i (l ++ [n]) = chkN n ((i + l.length : Nat) : Int)
  | [], i, n, _ => by
    show firstE i [n] = _
    rw [firstE]
    split
    · rename_i h; rw [firstE]; exact h.symm
    · rfl
  | m :: l, i, n, h => by
    have h0 : chkN m (i : Int) = 0 := h 0 m rfl
    rw [List.cons_append, firstE, if_pos h0, firstE_last l (i + 1) n fun k x hk => ?_]
    · rw [show i + 1 + l.length = i + (m :: l).length by simp; omega]
    · have := h (k + 1) x (by simpa using hk)
      rwa [show i + 1 + k = i + (k + 1) by omega]
theorem valid_spoiled {l : List Nd} {n : Nd} (h : ∀ (k : Nat) m, l[k]? = some m → chkN m (k : Int) = 0) (hl : l.length + 1 ≤ 200) (hn : chkN n (l.length : Int) ≠ 0) : validE (l ++ [n]) = chkN n (l.length : Int) := by
  have e := firstE_last l 0 n fun k m hk => by simpa using h k m hk
  rw [Nat.zero_add] at e
  unfold validE
  rw [if_neg (by simp; omega), if_neg (by simp), e]
  unfold vRes
  rw [if_neg hn]
theorem spoiled_root {xs : List Nd} (h : Wf xs) (hl : xs.length ≤ 200) {n : Nd} (hn : chkN n ((xs.length : Int) - 1) ≠ 0) : validE (xs.take (xs.length - 1) ++ [n]) = chkN n ((xs.length : Int) - 1) := by
  have hp := h.pos
  have e : (xs.take (xs.length - 1)).length = xs.length - 1 := by rw [List.length_take]; omega
  have e2 : (((xs.take (xs.length - 1)).length : Nat) : Int) = (xs.length : Int) - 1 := by rw [e]; omega
  have := valid_spoiled (l := xs.take (xs.length - 1)) (n := n) (fun k m hk => h.chk k m (by
    have := (List.getElem?_eq_some_iff.1 hk).1
    rwa [List.getElem?_take_of_lt (by omega)] at hk)) (by omega) (by rw [e2]; exact hn)
  rw [this, e2]
theorem spoiled_more {xs : List Nd} (h : Wf xs) (hl : xs.length + 1 ≤ 200) {n : Nd} (hn : chkN n (xs.length : Int) ≠ 0) : validE (xs ++ [n]) = chkN n (xs.length : Int) :=
  valid_spoiled (fun k m hk => h.chk k m hk) hl hn
theorem chk_kind {n : Nd} {i : Int} (h : knownB n.k = false) : chkN n i = 1 := by unfold chkN; rw [if_pos (.inl h)]
theorem chk_left {n : Nd} {i : Int} (h0 : n.l ≠ 0) (h : n.l < 0 ∨ i ≤ n.l) : chkN n i = 1 := by
  unfold chkN
  split
  · rfl
  · rename_i hno
    have hu : n = usedN n := Classical.byContradiction fun hne => hno (.inr hne)
    have hm : n.l ∈ opsN n := by
      by_cases h4 : n.k = 4 ∨ n.k = 5 ∨ n.k = 6
      · rw [opsN_two h4]; simp
      · by_cases h7 : n.k = 7 ∨ n.k = 8
        · rw [opsN_one h7]; simp
        · exfalso
          apply h0
          rw [hu]
          unfold usedN
          split
          · rfl
          · rw [if_neg (by omega), if_neg (by omega)]
    have : (opsN n).any (badOp i) = true := List.any_eq_true.2 ⟨_, hm, by unfold badOp; simp; exact h⟩
    rw [this]
    rfl
theorem chk_bounds {i : Int} {l mn mx : Int} (h0 : 0 ≤ l ∧ l < i) : chkN ⟨8, 0, l, 0, mn, mx⟩ i = boundsErr ⟨8, 0, l, 0, mn, mx⟩ := by
  unfold chkN
  have : (opsN ⟨8, 0, l, 0, mn, mx⟩).any (badOp i) = false := by
    simp [opsN, badOp]
    omega
  rw [if_neg (by simp [knownB, usedN]), this]
  rfl
theorem chk_b17 (l : Int) : boundsErr ⟨8, 0, l, 0, 17, 0⟩ = 2 := rfl
theorem chk_b21 (l : Int) : boundsErr ⟨8, 0, l, 0, 2, 1⟩ = 1 := rfl
/-- a further leaf leaves the old root unused. -/
theorem spoiled_leaf {xs : List Nd} (h : Wf xs) (hl : xs.length + 1 ≤ 200) : validE (xs ++ [⟨2, 0, 0, 0, 0, 0⟩]) = 1 := by
  have hp := h.pos
  have e := firstE_last xs 0 ⟨2, 0, 0, 0, 0, 0⟩ fun k m hk => by simpa using h.chk k m hk
  have hc : ∀ i : Int, chkN ⟨2, 0, 0, 0, 0, 0⟩ i = 0 := fun i => chk_make rfl (by simp [usedN]) (by simp [opsN]) rfl
  rw [hc] at e
  have ht : treeB (xs ++ [⟨2, 0, 0, 0, 0, 0⟩]) = false := by
    rw [Bool.eq_false_iff]
    intro ht
    unfold treeB at ht
    rw [List.all_eq_true] at ht
    have := ht (xs.length - 1) (by rw [List.mem_range]; simp; omega)
    have := of_decide_eq_true this
    rw [List.flatMap_append, List.count_append, h.count_no _ (by omega)] at this
    simp [opsN] at this
  unfold validE
  rw [if_neg (by simp; omega), if_neg (by simp), e, ht]
  rfl
/-! ## Postorder -/
/-- the classes of the tree have short texts. -/
def ShortT : Rx → Prop
  | .none => True
  | .empty => True
  | .cls c => ShortC c
  | .cat l r => ShortT l ∧ ShortT r
  | .alt l r => ShortT l ∧ ShortT r
  | .and l r => ShortT l ∧ ShortT r
  | .not l => ShortT l
  | .rep l _ _ => ShortT l
theorem fmt_short : ∀ (t : Rx), ShortT t → (fmtT t).length ≤ 80 * t.size
  | .none, _ => by decide
  | .empty, _ => by decide
  | .cls c, h => by have : (clsT c).length ≤ 60 := h; simp only [fmtT, Rx.size]; omega
  | .cat l r, h => by
    have a := fmt_short l h.1
    have b := fmt_short r h.2
    have c := (parB_len (l.isAlt || l.isAnd) (fmtT l)).2
    have d := (parB_len (r.isCat || r.isAlt || r.isAnd) (fmtT r)).2
    simp only [fmtT, Rx.size, List.length_append]; omega
  | .alt l r, h => by
    have a := fmt_short l h.1
    have b := fmt_short r h.2
    have d := (parB_len r.isAlt (fmtT r)).2
    simp only [fmtT, Rx.size, List.length_append, List.length_cons]; omega
  | .and l r, h => by
    have a := fmt_short l h.1
    have b := fmt_short r h.2
    have c := (parB_len l.isAlt (fmtT l)).2
    have d := (parB_len (r.isAlt || r.isAnd) (fmtT r)).2
    simp only [fmtT, Rx.size, List.length_append, List.length_cons]; omega
  | .not l, h => by
    have a := fmt_short l h
    have c := (parB_len (l.isCat || l.isAlt || l.isAnd) (fmtT l)).2
    simp only [fmtT, Rx.size, List.length_cons]; omega
  | .rep l lo hi, h => by
    have a := fmt_short l h
    have c := (parB_len (l.isCat || l.isAlt || l.isAnd || l.isNot) (fmtT l)).2
    have d := (repT_len lo hi).2
    simp only [fmtT, Rx.size, List.length_append]; omega
/-- the expression stands in postorder, and its classes have short texts. -/
def Post (xs : List Nd) : Prop := ∃ t, OkT t ∧ ShortT t ∧ xs = flat t 0
theorem flat_shift (d : Nat) : ∀ (t : Rx) (o : Nat), flat t (o + d) = (flat t o).map (shN d)
  | .none, _ => by simp [flat, shN]
  | .empty, _ => by simp [flat, shN]
  | .cls _, _ => by simp [flat, shN]
  | .cat l r, o => by
    have hl := size_pos l
    have hr := size_pos r
    have e1 : ((o + d + l.size - 1 : Nat) : Int) = ((o + l.size - 1 : Nat) : Int) + (d : Int) := by omega
    have e2 : ((o + d + l.size + r.size - 1 : Nat) : Int) = ((o + l.size + r.size - 1 : Nat) : Int) + (d : Int) := by omega
    simp only [flat, List.map_append, List.map_cons, List.map_nil]
    rw [flat_shift d l o, show o + d + l.size = o + l.size + d by omega, flat_shift d r (o + l.size), show o + l.size + d = o + d + l.size by omega, e1, e2]
    rfl
  | .alt l r, o => by
    have hl := size_pos l
    have hr := size_pos r
    have e1 : ((o + d + l.size - 1 : Nat) : Int) = ((o + l.size - 1 : Nat) : Int) + (d : Int) := by omega
    have e2 : ((o + d + l.size + r.size - 1 : Nat) : Int) = ((o + l.size + r.size - 1 : Nat) : Int) + (d : Int) := by omega
    simp only [flat, List.map_append, List.map_cons, List.map_nil]
    rw [flat_shift d l o, show o + d + l.size = o + l.size + d by omega, flat_shift d r (o + l.size), show o + l.size + d = o + d + l.size by omega, e1, e2]
    rfl
  | .and l r, o => by
    have hl := size_pos l
    have hr := size_pos r
    have e1 : ((o + d + l.size - 1 : Nat) : Int) = ((o + l.size - 1 : Nat) : Int) + (d : Int) := by omega
    have e2 : ((o + d + l.size + r.size - 1 : Nat) : Int) = ((o + l.size + r.size - 1 : Nat) : Int) + (d : Int) := by omega
    simp only [flat, List.map_append, List.map_cons, List.map_nil]
    rw [flat_shift d l o, show o + d + l.size = o + l.size + d by omega, flat_shift d r (o + l.size), show o + l.size + d = o + d + l.size by omega, e1, e2]
    rfl
  | .not l, o => by
    have hl := size_pos l
    have e1 : ((o + d + l.size - 1 : Nat) : Int) = ((o + l.size - 1 : Nat) : Int) + (d : Int) := by omega
    simp only [flat, List.map_append, List.map_cons, List.map_nil]
    rw [flat_shift d l o, e1]
    rfl
  | .rep l lo hi, o => by
    have hl := size_pos l
    have e1 : ((o + d + l.size - 1 : Nat) : Int) = ((o + l.size - 1 : Nat) : Int) + (d : Int) := by omega
    simp only [flat, List.map_append, List.map_cons, List.map_nil]
    rw [flat_shift d l o, e1]
    rfl
theorem post_leaf {n : Nd} (h : LeafN n) : Post [n] := by
  rcases h with rfl | rfl | ⟨c, hc, rfl⟩
  · exact ⟨.none, trivial, trivial, rfl⟩
  · exact ⟨.empty, trivial, trivial, rfl⟩
  · exact ⟨.cls c, trivial, hc, rfl⟩
theorem post_not {xs : List Nd} (h : Post xs) : Post (un notN xs) := by
  obtain ⟨t, ht, hc, rfl⟩ := h
  refine ⟨.not t, ht, hc, ?_⟩
  have := size_pos t
  show flat t 0 ++ [(⟨7, 0, ((flat t 0).length : Int) - 1, 0, 0, 0⟩ : Nd)] = flat t 0 ++ [⟨7, 0, ((0 + t.size - 1 : Nat) : Int), 0, 0, 0⟩]
  rw [flatT_len, show ((0 + t.size - 1 : Nat) : Int) = (t.size : Int) - 1 by omega]
theorem post_rep {xs : List Nd} (h : Post xs) {mn mx : Int} (h0 : 0 ≤ mn ∧ mn ≤ 16) (h1 : mx = -1 ∨ mn ≤ mx ∧ mx ≤ 16) : Post (un (repN mn mx) xs) := by
  obtain ⟨t, ht, hc, rfl⟩ := h
  have := size_pos t
  refine ⟨.rep t mn.toNat (if mx = -1 then none else some mx.toNat), ⟨ht, by omega, fun h e => ?_⟩, hc, ?_⟩
  · split at e
    · cases e
    · cases e; omega
  · show flat t 0 ++ [(⟨8, 0, ((flat t 0).length : Int) - 1, 0, mn, mx⟩ : Nd)] = flat t 0 ++ [⟨8, 0, ((0 + t.size - 1 : Nat) : Int), 0, ((mn.toNat : Nat) : Int), hiI (if mx = -1 then none else some mx.toNat)⟩]
    have e2 : hiI (if mx = -1 then none else some mx.toNat) = mx := by
      split
      · rename_i h; rw [h]; rfl
      · show ((mx.toNat : Nat) : Int) = mx; omega
    rw [flatT_len, show ((0 + t.size - 1 : Nat) : Int) = (t.size : Int) - 1 by omega, show ((mn.toNat : Nat) : Int) = mn by omega, e2]
theorem post_bin {xs ys : List Nd} (h : Post xs) (h' : Post ys) {k : Int} (hk : k = 4 ∨ k = 5 ∨ k = 6) : Post (bin k xs ys) := by
  obtain ⟨t, ht, hc, rfl⟩ := h
  obtain ⟨u, hu, hc', rfl⟩ := h'
  have h1 := size_pos t
  have h2 := size_pos u
  have e1 : ((0 + t.size - 1 : Nat) : Int) = (t.size : Int) - 1 := by omega
  have e2 : ((0 + t.size + u.size - 1 : Nat) : Int) = (t.size : Int) + (u.size : Int) - 1 := by omega
  have e3 : (flat u 0).map (shN (t.size : Int)) = flat u (0 + t.size) := (flat_shift t.size u 0).symm
  rcases hk with rfl | rfl | rfl
  · refine ⟨.cat t u, ⟨ht, hu⟩, ⟨hc, hc'⟩, ?_⟩
    unfold bin
    rw [flatT_len, flatT_len, e3, List.append_assoc]
    simp only [flat]
    rw [e1, e2]
  · refine ⟨.alt t u, ⟨ht, hu⟩, ⟨hc, hc'⟩, ?_⟩
    unfold bin
    rw [flatT_len, flatT_len, e3, List.append_assoc]
    simp only [flat]
    rw [e1, e2]
  · refine ⟨.and t u, ⟨ht, hu⟩, ⟨hc, hc'⟩, ?_⟩
    unfold bin
    rw [flatT_len, flatT_len, e3, List.append_assoc]
    simp only [flat]
    rw [e1, e2]

/-! ## Piles -/
/-- good expressions with t nodes at the most. -/
structure Pile (ls : List (List Nd)) (t : Nat) : Prop where
  good : ∀ x ∈ ls, Wf x
  post : ∀ x ∈ ls, Post x
  tot : ls.flatten.length ≤ t
theorem Pile.nil (t : Nat) : Pile [] t := ⟨fun x hx => (by cases hx), fun x hx => (by cases hx), Nat.zero_le _⟩
theorem Pile.more {ls : List (List Nd)} {t : Nat} (h : Pile ls t) {z : List Nd} (hw : Wf z) (ho : Post z) (hz : z.length = 1) : Pile (ls ++ [z]) (t + 1) := by
  have := h.tot
  refine ⟨fun x hx => ?_, fun x hx => ?_, by rw [List.flatten_append, List.length_append, List.flatten_cons, List.flatten_nil, List.append_nil]; omega⟩
  · rcases List.mem_append.1 hx with hx | hx
    · exact h.good x hx
    · simp only [List.mem_singleton] at hx; subst hx; exact hw
  · rcases List.mem_append.1 hx with hx | hx
    · exact h.post x hx
    · simp only [List.mem_singleton] at hx; subst hx; exact ho
theorem Pile.top {ls : List (List Nd)} {x : List Nd} {t : Nat} (h : Pile (ls ++ [x]) t) {z : List Nd} (hw : Wf z) (ho : Post z) (hz : z.length = x.length + 1) : Pile (ls ++ [z]) (t + 1) := by
  have := h.tot
  rw [List.flatten_append, List.length_append] at this
  simp only [List.flatten_cons, List.flatten_nil, List.append_nil, List.length_append] at this
  refine ⟨fun u hu => ?_, fun u hu => ?_, by rw [List.flatten_append, List.length_append, List.flatten_cons, List.flatten_nil, List.append_nil]; omega⟩
  · rcases List.mem_append.1 hu with hu | hu
    · exact h.good u (List.mem_append_left _ hu)
    · simp only [List.mem_singleton] at hu; subst hu; exact hw
  · rcases List.mem_append.1 hu with hu | hu
    · exact h.post u (List.mem_append_left _ hu)
    · simp only [List.mem_singleton] at hu; subst hu; exact ho
theorem Pile.two {ls : List (List Nd)} {x y : List Nd} {t : Nat} (h : Pile (ls ++ [x, y]) t) {z : List Nd} (hw : Wf z) (ho : Post z) (hz : z.length = x.length + y.length + 1) : Pile (ls ++ [z]) (t + 1) := by
  have := h.tot
  rw [List.flatten_append, List.length_append] at this
  simp only [List.flatten_cons, List.flatten_nil, List.append_nil, List.length_append] at this
  refine ⟨fun u hu => ?_, fun u hu => ?_, by rw [List.flatten_append, List.length_append, List.flatten_cons, List.flatten_nil, List.append_nil]; omega⟩
  · rcases List.mem_append.1 hu with hu | hu
    · exact h.good u (List.mem_append_left _ hu)
    · simp only [List.mem_singleton] at hu; subst hu; exact hw
  · rcases List.mem_append.1 hu with hu | hu
    · exact h.post u (List.mem_append_left _ hu)
    · simp only [List.mem_singleton] at hu; subst hu; exact ho
theorem split_two {α : Type} {ls : List α} (h : 2 ≤ ls.length) : ∃ L x y, ls = L ++ [x, y] := by
  refine ⟨ls.take (ls.length - 2), ls[ls.length - 2], ls[ls.length - 1], ?_⟩
  apply List.ext_getElem?
  intro j
  rcases Nat.lt_or_ge j (ls.length - 2) with h1 | h1
  · rw [List.getElem?_append_left (by rw [List.length_take]; omega), List.getElem?_take_of_lt h1]
  · rw [List.getElem?_append_right (by rw [List.length_take]; omega), List.length_take, Nat.min_eq_left (by omega)]
    rcases Nat.lt_or_ge j ls.length with h2 | h2
    · by_cases e : j = ls.length - 2
      · subst e; simp
      · obtain rfl : j = ls.length - 1 := by omega
        rw [show ls.length - 1 - (ls.length - 2) = 1 by omega]
        simp
    · rw [List.getElem?_eq_none h2, List.getElem?_eq_none (by simp; omega)]
theorem split_one {α : Type} {ls : List α} (h : 1 ≤ ls.length) : ∃ L x, ls = L ++ [x] := by
  have hne : ls ≠ [] := by intro e; rw [e] at h; simp at h
  exact ⟨ls.dropLast, ls.getLast hne, (List.dropLast_concat_getLast hne).symm⟩
theorem two_get {α : Type} (L : List α) (x y : α) : (L ++ [x, y])[L.length]? = some x ∧ (L ++ [x, y])[L.length + 1]? = some y ∧ (L ++ [x, y]).take L.length = L ∧ (L ++ [x, y]).length = L.length + 2 := by
  refine ⟨?_, ?_, ?_, ?_⟩
  · rw [List.getElem?_append_right (by omega)]; simp
  · rw [List.getElem?_append_right (by omega)]; simp
  · exact List.take_left' rfl
  · simp
theorem one_get {α : Type} (L : List α) (x : α) : (L ++ [x])[L.length]? = some x ∧ (L ++ [x]).take L.length = L ∧ (L ++ [x]).length = L.length + 1 := by
  refine ⟨?_, ?_, ?_⟩
  · rw [List.getElem?_append_right (by omega)]; simp
  · exact List.take_left' rfl
  · simp
theorem Pile.le {ls : List (List Nd)} {t : Nat} (h : Pile ls t) {x : List Nd} (hx : x ∈ ls) : x.length ≤ t := by
  have h1 := h.tot
  have : x.length ≤ ls.flatten.length := by
    clear h h1
    induction ls with
    | nil => cases hx
    | cons a ls ih =>
      rw [List.flatten_cons, List.length_append]
      rcases List.mem_cons.1 hx with rfl | hx
      · omega
      · have := ih hx; omega
  omega
end Go.Proofs.YtgbbjobmcbdhdaaGreatDoor

/-
  Walks: the reference's leaves.
-/
namespace Go.Proofs.YtgbbjobmcbdhdaaGreatDoor
open Go.RowKit Go.Shelf

/-- the classes of some of three letters; what stands while their words are flipped one by one. -/
def subs : List (BitVec 256) := [0, bit 97, bit 98, bit 97 ||| bit 98, bit 99, bit 97 ||| bit 99, bit 98 ||| bit 99, bit 97 ||| bit 98 ||| bit 99]
def fl (c : BitVec 256) (k : Nat) : BitVec 256 := c ^^^ BitVec.ofNat 256 (2 ^ (64 * k) - 1)
theorem fl_zero (c : BitVec 256) : fl c 0 = c := by simp [fl]
theorem subs_short0 : (subs.all fun c => decide ((clsT c).length ≤ 60) && decide ((clsT (fl c 4)).length ≤ 60)) = true := by kernel_rfl
theorem subs_short (c : BitVec 256) (h : c ∈ subs) : ShortC c ∧ ShortC (fl c 4) := by
  have h1 := List.all_eq_true.1 subs_short0 c h
  rw [Bool.and_eq_true, decide_eq_true_iff, decide_eq_true_iff] at h1
  exact h1
theorem short_letter (a : Nat) (h : a < 3) : ShortC (bit (97 + a)) := by
  have h1 : ((List.range 3).all fun a => decide ((clsT (bit (97 + a))).length ≤ 60)) = true := by kernel_rfl
  have h2 := List.all_eq_true.1 h1 a (List.mem_range.2 h)
  rw [decide_eq_true_iff] at h2
  exact h2
theorem subs_add (c : BitVec 256) (h : c ∈ subs) (k : Nat) (hk : k < 3) : c ||| bit (97 + k) ∈ subs := by
  have h1 : (subs.all fun c => (List.range 3).all fun k => subs.contains (c ||| bit (97 + k))) = true := by kernel_rfl
  have h2 := List.all_eq_true.1 (List.all_eq_true.1 h1 c h) k (List.mem_range.2 hk)
  exact List.contains_iff_mem.1 h2
theorem subs_flip (c : BitVec 256) (h : c ∈ subs) (k : Nat) (hk : k < 4) : bits .xor .u64 18446744073709551615 (wd (fl c k) k) = wd (fl c (k + 1)) k ∧ ∀ j, j < 4 → j ≠ k → wd (fl c k) j = wd (fl c (k + 1)) j := by
  have h1 : (subs.all fun c => (List.range 4).all fun k => decide (bits .xor .u64 18446744073709551615 (wd (fl c k) k) = wd (fl c (k + 1)) k) && (List.range 4).all fun j => decide (j = k) || decide (wd (fl c k) j = wd (fl c (k + 1)) j)) = true := by kernel_rfl
  have h2 := List.all_eq_true.1 (List.all_eq_true.1 h1 c h) k (List.mem_range.2 hk)
  rw [Bool.and_eq_true, decide_eq_true_iff] at h2
  refine ⟨h2.1, fun j hj hne => ?_⟩
  have h3 := List.all_eq_true.1 h2.2 j (List.mem_range.2 hj)
  rw [Bool.or_eq_true, decide_eq_true_iff, decide_eq_true_iff] at h3
  exact h3.resolve_left hne

theorem Blk.set9 {w : World} {b : Nat} {v0 v1 v2 v3 v4 v5 v6 v7 v8 : Value} {t : TypeId} (h : Blk w b #[v0, v1, v2, v3, v4, v5, v6, v7, v8] t) (u0 u1 u2 u3 u4 u5 u6 u7 u8 : Value) :
    Blk (((((((((w.setCell ⟨b, 0, none⟩ u0).setCell ⟨b, 1, none⟩ u1).setCell ⟨b, 2, none⟩ u2).setCell ⟨b, 3, none⟩ u3).setCell ⟨b, 4, none⟩ u4).setCell ⟨b, 5, none⟩ u5).setCell ⟨b, 6, none⟩ u6).setCell ⟨b, 7, none⟩ u7).setCell ⟨b, 8, none⟩ u8) b #[u0, u1, u2, u3, u4, u5, u6, u7, u8] t := by
  have h9 := (((((((((h.set 0 u0).set 1 u1).set 2 u2).set 3 u3).set 4 u4).set 5 u5).set 6 u6).set 7 u7).set 8 u8)
  simpa using h9
theorem below_set9 {B : Nat} {a w : World} (h : Below B a w) {c : Nat} (hc : B ≤ c) (u0 u1 u2 u3 u4 u5 u6 u7 u8 : Value) : Below B a (((((((((w.setCell ⟨c, 0, none⟩ u0).setCell ⟨c, 1, none⟩ u1).setCell ⟨c, 2, none⟩ u2).setCell ⟨c, 3, none⟩ u3).setCell ⟨c, 4, none⟩ u4).setCell ⟨c, 5, none⟩ u5).setCell ⟨c, 6, none⟩ u6).setCell ⟨c, 7, none⟩ u7).setCell ⟨c, 8, none⟩ u8) :=
  (((((((((h.setCell (p := ⟨c, 0, none⟩) hc u0).setCell (p := ⟨c, 1, none⟩) hc u1).setCell (p := ⟨c, 2, none⟩) hc u2).setCell (p := ⟨c, 3, none⟩) hc u3).setCell (p := ⟨c, 4, none⟩) hc u4).setCell (p := ⟨c, 5, none⟩) hc u5).setCell (p := ⟨c, 6, none⟩) hc u6).setCell (p := ⟨c, 7, none⟩) hc u7).setCell (p := ⟨c, 8, none⟩) hc u8)
theorem nodeSize : (Tryz.prog.info? 45).map (·.size) = some 9 := by kernel_rfl
theorem radd0' (b : Nat) (h : b < 256) (w : World) : Calls Tryz.prog 32 #[.agg #[.int .u64 0, .int .u64 0, .int .u64 0, .int .u64 0], .int .u8 (b : Int)] w fun e w' => e = .returned (.agg #[.int .u64 (wd ((bit b)) 0), .int .u64 (wd ((bit b)) 1), .int .u64 (wd ((bit b)) 2), .int .u64 (wd ((bit b)) 3)]) ∧ Below w.heap.size w w' := by
  have h1 := radd_any 0 (b : Int) w (by omega) (by omega)
  simp only [wd_zero] at h1
  refine h1.mono ?_
  rintro e w' ⟨rfl, hb⟩
  refine ⟨?_, hb⟩
  rw [show (0 : BitVec 256) ||| bit ((b : Int).toNat) = bit b by simp]
set_option maxRecDepth 100000 in
theorem one_any (b : Nat) (h : b < 256) (W : World) : Calls Tryz.prog 99 #[.int .u8 (b : Int)] W fun e W' => e = .returned (.agg #[.int .u64 (wd ((bit b)) 0), .int .u64 (wd ((bit b)) 1), .int .u64 (wd ((bit b)) 2), .int .u64 (wd ((bit b)) 3)]) ∧ Below W.heap.size W W' := by
  have HR := Lib.hid (fun w => radd0' b h w)
  have HBk := Lib.hid (Blk.new W #[.int .u64 0, .int .u64 0, .int .u64 0, .int .u64 0] 43)
  have HBx := Lib.hid ((Below.refl W.heap.size W).alloc (Nat.le_refl _) (.cells #[.int .u64 0, .int .u64 0, .int .u64 0, .int .u64 0] 43))
  go_enter Tryz.func99, Tryz.ntmps99
  go_wp2_with (go_at_call 32; go_loud (refine (HR.out _).mono ?_); rintro e W1 ⟨rfl, hb⟩; have hbk := HBk.out.grows hb; obtain ⟨n0, n1, n2, n3, -⟩ := hbk.four; have z0 := hbk.free 0; have z1 := hbk.free 1; have z2 := hbk.free 2; have z3 := hbk.free 3)
  refine bodyPost_ret (results_cell_row rfl _ _ W.heap.size 43 _ (0, 0) _ rfl (hbk.set4 _ _ _ _).is Tryz.underlying43 rfl clsSize) rfl ⟨rfl, below_set4 (HBx.out.trans (hb.mono HBx.out.size)) (Nat.le_refl _) _ _ _ _⟩
set_option maxRecDepth 100000 in
set_option maxHeartbeats 2000000 in
theorem leaf_other (k a : Int) (h0 : k ≠ 0) (h1 : k ≠ 1) (h3 : k ≠ 3) (ha : 0 ≤ a ∧ a < 19) (W : World) :
    Calls Tryz.prog 72 #[.int .i64 k, .int .i64 a] W fun e W' => (∃ n, LeafN n ∧ e = .returned (valN n)) ∧ Below W.heap.size W W' := by
  have t0 : (k == 0) = false := by rw [beq_eq_false_iff_ne]; exact h0
  have t1 : (k == 1) = false := by rw [beq_eq_false_iff_ne]; exact h1
  have t3 : (k != 3) = true := by rw [bne_iff_ne]; exact h3
  have hb : (97 + a % 3).toNat < 256 := by omega
  have hsc : ShortC (bit (97 + a % 3).toNat) := by
    have h := short_letter (a % 3).toNat (by omega)
    rw [show 97 + (a % 3).toNat = (97 + a % 3).toNat by omega] at h
    exact h
  have hO := fun w => one_any (97 + a % 3).toNat hb w
  rw [show (((97 + a % 3).toNat : Nat) : Int) = 97 + a % 3 by omega] at hO
  have HO := Lib.hid hO
  have HBk := Lib.hid (Blk.new W #[.int .i64 0, .int .u64 0, .int .u64 0, .int .u64 0, .int .u64 0, .int .i64 0, .int .i64 0, .int .i64 0, .int .i64 0] 45)
  have HBx := Lib.hid ((Below.refl W.heap.size W).alloc (Nat.le_refl _) (.cells #[.int .i64 0, .int .u64 0, .int .u64 0, .int .u64 0, .int .u64 0, .int .i64 0, .int .i64 0, .int .i64 0, .int .i64 0] 45))
  clear hO
  go_enter Tryz.func72, Tryz.ntmps72
  go_wp2_with (go_at_call 99; refine (HO.out _).mono ?_; rintro e W1 ⟨rfl, hb1⟩; have hbk := HBk.out.grows hb1; obtain ⟨n0, n1, n2, n3, n4, n5, n6, n7, n8⟩ := hbk.nine; have z0 := hbk.free 0; have z1 := hbk.free 1; have z2 := hbk.free 2; have z3 := hbk.free 3; have z4 := hbk.free 4; have z5 := hbk.free 5; have z6 := hbk.free 6; have z7 := hbk.free 7; have z8 := hbk.free 8)
  refine bodyPost_ret (results_cell_row rfl _ _ W.heap.size 45 _ (0, 0) _ rfl (hbk.set9 _ _ _ _ _ _ _ _ _).is Tryz.underlying45 rfl nodeSize) rfl ⟨⟨⟨3, _, 0, 0, 0, 0⟩, .inr (.inr ⟨_, hsc, rfl⟩), rfl⟩, below_set9 (HBx.out.trans (hb1.mono HBx.out.size)) (Nat.le_refl _) _ _ _ _ _ _ _ _ _⟩
set_option maxRecDepth 100000 in
theorem leaf_0 (a : Int) (W : World) :
    Calls Tryz.prog 72 #[.int .i64 0, .int .i64 a] W fun e W' => (∃ n, LeafN n ∧ e = .returned (valN n)) ∧ Below W.heap.size W W' := by
  have wz : ∀ i, wd (0#256) i = 0 := wd_zero
  go_enter Tryz.func72, Tryz.ntmps72
  go_wp2
  go_returns
  refine ⟨⟨⟨1, 0, 0, 0, 0, 0⟩, .inl rfl, congrArg Ending.returned ?_⟩, by go_grown⟩
  simp [wz]
set_option maxRecDepth 100000 in
theorem leaf_1 (a : Int) (W : World) :
    Calls Tryz.prog 72 #[.int .i64 1, .int .i64 a] W fun e W' => (∃ n, LeafN n ∧ e = .returned (valN n)) ∧ Below W.heap.size W W' := by
  have wz : ∀ i, wd (0#256) i = 0 := wd_zero
  go_enter Tryz.func72, Tryz.ntmps72
  go_wp2
  go_returns
  refine ⟨⟨⟨2, 0, 0, 0, 0, 0⟩, .inr (.inl rfl), congrArg Ending.returned ?_⟩, by go_grown⟩
  simp [wz]
end Go.Proofs.YtgbbjobmcbdhdaaGreatDoor

/-
  Walks: the reference's leaf that is a class of chosen letters.
-/
namespace Go.Proofs.YtgbbjobmcbdhdaaGreatDoor
open Go.RowKit Go.Shelf

theorem rall_any (W : World) : Calls Tryz.prog 78 #[] W fun e W' => e = .returned (.agg #[.int .u64 18446744073709551615, .int .u64 18446744073709551615, .int .u64 18446744073709551615, .int .u64 18446744073709551615]) ∧ Below W.heap.size W W' := by
  go_enter Tryz.func78, Tryz.ntmps78
  go_wp2
  go_returns
  exact ⟨rfl, by go_grown⟩
theorem flip_0 {c : BitVec 256} (h : c ∈ subs) : (#[.int .u64 (wd ((fl c 0)) 0), .int .u64 (wd ((fl c 0)) 1), .int .u64 (wd ((fl c 0)) 2), .int .u64 (wd ((fl c 0)) 3)] : Array Value).setIfInBounds 0 (.int .u64 (bits .xor .u64 18446744073709551615 (wd (fl c 0) 0))) = #[.int .u64 (wd ((fl c 1)) 0), .int .u64 (wd ((fl c 1)) 1), .int .u64 (wd ((fl c 1)) 2), .int .u64 (wd ((fl c 1)) 3)] := by
  obtain ⟨h0, h1⟩ := subs_flip c h 0 (by omega)
  rw [h0, h1 1 (by omega) (by omega), h1 2 (by omega) (by omega), h1 3 (by omega) (by omega)]
  rfl
theorem flip_1 {c : BitVec 256} (h : c ∈ subs) : (#[.int .u64 (wd ((fl c 1)) 0), .int .u64 (wd ((fl c 1)) 1), .int .u64 (wd ((fl c 1)) 2), .int .u64 (wd ((fl c 1)) 3)] : Array Value).setIfInBounds 1 (.int .u64 (bits .xor .u64 18446744073709551615 (wd (fl c 1) 1))) = #[.int .u64 (wd ((fl c 2)) 0), .int .u64 (wd ((fl c 2)) 1), .int .u64 (wd ((fl c 2)) 2), .int .u64 (wd ((fl c 2)) 3)] := by
  obtain ⟨h0, h1⟩ := subs_flip c h 1 (by omega)
  rw [h0, h1 0 (by omega) (by omega), h1 2 (by omega) (by omega), h1 3 (by omega) (by omega)]
  rfl
theorem flip_2 {c : BitVec 256} (h : c ∈ subs) : (#[.int .u64 (wd ((fl c 2)) 0), .int .u64 (wd ((fl c 2)) 1), .int .u64 (wd ((fl c 2)) 2), .int .u64 (wd ((fl c 2)) 3)] : Array Value).setIfInBounds 2 (.int .u64 (bits .xor .u64 18446744073709551615 (wd (fl c 2) 2))) = #[.int .u64 (wd ((fl c 3)) 0), .int .u64 (wd ((fl c 3)) 1), .int .u64 (wd ((fl c 3)) 2), .int .u64 (wd ((fl c 3)) 3)] := by
  obtain ⟨h0, h1⟩ := subs_flip c h 2 (by omega)
  rw [h0, h1 0 (by omega) (by omega), h1 1 (by omega) (by omega), h1 3 (by omega) (by omega)]
  rfl
theorem flip_3 {c : BitVec 256} (h : c ∈ subs) : (#[.int .u64 (wd ((fl c 3)) 0), .int .u64 (wd ((fl c 3)) 1), .int .u64 (wd ((fl c 3)) 2), .int .u64 (wd ((fl c 3)) 3)] : Array Value).setIfInBounds 3 (.int .u64 (bits .xor .u64 18446744073709551615 (wd (fl c 3) 3))) = #[.int .u64 (wd ((fl c 4)) 0), .int .u64 (wd ((fl c 4)) 1), .int .u64 (wd ((fl c 4)) 2), .int .u64 (wd ((fl c 4)) 3)] := by
  obtain ⟨h0, h1⟩ := subs_flip c h 3 (by omega)
  rw [h0, h1 0 (by omega) (by omega), h1 1 (by omega) (by omega), h1 2 (by omega) (by omega)]
  rfl
/-- what stands while the class is made: the result's block, the class's. -/
structure LI (W wr : World) (c : BitVec 256) : Prop where
  n : Blk wr W.heap.size #[.int .i64 0, .int .u64 0, .int .u64 0, .int .u64 0, .int .u64 0, .int .i64 0, .int .i64 0, .int .i64 0, .int .i64 0] 45
  c : Blk wr (W.heap.size + 1) #[.int .u64 (wd c 0), .int .u64 (wd c 1), .int .u64 (wd c 2), .int .u64 (wd c 3)] 43
  b : Below W.heap.size W wr
theorem LI.grows {W wr w' : World} {c : BitVec 256} (h : LI W wr c) (hb : Below wr.heap.size wr w') : LI W w' c := ⟨h.n.grows hb, h.c.grows hb, h.b.trans (hb.mono h.b.size)⟩
theorem LI.start (W : World) : LI W ((W.alloc (.cells #[.int .i64 0, .int .u64 0, .int .u64 0, .int .u64 0, .int .u64 0, .int .i64 0, .int .i64 0, .int .i64 0, .int .i64 0] 45)).alloc (.cells #[.int .u64 0, .int .u64 0, .int .u64 0, .int .u64 0] 43)) 0 := by
  refine ⟨(Blk.new W _ _).alloc _, (Blk.alloc1 W _ _ _ _).cast ?_, ((Below.refl _ W).alloc (Nat.le_refl _) _).alloc (by simp) _⟩
  simp only [wd_zero]
theorem LI.set4 {W wr : World} {c : BitVec 256} (h : LI W wr c) (d : BitVec 256) : LI W ((((wr.setCell ⟨W.heap.size + 1, 0, none⟩ (.int .u64 (wd d 0))).setCell ⟨W.heap.size + 1, 1, none⟩ (.int .u64 (wd d 1))).setCell ⟨W.heap.size + 1, 2, none⟩ (.int .u64 (wd d 2))).setCell ⟨W.heap.size + 1, 3, none⟩ (.int .u64 (wd d 3))) d :=
  ⟨h.n.other4 (by omega) _ _ _ _, h.c.set4 _ _ _ _, below_set4 h.b (by omega) _ _ _ _⟩
theorem LI.drew {W wr : World} {c : BitVec 256} (h : LI W wr c) : LI W wr.drew c := ⟨h.n.drew, h.c.drew, h.b.drew⟩
theorem LI.set1 {W wr : World} {c d : BitVec 256} (h : LI W wr c) (i : Nat) (v : Value) (he : (#[.int .u64 (wd c 0), .int .u64 (wd c 1), .int .u64 (wd c 2), .int .u64 (wd c 3)] : Array Value).setIfInBounds i v = #[.int .u64 (wd d 0), .int .u64 (wd d 1), .int .u64 (wd d 2), .int .u64 (wd d 3)]) : LI W (wr.setCell ⟨W.heap.size + 1, i, none⟩ v) d :=
  ⟨h.n.other (by simp) _, (h.c.set i v).cast he, h.b.setCell (p := ⟨W.heap.size + 1, i, none⟩) (by simp) v⟩

set_option maxRecDepth 100000 in
set_option maxHeartbeats 4000000 in
theorem leaf_3 (a : Int) (ha : 0 ≤ a ∧ a < 19) (W : World) :
    Calls Tryz.prog 72 #[.int .i64 3, .int .i64 a] W fun e W' => (∃ n, LeafN n ∧ e = .returned (valN n)) ∧ Below W.heap.size W W' := by
  have HS := Lib.hid (LI.start W)
  go_enter Tryz.func72, Tryz.ntmps72
  go_wp2_with fail
  go_loopw [6] (fun i wr => ∃ (k : Nat) (c : BitVec 256), k ≤ 3 ∧ i = .int .i64 k ∧ c ∈ subs ∧ LI W wr c) (fun i _ => 3 - (intOf i).toNat)
  case atStart => exact ⟨0, 0, by omega, rfl, by decide, HS.out⟩
  case round =>
    obtain ⟨k, c, hk, rfl, hsub, hI⟩ := hrel
    have HSb := Lib.hid hsub
    clear hsub
    obtain ⟨c0, c1, c2, c3, -⟩ := hI.c.four
    have z0 := hI.c.free 0
    have z1 := hI.c.free 1
    have z2 := hI.c.free 2
    have z3 := hI.c.free 3
    have HI := Lib.hid hI
    by_cases hlt : k < 3
    · clear hI
      cases hq : ((a / 2 ^ k).tmod 2 == 1)
      · go_wp2_with fail
        exact ⟨⟨k + 1, c, by omega, by go_num, HSb.out, HI.out⟩, by simp [intOf]; omega⟩
      · have w97 : IntKind.u8.wrap (97 + (k : Int)) = 97 + (k : Int) := by rw [IntKind.wrap_u8]; omega
        have HA := Lib.hid (radd_any c (97 + (k : Int)) wr (by omega) (by omega))
        go_wp2_with (go_at_call 32; refine HA.out.mono ?_; rintro e W1 ⟨rfl, hb⟩; have hI1 := HI.out.grows hb; obtain ⟨d0, d1, d2, d3, -⟩ := hI1.c.four; have y0 := hI1.c.free 0; have y1 := hI1.c.free 1; have y2 := hI1.c.free 2; have y3 := hI1.c.free 3)
        exact ⟨⟨k + 1, c ||| bit (97 + k), by omega, by go_num, subs_add c HSb.out k hlt, hI1.set4 _⟩, by simp [intOf]; omega⟩
    · obtain rfl : k = 3 := by omega
      clear hI
      by_cases h8 : 8 ≤ a
      · go_wp2_with (go_at_call 78; refine (rall_any _).mono ?_; rintro e W1 ⟨rfl, hb⟩; have hI1 := HI.out.grows hb)
        have HI2 := Lib.hid (hI1.grows ((Below.refl _ W1).alloc (Nat.le_refl _) (.cells #[.int .u64 18446744073709551615, .int .u64 18446744073709551615, .int .u64 18446744073709551615, .int .u64 18446744073709551615] 43)))
        have HA := Lib.hid (Blk.new W1 #[.int .u64 18446744073709551615, .int .u64 18446744073709551615, .int .u64 18446744073709551615, .int .u64 18446744073709551615] 43)
        have HN := Lib.hid hI1.c.lt
        clear hI1 hb
        generalize (W1.alloc (.cells #[.int .u64 18446744073709551615, .int .u64 18446744073709551615, .int .u64 18446744073709551615, .int .u64 18446744073709551615] 43)) = W2 at HI2 HA ⊢
        generalize W1.heap.size = B3 at HA HN ⊢
        go_loopw [8] (fun i wr => ∃ (k : Nat), k ≤ 4 ∧ i = .int .i64 k ∧ LI W wr (fl c k) ∧ Blk wr B3 #[.int .u64 18446744073709551615, .int .u64 18446744073709551615, .int .u64 18446744073709551615, .int .u64 18446744073709551615] 43) (fun i _ => 4 - (intOf i).toNat)
        case atStart => exact ⟨0, by omega, rfl, by rw [fl_zero]; exact HI2.out, HA.out⟩
        case round =>
          obtain ⟨k, hk, rfl, hI, hA⟩ := hrel
          have HIr := Lib.hid hI
          have HAr := Lib.hid hA
          by_cases hlt : k < 4
          · obtain ⟨c0, c1, c2, c3, z0, z1, z2, z3⟩ := hI.c.four
            obtain ⟨a0, a1, a2, a3, -⟩ := hA.four
            clear hI hA
            have hk4 : k = 0 ∨ k = 1 ∨ k = 2 ∨ k = 3 := by omega
            rcases hk4 with rfl | rfl | rfl | rfl
            · go_wp2_with fail
              go_region
              go_wp2_with fail
              exact ⟨⟨1, by omega, rfl, (HIr.out.set1 0 _ (flip_0 HSb.out)).drew, (HAr.out.other (by have := HN.out; simp; omega) _).drew⟩, by simp [intOf]⟩
            · go_wp2_with fail
              go_region
              go_wp2_with fail
              exact ⟨⟨2, by omega, rfl, (HIr.out.set1 1 _ (flip_1 HSb.out)).drew, (HAr.out.other (by have := HN.out; simp; omega) _).drew⟩, by simp [intOf]⟩
            · go_wp2_with fail
              go_region
              go_wp2_with fail
              exact ⟨⟨3, by omega, rfl, (HIr.out.set1 2 _ (flip_2 HSb.out)).drew, (HAr.out.other (by have := HN.out; simp; omega) _).drew⟩, by simp [intOf]⟩
            · go_wp2_with fail
              go_region
              go_wp2_with fail
              exact ⟨⟨4, by omega, rfl, (HIr.out.set1 3 _ (flip_3 HSb.out)).drew, (HAr.out.other (by have := HN.out; simp; omega) _).drew⟩, by simp [intOf]⟩
          · obtain rfl : k = 4 := by omega
            clear hI hA
            obtain ⟨n0, n1, n2, n3, n4, n5, n6, n7, n8⟩ := HIr.out.n.nine
            have y0 := HIr.out.n.free 0
            have y1 := HIr.out.n.free 1
            have y2 := HIr.out.n.free 2
            have y3 := HIr.out.n.free 3
            have y4 := HIr.out.n.free 4
            have y5 := HIr.out.n.free 5
            have y6 := HIr.out.n.free 6
            have y7 := HIr.out.n.free 7
            have y8 := HIr.out.n.free 8
            obtain ⟨c0, c1, c2, c3, -⟩ := HIr.out.c.four
            go_wp2_with fail
            refine bodyPost_ret (results_cell_row rfl _ _ W.heap.size 45 _ (0, 0) _ rfl (HIr.out.n.set9 _ _ _ _ _ _ _ _ _).is Tryz.underlying45 rfl nodeSize) rfl ⟨⟨⟨3, fl c 4, 0, 0, 0, 0⟩, .inr (.inr ⟨_, (subs_short c HSb.out).2, rfl⟩), rfl⟩, below_set9 HIr.out.b (Nat.le_refl _) _ _ _ _ _ _ _ _ _⟩
      · obtain ⟨n0, n1, n2, n3, n4, n5, n6, n7, n8⟩ := HI.out.n.nine
        have y0 := HI.out.n.free 0
        have y1 := HI.out.n.free 1
        have y2 := HI.out.n.free 2
        have y3 := HI.out.n.free 3
        have y4 := HI.out.n.free 4
        have y5 := HI.out.n.free 5
        have y6 := HI.out.n.free 6
        have y7 := HI.out.n.free 7
        have y8 := HI.out.n.free 8
        go_wp2_with fail
        refine bodyPost_ret (results_cell_row rfl _ _ W.heap.size 45 _ (0, 0) _ rfl (HI.out.n.set9 _ _ _ _ _ _ _ _ _).is Tryz.underlying45 rfl nodeSize) rfl ⟨⟨⟨3, c, 0, 0, 0, 0⟩, .inr (.inr ⟨_, (subs_short c HSb.out).1, rfl⟩), rfl⟩, below_set9 HI.out.b (Nat.le_refl _) _ _ _ _ _ _ _ _ _⟩
end Go.Proofs.YtgbbjobmcbdhdaaGreatDoor
