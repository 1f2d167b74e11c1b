/-
  Texts of the proof, one behind another: Fe.
-/
import Derived.Test.YtgbbjobmcbdhdaaGreatDoorYch
import Derived.Test.YtgbbjobmcbdhdaaGreatDoorYcf
set_option linter.unusedSimpArgs false
set_option linter.unusedVariables false
/-
  Plain: trees in postorder are valid, and read as the tree. No program is named here.
-/
namespace Go.Proofs.YtgbbjobmcbdhdaaGreatDoor

theorem firstE_zero : ∀ (l : List Nd) (i : Nat), (∀ (k : Nat) n, l[k]? = some n → chkN n ((i + k : Nat) : Int) = 0) → firstE i l = 0
  | [], _, _ => rfl
  | m :: l, i, h => by
    have h0 : chkN m (i : Int) = 0 := h 0 m rfl
    rw [firstE, if_pos h0]
    refine firstE_zero l (i + 1) fun k n hk => ?_
    have := h (k + 1) n (by simpa using hk)
    rwa [show i + (k + 1) = i + 1 + k by omega] at this
theorem chk_leaf {n : Nd} (i : Int) (h : n = ⟨1, 0, 0, 0, 0, 0⟩ ∨ n = ⟨2, 0, 0, 0, 0, 0⟩ ∨ ∃ c, n = ⟨3, c, 0, 0, 0, 0⟩) : chkN n i = 0 := by
  rcases h with rfl | rfl | ⟨c, rfl⟩
  · simp [chkN, knownB, usedN, opsN, chkR, boundsErr]
  · simp [chkN, knownB, usedN, opsN, chkR, boundsErr]
  · simp [chkN, knownB, usedN, opsN, chkR, boundsErr]
theorem chk_bin {k l r i : Int} (hk : k = 4 ∨ k = 5 ∨ k = 6) (hl : 0 ≤ l ∧ l < i) (hr : 0 ≤ r ∧ r < i) : chkN ⟨k, 0, l, r, 0, 0⟩ i = 0 := by
  have h1 : ¬ l < 0 := by omega
  have h2 : ¬ i ≤ l := by omega
  have h3 : ¬ r < 0 := by omega
  have h4 : ¬ i ≤ r := by omega
  rcases hk with rfl | rfl | rfl <;> simp [chkN, knownB, usedN, opsN, chkR, boundsErr, badOp, h1, h2, h3, h4]
theorem chk_not {l i : Int} (hl : 0 ≤ l ∧ l < i) : chkN ⟨7, 0, l, 0, 0, 0⟩ i = 0 := by
  have h1 : ¬ l < 0 := by omega
  have h2 : ¬ i ≤ l := by omega
  simp [chkN, knownB, usedN, opsN, chkR, boundsErr, badOp, h1, h2]
theorem hiI_facts {lo : Nat} {hi : Option Nat} (hlo : lo ≤ 16) (hhi : ∀ h, hi = some h → lo ≤ h ∧ h ≤ 16) : boundsErr ⟨8, 0, 0, 0, (lo : Int), hiI hi⟩ = 0 := by
  cases hi with
  | none =>
    have h1 : ¬ (lo : Int) < 0 := by omega
    have h2 : ¬ (16 : Int) < lo := by omega
    simp [boundsErr, hiI, h1, h2]
  | some h =>
    obtain ⟨a, b⟩ := hhi h rfl
    have h1 : ¬ (lo : Int) < 0 := by omega
    have h2 : ¬ (16 : Int) < lo := by omega
    have h3 : ¬ (h : Int) < -1 := by omega
    have h4 : ¬ (16 : Int) < h := by omega
    have h5 : ¬ (h : Int) = -1 := by omega
    have h6 : ¬ (h : Int) < lo := by omega
    simp only [boundsErr, hiI, h1, h2, h3, h4, h5, h6, if_false]
theorem chk_rep {l i : Int} {lo : Nat} {hi : Option Nat} (hl : 0 ≤ l ∧ l < i) (hlo : lo ≤ 16) (hhi : ∀ h, hi = some h → lo ≤ h ∧ h ≤ 16) : chkN ⟨8, 0, l, 0, (lo : Int), hiI hi⟩ i = 0 := by
  have h1 : ¬ l < 0 := by omega
  have h2 : ¬ i ≤ l := by omega
  have hb : boundsErr ⟨8, 0, l, 0, (lo : Int), hiI hi⟩ = 0 := hiI_facts hlo hhi
  have e1 : knownB (8 : Int) = true := rfl
  have e2 : usedN ⟨8, 0, l, 0, (lo : Int), hiI hi⟩ = ⟨8, 0, l, 0, (lo : Int), hiI hi⟩ := rfl
  have e3 : (opsN ⟨8, 0, l, 0, (lo : Int), hiI hi⟩).any (badOp i) = false := by simp [opsN, badOp, h1, h2]
  unfold chkN
  rw [e3, e2, if_neg (by simp [e1]), chkR_no, hb]
/-- a node of a list of two trees and one more. -/
theorem get_two {a b : List Nd} {n m : Nd} {j : Nat} (h : (a ++ (b ++ [n]))[j]? = some m) : a[j]? = some m ∨ (a.length ≤ j ∧ b[j - a.length]? = some m) ∨ (j = a.length + b.length ∧ m = n) := by
  rw [List.getElem?_append] at h
  split at h
  · exact .inl h
  · rename_i h1
    rw [List.getElem?_append] at h
    split at h
    · exact .inr (.inl ⟨by omega, h⟩)
    · rename_i h2
      refine .inr (.inr ?_)
      have hlt := (List.getElem?_eq_some_iff.1 h).1
      simp only [List.length_singleton] at hlt
      have e0 : j - a.length - b.length = 0 := by omega
      rw [e0] at h
      exact ⟨by omega, by simpa using h.symm⟩
theorem get_one {a : List Nd} {n m : Nd} {j : Nat} (h : (a ++ [n])[j]? = some m) : a[j]? = some m ∨ (j = a.length ∧ m = n) := by
  rcases get_two (b := []) (n := n) (by simpa using h) with h | ⟨_, h⟩ | ⟨h, e⟩
  · exact .inl h
  · cases h
  · exact .inr ⟨h, e⟩
theorem chk_flat : ∀ (t : Rx) (o : Nat), OkT t → ∀ (j : Nat) n, (flat t o)[j]? = some n → chkN n ((o + j : Nat) : Int) = 0
  | .none, o, _, j, n, h => chk_leaf _ (.inl (by have := List.mem_of_getElem? h; simpa [flat] using this))
  | .empty, o, _, j, n, h => chk_leaf _ (.inr (.inl (by have := List.mem_of_getElem? h; simpa [flat] using this)))
  | .cls c, o, _, j, n, h => chk_leaf _ (.inr (.inr ⟨c, by have := List.mem_of_getElem? h; simpa [flat] using this⟩))
  | .cat l r, o, ht, j, n, h => bin_flat l r o 4 (.inl rfl) (chk_flat l o ht.1) (chk_flat r (o + l.size) ht.2) j n h
  | .alt l r, o, ht, j, n, h => bin_flat l r o 5 (.inr (.inl rfl)) (chk_flat l o ht.1) (chk_flat r (o + l.size) ht.2) j n h
  | .and l r, o, ht, j, n, h => bin_flat l r o 6 (.inr (.inr rfl)) (chk_flat l o ht.1) (chk_flat r (o + l.size) ht.2) j n h
  | .not l, o, ht, j, n, h => by
    have hs := size_pos l
    rcases get_one h with h | ⟨rfl, rfl⟩
    · exact chk_flat l o ht j n h
    · rw [flatT_len]; exact chk_not (by omega)
  | .rep l lo hi, o, ht, j, n, h => by
    have hs := size_pos l
    rcases get_one h with h | ⟨rfl, rfl⟩
    · exact chk_flat l o ht.1 j n h
    · rw [flatT_len]; exact chk_rep (by omega) ht.2.1 ht.2.2
where
  bin_flat (l r : Rx) (o : Nat) (k : Int) (hk : k = 4 ∨ k = 5 ∨ k = 6) (h1 : ∀ (j : Nat) n, (flat l o)[j]? = some n → chkN n ((o + j : Nat) : Int) = 0) (h2 : ∀ (j : Nat) n, (flat r (o + l.size))[j]? = some n → chkN n ((o + l.size + j : Nat) : Int) = 0)
      (j : Nat) (n : Nd) (h : (flat l o ++ (flat r (o + l.size) ++ [⟨k, 0, ((o + l.size - 1 : Nat) : Int), ((o + l.size + r.size - 1 : Nat) : Int), 0, 0⟩]))[j]? = some n) : chkN n ((o + j : Nat) : Int) = 0 := by
    have hsl := size_pos l
    have hsr := size_pos r
    rcases get_two h with h | ⟨hj, h⟩ | ⟨rfl, rfl⟩
    · exact h1 j n h
    · have := h2 _ n h
      rw [flatT_len] at hj this
      rwa [show o + l.size + (j - l.size) = o + j by omega] at this
    · rw [flatT_len, flatT_len]; exact chk_bin hk (by omega) (by omega)
theorem count_two (a b : List Nd) (n : Nd) (i : Int) : ((a ++ (b ++ [n])).flatMap opsN).count i = (a.flatMap opsN).count i + (b.flatMap opsN).count i + (opsN n).count i := by
  simp [List.flatMap_append, List.count_append, Nat.add_assoc]
theorem count_bin (a b : List Nd) (k l r i : Int) (hk : k = 4 ∨ k = 5 ∨ k = 6) : ((a ++ (b ++ [(⟨k, 0, l, r, 0, 0⟩ : Nd)])).flatMap opsN).count i = (a.flatMap opsN).count i + (b.flatMap opsN).count i + ((if l = i then 1 else 0) + (if r = i then 1 else 0)) := by
  rw [count_two]
  have : opsN ⟨k, 0, l, r, 0, 0⟩ = [l, r] := by unfold opsN; exact if_pos hk
  rw [this]
  simp only [List.count_cons, List.count_nil, beq_iff_eq]
  omega
theorem count_flat : ∀ (t : Rx) (o i : Nat), ((flat t o).flatMap opsN).count (i : Int) = if o ≤ i ∧ i + 1 < o + t.size then 1 else 0
  | .none, o, i => by rw [if_neg (by simp only [Rx.size]; omega)]; simp [flat, opsN]
  | .empty, o, i => by rw [if_neg (by simp only [Rx.size]; omega)]; simp [flat, opsN]
  | .cls c, o, i => by rw [if_neg (by simp only [Rx.size]; omega)]; simp [flat, opsN]
  | .cat l r, o, i => by
    have a := count_flat l o i
    have b := count_flat r (o + l.size) i
    have hl := size_pos l
    have hr := size_pos r
    rw [flat, count_bin _ _ _ _ _ _ (.inl rfl), a, b]
    simp only [Rx.size]
    grind
  | .alt l r, o, i => by
    have a := count_flat l o i
    have b := count_flat r (o + l.size) i
    have hl := size_pos l
    have hr := size_pos r
    rw [flat, count_bin _ _ _ _ _ _ (.inr (.inl rfl)), a, b]
    simp only [Rx.size]
    grind
  | .and l r, o, i => by
    have a := count_flat l o i
    have b := count_flat r (o + l.size) i
    have hl := size_pos l
    have hr := size_pos r
    rw [flat, count_bin _ _ _ _ _ _ (.inr (.inr rfl)), a, b]
    simp only [Rx.size]
    grind
  | .not l, o, i => by
    have a := count_flat l o i
    have hl := size_pos l
    have e : opsN ⟨7, 0, ((o + l.size - 1 : Nat) : Int), 0, 0, 0⟩ = [((o + l.size - 1 : Nat) : Int)] := rfl
    rw [flat, List.flatMap_append, List.count_append, a, List.flatMap_cons, e, List.flatMap_nil, List.append_nil]
    simp only [Rx.size, List.count_cons, List.count_nil, beq_iff_eq]
    grind
  | .rep l lo hi, o, i => by
    have a := count_flat l o i
    have hl := size_pos l
    have e : opsN ⟨8, 0, ((o + l.size - 1 : Nat) : Int), 0, (lo : Int), hiI hi⟩ = [((o + l.size - 1 : Nat) : Int)] := rfl
    rw [flat, List.flatMap_append, List.count_append, a, List.flatMap_cons, e, List.flatMap_nil, List.append_nil]
    simp only [Rx.size, List.count_cons, List.count_nil, beq_iff_eq]
    grind
theorem flat_valid {t : Rx} (h : OkT t) (hs : t.size ≤ 200) : validE (flat t 0) = 0 := by
  have hp := size_pos t
  unfold validE
  rw [flatT_len, if_neg (by omega), if_neg (by omega), firstE_zero _ 0 fun k n hk => chk_flat t 0 h k n hk]
  have ht : treeB (flat t 0) = true := by
    unfold treeB
    rw [List.all_eq_true]
    intro i hi
    rw [List.mem_range, flatT_len] at hi
    rw [count_flat, if_pos (by omega)]
    rfl
  rw [ht]
  rfl
/-- the list holds the tree from place o on. -/
def Holds (xs : List Nd) (o : Nat) (t : Rx) : Prop := ∀ (j : Nat) n, (flat t o)[j]? = some n → xs[o + j]? = some n
theorem holds_self (t : Rx) : Holds (flat t 0) 0 t := fun j n h => by rwa [Nat.zero_add]
theorem Holds.left {xs : List Nd} {o : Nat} {t : Rx} {a m : List Nd} (h : ∀ (j : Nat) n, (a ++ m)[j]? = some n → xs[o + j]? = some n) (ha : a = flat t o) : Holds xs o t := fun j n hj =>
  h j n (by rw [ha, List.getElem?_append_left (List.getElem?_eq_some_iff.1 hj).1]; exact hj)
theorem Holds.right {xs : List Nd} {o k : Nat} {t : Rx} {a b m : List Nd} (h : ∀ (j : Nat) n, (a ++ (b ++ m))[j]? = some n → xs[o + j]? = some n) (hk : a.length = k) (hb : b = flat t (o + k)) : Holds xs (o + k) t := fun j n hj => by
  have := h (k + j) n (by
    rw [List.getElem?_append_right (by omega), hk, show k + j - k = j by omega, hb, List.getElem?_append_left (List.getElem?_eq_some_iff.1 hj).1]; exact hj)
  rwa [← Nat.add_assoc] at this
theorem last_two {a b : List Nd} {n : Nd} {k : Nat} (h : a.length + b.length = k) : (a ++ (b ++ [n]))[k]? = some n := by
  rw [← List.append_assoc, List.getElem?_append_right (by simp; omega)]
  simp [show k - (a.length + b.length) = 0 by omega]
theorem last_one {a : List Nd} {n : Nd} {k : Nat} (h : a.length = k) : (a ++ [n])[k]? = some n := by
  rw [List.getElem?_append_right (by omega)]
  simp [show k - a.length = 0 by omega]
theorem hiI_back (hi : Option Nat) : (if hiI hi = -1 then none else some (hiI hi).toNat) = hi := by
  cases hi with
  | none => rfl
  | some h => have : ¬ (h : Int) = -1 := by omega
              simp [hiI, this]
theorem tr_flat {xs : List Nd} (hX : OkX xs) : ∀ (t : Rx) (o : Nat), Holds xs o t → tr xs (o + t.size - 1) = t
  | .none, o, h => tr_none (h 0 _ rfl) rfl
  | .empty, o, h => tr_empty (h 0 _ rfl) rfl
  | .cls c, o, h => tr_cls (h 0 _ rfl) rfl
  | .cat l r, o, h => by
    have hl := size_pos l
    have hr := size_pos r
    have hi := h (l.size + r.size) _ (last_two (by rw [flatT_len, flatT_len]))
    rw [show o + (Rx.cat l r).size - 1 = o + (l.size + r.size) by simp only [Rx.size]; omega, tr_cat hX hi rfl]
    dsimp only
    rw [Int.toNat_natCast, Int.toNat_natCast, tr_flat hX l o (Holds.left h rfl), tr_flat hX r (o + l.size) (Holds.right h (flatT_len _ _) rfl)]
  | .alt l r, o, h => by
    have hl := size_pos l
    have hr := size_pos r
    have hi := h (l.size + r.size) _ (last_two (by rw [flatT_len, flatT_len]))
    rw [show o + (Rx.alt l r).size - 1 = o + (l.size + r.size) by simp only [Rx.size]; omega, tr_alt hX hi rfl]
    dsimp only
    rw [Int.toNat_natCast, Int.toNat_natCast, tr_flat hX l o (Holds.left h rfl), tr_flat hX r (o + l.size) (Holds.right h (flatT_len _ _) rfl)]
  | .and l r, o, h => by
    have hl := size_pos l
    have hr := size_pos r
    have hi := h (l.size + r.size) _ (last_two (by rw [flatT_len, flatT_len]))
    rw [show o + (Rx.and l r).size - 1 = o + (l.size + r.size) by simp only [Rx.size]; omega, tr_and hX hi rfl]
    dsimp only
    rw [Int.toNat_natCast, Int.toNat_natCast, tr_flat hX l o (Holds.left h rfl), tr_flat hX r (o + l.size) (Holds.right h (flatT_len _ _) rfl)]
  | .not l, o, h => by
    have hl := size_pos l
    have hi := h l.size _ (last_one (flatT_len _ _))
    rw [show o + (Rx.not l).size - 1 = o + l.size by simp only [Rx.size]; omega, tr_not hX hi rfl]
    dsimp only
    rw [Int.toNat_natCast, tr_flat hX l o (Holds.left h rfl)]
  | .rep l lo hi, o, h => by
    have hl := size_pos l
    have hi2 := h l.size _ (last_one (flatT_len _ _))
    rw [show o + (Rx.rep l lo hi).size - 1 = o + l.size by simp only [Rx.size]; omega, tr_rep hX hi2 rfl]
    dsimp only
    rw [Int.toNat_natCast, Int.toNat_natCast, tr_flat hX l o (Holds.left h rfl), hiI_back]
theorem tr_self {t : Rx} (h : OkT t) (hs : t.size ≤ 200) : tr (flat t 0) (t.size - 1) = t := by
  have := tr_flat (okX_of (flat_valid h hs)) t 0 (holds_self t)
  rwa [Nat.zero_add] at this
theorem okT_tr {xs : List Nd} (hX : OkX xs) : ∀ (k i : Nat), i < k → i < xs.length → OkT (tr xs i)
  | 0, _, h, _ => by omega
  | k + 1, i, hik, hi => by
    obtain ⟨n, hn⟩ : ∃ n, xs[i]? = some n := ⟨_, List.getElem?_eq_getElem hi⟩
    have hk := hX.kind i n hn
    have two : (n.k = 4 ∨ n.k = 5 ∨ n.k = 6) → OkT (tr xs n.l.toNat) ∧ OkT (tr xs n.r.toNat) := fun h => by
      have := hX.two hn h
      exact ⟨okT_tr hX k _ (by omega) (by omega), okT_tr hX k _ (by omega) (by omega)⟩
    have one : (n.k = 7 ∨ n.k = 8) → OkT (tr xs n.l.toNat) := fun h => by
      have := hX.one hn h
      exact okT_tr hX k _ (by omega) (by omega)
    have hc : n.k = 1 ∨ n.k = 2 ∨ n.k = 3 ∨ n.k = 4 ∨ n.k = 5 ∨ n.k = 6 ∨ n.k = 7 ∨ n.k = 8 := by omega
    rcases hc with h | h | h | h | h | h | h | h
    · rw [tr_none hn h]; trivial
    · rw [tr_empty hn h]; trivial
    · rw [tr_cls hn h]; trivial
    · rw [tr_cat hX hn h]; exact two (.inl h)
    · rw [tr_alt hX hn h]; exact two (.inr (.inl h))
    · rw [tr_and hX hn h]; exact two (.inr (.inr h))
    · rw [tr_not hX hn h]; exact one (.inl h)
    · rw [tr_rep hX hn h]
      have hb := hX.bnd i n hn h
      refine ⟨one (.inr h), by omega, fun h e => ?_⟩
      split at e
      · cases e
      · cases e; omega
end Go.Proofs.YtgbbjobmcbdhdaaGreatDoor
