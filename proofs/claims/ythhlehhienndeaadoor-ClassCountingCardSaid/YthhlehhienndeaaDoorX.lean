/-
  Walks: the cells that a list of classes induces.
-/
import Derived.Test.YthhlehhienndeaaDoorV
set_option linter.unusedSimpArgs false
set_option linter.unusedVariables false
namespace Go.Proofs.YthhlehhienndeaaDoor
open Go.RowKit Go.Shelf Go.Lib
open Go.Sort hiding Below

theorem leastI_eq (x : BitVec 256) : leastI x = leastOf x := rfl

theorem flat_len (l : List (BitVec 256)) : (l.flatMap encC).length = l.length * 4 := by
  induction l with
  | nil => rfl
  | cons a l ih => rw [List.flatMap_cons, List.length_append, ih, encC_len, List.length_cons]; omega
theorem flat_get : ∀ (l : List (BitVec 256)) (j : Nat) (x : BitVec 256) (i : Nat) (v : Value), l[j]? = some x → (encC x)[i]? = some v → (l.flatMap encC)[j * 4 + i]? = some v
  | [], j, x, i, v, h, _ => by simp at h
  | a :: l, 0, x, i, v, h, hi => by
    obtain rfl : a = x := by simpa using h
    have hlt : i < (encC a).length := (List.getElem?_eq_some_iff.1 hi).1
    rw [List.flatMap_cons, List.getElem?_append_left (by omega)]; simpa using hi
  | a :: l, j + 1, x, i, v, h, hi => by
    have ih := flat_get l j x i v (by simpa using h) hi
    rw [List.flatMap_cons, List.getElem?_append_right (by rw [encC_len]; omega), encC_len, show (j + 1) * 4 + i - 4 = j * 4 + i by omega]; exact ih

/-- what an owned row of classes says. -/
theorem own_readC {w : World} {base : Nat} {e : TypeId} {v : Value} {l : List (BitVec 256)} (h : w.ownsRow base e 4 v l.length (l.flatMap encC)) (h0 : 0 < l.length) :
    ∃ g cap cur, v = .slice (some ⟨g, 0, none⟩) l.length cap ∧ base ≤ g ∧ w.heap[g]? = some (.cells cur e (0, 0)) ∧ l.length ≤ cap ∧ cap ≤ maxLen ∧ cur.size = cap * 4 ∧ cur.toList.take (l.length * 4) = l.flatMap encC ∧ ReadsC w g 0 l := by
  obtain ⟨hl, ⟨rfl, hn⟩ | ⟨g, cap, cur, rfl, hg, hh, hcap, hm, hsz, htk⟩⟩ := h
  · omega
  · refine ⟨g, cap, cur, rfl, hg, hh, hcap, hm, hsz, htk, fun j x hj i v hi => ?_⟩
    have hjl : j < l.length := (List.getElem?_eq_some_iff.1 hj).1
    have hi4 : i < 4 := by have := (List.getElem?_eq_some_iff.1 hi).1; rw [encC_len] at this; exact this
    have h2 := flat_get l j x i v hj hi
    rw [← htk, List.getElem?_take_of_lt (by omega)] at h2
    rw [Nat.zero_add]
    exact Blk.cell (vs := cur) (t := e) ⟨hh⟩ _ (by simpa using h2)
theorem own_isC {w : World} {base : Nat} {e : TypeId} {v : Value} {l : List (BitVec 256)} (h : w.ownsRow base e 4 v l.length (l.flatMap encC)) : IsC w v l := by
  rcases Nat.eq_zero_or_pos l.length with h0 | h0
  · have hl : l = [] := List.length_eq_zero_iff.1 h0
    subst hl
    rcases h.2 with ⟨rfl, _⟩ | ⟨g, cap, cur, rfl, _⟩
    · exact .inl ⟨rfl, none, 0, rfl⟩
    · exact .inr ⟨g, 0, cap, rfl, fun j x hj => by simp at hj⟩
  · obtain ⟨g, cap, cur, rfl, _, _, _, _, _, _, hr⟩ := own_readC h h0
    exact .inr ⟨g, 0, cap, rfl, hr⟩

theorem flatK_list (l : List (BitVec 256)) : (flatK encC 4 l.toArray).toList = l.flatMap encC := by
  apply List.ext_getElem?
  intro t
  by_cases ht : t < l.length * 4
  · obtain ⟨x, hx⟩ : ∃ x, l[t / 4]? = some x := ⟨_, List.getElem?_eq_getElem (by omega)⟩
    have h4 : t % 4 < (encC x).length := by rw [encC_len]; omega
    have h1 := flat_get l (t / 4) x (t % 4) _ hx (List.getElem?_eq_getElem h4)
    rw [show t / 4 * 4 + t % 4 = t by omega] at h1
    rw [h1]
    have hs : t < (flatK encC 4 l.toArray).toList.length := by simp [size_flatK]; omega
    rw [List.getElem?_eq_getElem hs]
    congr 1
    have hg := get_flatK encC 4 l.toArray t (by simpa using ht)
    have hx' : l.toArray[t / 4]! = x := by
      have := List.getElem?_eq_some_iff.1 hx
      obtain ⟨h5, h6⟩ := this
      rw [getElem!_pos _ _ (by simpa using h5)]; simpa using h6
    rw [hx', getElem!_pos (encC x) (t % 4) h4] at hg
    rw [getElem!_pos (flatK encC 4 l.toArray) t (by rw [size_flatK]; simpa using ht)] at hg
    simpa using hg
  · rw [List.getElem?_eq_none (by simp [size_flatK]; omega), List.getElem?_eq_none (by rw [flat_len]; omega)]

theorem holds_of_own {w : World} {g cap : Nat} {e : TypeId} {cur : Array Value} {l : List (BitVec 256)} (hh : w.heap[g]? = some (.cells cur e (0, 0))) (hcap : l.length ≤ cap) (hsz : cur.size = cap * 4) (htk : cur.toList.take (l.length * 4) = l.flatMap encC) :
    HoldsK encC 4 w g 0 l.toArray := by
  intro j hj
  rw [size_flatK] at hj
  have hj' : j < l.length * 4 := by simpa using hj
  have hb : Blk w g cur e := ⟨hh⟩
  refine ⟨?_, hb.free _⟩
  rw [Nat.zero_add]
  refine hb.cell j ?_
  have h1 : cur.toList[j]? = (l.flatMap encC)[j]? := by rw [← htk, List.getElem?_take_of_lt hj']
  have h2 : (flatK encC 4 l.toArray).toList[j]? = (l.flatMap encC)[j]? := by rw [flatK_list]
  have h3 : j < (flatK encC 4 l.toArray).size := by rw [size_flatK]; exact hj
  rw [getElem!_pos (flatK encC 4 l.toArray) j h3]
  have h4 : (flatK encC 4 l.toArray).toList[j]? = some ((flatK encC 4 l.toArray)[j]) := by
    rw [Array.getElem?_toList, Array.getElem?_eq_getElem h3]
  rw [← Array.getElem?_toList, h1, ← h2, h4]; rfl

theorem sorted_own {w : World} {base g cap q : Nat} {e : TypeId} {os : Array Obj} {cur : Array Value} {l m : List (BitVec 256)} (hg : base ≤ g) (hh : w.heap[g]? = some (.cells cur e (0, 0))) (hcap : l.length ≤ cap) (hm : cap ≤ maxLen) (hsz : cur.size = cap * 4) (hl : m.length = l.length) :
    (sortWorldK encC 4 w g 0 q m.toArray os).ownsRow base e 4 (.slice (some ⟨g, 0, none⟩) l.length cap) m.length (m.flatMap encC) := by
  have hlt : g < w.heap.size := Blk.lt (vs := cur) (t := e) ⟨hh⟩
  refine ⟨flat_len m, .inr ⟨g, cap, Sort.putCells id 0 (flatK encC 4 m.toArray) cur, by rw [hl], hg, ?_, by omega, hm, by simpa [Sort.putCells] using hsz, ?_⟩⟩
  · unfold sortWorldK putRowK
    rw [Sort.heap_grow_old _ _ (by simp [Sort.putRow, Sort.mapBlock, Sort.ahead]; exact hlt)]
    simp [Sort.putRow, Sort.mapBlock, Sort.ahead, Array.getElem?_modify, hh, Sort.onCells]
  · rw [← flatK_list]
    apply List.ext_getElem?
    intro j
    by_cases hj : j < m.length * 4
    · have hjc : j < cur.size := by omega
      have h3 : j < (flatK encC 4 m.toArray).size := by rw [size_flatK]; simpa using hj
      rw [List.getElem?_take_of_lt hj, Array.getElem?_toList, Array.getElem?_toList]
      simp only [Sort.putCells, Array.getElem?_mapIdx, Array.getElem?_eq_getElem hjc, Option.map_some]
      rw [if_pos (by omega), Array.getElem?_eq_getElem h3, getElem!_pos _ _ (by simpa using h3)]; simp
    · rw [List.getElem?_eq_none (by simp; omega), List.getElem?_eq_none (by simp [size_flatK]; omega)]
theorem sorted_below {w0 w : World} {B g q : Nat} {os : Array Obj} {d : Array (BitVec 256)} (h : Below B w0 w) (hg : B ≤ g) (hB : B ≤ w.heap.size) : Below B w0 (sortWorldK encC 4 w g 0 q d os) := by
  refine h.trans ⟨rfl, rfl, rfl, size_sortWorldK_c _ _ _ _ _ _ _ _, fun k hk => ?_⟩
  unfold sortWorldK putRowK
  rw [Sort.heap_grow_old _ _ (by simp [Sort.putRow, Sort.mapBlock, Sort.ahead]; omega)]
  simp only [Sort.putRow, Sort.mapBlock, Sort.ahead, Array.getElem?_modify]
  rw [if_neg (by omega)]

/-- the sort's contract in the words of lists. -/
theorem sort_any (g cap : Nat) (l : List (BitVec 256)) (w : World) (hT : TabAt 0 Lib.deBruijn64tab w) (hg0 : 0 < w.heap.size) (hne : 0 ≠ g) (hH : HoldsK encC 4 w g 0 l.toArray) (hg : g < w.heap.size) (hl : l.length ≤ 256) :
    Calls Tryd.prog 47 #[.slice (some ⟨g, 0, none⟩) l.length cap, .func (.func 48) #[] #[]] w fun e w' =>
      e = .returned (.tuple #[]) ∧ ∃ (m : List (BitVec 256)) (q : Nat) (os : Array Obj), l.Perm m ∧ m.Pairwise (fun a b => leastOf a ≤ leastOf b) ∧ w' = sortWorldK encC 4 w g 0 q m.toArray os := by
  have hc := AnyQ.slices_SortFunc Tryd.sortL 4 isAggC sizeOfC encC encC_len encC_one cf swo_cf 48 #[] g 0 cap l.toArray w eg_cmp (cmpLays g 0 _ w hT hg0 hne) hH hg (by simp; omega)
  refine hc.mono ?_
  rintro e w' ⟨he, d', q, os, hp, hs, hw⟩
  refine ⟨he, d'.toList, q, os, ?_, ?_, by rw [hw]⟩
  · have h1 := hp.2.2
    have hsz := hp.1
    simp only [List.size_toArray] at hsz
    have e1 : (d'.extract 0 l.toArray.size).toList = d'.toList := by rw [List.size_toArray, ← hsz]; simp
    have e2 : (l.toArray.extract 0 l.toArray.size).toList = l := by simp
    rw [e1, e2] at h1
    exact h1.symm
  · have hsz := hp.1
    simp only [List.size_toArray] at hsz
    rw [List.pairwise_iff_getElem]
    intro i j hi hj hij
    have h1 := hs i j (Nat.zero_le _) hij (by simp; simpa [hsz] using hj)
    rw [lt_cf, getElem!_pos _ _ (by simpa using hj), getElem!_pos _ _ (by simpa using hi)] at h1
    simp only [decide_eq_false_iff_not, Int.not_lt] at h1
    simpa [leastI_eq] using h1
end Go.Proofs.YthhlehhienndeaaDoor
