/-
  Walks: the reference's Cells.
-/
import Derived.Test.YthhlehhienndeaaDoorZb
set_option linter.unusedSimpArgs false
set_option linter.unusedVariables false
namespace Go.Proofs.YthhlehhienndeaaDoor
open Go.RowKit Go.Shelf Go.Lib

/-- the cells as far as the bytes below i go. -/
def outAt (cs : List (BitVec 256)) (i : Nat) : List (BitVec 256) := (reps cs i).map fun r => sel (fun j => alike cs r j) i
theorem outAt_len (cs : List (BitVec 256)) (i : Nat) : (outAt cs i).length = (reps cs i).length := by unfold outAt; rw [List.length_map]
theorem outAt_end (cs : List (BitVec 256)) : outAt cs 256 = canon cs := rfl
theorem reps_le (cs : List (BitVec 256)) (i : Nat) : (reps cs i).length ≤ i := by unfold reps; exact Nat.le_trans (List.length_filter_le _ _) (by simp)
theorem reps_mem (cs : List (BitVec 256)) (i r : Nat) : r ∈ reps cs i ↔ r < i ∧ isRep cs r = true := by unfold reps; simp
theorem reps_unique {cs : List (BitVec 256)} {r r' i : Nat} (h : isRep cs r = true) (h' : isRep cs r' = true) (ha : alike cs r i = true) (ha' : alike cs r' i = true) : r = r' := by
  have h1 : alike cs r r' = true := by rw [alike_trans ha, alike_symm]; exact ha'
  rcases Nat.lt_trichotomy r r' with hlt | he | hgt
  · rw [(isRep_iff cs r').1 h' r hlt] at h1; cases h1
  · exact he
  · have := (isRep_iff cs r).1 h r' hgt; rw [alike_symm, h1] at this; cases this
theorem reps_nodup (cs : List (BitVec 256)) (i : Nat) : (reps cs i).Pairwise (· < ·) := List.Pairwise.filter _ List.pairwise_lt_range
/-- none of the representatives is alike: the byte is a representative itself. -/
theorem reps_new {cs : List (BitVec 256)} {i : Nat} (h : ∀ r ∈ reps cs i, alike cs r i = false) : reps cs (i + 1) = reps cs i ++ [i] ∧ outAt cs (i + 1) = outAt cs i ++ [bit i] := by
  have hr : isRep cs i = true := by
    rw [isRep_iff]; intro j hj
    obtain ⟨r, h1, h2, h3⟩ := rep_of cs j
    have := h r ((reps_mem cs i r).2 ⟨by omega, h2⟩)
    rw [alike_trans h3] at this; exact this
  have e1 : reps cs (i + 1) = reps cs i ++ [i] := by unfold reps; rw [List.range_succ, List.filter_append]; simp [hr]
  refine ⟨e1, ?_⟩
  unfold outAt
  rw [e1, List.map_append]
  congr 1
  · refine List.map_congr_left fun r hr' => ?_
    exact sel_no _ _ (h r hr')
  · simp only [List.map_cons, List.map_nil]
    rw [sel_yes _ _ (alike_refl cs i)]
    have : sel (fun j => alike cs i j) i = 0 := by
      apply mem_ext; intro j hj
      unfold mem
      rcases Nat.lt_or_ge i 257 with hi | hi
      · rw [sel_bit _ j i (by omega)]
        rcases Nat.lt_or_ge j i with h1 | h1
        · have := (isRep_iff cs i).1 hr j h1
          rw [alike_symm] at this; simp [this]
        · simp; omega
      · have hall : ∀ k, k ≤ i → sel (fun j => alike cs i j) k = 0 := by
          intro k
          induction k with
          | zero => intro _; rfl
          | succ k ih =>
            intro hk
            have := (isRep_iff cs i).1 hr k (by omega)
            rw [alike_symm] at this
            rw [sel_no _ _ this]; exact ih (by omega)
        rw [hall i (Nat.le_refl _)]
    rw [this]; congr 1; simp
/-- one is: it takes the byte in. -/
theorem reps_old {cs : List (BitVec 256)} {i k r : Nat} (hk : (reps cs i)[k]? = some r) (ha : alike cs r i = true) :
    reps cs (i + 1) = reps cs i ∧ outAt cs (i + 1) = (outAt cs i).set k (sel (fun j => alike cs r j) i ||| bit i) ∧ (outAt cs i)[k]? = some (sel (fun j => alike cs r j) i) := by
  have hmem := List.mem_of_getElem? hk
  obtain ⟨hri, hrr⟩ := (reps_mem cs i r).1 hmem
  have hni : isRep cs i = false := by
    cases h : isRep cs i with
    | false => rfl
    | true => have := (isRep_iff cs i).1 h r hri; rw [ha] at this; cases this
  have e1 : reps cs (i + 1) = reps cs i := by unfold reps; rw [List.range_succ, List.filter_append]; simp [hni]
  have hkl : k < (reps cs i).length := (List.getElem?_eq_some_iff.1 hk).1
  have hrk : (reps cs i)[k] = r := (List.getElem?_eq_some_iff.1 hk).2
  refine ⟨e1, ?_, by unfold outAt; rw [List.getElem?_map, hk]; rfl⟩
  unfold outAt
  rw [e1]
  apply List.ext_getElem
  · simp
  · intro n h1 h2
    simp only [List.length_map] at h1
    rw [List.getElem_map, List.getElem_set, List.getElem_map]
    by_cases hkn : k = n
    · subst hkn
      rw [if_pos rfl, hrk]; exact sel_yes _ _ ha
    · rw [if_neg hkn]
      refine sel_no _ _ ?_
      cases hal : alike cs (reps cs i)[n] i with
      | false => rfl
      | true =>
        exfalso
        have hn := (reps_mem cs i _).1 (List.getElem_mem h1)
        have he := reps_unique hn.2 hrr hal ha
        have hpw := List.pairwise_iff_getElem.1 (reps_nodup cs i)
        rcases Nat.lt_or_gt_of_ne hkn with hl | hl
        · have := hpw k n hkl h1 hl; omega
        · have := hpw n k h1 hkl hl; omega

theorem flat_set : ∀ (l : List (BitVec 256)) (k : Nat) (x : BitVec 256), k < l.length →
    ((((l.flatMap encC).set (k * 4) (.int .u64 (wd x 0))).set (k * 4 + 1) (.int .u64 (wd x 1))).set (k * 4 + 2) (.int .u64 (wd x 2))).set (k * 4 + 3) (.int .u64 (wd x 3)) = (l.set k x).flatMap encC
  | [], k, x, h => by simp at h
  | a :: l, 0, x, _ => by simp [encC]
  | a :: l, k + 1, x, h => by
    have ih := flat_set l k x (by simpa using h)
    rw [List.set_cons_succ, List.flatMap_cons, List.flatMap_cons, ← ih]
    have e : (k + 1) * 4 = (encC a).length + k * 4 := by rw [encC_len]; omega
    rw [e]
    have hs (L : List Value) (n : Nat) (v : Value) : (encC a ++ L).set ((encC a).length + n) v = encC a ++ L.set n v := by
      rw [List.set_append_right _ _ (by omega)]; congr 2; omega
    simp only [Nat.add_assoc, hs]
/-- one class of an owned row is written anew. -/
theorem own_store {w : World} {base g cap : Nat} {e : TypeId} {l : List (BitVec 256)} (h : w.ownsRow base e 4 (.slice (some ⟨g, 0, none⟩) l.length cap) l.length (l.flatMap encC)) (k : Nat) (hk : k < l.length) (x : BitVec 256) :
    ((((w.setCell ⟨g, k * 4, none⟩ (.int .u64 (wd x 0))).setCell ⟨g, k * 4 + 1, none⟩ (.int .u64 (wd x 1))).setCell ⟨g, k * 4 + 2, none⟩ (.int .u64 (wd x 2))).setCell ⟨g, k * 4 + 3, none⟩ (.int .u64 (wd x 3))).ownsRow base e 4
      (.slice (some ⟨g, 0, none⟩) l.length cap) (l.set k x).length ((l.set k x).flatMap encC) := by
  obtain ⟨hl, ⟨hv, _⟩ | ⟨g', cap', cur, hv, hg, hh, hcap, hm, hsz, htk⟩⟩ := h
  · cases hv
  · simp only [Value.slice.injEq, Option.some.injEq, Addr.mk.injEq, and_true, true_and] at hv
    obtain ⟨rfl, rfl⟩ := hv
    have hb : Blk w g cur e := ⟨hh⟩
    have hb4 := (((hb.set (k * 4) (.int .u64 (wd x 0))).set (k * 4 + 1) (.int .u64 (wd x 1))).set (k * 4 + 2) (.int .u64 (wd x 2))).set (k * 4 + 3) (.int .u64 (wd x 3))
    refine ⟨flat_len _, .inr ⟨g, cap, _, by rw [List.length_set], hg, hb4.is, by rw [List.length_set]; exact hcap, hm, by simpa using hsz, ?_⟩⟩
    rw [List.length_set, ← flat_set l k x hk, ← htk]
    simp only [Array.toList_setIfInBounds, List.take_set]
theorem own_other4 {w : World} {base : Nat} {e : TypeId} {size : Nat} {v : Value} {n : Nat} {xs : List Value} (h : w.ownsRow base e size v n xs) {g : Nat} (hne : v.ownBlock ≠ some g) (a0 a1 a2 a3 : Nat) (u0 u1 u2 u3 : Value) :
    ((((w.setCell ⟨g, a0, none⟩ u0).setCell ⟨g, a1, none⟩ u1).setCell ⟨g, a2, none⟩ u2).setCell ⟨g, a3, none⟩ u3).ownsRow base e size v n xs := by
  refine ⟨h.1, ?_⟩
  rcases h.2 with h2 | ⟨g', cap, cur, hv, hg, hh, r⟩
  · exact .inl h2
  · have hn : g' ≠ g := by rintro rfl; exact hne (by rw [hv]; rfl)
    have hb : Blk w g' cur e := ⟨hh⟩
    exact .inr ⟨g', cap, cur, hv, hg, ((((hb.other hn u0).other hn u1).other hn u2).other hn u3).is, r⟩
/-- two owned rows of different types are two. -/
theorem own_apart {w : World} {base base' : Nat} {e e' : TypeId} {size size' : Nat} {v v' : Value} {n n' : Nat} {xs xs' : List Value} (h : w.ownsRow base e size v n xs) (h' : w.ownsRow base' e' size' v' n' xs') (he : e ≠ e') :
    ∀ g, v.ownBlock = some g → v'.ownBlock ≠ some g := by
  intro g hg hg'
  rcases h.2 with ⟨rfl, _⟩ | ⟨g1, c1, cur1, rfl, _, hh1, _⟩
  · cases hg
  · rcases h'.2 with ⟨rfl, _⟩ | ⟨g2, c2, cur2, rfl, _, hh2, _⟩
    · cases hg'
    · cases hg; cases hg'
      rw [hh1] at hh2
      simp only [Option.some.injEq, Obj.cells.injEq] at hh2
      exact he hh2.2.1
theorem own_grown {w w' : World} {base : Nat} {e : TypeId} {size : Nat} {v : Value} {n : Nat} {xs : List Value} {row : Option Nat} (h : w.ownsRow base e size v n xs) (hg : w.grownBy w' row) (hne : ∀ g, row = some g → v.ownBlock ≠ some g) : w'.ownsRow base e size v n xs := by
  refine ⟨h.1, ?_⟩
  rcases h.2 with h2 | ⟨g', cap, cur, hv, hgb, hh, r⟩
  · exact .inl h2
  · have hlt : g' < w.heap.size := Blk.lt (vs := cur) (t := e) ⟨hh⟩
    exact .inr ⟨g', cap, cur, hv, hgb, (hg.block g' hlt (fun e' => hne g' e'.symm (by rw [hv]; rfl))).trans hh, r⟩
theorem own_shape {w : World} {base : Nat} {e : TypeId} {size : Nat} {v : Value} {n : Nat} {xs : List Value} (h : w.ownsRow base e size v n xs) : ∃ p cap, v = .slice p n cap := by
  rcases h.2 with ⟨rfl, rfl⟩ | ⟨g, cap, cur, rfl, _⟩
  · exact ⟨_, _, rfl⟩
  · exact ⟨_, _, rfl⟩
def byteVals (l : List Nat) : List Value := l.map fun (r : Nat) => Value.int .u8 (r : Int)
theorem byteVals_len (l : List Nat) : (byteVals l).length = l.length := List.length_map _
end Go.Proofs.YthhlehhienndeaaDoor
