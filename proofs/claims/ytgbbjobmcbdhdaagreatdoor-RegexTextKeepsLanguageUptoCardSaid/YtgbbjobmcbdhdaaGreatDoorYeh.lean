/-
  Texts of the proof, one behind another: Tl.
-/
import Derived.Test.YtgbbjobmcbdhdaaGreatDoorYda
import Derived.Test.YtgbbjobmcbdhdaaGreatDoorYdc
set_option linter.unusedSimpArgs false
set_option linter.unusedVariables false
/-
  Walks: the text of an alternative whose operands stand the other way round, and what it matches.
-/
namespace Go.Proofs.YtgbbjobmcbdhdaaGreatDoor
open Go.RowKit Go.Shelf Go.Lib

theorem wf_turn {P : List Nd} {a b : Int} (h : Wf (P ++ [(⟨5, 0, a, b, 0, 0⟩ : Nd)])) : Wf (P ++ [(⟨5, 0, b, a, 0, 0⟩ : Nd)]) := by
  have hr : (P ++ [(⟨5, 0, a, b, 0, 0⟩ : Nd)])[P.length]? = some ⟨5, 0, a, b, 0, 0⟩ := last_one rfl
  have ho := h.ops P.length _ hr
  rw [opsN_two (n := ⟨5, 0, a, b, 0, 0⟩) (.inr (.inl rfl))] at ho
  refine ⟨by simp, fun i n hi => ?_, fun i hi => ?_⟩
  · rcases get_one hi with h1 | ⟨rfl, rfl⟩
    · exact h.chk i n (by rw [List.getElem?_append_left (List.getElem?_eq_some_iff.1 h1).1]; exact h1)
    · exact chk_bin (.inr (.inl rfl)) (ho b (by simp)) (ho a (by simp))
  · have h1 := h.use i (by simpa using hi)
    rw [List.flatMap_append, List.count_append] at h1 ⊢
    rw [show [(⟨5, 0, b, a, 0, 0⟩ : Nd)].flatMap opsN = [b, a] from rfl, (List.Perm.swap a b []).count_eq]
    exact h1
/-- the alternative of t and u, where u's nodes stand before t's. -/
def turned (t u : Rx) : List Nd := flat u 0 ++ (flat t (0 + u.size) ++ [⟨5, 0, ((0 + u.size + t.size - 1 : Nat) : Int), ((0 + u.size - 1 : Nat) : Int), 0, 0⟩])
theorem turned_len (t u : Rx) : (turned t u).length = u.size + t.size + 1 := by
  unfold turned
  rw [List.length_append, List.length_append, flatT_len, flatT_len, List.length_singleton]; omega
theorem turned_root (t u : Rx) : (turned t u)[u.size + t.size]? = some ⟨5, 0, ((0 + u.size + t.size - 1 : Nat) : Int), ((0 + u.size - 1 : Nat) : Int), 0, 0⟩ := last_two (by rw [flatT_len, flatT_len])
theorem turned_l (t u : Rx) : Holds (turned t u) 0 u := Holds.left (a := flat u 0) (fun j n h => by rwa [Nat.zero_add]) rfl
theorem turned_r (t u : Rx) : Holds (turned t u) (0 + u.size) t := Holds.right (a := flat u 0) (fun j n h => by rwa [Nat.zero_add]) (flatT_len _ _) rfl
theorem wf_flat {t : Rx} (h : OkT t) : Wf (flat t 0) := by
  have hp := size_pos t
  refine ⟨by rw [flatT_len]; omega, fun i n hi => ?_, fun i hi => ?_⟩
  · have := chk_flat t 0 h i n hi
    rwa [Nat.zero_add] at this
  · rw [flatT_len] at hi
    rw [count_flat, if_pos (by omega)]
theorem turned_wf {t u : Rx} (ht : OkT t) (hu : OkT u) : Wf (turned t u) := by
  have h := wf_flat (t := .alt u t) ⟨hu, ht⟩
  simp only [flat] at h
  rw [← List.append_assoc] at h
  have h2 := wf_turn h
  rw [List.append_assoc] at h2
  exact h2
theorem turned_tree {t u : Rx} (ht : OkT t) (hu : OkT u) (hs : u.size + t.size + 1 ≤ 200) : tree (turned t u) = .alt t u := by
  have hp := size_pos t
  have hp' := size_pos u
  have hX := okX_of ((turned_wf ht hu).valid (by rw [turned_len]; exact hs))
  unfold tree
  rw [turned_len, show u.size + t.size + 1 - 1 = u.size + t.size by omega, tr_alt hX (turned_root t u) rfl, Int.toNat_natCast, Int.toNat_natCast, tr_flat hX t _ (turned_r t u), tr_flat hX u _ (turned_l t u)]
theorem tree_flat {t : Rx} (h : OkT t) (hs : t.size ≤ 200) : tree (flat t 0) = t := by
  unfold tree
  rw [flatT_len]
  exact tr_self h hs
theorem turned_match {t u : Rx} (ht : OkT t) (hu : OkT u) (hs : u.size + t.size + 1 ≤ 200) (b : List Int) : matchB (turned t u) b = matchB (flat (.alt t u) 0) b := by
  have hs2 : (Rx.alt t u).size ≤ 200 := by simp only [Rx.size]; omega
  rw [Bool.eq_iff_iff, match_wf (turned_wf ht hu) (by rw [turned_len]; exact hs), match_wf (wf_flat (t := .alt t u) ⟨ht, hu⟩) (by rw [flatT_len]; exact hs2), turned_tree ht hu hs, tree_flat (t := .alt t u) ⟨ht, hu⟩ hs2]
/-- its text is that of the alternative in postorder. -/
theorem turned_text {t u : Rx} (ht : OkT t) (hu : OkT u) (hs : u.size + t.size + 1 ≤ 200) : TextC (turned t u) (u.size + t.size) (bs (fmtT (.alt t u))) := by
  have hp := size_pos t
  have hp' := size_pos u
  have hX := okX_of ((turned_wf ht hu).valid (by rw [turned_len]; exact hs))
  obtain ⟨m1, e1, k1⟩ := root_kind t _ (turned_r t u)
  obtain ⟨m2, e2, k2⟩ := root_kind u _ (turned_l t u)
  have t1 := text_flat hX t _ ht (by omega) (turned_r t u)
  have t2 := text_flat hX u _ hu (by omega) (turned_l t u)
  have h2 := text_two5 _ hX _ _ (turned_root t u) rfl m1 m2 (by rw [Int.toNat_natCast]; exact e1) (by rw [Int.toNat_natCast]; exact e2) _ _ (fmt_size (t := t) (by omega)) (fmt_size (t := u) (by omega)) (by rw [Int.toNat_natCast]; exact t1) (by rw [Int.toNat_natCast]; exact t2)
  rw [k1, k2, k_none, k_5, show (⟨#[124]⟩ : ByteArray) = bs [124] from rfl, bs_app, bs_app] at h2
  have e : fmtT t ++ [124] ++ parB u.isAlt (fmtT u) = fmtT (.alt t u) := by simp [fmtT]
  rw [e] at h2
  exact h2
/-- Binary of two expressions in postorder, as a list. -/
theorem bin_flat (t u : Rx) : bin 5 (flat t 0) (flat u 0) = flat (.alt t u) 0 := by
  have h1 := size_pos t
  have h2 := size_pos u
  have e1 : ((0 + t.size - 1 : Nat) : Int) = (t.size : Int) - 1 := by omega
  have e2 : ((0 + t.size + u.size - 1 : Nat) : Int) = (t.size : Int) + (u.size : Int) - 1 := by omega
  have e3 : (flat u 0).map (shN (t.size : Int)) = flat u (0 + t.size) := (flat_shift t.size u 0).symm
  unfold bin
  rw [flatT_len, flatT_len, e3, List.append_assoc]
  simp only [flat]
  rw [e1, e2]
end Go.Proofs.YtgbbjobmcbdhdaaGreatDoor
