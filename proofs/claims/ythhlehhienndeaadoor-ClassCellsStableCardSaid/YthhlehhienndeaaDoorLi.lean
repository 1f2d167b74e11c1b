/-
  The law that Cells and Index agree with the reference: the walk.
-/
import Derived.Test.YthhlehhienndeaaDoorOpc
set_option linter.unusedSimpArgs false
set_option linter.unusedVariables false
namespace Go.Proofs.YthhlehhienndeaaDoor
open Go.RowKit Go.Shelf Go.Lib

theorem same_yes {v u : Value} {l : List (BitVec 256)} {W : World} (hv : IsC W v l) (hu : IsC W u l) (hl : l.length ≤ 1000) :
    Calls Tryd.prog 30 #[v, u] W fun e w' => e = .returned (.bool true) ∧ Below W.heap.size W w' := by
  have h := same_any v u l l W hv hu hl hl
  have e : sameL l l = true := by unfold sameL; simp
  rwa [e] at h
theorem rindex_i (v : Value) (l : List (BitVec 256)) (b : Int) {W : World} (hv : IsC W v l) (hl : l.length ≤ 1000) (h : 0 ≤ b ∧ b < 256) :
    Calls Tryd.prog 34 #[v, .int .u8 b] W fun e w' => e = .returned (.int .i64 (ixI l b)) ∧ Below W.heap.size W w' := rindex_any v l b h.1 h.2 W hv hl

attribute [local irreducible] rg ofV hasI ixI sizeI leastI rng mem mems canon ix ofL bit
set_option maxRecDepth 100000 in
set_option maxHeartbeats 1000000 in
theorem cellsref_walk (v : Value) (l : List (BitVec 256)) (b : Int) (w : World) (hv : IsC w v l) (hm : l.length ≤ maxLen) (hb : 0 ≤ b ∧ b < 256)
    (hT : TabAt 0 Lib.deBruijn64tab w) (hg0 : 0 < w.heap.size) :
    Calls Tryd.prog 4 #[v, .int .u8 b] w fun e w' => e = .returned (.bool true) ∧ Below w.heap.size w w' := by
  have HT := Lib.hid hT
  clear hT
  obtain ⟨pp, cp, rfl⟩ := hv.shape
  unfold maxLen at hm
  generalize hn : l.length = n at hv hm ⊢
  have HV := Lib.hid hv
  have HN := Lib.hid hn
  clear hv hn
  go_enter Tryd.func4, Tryd.ntmps4
  by_cases h12 : 12 < n
  · have hd : decide ((12 : Int) < (n : Int)) = true := by simp; omega
    go_wp2_with (go_at_call 13; refine (sanity_any _ HT.out hg0).mono ?_; rintro e a ⟨rfl, hb1⟩; have HB := Lib.hid hb1; clear hb1)
    go_ret
    exact ⟨rfl, HB.out⟩
  · have hd : decide ((12 : Int) < (n : Int)) = false := by simp; omega
    have h1000 : l.length ≤ 1000 := by rw [HN.out]; omega
    have hc1000 : (canon l).length ≤ 1000 := Nat.le_trans (canon_len l) (by omega)
    have HL := Lib.hid (And.intro h1000 hc1000)
    clear h1000 hc1000
    go_wp2_with (first
      | (go_at_call 13; refine (sanity_any _ HT.out hg0).mono ?_; rintro e a ⟨rfl, hb1⟩; have HW := Lib.hid hb1; clear hb1)
      | (go_at_call 31; refine (cells_any _ l _ ?_ HL.out.1 ?_ ?_).mono ?_; exact HV.out.grows HW.out; exact tab_below HT.out HW.out hg0; exact Nat.lt_of_lt_of_le hg0 HW.out.size; rintro e w1 ⟨v1, rfl, hown, hb1⟩; (try clear HO); (try clear HP); have HO := Lib.hid (own_isC hown); replace HW := Lib.hid (up_call HW.out hb1); clear hown hb1)
      | (go_at_call 32; refine (rcells_any _ l _ ?_ HL.out.1).mono ?_; exact HV.out.grows HW.out; rintro e w2 ⟨v2, rfl, hown, hb1⟩; have HP := Lib.hid (own_isC hown); replace HO := Lib.hid (HO.out.grows hb1); replace HW := Lib.hid (up_call HW.out hb1); clear hown hb1)
      | (go_at_call 30; refine (same_yes HO.out HP.out HL.out.2).mono ?_; rintro e w3 ⟨rfl, hb1⟩; replace HW := Lib.hid (up_call HW.out hb1); clear HO HP hb1)
      | (go_at_call_of 33 (Value.slice pp n cp); refine (index_i _ l _ HV.out HW.out HL.out.1 hb).mono ?_; rintro e w4 ⟨rfl, hb1⟩; replace HW := Lib.hid (up_call HW.out hb1); clear hb1)
      | (go_at_call_of 34 (Value.slice pp n cp); refine (rindex_i _ l _ ?_ HL.out.1 hb).mono ?_; exact HV.out.grows HW.out; rintro e w5 ⟨rfl, hb1⟩; replace HW := Lib.hid (up_call HW.out hb1); clear hb1)
      | (go_at_call 33; refine (index_i _ (canon l) _ HO.out ?_ HL.out.2 hb).mono ?_; exact Below.refl _ _; rintro e w6 ⟨rfl, hb1⟩; replace HO := Lib.hid (HO.out.grows hb1); replace HW := Lib.hid (up_call HW.out hb1); clear hb1)
      | (go_at_call 34; refine (rindex_i _ (canon l) _ HP.out HL.out.2 hb).mono ?_; rintro e w7 ⟨rfl, hb1⟩; replace HW := Lib.hid (up_call HW.out hb1); clear hb1))
    go_ret
    exact ⟨rfl, HW.out⟩
end Go.Proofs.YthhlehhienndeaaDoor
