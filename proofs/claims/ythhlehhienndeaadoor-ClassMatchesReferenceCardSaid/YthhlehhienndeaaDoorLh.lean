/-
  The law that each operation agrees with the reference: the walk.
-/
import Derived.Test.YthhlehhienndeaaDoorLm
import Derived.Deep.RegionHeld3
set_option linter.unusedSimpArgs false
set_option linter.unusedVariables false
namespace Go.Proofs.YthhlehhienndeaaDoor
open Go.RowKit Go.Shelf Go.Lib

/-- the two conversions to a string, under names of their own. -/
def strA : Op := Op.convert 25 9 (Operand.tmp 71)
def strB : Op := Op.convert 25 9 (Operand.tmp 74)
theorem strA_eq : Op.convert 25 9 (Operand.tmp 71) = strA := rfl
theorem strB_eq : Op.convert 25 9 (Operand.tmp 74) = strB := rfl
attribute [local go_sem] strA strB
attribute [local irreducible] rg ofV hasI ixI sizeI leastI rng mem mems canon ix ofL bit uni itr sbt cpl strOfNums
set_option maxRecDepth 100000 in
set_option maxHeartbeats 2000000 in
theorem matches_walk (x y : BitVec 256) (v : Value) (l : List Int) (w : World) (hv : IsB w v l) (hm : l.length ≤ maxLen) (hz : ∀ z ∈ l, 0 ≤ z ∧ z < 256)
    (hT : TabAt 0 Lib.deBruijn64tab w) (hg0 : 0 < w.heap.size) :
    Calls Tryd.prog 3 #[.agg #[.int .u64 (wd x 0), .int .u64 (wd x 1), .int .u64 (wd x 2), .int .u64 (wd x 3)], .agg #[.int .u64 (wd y 0), .int .u64 (wd y 1), .int .u64 (wd y 2), .int .u64 (wd y 3)], v] w fun e w' => e = .returned (.bool true) ∧ Below w.heap.size w w' := by
  have HT := Lib.hid hT
  clear hT
  obtain ⟨pp, cp, rfl⟩ := hv.shape
  have HM := Lib.hid (And.intro hm hz)
  clear hz
  unfold maxLen at hm
  generalize hn : l.length = n at hv hm ⊢
  have HV := Lib.hid hv
  clear hv
  have q1 := eq_yes (Eq.refl (ofL l))
  have q2 := eq_yes (Eq.refl (uni x y))
  have q3 := eq_yes (Eq.refl (itr x y))
  have q4 := eq_yes (Eq.refl (sbt x y))
  have q5 := eq_yes (Eq.refl (cpl x))
  go_enter Tryd.func3, Tryd.ntmps3
  have HN := Lib.hid hn
  clear hn
  by_cases h12 : 1000 < n
  · have hd : decide ((1000 : Int) < (n : Int)) = true := by simp; omega
    go_wp2_with (go_at_call 13; refine (sanity_any _ ?_ ?_).mono ?_; exact tab_below HT.out (up_al (up_al (Below.refl w.heap.size w) _) _) hg0; exact Nat.lt_of_lt_of_le hg0 (up_al (up_al (Below.refl w.heap.size w) _) _).size; rintro e a ⟨rfl, hb1⟩; have HB := Lib.hid (up_call (up_al (up_al (Below.refl w.heap.size w) _) _) hb1); clear hb1)
    go_ret
    exact ⟨rfl, HB.out⟩
  · have hd : decide ((1000 : Int) < (n : Int)) = false := by simp; omega
    go_wp2_with (go_at_call 13; refine (sanity_any _ ?_ ?_).mono ?_; exact tab_below HT.out (up_al (up_al (Below.refl w.heap.size w) _) _) hg0; exact Nat.lt_of_lt_of_le hg0 (up_al (up_al (Below.refl w.heap.size w) _) _).size; rintro e a ⟨rfl, hb1⟩; have HB := Lib.hid (up_call (up_al (up_al (Below.refl w.heap.size w) _) _) hb1).drew; have HD := Lib.hid ((MB.new x y w).grows hb1).drew; clear hb1)
    simp only [List.append_eq, List.cons_append, List.nil_append]
    rw [strA_eq, strB_eq]
    go_region_held3 (fun W => W.cell? ⟨w.heap.size, 0, none⟩ = some (.int .u64 (wd x 0)) ∧ W.cell? ⟨w.heap.size, 1, none⟩ = some (.int .u64 (wd x 1)) ∧ W.cell? ⟨w.heap.size, 2, none⟩ = some (.int .u64 (wd x 2)) ∧ W.cell? ⟨w.heap.size, 3, none⟩ = some (.int .u64 (wd x 3)) ∧ W.cell? ⟨w.heap.size + 1, 0, none⟩ = some (.int .u64 (wd y 0)) ∧ W.cell? ⟨w.heap.size + 1, 1, none⟩ = some (.int .u64 (wd y 1)) ∧ W.cell? ⟨w.heap.size + 1, 2, none⟩ = some (.int .u64 (wd y 2)) ∧ W.cell? ⟨w.heap.size + 1, 3, none⟩ = some (.int .u64 (wd y 3))) (exact HD.out.cells)
      (first
        | (go_at_call 14; refine (of_isB (l := l) ?_ HB.out HM.out.1 HM.out.2).mono ?_; exact HV.out; rintro e w1 ⟨rfl, hb1⟩; replace HB := Lib.hid (up_call HB.out hb1); replace HD := Lib.hid (HD.out.grows hb1); clear hb1)
        | (go_at_call 15; refine (rof_isB (l := l) ?_ HB.out HM.out.1 HM.out.2).mono ?_; exact HV.out; rintro e w1 ⟨rfl, hb1⟩; replace HB := Lib.hid (up_call HB.out hb1); replace HD := Lib.hid (HD.out.grows hb1); clear hb1)
        | (go_at_call 16; refine (union_u x y _).mono ?_; rintro e w1 ⟨rfl, hb1⟩; replace HB := Lib.hid (up_call HB.out hb1); replace HD := Lib.hid (HD.out.grows hb1); clear hb1)
        | (go_at_call 17; refine (runion_u x y _).mono ?_; rintro e w1 ⟨rfl, hb1⟩; replace HB := Lib.hid (up_call HB.out hb1); replace HD := Lib.hid (HD.out.grows hb1); clear hb1)
        | (go_at_call 18; refine (inter_u x y _).mono ?_; rintro e w1 ⟨rfl, hb1⟩; replace HB := Lib.hid (up_call HB.out hb1); replace HD := Lib.hid (HD.out.grows hb1); clear hb1)
        | (go_at_call 19; refine (rinter_u x y _).mono ?_; rintro e w1 ⟨rfl, hb1⟩; replace HB := Lib.hid (up_call HB.out hb1); replace HD := Lib.hid (HD.out.grows hb1); clear hb1)
        | (go_at_call 20; refine (minus_u x y _).mono ?_; rintro e w1 ⟨rfl, hb1⟩; replace HB := Lib.hid (up_call HB.out hb1); replace HD := Lib.hid (HD.out.grows hb1); clear hb1)
        | (go_at_call 21; refine (rminus_u x y _).mono ?_; rintro e w1 ⟨rfl, hb1⟩; replace HB := Lib.hid (up_call HB.out hb1); replace HD := Lib.hid (HD.out.grows hb1); clear hb1)
        | (go_at_call 22; refine (not_u x _).mono ?_; rintro e w1 ⟨rfl, hb1⟩; replace HB := Lib.hid (up_call HB.out hb1); replace HD := Lib.hid (HD.out.grows hb1); clear hb1)
        | (go_at_call 23; refine (rnot_u x _).mono ?_; rintro e w1 ⟨rfl, hb1⟩; replace HB := Lib.hid (up_call HB.out hb1); replace HD := Lib.hid (HD.out.grows hb1); clear hb1)
        | (go_at_call 24; refine (size_i x _).mono ?_; rintro e w1 ⟨rfl, hb1⟩; replace HB := Lib.hid (up_call HB.out hb1); replace HD := Lib.hid (HD.out.grows hb1); clear hb1)
        | (go_at_call 25; refine (rsize_i x _).mono ?_; rintro e w1 ⟨rfl, hb1⟩; replace HB := Lib.hid (up_call HB.out hb1); replace HD := Lib.hid (HD.out.grows hb1); clear hb1)
        | (go_at_call 26; refine (least_i x HT.out hg0 HB.out).mono ?_; rintro e w1 ⟨rfl, hb1⟩; replace HB := Lib.hid (up_call HB.out hb1); replace HD := Lib.hid (HD.out.grows hb1); clear hb1)
        | (go_at_call 27; refine (rleast_any x _).mono ?_; rintro e w1 ⟨rfl, hb1⟩; replace HB := Lib.hid (up_call HB.out hb1); replace HD := Lib.hid (HD.out.grows hb1); clear hb1)
        | (go_at_call 28; refine (bytes_str x _ HT.out hg0 HB.out).mono ?_; rintro e w1 ⟨⟨v1, rfl, hI⟩, hb1⟩; have hcv := isO_str hI; have HI1 := Lib.hid hI; clear hI; replace HB := Lib.hid (up_call HB.out hb1); replace HD := Lib.hid (HD.out.grows hb1); clear hb1)
        | (go_at_call 29; refine (rbytes_str x _).mono ?_; rintro e w1 ⟨⟨v2, rfl, hI⟩, hb1⟩; have hcv1 := isO_str (HI1.out.grows hb1); have hcv2 := isO_str hI; clear hI HI1; replace HB := Lib.hid (up_call HB.out hb1); replace HD := Lib.hid (HD.out.grows hb1); clear hb1))
    all_goals go_wp2
    all_goals go_ret
    all_goals exact ⟨rfl, HB.out⟩
end Go.Proofs.YthhlehhienndeaaDoor
