/-
  The law on ranges: the walk.
-/
import Derived.Test.YthhlehhienndeaaDoorZf
set_option linter.unusedSimpArgs false
set_option linter.unusedVariables false
namespace Go.Proofs.YthhlehhienndeaaDoor
open Go.RowKit Go.Shelf Go.Lib

theorem bytesOk_one (b : Int) (h : 0 ≤ b ∧ b < 256) : bytesOk #[.int .u8 b] = true := by simp [bytesOk, h.1, h.2]
attribute [local irreducible] rg ofV hasI ixI sizeI leastI rng mem mems canon ix ofL bit
set_option maxRecDepth 100000 in
set_option maxHeartbeats 1000000 in
theorem ranges_walk (lo hi b : Int) (h0 : 0 ≤ lo) (h1 : lo < 256) (h2 : 0 ≤ hi) (h3 : hi < 256) (h4 : 0 ≤ b) (h5 : b < 256) (w : World) (hT : TabAt 0 Lib.deBruijn64tab w) (hg0 : 0 < w.heap.size) :
    Calls Tryd.prog 12 #[.int .u8 lo, .int .u8 hi, .int .u8 b] w fun e w' => e = .returned (.bool true) ∧ Below w.heap.size w w' := by
  have HT := Lib.hid hT
  clear hT
  have HO := Lib.hid (bytesOk_one b ⟨h4, h5⟩)
  have q1 := hasI_rg lo hi b h0 h1 h2 h3 h4
  have q2 : sizeI (rg lo hi) = max 0 (hi - lo + 1) := by rw [sizeI_rg lo hi h0 h1 h2 h3]; omega
  go_enter Tryd.func12, Tryd.ntmps12
  by_cases c1 : lo ≤ b
  · by_cases c2 : b ≤ hi
    · have q3 := leastI_rg lo hi h0 h1 h2 h3 (by omega)
      have qe1 := eq_yes (union_rg lo b hi h0 c1 c2 h3)
      have qe2 := eq_yes (inter_rg lo b hi h0 c1 c2 h3)
      simp only [c1, c2, decide_true, Bool.and_self] at q1
      go_wp2_with (first
        | (go_at_call 13; refine (sanity_any _ HT.out hg0).mono ?_; rintro e w1 ⟨rfl, hb1⟩; have HB := Lib.hid hb1; clear hb1)
        | (go_at_call 36; refine (range_rg _ _ _ ?_).mono ?_; omega; rintro e w1 ⟨rfl, hb1⟩; (first | (replace HD := Lib.hid (And.intro HD.out.1 (up_call HD.out.2 hb1)); replace HB := Lib.hid (up_call HB.out hb1); clear hb1) | (replace HD := Lib.hid (And.intro HD.out.1 (up_call (up_al HD.out.2 _) hb1)); replace HB := Lib.hid (up_call (up_al HB.out _) hb1); clear hb1) | (replace HB := Lib.hid (up_call HB.out hb1); clear hb1)))
        | (go_at_call 35; refine (has_i _ _ _ ?_).mono ?_; omega; rintro e w2 ⟨rfl, hb1⟩; (first | (replace HD := Lib.hid (And.intro HD.out.1 (up_call HD.out.2 hb1)); replace HB := Lib.hid (up_call HB.out hb1); clear hb1) | (have HD := Lib.hid (And.intro (Blk.new w1 #[.int .u64 (wd (rg lo hi) 0), .int .u64 (wd (rg lo hi) 1), .int .u64 (wd (rg lo hi) 2), .int .u64 (wd (rg lo hi) 3)] 24) hb1); replace HB := Lib.hid (up_call (up_al HB.out _) hb1); clear hb1)); obtain ⟨d0, d1, d2, d3, -⟩ := (HD.out.1.grows HD.out.2).four)
        | (go_at_call 24; refine (size_i _ _).mono ?_; rintro e w2 ⟨rfl, hb1⟩; replace HD := Lib.hid (And.intro HD.out.1 (up_call HD.out.2 hb1)); replace HB := Lib.hid (up_call HB.out hb1); clear hb1; obtain ⟨d0, d1, d2, d3, -⟩ := (HD.out.1.grows HD.out.2).four)
        | (go_at_call 16; refine (union_any _ _ _).mono ?_; rintro e w2 ⟨rfl, hb1⟩; replace HD := Lib.hid (And.intro HD.out.1 (up_call HD.out.2 hb1)); replace HB := Lib.hid (up_call HB.out hb1); clear hb1; obtain ⟨d0, d1, d2, d3, -⟩ := (HD.out.1.grows HD.out.2).four; have dA := fun (o : Obj) => ((HD.out.1.grows HD.out.2).alloc o).four)
        | (go_at_call 18; refine (intersect_any _ _ _).mono ?_; rintro e w2 ⟨rfl, hb1⟩; replace HD := Lib.hid (And.intro HD.out.1 (up_call HD.out.2 hb1)); replace HB := Lib.hid (up_call HB.out hb1); clear hb1; obtain ⟨d0, d1, d2, d3, -⟩ := (HD.out.1.grows HD.out.2).four)
        | (go_at_call 14; refine (of_v _ _ _ _ _ ?_ ?_ ?_ ?_).mono ?_; rfl; rfl; (show (1 : Nat) ≤ 1000; omega); exact HO.out; rintro e w2 ⟨rfl, hb1⟩; replace HD := Lib.hid (And.intro HD.out.1 (up_call (up_al HD.out.2 _) hb1)); replace HB := Lib.hid (up_call (up_al HB.out _) hb1); clear hb1; obtain ⟨d0, d1, d2, d3, -⟩ := (HD.out.1.grows HD.out.2).four)
        | (go_at_call 26; refine (least_i _ HT.out hg0 HB.out).mono ?_; rintro e w2 ⟨rfl, hb1⟩; replace HD := Lib.hid (And.intro HD.out.1 (up_call HD.out.2 hb1)); replace HB := Lib.hid (up_call HB.out hb1); clear hb1; obtain ⟨d0, d1, d2, d3, -⟩ := (HD.out.1.grows HD.out.2).four))
      go_ret
      exact ⟨rfl, HB.out⟩
    · have cd2 : decide (b ≤ hi) = false := decide_eq_false c2
      simp only [c1, cd2, decide_true, Bool.and_false] at q1
      go_wp2_with (first
        | (go_at_call 13; refine (sanity_any _ HT.out hg0).mono ?_; rintro e w1 ⟨rfl, hb1⟩; have HB := Lib.hid hb1; clear hb1)
        | (go_at_call 36; refine (range_rg _ _ _ ?_).mono ?_; omega; rintro e w1 ⟨rfl, hb1⟩; (first | (replace HD := Lib.hid (And.intro HD.out.1 (up_call HD.out.2 hb1)); replace HB := Lib.hid (up_call HB.out hb1); clear hb1) | (replace HD := Lib.hid (And.intro HD.out.1 (up_call (up_al HD.out.2 _) hb1)); replace HB := Lib.hid (up_call (up_al HB.out _) hb1); clear hb1) | (replace HB := Lib.hid (up_call HB.out hb1); clear hb1)))
        | (go_at_call 35; refine (has_i _ _ _ ?_).mono ?_; omega; rintro e w2 ⟨rfl, hb1⟩; (first | (replace HD := Lib.hid (And.intro HD.out.1 (up_call HD.out.2 hb1)); replace HB := Lib.hid (up_call HB.out hb1); clear hb1) | (have HD := Lib.hid (And.intro (Blk.new w1 #[.int .u64 (wd (rg lo hi) 0), .int .u64 (wd (rg lo hi) 1), .int .u64 (wd (rg lo hi) 2), .int .u64 (wd (rg lo hi) 3)] 24) hb1); replace HB := Lib.hid (up_call (up_al HB.out _) hb1); clear hb1)); obtain ⟨d0, d1, d2, d3, -⟩ := (HD.out.1.grows HD.out.2).four)
        | (go_at_call 24; refine (size_i _ _).mono ?_; rintro e w2 ⟨rfl, hb1⟩; replace HD := Lib.hid (And.intro HD.out.1 (up_call HD.out.2 hb1)); replace HB := Lib.hid (up_call HB.out hb1); clear hb1; obtain ⟨d0, d1, d2, d3, -⟩ := (HD.out.1.grows HD.out.2).four)
        | (go_at_call 16; refine (union_any _ _ _).mono ?_; rintro e w2 ⟨rfl, hb1⟩; replace HD := Lib.hid (And.intro HD.out.1 (up_call HD.out.2 hb1)); replace HB := Lib.hid (up_call HB.out hb1); clear hb1; obtain ⟨d0, d1, d2, d3, -⟩ := (HD.out.1.grows HD.out.2).four; have dA := fun (o : Obj) => ((HD.out.1.grows HD.out.2).alloc o).four)
        | (go_at_call 18; refine (intersect_any _ _ _).mono ?_; rintro e w2 ⟨rfl, hb1⟩; replace HD := Lib.hid (And.intro HD.out.1 (up_call HD.out.2 hb1)); replace HB := Lib.hid (up_call HB.out hb1); clear hb1; obtain ⟨d0, d1, d2, d3, -⟩ := (HD.out.1.grows HD.out.2).four)
        | (go_at_call 14; refine (of_v _ _ _ _ _ ?_ ?_ ?_ ?_).mono ?_; rfl; rfl; (show (1 : Nat) ≤ 1000; omega); exact HO.out; rintro e w2 ⟨rfl, hb1⟩; replace HD := Lib.hid (And.intro HD.out.1 (up_call (up_al HD.out.2 _) hb1)); replace HB := Lib.hid (up_call (up_al HB.out _) hb1); clear hb1; obtain ⟨d0, d1, d2, d3, -⟩ := (HD.out.1.grows HD.out.2).four)
        | (go_at_call 26; refine (least_i _ HT.out hg0 HB.out).mono ?_; rintro e w2 ⟨rfl, hb1⟩; replace HD := Lib.hid (And.intro HD.out.1 (up_call HD.out.2 hb1)); replace HB := Lib.hid (up_call HB.out hb1); clear hb1; obtain ⟨d0, d1, d2, d3, -⟩ := (HD.out.1.grows HD.out.2).four))
      go_ret
      exact ⟨rfl, HB.out⟩
  · have cd1 : decide (lo ≤ b) = false := decide_eq_false c1
    simp only [cd1, Bool.false_and] at q1
    go_wp2_with (first
        | (go_at_call 13; refine (sanity_any _ HT.out hg0).mono ?_; rintro e w1 ⟨rfl, hb1⟩; have HB := Lib.hid hb1; clear hb1)
        | (go_at_call 36; refine (range_rg _ _ _ ?_).mono ?_; omega; rintro e w1 ⟨rfl, hb1⟩; (first | (replace HD := Lib.hid (And.intro HD.out.1 (up_call HD.out.2 hb1)); replace HB := Lib.hid (up_call HB.out hb1); clear hb1) | (replace HD := Lib.hid (And.intro HD.out.1 (up_call (up_al HD.out.2 _) hb1)); replace HB := Lib.hid (up_call (up_al HB.out _) hb1); clear hb1) | (replace HB := Lib.hid (up_call HB.out hb1); clear hb1)))
        | (go_at_call 35; refine (has_i _ _ _ ?_).mono ?_; omega; rintro e w2 ⟨rfl, hb1⟩; (first | (replace HD := Lib.hid (And.intro HD.out.1 (up_call HD.out.2 hb1)); replace HB := Lib.hid (up_call HB.out hb1); clear hb1) | (have HD := Lib.hid (And.intro (Blk.new w1 #[.int .u64 (wd (rg lo hi) 0), .int .u64 (wd (rg lo hi) 1), .int .u64 (wd (rg lo hi) 2), .int .u64 (wd (rg lo hi) 3)] 24) hb1); replace HB := Lib.hid (up_call (up_al HB.out _) hb1); clear hb1)); obtain ⟨d0, d1, d2, d3, -⟩ := (HD.out.1.grows HD.out.2).four)
        | (go_at_call 24; refine (size_i _ _).mono ?_; rintro e w2 ⟨rfl, hb1⟩; replace HD := Lib.hid (And.intro HD.out.1 (up_call HD.out.2 hb1)); replace HB := Lib.hid (up_call HB.out hb1); clear hb1; obtain ⟨d0, d1, d2, d3, -⟩ := (HD.out.1.grows HD.out.2).four)
        | (go_at_call 16; refine (union_any _ _ _).mono ?_; rintro e w2 ⟨rfl, hb1⟩; replace HD := Lib.hid (And.intro HD.out.1 (up_call HD.out.2 hb1)); replace HB := Lib.hid (up_call HB.out hb1); clear hb1; obtain ⟨d0, d1, d2, d3, -⟩ := (HD.out.1.grows HD.out.2).four; have dA := fun (o : Obj) => ((HD.out.1.grows HD.out.2).alloc o).four)
        | (go_at_call 18; refine (intersect_any _ _ _).mono ?_; rintro e w2 ⟨rfl, hb1⟩; replace HD := Lib.hid (And.intro HD.out.1 (up_call HD.out.2 hb1)); replace HB := Lib.hid (up_call HB.out hb1); clear hb1; obtain ⟨d0, d1, d2, d3, -⟩ := (HD.out.1.grows HD.out.2).four)
        | (go_at_call 14; refine (of_v _ _ _ _ _ ?_ ?_ ?_ ?_).mono ?_; rfl; rfl; (show (1 : Nat) ≤ 1000; omega); exact HO.out; rintro e w2 ⟨rfl, hb1⟩; replace HD := Lib.hid (And.intro HD.out.1 (up_call (up_al HD.out.2 _) hb1)); replace HB := Lib.hid (up_call (up_al HB.out _) hb1); clear hb1; obtain ⟨d0, d1, d2, d3, -⟩ := (HD.out.1.grows HD.out.2).four)
        | (go_at_call 26; refine (least_i _ HT.out hg0 HB.out).mono ?_; rintro e w2 ⟨rfl, hb1⟩; replace HD := Lib.hid (And.intro HD.out.1 (up_call HD.out.2 hb1)); replace HB := Lib.hid (up_call HB.out hb1); clear hb1; obtain ⟨d0, d1, d2, d3, -⟩ := (HD.out.1.grows HD.out.2).four))
    go_ret
    exact ⟨rfl, HB.out⟩
end Go.Proofs.YthhlehhienndeaaDoor
