/-
  The law on intersections and unions: the walk.
-/
import Derived.Test.YtepncbbegpeilaaDoorLm
import Derived.Lib.QuietBelow
set_option linter.unusedSimpArgs false
set_option linter.unusedVariables false
namespace Go.Proofs.YtepncbbegpeilaaDoor
open Go.RowKit Go.Lib

/-- a result that is not too large. -/
theorem opres_ok {B : Nat} {f : Nat → Bool} {W : World} {e : Ending} {P N : Nat} (r : OpRes B true f W e) (hP : 0 < P) (hF : From f P N) (hl : N + P ≤ 512) :
    ∃ h c hp hk cp ck, e = .returned (.tuple #[.agg #[.slice hp h.length hk, .slice cp c.length ck], .int .i64 0]) ∧ IsCanon f h c ∧ h.length ≤ N ∧ c.length ≤ P ∧ IsSet W (.agg #[.slice hp h.length hk, .slice cp c.length ck]) h c := by
  rcases r with ⟨h0, _⟩ | ⟨_, h, c, h1, h2⟩
  · cases h0
  · obtain ⟨k1, k2⟩ := h1.head_le hP hF
    rcases h2 with ⟨_, v, rfl, hown⟩ | ⟨h3, _⟩
    · obtain ⟨hp, hk, cp, ck, rfl, a1, a2⟩ := hown.isSet.shape
      exact ⟨h, c, hp, hk, cp, ck, rfl, h1, k2, k1, _, _, rfl, a1, a2⟩
    · omega
theorem has_canon {f : Nat → Bool} {h c : List Bool} (hc : IsCanon f h c) (hl : h.length + c.length ≤ 512) (n : Int) : hasB h c n = (decide (0 ≤ n) && f n.toNat) := by
  unfold hasB; rw [okLen_yes hc.pos hl, hc.val]; rfl
theorem has_set {h c : List Bool} (hc : 0 < c.length) (hl : h.length + c.length ≤ 512) (n : Int) : hasB h c n = (decide (0 ≤ n) && atL h c n.toNat) := by
  unfold hasB; rw [okLen_yes hc hl]; rfl
theorem dec_and (d x y : Bool) : (d && (x && y)) = ((d && x) && (d && y)) := by cases d <;> cases x <;> cases y <;> rfl
theorem dec_or (d x y : Bool) : (d && (x || y)) = ((d && x) || (d && y)) := by cases d <;> cases x <;> cases y <;> rfl
theorem and_per {h c h' c' : List Bool} (hc : 0 < c.length) (hc' : 0 < c'.length) : From (fun n => atL h c n && atL h' c' n) (mulOf c.length c'.length) (max h.length h'.length) :=
  both_from (fun x y => x && y) (lcm_from (atL_from h c hc) _ (mulOf_left _ _)) (lcm_from (atL_from h' c' hc') _ (mulOf_right _ _))
theorem or_per {h c h' c' : List Bool} (hc : 0 < c.length) (hc' : 0 < c'.length) : From (fun n => atL h c n || atL h' c' n) (mulOf c.length c'.length) (max h.length h'.length) :=
  both_from (fun x y => x || y) (lcm_from (atL_from h c hc) _ (mulOf_left _ _)) (lcm_from (atL_from h' c' hc') _ (mulOf_right _ _))
theorem hasq {W : World} {v : Value} {h c : List Bool} {n : Int} {b : Bool} (hv : IsSet W v h c) (hb : hasB h c n = b) (h1 : h.length ≤ 1000) (h2 : c.length ≤ 1000) (hn : n ≤ 9223372036854775807) (d : Nat) (os : Array Obj) :
    Calls Tryd.prog 14 #[v, .int .i64 n] (Go.Sort.grow (redrawn W d) os) fun e w' => e = .returned (.bool b) ∧ ∃ p : Regrown, w' = Go.Sort.grow (redrawn W p.d) p.os :=
  Calls.regrown_of (has_is v h c n b _ (hv.grows (below_regrown W d os)) hb h1 h2 hn)
end Go.Proofs.YtepncbbegpeilaaDoor
