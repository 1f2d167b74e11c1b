/-
  Walks: split, children, cut.
-/
import Derived.Test.YtmhhfommgdljkaaKa
set_option linter.unusedSimpArgs false
set_option linter.unusedVariables false
namespace Go.Proofs.Ytmhhfommgdljkaa
open Go.RowKit Go.Lib

/-- the value is a slice of rows of its own. -/
def RsO (base : Nat) (w : World) (v : Value) (l : List Rw) : Prop :=
  ∃ p cap, v = .slice p l.length cap ∧ l.length ≤ cap ∧ ∀ (j : Nat) (r : Rw), l[j]? = some r → ∃ b cs u, p = some ⟨b, 0, none⟩ ∧ Blk w b cs 37 ∧ cs[j * 2]? = some u ∧ cs[j * 2 + 1]? = some (.int .i64 r.C) ∧ OwnI base w u r.A
/-- the rows that were added, if the step's condition holds. -/
def RowsRes (w : World) : Option (List Rw) → Ending → World → Prop
  | none, e, w' => Below w.heap.size w w' ∧ ∃ v, e = .returned (.tuple #[v, .bool false])
  | some rs, e, w' => Below w.heap.size w w' ∧ ∃ v, e = .returned (.tuple #[v, .bool true]) ∧ RsO w.heap.size w' v rs
theorem rows_one {base : Nat} {w : World} {g : Nat} {u : Value} {r : Rw} (h : Blk w g #[u, .int .i64 r.C] 37) (hu : OwnI base w u r.A) : RsO base w (.slice (some ⟨g, 0, none⟩) 1 1) [r] := by
  refine ⟨some ⟨g, 0, none⟩, 1, rfl, Nat.le_refl _, fun j q hj => ?_⟩
  have hj0 := lt_of_get hj
  obtain rfl : j = 0 := by simp at hj0; omega
  simp at hj; subst hj
  exact ⟨g, _, u, rfl, h, rfl, rfl, hu⟩
theorem rows_two {base : Nat} {w : World} {g : Nat} {u v : Value} {r q : Rw} (h : Blk w g #[u, .int .i64 r.C, v, .int .i64 q.C] 37) (hu : OwnI base w u r.A) (hv : OwnI base w v q.A) : RsO base w (.slice (some ⟨g, 0, none⟩) 2 2) [r, q] := by
  refine ⟨some ⟨g, 0, none⟩, 2, rfl, Nat.le_refl _, fun j x hj => ?_⟩
  have hj0 := lt_of_get hj
  have : j = 0 ∨ j = 1 := by simp at hj0; omega
  rcases this with rfl | rfl
  · simp at hj; subst hj
    exact ⟨g, _, u, rfl, h, rfl, rfl, hu⟩
  · simp at hj; subst hj
    exact ⟨g, _, v, rfl, h, rfl, rfl, hv⟩
theorem rows_nil (base : Nat) (w : World) : RsO base w (.slice none 0 0) [] := ⟨none, 0, rfl, Nat.le_refl _, fun j x hj => by simp at hj⟩
set_option maxRecDepth 100000 in
set_option maxHeartbeats 1000000 in
theorem split_any (x k : Int) (n : Nat) (w : World) (hn : n ≤ 1000) :
    Calls Try.prog 41 #[.int .i64 x, .int .i64 k, .int .i64 n] w (RowsRes w ((splitS x k n).map fun q => [q.1, q.2])) := by
  by_cases h1 : x < 0
  · have HS := Lib.hid (show splitS x k n = none by unfold splitS; rw [if_neg (by omega)])
    go_enter Try.func41, Try.ntmps41
    go_wp2
    go_ret2
    rw [HS.out]
    exact ⟨Below.refl _ _, _, rfl⟩
  · by_cases h2 : (n : Int) ≤ x
    · have HS := Lib.hid (show splitS x k n = none by unfold splitS; rw [if_neg (by omega)])
      have d1 : decide ((n : Int) ≤ x) = true := by rw [decide_eq_true_iff]; exact h2
      go_enter Try.func41, Try.ntmps41
      go_wp2
      go_ret2
      rw [HS.out]
      exact ⟨Below.refl _ _, _, rfl⟩
    · have d1 : decide ((n : Int) ≤ x) = false := by rw [decide_eq_false_iff_not]; exact h2
      by_cases h3 : k < -1048576
      · have HS := Lib.hid (show splitS x k n = none by unfold splitS; rw [if_neg (by omega)])
        go_enter Try.func41, Try.ntmps41
        go_wp2
        go_ret2
        rw [HS.out]
        exact ⟨Below.refl _ _, _, rfl⟩
      · by_cases h4 : 1048576 < k
        · have HS := Lib.hid (show splitS x k n = none by unfold splitS; rw [if_neg (by omega)])
          go_enter Try.func41, Try.ntmps41
          go_wp2
          go_ret2
          rw [HS.out]
          exact ⟨Below.refl _ _, _, rfl⟩
        · obtain ⟨i, rfl⟩ : ∃ i : Nat, x = (i : Int) := ⟨x.toNat, by omega⟩
          have hin : i < n := by omega
          have HS := Lib.hid (show splitS (i : Int) k n = some (atMost n i k, atLeast n i (k + 1)) by unfold splitS; rw [if_pos (by omega)]; simp)
          clear d1
          have d1 : decide ((n : Int) ≤ (i : Int)) = false := by rw [decide_eq_false_iff_not]; exact h2
          have d2 : decide (n ≤ i) = false := by rw [decide_eq_false_iff_not]; omega
          go_enter Try.func41, Try.ntmps41
          go_wp2_with fail
          refine (atMost_any n i k w hin hn (by omega)).mono ?_
          rintro e w2 ⟨u, rfl, hu, hb2⟩
          have HU := Lib.hid hu
          have HB := Lib.hid hb2
          clear hu hb2
          go_wp2_with fail
          refine (atLeast_any n i (k + 1) w2 hin hn (by omega)).mono ?_
          rintro e w3 ⟨v, rfl, hv, hb3⟩
          have HU3 := Lib.hid (HU.out.grows hb3)
          have HV3 := Lib.hid hv
          have HB0 := Lib.hid HB.out.size
          have HB3 := Lib.hid (below_two HB.out hb3)
          obtain ⟨pu, cu, rfl, -⟩ := HU.out.isI.shape
          obtain ⟨pv, cv, rfl, -⟩ := hv.isI.shape
          clear hv hb3 HB HU
          have HCa := Lib.hid (show (atMost n i k).C = k from rfl)
          go_wp2
          go_ret2
          rw [HS.out]
          have hbn : Below w3.heap.size w3 (w3.alloc (.cells #[.slice pu (atMost n i k).A.length cu, .int .i64 (atMost n i k).C, .slice pv (atLeast n i (k + 1)).A.length cv, .int .i64 (atLeast n i (k + 1)).C] 37)) := (Below.refl _ w3).alloc (Nat.le_refl _) _
          exact ⟨below_two HB3.out hbn, _, rfl, rows_two (Blk.new w3 _ _) (HU3.out.grows hbn) ((HV3.out.grows hbn).low HB0.out)⟩
set_option maxRecDepth 100000 in
set_option maxHeartbeats 1000000 in
theorem children_any (u : Value) (t : Sp) (w : World) (hu : IsI w u t.M) :
    Calls Try.prog 29 #[.agg #[.int .i64 t.k, u, .int .i64 t.R, .int .i64 t.D, .int .i64 t.X, .int .i64 t.K, .int .i64 t.N, .int .i64 t.E]] w fun e w' => ∃ v, e = .returned v ∧ OwnI 0 w' v (childs t) ∧ Below w.heap.size w w' := by
  obtain ⟨p, cp, rfl, hcp⟩ := hu.shape
  obtain ⟨k, M, R, D, X, K, N, E⟩ := t
  simp only at *
  clear hu
  have hone : ∀ (W : World) (cs : Array Value) (T : TypeId), OwnI 0 ((W.alloc (.cells cs T)).alloc (.cells #[.int .i64 N] 3)) (.slice (some ⟨W.heap.size + 1, 0, none⟩) 1 1) [N] := fun W cs T => (own_of_blk (Blk.alloc1 W cs #[.int .i64 N] T 3) 1 1 rfl (by decide) (Nat.zero_le _))
  have htwo : ∀ (W : World) (cs : Array Value) (T : TypeId), OwnI 0 ((W.alloc (.cells cs T)).alloc (.cells #[.int .i64 N, .int .i64 E] 3)) (.slice (some ⟨W.heap.size + 1, 0, none⟩) 2 2) [N, E] := fun W cs T => (own_of_blk (Blk.alloc1 W cs #[.int .i64 N, .int .i64 E] T 3) 2 1 rfl (by decide) (Nat.zero_le _))
  have H1 := Lib.hid hone
  have H2 := Lib.hid htwo
  clear hone htwo
  by_cases h1 : k = 1
  · subst h1
    go_enter Try.func29, Try.ntmps29
    go_wp2
    go_ret
    exact ⟨_, rfl, by have h := H1.out w #[.int .i64 1, .slice p M.length cp, .int .i64 R, .int .i64 D, .int .i64 X, .int .i64 K, .int .i64 N, .int .i64 E] 49; simpa [childs] using h, by go_grown⟩
  · have d1 : (k == 1) = false := by rw [beq_eq_false_iff_ne]; exact h1
    by_cases h2 : k = 2
    · subst h2
      go_enter Try.func29, Try.ntmps29
      go_wp2
      go_ret
      exact ⟨_, rfl, by have h := H1.out w #[.int .i64 2, .slice p M.length cp, .int .i64 R, .int .i64 D, .int .i64 X, .int .i64 K, .int .i64 N, .int .i64 E] 49; simpa [childs] using h, by go_grown⟩
    · have d2 : (k == 2) = false := by rw [beq_eq_false_iff_ne]; exact h2
      by_cases h3 : k = 3
      · subst h3
        go_enter Try.func29, Try.ntmps29
        go_wp2
        go_ret
        exact ⟨_, rfl, by have h := H2.out w #[.int .i64 3, .slice p M.length cp, .int .i64 R, .int .i64 D, .int .i64 X, .int .i64 K, .int .i64 N, .int .i64 E] 49; simpa [childs] using h, by go_grown⟩
      · have d3 : (k == 3) = false := by rw [beq_eq_false_iff_ne]; exact h3
        have HC := Lib.hid (show childs ⟨k, M, R, D, X, K, N, E⟩ = [] by unfold childs; simp [h1, h2, h3])
        go_enter Try.func29, Try.ntmps29
        go_wp2
        go_ret
        exact ⟨_, rfl, by rw [HC.out]; exact OwnI.nil _ _, by go_grown⟩
end Go.Proofs.Ytmhhfommgdljkaa
