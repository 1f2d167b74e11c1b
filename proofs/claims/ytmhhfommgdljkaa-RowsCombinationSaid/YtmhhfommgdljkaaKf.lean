/-
  Walks: plain, given.
-/
import Derived.Test.YtmhhfommgdljkaaKe
import Derived.ChangeKeysEq
set_option linter.unusedSimpArgs false
set_option linter.unusedVariables false
namespace Go.Proofs.Ytmhhfommgdljkaa
open Go.RowKit Go.Lib

theorem eq6 (w : World) (a b c d e f : Int) : (Op.equalIn 10000 88 (.agg #[.int .i64 a, .int .i64 b, .int .i64 c, .int .i64 d, .int .i64 e, .int .i64 f]) (.agg #[.int .i64 0, .int .i64 0, .int .i64 0, .int .i64 0, .int .i64 0, .int .i64 0])).run Try.prog w = .ok (decide (a = 0 ∧ b = 0 ∧ c = 0 ∧ d = 0 ∧ e = 0 ∧ f = 0)) w := by
  obtain ⟨i, hi⟩ : ∃ i, Try.prog.info? 3 = some i := ⟨_, rfl⟩
  have hc : Try.prog.cellsOf 3 = 1 := by rfl
  have hu : Try.prog.underlying 3 = some (.int .i64) := by rfl
  have he : Try.prog.plainKey 3 = true := by rfl
  have hs0 : ∀ (k : Nat) (W : World) (x y : Int), (Op.equalIn (k + 1) 3 (.int .i64 x) (.int .i64 y)).run Try.prog W = .ok (decide (x = y)) W := fun k W x y => by
    simp only [Op.equalIn, run_underlying hu, Sem.run_bind, Result.andThen_ok, Sem.run_pure]
    congr 1
  have hs : ∀ (W : World) (x y : Int), (Op.equalIn 9999 3 (.int .i64 x) (.int .i64 y)).run Try.prog W = .ok (decide (x = y)) W := hs0 9998
  have hp : ∀ (W : World) (xs : Array Value) (o : Nat) (v : Value), xs[o]? = some v → (part 3 xs o).run Try.prog W = .ok v W := fun W xs o v h => run_part_plain W he h
  rw [run_equalIn_array w 9999 (n := 6) _ _ (by rfl) hi, hc, show List.range 6 = [0, 1, 2, 3, 4, 5] from rfl]
  simp only [Op.eqItems, Sem.run_bind]
  rw [hp w _ _ (.int .i64 a) rfl, Result.andThen_ok, hp w _ _ (.int .i64 0) rfl, Result.andThen_ok, hs, Result.andThen_ok]
  by_cases h0 : ¬ a = 0
  · simp [h0]
  have h0 := Decidable.of_not_not h0
  subst h0
  simp only [decide_true, Bool.not_true, Bool.false_eq_true, if_false, true_and, Sem.run_bind]
  rw [hp w _ _ (.int .i64 b) rfl, Result.andThen_ok, hp w _ _ (.int .i64 0) rfl, Result.andThen_ok, hs, Result.andThen_ok]
  by_cases h0 : ¬ b = 0
  · simp [h0]
  have h0 := Decidable.of_not_not h0
  subst h0
  simp only [decide_true, Bool.not_true, Bool.false_eq_true, if_false, true_and, Sem.run_bind]
  rw [hp w _ _ (.int .i64 c) rfl, Result.andThen_ok, hp w _ _ (.int .i64 0) rfl, Result.andThen_ok, hs, Result.andThen_ok]
  by_cases h0 : ¬ c = 0
  · simp [h0]
  have h0 := Decidable.of_not_not h0
  subst h0
  simp only [decide_true, Bool.not_true, Bool.false_eq_true, if_false, true_and, Sem.run_bind]
  rw [hp w _ _ (.int .i64 d) rfl, Result.andThen_ok, hp w _ _ (.int .i64 0) rfl, Result.andThen_ok, hs, Result.andThen_ok]
  by_cases h0 : ¬ d = 0
  · simp [h0]
  have h0 := Decidable.of_not_not h0
  subst h0
  simp only [decide_true, Bool.not_true, Bool.false_eq_true, if_false, true_and, Sem.run_bind]
  rw [hp w _ _ (.int .i64 e) rfl, Result.andThen_ok, hp w _ _ (.int .i64 0) rfl, Result.andThen_ok, hs, Result.andThen_ok]
  by_cases h0 : ¬ e = 0
  · simp [h0]
  have h0 := Decidable.of_not_not h0
  subst h0
  simp only [decide_true, Bool.not_true, Bool.false_eq_true, if_false, true_and, Sem.run_bind]
  rw [hp w _ _ (.int .i64 f) rfl, Result.andThen_ok, hp w _ _ (.int .i64 0) rfl, Result.andThen_ok, hs, Result.andThen_ok]
  by_cases h0 : f = 0
  · subst h0; simp
  · simp [h0]

def nums (R D X K N E : Int) : Value := .agg #[.int .i64 R, .int .i64 D, .int .i64 X, .int .i64 K, .int .i64 N, .int .i64 E]

set_option maxRecDepth 100000 in
set_option maxHeartbeats 1000000 in
theorem plain1 (p : Option Addr) (m cp : Nat) (R D X K N E : Int) (w : World) (hm : True) :
    Calls Try.prog 36 #[.agg #[.int .i64 1, .slice p m cp, .int .i64 R, .int .i64 D, .int .i64 X, .int .i64 K, .int .i64 N, .int .i64 E]] w fun e w' => e = .returned (.bool (decide (R = 0 ∧ D = 0 ∧ X = 0 ∧ K = 0 ∧ (0 : Int) = 0 ∧ E = 0))) ∧ Below w.heap.size w w' := by
  obtain ⟨b, hb⟩ : ∃ b, decide (R = 0 ∧ D = 0 ∧ X = 0 ∧ K = 0 ∧ (0 : Int) = 0 ∧ E = 0) = b := ⟨_, rfl⟩
  have hE : ∀ W : World, (Op.equalIn 10000 88 (.agg #[.int .i64 (R), .int .i64 (D), .int .i64 (X), .int .i64 (K), .int .i64 0, .int .i64 (E)]) (.agg #[.int .i64 0, .int .i64 0, .int .i64 0, .int .i64 0, .int .i64 0, .int .i64 0])).run Try.prog W = .ok b W := fun W => by rw [eq6, hb]
  rw [hb]
  clear hb
  go_enter Try.func36, Try.ntmps36
  go_wp2
  go_ret
  exact ⟨rfl, by go_grown⟩

set_option maxRecDepth 100000 in
set_option maxHeartbeats 1000000 in
theorem plain2 (p : Option Addr) (m cp : Nat) (R D X K N E : Int) (w : World) (hm : m = 0) :
    Calls Try.prog 36 #[.agg #[.int .i64 2, .slice p m cp, .int .i64 R, .int .i64 D, .int .i64 X, .int .i64 K, .int .i64 N, .int .i64 E]] w fun e w' => e = .returned (.bool (decide ((0 : Int) = 0 ∧ (0 : Int) = 0 ∧ X = 0 ∧ K = 0 ∧ (0 : Int) = 0 ∧ E = 0))) ∧ Below w.heap.size w w' := by
  subst hm
  obtain ⟨b, hb⟩ : ∃ b, decide ((0 : Int) = 0 ∧ (0 : Int) = 0 ∧ X = 0 ∧ K = 0 ∧ (0 : Int) = 0 ∧ E = 0) = b := ⟨_, rfl⟩
  have hE : ∀ W : World, (Op.equalIn 10000 88 (.agg #[.int .i64 0, .int .i64 0, .int .i64 (X), .int .i64 (K), .int .i64 0, .int .i64 (E)]) (.agg #[.int .i64 0, .int .i64 0, .int .i64 0, .int .i64 0, .int .i64 0, .int .i64 0])).run Try.prog W = .ok b W := fun W => by rw [eq6, hb]
  rw [hb]
  clear hb
  go_enter Try.func36, Try.ntmps36
  go_wp2
  go_ret
  exact ⟨rfl, by go_grown⟩

set_option maxRecDepth 100000 in
set_option maxHeartbeats 1000000 in
theorem plain3 (p : Option Addr) (m cp : Nat) (R D X K N E : Int) (w : World) (hm : m = 0) :
    Calls Try.prog 36 #[.agg #[.int .i64 3, .slice p m cp, .int .i64 R, .int .i64 D, .int .i64 X, .int .i64 K, .int .i64 N, .int .i64 E]] w fun e w' => e = .returned (.bool (decide (R = 0 ∧ D = 0 ∧ (0 : Int) = 0 ∧ (0 : Int) = 0 ∧ (0 : Int) = 0 ∧ (0 : Int) = 0))) ∧ Below w.heap.size w w' := by
  subst hm
  obtain ⟨b, hb⟩ : ∃ b, decide (R = 0 ∧ D = 0 ∧ (0 : Int) = 0 ∧ (0 : Int) = 0 ∧ (0 : Int) = 0 ∧ (0 : Int) = 0) = b := ⟨_, rfl⟩
  have hE : ∀ W : World, (Op.equalIn 10000 88 (.agg #[.int .i64 (R), .int .i64 (D), .int .i64 0, .int .i64 0, .int .i64 0, .int .i64 0]) (.agg #[.int .i64 0, .int .i64 0, .int .i64 0, .int .i64 0, .int .i64 0, .int .i64 0])).run Try.prog W = .ok b W := fun W => by rw [eq6, hb]
  rw [hb]
  clear hb
  go_enter Try.func36, Try.ntmps36
  go_wp2
  go_ret
  exact ⟨rfl, by go_grown⟩

set_option maxRecDepth 100000 in
set_option maxHeartbeats 1000000 in
theorem plain4 (p : Option Addr) (m cp : Nat) (R D X K N E : Int) (w : World) (hm : m = 0) :
    Calls Try.prog 36 #[.agg #[.int .i64 4, .slice p m cp, .int .i64 R, .int .i64 D, .int .i64 X, .int .i64 K, .int .i64 N, .int .i64 E]] w fun e w' => e = .returned (.bool (decide (R = 0 ∧ D = 0 ∧ X = 0 ∧ K = 0 ∧ N = 0 ∧ E = 0))) ∧ Below w.heap.size w w' := by
  subst hm
  obtain ⟨b, hb⟩ : ∃ b, decide (R = 0 ∧ D = 0 ∧ X = 0 ∧ K = 0 ∧ N = 0 ∧ E = 0) = b := ⟨_, rfl⟩
  have hE : ∀ W : World, (Op.equalIn 10000 88 (.agg #[.int .i64 (R), .int .i64 (D), .int .i64 (X), .int .i64 (K), .int .i64 (N), .int .i64 (E)]) (.agg #[.int .i64 0, .int .i64 0, .int .i64 0, .int .i64 0, .int .i64 0, .int .i64 0])).run Try.prog W = .ok b W := fun W => by rw [eq6, hb]
  rw [hb]
  clear hb
  go_enter Try.func36, Try.ntmps36
  go_wp2
  go_ret
  exact ⟨rfl, by go_grown⟩

set_option maxRecDepth 100000 in
set_option maxHeartbeats 1000000 in
theorem plain2no (p : Option Addr) (m cp : Nat) (R D X K N E : Int) (w : World) (hm : ¬ m = 0) :
    Calls Try.prog 36 #[.agg #[.int .i64 2, .slice p m cp, .int .i64 R, .int .i64 D, .int .i64 X, .int .i64 K, .int .i64 N, .int .i64 E]] w fun e w' => e = .returned (.bool false) ∧ Below w.heap.size w w' := by
  go_enter Try.func36, Try.ntmps36
  go_wp2
  go_ret
  exact ⟨rfl, by go_grown⟩

set_option maxRecDepth 100000 in
set_option maxHeartbeats 1000000 in
theorem plain3no (p : Option Addr) (m cp : Nat) (R D X K N E : Int) (w : World) (hm : ¬ m = 0) :
    Calls Try.prog 36 #[.agg #[.int .i64 3, .slice p m cp, .int .i64 R, .int .i64 D, .int .i64 X, .int .i64 K, .int .i64 N, .int .i64 E]] w fun e w' => e = .returned (.bool false) ∧ Below w.heap.size w w' := by
  go_enter Try.func36, Try.ntmps36
  go_wp2
  go_ret
  exact ⟨rfl, by go_grown⟩

set_option maxRecDepth 100000 in
set_option maxHeartbeats 1000000 in
theorem plain4no (p : Option Addr) (m cp : Nat) (R D X K N E : Int) (w : World) (hm : ¬ m = 0) :
    Calls Try.prog 36 #[.agg #[.int .i64 4, .slice p m cp, .int .i64 R, .int .i64 D, .int .i64 X, .int .i64 K, .int .i64 N, .int .i64 E]] w fun e w' => e = .returned (.bool false) ∧ Below w.heap.size w w' := by
  go_enter Try.func36, Try.ntmps36
  go_wp2
  go_ret
  exact ⟨rfl, by go_grown⟩

set_option maxRecDepth 100000 in
set_option maxHeartbeats 1000000 in
theorem plain_else (k : Int) (p : Option Addr) (m cp : Nat) (R D X K N E : Int) (w : World) (h1 : ¬ k = 1) (h2 : ¬ k = 2) (h3 : ¬ k = 3) (h4 : ¬ k = 4) :
    Calls Try.prog 36 #[.agg #[.int .i64 k, .slice p m cp, .int .i64 R, .int .i64 D, .int .i64 X, .int .i64 K, .int .i64 N, .int .i64 E]] w fun e w' => e = .returned (.bool false) ∧ Below w.heap.size w w' := by
  have d1 : (k == 1) = false := by rw [beq_eq_false_iff_ne]; exact h1
  have d2 : (k == 2) = false := by rw [beq_eq_false_iff_ne]; exact h2
  have d3 : (k == 3) = false := by rw [beq_eq_false_iff_ne]; exact h3
  have d4 : (k == 4) = false := by rw [beq_eq_false_iff_ne]; exact h4
  go_enter Try.func36, Try.ntmps36
  go_wp2
  go_ret
  exact ⟨rfl, by go_grown⟩

theorem plain_any (u : Value) (t : Sp) (w : World) (hu : IsI w u t.M) :
    Calls Try.prog 36 #[.agg #[.int .i64 t.k, u, .int .i64 t.R, .int .i64 t.D, .int .i64 t.X, .int .i64 t.K, .int .i64 t.N, .int .i64 t.E]] w fun e w' => e = .returned (.bool (plainB t)) ∧ Below w.heap.size w w' := by
  obtain ⟨p, cp, rfl, hcp⟩ := hu.shape
  obtain ⟨k, M, R, D, X, K, N, E⟩ := t
  simp only at *
  clear hu
  have hz : M.length = 0 ↔ M = [] := List.length_eq_zero_iff
  by_cases h1 : k = 1
  · subst h1
    refine (plain1 p M.length cp R D X K N E w trivial).mono fun e w' h => ⟨?_, h.2⟩
    rw [h.1]
    simp [plainB]
  by_cases h2 : k = 2
  · subst h2
    by_cases hm : M.length = 0
    · refine (plain2 p M.length cp R D X K N E w hm).mono fun e w' h => ⟨?_, h.2⟩
      rw [h.1]
      simp [plainB, hz.1 hm]
    · refine (plain2no p M.length cp R D X K N E w hm).mono fun e w' h => ⟨?_, h.2⟩
      rw [h.1]
      simp [plainB, mt hz.2 hm]
  by_cases h3 : k = 3
  · subst h3
    by_cases hm : M.length = 0
    · refine (plain3 p M.length cp R D X K N E w hm).mono fun e w' h => ⟨?_, h.2⟩
      rw [h.1]
      simp [plainB, hz.1 hm]
    · refine (plain3no p M.length cp R D X K N E w hm).mono fun e w' h => ⟨?_, h.2⟩
      rw [h.1]
      simp [plainB, mt hz.2 hm]
  by_cases h4 : k = 4
  · subst h4
    by_cases hm : M.length = 0
    · refine (plain4 p M.length cp R D X K N E w hm).mono fun e w' h => ⟨?_, h.2⟩
      rw [h.1]
      simp [plainB, hz.1 hm]
    · refine (plain4no p M.length cp R D X K N E w hm).mono fun e w' h => ⟨?_, h.2⟩
      rw [h.1]
      simp [plainB, mt hz.2 hm]
  refine (plain_else k p M.length cp R D X K N E w h1 h2 h3 h4).mono fun e w' h => ⟨?_, h.2⟩
  rw [h.1]
  simp [plainB, h1, h2, h3, h4]
end Go.Proofs.Ytmhhfommgdljkaa
