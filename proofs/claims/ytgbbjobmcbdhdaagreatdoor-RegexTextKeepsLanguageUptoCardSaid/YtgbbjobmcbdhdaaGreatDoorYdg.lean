/-
  Texts of the proof, one behind another: Sb.
-/
import Derived.Test.YtgbbjobmcbdhdaaGreatDoorYdb
import Derived.Test.YtgbbjobmcbdhdaaGreatDoorYdf
set_option linter.unusedSimpArgs false
set_option linter.unusedVariables false
/-
  Walks: parsed and refused.
-/
namespace Go.Proofs.YtgbbjobmcbdhdaaGreatDoor
open Go.RowKit Go.Shelf Go.Lib

theorem parse_len {s : List UInt8} {f : Nat} {ys : List Nd} (h : parseS s f = some (.ok ys)) : ys.length ≤ 200 := by
  unfold parseS at h
  split at h
  · cases h
  · split at h
    · cases h
    · cases h
    · split at h
      · cases h
      · split at h
        · cases h
        · simp only [Option.some.injEq, Except.ok.injEq] at h
          subst h
          omega
set_option maxRecDepth 100000 in
set_option maxHeartbeats 1000000 in
theorem parsed_ok (s : ByteArray) (hs : s.size ≤ 4000) (f : Nat) (ys : List Nd) (hr : parseS (L s) f = some (.ok ys)) (v : Value) (xs : List Nd) (W : World) (hv : IsX W v xs) (hlx : xs.length ≤ 1099511627776) :
    Calls Tryz.prog 27 #[.string s, v] W fun e W' => e = .returned (.bool (sameN xs ys)) ∧ Below W.heap.size W W' := by
  have HP := Lib.hid (parse_any s W hs f _ hr)
  have hyl := parse_len hr
  have HV := Lib.hid hv
  obtain ⟨p, c, rfl⟩ := hv.shape
  clear hr hv
  go_enter Tryz.func27, Tryz.ntmps27
  go_wp2_with (first | (go_at_call 23; refine HP.out.mono ?_; rintro e W1 ⟨⟨u, rfl, hown⟩, hb1⟩; obtain ⟨pu, cu, rfl⟩ := own_shape hown) | (go_at_call 25; refine (rsame_any _ _ xs ys _ (HV.out.grows hb1) (own_isX hown) hlx (by omega)).mono ?_; rintro e W2 ⟨rfl, hb2⟩))
  go_returns
  exact ⟨rfl, hb1.trans (hb2.mono hb1.size)⟩
theorem parsed_eq (s : ByteArray) (hs : s.size ≤ 4000) (f : Nat) (ys : List Nd) (hr : parseS (L s) f = some (.ok ys)) (v : Value) (W : World) (hv : IsX W v ys) :
    Calls Tryz.prog 27 #[.string s, v] W fun e W' => e = .returned (.bool true) ∧ Below W.heap.size W W' := by
  have h := parsed_ok s hs f ys hr v ys W hv (by have := parse_len hr; omega)
  rw [show sameN ys ys = true from decide_eq_true rfl] at h
  exact h
set_option maxRecDepth 100000 in
set_option maxHeartbeats 1000000 in
theorem refused_at (s : ByteArray) (hs : s.size ≤ 4000) (f : Nat) (q : Nat) (er : Int) (hr : parseS (L s) f = some (.error (q, er))) (W : World) :
    Calls Tryz.prog 33 #[.string s, .int .i64 er, .int .i64 (q : Int)] W fun e W' => e = .returned (.bool true) ∧ Below W.heap.size W W' := by
  have HP := Lib.hid (parse_any s W hs f _ hr)
  clear hr
  go_enter Tryz.func33, Tryz.ntmps33
  go_wp2_with (go_at_call 23; refine HP.out.mono ?_; rintro e W1 ⟨rfl, hb1⟩)
  go_returns
  exact ⟨rfl, hb1⟩
end Go.Proofs.YtgbbjobmcbdhdaaGreatDoor
