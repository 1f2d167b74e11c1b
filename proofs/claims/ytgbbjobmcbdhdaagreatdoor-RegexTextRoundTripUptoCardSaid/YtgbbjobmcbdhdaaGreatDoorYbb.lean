/-
  Texts of the proof, one behind another: Fk, Fl.
-/
import Derived.Test.YtgbbjobmcbdhdaaGreatDoorYaj
import Derived.Test.YtgbbjobmcbdhdaaGreatDoorYba
set_option linter.unusedSimpArgs false
set_option linter.unusedVariables false
/-
  Walks: the text of any byte.
-/
namespace Go.Proofs.YtgbbjobmcbdhdaaGreatDoor
open Go.RowKit Go.Shelf Go.Lib

theorem hex_at : ∀ v : Fin 16, (⟨#[48, 49, 50, 51, 52, 53, 54, 55, 56, 57, 97, 98, 99, 100, 101, 102]⟩ : ByteArray).extract v.1 (v.1 + 1) = ⟨#[hexD v.1]⟩ := by decide +kernel
theorem hex_two (a b : Nat) (ha : a < 16) (hb : b < 16) : ((⟨#[92, 120]⟩ : ByteArray) ++ (⟨#[48, 49, 50, 51, 52, 53, 54, 55, 56, 57, 97, 98, 99, 100, 101, 102]⟩ : ByteArray).extract a (a + 1) ++
    (⟨#[48, 49, 50, 51, 52, 53, 54, 55, 56, 57, 97, 98, 99, 100, 101, 102]⟩ : ByteArray).extract b (b + 1)) = ⟨[92, 120, hexD a, hexD b].toArray⟩ := by
  rw [hex_at ⟨a, ha⟩, hex_at ⟨b, hb⟩]
  apply ByteArray.ext
  simp
theorem utf8_ascii : ∀ y : Fin 127, (Utf8.encode (y.1 : Int)) = ⟨#[UInt8.ofNat y.1]⟩ := by decide +kernel
theorem plain_lt {y : Nat} (hy : y < 256) (h : plainB (UInt8.ofNat y) = true) : y < 127 := by
  have : ∀ z : Fin 256, plainB (UInt8.ofNat z.1) = true → z.1 < 127 := by decide +kernel
  exact this ⟨y, hy⟩ h
set_option maxRecDepth 100000 in
set_option maxHeartbeats 1000000 in
theorem char_plain (y : Nat) (hy : y < 256) (hpl : plainB (UInt8.ofNat y) = true) (W : World) : Calls Tryz.prog 75 #[.int .u8 (y : Int)] W fun e W' => e = .returned (.string ⟨(charT y).toArray⟩) ∧ Below W.heap.size W W' := by
  have hp : ∀ w, Calls Tryz.prog 101 #[.int .u8 (y : Int)] w fun e W' => e = .returned (.bool true) ∧ W' = w := fun w => by
    have h := plain_any (UInt8.ofNat y) w
    rw [hpl, ofNat_toNat hy] at h
    exact h
  go_enter Tryz.func75, Tryz.ntmps75
  go_wp2_with (go_at_call 101; refine (hp _).mono ?_; rintro e w' ⟨rfl, rfl⟩)
  go_ret
  refine ⟨?_, Below.refl _ _⟩
  have h127 : y < 127 := plain_lt hy hpl
  rw [charT_of hpl]
  exact congrArg (fun s => Ending.returned (.string s)) (utf8_ascii ⟨y, h127⟩)
set_option maxRecDepth 100000 in
set_option maxHeartbeats 1000000 in
theorem char_hex (y : Nat) (hy : y < 256) (hpl : plainB (UInt8.ofNat y) = false) (W : World) : Calls Tryz.prog 75 #[.int .u8 (y : Int)] W fun e W' => e = .returned (.string ⟨(charT y).toArray⟩) ∧ Below W.heap.size W W' := by
  have hp : ∀ w, Calls Tryz.prog 101 #[.int .u8 (y : Int)] w fun e W' => e = .returned (.bool false) ∧ W' = w := fun w => by
    have h := plain_any (UInt8.ofNat y) w
    rw [hpl, ofNat_toNat hy] at h
    exact h
  go_enter Tryz.func75, Tryz.ntmps75
  go_wp2_with (go_at_call 101; refine (hp _).mono ?_; rintro e w' ⟨rfl, rfl⟩)
  go_quiet (fail)
  go_wp2
  go_ret
  refine ⟨?_, below_drews' (Below.refl _ _) _⟩
  rw [charT_hex hpl]
  exact congrArg (fun s => Ending.returned (.string s)) (hex_two (y / 16) (y % 16) (by omega) (by omega))
theorem chtext_any (y : Nat) (hy : y < 256) (W : World) : Calls Tryz.prog 75 #[.int .u8 (y : Int)] W fun e W' => e = .returned (.string ⟨(charT y).toArray⟩) ∧ Below W.heap.size W W' := by
  cases hpl : plainB (UInt8.ofNat y)
  · exact char_hex y hy hpl W
  · exact char_plain y hy hpl W
end Go.Proofs.YtgbbjobmcbdhdaaGreatDoor

/-
  Walks: the text of any run of bytes.
-/
namespace Go.Proofs.YtgbbjobmcbdhdaaGreatDoor
open Go.RowKit Go.Shelf Go.Lib

/-- a text of these bytes. -/
def bs (l : List UInt8) : ByteArray := ⟨l.toArray⟩
theorem bs_size (l : List UInt8) : (bs l).size = l.length := rfl
theorem bs_app (l m : List UInt8) : bs l ++ bs m = bs (l ++ m) := by
  apply ByteArray.ext
  simp [bs]
theorem char_bs (y : Nat) (hy : y < 256) (W : World) : Calls Tryz.prog 75 #[.int .u8 (y : Int)] W fun e W' => e = .returned (.string (bs (charT y))) ∧ Below W.heap.size W W' := chtext_any y hy W
theorem ret_bs {T : ByteArray} {l : List UInt8} (h : T = bs l) : Ending.returned (.string T) = .returned (.string (bs l)) := by rw [h]

set_option maxRecDepth 100000 in
set_option maxHeartbeats 1000000 in
theorem run_any (a b : Nat) (hab : a ≤ b) (hb : b < 256) (W : World) : Calls Tryz.prog 76 #[.int .u8 (a : Int), .int .u8 (b : Int)] W fun e W' => e = .returned (.string (bs (runT (a, b)))) ∧ Below W.heap.size W W' := by
  have HA := Lib.hid (fun w => char_bs a (by omega) w)
  have HB := Lib.hid (fun w => char_bs b hb w)
  obtain ⟨A, hA⟩ : ∃ A, bs (charT a) = A := ⟨_, rfl⟩
  obtain ⟨B, hB⟩ : ∃ B, bs (charT b) = B := ⟨_, rfl⟩
  have hA4 : A.size ≤ 4 := by rw [← hA, bs_size]; exact (charT_len a).2
  have hB4 : B.size ≤ 4 := by rw [← hB, bs_size]; exact (charT_len b).2
  rw [hA] at HA
  rw [hB] at HB
  have HR := Lib.hid (And.intro hA hB)
  have hw : IntKind.u8.wrap ((b : Int) - (a : Int)) = ((b - a : Nat) : Int) := by rw [IntKind.wrap_u8]; omega
  by_cases h0 : b = a
  · subst h0
    have t0 : IntKind.u8.wrap ((b : Int) - (b : Int)) = 0 := by rw [Int.sub_self]; rfl
    have hr : runT (b, b) = charT b := by unfold runT; rw [if_pos rfl]
    rw [hr, hA]
    clear hA hB
    go_enter Tryz.func76, Tryz.ntmps76
    go_wp2_with (go_at_call 75; refine (HA.out _).mono ?_; rintro e W1 ⟨rfl, hb1⟩)
    go_ret
    exact ⟨rfl, hb1⟩
  · obtain ⟨d, hd⟩ : ∃ d, d = b - a := ⟨_, rfl⟩
    rw [← hd] at hw
    have t0 : ((d : Int) == 0) = false := by rw [beq_eq_false_iff_ne]; omega
    by_cases h1 : b = a + 1
    · have t1 : ((d : Int) == 1) = true := by rw [beq_iff_eq]; omega
      have hr : bs (runT (a, b)) = A ++ B := by unfold runT; rw [if_neg h0, if_pos h1, ← bs_app, hA, hB]
      rw [hr]
      clear hA hB hr hd h0 h1
      go_enter Tryz.func76, Tryz.ntmps76
      go_wp2_with fail
      refine (HA.out _).mono ?_
      rintro e W1 ⟨rfl, hb1⟩
      go_wp2_with fail
      refine (HB.out _).mono ?_
      rintro e W2 ⟨rfl, hb2⟩
      go_wp2_with fail
      go_ret
      exact ⟨rfl, hb1.trans (hb2.mono hb1.size)⟩
    · have t1 : ((d : Int) == 1) = false := by rw [beq_eq_false_iff_ne]; omega
      have hr : bs (runT (a, b)) = A ++ ⟨#[45]⟩ ++ B := by
        unfold runT
        rw [if_neg h0, if_neg h1, ← hA, ← hB, show (⟨#[45]⟩ : ByteArray) = bs [45] from rfl, bs_app, bs_app]
        simp
      have h45 : (⟨#[45]⟩ : ByteArray).size = 1 := rfl
      rw [hr]
      clear hA hB hr hd h0 h1
      go_enter Tryz.func76, Tryz.ntmps76
      go_wp2_with fail
      refine (HA.out _).mono ?_
      rintro e W1 ⟨rfl, hb1⟩
      go_wp2_with fail
      refine (HB.out _).mono ?_
      rintro e W2 ⟨rfl, hb2⟩
      go_wp2_with fail
      go_ret
      exact ⟨rfl, hb1.trans (hb2.mono hb1.size)⟩
end Go.Proofs.YtgbbjobmcbdhdaaGreatDoor
