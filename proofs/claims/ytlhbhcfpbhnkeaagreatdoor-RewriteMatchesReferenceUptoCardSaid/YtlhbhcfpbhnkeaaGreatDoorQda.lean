/-
  Texts of the proof, one behind another: Zs.
-/
import Derived.Test.YtlhbhcfpbhnkeaaGreatDoorQci
set_option linter.unusedSimpArgs false
set_option linter.unusedVariables false
namespace Go.Proofs.YtlhbhcfpbhnkeaaGreatDoor
open Go.RowKit Go.Lib

set_option maxRecDepth 100000 in
theorem pv_any (v : Value) (k : Int) (old new : List Int) (w : World) (hv : IsOp w v k old new) (ho : old.length ≤ 140737488351232) (hn : new.length ≤ 140737488351232) :
    Calls Tryz.prog 16 #[v] w fun e w' => e = .returned (.int .i64 (errI (valI k old new))) ∧ Below w.heap.size w w' := by
  by_cases hk : 1 ≤ k ∧ k ≤ 8
  · have hcases : k = 1 ∨ k = 2 ∨ k = 3 ∨ k = 4 ∨ k = 5 ∨ k = 6 ∨ k = 7 ∨ k = 8 := by omega
    rcases hcases with rfl | rfl | rfl | rfl | rfl | rfl | rfl | rfl
    · rw [show valI 1 old new = decide (0 ≤ old.length ∧ old.length ≤ 0 ∧ new.length ≤ 0) from (valI_1 _ _ _ (by omega)).trans len_iff0]
      exact pv_gen 1 0 0 0 87 88 (fun bl _ _ _ _ _ => #[.pointer (some ⟨bl, 0, none⟩)]) (fun bl _ _ _ _ _ => #[.pointer (some ⟨bl, 0, none⟩)]) v old new w hv (by omega) (by omega) (fun _ _ _ _ _ _ => ⟨rfl, rfl, rfl, rfl, rfl⟩) (by omega) (by omega) (by omega) ho hn
    · rw [show valI 2 old new = decide (0 ≤ old.length ∧ old.length ≤ 0 ∧ new.length ≤ 0) from (valI_1 _ _ _ (by omega)).trans len_iff0]
      exact pv_gen 2 0 0 0 87 88 (fun _ bu _ _ _ _ => #[.pointer (some ⟨bu, 0, none⟩)]) (fun _ bu _ _ _ _ => #[.pointer (some ⟨bu, 0, none⟩)]) v old new w hv (by omega) (by omega) (fun _ _ _ _ _ _ => ⟨rfl, rfl, rfl, rfl, rfl⟩) (by omega) (by omega) (by omega) ho hn
    · rw [show valI 3 old new = decide (0 ≤ old.length ∧ old.length ≤ 0 ∧ new.length ≤ 0) from (valI_1 _ _ _ (by omega)).trans len_iff0]
      exact pv_gen 3 0 0 0 96 98 (fun _ _ p1 _ _ _ => #[.pointer (some ⟨p1, 0, none⟩)]) (fun _ _ p1 _ _ _ => #[.pointer (some ⟨p1, 0, none⟩)]) v old new w hv (by omega) (by omega) (fun _ _ _ _ _ _ => ⟨rfl, rfl, rfl, rfl, rfl⟩) (by omega) (by omega) (by omega) ho hn
    · rw [show valI 4 old new = decide (0 ≤ old.length ∧ old.length ≤ 0 ∧ new.length ≤ 0) from (valI_1 _ _ _ (by omega)).trans len_iff0]
      exact pv_gen 4 0 0 0 96 98 (fun _ _ _ p2 _ _ => #[.pointer (some ⟨p2, 0, none⟩)]) (fun _ _ _ p2 _ _ => #[.pointer (some ⟨p2, 0, none⟩)]) v old new w hv (by omega) (by omega) (fun _ _ _ _ _ _ => ⟨rfl, rfl, rfl, rfl, rfl⟩) (by omega) (by omega) (by omega) ho hn
    · rw [show valI 5 old new = decide (1 ≤ old.length ∧ old.length ≤ 4 ∧ new.length ≤ 4) from valI_5 _ _ _ (by omega)]
      exact pv_gen 5 1 4 4 100 102 (fun _ _ _ _ r1 _ => #[.pointer (some ⟨r1, 0, none⟩)]) (fun _ _ _ _ r1 _ => #[.pointer (some ⟨r1, 0, none⟩)]) v old new w hv (by omega) (by omega) (fun _ _ _ _ _ _ => ⟨rfl, rfl, rfl, rfl, rfl⟩) (by omega) (by omega) (by omega) ho hn
    · rw [show valI 6 old new = decide (1 ≤ old.length ∧ old.length ≤ 4 ∧ new.length ≤ 4) from valI_5 _ _ _ (by omega)]
      exact pv_gen 6 1 4 4 100 102 (fun _ _ _ _ _ r2 => #[.pointer (some ⟨r2, 0, none⟩)]) (fun _ _ _ _ _ r2 => #[.pointer (some ⟨r2, 0, none⟩)]) v old new w hv (by omega) (by omega) (fun _ _ _ _ _ _ => ⟨rfl, rfl, rfl, rfl, rfl⟩) (by omega) (by omega) (by omega) ho hn
    · rw [show valI 7 old new = decide (1 ≤ old.length ∧ old.length ≤ 8 ∧ new.length ≤ 0) from (valI_7 _ _).trans (decide_eq_decide.2 (by omega))]
      exact pv_gen 7 1 8 0 105 107 (fun _ _ _ _ _ _ => #[]) (fun _ _ _ _ _ _ => #[]) v old new w hv (by omega) (by omega) (fun _ _ _ _ _ _ => ⟨rfl, rfl, rfl, rfl, rfl⟩) (by omega) (by omega) (by omega) ho hn
    · rw [show valI 8 old new = decide (1 ≤ old.length ∧ old.length ≤ 1 ∧ new.length ≤ 0) from (valI_8 _ _).trans (decide_eq_decide.2 (by omega))]
      exact pv_gen 8 1 1 0 109 110 (fun _ _ _ _ _ _ => #[]) (fun _ _ _ _ _ _ => #[]) v old new w hv (by omega) (by omega) (fun _ _ _ _ _ _ => ⟨rfl, rfl, rfl, rfl, rfl⟩) (by omega) (by omega) (by omega) ho hn
  · rw [valI_no k old new hk]
    exact pv_bad v k old new w hv hk
set_option maxRecDepth 100000 in
theorem mach_inv (v : Value) (k : Int) (old new : List Int) (w : World) (hv : IsOp w v k old new) (ho : old.length ≤ 140737488351232) (hn : new.length ≤ 140737488351232) (hval : valI k old new = false) :
    Calls Tryz.prog 22 #[v] w fun e w' => e = .returned (.tuple #[zeroT, .int .i64 1]) ∧ Below w.heap.size w w' := by
  by_cases hk : 1 ≤ k ∧ k ≤ 8
  · have hcases : k = 1 ∨ k = 2 ∨ k = 3 ∨ k = 4 ∨ k = 5 ∨ k = 6 ∨ k = 7 ∨ k = 8 := by omega
    rcases hcases with rfl | rfl | rfl | rfl | rfl | rfl | rfl | rfl
    · rw [show valI 1 old new = decide (0 ≤ old.length ∧ old.length ≤ 0 ∧ new.length ≤ 0) from (valI_1 _ _ _ (by omega)).trans len_iff0, decide_eq_false_iff_not] at hval
      exact mach_no 1 0 0 0 87 88 (fun bl _ _ _ _ _ => #[.pointer (some ⟨bl, 0, none⟩)]) (fun bl _ _ _ _ _ => #[.pointer (some ⟨bl, 0, none⟩)]) v old new w hv (by omega) (by omega) (fun _ _ _ _ _ _ => ⟨rfl, rfl, rfl, rfl, rfl⟩) (by omega) (by omega) (by omega) ho hn hval
    · rw [show valI 2 old new = decide (0 ≤ old.length ∧ old.length ≤ 0 ∧ new.length ≤ 0) from (valI_1 _ _ _ (by omega)).trans len_iff0, decide_eq_false_iff_not] at hval
      exact mach_no 2 0 0 0 87 88 (fun _ bu _ _ _ _ => #[.pointer (some ⟨bu, 0, none⟩)]) (fun _ bu _ _ _ _ => #[.pointer (some ⟨bu, 0, none⟩)]) v old new w hv (by omega) (by omega) (fun _ _ _ _ _ _ => ⟨rfl, rfl, rfl, rfl, rfl⟩) (by omega) (by omega) (by omega) ho hn hval
    · rw [show valI 3 old new = decide (0 ≤ old.length ∧ old.length ≤ 0 ∧ new.length ≤ 0) from (valI_1 _ _ _ (by omega)).trans len_iff0, decide_eq_false_iff_not] at hval
      exact mach_no 3 0 0 0 96 98 (fun _ _ p1 _ _ _ => #[.pointer (some ⟨p1, 0, none⟩)]) (fun _ _ p1 _ _ _ => #[.pointer (some ⟨p1, 0, none⟩)]) v old new w hv (by omega) (by omega) (fun _ _ _ _ _ _ => ⟨rfl, rfl, rfl, rfl, rfl⟩) (by omega) (by omega) (by omega) ho hn hval
    · rw [show valI 4 old new = decide (0 ≤ old.length ∧ old.length ≤ 0 ∧ new.length ≤ 0) from (valI_1 _ _ _ (by omega)).trans len_iff0, decide_eq_false_iff_not] at hval
      exact mach_no 4 0 0 0 96 98 (fun _ _ _ p2 _ _ => #[.pointer (some ⟨p2, 0, none⟩)]) (fun _ _ _ p2 _ _ => #[.pointer (some ⟨p2, 0, none⟩)]) v old new w hv (by omega) (by omega) (fun _ _ _ _ _ _ => ⟨rfl, rfl, rfl, rfl, rfl⟩) (by omega) (by omega) (by omega) ho hn hval
    · rw [show valI 5 old new = decide (1 ≤ old.length ∧ old.length ≤ 4 ∧ new.length ≤ 4) from valI_5 _ _ _ (by omega), decide_eq_false_iff_not] at hval
      exact mach_no 5 1 4 4 100 102 (fun _ _ _ _ r1 _ => #[.pointer (some ⟨r1, 0, none⟩)]) (fun _ _ _ _ r1 _ => #[.pointer (some ⟨r1, 0, none⟩)]) v old new w hv (by omega) (by omega) (fun _ _ _ _ _ _ => ⟨rfl, rfl, rfl, rfl, rfl⟩) (by omega) (by omega) (by omega) ho hn hval
    · rw [show valI 6 old new = decide (1 ≤ old.length ∧ old.length ≤ 4 ∧ new.length ≤ 4) from valI_5 _ _ _ (by omega), decide_eq_false_iff_not] at hval
      exact mach_no 6 1 4 4 100 102 (fun _ _ _ _ _ r2 => #[.pointer (some ⟨r2, 0, none⟩)]) (fun _ _ _ _ _ r2 => #[.pointer (some ⟨r2, 0, none⟩)]) v old new w hv (by omega) (by omega) (fun _ _ _ _ _ _ => ⟨rfl, rfl, rfl, rfl, rfl⟩) (by omega) (by omega) (by omega) ho hn hval
    · rw [show valI 7 old new = decide (1 ≤ old.length ∧ old.length ≤ 8 ∧ new.length ≤ 0) from (valI_7 _ _).trans (decide_eq_decide.2 (by omega)), decide_eq_false_iff_not] at hval
      exact mach_no 7 1 8 0 105 107 (fun _ _ _ _ _ _ => #[]) (fun _ _ _ _ _ _ => #[]) v old new w hv (by omega) (by omega) (fun _ _ _ _ _ _ => ⟨rfl, rfl, rfl, rfl, rfl⟩) (by omega) (by omega) (by omega) ho hn hval
    · rw [show valI 8 old new = decide (1 ≤ old.length ∧ old.length ≤ 1 ∧ new.length ≤ 0) from (valI_8 _ _).trans (decide_eq_decide.2 (by omega)), decide_eq_false_iff_not] at hval
      exact mach_no 8 1 1 0 109 110 (fun _ _ _ _ _ _ => #[]) (fun _ _ _ _ _ _ => #[]) v old new w hv (by omega) (by omega) (fun _ _ _ _ _ _ => ⟨rfl, rfl, rfl, rfl, rfl⟩) (by omega) (by omega) (by omega) ho hn hval
  · exact mach_bad v k old new w hv hk
set_option maxRecDepth 100000 in
theorem do_bad8 (v u : Value) (k : Int) (old new b : List Int) (w : World) (hv : IsOp w v k old new) (hu : IsY w u b) (ho : old.length ≤ 140737488351232) (hn : new.length ≤ 140737488351232) (hval : valI k old new = false) :
    Calls Tryz.prog 14 #[v, u] w (DoRes w none) := by
  by_cases hk : 1 ≤ k ∧ k ≤ 8
  · have hcases : k = 1 ∨ k = 2 ∨ k = 3 ∨ k = 4 ∨ k = 5 ∨ k = 6 ∨ k = 7 ∨ k = 8 := by omega
    rcases hcases with rfl | rfl | rfl | rfl | rfl | rfl | rfl | rfl
    · rw [show valI 1 old new = decide (0 ≤ old.length ∧ old.length ≤ 0 ∧ new.length ≤ 0) from (valI_1 _ _ _ (by omega)).trans len_iff0, decide_eq_false_iff_not] at hval
      have hd := do_gen 1 0 0 0 87 88 (fun bl _ _ _ _ _ => #[.pointer (some ⟨bl, 0, none⟩)]) (fun bl _ _ _ _ _ => #[.pointer (some ⟨bl, 0, none⟩)]) v u old new b none w hv hu (by omega) (by omega) (fun _ _ _ _ _ _ => ⟨rfl, rfl, rfl, rfl, rfl⟩) (by omega) (by omega) (by omega) ho hn (enters_of Tryz.func87 (by kernel_rfl) rfl) (fun h1 h2 h3 => absurd ⟨h1, h2, h3⟩ hval)
      rw [if_neg hval] at hd
      exact hd
    · rw [show valI 2 old new = decide (0 ≤ old.length ∧ old.length ≤ 0 ∧ new.length ≤ 0) from (valI_1 _ _ _ (by omega)).trans len_iff0, decide_eq_false_iff_not] at hval
      have hd := do_gen 2 0 0 0 87 88 (fun _ bu _ _ _ _ => #[.pointer (some ⟨bu, 0, none⟩)]) (fun _ bu _ _ _ _ => #[.pointer (some ⟨bu, 0, none⟩)]) v u old new b none w hv hu (by omega) (by omega) (fun _ _ _ _ _ _ => ⟨rfl, rfl, rfl, rfl, rfl⟩) (by omega) (by omega) (by omega) ho hn (enters_of Tryz.func87 (by kernel_rfl) rfl) (fun h1 h2 h3 => absurd ⟨h1, h2, h3⟩ hval)
      rw [if_neg hval] at hd
      exact hd
    · rw [show valI 3 old new = decide (0 ≤ old.length ∧ old.length ≤ 0 ∧ new.length ≤ 0) from (valI_1 _ _ _ (by omega)).trans len_iff0, decide_eq_false_iff_not] at hval
      have hd := do_gen 3 0 0 0 96 98 (fun _ _ p1 _ _ _ => #[.pointer (some ⟨p1, 0, none⟩)]) (fun _ _ p1 _ _ _ => #[.pointer (some ⟨p1, 0, none⟩)]) v u old new b none w hv hu (by omega) (by omega) (fun _ _ _ _ _ _ => ⟨rfl, rfl, rfl, rfl, rfl⟩) (by omega) (by omega) (by omega) ho hn (enters_of Tryz.func96 (by kernel_rfl) rfl) (fun h1 h2 h3 => absurd ⟨h1, h2, h3⟩ hval)
      rw [if_neg hval] at hd
      exact hd
    · rw [show valI 4 old new = decide (0 ≤ old.length ∧ old.length ≤ 0 ∧ new.length ≤ 0) from (valI_1 _ _ _ (by omega)).trans len_iff0, decide_eq_false_iff_not] at hval
      have hd := do_gen 4 0 0 0 96 98 (fun _ _ _ p2 _ _ => #[.pointer (some ⟨p2, 0, none⟩)]) (fun _ _ _ p2 _ _ => #[.pointer (some ⟨p2, 0, none⟩)]) v u old new b none w hv hu (by omega) (by omega) (fun _ _ _ _ _ _ => ⟨rfl, rfl, rfl, rfl, rfl⟩) (by omega) (by omega) (by omega) ho hn (enters_of Tryz.func96 (by kernel_rfl) rfl) (fun h1 h2 h3 => absurd ⟨h1, h2, h3⟩ hval)
      rw [if_neg hval] at hd
      exact hd
    · rw [show valI 5 old new = decide (1 ≤ old.length ∧ old.length ≤ 4 ∧ new.length ≤ 4) from valI_5 _ _ _ (by omega), decide_eq_false_iff_not] at hval
      have hd := do_gen 5 1 4 4 100 102 (fun _ _ _ _ r1 _ => #[.pointer (some ⟨r1, 0, none⟩)]) (fun _ _ _ _ r1 _ => #[.pointer (some ⟨r1, 0, none⟩)]) v u old new b none w hv hu (by omega) (by omega) (fun _ _ _ _ _ _ => ⟨rfl, rfl, rfl, rfl, rfl⟩) (by omega) (by omega) (by omega) ho hn (enters_of Tryz.func100 (by kernel_rfl) rfl) (fun h1 h2 h3 => absurd ⟨h1, h2, h3⟩ hval)
      rw [if_neg hval] at hd
      exact hd
    · rw [show valI 6 old new = decide (1 ≤ old.length ∧ old.length ≤ 4 ∧ new.length ≤ 4) from valI_5 _ _ _ (by omega), decide_eq_false_iff_not] at hval
      have hd := do_gen 6 1 4 4 100 102 (fun _ _ _ _ _ r2 => #[.pointer (some ⟨r2, 0, none⟩)]) (fun _ _ _ _ _ r2 => #[.pointer (some ⟨r2, 0, none⟩)]) v u old new b none w hv hu (by omega) (by omega) (fun _ _ _ _ _ _ => ⟨rfl, rfl, rfl, rfl, rfl⟩) (by omega) (by omega) (by omega) ho hn (enters_of Tryz.func100 (by kernel_rfl) rfl) (fun h1 h2 h3 => absurd ⟨h1, h2, h3⟩ hval)
      rw [if_neg hval] at hd
      exact hd
    · rw [show valI 7 old new = decide (1 ≤ old.length ∧ old.length ≤ 8 ∧ new.length ≤ 0) from (valI_7 _ _).trans (decide_eq_decide.2 (by omega)), decide_eq_false_iff_not] at hval
      have hd := do_gen 7 1 8 0 105 107 (fun _ _ _ _ _ _ => #[]) (fun _ _ _ _ _ _ => #[]) v u old new b none w hv hu (by omega) (by omega) (fun _ _ _ _ _ _ => ⟨rfl, rfl, rfl, rfl, rfl⟩) (by omega) (by omega) (by omega) ho hn (enters_of Tryz.func105 (by kernel_rfl) rfl) (fun h1 h2 h3 => absurd ⟨h1, h2, h3⟩ hval)
      rw [if_neg hval] at hd
      exact hd
    · rw [show valI 8 old new = decide (1 ≤ old.length ∧ old.length ≤ 1 ∧ new.length ≤ 0) from (valI_8 _ _).trans (decide_eq_decide.2 (by omega)), decide_eq_false_iff_not] at hval
      have hd := do_gen 8 1 1 0 109 110 (fun _ _ _ _ _ _ => #[]) (fun _ _ _ _ _ _ => #[]) v u old new b none w hv hu (by omega) (by omega) (fun _ _ _ _ _ _ => ⟨rfl, rfl, rfl, rfl, rfl⟩) (by omega) (by omega) (by omega) ho hn (enters_of Tryz.func109 (by kernel_rfl) rfl) (fun h1 h2 h3 => absurd ⟨h1, h2, h3⟩ hval)
      rw [if_neg hval] at hd
      exact hd
  · exact do_bad v u k old new w hv hk
end Go.Proofs.YtlhbhcfpbhnkeaaGreatDoor
