/-
  Texts of the proof, one behind another: Oq.
-/
import Derived.Test.YtgbbjobmcbdhdaaGreatDoorYef
import Derived.Test.YtgbbjobmcbdhdaaGreatDoorYeb
set_option linter.unusedSimpArgs false
set_option linter.unusedVariables false
/-
  A slice of bytes as an argument, with its capacity and its bulk.
-/
namespace Go.Proofs.YtgbbjobmcbdhdaaGreatDoor
open Go.ChangeShapes Go.WideShapes Go.ChangeAt Go.RowKit

theorem u8_bounds {y : Int} (h : (Lit.int .u8 y).wf = true) : 0 ≤ y ∧ y < 256 := by
  simp [Lit.wf, IntKind.min, IntKind.max, IntKind.signed, IntKind.bits] at h; omega
set_option maxRecDepth 100000 in
theorem open_bytes_arg {H : Type} {enc : TypeId × Value → H} {W : World} {base : Nat} {sp : Nat → Bool} {held : Bool} {r : Reach} {b0 : Nat} {v : Value} {d : DataW H} {ps : List MemPlace}
    (hval : Value.okWide Tryz.prog W r b0 24 v) (hd : DataW.Trod enc Tryz.prog W base sp held 24 v d ps) :
    ∃ p c l, v = .slice p l.length c ∧ IsB W (.slice p l.length c) l ∧ l.length ≤ c ∧ (∀ z ∈ l, 0 ≤ z ∧ z < 256) ∧ l.length ≤ Rows.uptoBulk d := by
  have us := Tryz.underlying24
  have ue := Tryz.underlying5
  obtain ⟨p, len, cap, rfl⟩ := okWide_slice us hval
  obtain ⟨fuel, hf⟩ := hd
  rcases open_ints us ue cellsU8 hf with ⟨hcs, _⟩ | ⟨a, len', cap', zs, hcs, _, hl, hm, hz, hd, hcell, hwz⟩
  · simp [Value.cells] at hcs
    obtain ⟨rfl, rfl, rfl⟩ := hcs
    exact ⟨none, 0, [], rfl, .inl ⟨rfl, none, 0, rfl⟩, by simp, by simp, by simp⟩
  · simp [Value.cells] at hcs
    obtain ⟨rfl, rfl, rfl⟩ := hcs
    have hzl : len ≤ zs.length := by rw [hz]; split <;> omega
    have hlen : (zs.take len).length = len := by simp; omega
    simp only [Prod.mk.injEq] at hd
    obtain ⟨rfl, -⟩ := hd
    refine ⟨some a, cap, zs.take len, by rw [hlen], ?_, by omega, fun z hz => ?_, ?_⟩
    · rw [hlen]
      rcases Nat.eq_zero_or_pos len with h0 | hp
      · subst h0
        exact .inl ⟨by simp, _, _, rfl⟩
      · obtain ⟨b, off, rfl, hc⟩ := ints_at hcell (by omega)
        refine .inr ⟨b, off, cap, by rw [hlen], fun k y hk => ?_⟩
        rw [List.getElem?_take] at hk
        split at hk
        · rw [hc k (by omega), List.getD_eq_getElem?_getD, hk]; rfl
        · cases hk
    · have := hwz z (List.mem_of_mem_take hz)
      simp [Lit.wf, IntKind.min, IntKind.max, IntKind.signed, IntKind.bits] at this; omega
    · have h1 := bulk_slice (H := H) (lits IntKind.u8 (zs.take len)) (lits IntKind.u8 (zs.drop len))
      unfold lits at h1 ⊢
      rw [List.length_map] at h1
      omega
end Go.Proofs.YtgbbjobmcbdhdaaGreatDoor
