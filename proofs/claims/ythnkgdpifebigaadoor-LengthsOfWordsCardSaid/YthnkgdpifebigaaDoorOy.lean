/-
  A slice of bytes as an argument, opened.
-/
import Derived.Test.YthnkgdpifebigaaDoorOl
import Derived.Test.YthnkgdpifebigaaDoorMa
set_option linter.unusedSimpArgs false
set_option linter.unusedVariables false
namespace Go.Proofs.YthnkgdpifebigaaDoor
open Go.ChangeShapes Go.WideShapes Go.ChangeAt Go.RowKit Go.Deep

theorem cellsU8 : Tryd.prog.cellsOf 5 = 1 := by kernel_rfl
theorem bytesU8 : Tryd.prog.bytesOf 5 = 1 := by kernel_rfl
set_option maxRecDepth 100000 in
theorem open_bytes {H : Type} {enc : TypeId × Value → H} {W : World} {base : Nat} {sp : Nat → Bool} {held : Bool} {r : Reach} {b0 : Nat} {v : Value} {d : DataW H} {ps : List MemPlace}
    (hval : Value.okWide Tryd.prog W r b0 36 v) (hd : DataW.Trod enc Tryd.prog W base sp held 36 v d ps) :
    ∃ p c l, v = .slice p l.length c ∧ IsY W (.slice p l.length c) l ∧ (∀ z ∈ l, 0 ≤ z ∧ z < 256) ∧ ((∀ n ∈ d.weights Tryd.prog 36, n ≤ reachBytes) → l.length ≤ 1152921504606846976) := by
  have us := Tryd.underlying36
  have ue := Tryd.underlying5
  obtain ⟨p, len, cap, rfl⟩ := okWide_slice us hval
  obtain ⟨fuel, hf⟩ := hd
  rcases open_ints us ue cellsU8 hf with ⟨hcs, _⟩ | ⟨a, len', cap', zs, hcs, _, hl, hm, hz, hd, hcell, hwz⟩
  · simp [Value.cells] at hcs
    obtain ⟨rfl, rfl, rfl⟩ := hcs
    exact ⟨none, 0, [], rfl, .inl ⟨rfl, none, 0, rfl⟩, by simp, fun _ => by simp⟩
  · simp [Value.cells] at hcs
    obtain ⟨rfl, rfl, rfl⟩ := hcs
    have hzl : len ≤ zs.length := by rw [hz]; split <;> omega
    have hlen : (zs.take len).length = len := by simp; omega
    simp only [Prod.mk.injEq] at hd
    obtain ⟨rfl, -⟩ := hd
    refine ⟨some a, cap, zs.take len, by rw [hlen], ?_, fun z hz => ?_, fun hw => ?_⟩
    · rw [hlen]
      rcases Nat.eq_zero_or_pos len with h0 | hp
      · subst h0
        exact .inl ⟨by simp, _, _, rfl⟩
      · obtain ⟨b, off, rfl, hc⟩ := ints_at hcell (by omega)
        refine .inr ⟨b, off, cap, by rw [hlen], fun k hk => ?_⟩
        rw [hlen] at hk
        rw [hc k (by omega)]
        simp only [List.getD_eq_getElem?_getD, List.getElem?_take, hk, if_true]
    · have := hwz z (List.mem_of_mem_take hz)
      simp [Lit.wf, IntKind.min, IntKind.max, IntKind.signed, IntKind.bits] at this; omega
    · have hr : reachBytes = 140737488351232 := rfl
      have h2 := hw (((lits (H := H) IntKind.u8 (zs.take len)).length + (lits (H := H) IntKind.u8 (zs.drop len)).length) * 1) (by
        unfold DataW.weights; rw [us]; simp [bytesU8])
      unfold lits at h2
      simp at h2 ⊢
      omega
end Go.Proofs.YthnkgdpifebigaaDoor
