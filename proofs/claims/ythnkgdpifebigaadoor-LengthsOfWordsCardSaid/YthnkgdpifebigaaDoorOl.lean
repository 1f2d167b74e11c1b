/-
  A set as an argument, opened.
-/
import Derived.Test.YthnkgdpifebigaaDoorBo
import Derived.Test.YthnkgdpifebigaaDoorRows
import Derived.Carry
import Derived.ProofKit
import Derived.OpenShut
import Derived.Deep.Grids
import Derived.SizedLaws
set_option linter.unusedSimpArgs false
set_option linter.unusedVariables false
namespace Go.Proofs.YthnkgdpifebigaaDoor
open Go.ChangeShapes Go.WideShapes Go.ChangeAt Go.RowKit Go.Deep

theorem laidOutA : laidOutB Tryd.prog = true := by kernel_rfl
theorem cellsB : Tryd.prog.cellsOf 4 = 1 := by kernel_rfl
theorem cellsRB : Tryd.prog.cellsOf 22 = 1 := by kernel_rfl
theorem cellsLe : Tryd.prog.cellsOf 24 = 2 := by kernel_rfl
theorem bytesB : Tryd.prog.bytesOf 4 = 1 := by kernel_rfl
theorem open_boolrow {H : Type} {enc : TypeId × Value → H} {W : World} {base : Nat} {held : Bool} {fuel : Nat} {v : Value} {x : DataW H × List MemPlace}
    (hf : DataW.trod enc Tryd.prog W base (fun _ => true) held fuel 22 [v] = some x) : ∃ l, IsB W v l ∧ ((∀ n ∈ x.1.weights Tryd.prog 22, n ≤ reachBytes) → l.length ≤ reachBytes) := by
  rcases open_bools Tryd.underlying22 Tryd.underlying4 cellsB hf with ⟨h1, _⟩ | ⟨a, len, cap, B, h1, _, hl, hm, hx, hcell⟩
  · simp only [List.cons.injEq, and_true] at h1
    subst h1
    exact ⟨[], .inl ⟨rfl, none, 0, rfl, fun _ => rfl⟩, fun _ => by simp⟩
  · simp only [List.cons.injEq, and_true] at h1
    subst h1
    subst hx
    refine ⟨(List.range len).map B, ?_, fun hw => ?_⟩
    · rcases Nat.eq_zero_or_pos len with h0 | hp
      · subst h0
        exact .inl ⟨by simp, some a, cap, rfl, fun h => by cases h⟩
      · obtain ⟨b, off, spot⟩ := a
        have hspot : spot = none := by simpa [Addr.add] using World.cell?_spot (hcell 0 (by omega))
        subst hspot
        refine .inr ⟨b, off, cap, by simp, by simpa using hl, fun j hj => ?_⟩
        have hj : j < len := by simpa using hj
        rw [← Go.WideShapes.add_plain, hcell j (by omega)]
        simp [List.getD_eq_getElem?_getD, hj]
    · have h2 := hw (((List.range len).map fun i => (DataW.lit (.bool (B i)) : DataW H)).length * 1 + ((List.range (cap - len)).map fun j => (DataW.lit (.bool (B (len + j))) : DataW H)).length * 1) (by
        simp [boolRow, DataW.weights, Tryd.underlying22, bytesB])
      simp at h2 ⊢
      omega
set_option maxRecDepth 100000 in
theorem open_lengths {H : Type} {enc : TypeId × Value → H} {W : World} {base : Nat} {held : Bool} {r : Reach} {b0 : Nat} {v : Value} {d : DataW H} {ps : List MemPlace}
    (hval : Value.okWide Tryd.prog W r b0 24 v) (hd : DataW.Trod enc Tryd.prog W base (fun _ => true) held 24 v d ps) :
    ∃ h c, IsSet W v h c ∧ ((∀ n ∈ d.weights Tryd.prog 24, n ≤ reachBytes) → h.length ≤ 1152921504606846976 ∧ c.length ≤ 1152921504606846976) := by
  have ut := Tryd.underlying24
  obtain ⟨⟨cs⟩, rfl, hcs⟩ := okWide_struct ut hval
  rw [cellsLe] at hcs
  obtain ⟨fuel, hf⟩ := hd
  match cs, hcs with
  | [e0, e1], _ =>
    obtain ⟨xs, n, _, hx0, _, hlen, hx⟩ := DataW.trod_struct ut hf
    have h0 := hx 0 _ rfl
    have h1 := hx 1 _ rfl
    have hn : xs.length = 2 := hlen
    match xs, hn with
    | [y0, y1], _ =>
      obtain ⟨l0, b0, m0⟩ := open_boolrow (v := e0) (show DataW.trod enc Tryd.prog W base (fun _ => true) held n 22 [e0] = some y0 from h0)
      obtain ⟨l1, b1, m1⟩ := open_boolrow (v := e1) (show DataW.trod enc Tryd.prog W base (fun _ => true) held n 22 [e1] = some y1 from h1)
      refine ⟨l0, l1, ⟨e0, e1, rfl, b0, b1⟩, fun hw => ?_⟩
      simp only [Prod.mk.injEq] at hx0
      rw [hx0.1] at hw
      have hw2 : ∀ n ∈ y0.1.weights Tryd.prog 22 ++ (y1.1.weights Tryd.prog 22 ++ []), n ≤ reachBytes := fun n hn => hw n (by
        unfold DataW.weights
        rw [ut]
        exact hn)
      have k0 := m0 fun n hn => hw2 n (by simp [hn])
      have k1 := m1 fun n hn => hw2 n (by simp [hn])
      have hr : reachBytes = 140737488351232 := rfl
      omega
theorem int_bounds {y : Int} (h : (Lit.int .i64 y).wf = true) : (-9223372036854775808 : Int) ≤ y ∧ y ≤ 9223372036854775807 := by
  simp [Lit.wf, IntKind.min, IntKind.max, IntKind.signed, IntKind.bits] at h; omega
theorem u16_bounds {y : Int} (h : (Lit.int .u16 y).wf = true) : 0 ≤ y ∧ y < 65536 := by
  simp [Lit.wf, IntKind.min, IntKind.max, IntKind.signed, IntKind.bits] at h; omega
end Go.Proofs.YthnkgdpifebigaaDoor
