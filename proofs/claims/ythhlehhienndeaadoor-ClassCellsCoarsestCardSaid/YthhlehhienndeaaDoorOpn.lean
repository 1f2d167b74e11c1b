/-
  A class as an argument: opened and shut.
-/
import Derived.Test.YthhlehhienndeaaDoorM
import Derived.Test.YthhlehhienndeaaDoorRows
import Derived.WalkKit
import Derived.ProofKit
import Derived.OpenShut
set_option linter.unusedSimpArgs false
set_option linter.unusedVariables false
namespace Go.Proofs.YthhlehhienndeaaDoor
open Go.ChangeShapes Go.WideShapes Go.ChangeAt Go.RowKit

/-- a class as it reads. -/
def clsData {H : Type} (x : BitVec 256) : DataW H := .agg [.lit (.int .u64 (wd x 0)), .lit (.int .u64 (wd x 1)), .lit (.int .u64 (wd x 2)), .lit (.int .u64 (wd x 3))]
theorem wf_wd (x : BitVec 256) (i : Nat) : (Lit.int .u64 (wd x i)).wf = true := by
  have h0 := wd_nonneg x i
  have h1 := wd_lt x i
  simp [Lit.wf, IntKind.min, IntKind.max, IntKind.signed, IntKind.bits]; omega
theorem wf_u64 {n : Int} (h : (Lit.int .u64 n).wf = true) : 0 ≤ n ∧ n < 18446744073709551616 := by
  simp [Lit.wf, IntKind.min, IntKind.max, IntKind.signed, IntKind.bits] at h; omega
theorem cellsCls : Tryd.prog.cellsOf 24 = 4 := by kernel_rfl
theorem cellsU64 : Tryd.prog.cellsOf 22 = 1 := by kernel_rfl
theorem open_cls {H : Type} {enc : TypeId × Value → H} {W : World} {base : Nat} {sp : Nat → Bool} {held : Bool} {r : Reach} {b0 : Nat} {v : Value} {d : DataW H} {ps : List MemPlace}
    (hval : Value.okWide Tryd.prog W r b0 24 v) (hd : DataW.Trod enc Tryd.prog W base sp held 24 v d ps) : ∃ x, v = .agg #[.int .u64 (wd x 0), .int .u64 (wd x 1), .int .u64 (wd x 2), .int .u64 (wd x 3)] ∧ d = clsData x ∧ ps = [] := by
  have ut := Tryd.underlying24
  have ue := Tryd.underlying22
  simp only [Value.okWide, ut] at hval
  obtain ⟨⟨cs⟩, rfl, h2, _⟩ := hval
  rw [cellsCls] at h2
  obtain ⟨fuel, hf⟩ := hd
  match cs, h2 with
  | [c0, c1, c2, c3], _ =>
    obtain ⟨y0, y1, y2, y3, n, e, h0, h1, h2, h3⟩ := trod_array4 ut cellsU64 hf
    obtain ⟨a, ea, rfl, wa⟩ := DataW.trod_int ue h0
    obtain ⟨b, eb, rfl, wb⟩ := DataW.trod_int ue h1
    obtain ⟨c, ec, rfl, wc⟩ := DataW.trod_int ue h2
    obtain ⟨d', ed, rfl, wd'⟩ := DataW.trod_int ue h3
    simp at ea eb ec ed
    subst ea; subst eb; subst ec; subst ed
    obtain ⟨x, rfl, rfl, rfl, rfl⟩ := ofWords a b c d' (wf_u64 wa) (wf_u64 wb) (wf_u64 wc) (wf_u64 wd')
    simp only [Prod.mk.injEq] at e
    exact ⟨x, rfl, e.1, by rw [e.2]; rfl⟩
theorem shut_cls {H : Type} {enc : TypeId × Value → H} {W : World} {base : Nat} {sp : Nat → Bool} {held : Bool} (x : BitVec 256) :
    DataW.Trod enc Tryd.prog W base sp held 24 (.agg #[.int .u64 (wd x 0), .int .u64 (wd x 1), .int .u64 (wd x 2), .int .u64 (wd x 3)]) (clsData x) [] := by
  have ut := Tryd.underlying24
  have ue := Tryd.underlying22
  have r4 : List.range 4 = [0, 1, 2, 3] := rfl
  refine ⟨2, ?_⟩
  simp [DataW.trod, Value.cells, ut, ue, cellsCls, cellsU64, r4, wf_wd, clsData]
end Go.Proofs.YthhlehhienndeaaDoor
