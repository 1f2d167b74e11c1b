/-
  Texts of the proof, one behind another: G, H.
-/
import Derived.Test.YtgbkjgfiofncdaaGreatDoorYah
set_option linter.unusedSimpArgs false
set_option linter.unusedVariables false
/-
  Walks: the reference's union, intersection, complement, difference: byte by byte.
-/
namespace Go.Proofs.YtgbkjgfiofncdaaGreatDoor
open Go.RowKit

end Go.Proofs.YtgbkjgfiofncdaaGreatDoor

/-
  Walks: the reference's complement and difference; its list of members, their number, the least one.
-/
namespace Go.Proofs.YtgbkjgfiofncdaaGreatDoor
open Go.RowKit

theorem infoByte : (Tryz.prog.info? 5).map (fun i => (i.zero, i.size, i.bytes)) = some (some (.int .u8 0), 1, 1) := by kernel_rfl

/-- the least member, or -1. -/
def leastI (x : BitVec 256) : Int := (mems x 256).headD (-1)

/-- what an owned row of one cell an element says, element by element. -/
theorem own_read {w : World} {base : Nat} {e : TypeId} {v : Value} {n : Nat} {xs : List Value} (h : w.ownsRow base e 1 v n xs) (h0 : 0 < n) :
    ∃ g cap, v = .slice (some ⟨g, 0, none⟩) n cap ∧ base ≤ g ∧ g < w.heap.size ∧ n ≤ cap ∧ ∀ i y, xs[i]? = some y → w.cell? ⟨g, i, none⟩ = some y := by
  obtain ⟨hl, ⟨rfl, hn⟩ | ⟨g, cap, cur, rfl, hg, hh, hcap, hm, hsz, htk⟩⟩ := h
  · omega
  · refine ⟨g, cap, rfl, hg, Blk.lt (vs := cur) (t := e) ⟨hh⟩, hcap, fun i y hy => Blk.cell (vs := cur) (t := e) ⟨hh⟩ i ?_⟩
    have h2 := congrArg (fun q => q[i]?) htk
    have hi : i < n * 1 := by
      have := (List.getElem?_eq_some_iff.1 hy).1; omega
    rw [List.getElem?_take_of_lt hi, hy] at h2
    simpa using h2

end Go.Proofs.YtgbkjgfiofncdaaGreatDoor
