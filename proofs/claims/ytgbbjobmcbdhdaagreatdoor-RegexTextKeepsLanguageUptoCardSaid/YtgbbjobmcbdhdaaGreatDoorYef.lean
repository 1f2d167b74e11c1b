/-
  Texts of the proof, one behind another: Op.
-/
import Derived.Test.YtgbbjobmcbdhdaaGreatDoorYaa
import Derived.Test.YtgbbjobmcbdhdaaGreatDoorYcf
import Derived.Carry
import Derived.Test.YtgbbjobmcbdhdaaGreatDoorRows
import Derived.WalkKit
import Derived.ProofKit
import Derived.OpenShut
set_option linter.unusedSimpArgs false
set_option linter.unusedVariables false
/-
  A class and a slice of bytes as arguments: opened and shut, with what the bound on their bulk gives.
-/
namespace Go.Proofs.YtgbbjobmcbdhdaaGreatDoor
open Go.ChangeShapes Go.WideShapes Go.ChangeAt Go.RowKit

/-- a class as it reads. -/
def clsData {H : Type} (x : BitVec 256) : DataW H := .agg [.lit (.int .u64 (wd x 0)), .lit (.int .u64 (wd x 1)), .lit (.int .u64 (wd x 2)), .lit (.int .u64 (wd x 3))]
theorem wf_wd (x : BitVec 256) (i : Nat) : (Lit.int .u64 (wd x i)).wf = true := by
  have h0 := wd_nonneg x i
  have h1 := wd_lt x i
  simp [Lit.wf, IntKind.min, IntKind.max, IntKind.signed, IntKind.bits]; omega
theorem wf_u64 {n : Int} (h : (Lit.int .u64 n).wf = true) : 0 ≤ n ∧ n < 18446744073709551616 := by
  simp [Lit.wf, IntKind.min, IntKind.max, IntKind.signed, IntKind.bits] at h; omega
theorem cellsCls : Tryz.prog.cellsOf 43 = 4 := by kernel_rfl
theorem cellsU64 : Tryz.prog.cellsOf 41 = 1 := by kernel_rfl
set_option maxRecDepth 100000 in
theorem open_cls {H : Type} {enc : TypeId × Value → H} {W : World} {base : Nat} {sp : Nat → Bool} {held : Bool} {r : Reach} {b0 : Nat} {v : Value} {d : DataW H} {ps : List MemPlace}
    (hval : Value.okWide Tryz.prog W r b0 43 v) (hd : DataW.Trod enc Tryz.prog W base sp held 43 v d ps) : ∃ x, v = .agg #[.int .u64 (wd x 0), .int .u64 (wd x 1), .int .u64 (wd x 2), .int .u64 (wd x 3)] ∧ d = clsData x ∧ ps = [] := by
  have ut := Tryz.underlying43
  have ue := Tryz.underlying41
  simp only [Value.okWide, ut] at hval
  obtain ⟨⟨cs⟩, rfl, h2, _⟩ := hval
  rw [cellsCls] at h2
  obtain ⟨fuel, hf⟩ := hd
  match cs, h2 with
  | [c0, c1, c2, c3], _ =>
    obtain ⟨y0, y1, y2, y3, n, e, h0, h1, h2, h3⟩ := trod_array4 ut cellsU64 hf
    obtain ⟨a, ea, rfl, wa⟩ := DataW.trod_int ue h0
    obtain ⟨b, eb, rfl, wb⟩ := DataW.trod_int ue h1
    obtain ⟨c, ec, rfl, wc⟩ := DataW.trod_int ue h2
    obtain ⟨d', ed, rfl, wd'⟩ := DataW.trod_int ue h3
    simp at ea eb ec ed
    subst ea; subst eb; subst ec; subst ed
    obtain ⟨x, rfl, rfl, rfl, rfl⟩ := ofWords a b c d' (wf_u64 wa) (wf_u64 wb) (wf_u64 wc) (wf_u64 wd')
    simp only [Prod.mk.injEq] at e
    exact ⟨x, rfl, e.1, by rw [e.2]; rfl⟩
theorem shut_cls {H : Type} {enc : TypeId × Value → H} {W : World} {base : Nat} {sp : Nat → Bool} {held : Bool} (x : BitVec 256) :
    DataW.Trod enc Tryz.prog W base sp held 43 (.agg #[.int .u64 (wd x 0), .int .u64 (wd x 1), .int .u64 (wd x 2), .int .u64 (wd x 3)]) (clsData x) [] := by
  have ut := Tryz.underlying43
  have ue := Tryz.underlying41
  have r4 : List.range 4 = [0, 1, 2, 3] := rfl
  refine ⟨2, ?_⟩
  simp [DataW.trod, Value.cells, ut, ue, cellsCls, cellsU64, r4, wf_wd, clsData]
theorem cellsU8 : Tryz.prog.cellsOf 5 = 1 := by kernel_rfl
theorem laidOutA : laidOutB Tryz.prog = true := by kernel_rfl
theorem bulk_one {H : Type} (d : DataW H) : 1 ≤ Rows.uptoBulk d := by
  cases d with
  | lit l => cases l <;> simp [Rows.uptoBulk]
  | nil => simp [Rows.uptoBulk]
  | ptr d => simp [Rows.uptoBulk]
  | slice elems spare => simp [Rows.uptoBulk]
  | agg parts => simp [Rows.uptoBulk]
  | iface t d => simp [Rows.uptoBulk]
  | map entries => simp [Rows.uptoBulk]
  | held h => simp [Rows.uptoBulk]
theorem bulk_len {H : Type} : ∀ (l : List (DataW H)), l.length ≤ Rows.uptoBulkAll l
  | [] => by simp
  | x :: r => by have := bulk_one x; have := bulk_len r; simp only [Rows.uptoBulkAll, List.length_cons]; omega
theorem bulk_slice {H : Type} (elems spare : List (DataW H)) : elems.length ≤ Rows.uptoBulk (.slice elems spare) := by
  have := bulk_len elems
  simp only [Rows.uptoBulk]; omega
set_option maxRecDepth 100000 in
theorem open_bytes {H : Type} {enc : TypeId × Value → H} {W : World} {base : Nat} {sp : Nat → Bool} {held : Bool} {r : Reach} {b0 : Nat} {v : Value} {d : DataW H} {ps : List MemPlace}
    (hval : Value.okWide Tryz.prog W r b0 24 v) (hd : DataW.Trod enc Tryz.prog W base sp held 24 v d ps) : ∃ l, IsB W v l ∧ l.length ≤ maxLen ∧ (∀ z ∈ l, 0 ≤ z ∧ z < 256) ∧ l.length ≤ Rows.uptoBulk d := by
  have us := Tryz.underlying24
  have ue := Tryz.underlying5
  obtain ⟨p, len, cap, rfl⟩ := okWide_slice us hval
  obtain ⟨fuel, hf⟩ := hd
  rcases open_ints us ue cellsU8 hf with ⟨hcs, _⟩ | ⟨a, len', cap', zs, hcs, _, hl, hm, hz, hd, hcell, hwz⟩
  · simp [Value.cells] at hcs
    obtain ⟨rfl, rfl, rfl⟩ := hcs
    exact ⟨[], .inl ⟨rfl, none, 0, rfl⟩, by simp, by simp, by simp⟩
  · simp [Value.cells] at hcs
    obtain ⟨rfl, rfl, rfl⟩ := hcs
    have hzl : len ≤ zs.length := by rw [hz]; split <;> omega
    have hlen : (zs.take len).length = len := by simp; omega
    simp only [Prod.mk.injEq] at hd
    obtain ⟨rfl, -⟩ := hd
    refine ⟨zs.take len, ?_, by omega, fun z hz => ?_, ?_⟩
    · rcases Nat.eq_zero_or_pos len with h0 | hp
      · subst h0
        exact .inl ⟨by simp, _, _, rfl⟩
      · obtain ⟨b, off, rfl, hc⟩ := ints_at hcell (by omega)
        refine .inr ⟨b, off, cap, by rw [hlen], fun k y hk => ?_⟩
        rw [List.getElem?_take] at hk
        split at hk
        · rw [hc k (by omega), List.getD_eq_getElem?_getD, hk]; rfl
        · cases hk
    · have := hwz z (List.mem_of_mem_take hz)
      simp [Lit.wf, IntKind.min, IntKind.max, IntKind.signed, IntKind.bits] at this; omega
    · have h1 := bulk_slice (H := H) (lits IntKind.u8 (zs.take len)) (lits IntKind.u8 (zs.drop len))
      unfold lits at h1 ⊢
      rw [List.length_map] at h1
      omega
end Go.Proofs.YtgbbjobmcbdhdaaGreatDoor
