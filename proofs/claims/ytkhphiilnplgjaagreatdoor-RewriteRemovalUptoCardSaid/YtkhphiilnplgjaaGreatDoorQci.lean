/-
  Texts of the proof, one behind another: Oe, Oz.
-/
import Derived.Test.YtkhphiilnplgjaaGreatDoorQcg
import Derived.Test.YtkhphiilnplgjaaGreatDoorQch
import Derived.Deep.Grids
import Derived.SizedLaws
import Derived.Test.YtkhphiilnplgjaaGreatDoorQab
import Derived.Test.YtkhphiilnplgjaaGreatDoorRows
import Derived.WalkKit
import Derived.ProofKit
import Derived.OpenShut
set_option linter.unusedSimpArgs false
set_option linter.unusedVariables false
namespace Go.Proofs.YtkhphiilnplgjaaGreatDoor
open Go.ChangeShapes Go.WideShapes Go.ChangeAt Go.RowKit Go.Deep

theorem bytesU8 : Tryz.prog.bytesOf 5 = 1 := by kernel_rfl
theorem cellsRU8 : Tryz.prog.cellsOf 22 = 1 := by kernel_rfl
theorem cellsInt : Tryz.prog.cellsOf 3 = 1 := by kernel_rfl
theorem cellsOp : Tryz.prog.cellsOf 24 = 3 := by kernel_rfl
theorem open_yrow {H : Type} {enc : TypeId × Value → H} {W : World} {base : Nat} {sp : Nat → Bool} {held : Bool} {fuel : Nat} {v : Value} {x : DataW H × List MemPlace}
    (hf : DataW.trod enc Tryz.prog W base sp held fuel 22 [v] = some x) : ∃ l, IsY W v l ∧ l.length ≤ Rows.uptoBulk x.1 ∧ ((∀ n ∈ x.1.weights Tryz.prog 22, n ≤ reachBytes) → l.length ≤ 140737488351232) := by
  have us := Tryz.underlying22
  have ue := Tryz.underlying5
  rcases open_ints us ue cellsU8 hf with ⟨hcs, _⟩ | ⟨a, len, cap, zs, hcs, _, hl, hm, hz, hd, hcell, hwz⟩
  · simp only [List.cons.injEq, and_true] at hcs
    subst hcs
    exact ⟨[], IsY.nil W, by simp, by simp⟩
  · simp only [List.cons.injEq, and_true] at hcs
    subst hcs
    have hzl : len ≤ zs.length := by rw [hz]; split <;> omega
    have hlen : (zs.take len).length = len := by simp; omega
    subst hd
    refine ⟨zs.take len, ⟨fun z hz => ?_, fun _ _ _ e h => by (cases e; cases h), some a, cap, by rw [hlen], by omega, fun j x hj => ?_⟩, ?_, fun hw => ?_⟩
    · have := hwz z (List.mem_of_mem_take hz)
      simp [Lit.wf, IntKind.min, IntKind.max, IntKind.signed, IntKind.bits] at this; omega
    · obtain ⟨b, off, rfl, hc⟩ := ints_at hcell (by rw [List.getElem?_take] at hj; split at hj <;> simp_all; omega)
      refine ⟨b, off, rfl, ?_⟩
      rw [List.getElem?_take] at hj
      split at hj
      · have hjl := (List.getElem?_eq_some_iff.1 hj).1
        rw [hc j hjl, List.getD_eq_getElem?_getD, hj]; rfl
      · cases hj
    · have h1 := bulk_slice (H := H) (lits IntKind.u8 (zs.take len)) (lits IntKind.u8 (zs.drop len))
      unfold lits at h1 ⊢
      rw [List.length_map] at h1
      exact h1
    · have hr : reachBytes = 140737488351232 := rfl
      have h2 := hw (((lits (H := H) IntKind.u8 (zs.take len)).length + (lits (H := H) IntKind.u8 (zs.drop len)).length) * 1) (by
        unfold DataW.weights; rw [us]; simp [bytesU8])
      unfold lits at h2
      simp at h2 ⊢
      omega
set_option maxRecDepth 100000 in
theorem open_yarg {H : Type} {enc : TypeId × Value → H} {W : World} {base : Nat} {sp : Nat → Bool} {held : Bool} {r : Reach} {b0 : Nat} {v : Value} {d : DataW H} {ps : List MemPlace}
    (hval : Value.okWide Tryz.prog W r b0 22 v) (hd : DataW.Trod enc Tryz.prog W base sp held 22 v d ps) : ∃ l, IsY W v l ∧ l.length ≤ Rows.uptoBulk d ∧ ((∀ n ∈ d.weights Tryz.prog 22, n ≤ reachBytes) → l.length ≤ 140737488351232) := by
  obtain ⟨p, len, cap, rfl⟩ := okWide_slice Tryz.underlying22 hval
  obtain ⟨fuel, hf⟩ := hd
  exact open_yrow (v := .slice p len cap) (x := (d, ps)) hf
set_option maxRecDepth 100000 in
theorem int_bounds {y : Int} (h : (Lit.int .i64 y).wf = true) : (-9223372036854775808 : Int) ≤ y ∧ y ≤ 9223372036854775807 := by
  simp [Lit.wf, IntKind.min, IntKind.max, IntKind.signed, IntKind.bits] at h; omega
set_option maxRecDepth 100000 in
theorem u8_bounds8 {y : Int} (h : (Lit.int .u8 y).wf = true) : 0 ≤ y ∧ y < 256 := by
  simp [Lit.wf, IntKind.min, IntKind.max, IntKind.signed, IntKind.bits] at h; omega
set_option maxRecDepth 100000 in
theorem open_op {H : Type} {enc : TypeId × Value → H} {W : World} {base : Nat} {sp : Nat → Bool} {held : Bool} {r : Reach} {b0 : Nat} {v : Value} {d : DataW H} {ps : List MemPlace}
    (hval : Value.okWide Tryz.prog W r b0 24 v) (hd : DataW.Trod enc Tryz.prog W base sp held 24 v d ps) :
    ∃ k old new, IsOp W v k old new ∧ ((-9223372036854775808 : Int) ≤ k ∧ k ≤ 9223372036854775807) ∧ old.length + new.length ≤ Rows.uptoBulk d ∧ ((∀ n ∈ d.weights Tryz.prog 24, n ≤ reachBytes) → old.length ≤ 140737488351232 ∧ new.length ≤ 140737488351232) := by
  have ut := Tryz.underlying24
  obtain ⟨⟨cs⟩, rfl, hcs⟩ := okWide_struct ut hval
  rw [cellsOp] at hcs
  obtain ⟨fuel, hf⟩ := hd
  match cs, hcs with
  | [e0, e1, e2], _ =>
    obtain ⟨xs, n, _, hx0, _, hlen, hx⟩ := DataW.trod_struct ut hf
    have h0 := hx 0 _ rfl
    have h1 := hx 1 _ rfl
    have h2 := hx 2 _ rfl
    have hn : xs.length = 3 := hlen
    match xs, hn with
    | [y0, y1, y2], _ =>
      obtain ⟨a, ea, rfl, wa⟩ := DataW.trod_int Tryz.underlying3 (show DataW.trod enc Tryz.prog W base sp held n 3 [e0] = some y0 from h0)
      simp only [List.cons.injEq, and_true] at ea
      subst ea
      obtain ⟨l1, b1, k1, m1⟩ := open_yrow (v := e1) (show DataW.trod enc Tryz.prog W base sp held n 22 [e1] = some y1 from h1)
      obtain ⟨l2, b2, k2, m2⟩ := open_yrow (v := e2) (show DataW.trod enc Tryz.prog W base sp held n 22 [e2] = some y2 from h2)
      refine ⟨a, l1, l2, ⟨e1, e2, rfl, b1, b2⟩, int_bounds wa, ?_, fun hw => ?_⟩
      · simp only [Prod.mk.injEq] at hx0
        rw [hx0.1]
        simp only [List.map_cons, List.map_nil, Rows.uptoBulk, Rows.uptoBulkAll]
        omega
      · simp only [Prod.mk.injEq] at hx0
        rw [hx0.1] at hw
        have hw2 : ∀ n ∈ (DataW.weights Tryz.prog 3 (DataW.lit (H := H) (.int .i64 a))) ++ (y1.1.weights Tryz.prog 22 ++ (y2.1.weights Tryz.prog 22 ++ [])), n ≤ reachBytes := fun n hn => hw n (by
          unfold DataW.weights
          rw [ut]
          exact hn)
        exact ⟨m1 fun n hn => hw2 n (by simp [hn]), m2 fun n hn => hw2 n (by simp [hn])⟩
end Go.Proofs.YtkhphiilnplgjaaGreatDoor

namespace Go.Proofs.YtkhphiilnplgjaaGreatDoor
open Go.ChangeShapes Go.WideShapes Go.ChangeAt Go.RowKit

/-- a class as it reads. -/
def clsData8 {H : Type} (x : BitVec 256) : DataW H := .agg [.lit (.int .u64 (wd x 0)), .lit (.int .u64 (wd x 1)), .lit (.int .u64 (wd x 2)), .lit (.int .u64 (wd x 3))]
theorem wf_wd8 (x : BitVec 256) (i : Nat) : (Lit.int .u64 (wd x i)).wf = true := by
  have h0 := wd_nonneg x i
  have h1 := wd_lt x i
  simp [Lit.wf, IntKind.min, IntKind.max, IntKind.signed, IntKind.bits]; omega
theorem wf_u648 {n : Int} (h : (Lit.int .u64 n).wf = true) : 0 ≤ n ∧ n < 18446744073709551616 := by
  simp [Lit.wf, IntKind.min, IntKind.max, IntKind.signed, IntKind.bits] at h; omega
theorem cellsCls8 : Tryz.prog.cellsOf 27 = 4 := by kernel_rfl
theorem cellsU648 : Tryz.prog.cellsOf 25 = 1 := by kernel_rfl
set_option maxRecDepth 100000 in
theorem open_cls8 {H : Type} {enc : TypeId × Value → H} {W : World} {base : Nat} {sp : Nat → Bool} {held : Bool} {r : Reach} {b0 : Nat} {v : Value} {d : DataW H} {ps : List MemPlace}
    (hval : Value.okWide Tryz.prog W r b0 27 v) (hd : DataW.Trod enc Tryz.prog W base sp held 27 v d ps) : ∃ x, v = .agg #[.int .u64 (wd x 0), .int .u64 (wd x 1), .int .u64 (wd x 2), .int .u64 (wd x 3)] ∧ d = clsData8 x ∧ ps = [] := by
  have ut := Tryz.underlying27
  have ue := Tryz.underlying25
  simp only [Value.okWide, ut] at hval
  obtain ⟨⟨cs⟩, rfl, h2, _⟩ := hval
  rw [cellsCls8] at h2
  obtain ⟨fuel, hf⟩ := hd
  match cs, h2 with
  | [c0, c1, c2, c3], _ =>
    obtain ⟨y0, y1, y2, y3, n, e, h0, h1, h2, h3⟩ := trod_array4 ut cellsU648 hf
    obtain ⟨a, ea, rfl, wa⟩ := DataW.trod_int ue h0
    obtain ⟨b, eb, rfl, wb⟩ := DataW.trod_int ue h1
    obtain ⟨c, ec, rfl, wc⟩ := DataW.trod_int ue h2
    obtain ⟨d', ed, rfl, wd'⟩ := DataW.trod_int ue h3
    simp at ea eb ec ed
    subst ea; subst eb; subst ec; subst ed
    obtain ⟨x, rfl, rfl, rfl, rfl⟩ := ofWords a b c d' (wf_u648 wa) (wf_u648 wb) (wf_u648 wc) (wf_u648 wd')
    simp only [Prod.mk.injEq] at e
    exact ⟨x, rfl, e.1, by rw [e.2]; rfl⟩
set_option maxRecDepth 100000 in
theorem shut_cls8 {H : Type} {enc : TypeId × Value → H} {W : World} {base : Nat} {sp : Nat → Bool} {held : Bool} (x : BitVec 256) :
    DataW.Trod enc Tryz.prog W base sp held 27 (.agg #[.int .u64 (wd x 0), .int .u64 (wd x 1), .int .u64 (wd x 2), .int .u64 (wd x 3)]) (clsData8 x) [] := by
  have ut := Tryz.underlying27
  have ue := Tryz.underlying25
  have r4 : List.range 4 = [0, 1, 2, 3] := rfl
  refine ⟨2, ?_⟩
  simp [DataW.trod, Value.cells, ut, ue, cellsCls8, cellsU648, r4, wf_wd8, clsData8]
end Go.Proofs.YtkhphiilnplgjaaGreatDoor
