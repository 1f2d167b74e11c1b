/-
  The law LengthsOfMatchesReference holds: its tied card, for every input; the condition is the card's own (the listed table as the program's text lays it).
-/
import Derived.Test.YtepncbbegpeilaaDoorMa
import Derived.Test.YtepncbbegpeilaaDoorCards
import Derived.Test.YtepncbbegpeilaaDoorTie
import Derived.WalkKit
import Derived.ProofKit
import Derived.OpenShut
import Derived.Deep.DeepHandedRow
import Derived.Lib.LaidTab
import Derived.Below
import Derived.Shelf.Spec.TrailingZeros
import Derived.Test.YtepncbbegpeilaaDoorBo
import Derived.Test.YtepncbbegpeilaaDoorRows
import Derived.Carry
import Derived.Deep.Grids
import Derived.SizedLaws
import Derived.Test.YtepncbbegpeilaaDoorJo
set_option linter.unusedSimpArgs false
set_option linter.unusedVariables false
namespace Go.Proofs.YtepncbbegpeilaaDoor
open Go.ChangeShapes Go.WideShapes Go.ChangeAt Go.RowKit Go.Deep

theorem cellsU8 : Tryd.prog.cellsOf 5 = 1 := by kernel_rfl
theorem bytesU8 : Tryd.prog.bytesOf 5 = 1 := by kernel_rfl
set_option maxRecDepth 100000 in
theorem open_bytes {H : Type} {enc : TypeId × Value → H} {W : World} {base : Nat} {sp : Nat → Bool} {held : Bool} {r : Reach} {b0 : Nat} {v : Value} {d : DataW H} {ps : List MemPlace}
    (hval : Value.okWide Tryd.prog W r b0 22 v) (hd : DataW.Trod enc Tryd.prog W base sp held 22 v d ps) :
    ∃ p c l, v = .slice p l.length c ∧ IsY W (.slice p l.length c) l ∧ (∀ z ∈ l, 0 ≤ z ∧ z < 256) ∧ ((∀ n ∈ d.weights Tryd.prog 22, n ≤ reachBytes) → l.length ≤ 1152921504606846976) := by
  have us := Tryd.underlying22
  have ue := Tryd.underlying5
  obtain ⟨p, len, cap, rfl⟩ := okWide_slice us hval
  obtain ⟨fuel, hf⟩ := hd
  rcases open_ints us ue cellsU8 hf with ⟨hcs, _⟩ | ⟨a, len', cap', zs, hcs, _, hl, hm, hz, hd, hcell, hwz⟩
  · simp [Value.cells] at hcs
    obtain ⟨rfl, rfl, rfl⟩ := hcs
    exact ⟨none, 0, [], rfl, .inl ⟨rfl, none, 0, rfl⟩, by simp, fun _ => by simp⟩
  · simp [Value.cells] at hcs
    obtain ⟨rfl, rfl, rfl⟩ := hcs
    have hzl : len ≤ zs.length := by rw [hz]; split <;> omega
    have hlen : (zs.take len).length = len := by simp; omega
    simp only [Prod.mk.injEq] at hd
    obtain ⟨rfl, -⟩ := hd
    refine ⟨some a, cap, zs.take len, by rw [hlen], ?_, fun z hz => ?_, fun hw => ?_⟩
    · rw [hlen]
      rcases Nat.eq_zero_or_pos len with h0 | hp
      · subst h0
        exact .inl ⟨by simp, _, _, rfl⟩
      · obtain ⟨b, off, rfl, hc⟩ := ints_at hcell (by omega)
        refine .inr ⟨b, off, cap, by rw [hlen], fun k hk => ?_⟩
        rw [hlen] at hk
        rw [hc k (by omega)]
        simp only [List.getD_eq_getElem?_getD, List.getElem?_take, hk, if_true]
    · have := hwz z (List.mem_of_mem_take hz)
      simp [Lit.wf, IntKind.min, IntKind.max, IntKind.signed, IntKind.bits] at this; omega
    · have hr : reachBytes = 140737488351232 := rfl
      have h2 := hw (((lits (H := H) IntKind.u8 (zs.take len)).length + (lits (H := H) IntKind.u8 (zs.drop len)).length) * 1) (by
        unfold DataW.weights; rw [us]; simp [bytesU8])
      unfold lits at h2
      simp at h2 ⊢
      omega
end Go.Proofs.YtepncbbegpeilaaDoor
namespace Go.Proofs.YtepncbbegpeilaaDoor
open Go.ChangeShapes Go.WideShapes Go.ChangeAt Go.RowKit

theorem ownKnobNone : ownKnob Tryd.prog.godebug = none := by kernel_rfl
theorem gTab : Tryd.prog.globalNamed "math/bits.deBruijn64tab" = some 0 := by kernel_rfl
theorem gTabType : (Tryd.prog.globals[0]?).map (·.type) = some 66 := by kernel_rfl
theorem cellsTab : Tryd.prog.cellsOf 66 = 64 := by kernel_rfl
theorem cellsByte : Tryd.prog.cellsOf 5 = 1 := by kernel_rfl
def tabInts : List Int := Lib.deBruijn64tab.map fun (n : Nat) => (n : Int)

set_option maxRecDepth 100000 in
theorem tableIs {W : World} (h : laidMetH Tryd.prog [("math/bits.deBruijn64tab", Rows.laid_math_bits_deBruijn64tab)] W) : Lib.TabIs Tryd.prog W "math/bits.deBruijn64tab" .u8 tabInts :=
  Lib.tabIs_of_head (rest := []) gTab gTabType Tryd.underlying66 Tryd.underlying5 cellsByte cellsTab h
theorem table {W : World} (h : laidMetH Tryd.prog [("math/bits.deBruijn64tab", Rows.laid_math_bits_deBruijn64tab)] W) : TabAt 0 Lib.deBruijn64tab W := by
  intro j hj
  have h2 := (tableIs h).cell gTab j (by unfold tabInts; rw [List.length_map]; exact hj)
  rw [h2]
  unfold tabInts
  rw [List.getD_eq_getElem?_getD, List.getElem?_map, List.getD_eq_getElem?_getD, List.getElem?_eq_getElem hj]
  rfl
theorem table_lt {W : World} (h : TabAt 0 Lib.deBruijn64tab W) : 0 < W.heap.size := by
  have h0 := h 0 (by decide)
  rcases Nat.lt_or_ge 0 W.heap.size with hlt | hge
  · exact hlt
  · unfold World.cell? at h0; rw [Array.getElem?_eq_none hge] at h0; cases h0

/-- A world for the witness: the settled one, the table holding what its initialiser lays. -/
noncomputable def laidWorld (os : Os) : World :=
  { World.holding Tryd.prog os ⟨#[], #[], []⟩ with heap := (World.holding Tryd.prog os ⟨#[], #[], []⟩).heap.modify 0 fun
      | .cells _ t frozen => .cells (tabInts.map (Value.int .u8)).toArray t frozen
      | o => o }
end Go.Proofs.YtepncbbegpeilaaDoor
namespace Go.Proofs.YtepncbbegpeilaaDoor
open Go.ChangeShapes Go.WideShapes Go.ChangeAt Go.RowKit Go.Deep

theorem laidOutA : laidOutB Tryd.prog = true := by kernel_rfl
theorem cellsB : Tryd.prog.cellsOf 4 = 1 := by kernel_rfl
theorem cellsRB : Tryd.prog.cellsOf 26 = 1 := by kernel_rfl
theorem cellsLe : Tryd.prog.cellsOf 31 = 2 := by kernel_rfl
theorem bytesB : Tryd.prog.bytesOf 4 = 1 := by kernel_rfl
theorem open_boolrow {H : Type} {enc : TypeId × Value → H} {W : World} {base : Nat} {held : Bool} {fuel : Nat} {v : Value} {x : DataW H × List MemPlace}
    (hf : DataW.trod enc Tryd.prog W base (fun _ => true) held fuel 26 [v] = some x) : ∃ l, IsB W v l ∧ ((∀ n ∈ x.1.weights Tryd.prog 26, n ≤ reachBytes) → l.length ≤ reachBytes) := by
  rcases open_bools Tryd.underlying26 Tryd.underlying4 cellsB hf with ⟨h1, _⟩ | ⟨a, len, cap, B, h1, _, hl, hm, hx, hcell⟩
  · simp only [List.cons.injEq, and_true] at h1
    subst h1
    exact ⟨[], .inl ⟨rfl, none, 0, rfl, fun _ => rfl⟩, fun _ => by simp⟩
  · simp only [List.cons.injEq, and_true] at h1
    subst h1
    subst hx
    refine ⟨(List.range len).map B, ?_, fun hw => ?_⟩
    · rcases Nat.eq_zero_or_pos len with h0 | hp
      · subst h0
        exact .inl ⟨by simp, some a, cap, rfl, fun h => by cases h⟩
      · obtain ⟨b, off, spot⟩ := a
        have hspot : spot = none := by simpa [Addr.add] using World.cell?_spot (hcell 0 (by omega))
        subst hspot
        refine .inr ⟨b, off, cap, by simp, by simpa using hl, fun j hj => ?_⟩
        have hj : j < len := by simpa using hj
        rw [← Go.WideShapes.add_plain, hcell j (by omega)]
        simp [List.getD_eq_getElem?_getD, hj]
    · have h2 := hw (((List.range len).map fun i => (DataW.lit (.bool (B i)) : DataW H)).length * 1 + ((List.range (cap - len)).map fun j => (DataW.lit (.bool (B (len + j))) : DataW H)).length * 1) (by
        simp [boolRow, DataW.weights, Tryd.underlying26, bytesB])
      simp at h2 ⊢
      omega
set_option maxRecDepth 100000 in
theorem open_lengths {H : Type} {enc : TypeId × Value → H} {W : World} {base : Nat} {held : Bool} {r : Reach} {b0 : Nat} {v : Value} {d : DataW H} {ps : List MemPlace}
    (hval : Value.okWide Tryd.prog W r b0 31 v) (hd : DataW.Trod enc Tryd.prog W base (fun _ => true) held 31 v d ps) :
    ∃ h c, IsSet W v h c ∧ ((∀ n ∈ d.weights Tryd.prog 31, n ≤ reachBytes) → h.length ≤ 1152921504606846976 ∧ c.length ≤ 1152921504606846976) := by
  have ut := Tryd.underlying31
  obtain ⟨⟨cs⟩, rfl, hcs⟩ := okWide_struct ut hval
  rw [cellsLe] at hcs
  obtain ⟨fuel, hf⟩ := hd
  match cs, hcs with
  | [e0, e1], _ =>
    obtain ⟨xs, n, _, hx0, _, hlen, hx⟩ := DataW.trod_struct ut hf
    have h0 := hx 0 _ rfl
    have h1 := hx 1 _ rfl
    have hn : xs.length = 2 := hlen
    match xs, hn with
    | [y0, y1], _ =>
      obtain ⟨l0, b0, m0⟩ := open_boolrow (v := e0) (show DataW.trod enc Tryd.prog W base (fun _ => true) held n 26 [e0] = some y0 from h0)
      obtain ⟨l1, b1, m1⟩ := open_boolrow (v := e1) (show DataW.trod enc Tryd.prog W base (fun _ => true) held n 26 [e1] = some y1 from h1)
      refine ⟨l0, l1, ⟨e0, e1, rfl, b0, b1⟩, fun hw => ?_⟩
      simp only [Prod.mk.injEq] at hx0
      rw [hx0.1] at hw
      have hw2 : ∀ n ∈ y0.1.weights Tryd.prog 26 ++ (y1.1.weights Tryd.prog 26 ++ []), n ≤ reachBytes := fun n hn => hw n (by
        unfold DataW.weights
        rw [ut]
        exact hn)
      have k0 := m0 fun n hn => hw2 n (by simp [hn])
      have k1 := m1 fun n hn => hw2 n (by simp [hn])
      have hr : reachBytes = 140737488351232 := rfl
      omega
theorem int_bounds {y : Int} (h : (Lit.int .i64 y).wf = true) : (-9223372036854775808 : Int) ≤ y ∧ y ≤ 9223372036854775807 := by
  simp [Lit.wf, IntKind.min, IntKind.max, IntKind.signed, IntKind.bits] at h; omega
theorem u16_bounds {y : Int} (h : (Lit.int .u16 y).wf = true) : 0 ≤ y ∧ y < 65536 := by
  simp [Lit.wf, IntKind.min, IntKind.max, IntKind.signed, IntKind.bits] at h; omega
end Go.Proofs.YtepncbbegpeilaaDoor
namespace Go.Proofs.YtepncbbegpeilaaDoor.lengthsOfMatchesReference
open Go.ChangeShapes Go.WideShapes Go.ChangeAt Go.RowKit

set_option maxRecDepth 100000 in
theorem contract (H : Type) (enc : TypeId × Value → H) (W : World) (base : Nat) (args : Array Value) (ds gs : List (DataW H)) (before : List MemPlace)
    (hval : ∀ (j : Nat) t v, Tryd.f3.params[j]? = some t → args[j]? = some v → Value.okWide Tryd.prog W .any base t v)
    (hW : DataW.Whole enc Tryd.prog Tryd.f3.params.toList Rows.lengthsOfMatchesReferenceSpec.vars false W args.toList ds gs before) (hL : laidMetH Tryd.prog Rows.lengthsOfMatchesReferenceRow.laid W)
    (hsz : (DataW.weightsEach Tryd.prog (Tryd.f3.params.toList ++ (OpenSpec.ofChange Rows.lengthsOfMatchesReferenceSpec).bare.plain.varTypes Tryd.prog) (ds ++ gs)).all (· ≤ reachBytes) = true) :
    Calls Tryd.prog 3 args W fun e W' => ∃ v, e = .returned v ∧ Rows.lengthsOfMatchesReferenceSpec.post enc Tryd.prog Tryd.f3 false true false false W args v W' := by
  have hW' := hW
  obtain ⟨p, q, hA0, hV, rfl, hfz, hnd⟩ := hW
  have hA : DataW.TrodAll enc Tryd.prog W 0 (fun _ => true) true Tryd.f3.params.toList args.toList ds p := hA0
  rw [Tryd.params3] at hA hval
  obtain ⟨v0, vs0, d0, ds0, pl0, q0, hargs, rfl, rfl, h0', r0⟩ := trodAll_cons hA
  obtain ⟨v1, vs1, d1, ds1, pl1, q1, rfl, rfl, rfl, h1', r1⟩ := trodAll_cons r0
  obtain ⟨rfl, rfl, rfl⟩ := trodAll_nil r1
  obtain rfl : args = #[v0, v1] := by cases args; simp_all
  obtain ⟨rfl, rfl⟩ := trodVars_none hV
  obtain ⟨p0, k0, l0, rfl, is0, by0, u0⟩ := open_bytes (hval 0 22 v0 rfl rfl) h0'
  have ml0 := u0 fun n hn => of_decide_eq_true (List.all_eq_true.1 hsz n (DataW.weights_mem_each (j := 0) (t := 22) (by rw [Tryd.params3]; rfl) rfl n hn))
  obtain ⟨y1, rfl, rfl, rfl⟩ := open_bool Tryd.underlying4 (hval 1 4 v1 rfl rfl) h1'
  clear hA0
  simp only [List.append_nil, List.nil_append] at hW'
  have hT := table hL
  have hlt0 : ∀ x ∈ pl0, x.block < W.heap.size := fun x hx => hW'.lt x (by simp [hx])
  refine (ofmatch_walk W p0 k0 l0 y1 is0 by0 ml0 hT (table_lt hT)).mono fun e W' ⟨he, hg⟩ => ?_
  subst he
  refine ⟨_, rfl, _, _, pl0, [], pl0, [], hW', trodAll_cons_mk (shut_bool Tryd.underlying4 _) trodAll_mk0, ?_, rfl, hg.frame _, fun h => by cases h⟩
  have hfin := trodAll_cons_mk (Below.trod laidOutA (by kernel_rfl) (of_decide_eq_true (by kernel_rfl)) h0' hg hlt0) (trodAll_cons_mk (shut_bool Tryd.underlying4 y1) trodAll_mk0)
  simp only [List.append_nil, List.nil_append] at hfin
  exact hfin

set_option maxRecDepth 100000 in
theorem laid_met (os : Os) : laidMet Tryd.prog Rows.lengthsOfMatchesReferenceRow.laid ((laidWorld os).forCall (fun _ _ => 0) ⟨#[], #[Value.slice none 0 0, Value.bool false], []⟩).memory :=
  laidMet_of_run' 8 (by kernel_rfl) (by kernel_rfl)
set_option maxRecDepth 100000 in
theorem reads (os : Os) {H : Type} (enc : TypeId × Value → H) : ∃ places, DataW.whole enc Tryd.prog ((laidWorld os).forCall (fun _ _ => 0) ⟨#[], #[Value.slice none 0 0, Value.bool false], []⟩).memory Tryd.f3.params.toList Rows.lengthsOfMatchesReferenceSpec.vars false #[Value.slice none 0 0, Value.bool false].toList 8 = some ([.nil, .lit (.bool false)], [], places) :=
  ⟨[], by kernel_rfl⟩
set_option maxRecDepth 100000 in
theorem lifted (os : Os) (started : os.Started) (H : Type) (enc : TypeId × Value → H) (F : Stop.Interp) :
    ReturnsInHanded {} Tryd.checked os 3 .any ((OpenSpec.ofChange Rows.lengthsOfMatchesReferenceSpec).preRow enc Tryd.prog Tryd.f3 Rows.lengthsOfMatchesReferenceRow.domain false Rows.lengthsOfMatchesReferenceRow.laid) (((OpenSpec.ofChange Rows.lengthsOfMatchesReferenceSpec).at F).post enc Tryd.prog Tryd.f3 false true false false) := by
  obtain ⟨places, hx⟩ := reads os enc
  refine returnsInHanded_of_row (C := Tryd.checked) (s := OpenSpec.ofChange Rows.lengthsOfMatchesReferenceSpec) ownKnobNone started (by kernel_rfl) Tryd.func3
    (witness_row_at (enc := enc) (C := Tryd.checked) false (laidWorld os) #[Value.slice none 0 0, Value.bool false] rfl (by kernel_rfl) (by kernel_rfl) (by kernel_rfl)
      (OpenSpec.preRow_of_cond 8 hx (by kernel_rfl) (fun k hk => by cases hk) (by kernel_rfl) (laid_met os))) ?_
  intro W base args ds gs before hval hW _ _ hsz hL _ _
  exact contract H enc W base args ds gs before hval hW hL hsz
theorem said : Rows.LengthsOfMatchesReferenceSaid :=
  OpenClaim.holds_of_cond 3 Tryd.f3 rfl rfl rfl rfl rfl rfl rfl ⟨rfl, rfl, rfl, rfl, rfl⟩ rfl rfl rfl rfl rfl (by kernel_rfl) Tryd.func3 (by kernel_rfl)
    (of_decide_eq_true (by kernel_rfl)) (by unfold Func.isWrapper; first | (rw [if_pos (by decide +kernel)]; kernel_rfl) | (rw [if_neg (by decide +kernel)]; exact ⟨rfl, rfl⟩))
    (fun os started H enc _ F => by rw [OpenClaim.pre_eq_preRow]; exact lifted os started H enc F)
theorem plain (f : FuncId) (fn : Func) (hf : Tryd.pinned.checked.prog.funcNamed "univocal/univocallaw05.LengthsOfMatchesReference" = some f) (hfn : Tryd.pinned.checked.prog.funcs[f]? = some fn) :
    false = Tryd.pinned.checked.prog.looks [] ∧ ∀ (j : Nat) t, fn.params[j]? = some t → Tryd.pinned.checked.prog.wantsStandIn t = false := by
  obtain rfl : f = 3 := Option.some.inj ((show Tryd.prog.funcNamed "univocal/univocallaw05.LengthsOfMatchesReference" = some 3 by kernel_rfl).symm.trans hf) |>.symm
  obtain rfl : fn = Tryd.f3 := (Option.some.inj (Tryd.func3.symm.trans hfn)).symm
  refine ⟨by kernel_rfl, fun j t ht => ?_⟩
  rw [Tryd.params3] at ht
  have hm := Array.mem_of_getElem? ht
  have hm2 : t = 22 ∨ t = 4 := by
    simp at hm
    first
      | exact hm
      | exact hm.symm
      | (rcases hm with h | h | h <;> simp [h])
      | omega
  rcases hm2 with rfl | rfl
  · exact (show Tryd.prog.wantsStandIn 22 = false by kernel_rfl)
  · exact (show Tryd.prog.wantsStandIn 4 = false by kernel_rfl)
/-- The card. -/
theorem card : Rows.LengthsOfMatchesReferenceCardSaid :=
  Claim7.holds_tied_plain_at .later [] _ _ _ _ said (fun _ h => by cases h) (by kernel_rfl) (fun _ h => by cases h) lengthsOfMatchesReference_row_tie rfl ⟨rfl, rfl⟩ (by kernel_rfl) rfl plain (by kernel_rfl)
end Go.Proofs.YtepncbbegpeilaaDoor.lengthsOfMatchesReference
