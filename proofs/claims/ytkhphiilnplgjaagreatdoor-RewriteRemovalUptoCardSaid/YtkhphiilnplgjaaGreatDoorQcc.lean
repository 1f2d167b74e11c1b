/-
  Texts of the proof, one behind another: Yo, Yp, Yq, Yr.
-/
import Derived.Test.YtkhphiilnplgjaaGreatDoorQcb
import Derived.Laws.EntriesVeiled
import Derived.BigRegion
import Derived.RegionTactic
import Derived.Laws.ResultCell
import Derived.Laws.Rows
set_option linter.unusedSimpArgs false
set_option linter.unusedVariables false
namespace Go.Proofs.YtkhphiilnplgjaaGreatDoor
open Go.RowKit Go.Lib

set_option maxRecDepth 100000 in
set_option maxHeartbeats 1000000 in
theorem letters_kind (c : BitVec 256) (w : World) :
    Calls Tryz.prog 69 #[.agg #[.int .u64 (wd c 0), .int .u64 (wd c 1), .int .u64 (wd c 2), .int .u64 (wd c 3)]] w fun e w' => e = .returned (.agg #[.int .i64 0, .int .i64 0, .int .i64 0, .func (.func 87) #[] #[.pointer (some ⟨w.heap.size, 0, none⟩)], .func (.func 88) #[] #[.pointer (some ⟨w.heap.size, 0, none⟩)]]) ∧ Blk w' w.heap.size #[.int .u64 (wd c 0), .int .u64 (wd c 1), .int .u64 (wd c 2), .int .u64 (wd c 3)] 27 ∧ Below w.heap.size w w' ∧ w.heap.size < w'.heap.size := by
  have hmf : ∀ (fn : Fn) (first cap : Array Value) (w : World), (Instr.makeFunc fn first cap).run Tryz.prog w = .ok (.func fn first cap) w := fun _ _ _ _ => rfl
  go_enter Tryz.func69, Tryz.ntmps69
  go_wp2
  go_returns
  exact ⟨rfl, (Blk.new w _ _).alloc _, by go_grown, by simp; omega⟩
set_option maxRecDepth 100000 in
set_option maxHeartbeats 1000000 in
theorem percent_kind (lax : Bool) (w : World) :
    Calls Tryz.prog 70 #[.agg #[.bool lax]] w fun e w' => e = .returned (.agg #[.int .i64 0, .int .i64 0, .int .i64 0, .func (.func 96) #[] #[.pointer (some ⟨w.heap.size, 0, none⟩)], .func (.func 98) #[] #[.pointer (some ⟨w.heap.size, 0, none⟩)]]) ∧ Blk w' w.heap.size #[.bool lax] 120 ∧ Below w.heap.size w w' ∧ w.heap.size < w'.heap.size := by
  have hmf : ∀ (fn : Fn) (first cap : Array Value) (w : World), (Instr.makeFunc fn first cap).run Tryz.prog w = .ok (.func fn first cap) w := fun _ _ _ _ => rfl
  go_enter Tryz.func70, Tryz.ntmps70
  go_wp2
  go_returns
  exact ⟨rfl, (Blk.new w _ _).alloc _, by go_grown, by simp; omega⟩
set_option maxRecDepth 100000 in
set_option maxHeartbeats 1000000 in
theorem replacement_kind (all : Bool) (w : World) :
    Calls Tryz.prog 71 #[.bool all] w fun e w' => e = .returned (.agg #[.int .i64 1, .int .i64 4, .int .i64 4, .func (.func 100) #[] #[.pointer (some ⟨w.heap.size, 0, none⟩)], .func (.func 102) #[] #[.pointer (some ⟨w.heap.size, 0, none⟩)]]) ∧ Blk w' w.heap.size #[.bool all] 4 ∧ Below w.heap.size w w' ∧ w.heap.size < w'.heap.size := by
  have hmf : ∀ (fn : Fn) (first cap : Array Value) (w : World), (Instr.makeFunc fn first cap).run Tryz.prog w = .ok (.func fn first cap) w := fun _ _ _ _ => rfl
  go_enter Tryz.func71, Tryz.ntmps71
  go_wp2
  go_returns
  exact ⟨rfl, (Blk.new w _ _).alloc _, by go_grown, by simp; omega⟩
set_option maxRecDepth 100000 in
set_option maxHeartbeats 1000000 in
theorem drop_kind (w : World) :
    Calls Tryz.prog 72 #[] w fun e w' => e = .returned (.agg #[.int .i64 1, .int .i64 8, .int .i64 0, .func (.func 105) #[] #[], .func (.func 107) #[] #[]]) ∧ Below w.heap.size w w' ∧ w.heap.size < w'.heap.size := by
  have hmf : ∀ (fn : Fn) (first cap : Array Value) (w : World), (Instr.makeFunc fn first cap).run Tryz.prog w = .ok (.func fn first cap) w := fun _ _ _ _ => rfl
  go_enter Tryz.func72, Tryz.ntmps72
  go_wp2
  go_returns
  exact ⟨rfl, by go_grown, by simp⟩
set_option maxRecDepth 100000 in
set_option maxHeartbeats 1000000 in
theorem squeeze_kind (w : World) :
    Calls Tryz.prog 73 #[] w fun e w' => e = .returned (.agg #[.int .i64 1, .int .i64 1, .int .i64 0, .func (.func 109) #[] #[], .func (.func 110) #[] #[]]) ∧ Below w.heap.size w w' ∧ w.heap.size < w'.heap.size := by
  have hmf : ∀ (fn : Fn) (first cap : Array Value) (w : World), (Instr.makeFunc fn first cap).run Tryz.prog w = .ok (.func fn first cap) w := fun _ _ _ _ => rfl
  go_enter Tryz.func73, Tryz.ntmps73
  go_wp2
  go_returns
  exact ⟨rfl, by go_grown, by simp⟩
end Go.Proofs.YtkhphiilnplgjaaGreatDoor

namespace Go.Proofs.YtkhphiilnplgjaaGreatDoor
open Go.RowKit Go.Lib

def kindC (bl bu p1 p2 r1 r2 : Nat) : Array Value := #[.int .i64 0, .int .i64 0, .int .i64 0, .nilFunc, .nilFunc, .int .i64 0, .int .i64 0, .int .i64 0, .func (.func 87) #[] #[.pointer (some ⟨bl, 0, none⟩)], .func (.func 88) #[] #[.pointer (some ⟨bl, 0, none⟩)], .int .i64 0, .int .i64 0, .int .i64 0, .func (.func 87) #[] #[.pointer (some ⟨bu, 0, none⟩)], .func (.func 88) #[] #[.pointer (some ⟨bu, 0, none⟩)], .int .i64 0, .int .i64 0, .int .i64 0, .func (.func 96) #[] #[.pointer (some ⟨p1, 0, none⟩)], .func (.func 98) #[] #[.pointer (some ⟨p1, 0, none⟩)], .int .i64 0, .int .i64 0, .int .i64 0, .func (.func 96) #[] #[.pointer (some ⟨p2, 0, none⟩)], .func (.func 98) #[] #[.pointer (some ⟨p2, 0, none⟩)], .int .i64 1, .int .i64 4, .int .i64 4, .func (.func 100) #[] #[.pointer (some ⟨r1, 0, none⟩)], .func (.func 102) #[] #[.pointer (some ⟨r1, 0, none⟩)], .int .i64 1, .int .i64 4, .int .i64 4, .func (.func 100) #[] #[.pointer (some ⟨r2, 0, none⟩)], .func (.func 102) #[] #[.pointer (some ⟨r2, 0, none⟩)], .int .i64 1, .int .i64 8, .int .i64 0, .func (.func 105) #[] #[], .func (.func 107) #[] #[], .int .i64 1, .int .i64 1, .int .i64 0, .func (.func 109) #[] #[], .func (.func 110) #[] #[]]
/-- the boxes that the kinds' closures hold. -/
structure Boxes (w : World) (bl bu p1 p2 r1 r2 : Nat) : Prop where
  low : Blk w bl #[.int .u64 (wd (rng 65 26) 0), .int .u64 (wd (rng 65 26) 1), .int .u64 (wd (rng 65 26) 2), .int .u64 (wd (rng 65 26) 3)] 27
  up : Blk w bu #[.int .u64 (wd (rng 97 26) 0), .int .u64 (wd (rng 97 26) 1), .int .u64 (wd (rng 97 26) 2), .int .u64 (wd (rng 97 26) 3)] 27
  strict : Blk w p1 #[.bool false] 120
  lax : Blk w p2 #[.bool true] 120
  first : Blk w r1 #[.bool false] 4
  all : Blk w r2 #[.bool true] 4
theorem Boxes.grows {w w' : World} {bl bu p1 p2 r1 r2 : Nat} (h : Boxes w bl bu p1 p2 r1 r2) (hb : Below w.heap.size w w') : Boxes w' bl bu p1 p2 r1 r2 :=
  ⟨h.low.grows hb, h.up.grows hb, h.strict.grows hb, h.lax.grows hb, h.first.grows hb, h.all.grows hb⟩
/-- the kinds' table. -/
def KindsR (w : World) (e : Ending) (w' : World) : Prop := ∃ B bl bu p1 p2 r1 r2, e = .returned (.slice (some ⟨B, 0, none⟩) 9 9) ∧ Blk w' B (kindC bl bu p1 p2 r1 r2) 70 ∧ Boxes w' bl bu p1 p2 r1 r2 ∧ Below w.heap.size w w'
set_option maxRecDepth 100000 in
set_option maxHeartbeats 4000000 in
theorem kinds_any (w : World) : Calls Tryz.prog 51 #[] w (KindsR w) := by
  go_enter Tryz.func51, Tryz.ntmps51
  go_wp2_with fail
  refine (range_any 65 90 _ (by omega) (by omega) (by omega) (by omega)).mono ?_
  rintro e w1 ⟨rfl, b1⟩
  rw [show ((90 : Int) + 1 - 65).toNat = 26 from rfl]
  generalize hx : rng 65 26 = cl
  have HX := Lib.hid hx
  clear hx
  go_wp2_with fail
  refine (letters_kind cl _).mono ?_
  rintro e w2 ⟨rfl, B1, b2, s2⟩
  have h2 := below_two b1 b2
  clear b1 b2
  generalize w1.heap.size = bl at B1 s2 ⊢
  have H2 := Lib.hid h2
  have K1 := Lib.hid B1
  clear h2 B1 s2
  go_wp2_with fail
  refine (range_any 97 122 _ (by omega) (by omega) (by omega) (by omega)).mono ?_
  rintro e w3 ⟨rfl, b3⟩
  rw [show ((122 : Int) + 1 - 97).toNat = 26 from rfl]
  generalize hx : rng 97 26 = cu
  have HU := Lib.hid hx
  clear hx
  replace K1 := Lib.hid (K1.out.grows b3)
  have H3 := Lib.hid (below_two H2.out b3)
  clear b3 H2
  go_wp2_with fail
  refine (letters_kind cu _).mono ?_
  rintro e w4 ⟨rfl, B2, b4, s4⟩
  replace K1 := Lib.hid (K1.out.grows b4)
  have K2 := Lib.hid B2
  have H4 := Lib.hid (below_two H3.out b4)
  clear B2 b4 s4 H3
  generalize w3.heap.size = bu at K2 ⊢
  go_wp2_with fail
  refine (percent_kind false _).mono ?_
  rintro e w5 ⟨rfl, B3, b5, s5⟩
  replace K1 := Lib.hid (K1.out.grows b5)
  replace K2 := Lib.hid (K2.out.grows b5)
  have K3 := Lib.hid B3
  have H5 := Lib.hid (below_two H4.out b5)
  clear B3 b5 s5 H4
  generalize w4.heap.size = p1 at K3 ⊢
  go_wp2_with fail
  refine (percent_kind true _).mono ?_
  rintro e w6 ⟨rfl, B4, b6, s6⟩
  replace K1 := Lib.hid (K1.out.grows b6)
  replace K2 := Lib.hid (K2.out.grows b6)
  replace K3 := Lib.hid (K3.out.grows b6)
  have K4 := Lib.hid B4
  have H6 := Lib.hid (below_two H5.out b6)
  clear B4 b6 s6 H5
  generalize w5.heap.size = p2 at K4 ⊢
  go_wp2_with fail
  refine (replacement_kind false _).mono ?_
  rintro e w7 ⟨rfl, B5, b7, s7⟩
  replace K1 := Lib.hid (K1.out.grows b7)
  replace K2 := Lib.hid (K2.out.grows b7)
  replace K3 := Lib.hid (K3.out.grows b7)
  replace K4 := Lib.hid (K4.out.grows b7)
  have K5 := Lib.hid B5
  have H7 := Lib.hid (below_two H6.out b7)
  clear B5 b7 s7 H6
  generalize w6.heap.size = r1 at K5 ⊢
  go_wp2_with fail
  refine (replacement_kind true _).mono ?_
  rintro e w8 ⟨rfl, B6, b8, s8⟩
  replace K1 := Lib.hid (K1.out.grows b8)
  replace K2 := Lib.hid (K2.out.grows b8)
  replace K3 := Lib.hid (K3.out.grows b8)
  replace K4 := Lib.hid (K4.out.grows b8)
  replace K5 := Lib.hid (K5.out.grows b8)
  have K6 := Lib.hid B6
  have H8 := Lib.hid (below_two H7.out b8)
  clear B6 b8 s8 H7
  generalize w7.heap.size = r2 at K6 ⊢
  go_wp2_with fail
  refine (drop_kind _).mono ?_
  rintro e w9 ⟨rfl, b9, s9⟩
  have HB9 := Lib.hid (show Boxes w9 bl bu p1 p2 r1 r2 from ⟨by rw [HX.out]; exact K1.out.grows b9, by rw [HU.out]; exact K2.out.grows b9, K3.out.grows b9, K4.out.grows b9, K5.out.grows b9, K6.out.grows b9⟩)
  have H9 := Lib.hid (below_two H8.out b9)
  clear b9 s9 K1 K2 K3 K4 K5 K6 H8
  go_wp2_with fail
  refine (squeeze_kind _).mono ?_
  rintro e wx ⟨rfl, bx, sx⟩
  have HBx := Lib.hid (HB9.out.grows bx)
  have Hx := Lib.hid (below_two H9.out bx)
  clear bx sx HB9 H9
  go_wp2
  go_ret
  exact ⟨_, bl, bu, p1, p2, r1, r2, rfl, Blk.new wx (kindC bl bu p1 p2 r1 r2) _, HBx.out.grows (by go_grown), Hx.out.alloc Hx.out.size _⟩
end Go.Proofs.YtkhphiilnplgjaaGreatDoor

namespace Go.Proofs.YtkhphiilnplgjaaGreatDoor
open Go.RowKit Go.Lib

theorem kindSize : (Tryz.prog.info? 70).map (·.size) = some 5 := by kernel_rfl
/-- the results of kindOf: what lies in the named result's block, and a slot. -/
theorem results_kind (tmps : Array Value) (w : World) (g : Nat) (cs : Array Value) (hp : tmps.getD 2 undef = .pointer (some ⟨g, 0, none⟩)) (hg : Blk w g cs 70) (hs : cs.size = 5) :
    (results Tryz.f34 tmps).run Tryz.prog w = .ok (.tuple #[.agg cs, tmps.getD 3 undef]) w := by
  rw [results_cell_tmp (p := 2) (u := 3) (ty := 70) rfl, hp]
  have h2 := run_loadVar_row (P := Tryz.prog) w g 70 70 cs (0, 0) _ hg.is Tryz.underlying70 rfl (by rw [kindSize, hs])
  simp [asAddr, Result.andThen, h2]
theorem Blk.ne_type {w : World} {b b' : Nat} {vs vs' : Array Value} {t t' : TypeId} (h : Blk w b vs t) (h' : Blk w b' vs' t') (hne : t ≠ t') : b ≠ b' := by
  rintro rfl
  have h2 := h.is.symm.trans h'.is
  simp only [Option.some.injEq, Obj.cells.injEq] at h2
  exact hne h2.2.1
theorem Boxes.set {w : World} {bl bu p1 p2 r1 r2 q : Nat} {cs : Array Value} (h : Boxes w bl bu p1 p2 r1 r2) (hr : Blk w q cs 70) (i : Nat) (v : Value) : Boxes (w.setCell ⟨q, i, none⟩ v) bl bu p1 p2 r1 r2 :=
  ⟨h.low.other (h.low.ne_type hr (by decide)) v, h.up.other (h.up.ne_type hr (by decide)) v, h.strict.other (h.strict.ne_type hr (by decide)) v, h.lax.other (h.lax.ne_type hr (by decide)) v, h.first.other (h.first.ne_type hr (by decide)) v, h.all.other (h.all.ne_type hr (by decide)) v⟩
theorem Boxes.drew {w : World} {bl bu p1 p2 r1 r2 : Nat} (h : Boxes w bl bu p1 p2 r1 r2) : Boxes w.drew bl bu p1 p2 r1 r2 :=
  ⟨h.low.drew, h.up.drew, h.strict.drew, h.lax.drew, h.first.drew, h.all.drew⟩
def zeroK : Value := .agg #[.int .i64 0, .int .i64 0, .int .i64 0, .nilFunc, .nilFunc]
set_option maxRecDepth 100000 in
set_option maxHeartbeats 4000000 in
theorem kindOf_bad (v : Value) (k : Int) (old new : List Int) (w : World) (hv : IsOp w v k old new) (hk : ¬ (1 ≤ k ∧ k ≤ 8)) :
    Calls Tryz.prog 34 #[v] w fun e w' => e = .returned (.tuple #[zeroK, .bool false]) ∧ Below w.heap.size w w' := by
  obtain ⟨po, co, pn, cn, rfl, h1, h2, c1, c2⟩ := hv.shape
  clear hv h1 h2
  have D0 := Blk.new w #[.int .i64 k, .slice po old.length co, .slice pn new.length cn] 24
  have D1 := D0.alloc (.cells #[.int .i64 0, .int .i64 0, .int .i64 0, .nilFunc, .nilFunc] 70)
  have R1 := Blk.alloc1 w #[.int .i64 k, .slice po old.length co, .slice pn new.length cn] #[.int .i64 0, .int .i64 0, .int .i64 0, .nilFunc, .nilFunc] 24 70
  have hbw1 : Below w.heap.size w ((w.alloc (.cells #[.int .i64 k, .slice po old.length co, .slice pn new.length cn] 24)).alloc (.cells #[.int .i64 0, .int .i64 0, .int .i64 0, .nilFunc, .nilFunc] 70)) := by go_grown
  clear D0
  go_enter Tryz.func34, Tryz.ntmps34
  go_wp2_with fail
  generalize ((w.alloc (.cells #[.int .i64 k, .slice po old.length co, .slice pn new.length cn] 24)).alloc (.cells #[.int .i64 0, .int .i64 0, .int .i64 0, .nilFunc, .nilFunc] 70)) = w1 at D1 R1 hbw1 ⊢
  refine (kinds_any w1).mono ?_
  rintro e w2 ⟨B, bl, bu, p1, p2, r1, r2, rfl, HK, HB, hb2⟩
  have D2 := D1.grows hb2
  have R2 := R1.grows hb2
  have hbw2 := below_two hbw1 hb2
  have x0 : w2.cell? ⟨w.heap.size, 0, none⟩ = some (.int .i64 k) := D2.cell 0 rfl
  have y0 : w2.cell? ⟨w.heap.size + 1, 0, none⟩ = some (.int .i64 0) := R2.cell 0 rfl
  have y1 : w2.cell? ⟨w.heap.size + 1, 1, none⟩ = some (.int .i64 0) := R2.cell 1 rfl
  have y2 : w2.cell? ⟨w.heap.size + 1, 2, none⟩ = some (.int .i64 0) := R2.cell 2 rfl
  have y3 : w2.cell? ⟨w.heap.size + 1, 3, none⟩ = some .nilFunc := R2.cell 3 rfl
  have y4 : w2.cell? ⟨w.heap.size + 1, 4, none⟩ = some .nilFunc := R2.cell 4 rfl
  have f0 := R2.free 0
  have f1 := R2.free 1
  have f2 := R2.free 2
  have f3 := R2.free 3
  have f4 := R2.free 4
  have hsf := @run_store_func
  clear HK HB hb2 D1 R1 D2 hbw1
  rcases (show k < 1 ∨ 8 < k by omega) with h | h
  · have d1 : decide (k < 1) = true := by rw [decide_eq_true_iff]; exact h
    go_wp2
    refine bodyPost_ret (results_kind _ _ (w.heap.size + 1) #[.int .i64 0, .int .i64 0, .int .i64 0, .nilFunc, .nilFunc] rfl (((((R2.set 0 _).set 1 _).set 2 _).set 3 _).set 4 _) rfl) rfl ⟨rfl, ?_⟩
    exact ((((hbw2.setCell (by show w.heap.size ≤ w.heap.size + 1; omega) _).setCell (by show w.heap.size ≤ w.heap.size + 1; omega) _).setCell (by show w.heap.size ≤ w.heap.size + 1; omega) _).setCell (by show w.heap.size ≤ w.heap.size + 1; omega) _).setCell (by show w.heap.size ≤ w.heap.size + 1; omega) _
  · have d1 : decide (k < 1) = false := by rw [decide_eq_false_iff_not]; omega
    have d2 : decide (9 ≤ k) = true := by rw [decide_eq_true_iff]; omega
    go_wp2
    refine bodyPost_ret (results_kind _ _ (w.heap.size + 1) #[.int .i64 0, .int .i64 0, .int .i64 0, .nilFunc, .nilFunc] rfl (((((R2.set 0 _).set 1 _).set 2 _).set 3 _).set 4 _) rfl) rfl ⟨rfl, ?_⟩
    exact ((((hbw2.setCell (by show w.heap.size ≤ w.heap.size + 1; omega) _).setCell (by show w.heap.size ≤ w.heap.size + 1; omega) _).setCell (by show w.heap.size ≤ w.heap.size + 1; omega) _).setCell (by show w.heap.size ≤ w.heap.size + 1; omega) _).setCell (by show w.heap.size ≤ w.heap.size + 1; omega) _
set_option maxRecDepth 100000 in
set_option maxHeartbeats 4000000 in
theorem kindOf_gen (k a b c F3 F4 : Nat) (C3 C4 : Nat → Nat → Nat → Nat → Nat → Nat → Array Value) (v : Value) (old new : List Int) (w : World) (hv : IsOp w v (k : Int) old new) (hk : 1 ≤ k) (hk8 : k ≤ 8)
    (hC : ∀ bl bu p1 p2 r1 r2, (kindC bl bu p1 p2 r1 r2)[k * 5]? = some (.int .i64 (a : Int)) ∧ (kindC bl bu p1 p2 r1 r2)[k * 5 + 1]? = some (.int .i64 (b : Int)) ∧ (kindC bl bu p1 p2 r1 r2)[k * 5 + 2]? = some (.int .i64 (c : Int)) ∧
      (kindC bl bu p1 p2 r1 r2)[k * 5 + 3]? = some (.func (.func F3) #[] (C3 bl bu p1 p2 r1 r2)) ∧ (kindC bl bu p1 p2 r1 r2)[k * 5 + 4]? = some (.func (.func F4) #[] (C4 bl bu p1 p2 r1 r2)))
    (ha : a ≤ 100) (hb : b ≤ 100) (hc : c ≤ 100) (ho : old.length ≤ 140737488351232) (hn : new.length ≤ 140737488351232) :
    Calls Tryz.prog 34 #[v] w fun e w' => ∃ bl bu p1 p2 r1 r2, e = .returned (.tuple #[.agg #[.int .i64 (a : Int), .int .i64 (b : Int), .int .i64 (c : Int), .func (.func F3) #[] (C3 bl bu p1 p2 r1 r2), .func (.func F4) #[] (C4 bl bu p1 p2 r1 r2)], .bool (decide (a ≤ old.length ∧ old.length ≤ b ∧ new.length ≤ c))]) ∧ Boxes w' bl bu p1 p2 r1 r2 ∧ Below w.heap.size w w' := by
  obtain ⟨po, co, pn, cn, rfl, h1, h2, c1, c2⟩ := hv.shape
  clear hv h1 h2
  have D0 := Blk.new w #[.int .i64 k, .slice po old.length co, .slice pn new.length cn] 24
  have D1 := D0.alloc (.cells #[.int .i64 0, .int .i64 0, .int .i64 0, .nilFunc, .nilFunc] 70)
  have R1 := Blk.alloc1 w #[.int .i64 k, .slice po old.length co, .slice pn new.length cn] #[.int .i64 0, .int .i64 0, .int .i64 0, .nilFunc, .nilFunc] 24 70
  have hbw1 : Below w.heap.size w ((w.alloc (.cells #[.int .i64 k, .slice po old.length co, .slice pn new.length cn] 24)).alloc (.cells #[.int .i64 0, .int .i64 0, .int .i64 0, .nilFunc, .nilFunc] 70)) := by go_grown
  clear D0
  have HCC := Lib.hid hC
  clear hC
  go_enter Tryz.func34, Tryz.ntmps34
  go_wp2_with fail
  generalize ((w.alloc (.cells #[.int .i64 k, .slice po old.length co, .slice pn new.length cn] 24)).alloc (.cells #[.int .i64 0, .int .i64 0, .int .i64 0, .nilFunc, .nilFunc] 70)) = w1 at D1 R1 hbw1 ⊢
  refine (kinds_any w1).mono ?_
  rintro e w2 ⟨B, bl, bu, p1, p2, r1, r2, rfl, HK, HB, hb2⟩
  have D2 := D1.grows hb2
  have R2 := R1.grows hb2
  have hbw2 := below_two hbw1 hb2
  have hBl := HK.lt
  have hRl := R2.lt
  obtain ⟨e0, e1, e2, e3, e4⟩ := HCC.out bl bu p1 p2 r1 r2
  have x0 : w2.cell? ⟨w.heap.size, 0, none⟩ = some (.int .i64 k) := D2.cell 0 rfl
  have x1 : w2.cell? ⟨w.heap.size, 1, none⟩ = some (.slice po old.length co) := D2.cell 1 rfl
  have x2 : w2.cell? ⟨w.heap.size, 2, none⟩ = some (.slice pn new.length cn) := D2.cell 2 rfl
  have z0 := HK.cell (k * 5) e0
  have z1 := HK.cell (k * 5 + 1) e1
  have z2 := HK.cell (k * 5 + 2) e2
  have z3 := HK.cell (k * 5 + 3) e3
  have z4 := HK.cell (k * 5 + 4) e4
  have HBx := Lib.hid HB
  clear HK HB hb2 D1 R1 hbw1 e0 e1 e2 e3 e4 HCC
  generalize h3 : C3 bl bu p1 p2 r1 r2 = G3 at z3
  generalize h4 : C4 bl bu p1 p2 r1 r2 = G4 at z4
  have H3 := Lib.hid h3
  have H4 := Lib.hid h4
  clear h3 h4
  have d1 : decide ((k : Int) < 1) = false := by rw [decide_eq_false_iff_not]; omega
  have d2 : decide ((9 : Int) ≤ (k : Int)) = false := by rw [decide_eq_false_iff_not]; omega
  have hsf := @run_store_func
  go_wp2
  clear z0 z1 z2 z3 z4 d1 d2
  have N := Blk.new w2 #[.int .i64 (a : Int), .int .i64 (b : Int), .int .i64 (c : Int), .func (.func F3) #[] G3, .func (.func F4) #[] G4] 70
  have HB3 := Lib.hid (HBx.out.grows (w' := w2.alloc (.cells #[.int .i64 (a : Int), .int .i64 (b : Int), .int .i64 (c : Int), .func (.func F3) #[] G3, .func (.func F4) #[] G4] 70)) (by go_grown))
  have D3 := D2.alloc (.cells #[.int .i64 (a : Int), .int .i64 (b : Int), .int .i64 (c : Int), .func (.func F3) #[] G3, .func (.func F4) #[] G4] 70)
  have R3 := R2.alloc (.cells #[.int .i64 (a : Int), .int .i64 (b : Int), .int .i64 (c : Int), .func (.func F3) #[] G3, .func (.func F4) #[] G4] 70)
  have hbw3 := hbw2.alloc hbw2.size (.cells #[.int .i64 (a : Int), .int .i64 (b : Int), .int .i64 (c : Int), .func (.func F3) #[] G3, .func (.func F4) #[] G4] 70)
  clear D2 R2 x0 x1 x2 HBx
  generalize (w2.alloc (.cells #[.int .i64 (a : Int), .int .i64 (b : Int), .int .i64 (c : Int), .func (.func F3) #[] G3, .func (.func F4) #[] G4] 70)) = w3 at N HB3 D3 R3 hbw3 ⊢
  clear hbw2
  generalize w2.heap.size = g at N hRl hBl ⊢
  have x1 : w3.cell? ⟨w.heap.size, 1, none⟩ = some (.slice po old.length co) := D3.cell 1 rfl
  have x2 : w3.cell? ⟨w.heap.size, 2, none⟩ = some (.slice pn new.length cn) := D3.cell 2 rfl
  have n0 : w3.cell? ⟨g, 0, none⟩ = some (.int .i64 (a : Int)) := N.cell 0 rfl
  have n1 : w3.cell? ⟨g, 1, none⟩ = some (.int .i64 (b : Int)) := N.cell 1 rfl
  have n2 : w3.cell? ⟨g, 2, none⟩ = some (.int .i64 (c : Int)) := N.cell 2 rfl
  have n3 : w3.cell? ⟨g, 3, none⟩ = some (.func (.func F3) #[] G3) := N.cell 3 rfl
  have n4 : w3.cell? ⟨g, 4, none⟩ = some (.func (.func F4) #[] G4) := N.cell 4 rfl
  have y0 : w3.cell? ⟨w.heap.size + 1, 0, none⟩ = some (.int .i64 0) := R3.cell 0 rfl
  have y1 : w3.cell? ⟨w.heap.size + 1, 1, none⟩ = some (.int .i64 0) := R3.cell 1 rfl
  have y2 : w3.cell? ⟨w.heap.size + 1, 2, none⟩ = some (.int .i64 0) := R3.cell 2 rfl
  have y3 : w3.cell? ⟨w.heap.size + 1, 3, none⟩ = some .nilFunc := R3.cell 3 rfl
  have y4 : w3.cell? ⟨w.heap.size + 1, 4, none⟩ = some .nilFunc := R3.cell 4 rfl
  have f0 := R3.free 0
  have f1 := R3.free 1
  have f2 := R3.free 2
  have f3 := R3.free 3
  have f4 := R3.free 4
  have HR := Lib.hid R3
  have HW := Lib.hid hbw3
  have hgr : g ≠ w.heap.size + 1 := by omega
  clear D3 N R3 hbw3 hBl
  by_cases g1 : a ≤ old.length
  · have g1d : decide ((a : Int) ≤ (old.length : Int)) = true := by rw [decide_eq_true_iff]; omega
    by_cases g2 : old.length ≤ b
    · have g2d : decide ((old.length : Int) ≤ (b : Int)) = true := by rw [decide_eq_true_iff]; omega
      by_cases g3 : new.length ≤ c
      · have g3d : decide ((new.length : Int) ≤ (c : Int)) = true := by rw [decide_eq_true_iff]; omega
        have HX := Lib.hid (show decide (a ≤ old.length ∧ old.length ≤ b ∧ new.length ≤ c) = true by rw [decide_eq_true_iff]; exact ⟨g1, g2, g3⟩)
        go_region
        all_goals
          go_wp2
          refine bodyPost_ret (results_kind _ _ (w.heap.size + 1) #[.int .i64 (a : Int), .int .i64 (b : Int), .int .i64 (c : Int), .func (.func F3) #[] G3, .func (.func F4) #[] G4] rfl ((((((HR.out).set 0 _).set 1 _).set 2 _).set 3 _).set 4 _).drew rfl) rfl ⟨bl, bu, p1, p2, r1, r2, ?_, ?_, ?_⟩
          · rw [HX.out, H3.out, H4.out]; rfl
          · exact (((((HB3.out.set HR.out 0 _).set (HR.out.set 0 _) 1 _).set ((HR.out.set 0 _).set 1 _) 2 _).set (((HR.out.set 0 _).set 1 _).set 2 _) 3 _).set ((((HR.out.set 0 _).set 1 _).set 2 _).set 3 _) 4 _).drew
          · exact (((((HW.out.setCell (by show w.heap.size ≤ w.heap.size + 1; omega) _).setCell (by show w.heap.size ≤ w.heap.size + 1; omega) _).setCell (by show w.heap.size ≤ w.heap.size + 1; omega) _).setCell (by show w.heap.size ≤ w.heap.size + 1; omega) _).setCell (by show w.heap.size ≤ w.heap.size + 1; omega) _).drew
      · have g3d : decide ((new.length : Int) ≤ (c : Int)) = false := by rw [decide_eq_false_iff_not]; omega
        have HX := Lib.hid (show decide (a ≤ old.length ∧ old.length ≤ b ∧ new.length ≤ c) = false by rw [decide_eq_false_iff_not]; exact fun h => g3 h.2.2)
        go_region
        all_goals
          go_wp2
          refine bodyPost_ret (results_kind _ _ (w.heap.size + 1) #[.int .i64 (a : Int), .int .i64 (b : Int), .int .i64 (c : Int), .func (.func F3) #[] G3, .func (.func F4) #[] G4] rfl ((((((HR.out).set 0 _).set 1 _).set 2 _).set 3 _).set 4 _).drew rfl) rfl ⟨bl, bu, p1, p2, r1, r2, ?_, ?_, ?_⟩
          · rw [HX.out, H3.out, H4.out]; rfl
          · exact (((((HB3.out.set HR.out 0 _).set (HR.out.set 0 _) 1 _).set ((HR.out.set 0 _).set 1 _) 2 _).set (((HR.out.set 0 _).set 1 _).set 2 _) 3 _).set ((((HR.out.set 0 _).set 1 _).set 2 _).set 3 _) 4 _).drew
          · exact (((((HW.out.setCell (by show w.heap.size ≤ w.heap.size + 1; omega) _).setCell (by show w.heap.size ≤ w.heap.size + 1; omega) _).setCell (by show w.heap.size ≤ w.heap.size + 1; omega) _).setCell (by show w.heap.size ≤ w.heap.size + 1; omega) _).setCell (by show w.heap.size ≤ w.heap.size + 1; omega) _).drew
    · have g2d : decide ((old.length : Int) ≤ (b : Int)) = false := by rw [decide_eq_false_iff_not]; omega
      have HX := Lib.hid (show decide (a ≤ old.length ∧ old.length ≤ b ∧ new.length ≤ c) = false by rw [decide_eq_false_iff_not]; exact fun h => g2 h.2.1)
      go_region
      all_goals
        go_wp2
        refine bodyPost_ret (results_kind _ _ (w.heap.size + 1) #[.int .i64 (a : Int), .int .i64 (b : Int), .int .i64 (c : Int), .func (.func F3) #[] G3, .func (.func F4) #[] G4] rfl ((((((HR.out).set 0 _).set 1 _).set 2 _).set 3 _).set 4 _).drew rfl) rfl ⟨bl, bu, p1, p2, r1, r2, ?_, ?_, ?_⟩
        · rw [HX.out, H3.out, H4.out]; rfl
        · exact (((((HB3.out.set HR.out 0 _).set (HR.out.set 0 _) 1 _).set ((HR.out.set 0 _).set 1 _) 2 _).set (((HR.out.set 0 _).set 1 _).set 2 _) 3 _).set ((((HR.out.set 0 _).set 1 _).set 2 _).set 3 _) 4 _).drew
        · exact (((((HW.out.setCell (by show w.heap.size ≤ w.heap.size + 1; omega) _).setCell (by show w.heap.size ≤ w.heap.size + 1; omega) _).setCell (by show w.heap.size ≤ w.heap.size + 1; omega) _).setCell (by show w.heap.size ≤ w.heap.size + 1; omega) _).setCell (by show w.heap.size ≤ w.heap.size + 1; omega) _).drew
  · have g1d : decide ((a : Int) ≤ (old.length : Int)) = false := by rw [decide_eq_false_iff_not]; omega
    have HX := Lib.hid (show decide (a ≤ old.length ∧ old.length ≤ b ∧ new.length ≤ c) = false by rw [decide_eq_false_iff_not]; exact fun h => g1 h.1)
    go_region
    all_goals
      go_wp2
      refine bodyPost_ret (results_kind _ _ (w.heap.size + 1) #[.int .i64 (a : Int), .int .i64 (b : Int), .int .i64 (c : Int), .func (.func F3) #[] G3, .func (.func F4) #[] G4] rfl ((((((HR.out).set 0 _).set 1 _).set 2 _).set 3 _).set 4 _).drew rfl) rfl ⟨bl, bu, p1, p2, r1, r2, ?_, ?_, ?_⟩
      · rw [HX.out, H3.out, H4.out]; rfl
      · exact (((((HB3.out.set HR.out 0 _).set (HR.out.set 0 _) 1 _).set ((HR.out.set 0 _).set 1 _) 2 _).set (((HR.out.set 0 _).set 1 _).set 2 _) 3 _).set ((((HR.out.set 0 _).set 1 _).set 2 _).set 3 _) 4 _).drew
      · exact (((((HW.out.setCell (by show w.heap.size ≤ w.heap.size + 1; omega) _).setCell (by show w.heap.size ≤ w.heap.size + 1; omega) _).setCell (by show w.heap.size ≤ w.heap.size + 1; omega) _).setCell (by show w.heap.size ≤ w.heap.size + 1; omega) _).setCell (by show w.heap.size ≤ w.heap.size + 1; omega) _).drew
end Go.Proofs.YtkhphiilnplgjaaGreatDoor

namespace Go.Proofs.YtkhphiilnplgjaaGreatDoor
open Go.RowKit Go.Lib

set_option maxRecDepth 100000 in
set_option maxHeartbeats 4000000 in
theorem do_gen (k a b c F3 F4 : Nat) (C3 C4 : Nat → Nat → Nat → Nat → Nat → Nat → Array Value) (v u : Value) (old new l : List Int) (r : Option (List Int)) (w : World) (hv : IsOp w v (k : Int) old new) (hu : IsY w u l) (hk : 1 ≤ k) (hk8 : k ≤ 8)
    (hC : ∀ bl bu p1 p2 r1 r2, (kindC bl bu p1 p2 r1 r2)[k * 5]? = some (.int .i64 (a : Int)) ∧ (kindC bl bu p1 p2 r1 r2)[k * 5 + 1]? = some (.int .i64 (b : Int)) ∧ (kindC bl bu p1 p2 r1 r2)[k * 5 + 2]? = some (.int .i64 (c : Int)) ∧
      (kindC bl bu p1 p2 r1 r2)[k * 5 + 3]? = some (.func (.func F3) #[] (C3 bl bu p1 p2 r1 r2)) ∧ (kindC bl bu p1 p2 r1 r2)[k * 5 + 4]? = some (.func (.func F4) #[] (C4 bl bu p1 p2 r1 r2)))
    (ha : a ≤ 100) (hb : b ≤ 100) (hc : c ≤ 100) (ho : old.length ≤ 140737488351232) (hn : new.length ≤ 140737488351232) (hF : ∀ args w, (callFunc F3 args).run Tryz.prog w = .ok (.enter F3 args) w)
    (hD : a ≤ old.length → old.length ≤ b → new.length ≤ c → ∀ W v2 bl bu p1 p2 r1 r2, Below w.heap.size w W → Boxes W bl bu p1 p2 r1 r2 → IsOp W v2 (k : Int) old new → IsY W u l → Calls Tryz.prog F3 (#[v2, u] ++ C3 bl bu p1 p2 r1 r2) W (DoRes W r)) :
    Calls Tryz.prog 14 #[v, u] w (DoRes w (if a ≤ old.length ∧ old.length ≤ b ∧ new.length ≤ c then r else none)) := by
  obtain ⟨po, co, pn, cn, rfl, h1, h2, c1, c2⟩ := hv.shape
  have D0 := Blk.new w #[.int .i64 k, .slice po old.length co, .slice pn new.length cn] 24
  have hbw1 : Below w.heap.size w (w.alloc (.cells #[.int .i64 k, .slice po old.length co, .slice pn new.length cn] 24)) := by go_grown
  have HI := Lib.hid (fun W (hW : Below w.heap.size w W) => hv.grows hW)
  have HU := Lib.hid (fun W (hW : Below w.heap.size w W) => hu.grows hW)
  have HD := Lib.hid hD
  have HCC := Lib.hid hC
  clear hv hu h1 h2 hD hC
  by_cases hok : a ≤ old.length ∧ old.length ≤ b ∧ new.length ≤ c
  · rw [if_pos hok]
    have HK := Lib.hid (HD.out hok.1 hok.2.1 hok.2.2)
    have HX := Lib.hid (decide_eq_true hok)
    clear hok
    go_enter Tryz.func14, Tryz.ntmps14
    go_wp2_with fail
    generalize (w.alloc (.cells #[.int .i64 k, .slice po old.length co, .slice pn new.length cn] 24)) = w1 at D0 hbw1 ⊢
    refine (kindOf_gen k a b c F3 F4 C3 C4 _ old new w1 (HI.out w1 hbw1) hk hk8 HCC.out ha hb hc ho hn).mono ?_
    rintro e w2 ⟨bl, bu, p1, p2, r1, r2, rfl, HB, hb2⟩
    have D2 := D0.grows hb2
    have hbw2 := below_two hbw1 hb2
    have hDl := D2.lt
    have HB2 := Lib.hid HB
    have hsf := @run_store_func
    clear D0 hb2 hbw1 HB HCC
    have x0 : w2.cell? ⟨w.heap.size, 0, none⟩ = some (.int .i64 k) := D2.cell 0 rfl
    have x1 : w2.cell? ⟨w.heap.size, 1, none⟩ = some (.slice po old.length co) := D2.cell 1 rfl
    have x2 : w2.cell? ⟨w.heap.size, 2, none⟩ = some (.slice pn new.length cn) := D2.cell 2 rfl
    generalize h3 : C3 bl bu p1 p2 r1 r2 = G3
    have H3 := Lib.hid h3
    clear h3
    generalize C4 bl bu p1 p2 r1 r2 = G4
    rw [HX.out]
    clear HX
    go_wp2_with fail
    have hbw3 := hbw2.alloc hbw2.size (.cells #[.int .i64 (a : Int), .int .i64 (b : Int), .int .i64 (c : Int), .func (.func F3) #[] G3, .func (.func F4) #[] G4] 70)
    have hq := HK.out _ (.agg #[.int .i64 k, .slice po old.length co, .slice pn new.length cn]) bl bu p1 p2 r1 r2 hbw3 (HB2.out.grows (by go_grown)) (HI.out _ hbw3) (HU.out _ hbw3)
    rw [H3.out] at hq
    clear x0 x1 x2 D2
    refine hq.mono ?_
    rintro e w4 ⟨u4, rfl, hY4, hb4⟩
    have HF := Lib.hid (And.intro hY4 (below_two hbw3 hb4))
    clear hq hY4 hb4 hbw3 hbw2
    go_wp2
    go_ret2
    exact ⟨_, rfl, HF.out.1, HF.out.2⟩
  · rw [if_neg hok]
    have HX := Lib.hid (decide_eq_false hok)
    clear hok
    go_enter Tryz.func14, Tryz.ntmps14
    go_wp2_with fail
    generalize (w.alloc (.cells #[.int .i64 k, .slice po old.length co, .slice pn new.length cn] 24)) = w1 at D0 hbw1 ⊢
    refine (kindOf_gen k a b c F3 F4 C3 C4 _ old new w1 (HI.out w1 hbw1) hk hk8 HCC.out ha hb hc ho hn).mono ?_
    rintro e w2 ⟨bl, bu, p1, p2, r1, r2, rfl, HB, hb2⟩
    have D2 := D0.grows hb2
    have hbw2 := below_two hbw1 hb2
    have hDl := D2.lt
    have HB2 := Lib.hid HB
    have hsf := @run_store_func
    clear D0 hb2 hbw1 HB HCC
    have x0 : w2.cell? ⟨w.heap.size, 0, none⟩ = some (.int .i64 k) := D2.cell 0 rfl
    have x1 : w2.cell? ⟨w.heap.size, 1, none⟩ = some (.slice po old.length co) := D2.cell 1 rfl
    have x2 : w2.cell? ⟨w.heap.size, 2, none⟩ = some (.slice pn new.length cn) := D2.cell 2 rfl
    generalize h3 : C3 bl bu p1 p2 r1 r2 = G3
    have H3 := Lib.hid h3
    clear h3
    generalize C4 bl bu p1 p2 r1 r2 = G4
    rw [HX.out]
    clear HX
    go_wp2
    go_ret2
    exact DoRes.none rfl (hbw2.alloc hbw2.size _)
theorem do_bad (v u : Value) (k : Int) (old new : List Int) (w : World) (hv : IsOp w v k old new) (hk : ¬ (1 ≤ k ∧ k ≤ 8)) :
    Calls Tryz.prog 14 #[v, u] w (DoRes w none) := by
  obtain ⟨po, co, pn, cn, rfl, h1, h2, c1, c2⟩ := hv.shape
  have hbw1 : Below w.heap.size w (w.alloc (.cells #[.int .i64 k, .slice po old.length co, .slice pn new.length cn] 24)) := by go_grown
  have HI := Lib.hid (hv.grows hbw1)
  clear hv h1 h2
  go_enter Tryz.func14, Tryz.ntmps14
  go_wp2_with fail
  generalize (w.alloc (.cells #[.int .i64 k, .slice po old.length co, .slice pn new.length cn] 24)) = w1 at HI hbw1 ⊢
  refine (kindOf_bad _ k old new w1 HI.out hk).mono ?_
  rintro e w2 ⟨rfl, hb2⟩
  have hbw2 := below_two hbw1 hb2
  clear hb2 hbw1 HI
  unfold zeroK
  go_wp2
  go_ret2
  exact DoRes.none rfl (hbw2.alloc hbw2.size _)
end Go.Proofs.YtkhphiilnplgjaaGreatDoor
