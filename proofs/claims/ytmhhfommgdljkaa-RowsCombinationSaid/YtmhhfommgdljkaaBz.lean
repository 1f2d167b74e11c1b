/-
  Walk: halves.
-/
import Derived.Test.YtmhhfommgdljkaaBy
import Derived.Test.YtmhhfommgdljkaaHz
import Derived.RegionTactic
import Derived.BigRegion
import Derived.ChangeAlike
import Derived.Deep.WholeRow
import Derived.Deep.DeepCutAuto
set_option linter.unusedSimpArgs false
set_option linter.unusedVariables false
namespace Go.Proofs.Ytmhhfommgdljkaa
open Go.RowKit Go.Lib

theorem box_one (B : List Iv) : (boxA B).all (·.oneCell') = true := by
  unfold boxA
  rw [List.all_toArray, List.all_eq_true]
  intro v hv
  induction B with
  | nil => cases hv
  | cons u B ih =>
    simp only [boxL, List.mem_cons] at hv
    rcases hv with rfl | rfl | rfl | rfl | hv
    · rfl
    · rfl
    · rfl
    · rfl
    · exact ih hv
theorem box_info {B : List Iv} (h : B.length = 12) : (Try.prog.info? 58).map (·.size) = some (boxA B).size := by
  rw [boxA_size, h]; kernel_rfl
/-- a box is read whole. -/
theorem BxAt.yields {w : World} {g : Nat} {B : List Iv} (h : BxAt w g B) {o : Oper} {x : Operand} {ρ : Operand → Value} (ho : o.op = .load 58 x) (hx : ρ x = .pointer (some ⟨g, 0, none⟩)) : (execOp ρ o).run Try.prog w = .ok (.value (.agg (boxA B))) w := by
  unfold execOp
  simp only [ho, hx, Instr.loadAt, Instr.sureAddr, Sem.run_bind, Sem.run_pure, Result.andThen_ok, h.load]
theorem BxAt.set {w : World} {g : Nat} {B : List Iv} (h : BxAt w g B) {i : Nat} {v : Iv} (hv : B[i]? = some v) (x : Int) :
    BxAt (w.setCell ⟨g, i * 4, none⟩ (.int .i64 x)) g (B.set i { v with lo := x }) ∧ BxAt (w.setCell ⟨g, i * 4 + 1, none⟩ (.int .i64 x)) g (B.set i { v with hi := x }) ∧ BxAt (w.setCell ⟨g, i * 4 + 2, none⟩ (.int .i64 x)) g (B.set i { v with lr := x }) ∧ BxAt (w.setCell ⟨g, i * 4 + 3, none⟩ (.int .i64 x)) g (B.set i { v with hr := x }) := by
  have e := boxA_set x hv
  exact ⟨⟨(h.1.set _ _).cast e.1, by simp [h.2]⟩, ⟨(h.1.set _ _).cast e.2.1, by simp [h.2]⟩, ⟨(h.1.set _ _).cast e.2.2.1, by simp [h.2]⟩, ⟨(h.1.set _ _).cast e.2.2.2, by simp [h.2]⟩⟩
theorem BxAt.other {w : World} {g : Nat} {B : List Iv} (h : BxAt w g B) {a : Addr} (hne : g ≠ a.block) (v : Value) : BxAt (w.setCell a v) g B := ⟨h.1.other hne v, h.2⟩
theorem BxAt.free {w : World} {g : Nat} {B : List Iv} (h : BxAt w g B) (i : Nat) : w.frozen? ⟨g, i, none⟩ = false := h.1.free i
/-- the block after a whole box was stored into it. -/
theorem BxAt.row {w : World} {g : Nat} {c : Array Value} (h : Blk w g c 58) {B : List Iv} (hB : B.length = 12) : BxAt (w.setRow g (boxA B)) g B := by
  refine ⟨⟨?_⟩, hB⟩
  unfold World.setRow
  simp only [Array.getElem?_modify, h.is]
  simp
theorem Blk.row {w : World} {b g : Nat} {vs : Array Value} {t : TypeId} (h : Blk w b vs t) (hne : g ≠ b) (cs : Array Value) : Blk (w.setRow g cs) b vs t := by
  constructor
  unfold World.setRow
  simp only [Array.getElem?_modify, if_neg hne]
  exact h.is
theorem below_row {B : Nat} {a w : World} (h : Below B a w) {g : Nat} (hg : B ≤ g) (cs : Array Value) : Below B a (w.setRow g cs) := by
  refine ⟨h.os, h.tape, h.output, by simpa [World.setRow] using h.size, fun b hb => ?_⟩
  have hne : g ≠ b := by omega
  unfold World.setRow
  simp only [Array.getElem?_modify, if_neg hne]
  exact h.block b hb
theorem wpList_load_want {P : Program} {ops : Array Oper} {rest : List Oper} {o : Oper} {a : Act} {w : World} {Q : Exit → Act → World → Prop} (hwd : Region.wanted o (yielded ops a.tmps) = true) (ty : TypeId) (x : Operand) (ho : o.op = .load ty x)
    (g : Nat) (hx : a.eval x = .pointer (some ⟨g, 0, none⟩)) (t : TypeId) (cs : Array Value) (fr : Nat × Nat) (d : TypeDesc) (hg : w.heap[g]? = some (.cells cs t fr))
    (hu : P.underlying ty = some d) (hd : (match d with | .struct _ | .array _ _ => true | _ => false) = true) (hi : (P.info? ty).map (·.size) = some cs.size)
    (h : wpList P ops Q rest (a.put o.dst (.agg cs)) w) : wpList P ops Q (o :: rest) a w :=
  wpList_step fun _ hK => by rw [if_pos hwd]; exact wp_load_row ty x ho g hx t cs fr d hg hu hd hi (hK _ _ h)
def zA : Array Value := #[.int .i64 0, .int .i64 0, .int .i64 0, .int .i64 0, .int .i64 0, .int .i64 0, .int .i64 0, .int .i64 0, .int .i64 0, .int .i64 0, .int .i64 0, .int .i64 0, .int .i64 0, .int .i64 0, .int .i64 0, .int .i64 0, .int .i64 0, .int .i64 0, .int .i64 0, .int .i64 0, .int .i64 0, .int .i64 0, .int .i64 0, .int .i64 0, .int .i64 0, .int .i64 0, .int .i64 0, .int .i64 0, .int .i64 0, .int .i64 0, .int .i64 0, .int .i64 0, .int .i64 0, .int .i64 0, .int .i64 0, .int .i64 0, .int .i64 0, .int .i64 0, .int .i64 0, .int .i64 0, .int .i64 0, .int .i64 0, .int .i64 0, .int .i64 0, .int .i64 0, .int .i64 0, .int .i64 0, .int .i64 0]
theorem wp_world {P : Program} {c : Code} {Q : Exit → Act → World → Prop} {a : Act} {w : World} (h : ∀ W, W = w → Code.wp P c Q a W) : Code.wp P c Q a w := h w rfl
theorem at_world {K : Act → World → Prop} {a : Act} {w : World} (h : ∀ W, W = w → K a W) : K a w := h w rfl
theorem below_at {w w1 w2 : World} (h : Below w.heap.size w w1) (hb : Below w1.heap.size w1 w2) : Below w.heap.size w w2 := below_two h hb
set_option maxRecDepth 100000 in
set_option maxHeartbeats 2000000 in
theorem halves_any (B : List Iv) (i : Nat) (v : Iv) (w : World) (hB : B.length = 12) (hv : B[i]? = some v) (hf : 0 ≤ v.lo ∧ v.lo ≤ v.hi ∧ v.hi ≤ 64) :
    Calls Try.prog 35 #[.agg (boxA B), .int .i64 i] w fun e w' => e = .returned (.tuple #[.agg (boxA (lower B i v v.hr)), .agg (boxA (upper B i v v.lr))]) ∧ Below w.heap.size w w' := by
  have hi : i < 12 := by have := lt_of_get hv; omega
  have hi2 : (i : Int) < 12 := by omega
  obtain ⟨f1, f2, f3⟩ := hf
  have D1 : BxAt (w.alloc (.cells (boxA B) 58)) w.heap.size B := ⟨Blk.new w (boxA B) 58, hB⟩
  have HV := Lib.hid hv
  have HB := Lib.hid hB
  have hbw1 : Below w.heap.size w (w.alloc (.cells (boxA B) 58)) := by go_grown
  clear hB hv
  go_enter Try.func35, Try.ntmps35
  go_wp2
  have hn1 : w.heap.size < (w.alloc (.cells (boxA B) 58)).heap.size := by simp
  have hnn : (w.alloc (.cells (boxA B) 58)).heap.size = w.heap.size + 1 := by simp
  generalize (w.alloc (.cells (boxA B) 58)) = w1 at D1 hbw1 hn1 hnn ⊢
  rw [show w.heap.size + 1 = w1.heap.size from hnn.symm]
  refine wp_world fun w2 hw2 => ?_
  have E4 : Blk w2 w1.heap.size zA 58 := by rw [hw2]; exact (Blk.new w1 zA _).alloc _
  have E5 : Blk w2 (w1.heap.size + 1) zA 58 := by rw [hw2]; exact Blk.alloc1 w1 zA zA _ _
  have hb1 : Below w1.heap.size w1 w2 := by rw [hw2]; exact ((Below.refl _ w1).alloc (Nat.le_refl _) _).alloc (by simp) _
  have hsz : w1.heap.size + 2 = w2.heap.size := by rw [hw2]; simp
  clear hw2
  replace D1 := D1.grows hb1
  obtain ⟨Z4, hZ4, E4'⟩ : ∃ Z : Array Value, Z.size = 48 ∧ Blk w2 w1.heap.size Z 58 := ⟨zA, rfl, E4⟩
  obtain ⟨Z5, hZ5, E5'⟩ : ∃ Z : Array Value, Z.size = 48 ∧ Blk w2 (w1.heap.size + 1) Z 58 := ⟨zA, rfl, E5⟩
  have HE := Lib.hid (And.intro (And.intro hZ4 E4') (And.intro hZ5 E5'))
  have HD := Lib.hid D1
  have HBW := Lib.hid (And.intro (below_two hbw1 hb1) (And.intro hn1 hsz))
  clear E4 E5 E4' E5' hZ4 hZ5 D1 hbw1 hb1 hn1 hsz hnn
  go_cut [6, 7] (fun p q wx => ∃ g h : Nat, p = .pointer (some ⟨g, 0, none⟩) ∧ q = .pointer (some ⟨h, 0, none⟩) ∧ g ≠ h ∧ w2.heap.size ≤ g ∧ w2.heap.size ≤ h ∧ BxAt wx g B ∧ BxAt wx h B ∧ Below w2.heap.size w2 wx)
  case first =>
    have hHd : BxAt w2.drew w.heap.size B := HD.out.grows (below_drew (Below.refl _ _))
    have hdz : w2.drew.heap.size = w2.heap.size := rfl
    refine wp_held 5 (fun W => BxAt W w.heap.size B ∧ Below w2.heap.size w2 W) (by kernel_rfl) ⟨hHd, below_drew (Below.refl _ _)⟩ (fun hHeld => ?_)
    refine wpAnyZ_take (i := 0) (v := .agg (boxA B)) rfl (by kernel_rfl) (by decide) (by kernel_rfl) (fun _ _ _ h => h) _ _ _ _ (by kernel_rfl) (by kernel_rfl) (Or.inl ⟨by rfl, fun W hW => hW.1.yields rfl rfl⟩) hHeld ?_
    simp only [Act.put, List.setIfInBounds_toArray, List.set_cons_zero, List.set_cons_succ]
    refine wpAnyZ_take (i := 1) (v := .agg (boxA B)) rfl (by kernel_rfl) (by decide) (by kernel_rfl) (fun _ _ _ h => h) _ _ _ _ (by kernel_rfl) (by kernel_rfl) (Or.inl ⟨by rfl, fun W hW => hW.1.yields rfl rfl⟩) hHeld ?_
    simp only [Act.put, List.setIfInBounds_toArray, List.set_cons_zero, List.set_cons_succ]
    clear HE
    refine wpAnyZ_two (j := 2) (k := 3) (by kernel_rfl) rfl rfl (fun K hK => ?_) (fun K hK => ?_)
    · go_simp
      refine at_world fun W3 hW3 => ?_
      have F3 : Blk W3 w2.heap.size zA 58 := by rw [hW3]; exact (Blk.new w2 zA _).drew
      have b3 : Below w2.heap.size w2 W3 := by rw [hW3]; exact ((Below.refl _ w2).alloc (Nat.le_refl _) _).drew
      have z3 : W3.heap.size = w2.heap.size + 1 := by rw [hW3]; show (w2.alloc _).heap.size = _; simp
      clear hW3
      have HZ3 := Lib.hid z3
      clear z3
      refine hK.out _ _ (.inr ⟨HD.out.grows b3, b3⟩) ?_
      clear hK K hHeld hHd hdz
      try simp only [Act.put, List.setIfInBounds_toArray, List.set_cons_zero, List.set_cons_succ]
      refine wpAnyZ_one (j := 3) (by kernel_rfl) rfl (fun K hK => ?_)
      go_simp
      refine at_world fun W4 hW4 => ?_
      have F4 : Blk W4 W3.heap.size zA 58 := by rw [hW4]; exact Blk.new W3 zA _
      have b34 : Below W3.heap.size W3 W4 := by rw [hW4]; exact ((Below.refl _ W3).alloc (Nat.le_refl _) _)
      have b4 : Below w2.heap.size w2 W4 := b3.trans (b34.mono (by have := HZ3.out; omega))
      replace F3 := F3.grows b34
      clear hW4 b34 b3
      refine hK.out _ _ (.inr ⟨HD.out.grows b4, b4⟩) ?_
      clear hK K
      try simp only [Act.put, List.setIfInBounds_toArray, List.set_cons_zero, List.set_cons_succ]
      have z3 := HZ3.out
      refine wpAnyZ_one (j := 4) (by kernel_rfl) rfl (fun K hK => ?_)
      rw [if_pos (by rfl)]
      refine wp_store_row _ _ _ rfl w2.heap.size (boxA B) rfl rfl _ _ F3.is (box_info HB.out) (by rw [boxA_size, HB.out]; rfl) (box_one B) ?_
      have G4 := BxAt.row (B := B) F3 HB.out
      have G5 := Blk.row (g := w2.heap.size) F4 (by omega) (boxA B)
      have b5 := below_row b4 (g := w2.heap.size) (by omega) (boxA B)
      have n4 : w2.heap.size ≠ W3.heap.size := by omega
      have l4 : w2.heap.size ≤ w2.heap.size := by omega
      have l5 : w2.heap.size ≤ W3.heap.size := by omega
      generalize (W4.setRow w2.heap.size (boxA B)) = W5 at G4 G5 b5 ⊢
      clear F3 F4 b4 z3 HZ3
      refine hK.out _ _ (.inr ⟨HD.out.grows b5, b5⟩) ?_
      clear hK K
      try simp only [Act.put, List.setIfInBounds_toArray, List.set_cons_zero, List.set_cons_succ]
      refine wpAnyZ_one (j := 5) (by kernel_rfl) rfl (fun K hK => ?_)
      rw [if_pos (by rfl)]
      refine wp_store_row _ _ _ rfl (W3.heap.size) (boxA B) rfl rfl _ _ G5.is (box_info HB.out) (by rw [boxA_size, HB.out]; rfl) (box_one B) ?_
      refine hK.out _ _ (.inl rfl) ?_
      clear hK K
      refine wpAnyZ_done (by kernel_rfl) ?_
      try simp only [Act.put, List.setIfInBounds_toArray, List.set_cons_zero, List.set_cons_succ]
      have G6 := BxAt.row (B := B) G5 HB.out
      have G7 : BxAt (W5.setRow (W3.heap.size) (boxA B)) (w2.heap.size) B := ⟨Blk.row G4.1 (Ne.symm n4) _, G4.2⟩
      have b6 := below_row b5 (g := (W3.heap.size)) l5 (boxA B)
      generalize (W5.setRow (W3.heap.size) (boxA B)) = W6 at G6 G7 b6 ⊢
      simp only [Act.put, List.getElem_toArray, List.getElem_cons_succ, List.getElem_cons_zero]
      go_wp2_with fail
      go_meet
      exact ⟨w2.heap.size, W3.heap.size, rfl, rfl, n4, l4, l5, G7, G6, b6⟩
    · go_simp
      refine at_world fun W3 hW3 => ?_
      have F3 : Blk W3 w2.heap.size zA 58 := by rw [hW3]; exact (Blk.new w2 zA _).drew
      have b3 : Below w2.heap.size w2 W3 := by rw [hW3]; exact ((Below.refl _ w2).alloc (Nat.le_refl _) _).drew
      have z3 : W3.heap.size = w2.heap.size + 1 := by rw [hW3]; show (w2.alloc _).heap.size = _; simp
      clear hW3
      have HZ3 := Lib.hid z3
      clear z3
      refine hK.out _ _ (.inr ⟨HD.out.grows b3, b3⟩) ?_
      clear hK K hHeld hHd hdz
      try simp only [Act.put, List.setIfInBounds_toArray, List.set_cons_zero, List.set_cons_succ]
      refine wpAnyZ_one (j := 2) (by kernel_rfl) rfl (fun K hK => ?_)
      go_simp
      refine at_world fun W4 hW4 => ?_
      have F4 : Blk W4 W3.heap.size zA 58 := by rw [hW4]; exact Blk.new W3 zA _
      have b34 : Below W3.heap.size W3 W4 := by rw [hW4]; exact ((Below.refl _ W3).alloc (Nat.le_refl _) _)
      have b4 : Below w2.heap.size w2 W4 := b3.trans (b34.mono (by have := HZ3.out; omega))
      replace F3 := F3.grows b34
      clear hW4 b34 b3
      refine hK.out _ _ (.inr ⟨HD.out.grows b4, b4⟩) ?_
      clear hK K
      try simp only [Act.put, List.setIfInBounds_toArray, List.set_cons_zero, List.set_cons_succ]
      have z3 := HZ3.out
      refine wpAnyZ_one (j := 4) (by kernel_rfl) rfl (fun K hK => ?_)
      rw [if_pos (by rfl)]
      refine wp_store_row _ _ _ rfl W3.heap.size (boxA B) rfl rfl _ _ F4.is (box_info HB.out) (by rw [boxA_size, HB.out]; rfl) (box_one B) ?_
      have G4 := BxAt.row (B := B) F4 HB.out
      have G5 := Blk.row (g := W3.heap.size) F3 (by omega) (boxA B)
      have b5 := below_row b4 (g := W3.heap.size) (by omega) (boxA B)
      have n4 : W3.heap.size ≠ w2.heap.size := by omega
      have l4 : w2.heap.size ≤ W3.heap.size := by omega
      have l5 : w2.heap.size ≤ w2.heap.size := by omega
      generalize (W4.setRow W3.heap.size (boxA B)) = W5 at G4 G5 b5 ⊢
      clear F3 F4 b4 z3 HZ3
      refine hK.out _ _ (.inr ⟨HD.out.grows b5, b5⟩) ?_
      clear hK K
      try simp only [Act.put, List.setIfInBounds_toArray, List.set_cons_zero, List.set_cons_succ]
      refine wpAnyZ_one (j := 5) (by kernel_rfl) rfl (fun K hK => ?_)
      rw [if_pos (by rfl)]
      refine wp_store_row _ _ _ rfl (w2.heap.size) (boxA B) rfl rfl _ _ G5.is (box_info HB.out) (by rw [boxA_size, HB.out]; rfl) (box_one B) ?_
      refine hK.out _ _ (.inl rfl) ?_
      clear hK K
      refine wpAnyZ_done (by kernel_rfl) ?_
      try simp only [Act.put, List.setIfInBounds_toArray, List.set_cons_zero, List.set_cons_succ]
      have G6 := BxAt.row (B := B) G5 HB.out
      have G7 : BxAt (W5.setRow (w2.heap.size) (boxA B)) (W3.heap.size) B := ⟨Blk.row G4.1 (Ne.symm n4) _, G4.2⟩
      have b6 := below_row b5 (g := (w2.heap.size)) l5 (boxA B)
      generalize (W5.setRow (w2.heap.size) (boxA B)) = W6 at G6 G7 b6 ⊢
      simp only [Act.put, List.getElem_toArray, List.getElem_cons_succ, List.getElem_cons_zero]
      go_wp2_with fail
      go_meet
      exact ⟨W3.heap.size, w2.heap.size, rfl, rfl, n4, l4, l5, G7, G6, b6⟩
  case rest =>
    obtain ⟨g, h, rfl, rfl, hne, hg, hh, G, H, hb⟩ := hcut
    obtain ⟨⟨⟨hZ4, E4⟩, hZ5, E5⟩, ⟨hbw, hn1, hsz⟩⟩ := And.intro HE.out HBW.out
    have D := HD.out.grows hb
    replace E4 := E4.grows hb
    replace E5 := E5.grows hb
    obtain ⟨d0, d1, d2, d3⟩ := D.cells HV.out
    obtain ⟨x0, x1, x2, x3⟩ := G.cells HV.out
    have fz := G.free (i * 4 + 1)
    have hlt := G.1.lt
    have HX := Lib.hid (And.intro (And.intro hZ4 E4) (And.intro (And.intro hZ5 E5) (And.intro G (And.intro H (And.intro (And.intro hne (And.intro hg hh)) (And.intro hb (And.intro hbw (And.intro hn1 hsz))))))))
    clear HE HBW D G H hne hg hh hb hbw hn1 hsz hZ4 E4 hZ5 E5
    have hq1 : IntKind.i64.wrap (v.lo + v.hi) = v.lo + v.hi := IntWalk.i64_in _ (by omega)
    go_wp2
    go_region
    obtain ⟨⟨hZ4, E4⟩, ⟨hZ5, E5⟩, G, H, ⟨hne, hg, hh⟩, hb, hbw, hn1, hsz⟩ := HX.out
    have hsb := hb.size
    clear HX
    refine at_world fun w3 hw3 => ?_
    generalize hmid : (v.lo + v.hi) / 2 = mid at hw3 ⊢
    have hmid1 : 0 ≤ mid := by omega
    have hmid2 : mid ≤ 64 := by omega
    have G3 : BxAt w3 g (B.set i { v with hi := mid }) := by rw [hw3]; exact ((G.set HV.out mid).2.1).grows (below_drew (Below.refl _ _))
    have H3 : BxAt w3 h B := by rw [hw3]; exact (H.other (Ne.symm hne) _).grows (below_drew (Below.refl _ _))
    have E43 : Blk w3 w1.heap.size Z4 58 := by rw [hw3]; exact (E4.other (by show _ ≠ g; omega) _).drew
    have E53 : Blk w3 (w1.heap.size + 1) Z5 58 := by rw [hw3]; exact (E5.other (by show _ ≠ g; omega) _).drew
    have hb3 : Below w2.heap.size w2 w3 := by rw [hw3]; exact below_drew (hb.setCell (p := ⟨g, i * 4 + 1, none⟩) hg _)
    clear hw3 G H E4 E5 hb d0 d1 d2 d3 x0 x1 x2 x3 fz hlt hsb
    have HG := Lib.hid G3
    have HH := Lib.hid H3
    have hvi : (B.set i { v with hi := mid })[i]? = some { v with hi := mid } := by rw [set_at HV.out, if_pos rfl]
    obtain ⟨y0, y1, y2, y3⟩ := G3.cells hvi
    obtain ⟨t0, t1, t2, t3⟩ := H3.cells HV.out
    have fz := H3.free (i * 4)
    have hlt := H3.1.lt
    have HX := Lib.hid (And.intro (And.intro hZ4 E43) (And.intro (And.intro hZ5 E53) (And.intro (And.intro hne (And.intro hg hh)) (And.intro hb3 (And.intro hbw (And.intro hn1 hsz))))))
    have HM := Lib.hid hmid
    clear G3 H3 hvi hne hg hh hb3 hbw hn1 hsz hZ4 E43 hZ5 E53 hmid
    go_wp2
    obtain ⟨⟨hZ4, E4⟩, ⟨hZ5, E5⟩, ⟨hne, hg, hh⟩, hb, hbw, hn1, hsz⟩ := HX.out
    refine wp_world fun w4 hw4 => ?_
    have G4 : BxAt w4 g (lower B i v v.hr) := by
      rw [hw4]; have := HG.out.other (a := ⟨h, i * 4, none⟩) hne (.int .i64 (mid + 1))
      unfold lower; rw [HM.out]; exact this
    have H4 : BxAt w4 h (upper B i v v.lr) := by
      rw [hw4]; have := (HH.out.set HV.out (mid + 1)).1
      unfold upper; rw [HM.out]; exact this
    have E44 : Blk w4 w1.heap.size Z4 58 := by rw [hw4]; exact (E4.other (by show _ ≠ h; omega) _)
    have E54 : Blk w4 (w1.heap.size + 1) Z5 58 := by rw [hw4]; exact (E5.other (by show _ ≠ h; omega) _)
    have hb4 : Below w2.heap.size w2 w4 := by rw [hw4]; exact (hb.setCell (p := ⟨h, i * 4, none⟩) hh _)
    clear hw4 E4 E5 hb HG HH HX t0 t1 t2 t3 y0 y1 y2 y3 fz hlt
    generalize hL : lower B i v v.hr = L at G4
    generalize hU : upper B i v v.lr = U at H4
    have HL := Lib.hid hL
    have HU := Lib.hid hU
    clear hL hU
    refine wp_held 3 (fun W => BxAt W g L ∧ BxAt W h U) (by kernel_rfl) ⟨G4.grows (below_drew (Below.refl _ _)), H4.grows (below_drew (Below.refl _ _))⟩ (fun hHeld => ?_)
    refine wpAnyZ_take (i := 0) (v := .agg (boxA L)) rfl (by kernel_rfl) (by decide) (by kernel_rfl) (fun _ _ _ h => h) _ _ _ _ (by kernel_rfl) (by kernel_rfl) (Or.inl ⟨by rfl, fun W hW => hW.1.yields rfl rfl⟩) hHeld ?_
    simp only [Act.put, List.setIfInBounds_toArray, List.set_cons_zero, List.set_cons_succ]
    refine wpAnyZ_take (i := 1) (v := .agg (boxA U)) rfl (by kernel_rfl) (by decide) (by kernel_rfl) (fun _ _ _ h => h) _ _ _ _ (by kernel_rfl) (by kernel_rfl) (Or.inl ⟨by rfl, fun W hW => hW.2.yields rfl rfl⟩) hHeld ?_
    simp only [Act.put, List.setIfInBounds_toArray, List.set_cons_zero, List.set_cons_succ]
    have hgd := E44.drew
    have hhd := E54.drew
    have hbd := below_drew hb4
    generalize w4.drew = w5 at hHeld hgd hhd hbd ⊢
    clear G4 H4 E44 E54 hb4
    refine wpAnyZ_one (j := 2) (by kernel_rfl) rfl (fun K hK => ?_)
    rw [if_pos (by rfl)]
    refine wp_store_row _ _ _ rfl (w1.heap.size) (boxA L) rfl rfl _ _ hgd.is (box_info hHeld.1.2) (by rw [boxA_size, hHeld.1.2]; exact hZ4) (box_one L) ?_
    have R4 := BxAt.row (B := L) hgd hHeld.1.2
    have R5 := Blk.row (g := w1.heap.size) hhd (by omega) (boxA L)
    have b5 : Below w.heap.size w (w5.setRow w1.heap.size (boxA L)) := below_row (below_two hbw hbd) (by omega) _
    have G5 : BxAt (w5.setRow w1.heap.size (boxA L)) g L := ⟨Blk.row hHeld.1.1 (by omega) _, hHeld.1.2⟩
    have H5 : BxAt (w5.setRow w1.heap.size (boxA L)) h U := ⟨Blk.row hHeld.2.1 (by omega) _, hHeld.2.2⟩
    generalize (w5.setRow w1.heap.size (boxA L)) = w6 at R4 R5 b5 G5 H5 ⊢
    clear hHeld hgd hhd hbd
    refine hK.out _ _ (.inr ⟨G5, H5⟩) ?_
    clear hK K
    try simp only [Act.put, List.setIfInBounds_toArray, List.set_cons_zero, List.set_cons_succ]
    refine wpAnyZ_one (j := 3) (by kernel_rfl) rfl (fun K hK => ?_)
    rw [if_pos (by rfl)]
    refine wp_store_row _ _ _ rfl (w1.heap.size + 1) (boxA U) rfl rfl _ _ R5.is (box_info H5.2) (by rw [boxA_size, H5.2]; exact hZ5) (box_one U) ?_
    have Q5 := BxAt.row (B := U) R5 H5.2
    have Q4 : BxAt (w6.setRow (w1.heap.size + 1) (boxA U)) w1.heap.size L := ⟨Blk.row R4.1 (by omega) _, R4.2⟩
    have b6 : Below w.heap.size w (w6.setRow (w1.heap.size + 1) (boxA U)) := below_row b5 (by omega) _
    generalize (w6.setRow (w1.heap.size + 1) (boxA U)) = w7 at Q4 Q5 b6 ⊢
    refine hK.out _ _ (.inl rfl) ?_
    clear hK K
    refine wpAnyZ_done (by kernel_rfl) ?_
    simp only [Act.put, List.getElem_toArray, List.getElem_cons_succ, List.getElem_cons_zero]
    have l4 := Q4.load
    have l5 := Q5.load
    have HQ := Lib.hid b6
    clear Q4 Q5 b6 R4 R5 b5 G5 H5
    go_wp2_with fail
    refine bodyPost_ret (v := .tuple #[.agg (boxA L), .agg (boxA U)]) ?_ rfl ⟨by rw [HL.out, HU.out], HQ.out⟩
    simp [results, Try.results35, asAddr, l4, l5]
end Go.Proofs.Ytmhhfommgdljkaa
