/-
  Walks: the least member once more, with the number of answers drawn; the comparison by least members; the sort by it.
-/
import Derived.Test.YthhlehhienndeaaDoorJ
import Derived.Test.YthhlehhienndeaaDoorR
set_option linter.unusedSimpArgs false
set_option linter.unusedVariables false
namespace Go.Proofs.YthhlehhienndeaaDoor
open Go.RowKit Go.Shelf Go.Lib Go.Sort
attribute [local go_sem] Oper.semAt_some

theorem below_put {B : Nat} (W : World) (l : Nat) (o' : Obj) (hl : B ≤ l) : Below B W (W.putObj l o') :=
  ⟨rfl, rfl, rfl, by simp, fun k hk => World.putObj_heap_other (by omega)⟩
theorem belowP {n₀ : Nat} {w : World} (hn : n₀ ≤ w.heap.size) (W : World) (l : Nat) (o o' : Obj) (hl : w.heap.size ≤ l) (_ : W.heap[l]? = some o) (_ : o.isCells = false) : Below n₀ W (W.putObj l o') := below_put W l o' (by omega)
theorem cell_put {W : World} {p : Addr} {v : Value} {l : Nat} {o : Obj} (h : W.cell? p = some v) (ho : W.heap[l]? = some o) (hc : o.isCells = false) (o' : Obj) : (W.putObj l o').cell? p = some v :=
  cell_kept h (grownBy_putObj' W l o') (fun r e => by cases e; exact ⟨o, ho, hc⟩)
theorem frozen_put {W : World} {p : Addr} {v : Value} {l : Nat} {o : Obj} (h : W.cell? p = some v) (ho : W.heap[l]? = some o) (hc : o.isCells = false) (o' : Obj) : (W.putObj l o').frozen? p = W.frozen? p :=
  frozen_kept h (grownBy_putObj' W l o') (fun r e => by cases e; exact ⟨o, ho, hc⟩)
theorem cell_lay {W : World} {p : Addr} {v : Value} (h : W.cell? p = some v) (o : Obj) : (W.alloc o).cell? p = some v := cell_kept h (World.grownBy_alloc W o none) (fun r e => by cases e)
theorem frozen_lay {W : World} {p : Addr} {v : Value} (h : W.cell? p = some v) (o : Obj) : (W.alloc o).frozen? p = W.frozen? p := frozen_kept h (World.grownBy_alloc W o none) (fun r e => by cases e)

set_option maxRecDepth 100000 in
set_option maxHeartbeats 1000000 in
theorem least_drawn (x : BitVec 256) (w : World) (hT : TabAt 0 Lib.deBruijn64tab w) (hg : 0 < w.heap.size) :
    Calls Tryd.prog 26 #[.agg #[.int .u64 (wd x 0), .int .u64 (wd x 1), .int .u64 (wd x 2), .int .u64 (wd x 3)]] w fun e w' => e = .returned (.int .i64 (leastI x)) ∧ Below w.heap.size w w' ∧ w'.drawn = w.drawn := by
  have HT := Lib.hid hT
  clear hT
  refine (callsIn_wide (n := 4)).1 ?_
  have hfn : ∀ k, Fence.wide.fn k := fun _ => trivial
  refine callsIn_of_wp_marks Tryd.func26 rfl trivial ?_ rfl
  simp only [Tryd.ntmps26, List.size_toArray, List.length_cons, List.length_nil, Nat.reduceAdd, Nat.reduceSub, Array.replicate_succ, Array.replicate_zero, List.push_toArray, List.append_toArray, List.nil_append, List.cons_append]
  gi_wp2_with (gi_at_call 45; refine (members_in _ x _).mono ?_; rintro e w' ⟨rfl, rfl⟩)
  have hbox := Blk.alloc2 w (.cells #[.int .u64 (wd x 0), .int .u64 (wd x 1), .int .u64 (wd x 2), .int .u64 (wd x 3)] 24) (.cells #[.int .i64 0] 3) #[.int .u64 (wd x 0), .int .u64 (wd x 1), .int .u64 (wd x 2), .int .u64 (wd x 3)] 24
  have hres := (Blk.alloc1 w #[.int .u64 (wd x 0), .int .u64 (wd x 1), .int .u64 (wd x 2), .int .u64 (wd x 3)] #[.int .i64 0] 24 3).alloc (.cells #[.int .u64 (wd x 0), .int .u64 (wd x 1), .int .u64 (wd x 2), .int .u64 (wd x 3)] 24)
  have hB0 : Below w.heap.size w (((w.alloc (.cells #[.int .u64 (wd x 0), .int .u64 (wd x 1), .int .u64 (wd x 2), .int .u64 (wd x 3)] 24)).alloc (.cells #[.int .i64 0] 3)).alloc (.cells #[.int .u64 (wd x 0), .int .u64 (wd x 1), .int .u64 (wd x 2), .int .u64 (wd x 3)] 24)) := by go_grown
  refine range_law (Kp := Below w.heap.size) (S := fun ys : List B8 => ys.map (·.1) = mems x 256) (Sp := fun pre : List B8 => pre.map (·.1) <+: mems x 256) (N := (mems x 256).length) (by decide) (gf := 53) (lb := #[.pointer (some ⟨w.heap.size + 1 + 1, 0, none⟩)]) rfl (enters_of Tryd.func53 (by kernel_rfl) rfl)
    (encs := fun y : B8 => #[Value.int .u8 y.1]) (fun _ => rfl) belowK_t (belowP (by simp; omega))
    (fun l J Jx W hW hY hJ => members1_in 3 (by decide) l (w.heap.size + 1 + 1) w.heap.size x J Jx hY W (hbox.grows hW) (tab_below (tab_below HT.out hB0 hg) hW (by simp)) hg hJ)
    (fun pre W => (pre = [] ∧ W.cell? ⟨w.heap.size + 1, 0, none⟩ = some (.int .i64 0) ∧ W.frozen? ⟨w.heap.size + 1, 0, none⟩ = false) ∧ Below w.heap.size w W ∧ W.drawn = w.drawn)
    (fun c pre W => (c = .ret ∧ ∃ y : B8, pre = [y] ∧ W.cell? ⟨w.heap.size + 1, 0, none⟩ = some (.int .i64 y.1)) ∧ Below w.heap.size w W ∧ W.drawn = w.drawn)
    ⟨fun s A l o o' hs hl ho hc => ⟨⟨hs.1.1, cell_put hs.1.2.1 ho hc o', (frozen_put hs.1.2.1 ho hc o').trans hs.1.2.2⟩, hs.2.1.trans (below_put A l o' (Nat.le_trans (by simp; omega) hl)), hs.2.2⟩,
     fun s A o hs hl => ⟨⟨hs.1.1, cell_lay hs.1.2.1 o, (frozen_lay hs.1.2.1 o).trans hs.1.2.2⟩, hs.2.1.alloc (by simp at hl; omega) o, hs.2.2⟩⟩
    (fun c => ⟨fun s A l o o' hs hl ho hc => ⟨⟨hs.1.1, by obtain ⟨y, h1, h2⟩ := hs.1.2; exact ⟨y, h1, cell_put h2 ho hc o'⟩⟩, hs.2.1.trans (below_put A l o' (Nat.le_trans (by simp; omega) hl)), hs.2.2⟩,
     fun s A o hs hl => ⟨⟨hs.1.1, by obtain ⟨y, h1, h2⟩ := hs.1.2; exact ⟨y, h1, cell_lay h2 o⟩⟩, hs.2.1.alloc (by simp at hl; omega) o, hs.2.2⟩⟩)
    ⟨⟨rfl, hres.cell 0 rfl, hres.free 0⟩, hB0, rfl⟩
    (fun y => { tmps := #[.agg #[.int .u64 (wd x 0), .int .u64 (wd x 1), .int .u64 (wd x 2), .int .u64 (wd x 3)], .pointer (some ⟨w.heap.size, 0, none⟩), .pointer (some ⟨w.heap.size + 1, 0, none⟩), .int .u8 y.1, .agg #[.int .u64 (wd x 0), .int .u64 (wd x 1), .int .u64 (wd x 2), .int .u64 (wd x 3)], .func (.func 53) #[] #[.pointer (some ⟨w.heap.size + 1 + 1, 0, none⟩)], .int .u8 y.1, undef, undef], defers := [] }) ?assign ?body ?done ?stop
  case assign =>
    intro l y W K hK
    gi_wp2
    exact hK
  case body =>
    rintro l pre y W ⟨⟨rfl, hcr, hfr⟩, hB, hdr⟩ _
    obtain ⟨y, hy⟩ := y
    have HD := Lib.hid hdr
    clear hdr
    dsimp only
    gi_wp2
    exact ⟨(KeepsOthers.setCell _ _ _).from _, ⟨rfl, ⟨y, hy⟩, rfl, World.cell?_setCell_same' _ _ _ (by rw [hcr]; rfl)⟩, hB.setCell (p := ⟨w.heap.size + 1, 0, none⟩) (by simp) _, HD.out⟩
  case done =>
    rintro D ys W hD hys ⟨⟨rfl, hcr, hfr⟩, hB, hdr⟩ hK
    have hl : leastI x = -1 := by unfold leastI; rw [← hys]; rfl
    have HL := Lib.hid hl
    have HD := Lib.hid hdr
    clear hl hys hdr
    gi_wp2
    have hK' := (KeepsOthers.setCell W ⟨w.heap.size + 1, 0, none⟩ (.int .i64 (-1))).same D _ hK rfl
    refine ⟨by simp, .inl ⟨_, _, rfl, run_takeDeferred hK', ?_⟩⟩
    have hc5 := cell_kept (World.cell?_setCell_same' W ⟨w.heap.size + 1, 0, none⟩ (.int .i64 (-1)) (by rw [hcr]; rfl)) (grownBy_putObj' _ D (.deferred none)) (fun r e => by cases e; exact ⟨_, hK', rfl⟩)
    refine ⟨.int .i64 (-1), ?_, by rw [HL.out], (hB.setCell (p := ⟨w.heap.size + 1, 0, none⟩) (by simp) _).trans (belowK_b (w := w) (Nat.le_refl _) _ D _ _ (by simp at hD; omega) hK' rfl rfl), HD.out⟩
    simp [results, Tryd.f26, go_sem, hc5]
  case stop =>
    rintro D c pre W hD hpre ⟨⟨rfl, y, rfl, hcr⟩, hB, hdr⟩ hK
    have hl : leastI x = y.1 := by
      obtain ⟨t, ht⟩ := hpre
      unfold leastI; rw [← ht]; rfl
    have HL := Lib.hid hl
    have HD := Lib.hid hdr
    clear hl hpre hdr
    obtain ⟨y, hy⟩ := y
    dsimp only at hcr
    gi_wp2
    refine ⟨by simp, .inl ⟨_, _, rfl, run_takeDeferred hK, ?_⟩⟩
    have hc5 := cell_kept hcr (grownBy_putObj' _ D (.deferred none)) (fun r e => by cases e; exact ⟨_, hK, rfl⟩)
    refine ⟨.int .i64 y, ?_, by rw [HL.out], hB.trans (belowK_b (w := w) (Nat.le_refl _) W D _ _ (by simp at hD; omega) hK rfl rfl), HD.out⟩
    simp [results, Tryd.f26, go_sem, hc5]
end Go.Proofs.YthhlehhienndeaaDoor
