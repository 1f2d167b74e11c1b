/-
  Of, of the code and of the reference, at whatever slice of bytes.
-/
import Derived.Test.YthhlehhienndeaaDoorZe
set_option linter.unusedSimpArgs false
set_option linter.unusedVariables false
namespace Go.Proofs.YthhlehhienndeaaDoor
open Go.RowKit Go.Shelf Go.Lib

set_option maxHeartbeats 400000 in
theorem of_nil (p : Option Addr) (cap : Nat) (w : World) : Calls Tryd.prog 14 #[.slice p 0 cap] w fun e w' => e = .returned (.agg #[.int .u64 (wd (ofL [] ) 0), .int .u64 (wd (ofL [] ) 1), .int .u64 (wd (ofL [] ) 2), .int .u64 (wd (ofL [] ) 3)]) ∧ Below w.heap.size w w' := by
  go_enter Tryd.func14, Tryd.ntmps14
  go_wp2
  refine wp_loop_rounds 1 ?_
  rw [rounds_succ]
  have h0 : Blk ((w.alloc (.cells #[.int .u64 0, .int .u64 0, .int .u64 0, .int .u64 0] 24)).alloc (.cells #[.int .u64 0, .int .u64 0, .int .u64 0, .int .u64 0] 24)) w.heap.size #[.int .u64 0, .int .u64 0, .int .u64 0, .int .u64 0] 24 := (Blk.new w _ _).alloc _
  go_wp2
  refine bodyPost_ret (results_cell_row rfl _ _ w.heap.size 24 _ (0, 0) _ rfl h0.is Tryd.underlying24 rfl clsSize) rfl ?_
  simp only [ofL_nil, wd_zero]
  exact ⟨trivial, by go_grown⟩
set_option maxHeartbeats 400000 in
theorem rof_nil (p : Option Addr) (cap : Nat) (w : World) : Calls Tryd.prog 15 #[.slice p 0 cap] w fun e w' => e = .returned (.agg #[.int .u64 (wd (ofL [] ) 0), .int .u64 (wd (ofL [] ) 1), .int .u64 (wd (ofL [] ) 2), .int .u64 (wd (ofL [] ) 3)]) ∧ Below w.heap.size w w' := by
  go_enter Tryd.func15, Tryd.ntmps15
  go_wp2
  refine wp_loop_rounds 1 ?_
  rw [rounds_succ]
  have h0 : Blk ((w.alloc (.cells #[.int .u64 0, .int .u64 0, .int .u64 0, .int .u64 0] 24)).alloc (.cells #[.int .u64 0, .int .u64 0, .int .u64 0, .int .u64 0] 24)) w.heap.size #[.int .u64 0, .int .u64 0, .int .u64 0, .int .u64 0] 24 := (Blk.new w _ _).alloc _
  go_wp2
  refine bodyPost_ret (results_cell_row rfl _ _ w.heap.size 24 _ (0, 0) _ rfl h0.is Tryd.underlying24 rfl clsSize) rfl ?_
  simp only [ofL_nil, wd_zero]
  exact ⟨trivial, by go_grown⟩
/-- at a row of bytes that is owned in an earlier world. -/
theorem of_own {a W : World} {base : Nat} {v : Value} {l : List Int} (hown : a.ownsRow base 5 1 v l.length (l.map (Value.int .u8))) (hl : l.length ≤ 1000) (hb : ∀ z ∈ l, 0 ≤ z ∧ z < 256) (hw : Below a.heap.size a W) :
    Calls Tryd.prog 14 #[v] W fun e w' => e = .returned (.agg #[.int .u64 (wd (ofL l) 0), .int .u64 (wd (ofL l) 1), .int .u64 (wd (ofL l) 2), .int .u64 (wd (ofL l) 3)]) ∧ Below W.heap.size W w' := by
  rcases hown.2 with ⟨rfl, hn⟩ | ⟨g, cap, cur, rfl, hg, hh, r⟩
  · have e : l = [] := List.length_eq_zero_iff.1 hn
    subst e; exact of_nil none 0 W
  · have hlt : g < a.heap.size := Blk.lt (vs := cur) (t := 5) ⟨hh⟩
    have h := of_any g 0 l.length cap l W (Nat.le_refl _) (by omega) (Nat.lt_of_lt_of_le hlt hw.size) (fun k hk => by
      rw [Nat.zero_add]
      obtain ⟨g', cap', hv, _, _, _, hc⟩ := own_read hown (by omega)
      simp only [Value.slice.injEq, Option.some.injEq, Addr.mk.injEq, and_true, true_and] at hv
      obtain ⟨rfl, rfl⟩ := hv
      rw [hw.cell (p := ⟨g, k, none⟩) hlt]
      refine hc k _ ?_
      rw [List.getElem?_map, List.getElem?_eq_getElem hk, List.getD_eq_getElem?_getD, List.getElem?_eq_getElem hk]; rfl) (fun k hk => by
      rw [List.getD_eq_getElem?_getD, List.getElem?_eq_getElem hk]
      exact hb _ (List.getElem_mem hk))
    rwa [List.take_length] at h
/-- at a row of bytes that is owned in an earlier world. -/
theorem rof_own {a W : World} {base : Nat} {v : Value} {l : List Int} (hown : a.ownsRow base 5 1 v l.length (l.map (Value.int .u8))) (hl : l.length ≤ 1000) (hb : ∀ z ∈ l, 0 ≤ z ∧ z < 256) (hw : Below a.heap.size a W) :
    Calls Tryd.prog 15 #[v] W fun e w' => e = .returned (.agg #[.int .u64 (wd (ofL l) 0), .int .u64 (wd (ofL l) 1), .int .u64 (wd (ofL l) 2), .int .u64 (wd (ofL l) 3)]) ∧ Below W.heap.size W w' := by
  rcases hown.2 with ⟨rfl, hn⟩ | ⟨g, cap, cur, rfl, hg, hh, r⟩
  · have e : l = [] := List.length_eq_zero_iff.1 hn
    subst e; exact rof_nil none 0 W
  · have hlt : g < a.heap.size := Blk.lt (vs := cur) (t := 5) ⟨hh⟩
    have h := rof_any g 0 l.length cap l W (Nat.le_refl _) (by omega) (Nat.lt_of_lt_of_le hlt hw.size) (fun k hk => by
      rw [Nat.zero_add]
      obtain ⟨g', cap', hv, _, _, _, hc⟩ := own_read hown (by omega)
      simp only [Value.slice.injEq, Option.some.injEq, Addr.mk.injEq, and_true, true_and] at hv
      obtain ⟨rfl, rfl⟩ := hv
      rw [hw.cell (p := ⟨g, k, none⟩) hlt]
      refine hc k _ ?_
      rw [List.getElem?_map, List.getElem?_eq_getElem hk, List.getD_eq_getElem?_getD, List.getElem?_eq_getElem hk]; rfl) (fun k hk => by
      rw [List.getD_eq_getElem?_getD, List.getElem?_eq_getElem hk]
      exact hb _ (List.getElem_mem hk))
    rwa [List.take_length] at h
end Go.Proofs.YthhlehhienndeaaDoor
