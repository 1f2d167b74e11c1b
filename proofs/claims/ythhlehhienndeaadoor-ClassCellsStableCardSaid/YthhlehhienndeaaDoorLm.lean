/-
  Two classes in blocks of their own; the text of a row of bytes.
-/
import Derived.Test.YthhlehhienndeaaDoorOpc
import Derived.Test.YthhlehhienndeaaDoorLd
import Derived.Laws.BytesArg
set_option linter.unusedSimpArgs false
set_option linter.unusedVariables false
namespace Go.Proofs.YthhlehhienndeaaDoor
open Go.RowKit Go.Shelf Go.Lib

/-- the value is a slice that reads as these bytes from a block's beginning. -/
def IsO (w : World) (v : Value) (l : List Int) : Prop :=
  (v = .slice none 0 0 ∧ l = []) ∨ ∃ g cap, v = .slice (some ⟨g, 0, none⟩) l.length cap ∧ ∀ (k : Nat) (y : Int), l[k]? = some y → w.cell? ⟨g, k, none⟩ = some (.int .u8 y)
theorem IsO.grows {w w' : World} {v : Value} {l : List Int} (h : IsO w v l) (hb : Below w.heap.size w w') : IsO w' v l := by
  rcases h with h | ⟨g, cap, rfl, h⟩
  · exact .inl h
  · exact .inr ⟨g, cap, rfl, fun k y hk => (hb.cell (lt_of_cell (h k y hk))).trans (h k y hk)⟩
theorem own_isO {w : World} {base : Nat} {v : Value} {l : List Int} (hown : w.ownsRow base 5 1 v l.length (l.map (Value.int .u8))) : IsO w v l := by
  rcases hown.2 with ⟨rfl, hn⟩ | ⟨g, cap, cur, rfl, r⟩
  · exact .inl ⟨rfl, List.length_eq_zero_iff.1 hn⟩
  · refine .inr ⟨g, cap, rfl, fun k y hk => ?_⟩
    obtain ⟨g', cap', hv, _, _, _, hc⟩ := own_read hown (by have := (List.getElem?_eq_some_iff.1 hk).1; omega)
    simp only [Value.slice.injEq, Option.some.injEq, Addr.mk.injEq, and_true, true_and] at hv
    obtain ⟨rfl, rfl⟩ := hv
    exact hc k _ (by rw [List.getElem?_map, hk]; rfl)
theorem isO_str {w : World} {v : Value} {l : List Int} (h : IsO w v l) : (convert 25 9 v).run Tryd.prog w = .ok (.string (strOfNums l)) w := by
  rcases h with ⟨rfl, rfl⟩ | ⟨g, cap, rfl, hc⟩
  · exact run_convert_bytes_nil w 25 5 Tryd.underlying25 Tryd.underlying5 _ _ 9 Tryd.underlying9
  · refine run_convert_bytes_arg w 25 5 Tryd.underlying25 Tryd.underlying5 g 0 l.length cap l rfl (fun i hi => ?_) 9 Tryd.underlying9
    rw [Nat.zero_add]
    refine hc i _ ?_
    rw [List.getElem?_eq_getElem hi, List.getD_eq_getElem?_getD, List.getElem?_eq_getElem hi]; rfl
theorem bytes_str (x : BitVec 256) (W : World) {a : World} (hT : TabAt 0 Lib.deBruijn64tab a) (hg : 0 < a.heap.size) (hb : Below a.heap.size a W) :
    Calls Tryd.prog 28 #[.agg #[.int .u64 (wd x 0), .int .u64 (wd x 1), .int .u64 (wd x 2), .int .u64 (wd x 3)]] W fun e w' => (∃ v, e = .returned v ∧ IsO w' v (mems x 256)) ∧ Below W.heap.size W w' := by
  refine (bytes_any x W (tab_below hT hb hg) (Nat.lt_of_lt_of_le hg hb.size)).mono ?_
  rintro e w' ⟨⟨v, rfl, hown⟩, hb2⟩
  exact ⟨⟨v, rfl, own_isO hown⟩, hb2⟩
theorem rbytes_str (x : BitVec 256) (W : World) :
    Calls Tryd.prog 29 #[.agg #[.int .u64 (wd x 0), .int .u64 (wd x 1), .int .u64 (wd x 2), .int .u64 (wd x 3)]] W fun e w' => (∃ v, e = .returned v ∧ IsO w' v (mems x 256)) ∧ Below W.heap.size W w' := by
  refine (rbytes_any x W).mono ?_
  rintro e w' ⟨v, rfl, hown, hb2⟩
  exact ⟨⟨v, rfl, own_isO hown⟩, hb2⟩
theorem rsize_i (x : BitVec 256) (W : World) : Calls Tryd.prog 25 #[.agg #[.int .u64 (wd x 0), .int .u64 (wd x 1), .int .u64 (wd x 2), .int .u64 (wd x 3)]] W fun e w' => e = .returned (.int .i64 (sizeI x)) ∧ Below W.heap.size W w' := rsize_any x W
theorem rnot_u (x : BitVec 256) (W : World) : Calls Tryd.prog 23 #[.agg #[.int .u64 (wd x 0), .int .u64 (wd x 1), .int .u64 (wd x 2), .int .u64 (wd x 3)]] W fun e w' => e = .returned (.agg #[.int .u64 (wd (cpl x) 0), .int .u64 (wd (cpl x) 1), .int .u64 (wd (cpl x) 2), .int .u64 (wd (cpl x) 3)]) ∧ Below W.heap.size W w' := by
  have h := rnot_any x W
  rwa [← cpl_eq] at h
/-- two classes in blocks of their own. -/
structure MB (x y : BitVec 256) (n : Nat) (a : World) : Prop where
  bx : Blk a n #[.int .u64 (wd x 0), .int .u64 (wd x 1), .int .u64 (wd x 2), .int .u64 (wd x 3)] 24
  by' : Blk a (n + 1) #[.int .u64 (wd y 0), .int .u64 (wd y 1), .int .u64 (wd y 2), .int .u64 (wd y 3)] 24
theorem MB.grows {x y : BitVec 256} {n : Nat} {a W : World} (h : MB x y n a) (hb : Below a.heap.size a W) : MB x y n W := ⟨h.bx.grows hb, h.by'.grows hb⟩
theorem MB.drew {x y : BitVec 256} {n : Nat} {a : World} (h : MB x y n a) : MB x y n a.drew := ⟨h.bx.drew, h.by'.drew⟩
theorem MB.cells {x y : BitVec 256} {n : Nat} {a : World} (h : MB x y n a) :
    a.cell? ⟨n, 0, none⟩ = some (.int .u64 (wd x 0)) ∧ a.cell? ⟨n, 1, none⟩ = some (.int .u64 (wd x 1)) ∧ a.cell? ⟨n, 2, none⟩ = some (.int .u64 (wd x 2)) ∧ a.cell? ⟨n, 3, none⟩ = some (.int .u64 (wd x 3)) ∧
    a.cell? ⟨n + 1, 0, none⟩ = some (.int .u64 (wd y 0)) ∧ a.cell? ⟨n + 1, 1, none⟩ = some (.int .u64 (wd y 1)) ∧ a.cell? ⟨n + 1, 2, none⟩ = some (.int .u64 (wd y 2)) ∧ a.cell? ⟨n + 1, 3, none⟩ = some (.int .u64 (wd y 3)) := by
  obtain ⟨x0, x1, x2, x3, -⟩ := h.bx.four
  obtain ⟨y0, y1, y2, y3, -⟩ := h.by'.four
  exact ⟨x0, x1, x2, x3, y0, y1, y2, y3⟩
theorem MB.new (x y : BitVec 256) (w : World) : MB x y w.heap.size ((w.alloc (.cells #[.int .u64 (wd x 0), .int .u64 (wd x 1), .int .u64 (wd x 2), .int .u64 (wd x 3)] 24)).alloc (.cells #[.int .u64 (wd y 0), .int .u64 (wd y 1), .int .u64 (wd y 2), .int .u64 (wd y 3)] 24)) :=
  ⟨(Blk.new w _ _).alloc _, Blk.alloc1 w _ _ _ _⟩

end Go.Proofs.YthhlehhienndeaaDoor
