/-
  A slice of bytes and a slice of classes as arguments: opened.
-/
import Derived.Test.YthhlehhienndeaaDoorOpn
import Derived.Test.YthhlehhienndeaaDoorLa
import Derived.Carry
set_option linter.unusedSimpArgs false
set_option linter.unusedVariables false
namespace Go.Proofs.YthhlehhienndeaaDoor
open Go.ChangeShapes Go.WideShapes Go.ChangeAt Go.RowKit

theorem cellsU8 : Tryd.prog.cellsOf 5 = 1 := by kernel_rfl
theorem laidOutA : laidOutB Tryd.prog = true := by kernel_rfl
/-- the value is a slice that reads as these bytes. -/
def IsB (w : World) (v : Value) (l : List Int) : Prop :=
  (l = [] ∧ ∃ p cap, v = .slice p 0 cap) ∨ ∃ blk off cap, v = .slice (some ⟨blk, off, none⟩) l.length cap ∧ ∀ (k : Nat) (y : Int), l[k]? = some y → w.cell? ⟨blk, off + k, none⟩ = some (.int .u8 y)
theorem IsB.shape {w : World} {v : Value} {l : List Int} (h : IsB w v l) : ∃ p cap, v = .slice p l.length cap := by
  rcases h with ⟨rfl, p, cap, rfl⟩ | ⟨blk, off, cap, rfl, _⟩
  · exact ⟨p, cap, rfl⟩
  · exact ⟨_, _, rfl⟩
theorem IsB.at {w : World} {p : Option Addr} {n cap : Nat} {l : List Int} (h : IsB w (.slice p n cap) l) {k : Nat} {y : Int} (hk : l[k]? = some y) : ∃ blk off, p = some ⟨blk, off, none⟩ ∧ w.cell? ⟨blk, off + k, none⟩ = some (.int .u8 y) := by
  rcases h with ⟨rfl, _⟩ | ⟨blk, off, cap, he, hc⟩
  · cases hk
  · simp only [Value.slice.injEq] at he
    exact ⟨blk, off, he.1, hc k y hk⟩
theorem IsB.grows {w w' : World} {v : Value} {l : List Int} (h : IsB w v l) (hb : Below w.heap.size w w') : IsB w' v l := by
  rcases h with h | ⟨blk, off, cap, rfl, h⟩
  · exact .inl h
  · exact .inr ⟨blk, off, cap, rfl, fun k y hk => (hb.cell (lt_of_cell (h k y hk))).trans (h k y hk)⟩
theorem isB_cells {w : World} {blk off : Nat} {l : List Int} (hc : ∀ (k : Nat) (y : Int), l[k]? = some y → w.cell? ⟨blk, off + k, none⟩ = some (.int .u8 y)) (k : Nat) (hk : k < l.length) : w.cell? ⟨blk, off + k, none⟩ = some (.int .u8 (l.getD k 0)) := by
  refine hc k _ ?_
  rw [List.getElem?_eq_getElem hk, List.getD_eq_getElem?_getD, List.getElem?_eq_getElem hk]; rfl
theorem getD_all {l : List Int} (hb : ∀ z ∈ l, 0 ≤ z ∧ z < 256) (k : Nat) (hk : k < l.length) : 0 ≤ l.getD k 0 ∧ l.getD k 0 < 256 := by
  rw [List.getD_eq_getElem?_getD, List.getElem?_eq_getElem hk]
  exact hb _ (List.getElem_mem hk)
theorem of_isB {a W : World} {v : Value} {l : List Int} (h : IsB a v l) (hw : Below a.heap.size a W) (hm : l.length ≤ maxLen) (hb : ∀ z ∈ l, 0 ≤ z ∧ z < 256) :
    Calls Tryd.prog 14 #[v] W fun e w' => e = .returned (.agg #[.int .u64 (wd (ofL l) 0), .int .u64 (wd (ofL l) 1), .int .u64 (wd (ofL l) 2), .int .u64 (wd (ofL l) 3)]) ∧ Below W.heap.size W w' := by
  rcases h.grows hw with ⟨rfl, p, cap, rfl⟩ | ⟨blk, off, cap, rfl, hc⟩
  · exact of_nil p cap W
  · cases l with
    | nil => exact of_nil _ cap W
    | cons y l =>
      have h := of_any blk off (y :: l).length cap (y :: l) W (Nat.le_refl _) (by unfold maxLen at hm; omega) (lt_of_cell (hc 0 y rfl)) (isB_cells hc) (getD_all hb)
      rwa [List.take_length] at h
theorem rof_isB {a W : World} {v : Value} {l : List Int} (h : IsB a v l) (hw : Below a.heap.size a W) (hm : l.length ≤ maxLen) (hb : ∀ z ∈ l, 0 ≤ z ∧ z < 256) :
    Calls Tryd.prog 15 #[v] W fun e w' => e = .returned (.agg #[.int .u64 (wd (ofL l) 0), .int .u64 (wd (ofL l) 1), .int .u64 (wd (ofL l) 2), .int .u64 (wd (ofL l) 3)]) ∧ Below W.heap.size W w' := by
  rcases h.grows hw with ⟨rfl, p, cap, rfl⟩ | ⟨blk, off, cap, rfl, hc⟩
  · exact rof_nil p cap W
  · cases l with
    | nil => exact rof_nil _ cap W
    | cons y l =>
      have h := rof_any blk off (y :: l).length cap (y :: l) W (Nat.le_refl _) (by unfold maxLen at hm; omega) (lt_of_cell (hc 0 y rfl)) (isB_cells hc) (getD_all hb)
      rwa [List.take_length] at h
theorem open_bytes {H : Type} {enc : TypeId × Value → H} {W : World} {base : Nat} {sp : Nat → Bool} {held : Bool} {r : Reach} {b0 : Nat} {v : Value} {d : DataW H} {ps : List MemPlace}
    (hval : Value.okWide Tryd.prog W r b0 25 v) (hd : DataW.Trod enc Tryd.prog W base sp held 25 v d ps) : ∃ l, IsB W v l ∧ l.length ≤ maxLen ∧ ∀ z ∈ l, 0 ≤ z ∧ z < 256 := by
  have us := Tryd.underlying25
  have ue := Tryd.underlying5
  obtain ⟨p, len, cap, rfl⟩ := okWide_slice us hval
  obtain ⟨fuel, hf⟩ := hd
  rcases open_ints us ue cellsU8 hf with ⟨hcs, _⟩ | ⟨a, len', cap', zs, hcs, _, hl, hm, hz, _, hcell, hwz⟩
  · simp [Value.cells] at hcs
    obtain ⟨rfl, rfl, rfl⟩ := hcs
    exact ⟨[], .inl ⟨rfl, none, 0, rfl⟩, by simp, by simp⟩
  · simp [Value.cells] at hcs
    obtain ⟨rfl, rfl, rfl⟩ := hcs
    have hzl : len ≤ zs.length := by rw [hz]; split <;> omega
    have hlen : (zs.take len).length = len := by simp; omega
    refine ⟨zs.take len, ?_, by omega, fun z hz => ?_⟩
    · rcases Nat.eq_zero_or_pos len with h0 | hp
      · subst h0
        exact .inl ⟨by simp, _, _, rfl⟩
      · obtain ⟨b, off, rfl, hc⟩ := ints_at hcell (by omega)
        refine .inr ⟨b, off, cap, by rw [hlen], fun k y hk => ?_⟩
        rw [List.getElem?_take] at hk
        split at hk
        · rw [hc k (by omega), List.getD_eq_getElem?_getD, hk]; rfl
        · cases hk
    · have := hwz z (List.mem_of_mem_take hz)
      simp [Lit.wf, IntKind.min, IntKind.max, IntKind.signed, IntKind.bits] at this; omega
theorem cls_of_trod {H : Type} {enc : TypeId × Value → H} {W : World} {base : Nat} {sp : Nat → Bool} {held : Bool} {fuel : Nat} {cs : List Value} {y : DataW H × List MemPlace} (hl : cs.length = 4)
    (hf : DataW.trod enc Tryd.prog W base sp held fuel 24 cs = some y) : ∃ x, cs = encC x := by
  have ut := Tryd.underlying24
  have ue := Tryd.underlying22
  match cs, hl with
  | [c0, c1, c2, c3], _ =>
    obtain ⟨y0, y1, y2, y3, n, e, h0, h1, h2, h3⟩ := trod_array4 ut cellsU64 hf
    obtain ⟨a, ea, rfl, wa⟩ := DataW.trod_int ue h0
    obtain ⟨b, eb, rfl, wb⟩ := DataW.trod_int ue h1
    obtain ⟨c, ec, rfl, wc⟩ := DataW.trod_int ue h2
    obtain ⟨d', ed, rfl, wd'⟩ := DataW.trod_int ue h3
    simp at ea eb ec ed
    subst ea; subst eb; subst ec; subst ed
    obtain ⟨x, rfl, rfl, rfl, rfl⟩ := ofWords a b c d' (wf_u64 wa) (wf_u64 wb) (wf_u64 wc) (wf_u64 wd')
    exact ⟨x, rfl⟩
theorem open_classes {H : Type} {enc : TypeId × Value → H} {W : World} {base : Nat} {sp : Nat → Bool} {held : Bool} {r : Reach} {b0 : Nat} {v : Value} {d : DataW H} {ps : List MemPlace}
    (hval : Value.okWide Tryd.prog W r b0 33 v) (hd : DataW.Trod enc Tryd.prog W base sp held 33 v d ps) : ∃ l, IsC W v l ∧ l.length ≤ maxLen := by
  have us := Tryd.underlying33
  obtain ⟨p, len, cap, rfl⟩ := okWide_slice us hval
  obtain ⟨fuel, hf⟩ := hd
  rcases DataW.trod_slice us hf with ⟨hcs, _⟩ | ⟨a, len', cap', elems, rest, n, _, hcs, _, hb, hl, hm, hlen, hel, hsp, hns⟩
  · simp [Value.cells] at hcs
    obtain ⟨rfl, rfl, rfl⟩ := hcs
    exact ⟨[], .inl ⟨rfl, none, 0, rfl⟩, by simp⟩
  · simp [Value.cells] at hcs
    obtain ⟨rfl, rfl, rfl⟩ := hcs
    have each : ∀ i, i < len → ∃ x, ∀ j u, (encC x)[j]? = some u → W.cell? ((a.add (i * 4)).add j) = some u := by
      intro i hi
      have h := hel i hi
      rw [cellsCls] at h
      obtain ⟨y, hy⟩ : ∃ y, elems[i]? = some y := ⟨_, List.getElem?_eq_getElem (by omega)⟩
      rw [hy, Option.bind_eq_some_iff] at h
      obtain ⟨cs, hcs, hy'⟩ := h
      obtain ⟨_, hlen4, hcell⟩ := World.cells?_some hcs
      obtain ⟨x, rfl⟩ := cls_of_trod hlen4 hy'
      exact ⟨x, fun j u hj => (hcell j (List.getElem?_eq_some_iff.1 hj).1).trans hj⟩
    have hf : ∃ f : Nat → BitVec 256, ∀ i, i < len → ∀ j u, (encC (f i))[j]? = some u → W.cell? ((a.add (i * 4)).add j) = some u := by
      refine ⟨fun i => if h : i < len then Classical.choose (each i h) else 0, fun i hi => ?_⟩
      simp only [dif_pos hi]
      exact Classical.choose_spec (each i hi)
    obtain ⟨f, hf⟩ := hf
    have hll : ((List.range len).map f).length = len := by simp
    refine ⟨(List.range len).map f, ?_, by omega⟩
    rcases Nat.eq_zero_or_pos len with h0 | hp
    · subst h0
      exact .inl ⟨rfl, _, _, rfl⟩
    · obtain ⟨b, off, spot⟩ := a
      have hspot : spot = none := by simpa [Addr.add] using World.cell?_spot (hf 0 hp 0 _ rfl)
      subst hspot
      refine .inr ⟨b, off, cap, by rw [hll], fun j x hj i u hi => ?_⟩
      have hjl : j < len := by rw [← hll]; exact (List.getElem?_eq_some_iff.1 hj).1
      rw [List.getElem?_map, List.getElem?_range hjl] at hj
      cases hj
      have := hf j hjl i u hi
      rw [add_plain, add_plain] at this
      exact this
end Go.Proofs.YthhlehhienndeaaDoor
