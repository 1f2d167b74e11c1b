/-
  Texts of the proof, one behind another: Mh.
-/
import Derived.RangeFuncNested
import Derived.RangeFuncBound
import Derived.RangeFuncCalls
import Derived.RangeFuncLeaves
import Derived.RangeFuncBox
import Derived.Shelf.Abstract
import Derived.Shelf.RegionOpen
import Derived.OwnWalkIn
import Derived.TacticsInMore
import Derived.LoopNIn
import Derived.LoopIn
import Derived.Test.YtgbbjobmcbdhdaaGreatDoorYcc
set_option linter.unusedSimpArgs false
set_option linter.unusedVariables false
/-
  Walks: the iterator over the positions of a set.
-/
namespace Go.Proofs.YtgbbjobmcbdhdaaGreatDoor
open Go.RowKit Go.Shelf
attribute [local go_sem] Oper.semAt_some

/-- the row that the slice in a box owns. -/
def rowOf (W : World) (eb : Nat) : Option Nat := match W.cell? ⟨eb, 0, none⟩ with
  | some v => v.ownBlock
  | none => none
/-- what a round keeps: every block of cells but the box eb, the row that its slice owns, and the blocks X. -/
structure KpR (eb : Nat) (X : Nat → Prop) (W W' : World) : Prop where
  size : W.heap.size ≤ W'.heap.size
  cell : ∀ (k : Nat) cs t m, W.heap[k]? = some (.cells cs t m) → k ≠ eb → ¬ X k → some k ≠ rowOf W eb → W'.heap[k]? = some (.cells cs t m)
  row : rowOf W' eb = rowOf W eb ∨ ∀ r, rowOf W' eb = some r → W.heap.size ≤ r
  low : (∀ r, rowOf W eb = some r → r < W.heap.size) → ∀ r, rowOf W' eb = some r → r < W'.heap.size
theorem heap_lt {W : World} {k : Nat} {o : Obj} (h : W.heap[k]? = some o) : k < W.heap.size := (Array.getElem?_eq_some_iff.1 h).1
theorem KpR.refl (eb : Nat) (X : Nat → Prop) (W : World) : KpR eb X W W := ⟨Nat.le_refl _, fun _ _ _ _ h _ _ _ => h, .inl rfl, fun h => h⟩
theorem KpR.trans {eb : Nat} {X : Nat → Prop} {A B C : World} (h : KpR eb X A B) (k : KpR eb X B C) : KpR eb X A C where
  size := Nat.le_trans h.size k.size
  cell i cs t m hi h1 h2 h3 := by
    refine k.cell i cs t m (h.cell i cs t m hi h1 h2 h3) h1 h2 fun e => ?_
    rcases h.row with hr | hr
    · exact h3 (by rw [e, hr])
    · have := hr i e.symm
      have := heap_lt hi
      omega
  row := by
    rcases k.row with hk | hk
    · rcases h.row with hh | hh
      · exact .inl (hk.trans hh)
      · exact .inr fun r hr => hh r (by rw [← hk]; exact hr)
    · exact .inr fun r hr => Nat.le_trans h.size (hk r hr)
  low h0 := k.low (h.low h0)
theorem rowOf_of_block {W W' : World} {eb : Nat} (h : W'.heap[eb]? = W.heap[eb]?) : rowOf W' eb = rowOf W eb := by
  unfold rowOf; rw [World.cell?_of_block (a := ⟨eb, 0, none⟩) h]
theorem KpR.of_below {eb : Nat} {X : Nat → Prop} {A B : World} (h : Below A.heap.size A B) (he : eb < A.heap.size) : KpR eb X A B where
  size := h.size
  cell i cs t m hi _ _ _ := (h.block i (heap_lt hi)).trans hi
  row := .inl (rowOf_of_block (h.block eb he))
  low h0 r hr := by
    rw [rowOf_of_block (h.block eb he)] at hr
    exact Nat.lt_of_lt_of_le (h0 r hr) h.size
theorem kpR_b {eb : Nat} {X : Nat → Prop} {w : World} (he : eb < w.heap.size) (W : World) (l : Nat) (o o' : Obj) (hl : w.heap.size ≤ l) (h : W.heap[l]? = some o) (hc : o.isCells = false) (_ : o.isWalk = false) : KpR eb X W (W.putObj l o') := by
  have hg := grownBy_putObj' W l o'
  have hne : ∀ k, k ≠ l → k < W.heap.size → (W.putObj l o').heap[k]? = W.heap[k]? := fun k hk hlt => hg.block k hlt (by simpa using hk)
  have hr : rowOf (W.putObj l o') eb = rowOf W eb := rowOf_of_block (hne eb (by omega) (by have := heap_lt h; omega))
  refine ⟨hg.size, fun k cs t m hk _ _ _ => ?_, .inl hr, fun h0 r h1 => ?_⟩
  · rw [hne k (fun e => ?_) (heap_lt hk)]
    · exact hk
    · subst e
      rw [h] at hk
      cases hk
      simp [Obj.isCells] at hc
  · rw [hr] at h1
    exact Nat.lt_of_lt_of_le (h0 r h1) hg.size
theorem pts_take (l : List (Nat × Nat)) (k : Nat) (s : Nat × Nat) (h : l[k]? = some s) : pts (l.take (k + 1)) = pts (l.take k) ++ List.range' s.1 (s.2 - s.1) := by
  have hsn : ∀ (m : List (Nat × Nat)) (u : Nat × Nat), pts (m ++ [u]) = pts m ++ List.range' u.1 (u.2 - u.1) := by
    intro m u
    induction m with
    | nil => simp [pts]
    | cons a m ih => simp only [List.cons_append, pts]; rw [ih, List.append_assoc]
  rw [List.take_add_one, h]; exact hsn _ _
theorem pts_pre (l : List (Nat × Nat)) (k : Nat) : pts (l.take k) <+: pts l := by
  have hap : ∀ (a b : List (Nat × Nat)), pts (a ++ b) = pts a ++ pts b := by
    intro a b
    induction a with
    | nil => rfl
    | cons u a ih => simp only [List.cons_append, pts]; rw [ih, List.append_assoc]
  have h := hap (l.take k) (l.drop k)
  rw [List.take_append_drop] at h
  exact ⟨_, h.symm⟩

set_option maxRecDepth 100000 in
set_option maxHeartbeats 2000000 in
theorem positions1_in (n : Nat) (hn : 2 ≤ n) (ly Bn eb : Nat) (X : Nat → Prop) (w : World) (v : Value) (l : List (Nat × Nat)) (J Jx : List Nat → World → Prop)
    (hY : ∀ pre (y : Nat) W, J pre W → pre.length < (pts l).length → YieldAt Fence.wide (n - 1) Tryz.prog ly #[.int .i64 (y : Int)] W fun e W' =>
      (e = .returned (.bool true) ∧ J (pre ++ [y]) W' ∧ KpR eb X W W') ∨ (e = .returned (.bool false) ∧ Jx (pre ++ [y]) W'))
    (W : World) (hBn : Blk W Bn #[v] 62) (hread : ∀ W', KpR eb X w W' → IsS W' v l) (hW : KpR eb X w W) (heb : eb < w.heap.size) (hX : ∀ k, X k → k < w.heap.size) (hlow : ∀ r, rowOf w eb = some r → r < w.heap.size)
    (hl : l.length ≤ 1099511627776) (hls : ∀ s ∈ l, s.1 < s.2 ∧ s.2 ≤ 4611686018427387904)
    (hJa : ∀ pre W o, J pre W → J pre (W.alloc o)) (hJ : J [] W) :
    CallsIn Fence.wide n Tryz.prog 91 #[.func (.yield ly) #[] #[], .pointer (some ⟨Bn, 0, none⟩)] W fun e W' => (∃ v, e = .returned v) ∧
      ((∃ ys, ys = pts l ∧ J ys W') ∨ (∃ pre, pre <+: pts l ∧ Jx pre W')) := by
  obtain ⟨sp, sc, rfl⟩ := (hread _ hW).shape
  have c0 := hBn.cell 0 rfl
  have HR := Lib.hid (fun W' (h : KpR eb X w W') k s (hk : l[k]? = some s) => (hread W' h).at hk)
  have HT := Lib.hid (pts_take l)
  have HPre := Lib.hid (pts_pre l)
  have HL := Lib.hid hls
  have HJa := Lib.hid hJa
  have HX := Lib.hid hX
  have HLow := Lib.hid hlow
  clear hread hls hJa hX hBn hlow
  have hfn : ∀ k, Fence.wide.fn k := fun _ => trivial
  have hn1 : 1 ≤ n := by omega
  refine callsIn_of_wp Tryz.func91 rfl trivial ?_ rfl
  simp only [Tryz.ntmps91, List.size_toArray, List.length_cons, List.length_nil, Nat.reduceAdd, Nat.reduceSub, Array.replicate_succ, Array.replicate_zero, List.push_toArray, List.append_toArray, List.nil_append, List.cons_append]
  gi_wp2
  gi_loopw [8] (fun q wr => ∃ (k : Nat), k ≤ l.length ∧ q = .int .i64 k ∧ J (pts (l.take k)) wr ∧ KpR eb X w wr)
    (fun q _ => l.length - (intOf q).toNat)
  case atStart => exact ⟨0, Nat.zero_le _, rfl, hJ, hW⟩
  case round =>
    clear c0 hJ hW
    obtain ⟨k, hk, rfl, hJr, hKr⟩ := hrel
    by_cases hlt : k < l.length
    · obtain ⟨s, hs⟩ : ∃ s, l[k]? = some s := ⟨_, List.getElem?_eq_getElem hlt⟩
      obtain ⟨blk, off, rfl, a0, a1⟩ := HR.out wr hKr k s hs
      obtain ⟨hs1, hs2⟩ := HL.out s (List.mem_of_getElem? hs)
      have HTk := Lib.hid (HT.out k s hs)
      have hpl := (HPre.out (k + 1)).length_le
      rw [HTk.out, List.length_append, List.length_range'] at hpl
      have hlow0 := hKr.low HLow.out
      have hd : decide ((k : Int) < (l.length : Int)) = true := by rw [decide_eq_true_iff]; omega
      have hK1 : KpR eb X w (wr.alloc (.cells #[.int .i64 (s.1 : Int), .int .i64 (s.2 : Int)] 66)) := hKr.trans (KpR.of_below ((Below.refl _ _).alloc (Nat.le_refl _) _) (Nat.lt_of_lt_of_le heb hKr.size))
      have hr1 : rowOf (wr.alloc (.cells #[.int .i64 (s.1 : Int), .int .i64 (s.2 : Int)] 66)) eb ≠ some wr.heap.size := by
        intro e
        rw [rowOf_of_block (Below.heap_alloc _ _ _ (Nat.lt_of_lt_of_le heb hKr.size))] at e
        have := hlow0 _ e
        omega
      have hsz := hKr.size
      have hB0 := Blk.new wr #[.int .i64 (s.1 : Int), .int .i64 (s.2 : Int)] 66
      have HJ1 := Lib.hid (HJa.out _ _ (.cells #[.int .i64 (s.1 : Int), .int .i64 (s.2 : Int)] 66) hJr)
      clear hs hKr hlow0 hJr
      gi_wp2
      obtain ⟨wo, rfl⟩ : ∃ wo : World, wo = wr := ⟨_, rfl⟩
      gi_loopw [5] (fun q wr => ∃ p : Nat, s.1 ≤ p ∧ p ≤ s.2 ∧ q = .int .i64 (p : Int) ∧ J (pts (l.take k) ++ List.range' s.1 (p - s.1)) wr ∧ KpR eb X w wr ∧ Blk wr wo.heap.size #[.int .i64 (s.1 : Int), .int .i64 (s.2 : Int)] 66 ∧ rowOf wr eb ≠ some wo.heap.size) (fun q _ => s.2 - (intOf q).toNat)
      case atStart => exact ⟨s.1, Nat.le_refl _, Nat.le_of_lt hs1, rfl, by simpa using HJ1.out, hK1, hB0, hr1⟩
      case round =>
        clear HJ1 hK1 hB0 hr1
        obtain ⟨p, hp1, hp2, rfl, hJ2, hK2, hB2, hr2⟩ := hrel
        have b1 := hB2.cell 1 rfl
        by_cases hps : p < s.2
        · have t1 : decide ((p : Int) < (s.2 : Int)) = true := by rw [decide_eq_true_iff]; omega
          have hlen : (pts (l.take k) ++ List.range' s.1 (p - s.1)).length < (pts l).length := by
            rw [List.length_append, List.length_range']; omega
          have hstep : pts (l.take k) ++ List.range' s.1 (p + 1 - s.1) = (pts (l.take k) ++ List.range' s.1 (p - s.1)) ++ [p] := by
            rw [show p + 1 - s.1 = (p - s.1) + 1 by omega, List.range'_concat, List.append_assoc, show s.1 + 1 * (p - s.1) = p by omega]
          have HS := Lib.hid hstep
          clear hstep
          obtain ⟨fn, tmps, assign, body, hy, hR⟩ := hY _ p _ hJ2 hlen
          have hYo := Lib.hid hY
          clear hlen hY
          gi_wp2
          refine hR.mono ?_
          rintro e W3 (⟨rfl, hJ3, hk3⟩ | ⟨rfl, hJx3⟩)
          · have hne1 : wo.heap.size ≠ eb := by omega
            have hne2 : ¬ X wo.heap.size := fun h => by have := HX.out _ h; omega
            have hB3 : Blk W3 wo.heap.size #[.int .i64 (s.1 : Int), .int .i64 (s.2 : Int)] 66 := ⟨hk3.cell _ _ _ _ hB2.is hne1 hne2 (fun e => hr2 e.symm)⟩
            have hlt2 := hB2.lt
            have hr3 : rowOf W3 eb ≠ some wo.heap.size := by
              rcases hk3.row with h | h
              · rw [h]; exact hr2
              · intro e; have := h _ e; omega
            gi_wp2
            go_roundw
            case rel => exact ⟨p + 1, by omega, by omega, by go_num, by rw [HS.out]; exact hJ3, hK2.trans hk3, hB3, hr3⟩
            case measure => simp [intOf]; omega
          · gi_wp2
            refine bodyPost_ret (results_none rfl _ _ _) rfl ?_
            refine ⟨⟨_, rfl⟩, .inr ⟨_, ?_, hJx3⟩⟩
            refine List.IsPrefix.trans ?_ (HPre.out (k + 1))
            rw [HTk.out, ← HS.out]
            refine ⟨List.range' (p + 1) (s.2 - (p + 1)), ?_⟩
            rw [List.append_assoc]
            congr 1
            have := List.range'_append (s := s.1) (m := p + 1 - s.1) (n := s.2 - (p + 1)) (step := 1)
            rw [show s.1 + 1 * (p + 1 - s.1) = p + 1 by omega, show p + 1 - s.1 + (s.2 - (p + 1)) = s.2 - s.1 by omega] at this
            exact this
        · obtain rfl : p = s.2 := by omega
          have t1 : decide ((s.2 : Int) < (s.2 : Int)) = false := by simp
          rw [← HTk.out] at hJ2
          gi_wp2
          go_roundw
          case rel => exact ⟨k + 1, by omega, by go_num, hJ2, hK2⟩
          case measure => simp [intOf]; omega
    · obtain rfl : k = l.length := by omega
      have hd : decide ((l.length : Int) < (l.length : Int)) = false := by simp
      rw [List.take_length] at hJr
      gi_wp2
      refine bodyPost_end (results_none rfl _ _ _) rfl ?_
      exact ⟨⟨_, rfl⟩, .inl ⟨_, rfl, hJr⟩⟩
end Go.Proofs.YtgbbjobmcbdhdaaGreatDoor
