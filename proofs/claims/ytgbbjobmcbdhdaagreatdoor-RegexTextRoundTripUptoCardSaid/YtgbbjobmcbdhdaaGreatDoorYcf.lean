/-
  Texts of the proof, one behind another: Mi, Mj, Mk, Ml, Mm, M6.
-/
import Derived.RangeFuncWrites
import Derived.RangeFuncCalls
import Derived.Shelf.RegionOpen
import Derived.Test.YtgbbjobmcbdhdaaGreatDoorYcd
import Derived.Test.YtgbbjobmcbdhdaaGreatDoorYce
import Derived.MapKept
import Derived.MapFrom
import Derived.Laws.StructEq
import Derived.Laws.Closers25b
import Derived.Test.YtgbbjobmcbdhdaaGreatDoorYad
import Derived.Test.YtgbbjobmcbdhdaaGreatDoorYbj
set_option linter.unusedSimpArgs false
set_option linter.unusedVariables false
/-
  Walks: one byte of a class.
-/
namespace Go.Proofs.YtgbbjobmcbdhdaaGreatDoor
open Go.RowKit Go.Shelf
attribute [local go_sem] Oper.semAt_some

/-- the value is a slice that reads as these bytes. -/
def IsB (w : World) (v : Value) (l : List Int) : Prop :=
  (l = [] ∧ ∃ p cap, v = .slice p 0 cap) ∨ ∃ blk off cap, v = .slice (some ⟨blk, off, none⟩) l.length cap ∧ ∀ (k : Nat) (y : Int), l[k]? = some y → w.cell? ⟨blk, off + k, none⟩ = some (.int .u8 y)
theorem IsB.shape {w : World} {v : Value} {l : List Int} (h : IsB w v l) : ∃ p cap, v = .slice p l.length cap := by
  rcases h with ⟨rfl, p, cap, rfl⟩ | ⟨blk, off, cap, rfl, _⟩
  · exact ⟨p, cap, rfl⟩
  · exact ⟨_, _, rfl⟩
theorem IsB.at {w : World} {p : Option Addr} {n cap : Nat} {l : List Int} (h : IsB w (.slice p n cap) l) {k : Nat} {y : Int} (hk : l[k]? = some y) : ∃ blk off, p = some ⟨blk, off, none⟩ ∧ w.cell? ⟨blk, off + k, none⟩ = some (.int .u8 y) := by
  rcases h with ⟨rfl, _⟩ | ⟨blk, off, cap, he, hc⟩
  · cases hk
  · simp only [Value.slice.injEq] at he
    exact ⟨blk, off, he.1, hc k y hk⟩
theorem IsB.kept {w w' : World} {v : Value} {l : List Int} (h : IsB w v l) (hk : ∀ a u, w.cell? a = some u → w'.cell? a = some u) : IsB w' v l := by
  rcases h with h | ⟨blk, off, cap, rfl, h⟩
  · exact .inl h
  · exact .inr ⟨blk, off, cap, rfl, fun k y hy => hk _ _ (h k y hy)⟩
theorem cells_of_cell {w : World} {a : Addr} {u : Value} (h : w.cell? a = some u) : ∃ cs t m, w.heap[a.block]? = some (.cells cs t m) := by
  unfold World.cell? at h
  split at h
  · rename_i cs t m hc; exact ⟨cs, t, m, hc⟩
  · cases h
theorem KpR.cellq {eb : Nat} {X : Nat → Prop} {W W' : World} (h : KpR eb X W W') {a : Addr} {u : Value} (ha : W.cell? a = some u) (h1 : a.block ≠ eb) (h2 : ¬ X a.block) (h3 : some a.block ≠ rowOf W eb) : W'.cell? a = some u := by
  obtain ⟨cs, t, m, hc⟩ := cells_of_cell ha
  rw [World.cell?_of_block ((h.cell _ cs t m hc h1 h2 h3).trans hc.symm)]; exact ha
theorem own_blk {β : Type} (b : Nat) (vs : Array Value) (t : TypeId) : Own (fun (_ : β) W => Blk W b vs t) := by
  intro s W W' row hs hg hr
  exact ⟨(hg.block b hs.lt (fun e => by
    obtain ⟨o, ho, hc⟩ := hr b e.symm
    rw [hs.is] at ho
    cases ho
    simp [Obj.isCells] at hc)).trans hs.is⟩
theorem positions_in (n : Nat) (p : Option Addr) (m c : Nat) (w : World) :
    CallsIn Fence.wide n Tryz.prog 61 #[.slice p m c] w fun e w' => e = .returned (.func (.func 91) #[] #[.pointer (some ⟨w.heap.size, 0, none⟩)]) ∧ w' = w.alloc (.cells #[.slice p m c] 62) := by
  have hmf : ∀ (fn : Fn) (first cap : Array Value) (w : World), (Instr.makeFunc fn first cap).run Tryz.prog w = .ok (.func fn first cap) w := fun _ _ _ _ => rfl
  refine callsIn_of_wp Tryz.func61 rfl trivial ?_ rfl
  simp only [Tryz.ntmps61, List.size_toArray, List.length_cons, List.length_nil, Nat.reduceAdd, Nat.reduceSub, Array.replicate_succ, Array.replicate_zero, List.push_toArray, List.append_toArray, List.nil_append, List.cons_append]
  gi_wp2
  go_ret
  exact ⟨rfl, rfl⟩
theorem positions_stops (n : Nat) (hn : 2 ≤ n) (Bn eb : Nat) (X : Nat → Prop) (w : World) (v : Value) (l : List (Nat × Nat)) (hBn : Blk w Bn #[v] 62) (hread : ∀ W', KpR eb X w W' → IsS W' v l) (heb : eb < w.heap.size) (hX : ∀ k, X k → k < w.heap.size) (hlow : ∀ r, rowOf w eb = some r → r < w.heap.size)
    (hl : l.length ≤ 1099511627776) (hls : ∀ s ∈ l, s.1 < s.2 ∧ s.2 ≤ 4611686018427387904) :
    SeqStopsK Fence.wide n Tryz.prog 91 #[.pointer (some ⟨Bn, 0, none⟩)] (fun y : Nat => #[Value.int .i64 (y : Int)]) (KpR eb X) (fun ys => ys = pts l) (fun pre => pre <+: pts l) (pts l).length w :=
  fun ly J Jx W hW hJa _ hY hJ => positions1_in n hn ly Bn eb X w v l J Jx hY W (hBn.grows hW) hread (KpR.of_below hW heb) heb hX hlow hl hls
    (fun pre W1 o h => hJa pre W1 _ none h (World.grownBy_alloc W1 o none) (fun r e => by cases e)) hJ

/-- a round's step: the slice in the box grew and was stored again. -/
theorem box_step {W w1 : World} {base eb : Nat} {X : Nat → Prop} {v v' : Value} {n m : Nat} {xs ys : List Value} (hv : Boxed W eb 62 v) (hrow : W.ownsRow base 66 2 v n xs) (hbase : base ≤ eb)
    (hown : w1.ownsRow base 66 2 v' m ys) (hnew : NewRow W v v') (hg : W.grownBy w1 v.ownBlock) :
    Boxed w1 eb 62 v ∧ Boxed (w1.setCell ⟨eb, 0, none⟩ v') eb 62 v' ∧ (w1.setCell ⟨eb, 0, none⟩ v').ownsRow base 66 2 v' m ys ∧ KeepsOthers W (w1.setCell ⟨eb, 0, none⟩ v') ∧ Below base W (w1.setCell ⟨eb, 0, none⟩ v') ∧ KpR eb X W (w1.setCell ⟨eb, 0, none⟩ v') ∧ (∀ k, k ≠ eb → (∀ g, v.ownBlock = some g → k ≠ g) → k < W.heap.size → (w1.setCell ⟨eb, 0, none⟩ v').heap[k]? = W.heap[k]?) := by
  have hne := hv.not_row (by decide) hrow
  have hv1 := hv.kept hg hne
  have hrw : rowOf W eb = v.ownBlock := by unfold rowOf; rw [hv.cell]
  have hv2 := hv1.set v'
  have hrw2 : rowOf (w1.setCell ⟨eb, 0, none⟩ v') eb = v'.ownBlock := by unfold rowOf; rw [hv2.cell]
  have hsame : ∀ k, k ≠ eb → (∀ g, v.ownBlock = some g → k ≠ g) → k < W.heap.size → (w1.setCell ⟨eb, 0, none⟩ v').heap[k]? = W.heap[k]? := fun k h1 h2 h3 =>
    (Below.heap_setCell _ _ _ _ (by simpa using h1)).trans (hg.block k h3 (fun e => h2 k e.symm rfl))
  have hsz : W.heap.size ≤ (w1.setCell ⟨eb, 0, none⟩ v').heap.size := by simpa using hg.size
  have hrowlt : ∀ g, v.ownBlock = some g → g < W.heap.size ∧ base ≤ g ∧ ∃ cs t m, W.heap[g]? = some (.cells cs t m) := by
    intro g e
    rcases hrow.2 with ⟨rfl, _⟩ | ⟨g', cap, cur, rfl, hb, hgb, _⟩
    · simp [Value.ownBlock] at e
    · obtain rfl : g' = g := by simpa [Value.ownBlock] using e
      exact ⟨heap_lt hgb, hb, _, _, _, hgb⟩
  have hcells : (W.heap[eb]? = some (.cells #[v] 62 (0, 0))) := hv
  refine ⟨hv1, hv2, hown.kept (grownBy_setCell' w1 eb v') (.inr (hv1.not_row (by decide) hown).symm), ?_, ?_, ?_, hsame⟩
  · refine (KeepsOthers.of_grownBy hg fun j o ej hj => ?_).trans (KeepsOthers.setCell _ _ _)
    obtain ⟨_, _, cs, t, m, hh⟩ := hrowlt j ej
    rw [hh] at hj; cases hj; rfl
  · exact ((Below.refl base W).grown hg (by have := hv.lt; omega) (fun k e => (hrowlt k e).2.1)).setCell (p := ⟨eb, 0, none⟩) hbase v'
  · refine ⟨hsz, fun k cs t m hk h1 h2 h3 => (hsame k h1 (fun g e e2 => h3 (by rw [hrw, e, e2])) (heap_lt hk)).trans hk, ?_, fun h0 r hr => ?_⟩
    · rcases hnew with h | h
      · exact .inl (by rw [hrw2, hrw, h])
      · exact .inr fun r hr => h r (by rw [← hrw2]; exact hr)
    · rw [hrw2] at hr
      rcases hown.2 with ⟨rfl, _⟩ | ⟨g', cap, cur, rfl, hb, hgb, _⟩
      · simp [Value.ownBlock] at hr
      · obtain rfl : g' = r := by simpa [Value.ownBlock] using hr
        have := heap_lt hgb
        simpa using this

def okB (b : List Int) (c : BitVec 256) (p : Nat) : Bool := match b[p]? with
  | some y => mem c y.toNat
  | none => false
def stepS (b : List Int) (c : BitVec 256) (pre : List Nat) : List (Nat × Nat) := ofPts ((pre.filter (okB b c)).map (· + 1))
theorem stepS_snoc (b : List Int) (c : BitVec 256) (pre : List Nat) (p : Nat) : stepS b c (pre ++ [p]) = if okB b c p = true then addS (stepS b c pre) (p + 1) (p + 2) else stepS b c pre := by
  unfold stepS
  rw [List.filter_append, List.map_append]
  by_cases h : okB b c p = true
  · rw [if_pos h, List.filter_cons_of_pos h, List.filter_nil, List.map_cons, List.map_nil, ofPts_snoc]
  · rw [if_neg h, List.filter_cons_of_neg h, List.filter_nil, List.map_nil, List.append_nil]

theorem stepS_len (b : List Int) (c : BitVec 256) (pre : List Nat) : (stepS b c pre).length ≤ pre.length := by
  refine Nat.le_trans (addAll_len _ []) ?_
  simp only [List.length_nil, List.length_map, Nat.zero_add]
  exact List.length_filter_le _ _
theorem okB_lt {b : List Int} {c : BitVec 256} {p : Nat} (h : okB b c p = true) : p < b.length := by
  unfold okB at h
  split at h
  · rename_i y hy; exact (List.getElem?_eq_some_iff.1 hy).1
  · cases h
theorem stepS_ends (b : List Int) (c : BitVec 256) (pre : List Nat) : ∀ s ∈ stepS b c pre, s.2 ≤ b.length + 1 := by
  refine addAll_ends (fun s hs => by cases hs) fun s hs => ?_
  simp only [List.mem_map, List.mem_filter] at hs
  obtain ⟨q, ⟨p, ⟨_, hp⟩, rfl⟩, rfl⟩ := hs
  have := okB_lt hp
  show p + 1 + 1 ≤ _
  omega
theorem row_ne {W : World} {b : Nat} {vs : Array Value} {t e : TypeId} (h : Blk W b vs t) (hte : t ≠ e) {base size n : Nat} {v : Value} {xs : List Value} (hr : W.ownsRow base e size v n xs) : ∀ g, v.ownBlock = some g → b ≠ g := by
  rintro g hg rfl
  rcases hr.2 with ⟨rfl, _⟩ | ⟨g, cap, cur, rfl, _, hgb, _⟩
  · simp [Value.ownBlock] at hg
  · obtain rfl : g = b := by simpa [Value.ownBlock] using hg
    have := h.is.symm.trans hgb
    simp at this
    exact hte this.2
theorem boxed_below {W W' : World} {B : Nat} {t : TypeId} {v : Value} (h : Boxed W B t v) (hb : Below W.heap.size W W') : Boxed W' B t v := (hb.block B (Boxed.lt h)).trans h
theorem keepsOthers_below {W W' : World} (h : Below W.heap.size W W') : KeepsOthers W W' :=
  KeepsOthers.of_grownBy (row := none) ⟨h.os, h.tape, h.output, h.size, fun k hk _ => h.block k hk⟩ (fun j o e => by cases e)

set_option maxRecDepth 100000 in
set_option maxHeartbeats 2000000 in
theorem step_any (Bm : Nat) (xv bv mv v : Value) (b : List Int) (c : BitVec 256) (l : List (Nat × Nat)) (W : World) (hM : Blk W Bm #[xv, bv, mv] 61) (hb : IsB W bv b) (hbb : ∀ y ∈ b, 0 ≤ y ∧ y < 256) (hbl : b.length ≤ 1099511627776) (hv : IsS W v l)
    (hl : l.length ≤ 1099511627776) (hpl : (pts l).length ≤ 1099511627776) (hls : ∀ s ∈ l, s.1 < s.2 ∧ s.2 ≤ 1099511627776) :
    Calls Tryz.prog 58 #[.pointer (some ⟨Bm, 0, none⟩), .agg #[.int .u64 (wd c 0), .int .u64 (wd c 1), .int .u64 (wd c 2), .int .u64 (wd c 3)], v] W fun e W' =>
      (∃ v', e = .returned v' ∧ W'.ownsRow W.heap.size 66 2 v' (stepS b c (pts l)).length ((stepS b c (pts l)).flatMap encS)) ∧ Below W.heap.size W W' := by
  have hBm := hM.lt
  obtain ⟨bp, bc, rfl⟩ := hb.shape
  obtain ⟨sp, sc, rfl⟩ := hv.shape
  refine (callsIn_wide (n := 4)).1 ?_
  have hfn : ∀ k, Fence.wide.fn k := fun _ => trivial
  refine callsIn_of_wp_marks Tryz.func58 rfl trivial ?_ rfl
  simp only [Tryz.ntmps58, List.size_toArray, List.length_cons, List.length_nil, Nat.reduceAdd, Nat.reduceSub, Array.replicate_succ, Array.replicate_zero, List.push_toArray, List.append_toArray, List.nil_append, List.cons_append]
  gi_wp2_with (gi_at_call 61; refine (positions_in _ sp _ sc _).mono ?_; rintro e w' ⟨rfl, rfl⟩)
  have hW3 : ∃ w, w = (((W.alloc (.cells #[.pointer (some ⟨Bm, 0, none⟩)] 93)).alloc (.cells #[.int .u64 (wd c 0), .int .u64 (wd c 1), .int .u64 (wd c 2), .int .u64 (wd c 3)] 43)).alloc (.cells #[.slice none 0 0] 62)).alloc (.cells #[.slice sp l.length sc] 62) := ⟨_, rfl⟩
  obtain ⟨w, hw⟩ := hW3
  have hsz : w.heap.size = W.heap.size + 4 := by rw [hw]; simp
  have hBw : Below W.heap.size W w := by rw [hw]; exact ((((Below.refl _ W).alloc (Nat.le_refl _) _).alloc (by simp) _).alloc (by simp; omega) _).alloc (by simp; omega) _
  have hmw : Blk w W.heap.size #[.pointer (some ⟨Bm, 0, none⟩)] 93 := by rw [hw]; exact (((Blk.new W _ _).alloc _).alloc _).alloc _
  have hcw : Blk w (W.heap.size + 1) #[.int .u64 (wd c 0), .int .u64 (wd c 1), .int .u64 (wd c 2), .int .u64 (wd c 3)] 43 := by rw [hw]; exact ((Blk.alloc1 W _ _ _ _).alloc _).alloc _
  have hEw : Boxed w (W.heap.size + 1 + 1) 62 (.slice none 0 0) := by rw [hw]; exact ((Blk.alloc2 W _ _ _ _).alloc _).is
  have hSw : Blk w (W.heap.size + 1 + 1 + 1) #[.slice sp l.length sc] 62 := by rw [hw]; exact Blk.alloc3 W _ _ _ _ _
  rw [← hw]
  have hrw : rowOf w (W.heap.size + 1 + 1) = none := by unfold rowOf; rw [hEw.cell]; rfl
  have hread : ∀ W', KpR (W.heap.size + 1 + 1) (fun _ => False) w W' → IsS W' (.slice sp l.length sc) l := fun W' hk => hv.kept fun a u ha => by
    have hlt := lt_of_cell ha
    exact hk.cellq ((hBw.cell hlt).trans ha) (by omega) (fun h => h) (by rw [hrw]; simp)
  have HM := Lib.hid hM
  have HB := Lib.hid hb
  have Hbb := Lib.hid hbb
  have Hrd := Lib.hid hread
  have hlow : ∀ r, rowOf w (W.heap.size + 1 + 1) = some r → r < w.heap.size := fun r e => by rw [hrw] at e; cases e
  have Hls := Lib.hid hls
  have Hlen := Lib.hid (fun (pre : List Nat) (h : pre.length < (pts l).length) => h)
  clear hM hb hbb hread hv hls
  have hw' := Lib.hid hw
  clear hw
  refine wpIn_rangeFunc_ownG rfl (by decide) (gf := 91) (lb := #[.pointer (some ⟨W.heap.size + 1 + 1 + 1, 0, none⟩)]) rfl trivial (enters_of Tryz.func91 (by kernel_rfl) rfl)
    (positions_stops 3 (by decide) (W.heap.size + 1 + 1 + 1) (W.heap.size + 1 + 1) (fun _ => False) w _ l hSw Hrd.out (by omega) (fun _ h => h.elim) hlow hl (fun s hs => ⟨(Hls.out s hs).1, by have := (Hls.out s hs).2; omega⟩)) KpR.trans (kpR_b (by omega)) (Below.refl _ _) (fun _ => rfl)
    (fun pre W' => (∃ v, Boxed W' (W.heap.size + 1 + 1) 62 v ∧ W'.ownsRow W.heap.size 66 2 v (stepS b c pre).length ((stepS b c pre).flatMap encS) ∧ True) ∧ Blk W' W.heap.size #[.pointer (some ⟨Bm, 0, none⟩)] 93 ∧ Blk W' (W.heap.size + 1) #[.int .u64 (wd c 0), .int .u64 (wd c 1), .int .u64 (wd c 2), .int .u64 (wd c 3)] 43 ∧ Below W.heap.size W W')
    (fun _ _ _ => False)
    (OwnFrom.and (Own.from (holdsRow_own W.heap.size (W.heap.size + 1 + 1) 62 66 2 (fun (pre : List Nat) => (stepS b c pre).length) (fun pre => (stepS b c pre).flatMap encS) (fun _ _ => True)) _) (OwnFrom.and ((own_blk _ _ _).from _) (OwnFrom.and ((own_blk _ _ _).from _) (ownFrom_below (Nat.le_refl _) (by omega)))))
    (fun _ _ _ _ _ hs _ _ => hs)
    ⟨⟨_, hEw, World.ownsRow_nil _ _ _ _, trivial⟩, hmw, hcw, hBw⟩
    (fun y => { tmps := #[.pointer (some ⟨Bm, 0, none⟩), .agg #[.int .u64 (wd c 0), .int .u64 (wd c 1), .int .u64 (wd c 2), .int .u64 (wd c 3)], .slice sp l.length sc, .pointer (some ⟨W.heap.size, 0, none⟩), .pointer (some ⟨W.heap.size + 1, 0, none⟩), undef, .slice none 0 0, .pointer (some ⟨W.heap.size + 1 + 1, 0, none⟩), .int .i64 (y : Int), .slice sp l.length sc, .func (.func 91) #[] #[.pointer (some ⟨W.heap.size + 1 + 1 + 1, 0, none⟩)], .int .i64 (y : Int), undef, undef, undef, undef, undef, undef, undef, undef, undef, undef, undef, undef, undef, undef, undef, undef, undef, undef, undef, undef, undef, undef, undef, undef, undef], defers := [] }) ?assign ?body ?done ?stop
  case assign =>
    intro l y W K hK
    gi_wp2
    exact hK
  case body =>
    rintro l' pre y W1 ⟨⟨v, hv1, hrow, -⟩, hm1, hc1, hB1⟩ hlt
    have m1 := hm1.cell 0 rfl
    obtain ⟨k0, k1, k2, k3, -⟩ := hc1.four
    have hM1 := HM.out.below hB1 hBm
    have b1 := hM1.cell 1 rfl
    have c1 := hv1.cell
    have gm1 := fun d os => cell_regrown m1 d os
    have g0 := fun d os => cell_regrown k0 d os
    have g1 := fun d os => cell_regrown k1 d os
    have g2 := fun d os => cell_regrown k2 d os
    have g3 := fun d os => cell_regrown k3 d os
    have gb1 := fun d os => cell_regrown b1 d os
    have hn1 : 1 ≤ 4 - 1 - 1 := by decide
    have hmix : Tryz.prog.follows .mixedOrders = true := by kernel_rfl
    have HV := Lib.hid hv1
    have HO := Lib.hid hrow
    have HM1 := Lib.hid hm1
    have HC1 := Lib.hid hc1
    have HB1 := Lib.hid hB1
    have HLt := Lib.hid hlt
    clear hv1 hrow hm1 hc1 hB1 hlt hM1
    by_cases hy : y < b.length
    · have t1 : decide ((y : Int) < (b.length : Int)) = true := by simp; omega
      obtain ⟨x, hx⟩ : ∃ x, b[y]? = some x := ⟨_, List.getElem?_eq_getElem hy⟩
      obtain ⟨bb, bo, rfl, hbc⟩ := HB.out.at hx
      have b2 := (HB1.out.cell (lt_of_cell hbc)).trans hbc
      have gb2 := fun d os => cell_regrown b2 d os
      have hxb := Hbb.out x (List.mem_of_getElem? hx)
      have HA : ∀ (q : Bool), mem c x.toNat = q → ∀ (r d : Nat) (os : Array Obj), CallsIn Fence.wide r Tryz.prog 82 #[.agg #[.int .u64 (wd c 0), .int .u64 (wd c 1), .int .u64 (wd c 2), .int .u64 (wd c 3)], .int .u8 x] (Go.Sort.grow (redrawn W1 d) os) fun e w'' => e = .returned (.bool q) ∧ ∃ p : Regrown, w'' = Go.Sort.grow (redrawn W1 p.d) p.os := by
        rintro q rfl r d os
        exact CallsIn.regrown_of (callsIn_wide.2 (has_any c x _ hxb.1 hxb.2))
      have hok : okB b c y = mem c x.toNat := by unfold okB; rw [hx]
      cases hmem : mem c x.toNat with
      | false =>
        have HAf := Lib.hid (HA _ hmem)
        have HSt := Lib.hid (show stepS b c (pre ++ [y]) = stepS b c pre by rw [stepS_snoc, hok, hmem]; rfl)
        clear HA hmem hok
        gi_wp2
        refine wpIn_quiet_round l' rfl (by kernel_rfl) hmix (by kernel_rfl) ?_
        repeat (gi_big_quiet_step (with_reducible exact HAf.out _ _ _))
        refine wpQuietIn_nil ?_
        intro _ hw'
        obtain ⟨⟨dq, osq⟩, hw''⟩ := hw'
        subst hw''
        have hb2 := below_regrown W1 dq osq
        generalize Go.Sort.grow (redrawn W1 dq) osq = W2 at hb2 ⊢
        clear dq osq
        gi_wp2
        exact ⟨(keepsOthers_below hb2).from _, KpR.of_below hb2 HV.out.lt, ⟨_, boxed_below HV.out hb2, own_cast (own_below HO.out hb2) (by rw [HSt.out]) (by rw [HSt.out]), trivial⟩, HM1.out.grows hb2, HC1.out.grows hb2, HB1.out.trans (hb2.mono HB1.out.size)⟩
      | true =>
        have HAt := Lib.hid (HA _ hmem)
        have HSt := Lib.hid (show stepS b c (pre ++ [y]) = addS (stepS b c pre) (y + 1) (y + 2) by rw [stepS_snoc, hok, hmem]; rfl)
        clear HA hmem hok
        gi_wp2
        refine wpIn_quiet_round l' rfl (by kernel_rfl) hmix (by kernel_rfl) ?_
        repeat (gi_big_quiet_step (with_reducible exact HAt.out _ _ _))
        refine wpQuietIn_nil ?_
        intro _ hw'
        obtain ⟨⟨dq, osq⟩, hw''⟩ := hw'
        subst hw''
        have hb2 := below_regrown W1 dq osq
        generalize Go.Sort.grow (redrawn W1 dq) osq = W2 at hb2 ⊢
        clear dq osq
        clear m1 k0 k1 k2 k3 gm1 g0 g1 g2 g3 gb1 gb2 b1 b2
        have hV2 := boxed_below HV.out hb2
        have hO2 := own_below HO.out hb2
        have w1 : IntKind.i64.wrap ((y : Int) + 1) = ((y + 1 : Nat) : Int) := by rw [IntWalk.i64_in _ (by omega)]; omega
        have w2 : IntKind.i64.wrap ((y : Int) + 2) = ((y + 2 : Nat) : Int) := by rw [IntWalk.i64_in _ (by omega)]; omega
        have c2 := hV2.cell
        have hsl := stepS_len b c pre
        have hlt := HLt.out
        have HAd := Lib.hid (addSp_at v _ (y + 1) (y + 2) W.heap.size W2 hO2 (by have := HB1.out.size; have := hb2.size; omega) (by omega) (by omega) (by omega) (fun s hs => by have := stepS_ends b c pre s hs; omega))
        have HV2 := Lib.hid hV2
        have HO2 := Lib.hid hO2
        have Hb2 := Lib.hid hb2
        clear hV2 hO2 hb2 hsl hlt
        gi_wp2_with (gi_at_call 83; refine (CallsIn.inRound l' (callsIn_wide.2 HAd.out)).mono ?_; rintro e W3 ⟨⟨v', rfl, hown3, hnew3⟩, hg3⟩; obtain ⟨p3, q3, rfl⟩ := own_shape hown3; obtain ⟨hv3, hv4, hr4, hk4, hb4, hkp4, hs4⟩ := box_step (X := fun _ => False) HV2.out HO2.out (by omega) hown3 hnew3 hg3; have c3 := hv3.cell; have f3 := hv3.frozen)
        have hM2 := HM1.out.grows Hb2.out
        have hC2 := HC1.out.grows Hb2.out
        exact ⟨((keepsOthers_below Hb2.out).trans hk4).from _, (KpR.of_below Hb2.out HV.out.lt).trans hkp4, ⟨_, hv4, own_cast hr4 (by rw [HSt.out]) (by rw [HSt.out]), trivial⟩,
          ⟨(hs4 _ (by omega) (row_ne hM2 (by decide) HO2.out) hM2.lt).trans hM2.is⟩, ⟨(hs4 _ (by omega) (row_ne hC2 (by decide) HO2.out) hC2.lt).trans hC2.is⟩, (HB1.out.trans (Hb2.out.mono HB1.out.size)).trans hb4⟩
    · have t1 : decide ((y : Int) < (b.length : Int)) = false := by simp; omega
      have hok : okB b c y = false := by unfold okB; rw [List.getElem?_eq_none (by omega)]
      have HSt := Lib.hid (show stepS b c (pre ++ [y]) = stepS b c pre by rw [stepS_snoc, hok]; rfl)
      clear hok
      gi_wp2
      refine wpIn_quiet_round l' rfl (by kernel_rfl) hmix (by kernel_rfl) ?_
      repeat (gi_big_quiet_step (fail))
      refine wpQuietIn_nil ?_
      intro _ hw'
      obtain ⟨⟨dq, osq⟩, hw''⟩ := hw'
      subst hw''
      have hb2 := below_regrown W1 dq osq
      generalize Go.Sort.grow (redrawn W1 dq) osq = W2 at hb2 ⊢
      clear dq osq
      gi_wp2
      exact ⟨(keepsOthers_below hb2).from _, KpR.of_below hb2 HV.out.lt, ⟨_, boxed_below HV.out hb2, own_cast (own_below HO.out hb2) (by rw [HSt.out]) (by rw [HSt.out]), trivial⟩, HM1.out.grows hb2, HC1.out.grows hb2, HB1.out.trans (hb2.mono HB1.out.size)⟩
  case done =>
    rintro D ys W1 hD rfl ⟨⟨v, hv1, hrow, -⟩, hm1, hc1, hB1⟩ hK
    have c1 := hv1.cell
    obtain ⟨vp, vc, rfl⟩ := own_shape hrow
    gi_wp2
    refine ⟨by simp, .inl ⟨_, _, rfl, run_takeDeferred hK, ?_⟩⟩
    exact ⟨_, results_tmp rfl _ _ _, ⟨_, rfl, ownsRow_putObj hrow _ hK rfl⟩, hB1.trans (belowK_b (w := W) (Nat.le_refl _) W1 D _ _ (by omega) hK rfl rfl)⟩
  case stop =>
    rintro D c pre W _ _ h _
    exact h.elim
end Go.Proofs.YtgbbjobmcbdhdaaGreatDoor

/-
  Maps: of integers to true; of visits to sets.
-/
namespace Go.Proofs.YtgbbjobmcbdhdaaGreatDoor
open Go.RowKit Go.MapKept

/-- the map at mb has these keys; all its values are true. -/
def KeysB (W : World) (mb : Nat) (ks : List Nat) : Prop :=
  ∃ es clock, W.heap[mb]? = some (.map es clock) ∧ es.toList.map (·.key) = ks.map (fun n : Nat => Value.int .i64 (n : Int)) ∧ ∀ e ∈ es.toList, e.val = .bool true
theorem lookB {W : World} {mb : Nat} {ks : List Nat} (h : KeysB W mb ks) (p : Nat) :
    (Instr.lookup 135 (.map (some mb)) (.int .i64 (p : Int)) false).run Tryz.prog W = .ok (.bool (decide (p ∈ ks))) W := by
  obtain ⟨es, clock, hb, hk, hv⟩ := h
  have um := Tryz.underlying135
  have ui := Tryz.underlying3
  have hkey : IsKey (.int .i64) (.int .i64 (p : Int)) := rfl
  have hkeys : ∀ x ∈ es.toList, IsKey (.int .i64) x.key := by
    intro x hx
    have hm : x.key ∈ es.toList.map (·.key) := List.mem_map.2 ⟨x, hx, rfl⟩
    rw [hk] at hm
    obtain ⟨n, _, e⟩ := List.mem_map.1 hm
    rw [← e]; rfl
  rcases findNow_spec hkey es.toList 0 hkeys with ⟨h1, h2⟩ | ⟨j, e, h1, h2, h3⟩
  · have hp : p ∉ ks := by
      intro hp
      have hm : Value.int .i64 (p : Int) ∈ es.toList.map (·.key) := by rw [hk]; exact List.mem_map.2 ⟨p, hp, rfl⟩
      obtain ⟨x, hx, e⟩ := List.mem_map.1 hm
      exact h2 x hx e
    rw [decide_eq_false hp]
    have hz : (zeroValue 4).run Tryz.prog W = .ok (.bool false) W := by go_simp
    simp [Instr.lookup, run_underlying um, MapKept.run_getObj_map hb, MapKept.run_checkKey ui hkey, MapKept.run_findKey ui h1, Result.andThen, hz]
  · have hx : e ∈ es.toList := List.mem_of_getElem? h2
    have hp : p ∈ ks := by
      have hm : e.key ∈ es.toList.map (·.key) := List.mem_map.2 ⟨e, hx, rfl⟩
      rw [hk, h3] at hm
      obtain ⟨n, hn, e⟩ := List.mem_map.1 hm
      simp only [Value.int.injEq, true_and] at e
      have : n = p := by omega
      exact this ▸ hn
    rw [decide_eq_true hp]
    simp [Instr.lookup, run_underlying um, MapKept.run_getObj_map hb, MapKept.run_checkKey ui hkey, MapKept.run_findKey ui h1, Result.andThen, hv e hx]
theorem updB {W : World} {mb : Nat} {ks : List Nat} (h : KeysB W mb ks) (p : Nat) (hp : p ∉ ks) :
    ∃ o : Obj, o.isCells = false ∧ (Instr.mapUpdate 135 (.map (some mb)) (.int .i64 (p : Int)) (.bool true)).run Tryz.prog W = .ok () (W.putObj mb o) ∧ KeysB (W.putObj mb o) mb (ks ++ [p]) := by
  obtain ⟨es, clock, hb, hk, hv⟩ := h
  have um := Tryz.underlying135
  have ui := Tryz.underlying3
  have hkey : IsKey (.int .i64) (.int .i64 (p : Int)) := rfl
  have hkeys : ∀ x ∈ es.toList, IsKey (.int .i64) x.key := by
    intro x hx
    have hm : x.key ∈ es.toList.map (·.key) := List.mem_map.2 ⟨x, hx, rfl⟩
    rw [hk] at hm
    obtain ⟨n, _, e⟩ := List.mem_map.1 hm
    rw [← e]; rfl
  have hlt : mb < W.heap.size := (Array.getElem?_eq_some_iff.1 hb).1
  rcases findNow_spec hkey es.toList 0 hkeys with ⟨h1, h2⟩ | ⟨j, e, h1, h2, h3⟩
  · refine ⟨.map (es.push { key := .int .i64 (p : Int), val := .bool true, born := clock }) (clock + 1), rfl, ?_, ?_⟩
    · simp [Instr.mapUpdate, run_underlying um, MapKept.run_getObj_map hb, MapKept.run_checkKey ui hkey, MapKept.run_findKey ui h1, Result.andThen, MapKept.run_setObj_map _ hb, World.putObj]
    · refine ⟨_, _, World.putObj_heap_same hlt, ?_, ?_⟩
      · simp [hk]
      · intro x hx
        simp only [Array.toList_push, List.mem_append, List.mem_singleton] at hx
        rcases hx with hx | rfl
        · exact hv x hx
        · rfl
  · have hx : e ∈ es.toList := List.mem_of_getElem? h2
    have hm : e.key ∈ es.toList.map (·.key) := List.mem_map.2 ⟨e, hx, rfl⟩
    rw [hk, h3] at hm
    obtain ⟨n, hn, e⟩ := List.mem_map.1 hm
    simp only [Value.int.injEq, true_and] at e
    have : n = p := by omega
    exact absurd (this ▸ hn) hp

/-! ## Visits -/

set_option maxRecDepth 100000 in
theorem eq_visit (i j : Int) (s t : ByteArray) (w : World) : (Op.equalIn 10000 121 (.agg #[.int .i64 i, .string s]) (.agg #[.int .i64 j, .string t])).run Tryz.prog w = .ok (decide (i = j ∧ s = t)) w := by
  have ut := Tryz.underlying121
  have ui := Tryz.underlying3
  have us := Tryz.underlying9
  have hf : Tryz.prog.underlying 121 = some (.struct (Tryz.prog.fieldsOf 121)) := by unfold Program.fieldsOf; rw [ut]
  rw [show (10000 : Nat) = 9999 + 1 from rfl, run_equalIn_struct w 9999 121 _ _ hf (by kernel_rfl)]
  unfold Program.fieldsOf
  rw [ut]
  simp only [Op.eqFields]
  go_simp
  have hst : s.toList = t.toList ↔ s = t := ⟨fun h => by rw [ByteArray.toList_eq, ByteArray.toList_eq] at h; exact ByteArray.ext (Array.toList_inj.1 h), fun h => by rw [h]⟩
  by_cases h1 : i = j <;> by_cases h2 : s = t <;> simp [h1, h2, hst]
theorem check_visit (b : Bool) (i : Int) (s : ByteArray) (w : World) : (Instr.checkKey b 10000 121 (.agg #[.int .i64 i, .string s])).run Tryz.prog w = .ok () w := by
  have ut := Tryz.underlying121
  have ui := Tryz.underlying3
  have us := Tryz.underlying9
  rw [show (10000 : Nat) = 9999 + 1 from rfl]
  unfold Instr.checkKey
  simp only [Sem.run_bind, run_underlying ut, Result.andThen_ok]
  go_simp
  rw [MapKept.run_checkKey (k := .int .i64 i) ui rfl b 9998]
  simp only [Result.andThen_ok]
  rw [MapKept.run_checkKey (k := .string s) us trivial b 9998]
  rfl
/-- a visit's key. -/
def vkey (i : Nat) (l : List (Nat × Nat)) : Value := .agg #[.int .i64 (i : Int), .string ⟨(keyS l).toArray⟩]
/-- what asking for a visit finds: the first entry of that key, if there is one. -/
theorem find_visit (i : Int) (s : ByteArray) (w : World) : ∀ (es : List MapEntry) (k : Nat), (∀ e ∈ es, ∃ j t, e.key = .agg #[.int .i64 j, .string t]) →
    ((Instr.findAsking 121 (.agg #[.int .i64 i, .string s]) es k).run Tryz.prog w = .ok none w ∧ ∀ e ∈ es, e.key ≠ .agg #[.int .i64 i, .string s]) ∨
    ∃ j e, (Instr.findAsking 121 (.agg #[.int .i64 i, .string s]) es k).run Tryz.prog w = .ok (some (k + j, e.val)) w ∧ es[j]? = some e ∧ e.key = .agg #[.int .i64 i, .string s]
  | [], k, _ => .inl ⟨rfl, by simp⟩
  | e :: es, k, h => by
    obtain ⟨j, t, hk⟩ := h e (by simp)
    have hq := eq_visit i j s t w
    by_cases hij : i = j ∧ s = t
    · rw [decide_eq_true hij] at hq
      refine .inr ⟨0, e, ?_, rfl, by rw [hk, hij.1, hij.2]⟩
      simp [Instr.findAsking, Op.equal, Op.maxDepth, hk, hq, Result.andThen]
    · rw [decide_eq_false hij] at hq
      have hne : e.key ≠ .agg #[.int .i64 i, .string s] := by
        rw [hk]
        intro hc
        simp at hc
        exact hij ⟨hc.1.symm, hc.2.symm⟩
      rcases find_visit i s w es (k + 1) (fun x hx => h x (by simp [hx])) with ⟨h1, h2⟩ | ⟨j', e', h1, h2, h3⟩
      · refine .inl ⟨?_, ?_⟩
        · simp [Instr.findAsking, Op.equal, Op.maxDepth, hk, hq, Result.andThen, h1]
        · intro x hx
          rcases List.mem_cons.1 hx with rfl | hx
          · exact hne
          · exact h2 x hx
      · refine .inr ⟨j' + 1, e', ?_, by simpa using h2, h3⟩
        simp [Instr.findAsking, Op.equal, Op.maxDepth, hk, hq, Result.andThen, h1]
        omega
/-- the memo at mb: each entry is a visit and a value of which R holds. -/
def Memo (W : World) (mb : Nat) (R : Nat → List (Nat × Nat) → Value → Prop) : Prop :=
  ∃ es clock, W.heap[mb]? = some (.map es clock) ∧ ∀ e ∈ es.toList, ∃ i l, e.key = vkey i l ∧ R i l e.val
theorem find_key {W : World} {es : List MapEntry} (hes : ∀ e ∈ es, ∃ j t, e.key = .agg #[.int .i64 j, .string t]) (i : Int) (s : ByteArray) :
    ((Instr.findKey 121 (.agg #[.int .i64 i, .string s]) es).run Tryz.prog W = .ok none W ∧ ∀ e ∈ es, e.key ≠ .agg #[.int .i64 i, .string s]) ∨
    ∃ j e, (Instr.findKey 121 (.agg #[.int .i64 i, .string s]) es).run Tryz.prog W = .ok (some (j, e.val)) W ∧ es[j]? = some e ∧ e.key = .agg #[.int .i64 i, .string s] := by
  have ut := Tryz.underlying121
  cases es with
  | nil => exact .inl ⟨by simp [Instr.findKey, run_underlying ut, Result.andThen, Instr.findNow], by simp⟩
  | cons e es =>
    obtain ⟨j, t, hk⟩ := hes e (by simp)
    have hfk : (Instr.findKey 121 (.agg #[.int .i64 i, .string s]) (e :: es)).run Tryz.prog W = (Instr.findAsking 121 (.agg #[.int .i64 i, .string s]) (e :: es)).run Tryz.prog W := by
      simp [Instr.findKey, run_underlying ut, Result.andThen, Instr.findNow, Instr.sameNow, hk]
    rw [hfk]
    rcases find_visit i s W (e :: es) 0 hes with h | ⟨j, e', h1, h2, h3⟩
    · exact .inl h
    · exact .inr ⟨j, e', by simpa using h1, h2, h3⟩
theorem lookM {W : World} {mb : Nat} {R : Nat → List (Nat × Nat) → Value → Prop} (h : Memo W mb R) (i : Nat) (l : List (Nat × Nat)) :
    (Instr.lookup 59 (.map (some mb)) (vkey i l) true).run Tryz.prog W = .ok (.tuple #[.slice none 0 0, .bool false]) W ∨
    ∃ v j m, (Instr.lookup 59 (.map (some mb)) (vkey i l) true).run Tryz.prog W = .ok (.tuple #[v, .bool true]) W ∧ vkey j m = vkey i l ∧ R j m v := by
  obtain ⟨es, clock, hb, hes⟩ := h
  have um := Tryz.underlying59
  have hc := check_visit es.isEmpty (i : Int) ⟨(keyS l).toArray⟩ W
  rcases find_key (W := W) (fun e he => let ⟨j, m, hk, _⟩ := hes e he; ⟨_, _, hk⟩) (i : Int) ⟨(keyS l).toArray⟩ with ⟨h1, _⟩ | ⟨j, e, h1, h2, h3⟩
  · refine .inl ?_
    have hz : (zeroValue 62).run Tryz.prog W = .ok (.slice none 0 0) W := by go_simp
    simp [Instr.lookup, vkey, run_underlying um, MapKept.run_getObj_map hb, hc, h1, Result.andThen, hz]
  · obtain ⟨j', m, hk, hR⟩ := hes e (List.mem_of_getElem? h2)
    refine .inr ⟨e.val, j', m, ?_, by rw [← hk, h3]; rfl, hR⟩
    simp [Instr.lookup, vkey, run_underlying um, MapKept.run_getObj_map hb, hc, h1, Result.andThen]
theorem same_key (i : Int) (s : ByteArray) (w : World) : (Instr.keyThatStays (.agg #[.int .i64 i, .string s]) (.agg #[.int .i64 i, .string s])).run Tryz.prog w = .ok (.agg #[.int .i64 i, .string s]) w := by
  simp [Instr.keyThatStays, Instr.sameBits, MapKept.bytes_beq]
theorem updM {W : World} {mb : Nat} {R : Nat → List (Nat × Nat) → Value → Prop} (h : Memo W mb R) (i : Nat) (l : List (Nat × Nat)) (v : Value) (hv : R i l v) :
    ∃ o : Obj, o.isCells = false ∧ (Instr.mapUpdate 59 (.map (some mb)) (vkey i l) v).run Tryz.prog W = .ok () (W.putObj mb o) ∧ Memo (W.putObj mb o) mb R := by
  obtain ⟨es, clock, hb, hes⟩ := h
  have um := Tryz.underlying59
  have hc := check_visit false (i : Int) ⟨(keyS l).toArray⟩ W
  have hlt : mb < W.heap.size := (Array.getElem?_eq_some_iff.1 hb).1
  rcases find_key (W := W) (fun e he => let ⟨j, m, hk, _⟩ := hes e he; ⟨_, _, hk⟩) (i : Int) ⟨(keyS l).toArray⟩ with ⟨h1, _⟩ | ⟨j, e, h1, h2, h3⟩
  · refine ⟨.map (es.push { key := vkey i l, val := v, born := clock }) (clock + 1), rfl, ?_, ?_⟩
    · simp [Instr.mapUpdate, vkey, run_underlying um, MapKept.run_getObj_map hb, hc, h1, Result.andThen, MapKept.run_setObj_map _ hb, World.putObj]
    · refine ⟨_, _, World.putObj_heap_same hlt, fun x hx => ?_⟩
      simp only [Array.toList_push, List.mem_append, List.mem_singleton] at hx
      rcases hx with hx | rfl
      · exact hes x hx
      · exact ⟨i, l, rfl, hv⟩
  · have hj : es[j]? = some e := by simpa using h2
    refine ⟨.map (es.modify j fun e => { e with key := vkey i l, val := v }) clock, rfl, ?_, ?_⟩
    · simp [Instr.mapUpdate, vkey, run_underlying um, MapKept.run_getObj_map hb, hc, h1, hj, h3, same_key, Result.andThen, MapKept.run_setObj_map _ hb, World.putObj]
    · refine ⟨_, _, World.putObj_heap_same hlt, fun x hx => ?_⟩
      rcases MapFrom.mem_modify hx with hx | ⟨e', _, rfl⟩
      · exact hes x hx
      · exact ⟨i, l, rfl, hv⟩
end Go.Proofs.YtgbbjobmcbdhdaaGreatDoor

/-
  Keys of sets: different sets have different ones.
-/
namespace Go.Proofs.YtgbbjobmcbdhdaaGreatDoor
open Go.RowKit

def decVal (l : List UInt8) : Nat := l.foldl (fun a c => a * 10 + (c.toNat - 48)) 0
theorem digit_byte (d : Nat) (h : d < 10) : (UInt8.ofNat (48 + d)).toNat = 48 + d := by
  simp; omega
theorem decVal_dec (u : Nat) : decVal (Lib.decDigits u) = u ∧ ∀ c ∈ Lib.decDigits u, 48 ≤ c.toNat := by
  induction u using Nat.strongRecOn with
  | _ u ih =>
    rw [Lib.decDigits]
    split
    · rename_i h
      refine ⟨?_, ?_⟩
      · simp only [decVal, List.foldl_cons, List.foldl_nil]
        rw [digit_byte u h]; omega
      · intro c hc
        simp only [List.mem_singleton] at hc
        subst hc
        rw [digit_byte u h]; omega
    · rename_i h
      obtain ⟨h1, h2⟩ := ih (u / 10) (by omega)
      refine ⟨?_, ?_⟩
      · unfold decVal at h1 ⊢
        rw [List.foldl_append, h1]
        simp only [List.foldl_cons, List.foldl_nil]
        rw [digit_byte _ (by omega)]; omega
      · intro c hc
        rcases List.mem_append.1 hc with hc | hc
        · exact h2 c hc
        · simp only [List.mem_singleton] at hc
          subst hc
          rw [digit_byte _ (by omega)]; omega
theorem dec_inj {a b : Nat} (h : Lib.decDigits a = Lib.decDigits b) : a = b := by
  have := (decVal_dec a).1
  rw [h, (decVal_dec b).1] at this
  exact this.symm
theorem no_blank (u : Nat) : (32 : UInt8) ∉ Lib.decDigits u := by
  intro h
  have := (decVal_dec u).2 _ h
  simp at this
theorem split_blank : ∀ {a b x y : List UInt8}, (32 : UInt8) ∉ a → (32 : UInt8) ∉ b → a ++ 32 :: x = b ++ 32 :: y → a = b ∧ x = y
  | [], [], x, y, _, _, h => by simpa using h
  | [], c :: b, x, y, _, hb, h => by
    simp only [List.nil_append, List.cons_append, List.cons.injEq] at h
    exact absurd (by rw [← h.1]; simp) hb
  | c :: a, [], x, y, ha, _, h => by
    simp only [List.nil_append, List.cons_append, List.cons.injEq] at h
    exact absurd (by rw [h.1]; simp) ha
  | c :: a, d :: b, x, y, ha, hb, h => by
    simp only [List.cons_append, List.cons.injEq] at h
    obtain ⟨h1, h2⟩ := split_blank (fun hm => ha (by simp [hm])) (fun hm => hb (by simp [hm])) h.2
    exact ⟨by rw [h.1, h1], h2⟩
theorem keyS_cons (s : Nat × Nat) (l : List (Nat × Nat)) : keyS (s :: l) = Lib.decDigits s.1 ++ 32 :: (Lib.decDigits s.2 ++ 32 :: keyS l) := by
  unfold keyS
  rw [List.flatMap_cons, Lib.itoa_nonneg, Lib.itoa_nonneg]
  simp
theorem keyS_inj : ∀ {l m : List (Nat × Nat)}, keyS l = keyS m → l = m
  | [], [], _ => rfl
  | [], s :: m, h => by rw [keyS_cons] at h; simp [keyS] at h
  | s :: l, [], h => by rw [keyS_cons] at h; simp [keyS] at h
  | s :: l, u :: m, h => by
    rw [keyS_cons, keyS_cons] at h
    obtain ⟨h1, h2⟩ := split_blank (no_blank _) (no_blank _) h
    obtain ⟨h3, h4⟩ := split_blank (no_blank _) (no_blank _) h2
    rw [keyS_inj h4]
    have e : s = u := Prod.ext (dec_inj h1) (dec_inj h3)
    rw [e]
theorem vkey_inj {i j : Nat} {l m : List (Nat × Nat)} (h : vkey i l = vkey j m) : i = j ∧ l = m := by
  simp only [vkey, Value.agg.injEq] at h
  have h1 := congrArg (fun a : Array Value => a[0]?) h
  have h2 := congrArg (fun a : Array Value => a[1]?) h
  simp at h1 h2
  exact ⟨by omega, keyS_inj h2⟩
end Go.Proofs.YtgbbjobmcbdhdaaGreatDoor

/-
  An expression's tree; what a matcher's world says; frames of its calls.
-/
namespace Go.Proofs.YtgbbjobmcbdhdaaGreatDoor
open Go.RowKit

/-! ## Sizes of sets -/
theorem incr_len (N : Nat) : ∀ (l : List Nat) (a : Nat), l.Pairwise (· < ·) → (∀ x ∈ l, a ≤ x ∧ x < N) → l.length ≤ N - a
  | [], _, _, _ => by simp
  | x :: l, a, hp, hb => by
    have h1 := hb x (by simp)
    have hp2 := List.pairwise_cons.1 hp
    have := incr_len N l (x + 1) hp2.2 (fun y hy => ⟨hp2.1 y hy, (hb y (by simp [hy])).2⟩)
    simp only [List.length_cons]; omega
theorem len_pts : ∀ {l : List (Nat × Nat)}, Good l → l.length ≤ (pts l).length
  | [], _ => by simp
  | s :: l, h => by
    have := len_pts h.tail
    have := h.head
    rw [pts, List.length_append, List.length_range', List.length_cons]; omega
theorem pts_len {l : List (Nat × Nat)} {N : Nat} (h : Good l) (hN : ∀ q, On l q → q ≤ N) : (pts l).length ≤ N + 1 := by
  have := incr_len (N + 1) (pts l) 0 (pts_incr h) (fun x hx => ⟨Nat.zero_le _, by have := hN x (mem_pts.1 hx); omega⟩)
  omega
theorem good_ends {l : List (Nat × Nat)} {N : Nat} (h : Good l) (hN : ∀ q, On l q → q ≤ N) : ∀ s ∈ l, s.1 < s.2 ∧ s.2 ≤ N + 1 := by
  intro s hs
  have h1 := h.mem s hs
  have := hN (s.2 - 1) ⟨s, hs, by omega, by omega⟩
  exact ⟨h1, by omega⟩

/-! ## Trees -/
/-- what validity says of the nodes. -/
structure OkX (xs : List Nd) : Prop where
  len : xs.length ≤ 200
  kind : ∀ (i : Nat) n, xs[i]? = some n → 1 ≤ n.k ∧ n.k ≤ 8
  ops : ∀ (i : Nat) n, xs[i]? = some n → ∀ j ∈ opsN n, 0 ≤ j ∧ j < (i : Int)
  bnd : ∀ (i : Nat) n, xs[i]? = some n → n.k = 8 → 0 ≤ n.mn ∧ n.mn ≤ 16 ∧ -1 ≤ n.mx ∧ n.mx ≤ 16 ∧ (n.mx = -1 ∨ n.mn ≤ n.mx)
theorem firstE_all : ∀ (l : List Nd) (i : Nat), firstE i l = 0 → ∀ (k : Nat) n, l[k]? = some n → chkN n ((i + k : Nat) : Int) = 0
  | [], _, _, k, n, h => by simp at h
  | m :: l, i, h, k, n, hk => by
    rw [firstE] at h
    split at h
    · rename_i h0
      cases k with
      | zero =>
        obtain rfl : m = n := by simpa using hk
        simpa using h0
      | succ k =>
        have := firstE_all l (i + 1) h k n (by simpa using hk)
        rwa [show i + 1 + k = i + (k + 1) by omega] at this
    · rename_i h0; exact absurd h h0
theorem okX_of {xs : List Nd} (h : validE xs = 0) : OkX xs := by
  unfold validE at h
  split at h
  · cases h
  rename_i h200
  split at h
  · cases h
  have hf : firstE 0 xs = 0 := by
    unfold vRes at h
    split at h
    · rename_i hf; exact hf
    · rename_i hf; exact absurd h hf
  have hall : ∀ (k : Nat) n, xs[k]? = some n → chkN n (k : Int) = 0 := fun k n hk => by simpa using firstE_all xs 0 hf k n hk
  refine ⟨by omega, fun i n hi => ?_, fun i n hi => chk_zero (hall i n hi), fun i n hi hk => ?_⟩
  · have h0 := hall i n hi
    unfold chkN at h0
    split at h0
    · cases h0
    · rename_i hno
      have hkb : knownB n.k = true := by
        cases hb : knownB n.k
        · exact absurd (.inl hb) hno
        · rfl
      unfold knownB at hkb
      simp at hkb
      exact hkb
  · have h0 := hall i n hi
    unfold chkN at h0
    split at h0
    · cases h0
    · unfold chkR at h0
      split at h0
      · cases h0
      · unfold boundsErr at h0
        repeat' split at h0
        all_goals first | (cases h0; done) | omega
/-- the tree at a node. -/
def rx (xs : List Nd) : Nat → Nat → Rx
  | 0, _ => .none
  | f + 1, i => match xs[i]? with
    | none => .none
    | some n =>
      if n.k = 2 then .empty else if n.k = 3 then .cls n.c else if n.k = 4 then .cat (rx xs f n.l.toNat) (rx xs f n.r.toNat)
      else if n.k = 5 then .alt (rx xs f n.l.toNat) (rx xs f n.r.toNat) else if n.k = 6 then .and (rx xs f n.l.toNat) (rx xs f n.r.toNat)
      else if n.k = 7 then .not (rx xs f n.l.toNat) else if n.k = 8 then .rep (rx xs f n.l.toNat) n.mn.toNat (if n.mx = -1 then none else some n.mx.toNat) else .none
theorem opsN_two {n : Nd} (h : n.k = 4 ∨ n.k = 5 ∨ n.k = 6) : opsN n = [n.l, n.r] := by unfold opsN; rw [if_pos h]
theorem opsN_one {n : Nd} (h : n.k = 7 ∨ n.k = 8) : opsN n = [n.l] := by unfold opsN; rw [if_neg (by omega), if_pos h]
theorem OkX.two {xs : List Nd} (h : OkX xs) {i : Nat} {n : Nd} (hi : xs[i]? = some n) (hk : n.k = 4 ∨ n.k = 5 ∨ n.k = 6) : (0 ≤ n.l ∧ n.l < (i : Int)) ∧ 0 ≤ n.r ∧ n.r < (i : Int) :=
  ⟨h.ops i n hi n.l (by rw [opsN_two hk]; simp), h.ops i n hi n.r (by rw [opsN_two hk]; simp)⟩
theorem OkX.one {xs : List Nd} (h : OkX xs) {i : Nat} {n : Nd} (hi : xs[i]? = some n) (hk : n.k = 7 ∨ n.k = 8) : 0 ≤ n.l ∧ n.l < (i : Int) :=
  h.ops i n hi n.l (by rw [opsN_one hk]; simp)
theorem rx_fuel {xs : List Nd} (h : OkX xs) : ∀ (f g i : Nat), i < f → i < g → rx xs f i = rx xs g i
  | 0, _, _, h1, _ => by omega
  | _ + 1, 0, _, _, h2 => by omega
  | f + 1, g + 1, i, h1, h2 => by
    unfold rx
    cases hi : xs[i]? with
    | none => rfl
    | some n =>
      have two : (n.k = 4 ∨ n.k = 5 ∨ n.k = 6) → rx xs f n.l.toNat = rx xs g n.l.toNat ∧ rx xs f n.r.toNat = rx xs g n.r.toNat := fun hk => by
        have := h.two hi hk
        exact ⟨rx_fuel h f g _ (by omega) (by omega), rx_fuel h f g _ (by omega) (by omega)⟩
      have one : (n.k = 7 ∨ n.k = 8) → rx xs f n.l.toNat = rx xs g n.l.toNat := fun hk => by
        have := h.one hi hk
        exact rx_fuel h f g _ (by omega) (by omega)
      dsimp only
      by_cases h4 : n.k = 4
      · simp only [h4]; rw [(two (.inl h4)).1, (two (.inl h4)).2]
      by_cases h5 : n.k = 5
      · simp only [h5]; rw [(two (.inr (.inl h5))).1, (two (.inr (.inl h5))).2]
      by_cases h6 : n.k = 6
      · simp only [h6]; rw [(two (.inr (.inr h6))).1, (two (.inr (.inr h6))).2]
      by_cases h7 : n.k = 7
      · simp only [h7]; rw [one (.inl h7)]; simp
      by_cases h8 : n.k = 8
      · simp only [h8]; rw [one (.inr h8)]; simp
      simp only [h4, h5, h6, h7, h8, if_false]
def tr (xs : List Nd) (i : Nat) : Rx := rx xs (i + 1) i
theorem tr_none {xs : List Nd} {i : Nat} {n : Nd} (hi : xs[i]? = some n) (hk : n.k = 1) : tr xs i = .none := by
  unfold tr rx; simp [hi, hk]
theorem tr_empty {xs : List Nd} {i : Nat} {n : Nd} (hi : xs[i]? = some n) (hk : n.k = 2) : tr xs i = .empty := by
  unfold tr rx; simp [hi, hk]
theorem tr_cls {xs : List Nd} {i : Nat} {n : Nd} (hi : xs[i]? = some n) (hk : n.k = 3) : tr xs i = .cls n.c := by
  unfold tr rx; simp [hi, hk]
theorem tr_cat {xs : List Nd} (h : OkX xs) {i : Nat} {n : Nd} (hi : xs[i]? = some n) (hk : n.k = 4) : tr xs i = .cat (tr xs n.l.toNat) (tr xs n.r.toNat) := by
  have := h.two hi (.inl hk)
  unfold tr
  rw [rx, rx_fuel h (n.l.toNat + 1) i _ (by omega) (by omega), rx_fuel h (n.r.toNat + 1) i _ (by omega) (by omega)]
  simp [hi, hk]
theorem tr_alt {xs : List Nd} (h : OkX xs) {i : Nat} {n : Nd} (hi : xs[i]? = some n) (hk : n.k = 5) : tr xs i = .alt (tr xs n.l.toNat) (tr xs n.r.toNat) := by
  have := h.two hi (.inr (.inl hk))
  unfold tr
  rw [rx, rx_fuel h (n.l.toNat + 1) i _ (by omega) (by omega), rx_fuel h (n.r.toNat + 1) i _ (by omega) (by omega)]
  simp [hi, hk]
theorem tr_and {xs : List Nd} (h : OkX xs) {i : Nat} {n : Nd} (hi : xs[i]? = some n) (hk : n.k = 6) : tr xs i = .and (tr xs n.l.toNat) (tr xs n.r.toNat) := by
  have := h.two hi (.inr (.inr hk))
  unfold tr
  rw [rx, rx_fuel h (n.l.toNat + 1) i _ (by omega) (by omega), rx_fuel h (n.r.toNat + 1) i _ (by omega) (by omega)]
  simp [hi, hk]
theorem tr_not {xs : List Nd} (h : OkX xs) {i : Nat} {n : Nd} (hi : xs[i]? = some n) (hk : n.k = 7) : tr xs i = .not (tr xs n.l.toNat) := by
  have := h.one hi (.inl hk)
  unfold tr
  rw [rx, rx_fuel h (n.l.toNat + 1) i _ (by omega) (by omega)]
  simp [hi, hk]
theorem tr_rep {xs : List Nd} (h : OkX xs) {i : Nat} {n : Nd} (hi : xs[i]? = some n) (hk : n.k = 8) : tr xs i = .rep (tr xs n.l.toNat) n.mn.toNat (if n.mx = -1 then none else some n.mx.toNat) := by
  have := h.one hi (.inr hk)
  unfold tr
  rw [rx, rx_fuel h (n.l.toNat + 1) i _ (by omega) (by omega)]
  simp [hi, hk]

/-! ## The matcher's world -/
/-- m is the set of the ends of the tree's matches that begin in l. -/
def SetOf (b : List Int) (t : Rx) (l m : List (Nat × Nat)) : Prop := Good m ∧ ∀ q, On m q ↔ ends b t (On l) q
theorem SetOf.le {b : List Int} {t : Rx} {l m : List (Nat × Nat)} (h : SetOf b t l m) : ∀ q, On m q → q ≤ b.length := by
  intro q hq
  obtain ⟨p, _, hs⟩ := (h.2 q).1 hq
  exact (sp_le b t p q hs).2
theorem Memo.mono {W : World} {mb : Nat} {R R' : Nat → List (Nat × Nat) → Value → Prop} (h : Memo W mb R) (hR : ∀ i l v, R i l v → R' i l v) : Memo W mb R' := by
  obtain ⟨es, clock, hb, hes⟩ := h
  exact ⟨es, clock, hb, fun e he => let ⟨i, l, hk, hr⟩ := hes e he; ⟨i, l, hk, hR _ _ _ hr⟩⟩
theorem Memo.block {W W' : World} {mb : Nat} {R : Nat → List (Nat × Nat) → Value → Prop} (h : Memo W mb R) (hb : W'.heap[mb]? = W.heap[mb]?) : Memo W' mb R := by
  obtain ⟨es, clock, hm, hes⟩ := h
  exact ⟨es, clock, hb.trans hm, hes⟩
theorem Memo.lt {W : World} {mb : Nat} {R : Nat → List (Nat × Nat) → Value → Prop} (h : Memo W mb R) : mb < W.heap.size := by
  obtain ⟨es, clock, hm, _⟩ := h
  exact heap_lt hm
theorem Memo.not_cells {W : World} {mb : Nat} {R : Nat → List (Nat × Nat) → Value → Prop} (h : Memo W mb R) {a : Addr} {u : Value} (ha : W.cell? a = some u) : a.block ≠ mb := by
  obtain ⟨es, clock, hm, _⟩ := h
  obtain ⟨cs, t, m, hc⟩ := cells_of_cell ha
  intro e
  rw [e, hm] at hc
  cases hc
theorem keptM {W W' : World} {mb : Nat} {R : Nat → List (Nat × Nat) → Value → Prop} (hg : W.grownBy W' (some mb)) (hm : Memo W mb R) : ∀ a u, W.cell? a = some u → W'.cell? a = some u := by
  intro a u ha
  have hne := hm.not_cells ha
  rw [World.cell?_of_block (hg.block a.block (lt_of_cell ha) (by simpa using hne))]; exact ha
def MemoOk (W : World) (mb : Nat) (xs : List Nd) (b : List Int) : Prop := Memo W mb fun i l v => ∃ m, IsS W v m ∧ SetOf b (tr xs i) l m
structure Mw (W : World) (Bm mb : Nat) (xs : List Nd) (b : List Int) (xb xo xc : Nat) (bv : Value) : Prop where
  m : Blk W Bm #[.slice (some ⟨xb, xo, none⟩) xs.length xc, bv, .map (some mb)] 61
  x : ReadsN W xb xo xs
  word : IsB W bv b
  memo : MemoOk W mb xs b
theorem Mw.ne {W : World} {Bm mb : Nat} {xs : List Nd} {b : List Int} {xb xo xc : Nat} {bv : Value} (h : Mw W Bm mb xs b xb xo xc bv) : Bm ≠ mb :=
  h.memo.not_cells (h.m.cell 0 rfl)
theorem Mw.step {W W' : World} {Bm mb : Nat} {xs : List Nd} {b : List Int} {xb xo xc : Nat} {bv : Value} (h : Mw W Bm mb xs b xb xo xc bv) (hg : W.grownBy W' (some mb)) (hM : MemoOk W' mb xs b) : Mw W' Bm mb xs b xb xo xc bv :=
  ⟨⟨(hg.block Bm h.m.lt (by simpa using h.ne)).trans h.m.is⟩, fun j x hj i v hi => keptM hg h.memo _ _ (h.x j x hj i v hi), h.word.kept (keptM hg h.memo), hM⟩
theorem MemoOk.grows {W W' : World} {mb : Nat} {xs : List Nd} {b : List Int} (h : MemoOk W mb xs b) (hb : Below W.heap.size W W') : MemoOk W' mb xs b :=
  (Memo.block h (hb.block mb (Memo.lt h))).mono fun _ _ _ ⟨m, h1, h2⟩ => ⟨m, h1.grows hb, h2⟩
theorem grownBy_of_below {W W' : World} (hb : Below W.heap.size W W') (row : Option Nat) : W.grownBy W' row := ⟨hb.os, hb.tape, hb.output, hb.size, fun k hk _ => hb.block k hk⟩
theorem Mw.grows {W W' : World} {Bm mb : Nat} {xs : List Nd} {b : List Int} {xb xo xc : Nat} {bv : Value} (h : Mw W Bm mb xs b xb xo xc bv) (hb : Below W.heap.size W W') : Mw W' Bm mb xs b xb xo xc bv :=
  h.step (grownBy_of_below hb _) (h.memo.grows hb)
/-- the memo's turn. -/
theorem memo_put {W : World} {mb : Nat} {xs : List Nd} {b : List Int} (h : MemoOk W mb xs b) (i : Nat) (l : List (Nat × Nat)) (v : Value) (m : List (Nat × Nat)) (hv : IsS W v m) (hs : SetOf b (tr xs i) l m) :
    ∃ W' : World, (Instr.mapUpdate 59 (.map (some mb)) (vkey i l) v).run Tryz.prog W = .ok () W' ∧ MemoOk W' mb xs b ∧ W.grownBy W' (some mb) := by
  obtain ⟨o, _, hrun, hM⟩ := updM h i l v ⟨m, hv, hs⟩
  have hg := grownBy_putObj' W mb o
  exact ⟨_, hrun, hM.mono fun _ _ _ ⟨m, h1, h2⟩ => ⟨m, h1.kept (keptM hg h), h2⟩, hg⟩
/-- what the memo answers. -/
theorem memo_get {W : World} {mb : Nat} {xs : List Nd} {b : List Int} (h : MemoOk W mb xs b) (i : Nat) (l : List (Nat × Nat)) :
    (Instr.lookup 59 (.map (some mb)) (vkey i l) true).run Tryz.prog W = .ok (.tuple #[.slice none 0 0, .bool false]) W ∨
    ∃ v m, (Instr.lookup 59 (.map (some mb)) (vkey i l) true).run Tryz.prog W = .ok (.tuple #[v, .bool true]) W ∧ IsS W v m ∧ SetOf b (tr xs i) l m := by
  rcases lookM h i l with h1 | ⟨v, j, l', h1, h2, m, h3, h4⟩
  · exact .inl h1
  · obtain ⟨rfl, rfl⟩ := vkey_inj h2
    exact .inr ⟨v, m, h1, h3, h4⟩
end Go.Proofs.YtgbbjobmcbdhdaaGreatDoor

/-
  Walks: the matcher's memo.
-/
namespace Go.Proofs.YtgbbjobmcbdhdaaGreatDoor
open Go.RowKit

theorem memo_drew {W : World} {mb : Nat} {xs : List Nd} {b : List Int} (h : MemoOk W mb xs b) : MemoOk W.drew mb xs b := Memo.mono (Memo.block h rfl) fun _ _ _ h => h
/-- the ends of what a negation matches from p on. -/
theorem set_not {b : List Int} {t : Rx} {p : Nat} {m : List (Nat × Nat)} (h : SetOf b t [(p, p + 1)] m) (hp : p ≤ b.length) : SetOf b (.not t) [(p, p + 1)] (gaps p b.length m) := by
  have hm : ∀ q, On m q ↔ sp b t p q := fun q => by
    rw [h.2 q]
    constructor
    · rintro ⟨p', hp', hs⟩
      obtain rfl := ((only_good p).2 p').1 hp'
      exact hs
    · exact fun hs => ⟨p, ((only_good p).2 p).2 rfl, hs⟩
  have h1 : ∀ s ∈ m, p ≤ s.1 := fun s hs => by
    have := h.1.mem s hs
    have := (hm s.1).1 ⟨s, hs, by omega, by omega⟩
    exact (sp_le b t _ _ this).1
  have h2 : ∀ s ∈ m, s.2 ≤ b.length + 1 := fun s hs => (good_ends h.1 h.le s hs).2
  obtain ⟨g1, g2⟩ := gaps_good (n := b.length) h.1 h1 h2
  refine ⟨g1, fun q => ?_⟩
  rw [g2 q, hm q]
  constructor
  · intro hq
    exact ⟨p, ((only_good p).2 p).2 rfl, hq⟩
  · rintro ⟨p', hp', hs⟩
    obtain rfl := ((only_good p).2 p').1 hp'
    exact hs
/-- the ends of what an intersection matches from p on. -/
theorem set_and {b : List Int} {t u : Rx} {p : Nat} {m m' : List (Nat × Nat)} (h : SetOf b t [(p, p + 1)] m) (h' : SetOf b u [(p, p + 1)] m') (hp : p ≤ b.length) {k : List (Nat × Nat)} (hk : Good k)
    (hon : ∀ q, On k q ↔ On (gaps p b.length m) q ∨ On (gaps p b.length m') q) : SetOf b (.and t u) [(p, p + 1)] (gaps p b.length k) := by
  have n1 := set_not h hp
  have n2 := set_not h' hp
  have one : ∀ (v : Rx) q, ends b v (On [(p, p + 1)]) q ↔ sp b v p q := fun v q => by
    constructor
    · rintro ⟨p', hp', hs⟩
      obtain rfl := ((only_good p).2 p').1 hp'
      exact hs
    · exact fun hs => ⟨p, ((only_good p).2 p).2 rfl, hs⟩
  have hk' : ∀ q, On k q ↔ p ≤ q ∧ q ≤ b.length ∧ (¬ sp b t p q ∨ ¬ sp b u p q) := fun q => by
    rw [hon q, n1.2 q, n2.2 q, one, one]
    constructor
    · rintro (⟨a, c, d⟩ | ⟨a, c, d⟩)
      · exact ⟨a, c, .inl d⟩
      · exact ⟨a, c, .inr d⟩
    · rintro ⟨a, c, d | d⟩
      · exact .inl ⟨a, c, d⟩
      · exact .inr ⟨a, c, d⟩
  have h1 : ∀ s ∈ k, p ≤ s.1 := fun s hs => by
    have := hk.mem s hs
    exact ((hk' s.1).1 ⟨s, hs, by omega, by omega⟩).1
  have h2 : ∀ s ∈ k, s.2 ≤ b.length + 1 := fun s hs => (good_ends hk (fun q hq => ((hk' q).1 hq).2.1) s hs).2
  obtain ⟨g1, g2⟩ := gaps_good (n := b.length) hk h1 h2
  refine ⟨g1, fun q => ?_⟩
  rw [g2 q, hk' q, one]
  constructor
  · rintro ⟨a, c, d⟩
    refine ⟨Classical.byContradiction fun hc => d ⟨a, c, .inl hc⟩, Classical.byContradiction fun hc => d ⟨a, c, .inr hc⟩⟩
  · rintro ⟨hs, hs'⟩
    have := sp_le b t p q hs
    exact ⟨this.1, this.2, fun ⟨_, _, d⟩ => d.elim (fun e => e hs) (fun e => e hs')⟩
theorem below_dr (W : World) : Below W.heap.size W W.drew := ⟨rfl, rfl, rfl, Nat.le_refl _, fun _ _ => rfl⟩
theorem tab_step {W W' : World} {mb : Nat} {R : Nat → List (Nat × Nat) → Value → Prop} (h : Lib.TabBelow Tryz.prog W.heap.size W "internal/strconv.uint64pow10" .u64 Lib.pow10Tab) (hm : Memo W mb R) (hg : W.grownBy W' (some mb)) :
    Lib.TabBelow Tryz.prog W'.heap.size W' "internal/strconv.uint64pow10" .u64 Lib.pow10Tab := by
  refine Lib.tabBelow_of_tabIs ?_
  have h0 := h.here
  obtain ⟨es, clock, hb, _⟩ := hm
  unfold Lib.TabIs World.var? at *
  cases hn : Tryz.prog.globalNamed "internal/strconv.uint64pow10" with
  | none => simp [hn] at h0
  | some g =>
    simp only [hn, Option.bind_some] at h0 ⊢
    have hlt : g < W.heap.size := by
      rcases Nat.lt_or_ge g W.heap.size with h' | h'
      · exact h'
      · rw [Array.getElem?_eq_none h'] at h0; simp at h0
    have hne : g ≠ mb := by
      rintro rfl
      rw [hb] at h0; simp at h0
    rw [hg.block g hlt (by simpa using hne)]
    exact h0
/-- a contract of the matcher's calls. -/
def EndsC (Bm mb : Nat) (xs : List Nd) (b : List Int) (xb xo xc : Nat) (bv : Value) (i : Nat) : Prop :=
  ∀ (v : Value) (l : List (Nat × Nat)) (W : World), Mw W Bm mb xs b xb xo xc bv → Lib.TabBelow Tryz.prog W.heap.size W "internal/strconv.uint64pow10" .u64 Lib.pow10Tab → IsS W v l → Good l → (∀ q, On l q → q ≤ b.length) →
    Calls Tryz.prog 40 #[.pointer (some ⟨Bm, 0, none⟩), .int .i64 (i : Int), v] W fun e W' =>
      (∃ v' m, e = .returned v' ∧ IsS W' v' m ∧ SetOf b (tr xs i) l m) ∧ W.grownBy W' (some mb) ∧ MemoOk W' mb xs b
def RepC (Bm mb : Nat) (xs : List Nd) (b : List Int) (xb xo xc : Nat) (bv : Value) (i : Nat) (n : Nd) : Prop :=
  ∀ (v : Value) (l : List (Nat × Nat)) (W : World), Mw W Bm mb xs b xb xo xc bv → Lib.TabBelow Tryz.prog W.heap.size W "internal/strconv.uint64pow10" .u64 Lib.pow10Tab → IsS W v l → Good l → (∀ q, On l q → q ≤ b.length) →
    Calls Tryz.prog 89 #[.pointer (some ⟨Bm, 0, none⟩), valN n, v] W fun e W' =>
      (∃ v' m, e = .returned v' ∧ IsS W' v' m ∧ SetOf b (tr xs i) l m) ∧ W.grownBy W' (some mb) ∧ MemoOk W' mb xs b

set_option maxRecDepth 100000 in
set_option maxHeartbeats 2000000 in
theorem memoized_78 (Bm mb : Nat) (xs : List Nd) (b : List Int) (xb xo xc : Nat) (bv : Value) (i : Nat) (n : Nd) (hX : OkX xs) (hi : xs[i]? = some n) (hb : b.length ≤ 1048576) (hE : ∀ j, j < i → EndsC Bm mb xs b xb xo xc bv j) (hR : n.k = 8 → RepC Bm mb xs b xb xo xc bv i n)
    (v : Value) (l : List (Nat × Nat)) (W : World) (hM : Mw W Bm mb xs b xb xo xc bv) (htab : Lib.TabBelow Tryz.prog W.heap.size W "internal/strconv.uint64pow10" .u64 Lib.pow10Tab) (hv : IsS W v l) (hl : Good l) (hlb : ∀ q, On l q → q ≤ b.length)
    (hk : n.k = 8 ∨ n.k = 7 ∧ ∃ p, l = [(p, p + 1)]) :
    Calls Tryz.prog 60 #[.pointer (some ⟨Bm, 0, none⟩), .int .i64 (i : Int), v] W fun e W' =>
      (∃ v' m, e = .returned v' ∧ IsS W' v' m ∧ SetOf b (tr xs i) l m) ∧ W.grownBy W' (some mb) ∧ MemoOk W' mb xs b := by
  obtain ⟨bp, bc, rfl⟩ := hM.word.shape
  obtain ⟨sp, sc, rfl⟩ := hv.shape
  have hlen : l.length ≤ 1099511627776 := by have := len_pts hl; have := pts_len hl hlb; omega
  have hends := good_ends hl hlb
  have HK := Lib.hid (key_any _ l W hv hlen (fun s hs => by have := hends s hs; omega) htab)
  have HMw := Lib.hid hM
  have HV := Lib.hid hv
  have HT := Lib.hid htab
  have HX := Lib.hid hX
  have HI := Lib.hid hi
  have HL := Lib.hid hl
  have HLb := Lib.hid hlb
  have HEnds := Lib.hid hends
  clear hM hv htab hX hi hl hlb hends
  go_enter Tryz.func60, Tryz.ntmps60
  go_wp2_with (go_at_call 88; refine HK.out.mono ?_; rintro e W1 ⟨rfl, hb1⟩)
  have hb2 : Below W.heap.size W (W1.alloc (.cells #[.int .i64 (i : Int), .string ⟨(keyS l).toArray⟩] 121)) := hb1.alloc hb1.size _
  have hV2 := Blk.new W1 #[.int .i64 (i : Int), .string ⟨(keyS l).toArray⟩] 121
  have hlt1 := hb1.size
  generalize hW2 : W1.alloc (.cells #[.int .i64 (i : Int), .string ⟨(keyS l).toArray⟩] 121) = W2 at hb2 hV2 ⊢
  generalize W1.heap.size = B1 at hV2 hlt1 ⊢
  clear hW2 hb1
  have hM2 := HMw.out.grows hb2
  have v0 := hV2.cell 0 rfl
  have v1 := hV2.cell 1 rfl
  have m0 := hM2.m.cell 0 rfl
  have m2 := hM2.m.cell 2 rfl
  have HM2 := Lib.hid hM2
  have HB2 := Lib.hid hb2
  have HV2 := Lib.hid hV2
  have hmd : MemoOk W2.drew mb xs b := Memo.mono (Memo.block hM2.memo rfl) fun _ _ _ h => h
  clear hM2 hb2 hV2
  have hfacts := HM2.out.x.nine i n HI.out
  have hilt : i < xs.length := (List.getElem?_eq_some_iff.1 HI.out).1
  rcases memo_get hmd i l with hg | ⟨v', m, hg, hm1, hm2⟩
  · unfold vkey at hg
    obtain ⟨k, c, nl, nr, mn, mx⟩ := n
    obtain ⟨x0, x1, x2, x3, x4, x5, x6, x7, x8⟩ := hfacts
    dsimp only at hk hR x0 x1 x2 x3 x4 x5 x6 x7 x8
    clear hmd
    rcases hk with rfl | ⟨hk, p, rfl⟩
    · have HRp := Lib.hid (hR rfl)
      have HR2 : Hid (∀ w, Below W2.heap.size W2 w → Calls Tryz.prog 89 #[.pointer (some ⟨Bm, 0, none⟩), valN ⟨8, c, nl, nr, mn, mx⟩, .slice sp l.length sc] w fun e W' =>
          (∃ v' m, e = .returned v' ∧ IsS W' v' m ∧ SetOf b (tr xs i) l m) ∧ W2.grownBy W' (some mb) ∧ MemoOk W' mb xs b) := Lib.hid fun w hw =>
        (HRp.out _ l w (HM2.out.grows hw) (tab_step HT.out HMw.out.memo (grownBy_of_below (HB2.out.trans (hw.mono HB2.out.size)) _)) (HV.out.grows (HB2.out.trans (hw.mono HB2.out.size))) HL.out HLb.out).mono fun e W' h => ⟨h.1, (grownBy_of_below hw _).trans h.2.1, h.2.2⟩
      clear hR HRp
      go_region
      go_wp2_with (go_at_call 89; refine (HR2.out _ (by go_grown)).mono ?_; rintro e W3 ⟨⟨v3, m3, rfl, hv3, hs3⟩, hg3, hm3⟩; obtain ⟨p3, c3, rfl⟩ := hv3.shape)
      have kp := keptM hg3 HM2.out.memo
      have v0' := kp _ _ v0
      have v1' := kp _ _ v1
      have m2' := kp _ _ m2
      obtain ⟨W9, hrun, hm9, hg9⟩ := memo_put (memo_drew hm3) i _ _ _ (hv3.grows (below_dr _)) hs3
      unfold vkey at hrun
      have HG3 := Lib.hid hg3
      have HG4 := Lib.hid hg9
      have HV3 := Lib.hid hv3
      have HM3 := Lib.hid hm3
      have HM4 := Lib.hid hm9
      have HS3 := Lib.hid hs3
      clear hg3 hg9 hv3 hm3 hm9 hs3 kp
      go_region
      go_wp2
      go_ret
      exact ⟨⟨_, _, rfl, (HV3.out.grows (below_dr _)).kept (keptM HG4.out (memo_drew HM3.out)), HS3.out⟩, (((grownBy_of_below HB2.out _).trans HG3.out).trans (grownBy_of_below (below_dr _) _)).trans HG4.out, HM4.out⟩
    · have HE2 : Hid (∀ w, Below W2.heap.size W2 w → ∀ j : Int, 0 ≤ j → j < (i : Int) → Calls Tryz.prog 40 #[.pointer (some ⟨Bm, 0, none⟩), .int .i64 j, .slice sp 1 sc] w fun e W' =>
          (∃ v' m, e = .returned v' ∧ IsS W' v' m ∧ SetOf b (tr xs j.toNat) [(p, p + 1)] m) ∧ W2.grownBy W' (some mb) ∧ MemoOk W' mb xs b) := Lib.hid fun w hw j hj0 hj => by
        have h := hE j.toNat (by omega) _ [(p, p + 1)] w (HM2.out.grows hw) (tab_step HT.out HMw.out.memo (grownBy_of_below (HB2.out.trans (hw.mono HB2.out.size)) _)) (HV.out.grows (HB2.out.trans (hw.mono HB2.out.size))) HL.out HLb.out
        rw [show ((j.toNat : Nat) : Int) = j by omega] at h
        exact h.mono fun e W' h => ⟨h.1, (grownBy_of_below hw _).trans h.2.1, h.2.2⟩
      clear hR
      subst hk
      have hop := HX.out.one HI.out (.inl rfl)
      dsimp only at hop
      rw [show ([(p, p + 1)] : List (Nat × Nat)).length = 1 from rfl]
      obtain ⟨sb, so, rfl, s0, s1⟩ := (HV.out.grows HB2.out).at (k := 0) (y := (p, p + 1)) rfl
      rw [Nat.zero_mul, Nat.add_zero] at s0
      have hpb : p ≤ b.length := HLb.out p (((only_good p).2 p).2 rfl)
      have hb5 : Below W2.heap.size W2 (W2.alloc (.cells #[.int .i64 7, .int .u64 (wd c 0), .int .u64 (wd c 1), .int .u64 (wd c 2), .int .u64 (wd c 3), .int .i64 nl, .int .i64 nr, .int .i64 mn, .int .i64 mx] 45)).drew := ((Below.refl _ W2).alloc (Nat.le_refl _) _).trans ((below_dr _).mono (by simp))
      have hn5 := (Blk.new W2 #[.int .i64 7, .int .u64 (wd c 0), .int .u64 (wd c 1), .int .u64 (wd c 2), .int .u64 (wd c 3), .int .i64 nl, .int .i64 nr, .int .i64 mn, .int .i64 mx] 45).drew
      go_region
      go_wp2
      generalize hW5 : (W2.alloc (.cells #[.int .i64 7, .int .u64 (wd c 0), .int .u64 (wd c 1), .int .u64 (wd c 2), .int .u64 (wd c 3), .int .i64 nl, .int .i64 nr, .int .i64 mn, .int .i64 mx] 45)).drew = W5 at hb5 hn5 ⊢
      clear hW5
      have n5 := hn5.cell 5 rfl
      have s5 := (hb5.cell (lt_of_cell s0)).trans s0
      have HB5 := Lib.hid hb5
      have HN5 := Lib.hid hn5
      clear hb5 hn5
      go_region_with (first
        | (go_at_call 40; refine (HE2.out _ (HB5.out.trans ((below_dr _).mono HB5.out.size)) nl hop.1 hop.2).mono ?_; rintro e W3 ⟨⟨v3, m3, rfl, hv3, hs3⟩, hg3, hm3⟩; obtain ⟨p3, c3, rfl⟩ := hv3.shape; have s0' := keptM hg3 HM2.out.memo _ _ s0)
        | (go_at_call 90; refine (others_any Bm _ _ bp b.length bc p _ m3 _ (HM2.out.step hg3 hm3).m hv3 (by have := len_pts hs3.1; have := pts_len hs3.1 hs3.le; omega) (by omega) (by omega) (fun s hs => by have := good_ends hs3.1 hs3.le s hs; omega)).mono ?_; rintro e W4 ⟨⟨v4, rfl, hown4⟩, hb4⟩; obtain ⟨p4, c4, rfl⟩ := own_shape hown4))
      all_goals
        go_wp2
        have hg3 := hg3.trans (grownBy_of_below hb4 (some mb))
        have hm3 := hm3.grows hb4
        have hv3 := own_isS hown4
        have hs3 := set_not hs3 hpb
        rw [← tr_not HX.out HI.out rfl] at hs3
        clear hown4 hb4 s0 s1 s5 n5 s0' HB5 HN5 HE2
        have kp := keptM hg3 HM2.out.memo
        have v0' := kp _ _ v0
        have v1' := kp _ _ v1
        have m2' := kp _ _ m2
        obtain ⟨W9, hrun, hm9, hg9⟩ := memo_put (memo_drew hm3) i _ _ _ (hv3.grows (below_dr _)) hs3
        unfold vkey at hrun
        have HG3 := Lib.hid hg3
        have HG4 := Lib.hid hg9
        have HV3 := Lib.hid hv3
        have HM3 := Lib.hid hm3
        have HM4 := Lib.hid hm9
        have HS3 := Lib.hid hs3
        clear hg3 hg9 hv3 hm3 hm9 hs3 kp
        go_region
        all_goals go_wp2
        all_goals go_ret
        all_goals exact ⟨⟨_, _, rfl, (HV3.out.grows (below_dr _)).kept (keptM HG4.out (memo_drew HM3.out)), HS3.out⟩, (((grownBy_of_below HB2.out _).trans HG3.out).trans (grownBy_of_below (below_dr _) _)).trans HG4.out, HM4.out⟩
  · unfold vkey at hg
    clear hfacts
    obtain ⟨vp, vc, rfl⟩ := hm1.shape
    go_region
    go_wp2
    go_ret
    exact ⟨⟨_, m, rfl, hm1, hm2⟩, (grownBy_of_below HB2.out _).trans (grownBy_of_below (below_dr _) _), hmd⟩
end Go.Proofs.YtgbbjobmcbdhdaaGreatDoor

/-
  Facts for the memo of intersections: two sets side by side.
-/
namespace Go.Proofs.YtgbbjobmcbdhdaaGreatDoor
open Go.RowKit

theorem SetOf.good {b : List Int} {t : Rx} {l m : List (Nat × Nat)} (h : SetOf b t l m) : Good m := h.1
theorem cell_al {w : World} {o : Obj} {a : Addr} {v : Value} (h : w.cell? a = some v) : (w.alloc o).cell? a = some v :=
  (World.cell?_of_block (Below.heap_alloc _ _ _ (lt_of_cell h))).trans h
theorem isL_two {w : World} {p q : Option Addr} {c d : Nat} {l m : List (Nat × Nat)} {t : TypeId} (hl : IsS w (.slice p l.length c) l) (hm : IsS w (.slice q m.length d) m) :
    IsL (w.alloc (.cells #[.slice p l.length c, .slice q m.length d] t)) (.slice (some ⟨w.heap.size, 0, none⟩) 2 2) [l, m] := by
  have hb := Blk.new w #[.slice p l.length c, .slice q m.length d] t
  have hk : Below w.heap.size w (w.alloc (.cells #[.slice p l.length c, .slice q m.length d] t)) := (Below.refl _ w).alloc (Nat.le_refl _) _
  refine .inr ⟨w.heap.size, 0, 2, rfl, fun j x hj => ?_⟩
  match j, hj with
  | 0, hj =>
    obtain rfl : l = x := by simpa using hj
    exact ⟨p, c, hb.cell 0 rfl, hl.grows hk⟩
  | 1, hj =>
    obtain rfl : m = x := by simpa using hj
    exact ⟨q, d, hb.cell 1 rfl, hm.grows hk⟩
theorem len_of_ends {l : List (Nat × Nat)} {n : Nat} (h : Good l) (hn : ∀ s ∈ l, s.2 ≤ n + 1) (hb : n ≤ 1048576) : l.length ≤ 2199023255552 := by
  have := len_pts h
  have := pts_len h (N := n) (fun q ⟨s, hs, h1, h2⟩ => by have := hn s hs; omega)
  omega
theorem flat_two {b : List Int} {t u : Rx} {l m k k' : List (Nat × Nat)} (h : SetOf b t k l) (h' : SetOf b u k' m) (hb : b.length ≤ 1048576) : ([l, m] : List (List (Nat × Nat))).flatten.length ≤ 2199023255552 := by
  have := len_pts h.1
  have := pts_len h.1 h.le
  have := len_pts h'.1
  have := pts_len h'.1 h'.le
  simp; omega
theorem ends_two {b : List Int} {t u : Rx} {l m k k' : List (Nat × Nat)} (h : SetOf b t k l) (h' : SetOf b u k' m) : ∀ x ∈ ([l, m] : List (List (Nat × Nat))), ∀ s ∈ x, s.1 < s.2 ∧ s.2 ≤ b.length + 1 := by
  intro x hx s hs
  simp only [List.mem_cons, List.not_mem_nil, or_false] at hx
  rcases hx with rfl | rfl
  · exact good_ends h.1 h.le s hs
  · exact good_ends h'.1 h'.le s hs
end Go.Proofs.YtgbbjobmcbdhdaaGreatDoor
