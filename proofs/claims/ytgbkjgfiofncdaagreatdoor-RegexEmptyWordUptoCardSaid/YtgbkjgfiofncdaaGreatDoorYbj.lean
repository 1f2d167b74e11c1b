/-
  Texts of the proof, one behind another: Mi, Mj, Mk, Ml, Ga, Wx, Ua, Ub.
-/
import Derived.RangeFuncWrites
import Derived.RangeFuncCalls
import Derived.Shelf.RegionOpen
import Derived.Test.YtgbkjgfiofncdaaGreatDoorYbh
import Derived.Test.YtgbkjgfiofncdaaGreatDoorYbi
import Derived.MapKept
import Derived.MapFrom
import Derived.Laws.StructEq
import Derived.Laws.Closers25b
import Derived.Test.YtgbkjgfiofncdaaGreatDoorYad
import Derived.Test.YtgbkjgfiofncdaaGreatDoorYbd
set_option linter.unusedSimpArgs false
set_option linter.unusedVariables false
/-
  Walks: one byte of a class.
-/
namespace Go.Proofs.YtgbkjgfiofncdaaGreatDoor
open Go.RowKit Go.Shelf
attribute [local go_sem] Oper.semAt_some

/-- the value is a slice that reads as these bytes. -/
def IsB (w : World) (v : Value) (l : List Int) : Prop :=
  (l = [] ∧ ∃ p cap, v = .slice p 0 cap) ∨ ∃ blk off cap, v = .slice (some ⟨blk, off, none⟩) l.length cap ∧ ∀ (k : Nat) (y : Int), l[k]? = some y → w.cell? ⟨blk, off + k, none⟩ = some (.int .u8 y)
theorem IsB.shape {w : World} {v : Value} {l : List Int} (h : IsB w v l) : ∃ p cap, v = .slice p l.length cap := by
  rcases h with ⟨rfl, p, cap, rfl⟩ | ⟨blk, off, cap, rfl, _⟩
  · exact ⟨p, cap, rfl⟩
  · exact ⟨_, _, rfl⟩
theorem IsB.at {w : World} {p : Option Addr} {n cap : Nat} {l : List Int} (h : IsB w (.slice p n cap) l) {k : Nat} {y : Int} (hk : l[k]? = some y) : ∃ blk off, p = some ⟨blk, off, none⟩ ∧ w.cell? ⟨blk, off + k, none⟩ = some (.int .u8 y) := by
  rcases h with ⟨rfl, _⟩ | ⟨blk, off, cap, he, hc⟩
  · cases hk
  · simp only [Value.slice.injEq] at he
    exact ⟨blk, off, he.1, hc k y hk⟩
theorem IsB.kept {w w' : World} {v : Value} {l : List Int} (h : IsB w v l) (hk : ∀ a u, w.cell? a = some u → w'.cell? a = some u) : IsB w' v l := by
  rcases h with h | ⟨blk, off, cap, rfl, h⟩
  · exact .inl h
  · exact .inr ⟨blk, off, cap, rfl, fun k y hy => hk _ _ (h k y hy)⟩
theorem cells_of_cell {w : World} {a : Addr} {u : Value} (h : w.cell? a = some u) : ∃ cs t m, w.heap[a.block]? = some (.cells cs t m) := by
  unfold World.cell? at h
  split at h
  · rename_i cs t m hc; exact ⟨cs, t, m, hc⟩
  · cases h
theorem KpR.cellq {eb : Nat} {X : Nat → Prop} {W W' : World} (h : KpR eb X W W') {a : Addr} {u : Value} (ha : W.cell? a = some u) (h1 : a.block ≠ eb) (h2 : ¬ X a.block) (h3 : some a.block ≠ rowOf W eb) : W'.cell? a = some u := by
  obtain ⟨cs, t, m, hc⟩ := cells_of_cell ha
  rw [World.cell?_of_block ((h.cell _ cs t m hc h1 h2 h3).trans hc.symm)]; exact ha
theorem own_blk {β : Type} (b : Nat) (vs : Array Value) (t : TypeId) : Own (fun (_ : β) W => Blk W b vs t) := by
  intro s W W' row hs hg hr
  exact ⟨(hg.block b hs.lt (fun e => by
    obtain ⟨o, ho, hc⟩ := hr b e.symm
    rw [hs.is] at ho
    cases ho
    simp [Obj.isCells] at hc)).trans hs.is⟩
theorem positions_in (n : Nat) (p : Option Addr) (m c : Nat) (w : World) :
    CallsIn Fence.wide n Tryz.prog 61 #[.slice p m c] w fun e w' => e = .returned (.func (.func 91) #[] #[.pointer (some ⟨w.heap.size, 0, none⟩)]) ∧ w' = w.alloc (.cells #[.slice p m c] 62) := by
  have hmf : ∀ (fn : Fn) (first cap : Array Value) (w : World), (Instr.makeFunc fn first cap).run Tryz.prog w = .ok (.func fn first cap) w := fun _ _ _ _ => rfl
  refine callsIn_of_wp Tryz.func61 rfl trivial ?_ rfl
  simp only [Tryz.ntmps61, List.size_toArray, List.length_cons, List.length_nil, Nat.reduceAdd, Nat.reduceSub, Array.replicate_succ, Array.replicate_zero, List.push_toArray, List.append_toArray, List.nil_append, List.cons_append]
  gi_wp2
  go_ret
  exact ⟨rfl, rfl⟩
theorem positions_stops (n : Nat) (hn : 2 ≤ n) (Bn eb : Nat) (X : Nat → Prop) (w : World) (v : Value) (l : List (Nat × Nat)) (hBn : Blk w Bn #[v] 62) (hread : ∀ W', KpR eb X w W' → IsS W' v l) (heb : eb < w.heap.size) (hX : ∀ k, X k → k < w.heap.size) (hlow : ∀ r, rowOf w eb = some r → r < w.heap.size)
    (hl : l.length ≤ 1099511627776) (hls : ∀ s ∈ l, s.1 < s.2 ∧ s.2 ≤ 4611686018427387904) :
    SeqStopsK Fence.wide n Tryz.prog 91 #[.pointer (some ⟨Bn, 0, none⟩)] (fun y : Nat => #[Value.int .i64 (y : Int)]) (KpR eb X) (fun ys => ys = pts l) (fun pre => pre <+: pts l) (pts l).length w :=
  fun ly J Jx W hW hJa _ hY hJ => positions1_in n hn ly Bn eb X w v l J Jx hY W (hBn.grows hW) hread (KpR.of_below hW heb) heb hX hlow hl hls
    (fun pre W1 o h => hJa pre W1 _ none h (World.grownBy_alloc W1 o none) (fun r e => by cases e)) hJ

/-- a round's step: the slice in the box grew and was stored again. -/
theorem box_step {W w1 : World} {base eb : Nat} {X : Nat → Prop} {v v' : Value} {n m : Nat} {xs ys : List Value} (hv : Boxed W eb 62 v) (hrow : W.ownsRow base 66 2 v n xs) (hbase : base ≤ eb)
    (hown : w1.ownsRow base 66 2 v' m ys) (hnew : NewRow W v v') (hg : W.grownBy w1 v.ownBlock) :
    Boxed w1 eb 62 v ∧ Boxed (w1.setCell ⟨eb, 0, none⟩ v') eb 62 v' ∧ (w1.setCell ⟨eb, 0, none⟩ v').ownsRow base 66 2 v' m ys ∧ KeepsOthers W (w1.setCell ⟨eb, 0, none⟩ v') ∧ Below base W (w1.setCell ⟨eb, 0, none⟩ v') ∧ KpR eb X W (w1.setCell ⟨eb, 0, none⟩ v') ∧ (∀ k, k ≠ eb → (∀ g, v.ownBlock = some g → k ≠ g) → k < W.heap.size → (w1.setCell ⟨eb, 0, none⟩ v').heap[k]? = W.heap[k]?) := by
  have hne := hv.not_row (by decide) hrow
  have hv1 := hv.kept hg hne
  have hrw : rowOf W eb = v.ownBlock := by unfold rowOf; rw [hv.cell]
  have hv2 := hv1.set v'
  have hrw2 : rowOf (w1.setCell ⟨eb, 0, none⟩ v') eb = v'.ownBlock := by unfold rowOf; rw [hv2.cell]
  have hsame : ∀ k, k ≠ eb → (∀ g, v.ownBlock = some g → k ≠ g) → k < W.heap.size → (w1.setCell ⟨eb, 0, none⟩ v').heap[k]? = W.heap[k]? := fun k h1 h2 h3 =>
    (Below.heap_setCell _ _ _ _ (by simpa using h1)).trans (hg.block k h3 (fun e => h2 k e.symm rfl))
  have hsz : W.heap.size ≤ (w1.setCell ⟨eb, 0, none⟩ v').heap.size := by simpa using hg.size
  have hrowlt : ∀ g, v.ownBlock = some g → g < W.heap.size ∧ base ≤ g ∧ ∃ cs t m, W.heap[g]? = some (.cells cs t m) := by
    intro g e
    rcases hrow.2 with ⟨rfl, _⟩ | ⟨g', cap, cur, rfl, hb, hgb, _⟩
    · simp [Value.ownBlock] at e
    · obtain rfl : g' = g := by simpa [Value.ownBlock] using e
      exact ⟨heap_lt hgb, hb, _, _, _, hgb⟩
  have hcells : (W.heap[eb]? = some (.cells #[v] 62 (0, 0))) := hv
  refine ⟨hv1, hv2, hown.kept (grownBy_setCell' w1 eb v') (.inr (hv1.not_row (by decide) hown).symm), ?_, ?_, ?_, hsame⟩
  · refine (KeepsOthers.of_grownBy hg fun j o ej hj => ?_).trans (KeepsOthers.setCell _ _ _)
    obtain ⟨_, _, cs, t, m, hh⟩ := hrowlt j ej
    rw [hh] at hj; cases hj; rfl
  · exact ((Below.refl base W).grown hg (by have := hv.lt; omega) (fun k e => (hrowlt k e).2.1)).setCell (p := ⟨eb, 0, none⟩) hbase v'
  · refine ⟨hsz, fun k cs t m hk h1 h2 h3 => (hsame k h1 (fun g e e2 => h3 (by rw [hrw, e, e2])) (heap_lt hk)).trans hk, ?_, fun h0 r hr => ?_⟩
    · rcases hnew with h | h
      · exact .inl (by rw [hrw2, hrw, h])
      · exact .inr fun r hr => h r (by rw [← hrw2]; exact hr)
    · rw [hrw2] at hr
      rcases hown.2 with ⟨rfl, _⟩ | ⟨g', cap, cur, rfl, hb, hgb, _⟩
      · simp [Value.ownBlock] at hr
      · obtain rfl : g' = r := by simpa [Value.ownBlock] using hr
        have := heap_lt hgb
        simpa using this

def okB (b : List Int) (c : BitVec 256) (p : Nat) : Bool := match b[p]? with
  | some y => mem c y.toNat
  | none => false
def stepS (b : List Int) (c : BitVec 256) (pre : List Nat) : List (Nat × Nat) := ofPts ((pre.filter (okB b c)).map (· + 1))
theorem stepS_snoc (b : List Int) (c : BitVec 256) (pre : List Nat) (p : Nat) : stepS b c (pre ++ [p]) = if okB b c p = true then addS (stepS b c pre) (p + 1) (p + 2) else stepS b c pre := by
  unfold stepS
  rw [List.filter_append, List.map_append]
  by_cases h : okB b c p = true
  · rw [if_pos h, List.filter_cons_of_pos h, List.filter_nil, List.map_cons, List.map_nil, ofPts_snoc]
  · rw [if_neg h, List.filter_cons_of_neg h, List.filter_nil, List.map_nil, List.append_nil]

theorem stepS_len (b : List Int) (c : BitVec 256) (pre : List Nat) : (stepS b c pre).length ≤ pre.length := by
  refine Nat.le_trans (addAll_len _ []) ?_
  simp only [List.length_nil, List.length_map, Nat.zero_add]
  exact List.length_filter_le _ _
theorem okB_lt {b : List Int} {c : BitVec 256} {p : Nat} (h : okB b c p = true) : p < b.length := by
  unfold okB at h
  split at h
  · rename_i y hy; exact (List.getElem?_eq_some_iff.1 hy).1
  · cases h
theorem stepS_ends (b : List Int) (c : BitVec 256) (pre : List Nat) : ∀ s ∈ stepS b c pre, s.2 ≤ b.length + 1 := by
  refine addAll_ends (fun s hs => by cases hs) fun s hs => ?_
  simp only [List.mem_map, List.mem_filter] at hs
  obtain ⟨q, ⟨p, ⟨_, hp⟩, rfl⟩, rfl⟩ := hs
  have := okB_lt hp
  show p + 1 + 1 ≤ _
  omega
theorem row_ne {W : World} {b : Nat} {vs : Array Value} {t e : TypeId} (h : Blk W b vs t) (hte : t ≠ e) {base size n : Nat} {v : Value} {xs : List Value} (hr : W.ownsRow base e size v n xs) : ∀ g, v.ownBlock = some g → b ≠ g := by
  rintro g hg rfl
  rcases hr.2 with ⟨rfl, _⟩ | ⟨g, cap, cur, rfl, _, hgb, _⟩
  · simp [Value.ownBlock] at hg
  · obtain rfl : g = b := by simpa [Value.ownBlock] using hg
    have := h.is.symm.trans hgb
    simp at this
    exact hte this.2
theorem boxed_below {W W' : World} {B : Nat} {t : TypeId} {v : Value} (h : Boxed W B t v) (hb : Below W.heap.size W W') : Boxed W' B t v := (hb.block B (Boxed.lt h)).trans h
theorem keepsOthers_below {W W' : World} (h : Below W.heap.size W W') : KeepsOthers W W' :=
  KeepsOthers.of_grownBy (row := none) ⟨h.os, h.tape, h.output, h.size, fun k hk _ => h.block k hk⟩ (fun j o e => by cases e)

set_option maxRecDepth 100000 in
set_option maxHeartbeats 2000000 in
theorem step_any (Bm : Nat) (xv bv mv v : Value) (b : List Int) (c : BitVec 256) (l : List (Nat × Nat)) (W : World) (hM : Blk W Bm #[xv, bv, mv] 61) (hb : IsB W bv b) (hbb : ∀ y ∈ b, 0 ≤ y ∧ y < 256) (hbl : b.length ≤ 1099511627776) (hv : IsS W v l)
    (hl : l.length ≤ 1099511627776) (hpl : (pts l).length ≤ 1099511627776) (hls : ∀ s ∈ l, s.1 < s.2 ∧ s.2 ≤ 1099511627776) :
    Calls Tryz.prog 58 #[.pointer (some ⟨Bm, 0, none⟩), .agg #[.int .u64 (wd c 0), .int .u64 (wd c 1), .int .u64 (wd c 2), .int .u64 (wd c 3)], v] W fun e W' =>
      (∃ v', e = .returned v' ∧ W'.ownsRow W.heap.size 66 2 v' (stepS b c (pts l)).length ((stepS b c (pts l)).flatMap encS)) ∧ Below W.heap.size W W' := by
  have hBm := hM.lt
  obtain ⟨bp, bc, rfl⟩ := hb.shape
  obtain ⟨sp, sc, rfl⟩ := hv.shape
  refine (callsIn_wide (n := 4)).1 ?_
  have hfn : ∀ k, Fence.wide.fn k := fun _ => trivial
  refine callsIn_of_wp_marks Tryz.func58 rfl trivial ?_ rfl
  simp only [Tryz.ntmps58, List.size_toArray, List.length_cons, List.length_nil, Nat.reduceAdd, Nat.reduceSub, Array.replicate_succ, Array.replicate_zero, List.push_toArray, List.append_toArray, List.nil_append, List.cons_append]
  gi_wp2_with (gi_at_call 61; refine (positions_in _ sp _ sc _).mono ?_; rintro e w' ⟨rfl, rfl⟩)
  have hW3 : ∃ w, w = (((W.alloc (.cells #[.pointer (some ⟨Bm, 0, none⟩)] 93)).alloc (.cells #[.int .u64 (wd c 0), .int .u64 (wd c 1), .int .u64 (wd c 2), .int .u64 (wd c 3)] 43)).alloc (.cells #[.slice none 0 0] 62)).alloc (.cells #[.slice sp l.length sc] 62) := ⟨_, rfl⟩
  obtain ⟨w, hw⟩ := hW3
  have hsz : w.heap.size = W.heap.size + 4 := by rw [hw]; simp
  have hBw : Below W.heap.size W w := by rw [hw]; exact ((((Below.refl _ W).alloc (Nat.le_refl _) _).alloc (by simp) _).alloc (by simp; omega) _).alloc (by simp; omega) _
  have hmw : Blk w W.heap.size #[.pointer (some ⟨Bm, 0, none⟩)] 93 := by rw [hw]; exact (((Blk.new W _ _).alloc _).alloc _).alloc _
  have hcw : Blk w (W.heap.size + 1) #[.int .u64 (wd c 0), .int .u64 (wd c 1), .int .u64 (wd c 2), .int .u64 (wd c 3)] 43 := by rw [hw]; exact ((Blk.alloc1 W _ _ _ _).alloc _).alloc _
  have hEw : Boxed w (W.heap.size + 1 + 1) 62 (.slice none 0 0) := by rw [hw]; exact ((Blk.alloc2 W _ _ _ _).alloc _).is
  have hSw : Blk w (W.heap.size + 1 + 1 + 1) #[.slice sp l.length sc] 62 := by rw [hw]; exact Blk.alloc3 W _ _ _ _ _
  rw [← hw]
  have hrw : rowOf w (W.heap.size + 1 + 1) = none := by unfold rowOf; rw [hEw.cell]; rfl
  have hread : ∀ W', KpR (W.heap.size + 1 + 1) (fun _ => False) w W' → IsS W' (.slice sp l.length sc) l := fun W' hk => hv.kept fun a u ha => by
    have hlt := lt_of_cell ha
    exact hk.cellq ((hBw.cell hlt).trans ha) (by omega) (fun h => h) (by rw [hrw]; simp)
  have HM := Lib.hid hM
  have HB := Lib.hid hb
  have Hbb := Lib.hid hbb
  have Hrd := Lib.hid hread
  have hlow : ∀ r, rowOf w (W.heap.size + 1 + 1) = some r → r < w.heap.size := fun r e => by rw [hrw] at e; cases e
  have Hls := Lib.hid hls
  have Hlen := Lib.hid (fun (pre : List Nat) (h : pre.length < (pts l).length) => h)
  clear hM hb hbb hread hv hls
  have hw' := Lib.hid hw
  clear hw
  refine wpIn_rangeFunc_ownG rfl (by decide) (gf := 91) (lb := #[.pointer (some ⟨W.heap.size + 1 + 1 + 1, 0, none⟩)]) rfl trivial (enters_of Tryz.func91 (by kernel_rfl) rfl)
    (positions_stops 3 (by decide) (W.heap.size + 1 + 1 + 1) (W.heap.size + 1 + 1) (fun _ => False) w _ l hSw Hrd.out (by omega) (fun _ h => h.elim) hlow hl (fun s hs => ⟨(Hls.out s hs).1, by have := (Hls.out s hs).2; omega⟩)) KpR.trans (kpR_b (by omega)) (Below.refl _ _) (fun _ => rfl)
    (fun pre W' => (∃ v, Boxed W' (W.heap.size + 1 + 1) 62 v ∧ W'.ownsRow W.heap.size 66 2 v (stepS b c pre).length ((stepS b c pre).flatMap encS) ∧ True) ∧ Blk W' W.heap.size #[.pointer (some ⟨Bm, 0, none⟩)] 93 ∧ Blk W' (W.heap.size + 1) #[.int .u64 (wd c 0), .int .u64 (wd c 1), .int .u64 (wd c 2), .int .u64 (wd c 3)] 43 ∧ Below W.heap.size W W')
    (fun _ _ _ => False)
    (OwnFrom.and (Own.from (holdsRow_own W.heap.size (W.heap.size + 1 + 1) 62 66 2 (fun (pre : List Nat) => (stepS b c pre).length) (fun pre => (stepS b c pre).flatMap encS) (fun _ _ => True)) _) (OwnFrom.and ((own_blk _ _ _).from _) (OwnFrom.and ((own_blk _ _ _).from _) (ownFrom_below (Nat.le_refl _) (by omega)))))
    (fun _ _ _ _ _ hs _ _ => hs)
    ⟨⟨_, hEw, World.ownsRow_nil _ _ _ _, trivial⟩, hmw, hcw, hBw⟩
    (fun y => { tmps := #[.pointer (some ⟨Bm, 0, none⟩), .agg #[.int .u64 (wd c 0), .int .u64 (wd c 1), .int .u64 (wd c 2), .int .u64 (wd c 3)], .slice sp l.length sc, .pointer (some ⟨W.heap.size, 0, none⟩), .pointer (some ⟨W.heap.size + 1, 0, none⟩), undef, .slice none 0 0, .pointer (some ⟨W.heap.size + 1 + 1, 0, none⟩), .int .i64 (y : Int), .slice sp l.length sc, .func (.func 91) #[] #[.pointer (some ⟨W.heap.size + 1 + 1 + 1, 0, none⟩)], .int .i64 (y : Int), undef, undef, undef, undef, undef, undef, undef, undef, undef, undef, undef, undef, undef, undef, undef, undef, undef, undef, undef, undef, undef, undef, undef, undef, undef], defers := [] }) ?assign ?body ?done ?stop
  case assign =>
    intro l y W K hK
    gi_wp2
    exact hK
  case body =>
    rintro l' pre y W1 ⟨⟨v, hv1, hrow, -⟩, hm1, hc1, hB1⟩ hlt
    have m1 := hm1.cell 0 rfl
    obtain ⟨k0, k1, k2, k3, -⟩ := hc1.four
    have hM1 := HM.out.below hB1 hBm
    have b1 := hM1.cell 1 rfl
    have c1 := hv1.cell
    have gm1 := fun d os => cell_regrown m1 d os
    have g0 := fun d os => cell_regrown k0 d os
    have g1 := fun d os => cell_regrown k1 d os
    have g2 := fun d os => cell_regrown k2 d os
    have g3 := fun d os => cell_regrown k3 d os
    have gb1 := fun d os => cell_regrown b1 d os
    have hn1 : 1 ≤ 4 - 1 - 1 := by decide
    have hmix : Tryz.prog.follows .mixedOrders = true := by kernel_rfl
    have HV := Lib.hid hv1
    have HO := Lib.hid hrow
    have HM1 := Lib.hid hm1
    have HC1 := Lib.hid hc1
    have HB1 := Lib.hid hB1
    have HLt := Lib.hid hlt
    clear hv1 hrow hm1 hc1 hB1 hlt hM1
    by_cases hy : y < b.length
    · have t1 : decide ((y : Int) < (b.length : Int)) = true := by simp; omega
      obtain ⟨x, hx⟩ : ∃ x, b[y]? = some x := ⟨_, List.getElem?_eq_getElem hy⟩
      obtain ⟨bb, bo, rfl, hbc⟩ := HB.out.at hx
      have b2 := (HB1.out.cell (lt_of_cell hbc)).trans hbc
      have gb2 := fun d os => cell_regrown b2 d os
      have hxb := Hbb.out x (List.mem_of_getElem? hx)
      have HA : ∀ (q : Bool), mem c x.toNat = q → ∀ (r d : Nat) (os : Array Obj), CallsIn Fence.wide r Tryz.prog 82 #[.agg #[.int .u64 (wd c 0), .int .u64 (wd c 1), .int .u64 (wd c 2), .int .u64 (wd c 3)], .int .u8 x] (Go.Sort.grow (redrawn W1 d) os) fun e w'' => e = .returned (.bool q) ∧ ∃ p : Regrown, w'' = Go.Sort.grow (redrawn W1 p.d) p.os := by
        rintro q rfl r d os
        exact CallsIn.regrown_of (callsIn_wide.2 (has_any c x _ hxb.1 hxb.2))
      have hok : okB b c y = mem c x.toNat := by unfold okB; rw [hx]
      cases hmem : mem c x.toNat with
      | false =>
        have HAf := Lib.hid (HA _ hmem)
        have HSt := Lib.hid (show stepS b c (pre ++ [y]) = stepS b c pre by rw [stepS_snoc, hok, hmem]; rfl)
        clear HA hmem hok
        gi_wp2
        refine wpIn_quiet_round l' rfl (by kernel_rfl) hmix (by kernel_rfl) ?_
        repeat (gi_big_quiet_step (with_reducible exact HAf.out _ _ _))
        refine wpQuietIn_nil ?_
        intro _ hw'
        obtain ⟨⟨dq, osq⟩, hw''⟩ := hw'
        subst hw''
        have hb2 := below_regrown W1 dq osq
        generalize Go.Sort.grow (redrawn W1 dq) osq = W2 at hb2 ⊢
        clear dq osq
        gi_wp2
        exact ⟨(keepsOthers_below hb2).from _, KpR.of_below hb2 HV.out.lt, ⟨_, boxed_below HV.out hb2, own_cast (own_below HO.out hb2) (by rw [HSt.out]) (by rw [HSt.out]), trivial⟩, HM1.out.grows hb2, HC1.out.grows hb2, HB1.out.trans (hb2.mono HB1.out.size)⟩
      | true =>
        have HAt := Lib.hid (HA _ hmem)
        have HSt := Lib.hid (show stepS b c (pre ++ [y]) = addS (stepS b c pre) (y + 1) (y + 2) by rw [stepS_snoc, hok, hmem]; rfl)
        clear HA hmem hok
        gi_wp2
        refine wpIn_quiet_round l' rfl (by kernel_rfl) hmix (by kernel_rfl) ?_
        repeat (gi_big_quiet_step (with_reducible exact HAt.out _ _ _))
        refine wpQuietIn_nil ?_
        intro _ hw'
        obtain ⟨⟨dq, osq⟩, hw''⟩ := hw'
        subst hw''
        have hb2 := below_regrown W1 dq osq
        generalize Go.Sort.grow (redrawn W1 dq) osq = W2 at hb2 ⊢
        clear dq osq
        clear m1 k0 k1 k2 k3 gm1 g0 g1 g2 g3 gb1 gb2 b1 b2
        have hV2 := boxed_below HV.out hb2
        have hO2 := own_below HO.out hb2
        have w1 : IntKind.i64.wrap ((y : Int) + 1) = ((y + 1 : Nat) : Int) := by rw [IntWalk.i64_in _ (by omega)]; omega
        have w2 : IntKind.i64.wrap ((y : Int) + 2) = ((y + 2 : Nat) : Int) := by rw [IntWalk.i64_in _ (by omega)]; omega
        have c2 := hV2.cell
        have hsl := stepS_len b c pre
        have hlt := HLt.out
        have HAd := Lib.hid (addSp_at v _ (y + 1) (y + 2) W.heap.size W2 hO2 (by have := HB1.out.size; have := hb2.size; omega) (by omega) (by omega) (by omega) (fun s hs => by have := stepS_ends b c pre s hs; omega))
        have HV2 := Lib.hid hV2
        have HO2 := Lib.hid hO2
        have Hb2 := Lib.hid hb2
        clear hV2 hO2 hb2 hsl hlt
        gi_wp2_with (gi_at_call 83; refine (CallsIn.inRound l' (callsIn_wide.2 HAd.out)).mono ?_; rintro e W3 ⟨⟨v', rfl, hown3, hnew3⟩, hg3⟩; obtain ⟨p3, q3, rfl⟩ := own_shape hown3; obtain ⟨hv3, hv4, hr4, hk4, hb4, hkp4, hs4⟩ := box_step (X := fun _ => False) HV2.out HO2.out (by omega) hown3 hnew3 hg3; have c3 := hv3.cell; have f3 := hv3.frozen)
        have hM2 := HM1.out.grows Hb2.out
        have hC2 := HC1.out.grows Hb2.out
        exact ⟨((keepsOthers_below Hb2.out).trans hk4).from _, (KpR.of_below Hb2.out HV.out.lt).trans hkp4, ⟨_, hv4, own_cast hr4 (by rw [HSt.out]) (by rw [HSt.out]), trivial⟩,
          ⟨(hs4 _ (by omega) (row_ne hM2 (by decide) HO2.out) hM2.lt).trans hM2.is⟩, ⟨(hs4 _ (by omega) (row_ne hC2 (by decide) HO2.out) hC2.lt).trans hC2.is⟩, (HB1.out.trans (Hb2.out.mono HB1.out.size)).trans hb4⟩
    · have t1 : decide ((y : Int) < (b.length : Int)) = false := by simp; omega
      have hok : okB b c y = false := by unfold okB; rw [List.getElem?_eq_none (by omega)]
      have HSt := Lib.hid (show stepS b c (pre ++ [y]) = stepS b c pre by rw [stepS_snoc, hok]; rfl)
      clear hok
      gi_wp2
      refine wpIn_quiet_round l' rfl (by kernel_rfl) hmix (by kernel_rfl) ?_
      repeat (gi_big_quiet_step (fail))
      refine wpQuietIn_nil ?_
      intro _ hw'
      obtain ⟨⟨dq, osq⟩, hw''⟩ := hw'
      subst hw''
      have hb2 := below_regrown W1 dq osq
      generalize Go.Sort.grow (redrawn W1 dq) osq = W2 at hb2 ⊢
      clear dq osq
      gi_wp2
      exact ⟨(keepsOthers_below hb2).from _, KpR.of_below hb2 HV.out.lt, ⟨_, boxed_below HV.out hb2, own_cast (own_below HO.out hb2) (by rw [HSt.out]) (by rw [HSt.out]), trivial⟩, HM1.out.grows hb2, HC1.out.grows hb2, HB1.out.trans (hb2.mono HB1.out.size)⟩
  case done =>
    rintro D ys W1 hD rfl ⟨⟨v, hv1, hrow, -⟩, hm1, hc1, hB1⟩ hK
    have c1 := hv1.cell
    obtain ⟨vp, vc, rfl⟩ := own_shape hrow
    gi_wp2
    refine ⟨by simp, .inl ⟨_, _, rfl, run_takeDeferred hK, ?_⟩⟩
    exact ⟨_, results_tmp rfl _ _ _, ⟨_, rfl, ownsRow_putObj hrow _ hK rfl⟩, hB1.trans (belowK_b (w := W) (Nat.le_refl _) W1 D _ _ (by omega) hK rfl rfl)⟩
  case stop =>
    rintro D c pre W _ _ h _
    exact h.elim
end Go.Proofs.YtgbkjgfiofncdaaGreatDoor

/-
  Maps: of integers to true; of visits to sets.
-/
namespace Go.Proofs.YtgbkjgfiofncdaaGreatDoor
open Go.RowKit Go.MapKept

/-- the map at mb has these keys; all its values are true. -/
def KeysB (W : World) (mb : Nat) (ks : List Nat) : Prop :=
  ∃ es clock, W.heap[mb]? = some (.map es clock) ∧ es.toList.map (·.key) = ks.map (fun n : Nat => Value.int .i64 (n : Int)) ∧ ∀ e ∈ es.toList, e.val = .bool true
theorem lookB {W : World} {mb : Nat} {ks : List Nat} (h : KeysB W mb ks) (p : Nat) :
    (Instr.lookup 135 (.map (some mb)) (.int .i64 (p : Int)) false).run Tryz.prog W = .ok (.bool (decide (p ∈ ks))) W := by
  obtain ⟨es, clock, hb, hk, hv⟩ := h
  have um := Tryz.underlying135
  have ui := Tryz.underlying3
  have hkey : IsKey (.int .i64) (.int .i64 (p : Int)) := rfl
  have hkeys : ∀ x ∈ es.toList, IsKey (.int .i64) x.key := by
    intro x hx
    have hm : x.key ∈ es.toList.map (·.key) := List.mem_map.2 ⟨x, hx, rfl⟩
    rw [hk] at hm
    obtain ⟨n, _, e⟩ := List.mem_map.1 hm
    rw [← e]; rfl
  rcases findNow_spec hkey es.toList 0 hkeys with ⟨h1, h2⟩ | ⟨j, e, h1, h2, h3⟩
  · have hp : p ∉ ks := by
      intro hp
      have hm : Value.int .i64 (p : Int) ∈ es.toList.map (·.key) := by rw [hk]; exact List.mem_map.2 ⟨p, hp, rfl⟩
      obtain ⟨x, hx, e⟩ := List.mem_map.1 hm
      exact h2 x hx e
    rw [decide_eq_false hp]
    have hz : (zeroValue 4).run Tryz.prog W = .ok (.bool false) W := by go_simp
    simp [Instr.lookup, run_underlying um, MapKept.run_getObj_map hb, MapKept.run_checkKey ui hkey, MapKept.run_findKey ui h1, Result.andThen, hz]
  · have hx : e ∈ es.toList := List.mem_of_getElem? h2
    have hp : p ∈ ks := by
      have hm : e.key ∈ es.toList.map (·.key) := List.mem_map.2 ⟨e, hx, rfl⟩
      rw [hk, h3] at hm
      obtain ⟨n, hn, e⟩ := List.mem_map.1 hm
      simp only [Value.int.injEq, true_and] at e
      have : n = p := by omega
      exact this ▸ hn
    rw [decide_eq_true hp]
    simp [Instr.lookup, run_underlying um, MapKept.run_getObj_map hb, MapKept.run_checkKey ui hkey, MapKept.run_findKey ui h1, Result.andThen, hv e hx]
theorem updB {W : World} {mb : Nat} {ks : List Nat} (h : KeysB W mb ks) (p : Nat) (hp : p ∉ ks) :
    ∃ o : Obj, o.isCells = false ∧ (Instr.mapUpdate 135 (.map (some mb)) (.int .i64 (p : Int)) (.bool true)).run Tryz.prog W = .ok () (W.putObj mb o) ∧ KeysB (W.putObj mb o) mb (ks ++ [p]) := by
  obtain ⟨es, clock, hb, hk, hv⟩ := h
  have um := Tryz.underlying135
  have ui := Tryz.underlying3
  have hkey : IsKey (.int .i64) (.int .i64 (p : Int)) := rfl
  have hkeys : ∀ x ∈ es.toList, IsKey (.int .i64) x.key := by
    intro x hx
    have hm : x.key ∈ es.toList.map (·.key) := List.mem_map.2 ⟨x, hx, rfl⟩
    rw [hk] at hm
    obtain ⟨n, _, e⟩ := List.mem_map.1 hm
    rw [← e]; rfl
  have hlt : mb < W.heap.size := (Array.getElem?_eq_some_iff.1 hb).1
  rcases findNow_spec hkey es.toList 0 hkeys with ⟨h1, h2⟩ | ⟨j, e, h1, h2, h3⟩
  · refine ⟨.map (es.push { key := .int .i64 (p : Int), val := .bool true, born := clock }) (clock + 1), rfl, ?_, ?_⟩
    · simp [Instr.mapUpdate, run_underlying um, MapKept.run_getObj_map hb, MapKept.run_checkKey ui hkey, MapKept.run_findKey ui h1, Result.andThen, MapKept.run_setObj_map _ hb, World.putObj]
    · refine ⟨_, _, World.putObj_heap_same hlt, ?_, ?_⟩
      · simp [hk]
      · intro x hx
        simp only [Array.toList_push, List.mem_append, List.mem_singleton] at hx
        rcases hx with hx | rfl
        · exact hv x hx
        · rfl
  · have hx : e ∈ es.toList := List.mem_of_getElem? h2
    have hm : e.key ∈ es.toList.map (·.key) := List.mem_map.2 ⟨e, hx, rfl⟩
    rw [hk, h3] at hm
    obtain ⟨n, hn, e⟩ := List.mem_map.1 hm
    simp only [Value.int.injEq, true_and] at e
    have : n = p := by omega
    exact absurd (this ▸ hn) hp

/-! ## Visits -/

set_option maxRecDepth 100000 in
theorem eq_visit (i j : Int) (s t : ByteArray) (w : World) : (Op.equalIn 10000 121 (.agg #[.int .i64 i, .string s]) (.agg #[.int .i64 j, .string t])).run Tryz.prog w = .ok (decide (i = j ∧ s = t)) w := by
  have ut := Tryz.underlying121
  have ui := Tryz.underlying3
  have us := Tryz.underlying9
  have hf : Tryz.prog.underlying 121 = some (.struct (Tryz.prog.fieldsOf 121)) := by unfold Program.fieldsOf; rw [ut]
  rw [show (10000 : Nat) = 9999 + 1 from rfl, run_equalIn_struct w 9999 121 _ _ hf (by kernel_rfl)]
  unfold Program.fieldsOf
  rw [ut]
  simp only [Op.eqFields]
  go_simp
  have hst : s.toList = t.toList ↔ s = t := ⟨fun h => by rw [ByteArray.toList_eq, ByteArray.toList_eq] at h; exact ByteArray.ext (Array.toList_inj.1 h), fun h => by rw [h]⟩
  by_cases h1 : i = j <;> by_cases h2 : s = t <;> simp [h1, h2, hst]
theorem check_visit (b : Bool) (i : Int) (s : ByteArray) (w : World) : (Instr.checkKey b 10000 121 (.agg #[.int .i64 i, .string s])).run Tryz.prog w = .ok () w := by
  have ut := Tryz.underlying121
  have ui := Tryz.underlying3
  have us := Tryz.underlying9
  rw [show (10000 : Nat) = 9999 + 1 from rfl]
  unfold Instr.checkKey
  simp only [Sem.run_bind, run_underlying ut, Result.andThen_ok]
  go_simp
  rw [MapKept.run_checkKey (k := .int .i64 i) ui rfl b 9998]
  simp only [Result.andThen_ok]
  rw [MapKept.run_checkKey (k := .string s) us trivial b 9998]
  rfl
/-- a visit's key. -/
def vkey (i : Nat) (l : List (Nat × Nat)) : Value := .agg #[.int .i64 (i : Int), .string ⟨(keyS l).toArray⟩]
/-- what asking for a visit finds: the first entry of that key, if there is one. -/
theorem find_visit (i : Int) (s : ByteArray) (w : World) : ∀ (es : List MapEntry) (k : Nat), (∀ e ∈ es, ∃ j t, e.key = .agg #[.int .i64 j, .string t]) →
    ((Instr.findAsking 121 (.agg #[.int .i64 i, .string s]) es k).run Tryz.prog w = .ok none w ∧ ∀ e ∈ es, e.key ≠ .agg #[.int .i64 i, .string s]) ∨
    ∃ j e, (Instr.findAsking 121 (.agg #[.int .i64 i, .string s]) es k).run Tryz.prog w = .ok (some (k + j, e.val)) w ∧ es[j]? = some e ∧ e.key = .agg #[.int .i64 i, .string s]
  | [], k, _ => .inl ⟨rfl, by simp⟩
  | e :: es, k, h => by
    obtain ⟨j, t, hk⟩ := h e (by simp)
    have hq := eq_visit i j s t w
    by_cases hij : i = j ∧ s = t
    · rw [decide_eq_true hij] at hq
      refine .inr ⟨0, e, ?_, rfl, by rw [hk, hij.1, hij.2]⟩
      simp [Instr.findAsking, Op.equal, Op.maxDepth, hk, hq, Result.andThen]
    · rw [decide_eq_false hij] at hq
      have hne : e.key ≠ .agg #[.int .i64 i, .string s] := by
        rw [hk]
        intro hc
        simp at hc
        exact hij ⟨hc.1.symm, hc.2.symm⟩
      rcases find_visit i s w es (k + 1) (fun x hx => h x (by simp [hx])) with ⟨h1, h2⟩ | ⟨j', e', h1, h2, h3⟩
      · refine .inl ⟨?_, ?_⟩
        · simp [Instr.findAsking, Op.equal, Op.maxDepth, hk, hq, Result.andThen, h1]
        · intro x hx
          rcases List.mem_cons.1 hx with rfl | hx
          · exact hne
          · exact h2 x hx
      · refine .inr ⟨j' + 1, e', ?_, by simpa using h2, h3⟩
        simp [Instr.findAsking, Op.equal, Op.maxDepth, hk, hq, Result.andThen, h1]
        omega
/-- the memo at mb: each entry is a visit and a value of which R holds. -/
def Memo (W : World) (mb : Nat) (R : Nat → List (Nat × Nat) → Value → Prop) : Prop :=
  ∃ es clock, W.heap[mb]? = some (.map es clock) ∧ ∀ e ∈ es.toList, ∃ i l, e.key = vkey i l ∧ R i l e.val
theorem find_key {W : World} {es : List MapEntry} (hes : ∀ e ∈ es, ∃ j t, e.key = .agg #[.int .i64 j, .string t]) (i : Int) (s : ByteArray) :
    ((Instr.findKey 121 (.agg #[.int .i64 i, .string s]) es).run Tryz.prog W = .ok none W ∧ ∀ e ∈ es, e.key ≠ .agg #[.int .i64 i, .string s]) ∨
    ∃ j e, (Instr.findKey 121 (.agg #[.int .i64 i, .string s]) es).run Tryz.prog W = .ok (some (j, e.val)) W ∧ es[j]? = some e ∧ e.key = .agg #[.int .i64 i, .string s] := by
  have ut := Tryz.underlying121
  cases es with
  | nil => exact .inl ⟨by simp [Instr.findKey, run_underlying ut, Result.andThen, Instr.findNow], by simp⟩
  | cons e es =>
    obtain ⟨j, t, hk⟩ := hes e (by simp)
    have hfk : (Instr.findKey 121 (.agg #[.int .i64 i, .string s]) (e :: es)).run Tryz.prog W = (Instr.findAsking 121 (.agg #[.int .i64 i, .string s]) (e :: es)).run Tryz.prog W := by
      simp [Instr.findKey, run_underlying ut, Result.andThen, Instr.findNow, Instr.sameNow, hk]
    rw [hfk]
    rcases find_visit i s W (e :: es) 0 hes with h | ⟨j, e', h1, h2, h3⟩
    · exact .inl h
    · exact .inr ⟨j, e', by simpa using h1, h2, h3⟩
theorem lookM {W : World} {mb : Nat} {R : Nat → List (Nat × Nat) → Value → Prop} (h : Memo W mb R) (i : Nat) (l : List (Nat × Nat)) :
    (Instr.lookup 59 (.map (some mb)) (vkey i l) true).run Tryz.prog W = .ok (.tuple #[.slice none 0 0, .bool false]) W ∨
    ∃ v j m, (Instr.lookup 59 (.map (some mb)) (vkey i l) true).run Tryz.prog W = .ok (.tuple #[v, .bool true]) W ∧ vkey j m = vkey i l ∧ R j m v := by
  obtain ⟨es, clock, hb, hes⟩ := h
  have um := Tryz.underlying59
  have hc := check_visit es.isEmpty (i : Int) ⟨(keyS l).toArray⟩ W
  rcases find_key (W := W) (fun e he => let ⟨j, m, hk, _⟩ := hes e he; ⟨_, _, hk⟩) (i : Int) ⟨(keyS l).toArray⟩ with ⟨h1, _⟩ | ⟨j, e, h1, h2, h3⟩
  · refine .inl ?_
    have hz : (zeroValue 62).run Tryz.prog W = .ok (.slice none 0 0) W := by go_simp
    simp [Instr.lookup, vkey, run_underlying um, MapKept.run_getObj_map hb, hc, h1, Result.andThen, hz]
  · obtain ⟨j', m, hk, hR⟩ := hes e (List.mem_of_getElem? h2)
    refine .inr ⟨e.val, j', m, ?_, by rw [← hk, h3]; rfl, hR⟩
    simp [Instr.lookup, vkey, run_underlying um, MapKept.run_getObj_map hb, hc, h1, Result.andThen]
theorem same_key (i : Int) (s : ByteArray) (w : World) : (Instr.keyThatStays (.agg #[.int .i64 i, .string s]) (.agg #[.int .i64 i, .string s])).run Tryz.prog w = .ok (.agg #[.int .i64 i, .string s]) w := by
  simp [Instr.keyThatStays, Instr.sameBits, MapKept.bytes_beq]
theorem updM {W : World} {mb : Nat} {R : Nat → List (Nat × Nat) → Value → Prop} (h : Memo W mb R) (i : Nat) (l : List (Nat × Nat)) (v : Value) (hv : R i l v) :
    ∃ o : Obj, o.isCells = false ∧ (Instr.mapUpdate 59 (.map (some mb)) (vkey i l) v).run Tryz.prog W = .ok () (W.putObj mb o) ∧ Memo (W.putObj mb o) mb R := by
  obtain ⟨es, clock, hb, hes⟩ := h
  have um := Tryz.underlying59
  have hc := check_visit false (i : Int) ⟨(keyS l).toArray⟩ W
  have hlt : mb < W.heap.size := (Array.getElem?_eq_some_iff.1 hb).1
  rcases find_key (W := W) (fun e he => let ⟨j, m, hk, _⟩ := hes e he; ⟨_, _, hk⟩) (i : Int) ⟨(keyS l).toArray⟩ with ⟨h1, _⟩ | ⟨j, e, h1, h2, h3⟩
  · refine ⟨.map (es.push { key := vkey i l, val := v, born := clock }) (clock + 1), rfl, ?_, ?_⟩
    · simp [Instr.mapUpdate, vkey, run_underlying um, MapKept.run_getObj_map hb, hc, h1, Result.andThen, MapKept.run_setObj_map _ hb, World.putObj]
    · refine ⟨_, _, World.putObj_heap_same hlt, fun x hx => ?_⟩
      simp only [Array.toList_push, List.mem_append, List.mem_singleton] at hx
      rcases hx with hx | rfl
      · exact hes x hx
      · exact ⟨i, l, rfl, hv⟩
  · have hj : es[j]? = some e := by simpa using h2
    refine ⟨.map (es.modify j fun e => { e with key := vkey i l, val := v }) clock, rfl, ?_, ?_⟩
    · simp [Instr.mapUpdate, vkey, run_underlying um, MapKept.run_getObj_map hb, hc, h1, hj, h3, same_key, Result.andThen, MapKept.run_setObj_map _ hb, World.putObj]
    · refine ⟨_, _, World.putObj_heap_same hlt, fun x hx => ?_⟩
      rcases MapFrom.mem_modify hx with hx | ⟨e', _, rfl⟩
      · exact hes x hx
      · exact ⟨i, l, rfl, hv⟩
end Go.Proofs.YtgbkjgfiofncdaaGreatDoor

/-
  Keys of sets: different sets have different ones.
-/
namespace Go.Proofs.YtgbkjgfiofncdaaGreatDoor
open Go.RowKit

def decVal (l : List UInt8) : Nat := l.foldl (fun a c => a * 10 + (c.toNat - 48)) 0
theorem digit_byte (d : Nat) (h : d < 10) : (UInt8.ofNat (48 + d)).toNat = 48 + d := by
  simp; omega
theorem decVal_dec (u : Nat) : decVal (Lib.decDigits u) = u ∧ ∀ c ∈ Lib.decDigits u, 48 ≤ c.toNat := by
  induction u using Nat.strongRecOn with
  | _ u ih =>
    rw [Lib.decDigits]
    split
    · rename_i h
      refine ⟨?_, ?_⟩
      · simp only [decVal, List.foldl_cons, List.foldl_nil]
        rw [digit_byte u h]; omega
      · intro c hc
        simp only [List.mem_singleton] at hc
        subst hc
        rw [digit_byte u h]; omega
    · rename_i h
      obtain ⟨h1, h2⟩ := ih (u / 10) (by omega)
      refine ⟨?_, ?_⟩
      · unfold decVal at h1 ⊢
        rw [List.foldl_append, h1]
        simp only [List.foldl_cons, List.foldl_nil]
        rw [digit_byte _ (by omega)]; omega
      · intro c hc
        rcases List.mem_append.1 hc with hc | hc
        · exact h2 c hc
        · simp only [List.mem_singleton] at hc
          subst hc
          rw [digit_byte _ (by omega)]; omega
theorem dec_inj {a b : Nat} (h : Lib.decDigits a = Lib.decDigits b) : a = b := by
  have := (decVal_dec a).1
  rw [h, (decVal_dec b).1] at this
  exact this.symm
theorem no_blank (u : Nat) : (32 : UInt8) ∉ Lib.decDigits u := by
  intro h
  have := (decVal_dec u).2 _ h
  simp at this
theorem split_blank : ∀ {a b x y : List UInt8}, (32 : UInt8) ∉ a → (32 : UInt8) ∉ b → a ++ 32 :: x = b ++ 32 :: y → a = b ∧ x = y
  | [], [], x, y, _, _, h => by simpa using h
  | [], c :: b, x, y, _, hb, h => by
    simp only [List.nil_append, List.cons_append, List.cons.injEq] at h
    exact absurd (by rw [← h.1]; simp) hb
  | c :: a, [], x, y, ha, _, h => by
    simp only [List.nil_append, List.cons_append, List.cons.injEq] at h
    exact absurd (by rw [h.1]; simp) ha
  | c :: a, d :: b, x, y, ha, hb, h => by
    simp only [List.cons_append, List.cons.injEq] at h
    obtain ⟨h1, h2⟩ := split_blank (fun hm => ha (by simp [hm])) (fun hm => hb (by simp [hm])) h.2
    exact ⟨by rw [h.1, h1], h2⟩
theorem keyS_cons (s : Nat × Nat) (l : List (Nat × Nat)) : keyS (s :: l) = Lib.decDigits s.1 ++ 32 :: (Lib.decDigits s.2 ++ 32 :: keyS l) := by
  unfold keyS
  rw [List.flatMap_cons, Lib.itoa_nonneg, Lib.itoa_nonneg]
  simp
theorem keyS_inj : ∀ {l m : List (Nat × Nat)}, keyS l = keyS m → l = m
  | [], [], _ => rfl
  | [], s :: m, h => by rw [keyS_cons] at h; simp [keyS] at h
  | s :: l, [], h => by rw [keyS_cons] at h; simp [keyS] at h
  | s :: l, u :: m, h => by
    rw [keyS_cons, keyS_cons] at h
    obtain ⟨h1, h2⟩ := split_blank (no_blank _) (no_blank _) h
    obtain ⟨h3, h4⟩ := split_blank (no_blank _) (no_blank _) h2
    rw [keyS_inj h4]
    have e : s = u := Prod.ext (dec_inj h1) (dec_inj h3)
    rw [e]
theorem vkey_inj {i j : Nat} {l m : List (Nat × Nat)} (h : vkey i l = vkey j m) : i = j ∧ l = m := by
  simp only [vkey, Value.agg.injEq] at h
  have h1 := congrArg (fun a : Array Value => a[0]?) h
  have h2 := congrArg (fun a : Array Value => a[1]?) h
  simp at h1 h2
  exact ⟨by omega, keyS_inj h2⟩
end Go.Proofs.YtgbkjgfiofncdaaGreatDoor

/-
  An expression's tree; what a matcher's world says; frames of its calls.
-/
namespace Go.Proofs.YtgbkjgfiofncdaaGreatDoor
open Go.RowKit

/-! ## Sizes of sets -/
theorem incr_len (N : Nat) : ∀ (l : List Nat) (a : Nat), l.Pairwise (· < ·) → (∀ x ∈ l, a ≤ x ∧ x < N) → l.length ≤ N - a
  | [], _, _, _ => by simp
  | x :: l, a, hp, hb => by
    have h1 := hb x (by simp)
    have hp2 := List.pairwise_cons.1 hp
    have := incr_len N l (x + 1) hp2.2 (fun y hy => ⟨hp2.1 y hy, (hb y (by simp [hy])).2⟩)
    simp only [List.length_cons]; omega
theorem len_pts : ∀ {l : List (Nat × Nat)}, Good l → l.length ≤ (pts l).length
  | [], _ => by simp
  | s :: l, h => by
    have := len_pts h.tail
    have := h.head
    rw [pts, List.length_append, List.length_range', List.length_cons]; omega
theorem pts_len {l : List (Nat × Nat)} {N : Nat} (h : Good l) (hN : ∀ q, On l q → q ≤ N) : (pts l).length ≤ N + 1 := by
  have := incr_len (N + 1) (pts l) 0 (pts_incr h) (fun x hx => ⟨Nat.zero_le _, by have := hN x (mem_pts.1 hx); omega⟩)
  omega
theorem good_ends {l : List (Nat × Nat)} {N : Nat} (h : Good l) (hN : ∀ q, On l q → q ≤ N) : ∀ s ∈ l, s.1 < s.2 ∧ s.2 ≤ N + 1 := by
  intro s hs
  have h1 := h.mem s hs
  have := hN (s.2 - 1) ⟨s, hs, by omega, by omega⟩
  exact ⟨h1, by omega⟩

/-! ## Trees -/
/-- what validity says of the nodes. -/
structure OkX (xs : List Nd) : Prop where
  len : xs.length ≤ 200
  kind : ∀ (i : Nat) n, xs[i]? = some n → 1 ≤ n.k ∧ n.k ≤ 8
  ops : ∀ (i : Nat) n, xs[i]? = some n → ∀ j ∈ opsN n, 0 ≤ j ∧ j < (i : Int)
  bnd : ∀ (i : Nat) n, xs[i]? = some n → n.k = 8 → 0 ≤ n.mn ∧ n.mn ≤ 16 ∧ -1 ≤ n.mx ∧ n.mx ≤ 16 ∧ (n.mx = -1 ∨ n.mn ≤ n.mx)
theorem firstE_all : ∀ (l : List Nd) (i : Nat), firstE i l = 0 → ∀ (k : Nat) n, l[k]? = some n → chkN n ((i + k : Nat) : Int) = 0
  | [], _, _, k, n, h => by simp at h
  | m :: l, i, h, k, n, hk => by
    rw [firstE] at h
    split at h
    · rename_i h0
      cases k with
      | zero =>
        obtain rfl : m = n := by simpa using hk
        simpa using h0
      | succ k =>
        have := firstE_all l (i + 1) h k n (by simpa using hk)
        rwa [show i + 1 + k = i + (k + 1) by omega] at this
    · rename_i h0; exact absurd h h0
theorem okX_of {xs : List Nd} (h : validE xs = 0) : OkX xs := by
  unfold validE at h
  split at h
  · cases h
  rename_i h200
  split at h
  · cases h
  have hf : firstE 0 xs = 0 := by
    unfold vRes at h
    split at h
    · rename_i hf; exact hf
    · rename_i hf; exact absurd h hf
  have hall : ∀ (k : Nat) n, xs[k]? = some n → chkN n (k : Int) = 0 := fun k n hk => by simpa using firstE_all xs 0 hf k n hk
  refine ⟨by omega, fun i n hi => ?_, fun i n hi => chk_zero (hall i n hi), fun i n hi hk => ?_⟩
  · have h0 := hall i n hi
    unfold chkN at h0
    split at h0
    · cases h0
    · rename_i hno
      have hkb : knownB n.k = true := by
        cases hb : knownB n.k
        · exact absurd (.inl hb) hno
        · rfl
      unfold knownB at hkb
      simp at hkb
      exact hkb
  · have h0 := hall i n hi
    unfold chkN at h0
    split at h0
    · cases h0
    · unfold chkR at h0
      split at h0
      · cases h0
      · unfold boundsErr at h0
        repeat' split at h0
        all_goals first | (cases h0; done) | omega
/-- the tree at a node. -/
def rx (xs : List Nd) : Nat → Nat → Rx
  | 0, _ => .none
  | f + 1, i => match xs[i]? with
    | none => .none
    | some n =>
      if n.k = 2 then .empty else if n.k = 3 then .cls n.c else if n.k = 4 then .cat (rx xs f n.l.toNat) (rx xs f n.r.toNat)
      else if n.k = 5 then .alt (rx xs f n.l.toNat) (rx xs f n.r.toNat) else if n.k = 6 then .and (rx xs f n.l.toNat) (rx xs f n.r.toNat)
      else if n.k = 7 then .not (rx xs f n.l.toNat) else if n.k = 8 then .rep (rx xs f n.l.toNat) n.mn.toNat (if n.mx = -1 then none else some n.mx.toNat) else .none
theorem opsN_two {n : Nd} (h : n.k = 4 ∨ n.k = 5 ∨ n.k = 6) : opsN n = [n.l, n.r] := by unfold opsN; rw [if_pos h]
theorem opsN_one {n : Nd} (h : n.k = 7 ∨ n.k = 8) : opsN n = [n.l] := by unfold opsN; rw [if_neg (by omega), if_pos h]
theorem OkX.two {xs : List Nd} (h : OkX xs) {i : Nat} {n : Nd} (hi : xs[i]? = some n) (hk : n.k = 4 ∨ n.k = 5 ∨ n.k = 6) : (0 ≤ n.l ∧ n.l < (i : Int)) ∧ 0 ≤ n.r ∧ n.r < (i : Int) :=
  ⟨h.ops i n hi n.l (by rw [opsN_two hk]; simp), h.ops i n hi n.r (by rw [opsN_two hk]; simp)⟩
theorem OkX.one {xs : List Nd} (h : OkX xs) {i : Nat} {n : Nd} (hi : xs[i]? = some n) (hk : n.k = 7 ∨ n.k = 8) : 0 ≤ n.l ∧ n.l < (i : Int) :=
  h.ops i n hi n.l (by rw [opsN_one hk]; simp)
theorem rx_fuel {xs : List Nd} (h : OkX xs) : ∀ (f g i : Nat), i < f → i < g → rx xs f i = rx xs g i
  | 0, _, _, h1, _ => by omega
  | _ + 1, 0, _, _, h2 => by omega
  | f + 1, g + 1, i, h1, h2 => by
    unfold rx
    cases hi : xs[i]? with
    | none => rfl
    | some n =>
      have two : (n.k = 4 ∨ n.k = 5 ∨ n.k = 6) → rx xs f n.l.toNat = rx xs g n.l.toNat ∧ rx xs f n.r.toNat = rx xs g n.r.toNat := fun hk => by
        have := h.two hi hk
        exact ⟨rx_fuel h f g _ (by omega) (by omega), rx_fuel h f g _ (by omega) (by omega)⟩
      have one : (n.k = 7 ∨ n.k = 8) → rx xs f n.l.toNat = rx xs g n.l.toNat := fun hk => by
        have := h.one hi hk
        exact rx_fuel h f g _ (by omega) (by omega)
      dsimp only
      by_cases h4 : n.k = 4
      · simp only [h4]; rw [(two (.inl h4)).1, (two (.inl h4)).2]
      by_cases h5 : n.k = 5
      · simp only [h5]; rw [(two (.inr (.inl h5))).1, (two (.inr (.inl h5))).2]
      by_cases h6 : n.k = 6
      · simp only [h6]; rw [(two (.inr (.inr h6))).1, (two (.inr (.inr h6))).2]
      by_cases h7 : n.k = 7
      · simp only [h7]; rw [one (.inl h7)]; simp
      by_cases h8 : n.k = 8
      · simp only [h8]; rw [one (.inr h8)]; simp
      simp only [h4, h5, h6, h7, h8, if_false]
def tr (xs : List Nd) (i : Nat) : Rx := rx xs (i + 1) i
theorem tr_none {xs : List Nd} {i : Nat} {n : Nd} (hi : xs[i]? = some n) (hk : n.k = 1) : tr xs i = .none := by
  unfold tr rx; simp [hi, hk]
theorem tr_empty {xs : List Nd} {i : Nat} {n : Nd} (hi : xs[i]? = some n) (hk : n.k = 2) : tr xs i = .empty := by
  unfold tr rx; simp [hi, hk]
theorem tr_cls {xs : List Nd} {i : Nat} {n : Nd} (hi : xs[i]? = some n) (hk : n.k = 3) : tr xs i = .cls n.c := by
  unfold tr rx; simp [hi, hk]
theorem tr_cat {xs : List Nd} (h : OkX xs) {i : Nat} {n : Nd} (hi : xs[i]? = some n) (hk : n.k = 4) : tr xs i = .cat (tr xs n.l.toNat) (tr xs n.r.toNat) := by
  have := h.two hi (.inl hk)
  unfold tr
  rw [rx, rx_fuel h (n.l.toNat + 1) i _ (by omega) (by omega), rx_fuel h (n.r.toNat + 1) i _ (by omega) (by omega)]
  simp [hi, hk]
theorem tr_alt {xs : List Nd} (h : OkX xs) {i : Nat} {n : Nd} (hi : xs[i]? = some n) (hk : n.k = 5) : tr xs i = .alt (tr xs n.l.toNat) (tr xs n.r.toNat) := by
  have := h.two hi (.inr (.inl hk))
  unfold tr
  rw [rx, rx_fuel h (n.l.toNat + 1) i _ (by omega) (by omega), rx_fuel h (n.r.toNat + 1) i _ (by omega) (by omega)]
  simp [hi, hk]
theorem tr_and {xs : List Nd} (h : OkX xs) {i : Nat} {n : Nd} (hi : xs[i]? = some n) (hk : n.k = 6) : tr xs i = .and (tr xs n.l.toNat) (tr xs n.r.toNat) := by
  have := h.two hi (.inr (.inr hk))
  unfold tr
  rw [rx, rx_fuel h (n.l.toNat + 1) i _ (by omega) (by omega), rx_fuel h (n.r.toNat + 1) i _ (by omega) (by omega)]
  simp [hi, hk]
theorem tr_not {xs : List Nd} (h : OkX xs) {i : Nat} {n : Nd} (hi : xs[i]? = some n) (hk : n.k = 7) : tr xs i = .not (tr xs n.l.toNat) := by
  have := h.one hi (.inl hk)
  unfold tr
  rw [rx, rx_fuel h (n.l.toNat + 1) i _ (by omega) (by omega)]
  simp [hi, hk]
theorem tr_rep {xs : List Nd} (h : OkX xs) {i : Nat} {n : Nd} (hi : xs[i]? = some n) (hk : n.k = 8) : tr xs i = .rep (tr xs n.l.toNat) n.mn.toNat (if n.mx = -1 then none else some n.mx.toNat) := by
  have := h.one hi (.inr hk)
  unfold tr
  rw [rx, rx_fuel h (n.l.toNat + 1) i _ (by omega) (by omega)]
  simp [hi, hk]

/-! ## The matcher's world -/
/-- m is the set of the ends of the tree's matches that begin in l. -/
def SetOf (b : List Int) (t : Rx) (l m : List (Nat × Nat)) : Prop := Good m ∧ ∀ q, On m q ↔ ends b t (On l) q
theorem SetOf.le {b : List Int} {t : Rx} {l m : List (Nat × Nat)} (h : SetOf b t l m) : ∀ q, On m q → q ≤ b.length := by
  intro q hq
  obtain ⟨p, _, hs⟩ := (h.2 q).1 hq
  exact (sp_le b t p q hs).2
theorem Memo.mono {W : World} {mb : Nat} {R R' : Nat → List (Nat × Nat) → Value → Prop} (h : Memo W mb R) (hR : ∀ i l v, R i l v → R' i l v) : Memo W mb R' := by
  obtain ⟨es, clock, hb, hes⟩ := h
  exact ⟨es, clock, hb, fun e he => let ⟨i, l, hk, hr⟩ := hes e he; ⟨i, l, hk, hR _ _ _ hr⟩⟩
theorem Memo.block {W W' : World} {mb : Nat} {R : Nat → List (Nat × Nat) → Value → Prop} (h : Memo W mb R) (hb : W'.heap[mb]? = W.heap[mb]?) : Memo W' mb R := by
  obtain ⟨es, clock, hm, hes⟩ := h
  exact ⟨es, clock, hb.trans hm, hes⟩
theorem Memo.lt {W : World} {mb : Nat} {R : Nat → List (Nat × Nat) → Value → Prop} (h : Memo W mb R) : mb < W.heap.size := by
  obtain ⟨es, clock, hm, _⟩ := h
  exact heap_lt hm
theorem Memo.not_cells {W : World} {mb : Nat} {R : Nat → List (Nat × Nat) → Value → Prop} (h : Memo W mb R) {a : Addr} {u : Value} (ha : W.cell? a = some u) : a.block ≠ mb := by
  obtain ⟨es, clock, hm, _⟩ := h
  obtain ⟨cs, t, m, hc⟩ := cells_of_cell ha
  intro e
  rw [e, hm] at hc
  cases hc
theorem keptM {W W' : World} {mb : Nat} {R : Nat → List (Nat × Nat) → Value → Prop} (hg : W.grownBy W' (some mb)) (hm : Memo W mb R) : ∀ a u, W.cell? a = some u → W'.cell? a = some u := by
  intro a u ha
  have hne := hm.not_cells ha
  rw [World.cell?_of_block (hg.block a.block (lt_of_cell ha) (by simpa using hne))]; exact ha
def MemoOk (W : World) (mb : Nat) (xs : List Nd) (b : List Int) : Prop := Memo W mb fun i l v => ∃ m, IsS W v m ∧ SetOf b (tr xs i) l m
structure Mw (W : World) (Bm mb : Nat) (xs : List Nd) (b : List Int) (xb xo xc : Nat) (bv : Value) : Prop where
  m : Blk W Bm #[.slice (some ⟨xb, xo, none⟩) xs.length xc, bv, .map (some mb)] 61
  x : ReadsN W xb xo xs
  word : IsB W bv b
  memo : MemoOk W mb xs b
theorem Mw.ne {W : World} {Bm mb : Nat} {xs : List Nd} {b : List Int} {xb xo xc : Nat} {bv : Value} (h : Mw W Bm mb xs b xb xo xc bv) : Bm ≠ mb :=
  h.memo.not_cells (h.m.cell 0 rfl)
theorem Mw.step {W W' : World} {Bm mb : Nat} {xs : List Nd} {b : List Int} {xb xo xc : Nat} {bv : Value} (h : Mw W Bm mb xs b xb xo xc bv) (hg : W.grownBy W' (some mb)) (hM : MemoOk W' mb xs b) : Mw W' Bm mb xs b xb xo xc bv :=
  ⟨⟨(hg.block Bm h.m.lt (by simpa using h.ne)).trans h.m.is⟩, fun j x hj i v hi => keptM hg h.memo _ _ (h.x j x hj i v hi), h.word.kept (keptM hg h.memo), hM⟩
theorem MemoOk.grows {W W' : World} {mb : Nat} {xs : List Nd} {b : List Int} (h : MemoOk W mb xs b) (hb : Below W.heap.size W W') : MemoOk W' mb xs b :=
  (Memo.block h (hb.block mb (Memo.lt h))).mono fun _ _ _ ⟨m, h1, h2⟩ => ⟨m, h1.grows hb, h2⟩
theorem grownBy_of_below {W W' : World} (hb : Below W.heap.size W W') (row : Option Nat) : W.grownBy W' row := ⟨hb.os, hb.tape, hb.output, hb.size, fun k hk _ => hb.block k hk⟩
theorem Mw.grows {W W' : World} {Bm mb : Nat} {xs : List Nd} {b : List Int} {xb xo xc : Nat} {bv : Value} (h : Mw W Bm mb xs b xb xo xc bv) (hb : Below W.heap.size W W') : Mw W' Bm mb xs b xb xo xc bv :=
  h.step (grownBy_of_below hb _) (h.memo.grows hb)
/-- the memo's turn. -/
theorem memo_put {W : World} {mb : Nat} {xs : List Nd} {b : List Int} (h : MemoOk W mb xs b) (i : Nat) (l : List (Nat × Nat)) (v : Value) (m : List (Nat × Nat)) (hv : IsS W v m) (hs : SetOf b (tr xs i) l m) :
    ∃ W' : World, (Instr.mapUpdate 59 (.map (some mb)) (vkey i l) v).run Tryz.prog W = .ok () W' ∧ MemoOk W' mb xs b ∧ W.grownBy W' (some mb) := by
  obtain ⟨o, _, hrun, hM⟩ := updM h i l v ⟨m, hv, hs⟩
  have hg := grownBy_putObj' W mb o
  exact ⟨_, hrun, hM.mono fun _ _ _ ⟨m, h1, h2⟩ => ⟨m, h1.kept (keptM hg h), h2⟩, hg⟩
/-- what the memo answers. -/
theorem memo_get {W : World} {mb : Nat} {xs : List Nd} {b : List Int} (h : MemoOk W mb xs b) (i : Nat) (l : List (Nat × Nat)) :
    (Instr.lookup 59 (.map (some mb)) (vkey i l) true).run Tryz.prog W = .ok (.tuple #[.slice none 0 0, .bool false]) W ∨
    ∃ v m, (Instr.lookup 59 (.map (some mb)) (vkey i l) true).run Tryz.prog W = .ok (.tuple #[v, .bool true]) W ∧ IsS W v m ∧ SetOf b (tr xs i) l m := by
  rcases lookM h i l with h1 | ⟨v, j, l', h1, h2, m, h3, h4⟩
  · exact .inl h1
  · obtain ⟨rfl, rfl⟩ := vkey_inj h2
    exact .inr ⟨v, m, h1, h3, h4⟩
end Go.Proofs.YtgbkjgfiofncdaaGreatDoor

/-
  Plain: whether a word matches an expression; the document's examples.
-/
namespace Go.Proofs.YtgbkjgfiofncdaaGreatDoor

/-- the word matches the expression. -/
noncomputable def matchB (xs : List Nd) (b : List Int) : Bool := @decide (validE xs = 0 ∧ sp b (tr xs (xs.length - 1)) 0 b.length) (Classical.propDecidable _)
theorem matchB_true {xs : List Nd} {b : List Int} : matchB xs b = true ↔ validE xs = 0 ∧ sp b (tr xs (xs.length - 1)) 0 b.length := by
  unfold matchB
  exact @decide_eq_true_iff _ (Classical.propDecidable _)
theorem matchB_false {xs : List Nd} {b : List Int} (h : ¬ sp b (tr xs (xs.length - 1)) 0 b.length) : matchB xs b = false := by
  cases hm : matchB xs b
  · rfl
  · exact absurd (matchB_true.1 hm).2 h
def nCls (y : Nat) : Nd := ⟨3, bit y, 0, 0, 0, 0⟩
def exGroup : List Nd := [nCls 97, nCls 98, nCls 99, ⟨5, 0, 1, 2, 0, 0⟩, ⟨8, 0, 3, 0, 0, -1⟩, ⟨4, 0, 0, 4, 0, 0⟩]
def exBoth : List Nd := [nCls 97, ⟨8, 0, 0, 0, 0, -1⟩, ⟨7, 0, 1, 0, 0, 0⟩, ⟨3, BitVec.allOnes 256, 0, 0, 0, 0⟩, ⟨8, 0, 3, 0, 2, 2⟩, ⟨6, 0, 2, 4, 0, 0⟩]
def exStar : List Nd := [nCls 97, nCls 98, ⟨8, 0, 1, 0, 0, -1⟩, ⟨5, 0, 0, 2, 0, 0⟩]
theorem ex_group : parseS [97, 40, 98, 124, 99, 41, 42] 60 = some (.ok exGroup) := by kernel_rfl
theorem ex_both : parseS [126, 97, 42, 38, 46, 123, 50, 44, 50, 125] 60 = some (.ok exBoth) := by kernel_rfl
theorem ex_star : parseS [97, 124, 98, 42] 60 = some (.ok exStar) := by kernel_rfl
theorem ex_bar : parseS [97, 124, 124, 98] 60 = some (.error (2, 20)) := by kernel_rfl
theorem ex_open : parseS [40, 97] 60 = some (.error (2, 21)) := by kernel_rfl
theorem ex_bounds : parseS [97, 123, 51, 44, 50, 125] 60 = some (.error (4, 20)) := by kernel_rfl
theorem ex_big : parseS [97, 123, 49, 55, 44, 125] 60 = some (.error (2, 2)) := by kernel_rfl
theorem ex_ranges : parseS [91, 94, 92, 120, 48, 48, 45, 92, 120, 54, 48, 92, 120, 54, 50, 45, 92, 120, 102, 102, 93] 60 = some (.ok [nCls 97]) := by kernel_rfl
theorem tr_group : tr exGroup 5 = .cat (.cls (bit 97)) (.rep (.alt (.cls (bit 98)) (.cls (bit 99))) 0 none) := by kernel_rfl
theorem tr_both : tr exBoth 5 = .and (.not (.rep (.cls (bit 97)) 0 none)) (.rep (.cls (BitVec.allOnes 256)) 2 (some 2)) := by kernel_rfl
theorem sp_rep {b : List Int} {t : Rx} {lo : Nat} {hi : Option Nat} {i j : Nat} (k : Nat) (h0 : i ≤ b.length) (h1 : lo ≤ k) (h2 : ∀ h, hi = some h → k ≤ h) (hp : pow (sp b t) k i j) : sp b (.rep t lo hi) i j := ⟨h0, k, h1, h2, hp⟩
theorem match_abcb : matchB exGroup [97, 98, 99, 98] = true := by
  refine matchB_true.2 ⟨by kernel_rfl, ?_⟩
  rw [show exGroup.length - 1 = 5 from rfl, tr_group]
  refine ⟨1, ⟨rfl, 97, rfl, by kernel_rfl⟩, sp_rep 3 (by decide) (by omega) (fun h e => by cases e) ⟨2, .inl ⟨rfl, 98, rfl, by kernel_rfl⟩, 3, .inr ⟨rfl, 99, rfl, by kernel_rfl⟩, 4, .inl ⟨rfl, 98, rfl, by kernel_rfl⟩, rfl⟩⟩
theorem match_ba : matchB exGroup [98, 97] = false := by
  refine matchB_false ?_
  rw [show exGroup.length - 1 = 5 from rfl, tr_group]
  rintro ⟨m, ⟨_, y, hy, hm⟩, _⟩
  obtain rfl : 98 = y := by simpa using hy
  exact absurd hm (by decide +kernel)
theorem match_ab : matchB exBoth [97, 98] = true := by
  refine matchB_true.2 ⟨by kernel_rfl, ?_⟩
  rw [show exBoth.length - 1 = 5 from rfl, tr_both]
  refine ⟨⟨by decide, by decide, ?_⟩, by decide, 2, by omega, fun h e => by cases e; omega, 1, ⟨rfl, 97, rfl, by kernel_rfl⟩, 2, ⟨rfl, 98, rfl, by kernel_rfl⟩, rfl⟩
  rintro ⟨_, k, _, _, hp⟩
  rcases k with _ | _ | k
  · cases hp
  · obtain ⟨m, ⟨rfl, _⟩, h⟩ := hp
    cases h
  · obtain ⟨m, ⟨rfl, _⟩, m', ⟨_, y, hy, hm⟩, _⟩ := hp
    obtain rfl : 98 = y := by simpa using hy
    exact absurd hm (by decide +kernel)
theorem match_aa : matchB exBoth [97, 97] = false := by
  refine matchB_false ?_
  rw [show exBoth.length - 1 = 5 from rfl, tr_both]
  rintro ⟨⟨_, _, h⟩, _⟩
  exact h (sp_rep 2 (by decide) (by omega) (fun h e => by cases e) ⟨1, ⟨rfl, 97, rfl, by kernel_rfl⟩, 2, ⟨rfl, 97, rfl, by kernel_rfl⟩, rfl⟩)
end Go.Proofs.YtgbkjgfiofncdaaGreatDoor

/-
  Plain: good nodes, made expressions and what they match; spoiled expressions; piles of expressions. No walk here.
-/
namespace Go.Proofs.YtgbkjgfiofncdaaGreatDoor
/-- good nodes: each fits, each but the last one is an operand once. -/
structure Wf (xs : List Nd) : Prop where
  pos : 0 < xs.length
  chk : ∀ (i : Nat) n, xs[i]? = some n → chkN n (i : Int) = 0
  use : ∀ i : Nat, i + 1 < xs.length → (xs.flatMap opsN).count (i : Int) = 1
theorem firstE_zero : ∀ (l : List Nd) (i : Nat), (∀ (k : Nat) n, l[k]? = some n → chkN n ((i + k : Nat) : Int) = 0) → firstE i l = 0
  | [], _, _ => rfl
  | m :: l, i, h => by
    have h0 : chkN m (i : Int) = 0 := h 0 m rfl
    rw [firstE, if_pos h0]
    refine firstE_zero l (i + 1) fun k n hk => ?_
    have := h (k + 1) n (by simpa using hk)
    rwa [show i + 1 + k = i + (k + 1) by omega]
theorem Wf.tree {xs : List Nd} (h : Wf xs) : treeB xs = true := by
  unfold treeB
  rw [List.all_eq_true]
  intro i hi
  rw [List.mem_range] at hi
  exact decide_eq_true (h.use i (by omega))
theorem Wf.valid {xs : List Nd} (h : Wf xs) (h2 : xs.length ≤ 200) : validE xs = 0 := by
  have := h.pos
  unfold validE
  rw [if_neg (by omega), if_neg (by omega), firstE_zero xs 0 (fun k n hk => by simpa using h.chk k n hk), h.tree]
  rfl
theorem chk_parts {n : Nd} {i : Int} (h : chkN n i = 0) : knownB n.k = true ∧ n = usedN n ∧ boundsErr n = 0 := by
  unfold chkN at h
  split at h
  · cases h
  · rename_i hno
    refine ⟨?_, ?_, ?_⟩
    · cases hb : knownB n.k
      · exact absurd (.inl hb) hno
      · rfl
    · exact Classical.byContradiction fun hne => hno (.inr hne)
    · unfold chkR at h
      split at h
      · cases h
      · exact h
theorem chk_make {n : Nd} {i : Int} (hk : knownB n.k = true) (hu : n = usedN n) (ho : ∀ j ∈ opsN n, 0 ≤ j ∧ j < i) (hb : boundsErr n = 0) : chkN n i = 0 := by
  unfold chkN
  rw [if_neg (by rintro (h | h); · rw [hk] at h; cases h
                 · exact h hu)]
  have : (opsN n).any (badOp i) = false := by
    rw [Bool.eq_false_iff]
    intro h
    obtain ⟨j, hj, hbad⟩ := List.any_eq_true.1 h
    have := ho j hj
    unfold badOp at hbad
    simp at hbad
    omega
  rw [this]
  exact hb
/-- a node whose operands stand d places further on. -/
def shN (d : Int) (n : Nd) : Nd :=
  if n.k = 4 ∨ n.k = 5 ∨ n.k = 6 then ⟨n.k, n.c, n.l + d, n.r + d, n.mn, n.mx⟩ else if n.k = 7 ∨ n.k = 8 then ⟨n.k, n.c, n.l + d, n.r, n.mn, n.mx⟩ else n
theorem shN_two {d : Int} {n : Nd} (h : n.k = 4 ∨ n.k = 5 ∨ n.k = 6) : shN d n = ⟨n.k, n.c, n.l + d, n.r + d, n.mn, n.mx⟩ := by unfold shN; rw [if_pos h]
theorem shN_one {d : Int} {n : Nd} (h : n.k = 7 ∨ n.k = 8) : shN d n = ⟨n.k, n.c, n.l + d, n.r, n.mn, n.mx⟩ := by unfold shN; rw [if_neg (by omega), if_pos h]
theorem shN_none {d : Int} {n : Nd} (h : ¬ (n.k = 4 ∨ n.k = 5 ∨ n.k = 6)) (h2 : ¬ (n.k = 7 ∨ n.k = 8)) : shN d n = n := by unfold shN; rw [if_neg h, if_neg h2]
theorem shN_k (d : Int) (n : Nd) : (shN d n).k = n.k := by unfold shN; split <;> (try split) <;> rfl
theorem shN_c (d : Int) (n : Nd) : (shN d n).c = n.c := by unfold shN; split <;> (try split) <;> rfl
theorem shN_mn (d : Int) (n : Nd) : (shN d n).mn = n.mn := by unfold shN; split <;> (try split) <;> rfl
theorem shN_mx (d : Int) (n : Nd) : (shN d n).mx = n.mx := by unfold shN; split <;> (try split) <;> rfl
theorem opsN_sh (d : Int) (n : Nd) : opsN (shN d n) = (opsN n).map (· + d) := by
  by_cases h : n.k = 4 ∨ n.k = 5 ∨ n.k = 6
  · rw [shN_two h, opsN_two (n := ⟨n.k, n.c, n.l + d, n.r + d, n.mn, n.mx⟩) h, opsN_two h]; rfl
  · by_cases h2 : n.k = 7 ∨ n.k = 8
    · rw [shN_one h2, opsN_one (n := ⟨n.k, n.c, n.l + d, n.r, n.mn, n.mx⟩) h2, opsN_one h2]; rfl
    · rw [shN_none h h2]
      have : opsN n = [] := by unfold opsN; rw [if_neg h, if_neg h2]
      rw [this]; rfl
theorem used_sh {d : Int} {n : Nd} (h : n = usedN n) : shN d n = usedN (shN d n) := by
  obtain ⟨k, c, l, r, mn, mx⟩ := n
  by_cases h4 : k = 4 ∨ k = 5 ∨ k = 6
  · rw [shN_two h4]
    have hk : k ≠ 3 := by omega
    simp only [usedN, hk, h4, if_true, if_false, Nd.mk.injEq, true_and] at h ⊢
    exact h
  · by_cases h7 : k = 7 ∨ k = 8
    · rw [shN_one h7]
      rcases h7 with rfl | rfl
      · simp [usedN] at h ⊢
        exact h
      · simp [usedN] at h ⊢
        exact h
    · rw [shN_none h4 h7]; exact h
theorem chk_sh {n : Nd} {i : Int} {d : Nat} (h : chkN n i = 0) : chkN (shN d n) (i + d) = 0 := by
  obtain ⟨h1, h2, h3⟩ := chk_parts h
  refine chk_make (by rw [shN_k]; exact h1) (used_sh h2) (fun j hj => ?_) (by unfold boundsErr at h3 ⊢; rw [shN_mn, shN_mx]; exact h3)
  rw [opsN_sh] at hj
  obtain ⟨j0, hj0, rfl⟩ := List.mem_map.1 hj
  have := chk_zero h j0 hj0
  omega
/-- a node kept before further ones keeps its check. -/
theorem flat_sh (d : Int) (ys : List Nd) : (ys.map (shN d)).flatMap opsN = (ys.flatMap opsN).map (· + d) := by
  induction ys with
  | nil => rfl
  | cons y ys ih => rw [List.map_cons, List.flatMap_cons, ih, List.flatMap_cons, List.map_append, opsN_sh]
theorem Wf.ops_lt {xs : List Nd} (h : Wf xs) : ∀ j ∈ xs.flatMap opsN, 0 ≤ j ∧ j + 1 < (xs.length : Int) := by
  intro j hj
  obtain ⟨n, hn, hj⟩ := List.mem_flatMap.1 hj
  obtain ⟨i, hi⟩ := List.mem_iff_getElem?.1 hn
  have h1 := chk_zero (h.chk i n hi) j hj
  have h2 := (List.getElem?_eq_some_iff.1 hi).1
  omega
theorem Wf.count_no {xs : List Nd} (h : Wf xs) (j : Int) (hj : j < 0 ∨ (xs.length : Int) ≤ j + 1) : (xs.flatMap opsN).count j = 0 := by
  rw [List.count_eq_zero]
  intro hm
  have := h.ops_lt j hm
  omega
theorem count_sh (l : List Int) (d j : Int) : (l.map (· + d)).count j = l.count (j - d) := by
  induction l with
  | nil => rfl
  | cons a l ih =>
    rw [List.map_cons, List.count_cons, List.count_cons, ih]
    congr 1
    by_cases h : a = j - d
    · subst h; simp
    · have : ¬ (a + d = j) := by omega
      simp [h, this]
/-- a root over one expression. -/
def un (n : Nd) (xs : List Nd) : List Nd := xs ++ [⟨n.k, n.c, (xs.length : Int) - 1, n.r, n.mn, n.mx⟩]
theorem un_len (n : Nd) (xs : List Nd) : (un n xs).length = xs.length + 1 := by simp [un]
theorem Wf.un {xs : List Nd} (h : Wf xs) {n : Nd} (hk : n.k = 7 ∨ n.k = 8) (hc : n.c = 0) (hr : n.r = 0) (hb : n.k = 7 → n.mn = 0 ∧ n.mx = 0) (he : n.k = 8 → boundsErr n = 0) : Wf (un n xs) := by
  have hp := h.pos
  obtain ⟨k, c, l, r, mn, mx⟩ := n
  dsimp only at hk hc hr hb he
  subst hc hr
  refine ⟨by rw [un_len]; omega, fun i m hi => ?_, fun i hi => ?_⟩
  · unfold Go.Proofs.YtgbkjgfiofncdaaGreatDoor.un at hi
    rcases Nat.lt_or_ge i xs.length with hlt | hge
    · rw [List.getElem?_append_left hlt] at hi
      exact h.chk i m hi
    · rw [List.getElem?_append_right hge] at hi
      have hi0 := (List.getElem?_eq_some_iff.1 hi).1
      simp only [List.length_singleton] at hi0
      rw [show i - xs.length = 0 by omega] at hi
      simp only [List.getElem?_cons_zero, Option.some.injEq] at hi
      subst hi
      refine chk_make ?_ ?_ ?_ ?_
      · rcases hk with rfl | rfl <;> rfl
      · rcases hk with rfl | rfl
        · have := hb rfl
          simp [usedN, this.1, this.2]
        · simp [usedN]
      · intro j hj
        rw [opsN_one hk] at hj
        simp only [List.mem_singleton] at hj
        subst hj
        omega
      · rcases hk with rfl | rfl
        · have := hb rfl
          simp [boundsErr, this.1, this.2]
        · have := he rfl
          unfold boundsErr at this ⊢
          exact this
  · rw [un_len] at hi
    unfold Go.Proofs.YtgbkjgfiofncdaaGreatDoor.un
    rw [List.flatMap_append, List.count_append, List.flatMap_cons, List.flatMap_nil, List.append_nil, opsN_one hk]
    by_cases hl : i + 1 < xs.length
    · rw [h.use i hl]
      have : ¬ ((xs.length : Int) - 1 = (i : Int)) := by omega
      simp [List.count_cons, this]
    · rw [h.count_no i (by omega)]
      have : (xs.length : Int) - 1 = (i : Int) := by omega
      simp [this]
/-- a root over two expressions. -/
def bin (k : Int) (xs ys : List Nd) : List Nd := xs ++ ys.map (shN xs.length) ++ [⟨k, 0, (xs.length : Int) - 1, (xs.length : Int) + ys.length - 1, 0, 0⟩]
theorem bin_len (k : Int) (xs ys : List Nd) : (bin k xs ys).length = xs.length + ys.length + 1 := by simp [bin]; omega
theorem bin_left {k : Int} {xs ys : List Nd} {i : Nat} (h : i < xs.length) : (bin k xs ys)[i]? = xs[i]? := by
  unfold bin
  rw [List.append_assoc, List.getElem?_append_left h]
theorem bin_right {k : Int} {xs ys : List Nd} {i : Nat} (h : i < ys.length) : (bin k xs ys)[i + xs.length]? = (ys[i]?).map (shN xs.length) := by
  unfold bin
  rw [List.append_assoc, List.getElem?_append_right (by omega), List.getElem?_append_left (by simp; omega), show i + xs.length - xs.length = i by omega, List.getElem?_map]
theorem bin_root {k : Int} {xs ys : List Nd} : (bin k xs ys)[xs.length + ys.length]? = some ⟨k, 0, (xs.length : Int) - 1, (xs.length : Int) + ys.length - 1, 0, 0⟩ := by
  unfold bin
  rw [List.getElem?_append_right (by simp)]
  simp
theorem Wf.bin {xs ys : List Nd} (h : Wf xs) (h' : Wf ys) {k : Int} (hk : k = 4 ∨ k = 5 ∨ k = 6) : Wf (bin k xs ys) := by
  have hp := h.pos
  have hp' := h'.pos
  refine ⟨by rw [bin_len]; omega, fun i m hi => ?_, fun i hi => ?_⟩
  · have hil := (List.getElem?_eq_some_iff.1 hi).1
    rw [bin_len] at hil
    rcases Nat.lt_or_ge i xs.length with hlt | hge
    · rw [bin_left hlt] at hi
      exact h.chk i m hi
    · rcases Nat.lt_or_ge i (xs.length + ys.length) with hlt2 | hge2
      · obtain ⟨j, rfl⟩ : ∃ j, i = j + xs.length := ⟨i - xs.length, by omega⟩
        rw [bin_right (by omega)] at hi
        obtain ⟨n, hn, rfl⟩ := Option.map_eq_some_iff.1 hi
        have := chk_sh (d := xs.length) (h'.chk j n hn)
        rwa [show ((j + xs.length : Nat) : Int) = (j : Int) + (xs.length : Int) by omega]
      · obtain rfl : i = xs.length + ys.length := by omega
        rw [bin_root] at hi
        simp only [Option.some.injEq] at hi
        subst hi
        refine chk_make ?_ ?_ ?_ ?_
        · rcases hk with rfl | rfl | rfl <;> rfl
        · have hk3 : k ≠ 3 := by omega
          simp [usedN, hk3, hk]
        · intro j hj
          rw [opsN_two hk] at hj
          simp only [List.mem_cons, List.not_mem_nil, or_false] at hj
          rcases hj with rfl | rfl <;> omega
        · rfl
  · rw [bin_len] at hi
    unfold Go.Proofs.YtgbkjgfiofncdaaGreatDoor.bin
    rw [List.flatMap_append, List.flatMap_append, List.count_append, List.count_append, flat_sh, count_sh, List.flatMap_cons, List.flatMap_nil, List.append_nil, opsN_two hk]
    by_cases hl : i + 1 < xs.length
    · rw [h.use i hl, h'.count_no _ (by omega)]
      have t1 : ¬ ((xs.length : Int) - 1 = (i : Int)) := by omega
      have t2 : ¬ ((xs.length : Int) + ys.length - 1 = (i : Int)) := by omega
      simp [List.count_cons, t1, t2]
    · rw [h.count_no i (by omega)]
      by_cases hl2 : i + 1 = xs.length
      · rw [h'.count_no _ (by omega)]
        have t1 : ((xs.length : Int) - 1 = (i : Int)) := by omega
        have t2 : ¬ ((xs.length : Int) + ys.length - 1 = (i : Int)) := by omega
        simp [List.count_cons, t1, t2]
      · have t1 : ¬ ((xs.length : Int) - 1 = (i : Int)) := by omega
        by_cases hl3 : i + 1 = xs.length + ys.length
        · rw [h'.count_no _ (by omega)]
          have t2 : ((xs.length : Int) + ys.length - 1 = (i : Int)) := by omega
          simp [List.count_cons, t1, t2]
        · have t2 : ¬ ((xs.length : Int) + ys.length - 1 = (i : Int)) := by omega
          have := h'.use (i - xs.length) (by omega)
          rw [show (((i - xs.length : Nat) : Int)) = (i : Int) - (xs.length : Int) by omega] at this
          rw [this]
          simp [List.count_cons, t1, t2]

/-! ## Trees of made expressions -/
theorem rx_left {xs zs : List Nd} (h : ∀ (i : Nat) n, xs[i]? = some n → ∀ j ∈ opsN n, 0 ≤ j ∧ j < (i : Int)) : ∀ (f i : Nat), i < xs.length → rx (xs ++ zs) f i = rx xs f i
  | 0, _, _ => rfl
  | f + 1, i, hi => by
    obtain ⟨n, hn⟩ : ∃ n, xs[i]? = some n := ⟨_, List.getElem?_eq_getElem hi⟩
    have two : (n.k = 4 ∨ n.k = 5 ∨ n.k = 6) → rx (xs ++ zs) f n.l.toNat = rx xs f n.l.toNat ∧ rx (xs ++ zs) f n.r.toNat = rx xs f n.r.toNat := fun hk => by
      have h1 := h i n hn n.l (by rw [opsN_two hk]; simp)
      have h2 := h i n hn n.r (by rw [opsN_two hk]; simp)
      exact ⟨rx_left h f _ (by omega), rx_left h f _ (by omega)⟩
    have one : (n.k = 7 ∨ n.k = 8) → rx (xs ++ zs) f n.l.toNat = rx xs f n.l.toNat := fun hk => by
      have h1 := h i n hn n.l (by rw [opsN_one hk]; simp)
      exact rx_left h f _ (by omega)
    unfold rx
    rw [List.getElem?_append_left hi, hn]
    dsimp only
    by_cases h4 : n.k = 4
    · simp only [h4]; rw [(two (.inl h4)).1, (two (.inl h4)).2]
    by_cases h5 : n.k = 5
    · simp only [h5]; rw [(two (.inr (.inl h5))).1, (two (.inr (.inl h5))).2]
    by_cases h6 : n.k = 6
    · simp only [h6]; rw [(two (.inr (.inr h6))).1, (two (.inr (.inr h6))).2]
    by_cases h7 : n.k = 7
    · simp only [h7]; rw [one (.inl h7)]; simp
    by_cases h8 : n.k = 8
    · simp only [h8]; rw [one (.inr h8)]; simp
    simp only [h4, h5, h6, h7, h8, if_false]
theorem rx_right {xs ys : List Nd} {k : Int} (h : ∀ (i : Nat) n, ys[i]? = some n → ∀ j ∈ opsN n, 0 ≤ j ∧ j < (i : Int)) : ∀ (f i : Nat), i < ys.length → rx (bin k xs ys) f (i + xs.length) = rx ys f i
  | 0, _, _ => rfl
  | f + 1, i, hi => by
    obtain ⟨n, hn⟩ : ∃ n, ys[i]? = some n := ⟨_, List.getElem?_eq_getElem hi⟩
    have two : (n.k = 4 ∨ n.k = 5 ∨ n.k = 6) → rx (bin k xs ys) f (n.l + xs.length).toNat = rx ys f n.l.toNat ∧ rx (bin k xs ys) f (n.r + xs.length).toNat = rx ys f n.r.toNat := fun hk => by
      have h1 := h i n hn n.l (by rw [opsN_two hk]; simp)
      have h2 := h i n hn n.r (by rw [opsN_two hk]; simp)
      rw [show (n.l + xs.length).toNat = n.l.toNat + xs.length by omega, show (n.r + xs.length).toNat = n.r.toNat + xs.length by omega]
      exact ⟨rx_right h f _ (by omega), rx_right h f _ (by omega)⟩
    have one : (n.k = 7 ∨ n.k = 8) → rx (bin k xs ys) f (n.l + xs.length).toNat = rx ys f n.l.toNat := fun hk => by
      have h1 := h i n hn n.l (by rw [opsN_one hk]; simp)
      rw [show (n.l + xs.length).toNat = n.l.toNat + xs.length by omega]
      exact rx_right h f _ (by omega)
    unfold rx
    rw [bin_right hi, hn]
    dsimp only [Option.map_some]
    rw [shN_k, shN_c, shN_mn, shN_mx]
    by_cases h4 : n.k = 4
    · have hk : n.k = 4 ∨ n.k = 5 ∨ n.k = 6 := .inl h4
      rw [shN_two hk]; simp only [h4]; rw [(two hk).1, (two hk).2]
    by_cases h5 : n.k = 5
    · have hk : n.k = 4 ∨ n.k = 5 ∨ n.k = 6 := .inr (.inl h5)
      rw [shN_two hk]; simp only [h5]; rw [(two hk).1, (two hk).2]
    by_cases h6 : n.k = 6
    · have hk : n.k = 4 ∨ n.k = 5 ∨ n.k = 6 := .inr (.inr h6)
      rw [shN_two hk]; simp only [h6]; rw [(two hk).1, (two hk).2]
    by_cases h7 : n.k = 7
    · rw [shN_one (.inl h7)]; simp only [h7]; rw [one (.inl h7)]; simp
    by_cases h8 : n.k = 8
    · rw [shN_one (.inr h8)]; simp only [h8]; rw [one (.inr h8)]; simp
    simp only [h4, h5, h6, h7, h8, if_false]
theorem Wf.ops {xs : List Nd} (h : Wf xs) : ∀ (i : Nat) n, xs[i]? = some n → ∀ j ∈ opsN n, 0 ≤ j ∧ j < (i : Int) := fun i n hi => chk_zero (h.chk i n hi)
/-- the tree of an expression. -/
def tree (xs : List Nd) : Rx := tr xs (xs.length - 1)
theorem tr_append {xs zs : List Nd} (h : Wf xs) {i : Nat} (hi : i < xs.length) : tr (xs ++ zs) i = tr xs i := rx_left h.ops _ _ hi
theorem tr_bin_l {xs ys : List Nd} (h : Wf xs) {k : Int} : tr (bin k xs ys) (xs.length - 1) = tree xs := by
  unfold tree bin
  rw [List.append_assoc]
  exact tr_append h (by have := h.pos; omega)
theorem tr_bin_r {xs ys : List Nd} (h' : Wf ys) {k : Int} (hy : ys.length ≤ 200) : tr (bin k xs ys) (xs.length + ys.length - 1) = tree ys := by
  have hp := h'.pos
  unfold tree
  rw [show xs.length + ys.length - 1 = (ys.length - 1) + xs.length by omega]
  unfold tr
  rw [rx_right h'.ops _ _ (by omega), rx_fuel (okX_of (h'.valid hy)) _ (ys.length - 1 + 1) _ (by omega) (by omega)]
theorem tree_bin {xs ys : List Nd} (h : Wf xs) (h' : Wf ys) {k : Int} (hk : k = 4 ∨ k = 5 ∨ k = 6) (hl : xs.length + ys.length + 1 ≤ 200) :
    tree (bin k xs ys) = if k = 4 then .cat (tree xs) (tree ys) else if k = 5 then .alt (tree xs) (tree ys) else .and (tree xs) (tree ys) := by
  have hp := h.pos
  have hp' := h'.pos
  have hX := okX_of ((h.bin h' hk).valid (by rw [bin_len]; exact hl))
  have hr := bin_root (k := k) (xs := xs) (ys := ys)
  have e1 : ((xs.length : Int) - 1).toNat = xs.length - 1 := by omega
  have e2 : ((xs.length : Int) + ys.length - 1).toNat = xs.length + ys.length - 1 := by omega
  rw [show tree (bin k xs ys) = tr (bin k xs ys) (xs.length + ys.length) by unfold tree; rw [bin_len]; rfl]
  rcases hk with rfl | rfl | rfl
  · rw [tr_cat hX hr rfl, if_pos rfl]
    dsimp only
    rw [e1, e2, tr_bin_l h, tr_bin_r h' (by omega)]
  · rw [tr_alt hX hr rfl, if_neg (by decide), if_pos rfl]
    dsimp only
    rw [e1, e2, tr_bin_l h, tr_bin_r h' (by omega)]
  · rw [tr_and hX hr rfl, if_neg (by decide), if_neg (by decide)]
    dsimp only
    rw [e1, e2, tr_bin_l h, tr_bin_r h' (by omega)]
theorem un_root (n : Nd) (xs : List Nd) : (un n xs)[xs.length]? = some ⟨n.k, n.c, (xs.length : Int) - 1, n.r, n.mn, n.mx⟩ := by
  unfold un
  rw [List.getElem?_append_right (by omega)]
  simp
theorem tree_un {xs : List Nd} {n : Nd} (h : Wf xs) (hu : Wf (un n xs)) (hk : n.k = 7 ∨ n.k = 8) (hl : xs.length + 1 ≤ 200) :
    tree (un n xs) = if n.k = 7 then .not (tree xs) else .rep (tree xs) n.mn.toNat (if n.mx = -1 then none else some n.mx.toNat) := by
  have hp := h.pos
  have hX := okX_of (hu.valid (by rw [un_len]; exact hl))
  have hr := un_root n xs
  have e1 : ((xs.length : Int) - 1).toNat = xs.length - 1 := by omega
  have e2 : tr (un n xs) (xs.length - 1) = tree xs := by unfold un tree; exact tr_append h (by omega)
  rw [show tree (un n xs) = tr (un n xs) xs.length by unfold tree; rw [un_len]; rfl]
  rcases hk with hk | hk
  · rw [tr_not hX hr hk, if_pos hk]
    dsimp only
    rw [e1, e2]
  · rw [tr_rep hX hr hk, if_neg (show ¬ n.k = 7 by omega)]
    dsimp only
    rw [e1, e2]

/-! ## What made expressions match -/
theorem match_wf {xs : List Nd} (h : Wf xs) (hl : xs.length ≤ 200) {b : List Int} : matchB xs b = true ↔ sp b (tree xs) 0 b.length := by
  rw [matchB_true]
  exact ⟨fun h => h.2, fun h2 => ⟨h.valid hl, h2⟩⟩
theorem match_alt {xs ys : List Nd} (h : Wf xs) (h' : Wf ys) (hl : xs.length + ys.length + 1 ≤ 200) (b : List Int) : matchB (bin 5 xs ys) b = (matchB xs b || matchB ys b) := by
  rw [Bool.eq_iff_iff, Bool.or_eq_true, match_wf (h.bin h' (by simp)) (by rw [bin_len]; exact hl), match_wf h (by omega), match_wf h' (by omega), tree_bin h h' (by simp) hl]
  exact Iff.rfl
theorem match_and {xs ys : List Nd} (h : Wf xs) (h' : Wf ys) (hl : xs.length + ys.length + 1 ≤ 200) (b : List Int) : matchB (bin 6 xs ys) b = (matchB xs b && matchB ys b) := by
  rw [Bool.eq_iff_iff, Bool.and_eq_true, match_wf (h.bin h' (by simp)) (by rw [bin_len]; exact hl), match_wf h (by omega), match_wf h' (by omega), tree_bin h h' (by simp) hl]
  exact Iff.rfl
def notN : Nd := ⟨7, 0, 0, 0, 0, 0⟩
theorem wf_not {xs : List Nd} (h : Wf xs) : Wf (un notN xs) := h.un (.inl rfl) rfl rfl (fun _ => ⟨rfl, rfl⟩) (fun h => by cases h)
theorem match_not {xs : List Nd} (h : Wf xs) (hl : xs.length + 1 ≤ 200) (b : List Int) : matchB (un notN xs) b = !matchB xs b := by
  rw [Bool.eq_iff_iff, Bool.not_eq_true', ← Bool.not_eq_true, match_wf (wf_not h) (by rw [un_len]; exact hl), match_wf h (by omega), tree_un h (wf_not h) (.inl rfl) hl]
  exact ⟨fun h => h.2.2, fun h => ⟨Nat.zero_le _, Nat.le_refl _, h⟩⟩
theorem sp_take {b : List Int} (t : Rx) (k : Nat) (hk : k ≤ b.length) : ∀ (i j : Nat), j ≤ k → (sp (b.take k) t i j ↔ sp b t i j) := by
  have hlen : (b.take k).length = k := by rw [List.length_take]; omega
  induction t with
  | none => intro i j _; exact Iff.rfl
  | empty =>
    intro i j hj
    simp only [sp, hlen]
    constructor <;> rintro ⟨rfl, _⟩ <;> exact ⟨rfl, by omega⟩
  | cls c =>
    intro i j hj
    simp only [sp]
    constructor
    · rintro ⟨rfl, y, hy, hm⟩
      refine ⟨rfl, y, ?_, hm⟩
      rwa [List.getElem?_take_of_lt (by omega)] at hy
    · rintro ⟨rfl, y, hy, hm⟩
      refine ⟨rfl, y, ?_, hm⟩
      rwa [List.getElem?_take_of_lt (by omega)]
  | cat l r ihl ihr =>
    intro i j hj
    simp only [sp]
    constructor
    · rintro ⟨m, h1, h2⟩
      have := (sp_le _ r m j h2).1
      exact ⟨m, (ihl i m (by omega)).1 h1, (ihr m j hj).1 h2⟩
    · rintro ⟨m, h1, h2⟩
      have := (sp_le _ r m j h2).1
      exact ⟨m, (ihl i m (by omega)).2 h1, (ihr m j hj).2 h2⟩
  | alt l r ihl ihr => intro i j hj; simp only [sp, ihl i j hj, ihr i j hj]
  | and l r ihl ihr => intro i j hj; simp only [sp, ihl i j hj, ihr i j hj]
  | not l ih =>
    intro i j hj
    simp only [sp, ih i j hj, hlen]
    constructor
    · rintro ⟨h1, _, h2⟩; exact ⟨h1, by omega, h2⟩
    · rintro ⟨h1, _, h2⟩; exact ⟨h1, by omega, h2⟩
  | rep l lo hi ih =>
    intro i j hj
    have hpow : ∀ (n i : Nat), i ≤ k → (pow (sp (b.take k) l) n i j ↔ pow (sp b l) n i j) := by
      intro n
      induction n with
      | zero => intro i _; exact Iff.rfl
      | succ n ihn =>
        intro i hi
        simp only [pow]
        constructor
        · rintro ⟨m, h1, h2⟩
          have h3 := (sp_le _ l i m h1).2
          rw [hlen] at h3
          exact ⟨m, (ih i m h3).1 h1, (ihn m h3).1 h2⟩
        · rintro ⟨m, h1, h2⟩
          have h3 := (sp_le _ l i m h1)
          have h4 := (pow_le (sp_le b l) h3.2 h2).1
          exact ⟨m, (ih i m (by omega)).2 h1, (ihn m (by omega)).2 h2⟩
    simp only [sp, hlen]
    constructor
    · rintro ⟨h0, n, h1, h2, h3⟩
      exact ⟨by omega, n, h1, h2, (hpow n i h0).1 h3⟩
    · rintro ⟨h0, n, h1, h2, h3⟩
      have := (pow_le (sp_le b l) h0 h3).1
      exact ⟨by omega, n, h1, h2, (hpow n i (by omega)).2 h3⟩
theorem sp_drop {b : List Int} (t : Rx) (k : Nat) (hk : k ≤ b.length) : ∀ (i j : Nat), sp (b.drop k) t i j ↔ sp b t (i + k) (j + k) := by
  have hlen : (b.drop k).length = b.length - k := List.length_drop
  induction t with
  | none => intro i j; exact Iff.rfl
  | empty =>
    intro i j
    simp only [sp, hlen]
    omega
  | cls c =>
    intro i j
    simp only [sp, List.getElem?_drop]
    constructor
    · rintro ⟨rfl, y, hy, hm⟩
      exact ⟨by omega, y, by rw [Nat.add_comm i k]; exact hy, hm⟩
    · rintro ⟨h, y, hy, hm⟩
      exact ⟨by omega, y, by rw [Nat.add_comm k i]; exact hy, hm⟩
  | cat l r ihl ihr =>
    intro i j
    simp only [sp]
    constructor
    · rintro ⟨m, h1, h2⟩
      exact ⟨m + k, (ihl i m).1 h1, (ihr m j).1 h2⟩
    · rintro ⟨m, h1, h2⟩
      have := (sp_le _ l _ _ h1).1
      obtain ⟨m, rfl⟩ : ∃ u, m = u + k := ⟨m - k, by omega⟩
      exact ⟨m, (ihl i m).2 h1, (ihr m j).2 h2⟩
  | alt l r ihl ihr => intro i j; simp only [sp, ihl i j, ihr i j]
  | and l r ihl ihr => intro i j; simp only [sp, ihl i j, ihr i j]
  | not l ih =>
    intro i j
    simp only [sp, ih i j, hlen]
    constructor
    · rintro ⟨h1, h3, h2⟩; exact ⟨by omega, by omega, h2⟩
    · rintro ⟨h1, h3, h2⟩; exact ⟨by omega, by omega, h2⟩
  | rep l lo hi ih =>
    intro i j
    have hpow : ∀ (n i : Nat), (pow (sp (b.drop k) l) n i j ↔ pow (sp b l) n (i + k) (j + k)) := by
      intro n
      induction n with
      | zero => intro i; simp only [pow]; omega
      | succ n ihn =>
        intro i
        simp only [pow]
        constructor
        · rintro ⟨m, h1, h2⟩
          exact ⟨m + k, (ih i m).1 h1, (ihn m).1 h2⟩
        · rintro ⟨m, h1, h2⟩
          have := (sp_le _ l _ _ h1).1
          obtain ⟨m, rfl⟩ : ∃ u, m = u + k := ⟨m - k, by omega⟩
          exact ⟨m, (ih i m).2 h1, (ihn m).2 h2⟩
    simp only [sp, hlen, hpow]
    constructor
    · rintro ⟨h0, h⟩; exact ⟨by omega, h⟩
    · rintro ⟨h0, h⟩; exact ⟨by omega, h⟩
/-- is there a split below k? -/
noncomputable def splitB (xs ys : List Nd) (b : List Int) : Nat → Bool
  | 0 => false
  | k + 1 => splitB xs ys b k || (matchB xs (b.take k) && matchB ys (b.drop k))
theorem splitB_iff {xs ys : List Nd} {b : List Int} : ∀ k, splitB xs ys b k = true ↔ ∃ i, i < k ∧ matchB xs (b.take i) = true ∧ matchB ys (b.drop i) = true
  | 0 => by simp [splitB]
  | k + 1 => by
    rw [splitB, Bool.or_eq_true, splitB_iff k, Bool.and_eq_true]
    constructor
    · rintro (⟨i, h, h1⟩ | h)
      · exact ⟨i, by omega, h1⟩
      · exact ⟨k, by omega, h⟩
    · rintro ⟨i, h, h1⟩
      by_cases e : i = k
      · subst e; exact .inr h1
      · exact .inl ⟨i, by omega, h1⟩
theorem match_cat {xs ys : List Nd} (h : Wf xs) (h' : Wf ys) (hl : xs.length + ys.length + 1 ≤ 200) (b : List Int) : matchB (bin 4 xs ys) b = splitB xs ys b (b.length + 1) := by
  rw [Bool.eq_iff_iff, splitB_iff, match_wf (h.bin h' (by simp)) (by rw [bin_len]; exact hl), tree_bin h h' (by simp) hl, if_pos rfl]
  constructor
  · rintro ⟨m, h1, h2⟩
    have := sp_le _ _ _ _ h2
    refine ⟨m, by omega, ?_, ?_⟩
    · rw [match_wf h (by omega), List.length_take, Nat.min_eq_left (by omega)]
      exact (sp_take _ m (by omega) 0 m (Nat.le_refl _)).2 h1
    · rw [match_wf h' (by omega), List.length_drop]
      refine (sp_drop _ m (by omega) 0 _).2 ?_
      rw [Nat.zero_add, show b.length - m + m = b.length by omega]
      exact h2
  · rintro ⟨m, hm, h1, h2⟩
    rw [match_wf h (by omega), List.length_take, Nat.min_eq_left (by omega)] at h1
    rw [match_wf h' (by omega), List.length_drop] at h2
    have h2 := (sp_drop _ m (by omega) 0 _).1 h2
    rw [Nat.zero_add, show b.length - m + m = b.length by omega] at h2
    exact ⟨m, (sp_take _ m (by omega) 0 m (Nat.le_refl _)).1 h1, h2⟩
/-- a node that repeats. -/
def repN (mn mx : Int) : Nd := ⟨8, 0, 0, 0, mn, mx⟩
theorem wf_rep {xs : List Nd} (h : Wf xs) {mn mx : Int} (h0 : 0 ≤ mn ∧ mn ≤ 16) (h1 : mx = -1 ∨ mn ≤ mx ∧ mx ≤ 16) : Wf (un (repN mn mx) xs) :=
  h.un (.inr rfl) rfl rfl (fun h => by cases h) (fun _ => by
    unfold boundsErr repN
    dsimp only
    repeat' split
    all_goals omega)
theorem match_rep {xs : List Nd} (h : Wf xs) (hl : xs.length + 1 ≤ 200) {mn mx : Int} (h0 : 0 ≤ mn ∧ mn ≤ 16) (h1 : mx = -1 ∨ mn ≤ mx ∧ mx ≤ 16) (b : List Int) :
    matchB (un (repN mn mx) xs) b = true ↔ sp b (.rep (tree xs) mn.toNat (if mx = -1 then none else some mx.toNat)) 0 b.length := by
  rw [match_wf (wf_rep h h0 h1) (by rw [un_len]; exact hl), tree_un h (wf_rep h h0 h1) (.inr rfl) hl]
  exact Iff.rfl
theorem rep_unfold {b : List Int} {t : Rx} {lo : Nat} {hi : Option Nat} (h0 : hi ≠ some 0) {i j : Nat} (hb : i ≤ b.length) : sp b (.rep t lo hi) i j ↔ (lo = 0 ∧ i = j) ∨ sp b (.cat t (.rep t (lo - 1) (hi.map (· - 1)))) i j := by
  constructor
  · rintro ⟨h1, k, h2, h3, h4⟩
    cases k with
    | zero => exact .inl ⟨by omega, h4⟩
    | succ k =>
      obtain ⟨m, h5, h6⟩ := h4
      refine .inr ⟨m, h5, (sp_le _ _ _ _ h5).2, k, by omega, fun h e => ?_, h6⟩
      obtain ⟨u, rfl, rfl⟩ := Option.map_eq_some_iff.1 e
      have := h3 u rfl
      omega
  · rintro (⟨h1, rfl⟩ | ⟨m, h5, h1, k, h2, h3, h6⟩)
    · exact ⟨hb, 0, by omega, fun h _ => Nat.zero_le _, rfl⟩
    · refine ⟨hb, k + 1, by omega, fun h e => ?_, m, h5, h6⟩
      subst e
      have := h3 (h - 1) rfl
      have : h ≠ 0 := fun e => h0 (by rw [e])
      omega
/-- a repetition unfolds once. -/
theorem match_unfold {xs : List Nd} (h : Wf xs) (hl : 2 * xs.length + 2 ≤ 200) {mn mx mn' mx' : Int} (h0 : 0 ≤ mn ∧ mn ≤ 16) (h1 : mx = -1 ∨ mn ≤ mx ∧ mx ≤ 16) (hz : mx ≠ 0) (hn' : mn' = max (mn - 1) 0) (hx' : mx = -1 ∧ mx' = -1 ∨ mx ≠ -1 ∧ mx' = mx - 1) (b : List Int) :
    matchB (un (repN mn mx) xs) b = ((decide (mn = 0) && decide (b.length = 0)) || matchB (bin 4 xs (un (repN mn' mx') xs)) b) := by
  have hw : Wf (un (repN mn' mx') xs) := wf_rep h (by omega) (by omega)
  rw [Bool.eq_iff_iff, Bool.or_eq_true, Bool.and_eq_true, decide_eq_true_iff, decide_eq_true_iff, match_rep h (by omega) h0 h1, rep_unfold ?_ (Nat.zero_le _), match_wf (h.bin hw (by simp)) (by rw [bin_len, un_len]; omega), tree_bin h hw (by simp) (by rw [un_len]; omega), if_pos rfl,
    tree_un h hw (.inr rfl) (by omega), if_neg (show ¬ (repN mn' mx').k = 7 from (by decide : ¬ (8 : Int) = 7))]
  · have e1 : mn'.toNat = mn.toNat - 1 := by omega
    have e2 : (if mx' = -1 then none else some mx'.toNat) = (if mx = -1 then none else some mx.toNat : Option Nat).map (· - 1) := by
      rcases hx' with ⟨rfl, rfl⟩ | ⟨h1, h2⟩
      · rfl
      · rw [if_neg (by omega), if_neg h1, h2, Option.map_some]
        congr 1
        show (mx - 1).toNat = mx.toNat - 1
        omega
    constructor
    · rintro (⟨h2, h3⟩ | h2)
      · exact .inl ⟨by omega, h3.symm⟩
      · right
        show sp b (.cat (tree xs) (.rep (tree xs) mn'.toNat (if mx' = -1 then none else some mx'.toNat))) 0 b.length
        rw [e1, e2]; exact h2
    · rintro (⟨h2, h3⟩ | h2)
      · exact .inl ⟨by omega, h3.symm⟩
      · right
        have h2 : sp b (.cat (tree xs) (.rep (tree xs) mn'.toNat (if mx' = -1 then none else some mx'.toNat))) 0 b.length := h2
        rw [e1, e2] at h2; exact h2
  · rcases hx' with ⟨rfl, _⟩ | ⟨h2, _⟩
    · simp
    · rw [if_neg h2]
      simp only [ne_eq, Option.some.injEq]
      omega
/-- x{0,0} matches the empty word alone. -/
theorem match_zero {xs : List Nd} (h : Wf xs) (hl : xs.length + 1 ≤ 200) (b : List Int) : matchB (un (repN 0 0) xs) b = decide (b.length = 0) := by
  rw [Bool.eq_iff_iff, match_rep h hl (by omega) (by omega), decide_eq_true_iff, if_neg (by decide)]
  constructor
  · rintro ⟨_, k, _, h3, h4⟩
    have := h3 0 rfl
    obtain rfl : k = 0 := by omega
    exact Eq.symm h4
  · intro h4
    exact ⟨Nat.zero_le _, 0, Nat.le_refl _, fun h _ => Nat.zero_le _, h4.symm⟩
/-- a node without operands, as a leaf is. -/
def LeafN (n : Nd) : Prop := n = ⟨1, 0, 0, 0, 0, 0⟩ ∨ n = ⟨2, 0, 0, 0, 0, 0⟩ ∨ ∃ c, n = ⟨3, c, 0, 0, 0, 0⟩
theorem wf_leaf {n : Nd} (h : LeafN n) : Wf [n] := by
  refine ⟨by simp, fun i m hi => ?_, fun i hi => by simp at hi⟩
  have hi0 := (List.getElem?_eq_some_iff.1 hi).1
  simp only [List.length_singleton] at hi0
  obtain rfl : i = 0 := by omega
  simp only [List.getElem?_cons_zero, Option.some.injEq] at hi
  subst hi
  rcases h with rfl | rfl | ⟨c, rfl⟩
  · rfl
  · rfl
  · exact chk_make rfl (by simp [usedN]) (by simp [opsN]) rfl

/-! ## Spoiled expressions -/
theorem firstE_last : ∀ (l : List Nd) (i : Nat) (n : Nd), (∀ (k : Nat) m, l[k]? = some m → chkN m ((i + k : Nat) : Int) = 0) → firstE i (l ++ [n]) = chkN n ((i + l.length : Nat) : Int)
  | [], i, n, _ => by
    show firstE i [n] = _
    rw [firstE]
    split
    · rename_i h; rw [firstE]; exact h.symm
    · rfl
  | m :: l, i, n, h => by
    have h0 : chkN m (i : Int) = 0 := h 0 m rfl
    rw [List.cons_append, firstE, if_pos h0, firstE_last l (i + 1) n fun k x hk => ?_]
    · rw [show i + 1 + l.length = i + (m :: l).length by simp; omega]
    · have := h (k + 1) x (by simpa using hk)
      rwa [show i + 1 + k = i + (k + 1) by omega]
theorem valid_spoiled {l : List Nd} {n : Nd} (h : ∀ (k : Nat) m, l[k]? = some m → chkN m (k : Int) = 0) (hl : l.length + 1 ≤ 200) (hn : chkN n (l.length : Int) ≠ 0) : validE (l ++ [n]) = chkN n (l.length : Int) := by
  have e := firstE_last l 0 n fun k m hk => by simpa using h k m hk
  rw [Nat.zero_add] at e
  unfold validE
  rw [if_neg (by simp; omega), if_neg (by simp), e]
  unfold vRes
  rw [if_neg hn]
theorem spoiled_root {xs : List Nd} (h : Wf xs) (hl : xs.length ≤ 200) {n : Nd} (hn : chkN n ((xs.length : Int) - 1) ≠ 0) : validE (xs.take (xs.length - 1) ++ [n]) = chkN n ((xs.length : Int) - 1) := by
  have hp := h.pos
  have e : (xs.take (xs.length - 1)).length = xs.length - 1 := by rw [List.length_take]; omega
  have e2 : (((xs.take (xs.length - 1)).length : Nat) : Int) = (xs.length : Int) - 1 := by rw [e]; omega
  have := valid_spoiled (l := xs.take (xs.length - 1)) (n := n) (fun k m hk => h.chk k m (by
    have := (List.getElem?_eq_some_iff.1 hk).1
    rwa [List.getElem?_take_of_lt (by omega)] at hk)) (by omega) (by rw [e2]; exact hn)
  rw [this, e2]
theorem spoiled_more {xs : List Nd} (h : Wf xs) (hl : xs.length + 1 ≤ 200) {n : Nd} (hn : chkN n (xs.length : Int) ≠ 0) : validE (xs ++ [n]) = chkN n (xs.length : Int) :=
  valid_spoiled (fun k m hk => h.chk k m hk) hl hn
theorem chk_kind {n : Nd} {i : Int} (h : knownB n.k = false) : chkN n i = 1 := by unfold chkN; rw [if_pos (.inl h)]
theorem chk_left {n : Nd} {i : Int} (h0 : n.l ≠ 0) (h : n.l < 0 ∨ i ≤ n.l) : chkN n i = 1 := by
  unfold chkN
  split
  · rfl
  · rename_i hno
    have hu : n = usedN n := Classical.byContradiction fun hne => hno (.inr hne)
    have hm : n.l ∈ opsN n := by
      by_cases h4 : n.k = 4 ∨ n.k = 5 ∨ n.k = 6
      · rw [opsN_two h4]; simp
      · by_cases h7 : n.k = 7 ∨ n.k = 8
        · rw [opsN_one h7]; simp
        · exfalso
          apply h0
          rw [hu]
          unfold usedN
          split
          · rfl
          · rw [if_neg (by omega), if_neg (by omega)]
    have : (opsN n).any (badOp i) = true := List.any_eq_true.2 ⟨_, hm, by unfold badOp; simp; exact h⟩
    rw [this]
    rfl
theorem chk_bounds {i : Int} {l mn mx : Int} (h0 : 0 ≤ l ∧ l < i) : chkN ⟨8, 0, l, 0, mn, mx⟩ i = boundsErr ⟨8, 0, l, 0, mn, mx⟩ := by
  unfold chkN
  have : (opsN ⟨8, 0, l, 0, mn, mx⟩).any (badOp i) = false := by
    simp [opsN, badOp]
    omega
  rw [if_neg (by simp [knownB, usedN]), this]
  rfl
theorem chk_b17 (l : Int) : boundsErr ⟨8, 0, l, 0, 17, 0⟩ = 2 := rfl
theorem chk_b21 (l : Int) : boundsErr ⟨8, 0, l, 0, 2, 1⟩ = 1 := rfl
/-- a further leaf leaves the old root unused. -/
theorem spoiled_leaf {xs : List Nd} (h : Wf xs) (hl : xs.length + 1 ≤ 200) : validE (xs ++ [⟨2, 0, 0, 0, 0, 0⟩]) = 1 := by
  have hp := h.pos
  have e := firstE_last xs 0 ⟨2, 0, 0, 0, 0, 0⟩ fun k m hk => by simpa using h.chk k m hk
  have hc : ∀ i : Int, chkN ⟨2, 0, 0, 0, 0, 0⟩ i = 0 := fun i => chk_make rfl (by simp [usedN]) (by simp [opsN]) rfl
  rw [hc] at e
  have ht : treeB (xs ++ [⟨2, 0, 0, 0, 0, 0⟩]) = false := by
    rw [Bool.eq_false_iff]
    intro ht
    unfold treeB at ht
    rw [List.all_eq_true] at ht
    have := ht (xs.length - 1) (by rw [List.mem_range]; simp; omega)
    have := of_decide_eq_true this
    rw [List.flatMap_append, List.count_append, h.count_no _ (by omega)] at this
    simp [opsN] at this
  unfold validE
  rw [if_neg (by simp; omega), if_neg (by simp), e, ht]
  rfl
/-! ## Piles -/
/-- good expressions with t nodes at the most. -/
structure Pile (ls : List (List Nd)) (t : Nat) : Prop where
  good : ∀ x ∈ ls, Wf x
  tot : ls.flatten.length ≤ t
theorem Pile.nil (t : Nat) : Pile [] t := ⟨fun x hx => (by cases hx), Nat.zero_le _⟩
theorem Pile.more {ls : List (List Nd)} {t : Nat} (h : Pile ls t) {z : List Nd} (hw : Wf z) (hz : z.length = 1) : Pile (ls ++ [z]) (t + 1) := by
  have := h.tot
  refine ⟨fun x hx => ?_, by rw [List.flatten_append, List.length_append, List.flatten_cons, List.flatten_nil, List.append_nil]; omega⟩
  rcases List.mem_append.1 hx with hx | hx
  · exact h.good x hx
  · simp only [List.mem_singleton] at hx; subst hx; exact hw
theorem Pile.top {ls : List (List Nd)} {x : List Nd} {t : Nat} (h : Pile (ls ++ [x]) t) {z : List Nd} (hw : Wf z) (hz : z.length = x.length + 1) : Pile (ls ++ [z]) (t + 1) := by
  have := h.tot
  rw [List.flatten_append, List.length_append] at this
  simp only [List.flatten_cons, List.flatten_nil, List.append_nil, List.length_append] at this
  refine ⟨fun u hu => ?_, by rw [List.flatten_append, List.length_append, List.flatten_cons, List.flatten_nil, List.append_nil]; omega⟩
  rcases List.mem_append.1 hu with hu | hu
  · exact h.good u (List.mem_append_left _ hu)
  · simp only [List.mem_singleton] at hu; subst hu; exact hw
theorem Pile.two {ls : List (List Nd)} {x y : List Nd} {t : Nat} (h : Pile (ls ++ [x, y]) t) {z : List Nd} (hw : Wf z) (hz : z.length = x.length + y.length + 1) : Pile (ls ++ [z]) (t + 1) := by
  have := h.tot
  rw [List.flatten_append, List.length_append] at this
  simp only [List.flatten_cons, List.flatten_nil, List.append_nil, List.length_append] at this
  refine ⟨fun u hu => ?_, by rw [List.flatten_append, List.length_append, List.flatten_cons, List.flatten_nil, List.append_nil]; omega⟩
  rcases List.mem_append.1 hu with hu | hu
  · exact h.good u (List.mem_append_left _ hu)
  · simp only [List.mem_singleton] at hu; subst hu; exact hw
theorem split_two {α : Type} {ls : List α} (h : 2 ≤ ls.length) : ∃ L x y, ls = L ++ [x, y] := by
  refine ⟨ls.take (ls.length - 2), ls[ls.length - 2], ls[ls.length - 1], ?_⟩
  apply List.ext_getElem?
  intro j
  rcases Nat.lt_or_ge j (ls.length - 2) with h1 | h1
  · rw [List.getElem?_append_left (by rw [List.length_take]; omega), List.getElem?_take_of_lt h1]
  · rw [List.getElem?_append_right (by rw [List.length_take]; omega), List.length_take, Nat.min_eq_left (by omega)]
    rcases Nat.lt_or_ge j ls.length with h2 | h2
    · by_cases e : j = ls.length - 2
      · subst e; simp
      · obtain rfl : j = ls.length - 1 := by omega
        rw [show ls.length - 1 - (ls.length - 2) = 1 by omega]
        simp
    · rw [List.getElem?_eq_none h2, List.getElem?_eq_none (by simp; omega)]
theorem split_one {α : Type} {ls : List α} (h : 1 ≤ ls.length) : ∃ L x, ls = L ++ [x] := by
  have hne : ls ≠ [] := by intro e; rw [e] at h; simp at h
  exact ⟨ls.dropLast, ls.getLast hne, (List.dropLast_concat_getLast hne).symm⟩
theorem two_get {α : Type} (L : List α) (x y : α) : (L ++ [x, y])[L.length]? = some x ∧ (L ++ [x, y])[L.length + 1]? = some y ∧ (L ++ [x, y]).take L.length = L ∧ (L ++ [x, y]).length = L.length + 2 := by
  refine ⟨?_, ?_, ?_, ?_⟩
  · rw [List.getElem?_append_right (by omega)]; simp
  · rw [List.getElem?_append_right (by omega)]; simp
  · exact List.take_left' rfl
  · simp
theorem one_get {α : Type} (L : List α) (x : α) : (L ++ [x])[L.length]? = some x ∧ (L ++ [x]).take L.length = L ∧ (L ++ [x]).length = L.length + 1 := by
  refine ⟨?_, ?_, ?_⟩
  · rw [List.getElem?_append_right (by omega)]; simp
  · exact List.take_left' rfl
  · simp
theorem Pile.le {ls : List (List Nd)} {t : Nat} (h : Pile ls t) {x : List Nd} (hx : x ∈ ls) : x.length ≤ t := by
  have h1 := h.tot
  have : x.length ≤ ls.flatten.length := by
    clear h h1
    induction ls with
    | nil => cases hx
    | cons a ls ih =>
      rw [List.flatten_cons, List.length_append]
      rcases List.mem_cons.1 hx with rfl | hx
      · omega
      · have := ih hx; omega
  omega
end Go.Proofs.YtgbkjgfiofncdaaGreatDoor

/-
  Walks: the reference's leaves.
-/
namespace Go.Proofs.YtgbkjgfiofncdaaGreatDoor
open Go.RowKit Go.Shelf

theorem Blk.set9 {w : World} {b : Nat} {v0 v1 v2 v3 v4 v5 v6 v7 v8 : Value} {t : TypeId} (h : Blk w b #[v0, v1, v2, v3, v4, v5, v6, v7, v8] t) (u0 u1 u2 u3 u4 u5 u6 u7 u8 : Value) :
    Blk (((((((((w.setCell ⟨b, 0, none⟩ u0).setCell ⟨b, 1, none⟩ u1).setCell ⟨b, 2, none⟩ u2).setCell ⟨b, 3, none⟩ u3).setCell ⟨b, 4, none⟩ u4).setCell ⟨b, 5, none⟩ u5).setCell ⟨b, 6, none⟩ u6).setCell ⟨b, 7, none⟩ u7).setCell ⟨b, 8, none⟩ u8) b #[u0, u1, u2, u3, u4, u5, u6, u7, u8] t := by
  have h9 := (((((((((h.set 0 u0).set 1 u1).set 2 u2).set 3 u3).set 4 u4).set 5 u5).set 6 u6).set 7 u7).set 8 u8)
  simpa using h9
theorem below_set9 {B : Nat} {a w : World} (h : Below B a w) {c : Nat} (hc : B ≤ c) (u0 u1 u2 u3 u4 u5 u6 u7 u8 : Value) : Below B a (((((((((w.setCell ⟨c, 0, none⟩ u0).setCell ⟨c, 1, none⟩ u1).setCell ⟨c, 2, none⟩ u2).setCell ⟨c, 3, none⟩ u3).setCell ⟨c, 4, none⟩ u4).setCell ⟨c, 5, none⟩ u5).setCell ⟨c, 6, none⟩ u6).setCell ⟨c, 7, none⟩ u7).setCell ⟨c, 8, none⟩ u8) :=
  (((((((((h.setCell (p := ⟨c, 0, none⟩) hc u0).setCell (p := ⟨c, 1, none⟩) hc u1).setCell (p := ⟨c, 2, none⟩) hc u2).setCell (p := ⟨c, 3, none⟩) hc u3).setCell (p := ⟨c, 4, none⟩) hc u4).setCell (p := ⟨c, 5, none⟩) hc u5).setCell (p := ⟨c, 6, none⟩) hc u6).setCell (p := ⟨c, 7, none⟩) hc u7).setCell (p := ⟨c, 8, none⟩) hc u8)
theorem nodeSize : (Tryz.prog.info? 45).map (·.size) = some 9 := by kernel_rfl
theorem radd0' (b : Nat) (h : b < 256) (w : World) : Calls Tryz.prog 32 #[.agg #[.int .u64 0, .int .u64 0, .int .u64 0, .int .u64 0], .int .u8 (b : Int)] w fun e w' => e = .returned (.agg #[.int .u64 (wd ((bit b)) 0), .int .u64 (wd ((bit b)) 1), .int .u64 (wd ((bit b)) 2), .int .u64 (wd ((bit b)) 3)]) ∧ Below w.heap.size w w' := by
  have h1 := radd_any 0 (b : Int) w (by omega) (by omega)
  simp only [wd_zero] at h1
  refine h1.mono ?_
  rintro e w' ⟨rfl, hb⟩
  refine ⟨?_, hb⟩
  rw [show (0 : BitVec 256) ||| bit ((b : Int).toNat) = bit b by simp]
set_option maxRecDepth 100000 in
theorem one_any (b : Nat) (h : b < 256) (W : World) : Calls Tryz.prog 99 #[.int .u8 (b : Int)] W fun e W' => e = .returned (.agg #[.int .u64 (wd ((bit b)) 0), .int .u64 (wd ((bit b)) 1), .int .u64 (wd ((bit b)) 2), .int .u64 (wd ((bit b)) 3)]) ∧ Below W.heap.size W W' := by
  have HR := Lib.hid (fun w => radd0' b h w)
  have HBk := Lib.hid (Blk.new W #[.int .u64 0, .int .u64 0, .int .u64 0, .int .u64 0] 43)
  have HBx := Lib.hid ((Below.refl W.heap.size W).alloc (Nat.le_refl _) (.cells #[.int .u64 0, .int .u64 0, .int .u64 0, .int .u64 0] 43))
  go_enter Tryz.func99, Tryz.ntmps99
  go_wp2_with (go_at_call 32; go_loud (refine (HR.out _).mono ?_); rintro e W1 ⟨rfl, hb⟩; have hbk := HBk.out.grows hb; obtain ⟨n0, n1, n2, n3, -⟩ := hbk.four; have z0 := hbk.free 0; have z1 := hbk.free 1; have z2 := hbk.free 2; have z3 := hbk.free 3)
  refine bodyPost_ret (results_cell_row rfl _ _ W.heap.size 43 _ (0, 0) _ rfl (hbk.set4 _ _ _ _).is Tryz.underlying43 rfl clsSize) rfl ⟨rfl, below_set4 (HBx.out.trans (hb.mono HBx.out.size)) (Nat.le_refl _) _ _ _ _⟩
set_option maxRecDepth 100000 in
set_option maxHeartbeats 2000000 in
theorem leaf_other (k a : Int) (h0 : k ≠ 0) (h1 : k ≠ 1) (h3 : k ≠ 3) (ha : 0 ≤ a ∧ a < 19) (W : World) :
    Calls Tryz.prog 72 #[.int .i64 k, .int .i64 a] W fun e W' => (∃ n, LeafN n ∧ e = .returned (valN n)) ∧ Below W.heap.size W W' := by
  have t0 : (k == 0) = false := by rw [beq_eq_false_iff_ne]; exact h0
  have t1 : (k == 1) = false := by rw [beq_eq_false_iff_ne]; exact h1
  have t3 : (k != 3) = true := by rw [bne_iff_ne]; exact h3
  have hb : (97 + a % 3).toNat < 256 := by omega
  have hO := fun w => one_any (97 + a % 3).toNat hb w
  rw [show (((97 + a % 3).toNat : Nat) : Int) = 97 + a % 3 by omega] at hO
  have HO := Lib.hid hO
  have HBk := Lib.hid (Blk.new W #[.int .i64 0, .int .u64 0, .int .u64 0, .int .u64 0, .int .u64 0, .int .i64 0, .int .i64 0, .int .i64 0, .int .i64 0] 45)
  have HBx := Lib.hid ((Below.refl W.heap.size W).alloc (Nat.le_refl _) (.cells #[.int .i64 0, .int .u64 0, .int .u64 0, .int .u64 0, .int .u64 0, .int .i64 0, .int .i64 0, .int .i64 0, .int .i64 0] 45))
  clear hO
  go_enter Tryz.func72, Tryz.ntmps72
  go_wp2_with (go_at_call 99; refine (HO.out _).mono ?_; rintro e W1 ⟨rfl, hb1⟩; have hbk := HBk.out.grows hb1; obtain ⟨n0, n1, n2, n3, n4, n5, n6, n7, n8⟩ := hbk.nine; have z0 := hbk.free 0; have z1 := hbk.free 1; have z2 := hbk.free 2; have z3 := hbk.free 3; have z4 := hbk.free 4; have z5 := hbk.free 5; have z6 := hbk.free 6; have z7 := hbk.free 7; have z8 := hbk.free 8)
  refine bodyPost_ret (results_cell_row rfl _ _ W.heap.size 45 _ (0, 0) _ rfl (hbk.set9 _ _ _ _ _ _ _ _ _).is Tryz.underlying45 rfl nodeSize) rfl ⟨⟨⟨3, _, 0, 0, 0, 0⟩, .inr (.inr ⟨_, rfl⟩), rfl⟩, below_set9 (HBx.out.trans (hb1.mono HBx.out.size)) (Nat.le_refl _) _ _ _ _ _ _ _ _ _⟩
set_option maxRecDepth 100000 in
theorem leaf_0 (a : Int) (W : World) :
    Calls Tryz.prog 72 #[.int .i64 0, .int .i64 a] W fun e W' => (∃ n, LeafN n ∧ e = .returned (valN n)) ∧ Below W.heap.size W W' := by
  have wz : ∀ i, wd (0#256) i = 0 := wd_zero
  go_enter Tryz.func72, Tryz.ntmps72
  go_wp2
  go_returns
  refine ⟨⟨⟨1, 0, 0, 0, 0, 0⟩, .inl rfl, congrArg Ending.returned ?_⟩, by go_grown⟩
  simp [wz]
set_option maxRecDepth 100000 in
theorem leaf_1 (a : Int) (W : World) :
    Calls Tryz.prog 72 #[.int .i64 1, .int .i64 a] W fun e W' => (∃ n, LeafN n ∧ e = .returned (valN n)) ∧ Below W.heap.size W W' := by
  have wz : ∀ i, wd (0#256) i = 0 := wd_zero
  go_enter Tryz.func72, Tryz.ntmps72
  go_wp2
  go_returns
  refine ⟨⟨⟨2, 0, 0, 0, 0, 0⟩, .inr (.inl rfl), congrArg Ending.returned ?_⟩, by go_grown⟩
  simp [wz]
end Go.Proofs.YtgbkjgfiofncdaaGreatDoor

/-
  Walks: the reference's leaf that is a class of chosen letters.
-/
namespace Go.Proofs.YtgbkjgfiofncdaaGreatDoor
open Go.RowKit Go.Shelf

theorem rall_any (W : World) : Calls Tryz.prog 78 #[] W fun e W' => e = .returned (.agg #[.int .u64 18446744073709551615, .int .u64 18446744073709551615, .int .u64 18446744073709551615, .int .u64 18446744073709551615]) ∧ Below W.heap.size W W' := by
  go_enter Tryz.func78, Tryz.ntmps78
  go_wp2
  go_returns
  exact ⟨rfl, by go_grown⟩
theorem xor_rng (c : BitVec 256) (i : Nat) : 0 ≤ bits .xor .u64 18446744073709551615 (wd c i) ∧ bits .xor .u64 18446744073709551615 (wd c i) < 18446744073709551616 := by
  have h : (18446744073709551615 : Int) = ((BitVec.allOnes 64).toNat : Int) := rfl
  unfold wd
  rw [h, bits_u64]
  have := (BitVec.allOnes 64 ^^^ wv c i).isLt
  dsimp only
  omega
theorem word_0 (c : BitVec 256) {v : Int} (h : 0 ≤ v ∧ v < 18446744073709551616) : ∃ d, (#[.int .u64 v, .int .u64 (wd c 1), .int .u64 (wd c 2), .int .u64 (wd c 3)] : Array Value) = #[.int .u64 (wd d 0), .int .u64 (wd d 1), .int .u64 (wd d 2), .int .u64 (wd d 3)] := by
  obtain ⟨d, h0, h1, h2, h3⟩ := ofWords v (wd c 1) (wd c 2) (wd c 3) h ⟨wd_nonneg _ _, wd_lt _ _⟩ ⟨wd_nonneg _ _, wd_lt _ _⟩ ⟨wd_nonneg _ _, wd_lt _ _⟩
  exact ⟨d, by rw [h0, h1, h2, h3]⟩
theorem word_1 (c : BitVec 256) {v : Int} (h : 0 ≤ v ∧ v < 18446744073709551616) : ∃ d, (#[.int .u64 (wd c 0), .int .u64 v, .int .u64 (wd c 2), .int .u64 (wd c 3)] : Array Value) = #[.int .u64 (wd d 0), .int .u64 (wd d 1), .int .u64 (wd d 2), .int .u64 (wd d 3)] := by
  obtain ⟨d, h0, h1, h2, h3⟩ := ofWords (wd c 0) v (wd c 2) (wd c 3) ⟨wd_nonneg _ _, wd_lt _ _⟩ h ⟨wd_nonneg _ _, wd_lt _ _⟩ ⟨wd_nonneg _ _, wd_lt _ _⟩
  exact ⟨d, by rw [h0, h1, h2, h3]⟩
theorem word_2 (c : BitVec 256) {v : Int} (h : 0 ≤ v ∧ v < 18446744073709551616) : ∃ d, (#[.int .u64 (wd c 0), .int .u64 (wd c 1), .int .u64 v, .int .u64 (wd c 3)] : Array Value) = #[.int .u64 (wd d 0), .int .u64 (wd d 1), .int .u64 (wd d 2), .int .u64 (wd d 3)] := by
  obtain ⟨d, h0, h1, h2, h3⟩ := ofWords (wd c 0) (wd c 1) v (wd c 3) ⟨wd_nonneg _ _, wd_lt _ _⟩ ⟨wd_nonneg _ _, wd_lt _ _⟩ h ⟨wd_nonneg _ _, wd_lt _ _⟩
  exact ⟨d, by rw [h0, h1, h2, h3]⟩
theorem word_3 (c : BitVec 256) {v : Int} (h : 0 ≤ v ∧ v < 18446744073709551616) : ∃ d, (#[.int .u64 (wd c 0), .int .u64 (wd c 1), .int .u64 (wd c 2), .int .u64 v] : Array Value) = #[.int .u64 (wd d 0), .int .u64 (wd d 1), .int .u64 (wd d 2), .int .u64 (wd d 3)] := by
  obtain ⟨d, h0, h1, h2, h3⟩ := ofWords (wd c 0) (wd c 1) (wd c 2) v ⟨wd_nonneg _ _, wd_lt _ _⟩ ⟨wd_nonneg _ _, wd_lt _ _⟩ ⟨wd_nonneg _ _, wd_lt _ _⟩ h
  exact ⟨d, by rw [h0, h1, h2, h3]⟩
/-- what stands while the class is made: the result's block, the class's. -/
structure LI (W wr : World) (c : BitVec 256) : Prop where
  n : Blk wr W.heap.size #[.int .i64 0, .int .u64 0, .int .u64 0, .int .u64 0, .int .u64 0, .int .i64 0, .int .i64 0, .int .i64 0, .int .i64 0] 45
  c : Blk wr (W.heap.size + 1) #[.int .u64 (wd c 0), .int .u64 (wd c 1), .int .u64 (wd c 2), .int .u64 (wd c 3)] 43
  b : Below W.heap.size W wr
theorem LI.grows {W wr w' : World} {c : BitVec 256} (h : LI W wr c) (hb : Below wr.heap.size wr w') : LI W w' c := ⟨h.n.grows hb, h.c.grows hb, h.b.trans (hb.mono h.b.size)⟩
theorem LI.start (W : World) : LI W ((W.alloc (.cells #[.int .i64 0, .int .u64 0, .int .u64 0, .int .u64 0, .int .u64 0, .int .i64 0, .int .i64 0, .int .i64 0, .int .i64 0] 45)).alloc (.cells #[.int .u64 0, .int .u64 0, .int .u64 0, .int .u64 0] 43)) 0 := by
  refine ⟨(Blk.new W _ _).alloc _, (Blk.alloc1 W _ _ _ _).cast ?_, ((Below.refl _ W).alloc (Nat.le_refl _) _).alloc (by simp) _⟩
  simp only [wd_zero]
theorem LI.set4 {W wr : World} {c : BitVec 256} (h : LI W wr c) (d : BitVec 256) : LI W ((((wr.setCell ⟨W.heap.size + 1, 0, none⟩ (.int .u64 (wd d 0))).setCell ⟨W.heap.size + 1, 1, none⟩ (.int .u64 (wd d 1))).setCell ⟨W.heap.size + 1, 2, none⟩ (.int .u64 (wd d 2))).setCell ⟨W.heap.size + 1, 3, none⟩ (.int .u64 (wd d 3))) d :=
  ⟨h.n.other4 (by omega) _ _ _ _, h.c.set4 _ _ _ _, below_set4 h.b (by omega) _ _ _ _⟩
theorem LI.drew {W wr : World} {c : BitVec 256} (h : LI W wr c) : LI W wr.drew c := ⟨h.n.drew, h.c.drew, h.b.drew⟩
theorem LI.set1 {W wr : World} {c d : BitVec 256} (h : LI W wr c) (i : Nat) (v : Value) (he : (#[.int .u64 (wd c 0), .int .u64 (wd c 1), .int .u64 (wd c 2), .int .u64 (wd c 3)] : Array Value).setIfInBounds i v = #[.int .u64 (wd d 0), .int .u64 (wd d 1), .int .u64 (wd d 2), .int .u64 (wd d 3)]) : LI W (wr.setCell ⟨W.heap.size + 1, i, none⟩ v) d :=
  ⟨h.n.other (by simp) _, (h.c.set i v).cast he, h.b.setCell (p := ⟨W.heap.size + 1, i, none⟩) (by simp) v⟩

set_option maxRecDepth 100000 in
set_option maxHeartbeats 4000000 in
theorem leaf_3 (a : Int) (ha : 0 ≤ a ∧ a < 19) (W : World) :
    Calls Tryz.prog 72 #[.int .i64 3, .int .i64 a] W fun e W' => (∃ n, LeafN n ∧ e = .returned (valN n)) ∧ Below W.heap.size W W' := by
  have HS := Lib.hid (LI.start W)
  go_enter Tryz.func72, Tryz.ntmps72
  go_wp2_with fail
  go_loopw [6] (fun i wr => ∃ (k : Nat) (c : BitVec 256), k ≤ 3 ∧ i = .int .i64 k ∧ LI W wr c) (fun i _ => 3 - (intOf i).toNat)
  case atStart => exact ⟨0, 0, by omega, rfl, HS.out⟩
  case round =>
    obtain ⟨k, c, hk, rfl, hI⟩ := hrel
    obtain ⟨c0, c1, c2, c3, -⟩ := hI.c.four
    have z0 := hI.c.free 0
    have z1 := hI.c.free 1
    have z2 := hI.c.free 2
    have z3 := hI.c.free 3
    have HI := Lib.hid hI
    by_cases hlt : k < 3
    · clear hI
      cases hq : ((a / 2 ^ k).tmod 2 == 1)
      · go_wp2_with fail
        exact ⟨⟨k + 1, c, by omega, by go_num, HI.out⟩, by simp [intOf]; omega⟩
      · have w97 : IntKind.u8.wrap (97 + (k : Int)) = 97 + (k : Int) := by rw [IntKind.wrap_u8]; omega
        have HA := Lib.hid (radd_any c (97 + (k : Int)) wr (by omega) (by omega))
        go_wp2_with (go_at_call 32; refine HA.out.mono ?_; rintro e W1 ⟨rfl, hb⟩; have hI1 := HI.out.grows hb; obtain ⟨d0, d1, d2, d3, -⟩ := hI1.c.four; have y0 := hI1.c.free 0; have y1 := hI1.c.free 1; have y2 := hI1.c.free 2; have y3 := hI1.c.free 3)
        exact ⟨⟨k + 1, _, by omega, by go_num, hI1.set4 _⟩, by simp [intOf]; omega⟩
    · obtain rfl : k = 3 := by omega
      clear hI
      by_cases h8 : 8 ≤ a
      · go_wp2_with (go_at_call 78; refine (rall_any _).mono ?_; rintro e W1 ⟨rfl, hb⟩; have hI1 := HI.out.grows hb)
        have HI2 := Lib.hid (hI1.grows ((Below.refl _ W1).alloc (Nat.le_refl _) (.cells #[.int .u64 18446744073709551615, .int .u64 18446744073709551615, .int .u64 18446744073709551615, .int .u64 18446744073709551615] 43)))
        have HA := Lib.hid (Blk.new W1 #[.int .u64 18446744073709551615, .int .u64 18446744073709551615, .int .u64 18446744073709551615, .int .u64 18446744073709551615] 43)
        have HN := Lib.hid hI1.c.lt
        clear hI1 hb
        generalize (W1.alloc (.cells #[.int .u64 18446744073709551615, .int .u64 18446744073709551615, .int .u64 18446744073709551615, .int .u64 18446744073709551615] 43)) = W2 at HI2 HA ⊢
        generalize W1.heap.size = B3 at HA HN ⊢
        go_loopw [8] (fun i wr => ∃ (k : Nat) (c : BitVec 256), k ≤ 4 ∧ i = .int .i64 k ∧ LI W wr c ∧ Blk wr B3 #[.int .u64 18446744073709551615, .int .u64 18446744073709551615, .int .u64 18446744073709551615, .int .u64 18446744073709551615] 43) (fun i _ => 4 - (intOf i).toNat)
        case atStart => exact ⟨0, c, by omega, rfl, HI2.out, HA.out⟩
        case round =>
          obtain ⟨k, c, hk, rfl, hI, hA⟩ := hrel
          have HIr := Lib.hid hI
          have HAr := Lib.hid hA
          by_cases hlt : k < 4
          · obtain ⟨c0, c1, c2, c3, z0, z1, z2, z3⟩ := hI.c.four
            obtain ⟨a0, a1, a2, a3, -⟩ := hA.four
            clear hI hA
            have hk4 : k = 0 ∨ k = 1 ∨ k = 2 ∨ k = 3 := by omega
            rcases hk4 with rfl | rfl | rfl | rfl
            · go_wp2_with fail
              go_region
              go_wp2_with fail
              obtain ⟨d, hd⟩ := word_0 c (xor_rng c 0)
              exact ⟨⟨1, d, by omega, rfl, (HIr.out.set1 0 _ (by rw [← hd]; rfl)).drew, (HAr.out.other (by have := HN.out; simp; omega) _).drew⟩, by simp [intOf]⟩
            · go_wp2_with fail
              go_region
              go_wp2_with fail
              obtain ⟨d, hd⟩ := word_1 c (xor_rng c 1)
              exact ⟨⟨2, d, by omega, rfl, (HIr.out.set1 1 _ (by rw [← hd]; rfl)).drew, (HAr.out.other (by have := HN.out; simp; omega) _).drew⟩, by simp [intOf]⟩
            · go_wp2_with fail
              go_region
              go_wp2_with fail
              obtain ⟨d, hd⟩ := word_2 c (xor_rng c 2)
              exact ⟨⟨3, d, by omega, rfl, (HIr.out.set1 2 _ (by rw [← hd]; rfl)).drew, (HAr.out.other (by have := HN.out; simp; omega) _).drew⟩, by simp [intOf]⟩
            · go_wp2_with fail
              go_region
              go_wp2_with fail
              obtain ⟨d, hd⟩ := word_3 c (xor_rng c 3)
              exact ⟨⟨4, d, by omega, rfl, (HIr.out.set1 3 _ (by rw [← hd]; rfl)).drew, (HAr.out.other (by have := HN.out; simp; omega) _).drew⟩, by simp [intOf]⟩
          · obtain rfl : k = 4 := by omega
            clear hI hA
            obtain ⟨n0, n1, n2, n3, n4, n5, n6, n7, n8⟩ := HIr.out.n.nine
            have y0 := HIr.out.n.free 0
            have y1 := HIr.out.n.free 1
            have y2 := HIr.out.n.free 2
            have y3 := HIr.out.n.free 3
            have y4 := HIr.out.n.free 4
            have y5 := HIr.out.n.free 5
            have y6 := HIr.out.n.free 6
            have y7 := HIr.out.n.free 7
            have y8 := HIr.out.n.free 8
            obtain ⟨c0, c1, c2, c3, -⟩ := HIr.out.c.four
            go_wp2_with fail
            refine bodyPost_ret (results_cell_row rfl _ _ W.heap.size 45 _ (0, 0) _ rfl (HIr.out.n.set9 _ _ _ _ _ _ _ _ _).is Tryz.underlying45 rfl nodeSize) rfl ⟨⟨⟨3, c, 0, 0, 0, 0⟩, .inr (.inr ⟨_, rfl⟩), rfl⟩, below_set9 HIr.out.b (Nat.le_refl _) _ _ _ _ _ _ _ _ _⟩
      · obtain ⟨n0, n1, n2, n3, n4, n5, n6, n7, n8⟩ := HI.out.n.nine
        have y0 := HI.out.n.free 0
        have y1 := HI.out.n.free 1
        have y2 := HI.out.n.free 2
        have y3 := HI.out.n.free 3
        have y4 := HI.out.n.free 4
        have y5 := HI.out.n.free 5
        have y6 := HI.out.n.free 6
        have y7 := HI.out.n.free 7
        have y8 := HI.out.n.free 8
        go_wp2_with fail
        refine bodyPost_ret (results_cell_row rfl _ _ W.heap.size 45 _ (0, 0) _ rfl (HI.out.n.set9 _ _ _ _ _ _ _ _ _).is Tryz.underlying45 rfl nodeSize) rfl ⟨⟨⟨3, c, 0, 0, 0, 0⟩, .inr (.inr ⟨_, rfl⟩), rfl⟩, below_set9 HI.out.b (Nat.le_refl _) _ _ _ _ _ _ _ _ _⟩
end Go.Proofs.YtgbkjgfiofncdaaGreatDoor
