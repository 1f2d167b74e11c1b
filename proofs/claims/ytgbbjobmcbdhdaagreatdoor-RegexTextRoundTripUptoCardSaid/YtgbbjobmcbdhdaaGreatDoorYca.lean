/-
  Texts of the proof, one behind another: Ma, Mb.
-/
import Derived.Test.YtgbbjobmcbdhdaaGreatDoorYbj
import Derived.Test.YtgbbjobmcbdhdaaGreatDoorYad
import Derived.Lib.QuietBelow
import Derived.Shelf.SlSortCmp.NoneTotal
import Derived.Shelf.SlicesQ.IndexFunc
import Derived.Deep.AppendLies
import Derived.Maps.AppendAt
set_option linter.unusedSimpArgs false
set_option linter.unusedVariables false
/-
  Rows of spans: how they read, how they are owned, sorted, written.
-/
namespace Go.Proofs.YtgbbjobmcbdhdaaGreatDoor
open Go.RowKit Go.Shelf Go.Lib
open Go.Sort hiding Below

abbrev Sn := Nat × Nat
/-- a span's two cells. -/
def encS (x : Nat × Nat) : List Value := [.int .i64 (x.1 : Int), .int .i64 (x.2 : Int)]
theorem encS_len (x : Nat × Nat) : (encS x).length = 2 := rfl
theorem encS_one (x : Nat × Nat) : ∀ v ∈ encS x, v.oneCell' = true := by
  intro v hv; simp [encS] at hv; rcases hv with rfl | rfl <;> rfl
def ReadsS (w : World) (blk off : Nat) (l : List (Nat × Nat)) : Prop := ∀ j x, l[j]? = some x → ∀ i v, (encS x)[i]? = some v → w.cell? ⟨blk, off + j * 2 + i, none⟩ = some v
/-- the value is a slice that reads as these spans. -/
def IsS (w : World) (v : Value) (l : List (Nat × Nat)) : Prop :=
  (l = [] ∧ ∃ p cap, v = .slice p 0 cap ∧ (p = none → cap = 0)) ∨ ∃ blk off cap, v = .slice (some ⟨blk, off, none⟩) l.length cap ∧ ReadsS w blk off l
theorem IsS.shape {w : World} {v : Value} {l : List (Nat × Nat)} (h : IsS w v l) : ∃ p cap, v = .slice p l.length cap := by
  rcases h with ⟨rfl, p, cap, rfl, _⟩ | ⟨blk, off, cap, rfl, _⟩
  · exact ⟨p, cap, rfl⟩
  · exact ⟨_, _, rfl⟩
theorem IsS.at {w : World} {p : Option Addr} {n cap : Nat} {l : List (Nat × Nat)} (h : IsS w (.slice p n cap) l) {k : Nat} {y : Nat × Nat} (hk : l[k]? = some y) :
    ∃ blk off, p = some ⟨blk, off, none⟩ ∧ w.cell? ⟨blk, off + k * 2, none⟩ = some (.int .i64 (y.1 : Int)) ∧ w.cell? ⟨blk, off + k * 2 + 1, none⟩ = some (.int .i64 (y.2 : Int)) := by
  rcases h with ⟨rfl, _⟩ | ⟨blk, off, cap, he, hc⟩
  · cases hk
  · simp only [Value.slice.injEq] at he
    exact ⟨blk, off, he.1, hc k y hk 0 _ rfl, hc k y hk 1 _ rfl⟩
/-- what keeps every cell that was there keeps what reads. -/
theorem IsS.kept {w w' : World} {v : Value} {l : List (Nat × Nat)} (h : IsS w v l) (hk : ∀ a u, w.cell? a = some u → w'.cell? a = some u) : IsS w' v l := by
  rcases h with h | ⟨blk, off, cap, rfl, h⟩
  · exact .inl h
  · exact .inr ⟨blk, off, cap, rfl, fun j x hj i v hi => hk _ _ (h j x hj i v hi)⟩
theorem IsS.grows {w w' : World} {v : Value} {l : List (Nat × Nat)} (h : IsS w v l) (hb : Below w.heap.size w w') : IsS w' v l :=
  h.kept fun _ _ hc => (hb.cell (lt_of_cell hc)).trans hc
theorem flat_lenS (l : List (Nat × Nat)) : (l.flatMap encS).length = l.length * 2 := by
  induction l with
  | nil => rfl
  | cons a l ih => rw [List.flatMap_cons, List.length_append, ih, encS_len, List.length_cons]; omega
theorem flat_getS : ∀ (l : List (Nat × Nat)) (j : Nat) (x : Nat × Nat) (i : Nat) (v : Value), l[j]? = some x → (encS x)[i]? = some v → (l.flatMap encS)[j * 2 + i]? = some v
  | [], j, x, i, v, h, _ => by simp at h
  | a :: l, 0, x, i, v, h, hi => by
    obtain rfl : a = x := by simpa using h
    have hlt : i < (encS a).length := (List.getElem?_eq_some_iff.1 hi).1
    rw [List.flatMap_cons, List.getElem?_append_left (by omega)]; simpa using hi
  | a :: l, j + 1, x, i, v, h, hi => by
    have ih := flat_getS l j x i v (by simpa using h) hi
    rw [List.flatMap_cons, List.getElem?_append_right (by rw [encS_len]; omega), encS_len, show (j + 1) * 2 + i - 2 = j * 2 + i by omega]; exact ih

/-- what an owned row of classes says. -/
theorem own_readS {w : World} {base : Nat} {e : TypeId} {v : Value} {l : List (Nat × Nat)} (h : w.ownsRow base e 2 v l.length (l.flatMap encS)) (h0 : 0 < l.length) :
    ∃ g cap cur, v = .slice (some ⟨g, 0, none⟩) l.length cap ∧ base ≤ g ∧ w.heap[g]? = some (.cells cur e (0, 0)) ∧ l.length ≤ cap ∧ cap ≤ maxLen ∧ cur.size = cap * 2 ∧ cur.toList.take (l.length * 2) = l.flatMap encS ∧ ReadsS w g 0 l := by
  obtain ⟨hl, ⟨rfl, hn⟩ | ⟨g, cap, cur, rfl, hg, hh, hcap, hm, hsz, htk⟩⟩ := h
  · omega
  · refine ⟨g, cap, cur, rfl, hg, hh, hcap, hm, hsz, htk, fun j x hj i v hi => ?_⟩
    have hjl : j < l.length := (List.getElem?_eq_some_iff.1 hj).1
    have hi4 : i < 2 := by have := (List.getElem?_eq_some_iff.1 hi).1; rw [encS_len] at this; exact this
    have h2 := flat_getS l j x i v hj hi
    rw [← htk, List.getElem?_take_of_lt (by omega)] at h2
    rw [Nat.zero_add]
    exact Blk.cell (vs := cur) (t := e) ⟨hh⟩ _ (by simpa using h2)
theorem own_isS {w : World} {base : Nat} {e : TypeId} {v : Value} {l : List (Nat × Nat)} (h : w.ownsRow base e 2 v l.length (l.flatMap encS)) : IsS w v l := by
  rcases Nat.eq_zero_or_pos l.length with h0 | h0
  · have hl : l = [] := List.length_eq_zero_iff.1 h0
    subst hl
    rcases h.2 with ⟨rfl, _⟩ | ⟨g, cap, cur, rfl, _⟩
    · exact .inl ⟨rfl, none, 0, rfl, fun _ => rfl⟩
    · exact .inr ⟨g, 0, cap, rfl, fun j x hj => by simp at hj⟩
  · obtain ⟨g, cap, cur, rfl, _, _, _, _, _, _, hr⟩ := own_readS h h0
    exact .inr ⟨g, 0, cap, rfl, hr⟩

theorem flatK_listS (l : List (Nat × Nat)) : (flatK encS 2 l.toArray).toList = l.flatMap encS := by
  apply List.ext_getElem?
  intro t
  by_cases ht : t < l.length * 2
  · obtain ⟨x, hx⟩ : ∃ x, l[t / 2]? = some x := ⟨_, List.getElem?_eq_getElem (by omega)⟩
    have h4 : t % 2 < (encS x).length := by rw [encS_len]; omega
    have h1 := flat_getS l (t / 2) x (t % 2) _ hx (List.getElem?_eq_getElem h4)
    rw [show t / 2 * 2 + t % 2 = t by omega] at h1
    rw [h1]
    have hs : t < (flatK encS 2 l.toArray).toList.length := by simp [size_flatK]; omega
    rw [List.getElem?_eq_getElem hs]
    congr 1
    have hg := get_flatK encS 2 l.toArray t (by simpa using ht)
    have hx' : l.toArray[t / 2]! = x := by
      have := List.getElem?_eq_some_iff.1 hx
      obtain ⟨h5, h6⟩ := this
      rw [getElem!_pos _ _ (by simpa using h5)]; simpa using h6
    rw [hx', getElem!_pos (encS x) (t % 2) h4] at hg
    rw [getElem!_pos (flatK encS 2 l.toArray) t (by rw [size_flatK]; simpa using ht)] at hg
    simpa using hg
  · rw [List.getElem?_eq_none (by simp [size_flatK]; omega), List.getElem?_eq_none (by rw [flat_lenS]; omega)]

theorem holds_of_ownS {w : World} {g cap : Nat} {e : TypeId} {cur : Array Value} {l : List (Nat × Nat)} (hh : w.heap[g]? = some (.cells cur e (0, 0))) (hcap : l.length ≤ cap) (hsz : cur.size = cap * 2) (htk : cur.toList.take (l.length * 2) = l.flatMap encS) :
    HoldsK encS 2 w g 0 l.toArray := by
  intro j hj
  rw [size_flatK] at hj
  have hj' : j < l.length * 2 := by simpa using hj
  have hb : Blk w g cur e := ⟨hh⟩
  refine ⟨?_, hb.free _⟩
  rw [Nat.zero_add]
  refine hb.cell j ?_
  have h1 : cur.toList[j]? = (l.flatMap encS)[j]? := by rw [← htk, List.getElem?_take_of_lt hj']
  have h2 : (flatK encS 2 l.toArray).toList[j]? = (l.flatMap encS)[j]? := by rw [flatK_listS]
  have h3 : j < (flatK encS 2 l.toArray).size := by rw [size_flatK]; exact hj
  rw [getElem!_pos (flatK encS 2 l.toArray) j h3]
  have h4 : (flatK encS 2 l.toArray).toList[j]? = some ((flatK encS 2 l.toArray)[j]) := by
    rw [Array.getElem?_toList, Array.getElem?_eq_getElem h3]
  rw [← Array.getElem?_toList, h1, ← h2, h4]; rfl

theorem sorted_ownS {w : World} {base g cap q : Nat} {e : TypeId} {os : Array Obj} {cur : Array Value} {l m : List (Nat × Nat)} (hg : base ≤ g) (hh : w.heap[g]? = some (.cells cur e (0, 0))) (hcap : l.length ≤ cap) (hm : cap ≤ maxLen) (hsz : cur.size = cap * 2) (hl : m.length = l.length) :
    (sortWorldK encS 2 w g 0 q m.toArray os).ownsRow base e 2 (.slice (some ⟨g, 0, none⟩) l.length cap) m.length (m.flatMap encS) := by
  have hlt : g < w.heap.size := Blk.lt (vs := cur) (t := e) ⟨hh⟩
  refine ⟨flat_lenS m, .inr ⟨g, cap, Sort.putCells id 0 (flatK encS 2 m.toArray) cur, by rw [hl], hg, ?_, by omega, hm, by simpa [Sort.putCells] using hsz, ?_⟩⟩
  · unfold sortWorldK putRowK
    rw [Sort.heap_grow_old _ _ (by simp [Sort.putRow, Sort.mapBlock, Sort.ahead]; exact hlt)]
    simp [Sort.putRow, Sort.mapBlock, Sort.ahead, Array.getElem?_modify, hh, Sort.onCells]
  · rw [← flatK_listS]
    apply List.ext_getElem?
    intro j
    by_cases hj : j < m.length * 2
    · have hjc : j < cur.size := by omega
      have h3 : j < (flatK encS 2 m.toArray).size := by rw [size_flatK]; simpa using hj
      rw [List.getElem?_take_of_lt hj, Array.getElem?_toList, Array.getElem?_toList]
      simp only [Sort.putCells, Array.getElem?_mapIdx, Array.getElem?_eq_getElem hjc, Option.map_some]
      rw [if_pos (by omega), Array.getElem?_eq_getElem h3, getElem!_pos _ _ (by simpa using h3)]; simp
    · rw [List.getElem?_eq_none (by simp; omega), List.getElem?_eq_none (by simp [size_flatK]; omega)]
theorem sorted_belowS {w0 w : World} {B g q : Nat} {os : Array Obj} {d : Array (Nat × Nat)} (h : Below B w0 w) (hg : B ≤ g) (hB : B ≤ w.heap.size) : Below B w0 (sortWorldK encS 2 w g 0 q d os) := by
  refine h.trans ⟨rfl, rfl, rfl, size_sortWorldK_c _ _ _ _ _ _ _ _, fun k hk => ?_⟩
  unfold sortWorldK putRowK
  rw [Sort.heap_grow_old _ _ (by simp [Sort.putRow, Sort.mapBlock, Sort.ahead]; omega)]
  simp only [Sort.putRow, Sort.mapBlock, Sort.ahead, Array.getElem?_modify]
  rw [if_neg (by omega)]

theorem lays_of_below {w w' : World} (h : Below w.heap.size w w') (hd : w.drawn ≤ w'.drawn) : ∃ q os, w' = grow (w.drewN q) os := by
  obtain ⟨p, hp⟩ := regrown_of_below h
  have e : w'.drawn = p.d := by rw [hp]; rfl
  refine ⟨p.d - w.drawn, p.os, ?_⟩
  rw [hp]
  have : w.drewN (p.d - w.drawn) = redrawn w p.d := by
    unfold World.drewN redrawn; rw [show w.drawn + (p.d - w.drawn) = p.d by omega]
  rw [this]


theorem flat_setS : ∀ (l : List (Nat × Nat)) (k : Nat) (x : Nat × Nat) (t : Nat), l[k]? = some x → (l.flatMap encS).set (k * 2 + 1) (.int .i64 (t : Int)) = (l.set k (x.1, t)).flatMap encS
  | [], k, x, t, h => by simp at h
  | a :: l, 0, x, t, h => by
    obtain rfl : a = x := by simpa using h
    simp [encS]
  | a :: l, k + 1, x, t, h => by
    have ih := flat_setS l k x t (by simpa using h)
    rw [List.set_cons_succ, List.flatMap_cons, List.flatMap_cons, ← ih]
    have e : (k + 1) * 2 + 1 = (encS a).length + (k * 2 + 1) := by rw [encS_len]; omega
    rw [e, List.set_append_right _ _ (by omega)]; congr 2; omega
/-- the end of one span of an owned row is written anew. -/
theorem own_storeS {w : World} {base g cap : Nat} {e : TypeId} {l : List (Nat × Nat)} (h : w.ownsRow base e 2 (.slice (some ⟨g, 0, none⟩) l.length cap) l.length (l.flatMap encS)) (k : Nat) (x : Nat × Nat) (hk : l[k]? = some x) (t : Nat) :
    (w.setCell ⟨g, k * 2 + 1, none⟩ (.int .i64 (t : Int))).ownsRow base e 2 (.slice (some ⟨g, 0, none⟩) l.length cap) (l.set k (x.1, t)).length ((l.set k (x.1, t)).flatMap encS) := by
  obtain ⟨hl, ⟨hv, _⟩ | ⟨g', cap', cur, hv, hg, hh, hcap, hm, hsz, htk⟩⟩ := h
  · cases hv
  · simp only [Value.slice.injEq, Option.some.injEq, Addr.mk.injEq, and_true, true_and] at hv
    obtain ⟨rfl, rfl⟩ := hv
    have hb : Blk w g cur e := ⟨hh⟩
    have hb4 := hb.set (k * 2 + 1) (.int .i64 (t : Int))
    refine ⟨flat_lenS _, .inr ⟨g, cap, _, by rw [List.length_set], hg, hb4.is, by rw [List.length_set]; exact hcap, hm, by simpa using hsz, ?_⟩⟩
    rw [List.length_set, ← flat_setS l k x t hk, ← htk]
    simp only [Array.toList_setIfInBounds, List.take_set]
end Go.Proofs.YtgbbjobmcbdhdaaGreatDoor

/-
  Walks: a set of one position; a span added to a set.
-/
namespace Go.Proofs.YtgbbjobmcbdhdaaGreatDoor
open Go.RowKit

theorem infoS : (Tryz.prog.info? 66).map (fun i => (i.zero, i.size, i.bytes)) = some (some (.agg #[.int .i64 0, .int .i64 0]), 2, 16) := by kernel_rfl
theorem only_any (p : Nat) (hp : p < 9223372036854775807) (W : World) : Calls Tryz.prog 41 #[.int .i64 (p : Int)] W fun e W' =>
    e = .returned (.slice (some ⟨W.heap.size, 0, none⟩) 1 1) ∧ W' = W.alloc (.cells #[.int .i64 (p : Int), .int .i64 ((p + 1 : Nat) : Int)] 66) := by
  have w1 : IntKind.i64.wrap ((p : Int) + 1) = ((p + 1 : Nat) : Int) := by rw [IntWalk.i64_in _ (by omega)]; omega
  go_enter Tryz.func41, Tryz.ntmps41
  go_wp2
  go_ret
  exact ⟨rfl, by simp⟩
theorem cells_new2 (W : World) (a b : Value) (t : TypeId) (n : Nat) (hn : n = W.heap.size) : ∀ j u, [a, b][j]? = some u → (W.alloc (.cells #[a, b] t)).cell? ((⟨n, 0, none⟩ : Addr).add j) = some u := by
  intro j u hu
  subst hn
  have hb := Blk.new W #[a, b] t
  have hadd : (⟨W.heap.size, 0, none⟩ : Addr).add j = ⟨W.heap.size, j, none⟩ := by unfold Addr.add; split <;> simp_all
  rw [hadd]
  exact hb.cell j (by simpa using hu)
theorem grownBy_alloc_left {W w2 : World} {o : Obj} {row : Option Nat} (h : (W.alloc o).grownBy w2 row) : W.grownBy w2 row :=
  ⟨h.os, h.tape, h.output, Nat.le_trans (by simp) h.size, fun k hk hne => (h.block k (by simp; omega) hne).trans (Below.heap_alloc _ _ _ hk)⟩
theorem grownBy_set (W : World) (g i : Nat) (v : Value) : W.grownBy (W.setCell ⟨g, i, none⟩ v) (some g) :=
  ⟨rfl, rfl, rfl, by simp, fun k _ hne => Below.heap_setCell _ _ _ _ (by simp; intro e; exact hne (by rw [e]))⟩
theorem flat_snocS (l : List (Nat × Nat)) (x : Nat × Nat) : (l ++ [x]).flatMap encS = l.flatMap encS ++ encS x := by simp

/-- where a slice that grew lies: in its old row, or in a new block. -/
def NewRow (W : World) (v v' : Value) : Prop := v'.ownBlock = v.ownBlock ∨ ∀ r, v'.ownBlock = some r → W.heap.size ≤ r
theorem newRow_of {W : World} {o : Obj} {v v' : Value} (h : v'.ownBlock = v.ownBlock ∨ v'.ownBlock = some (W.alloc o).heap.size) : NewRow W v v' := by
  rcases h with h | h
  · exact .inl h
  · refine .inr fun r e => ?_
    rw [h] at e; cases e; simp
set_option maxRecDepth 100000 in
set_option maxHeartbeats 1000000 in
theorem addSp_at (v : Value) (l : List (Nat × Nat)) (f t base : Nat) (W : World) (hown : W.ownsRow base 66 2 v l.length (l.flatMap encS)) (hbase : base ≤ W.heap.size)
    (hl : l.length < 8796093022000) (hf : f < 4611686018427387904) (ht : t < 4611686018427387904) (hls : ∀ s ∈ l, s.2 < 4611686018427387904) :
    Calls Tryz.prog 83 #[v, .int .i64 (f : Int), .int .i64 (t : Int)] W fun e W' =>
      (∃ v', e = .returned v' ∧ W'.ownsRow base 66 2 v' (addS l f t).length ((addS l f t).flatMap encS) ∧ NewRow W v v') ∧ W.grownBy W' v.ownBlock := by
  obtain ⟨i0, hi, hz0, hz1, hz2⟩ := info_parts infoS
  rcases List.eq_nil_or_concat l with rfl | ⟨l', s, rfl⟩
  · obtain ⟨p, cap, rfl⟩ := own_shape hown
    have HO := Lib.hid hown
    clear hown hls hl
    go_enter Tryz.func83, Tryz.ntmps83
    go_wp2_with (at_builtin; refine wpList_append_own_at _ rfl _ _ 62 rfl base 66 i0 _ 2 16 Tryz.underlying62 hi hz0 hz1 hz2 rfl (by decide) _ _ _ rfl (own_alloc HO.out _) ⟨W.heap.size, 0, none⟩ 1 1 (encS (f, t)) rfl rfl (cells_new2 _ _ _ _ _ rfl) (encS_one _) (by unfold maxLen; simp) (by simp) (by simp; omega) ?_; intro v' w2 hown2 hgrow _ hat)
    go_ret
    exact ⟨⟨_, rfl, hown2, newRow_of hat⟩, grownBy_alloc_left hgrow⟩
  · rw [List.concat_eq_append] at hown hl hls ⊢
    have hs2 := hls s (by simp)
    have hk : (l' ++ [s])[l'.length]? = some s := by simp
    obtain ⟨g, cap, cur, rfl, hgb, hh, hcap, hm, hsz, htk, hr⟩ := own_readS hown (by simp)
    have hb : Blk W g cur 66 := ⟨hh⟩
    have c1 := hr l'.length s hk 1 _ rfl
    have f1 := hb.free (l'.length * 2 + 1)
    rw [Nat.zero_add] at c1
    have hlen : (l' ++ [s]).length = l'.length + 1 := by simp
    have HA := Lib.hid (addS_snoc l' s f t)
    have HO := Lib.hid hown
    have HK := Lib.hid hk
    rw [hlen] at HO hl ⊢
    clear hown hr hh htk hsz hb hls hk hcap hm
    have w1 : IntKind.i64.wrap ((((l'.length + 1 : Nat) : Int)) - 1) = (l'.length : Int) := by rw [IntWalk.i64_in _ (by omega)]; omega
    have t1 : decide ((0 : Int) ≤ (l'.length : Int)) = true := by simp
    by_cases hfs : f ≤ s.2
    · have t2 : decide ((f : Int) ≤ (s.2 : Int)) = true := by simp; omega
      have HR := Lib.hid (show addS (l' ++ [s]) f t = (l' ++ [s]).set l'.length (s.1, max s.2 t) by rw [HA.out, if_pos hfs]; simp)
      have hmx : max (s.2 : Int) (t : Int) = ((max s.2 t : Nat) : Int) := by omega
      go_enter Tryz.func83, Tryz.ntmps83
      go_wp2
      go_ret
      have hst := own_storeS (l := l' ++ [s]) (by rw [hlen]; exact HO.out) l'.length s HK.out (max s.2 t)
      rw [hlen] at hst
      rw [HR.out]
      exact ⟨⟨_, rfl, hst, .inl rfl⟩, grownBy_set _ _ _ _⟩
    · have t2 : decide ((f : Int) ≤ (s.2 : Int)) = false := by simp; omega
      have HR := Lib.hid (show addS (l' ++ [s]) f t = (l' ++ [s]) ++ [(f, t)] by rw [HA.out, if_neg hfs]; simp)
      go_enter Tryz.func83, Tryz.ntmps83
      go_wp2_with (at_builtin; refine wpList_append_own_at _ rfl _ _ 62 rfl base 66 i0 _ 2 16 Tryz.underlying62 hi hz0 hz1 hz2 rfl (by decide) _ _ _ rfl (own_alloc HO.out _) ⟨W.heap.size, 0, none⟩ 1 1 (encS (f, t)) rfl rfl (cells_new2 _ _ _ _ _ rfl) (encS_one _) (by unfold maxLen; omega) (by omega) (by simp; omega) ?_; intro v' w2 hown2 hgrow _ hat)
      go_ret
      rw [HR.out]
      exact ⟨⟨_, rfl, own_cast hown2 (by simp) (by rw [flat_snocS, flat_snocS]; simp [encS]), newRow_of hat⟩, grownBy_alloc_left hgrow⟩
theorem addSp_any (v : Value) (l : List (Nat × Nat)) (f t base : Nat) (W : World) (hown : W.ownsRow base 66 2 v l.length (l.flatMap encS)) (hbase : base ≤ W.heap.size)
    (hl : l.length < 8796093022000) (hf : f < 4611686018427387904) (ht : t < 4611686018427387904) (hls : ∀ s ∈ l, s.2 < 4611686018427387904) :
    Calls Tryz.prog 83 #[v, .int .i64 (f : Int), .int .i64 (t : Int)] W fun e W' =>
      (∃ v', e = .returned v' ∧ W'.ownsRow base 66 2 v' (addS l f t).length ((addS l f t).flatMap encS)) ∧ W.grownBy W' v.ownBlock :=
  (addSp_at v l f t base W hown hbase hl hf ht hls).mono fun _ _ h => ⟨let ⟨v', h1, h2, _⟩ := h.1; ⟨v', h1, h2⟩, h.2⟩
end Go.Proofs.YtgbbjobmcbdhdaaGreatDoor
