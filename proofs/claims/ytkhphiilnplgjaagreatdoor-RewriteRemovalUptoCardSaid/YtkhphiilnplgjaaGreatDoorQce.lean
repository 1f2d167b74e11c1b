/-
  Texts of the proof, one behind another: Cu, Cv, Cx, Cy, Cz.
-/
import Derived.Test.YtkhphiilnplgjaaGreatDoorQbe
import Derived.Test.YtkhphiilnplgjaaGreatDoorQcd
import Derived.Lib.QuietBelow
import Derived.Test.YtkhphiilnplgjaaGreatDoorQbj
import Derived.Test.YtkhphiilnplgjaaGreatDoorQba
import Derived.Deep.RegionHeld3
set_option linter.unusedSimpArgs false
set_option linter.unusedVariables false
namespace Go.Proofs.YtkhphiilnplgjaaGreatDoor
open Go.RowKit Go.Shelf Go.Lib Go.Sort

theorem lays_of_below {w w' : World} (h : Below w.heap.size w w') (hd : w.drawn ≤ w'.drawn) : ∃ q os, w' = grow (w.drewN q) os := by
  obtain ⟨p, hp⟩ := regrown_of_below h
  have e : w'.drawn = p.d := by rw [hp]; rfl
  refine ⟨p.d - w.drawn, p.os, ?_⟩
  rw [hp]
  have : w.drewN (p.d - w.drawn) = redrawn w p.d := by
    unfold World.drewN redrawn; rw [show w.drawn + (p.d - w.drawn) = p.d by omega]
  rw [this]

set_option maxRecDepth 100000 in
set_option maxHeartbeats 1000000 in
theorem cmp_clo (x y : BitVec 256) (w : World) (hT : TabAt 0 Lib.deBruijn64tab w) (hg : 0 < w.heap.size) :
    Calls Tryz.prog 80 #[.agg #[.int .u64 (wd x 0), .int .u64 (wd x 1), .int .u64 (wd x 2), .int .u64 (wd x 3)], .agg #[.int .u64 (wd y 0), .int .u64 (wd y 1), .int .u64 (wd y 2), .int .u64 (wd y 3)]] w fun e w' => e = .returned (.int .i64 (Lib.compareInt (leastI x) (leastI y))) ∧ Below w.heap.size w w' ∧ w.drawn ≤ w'.drawn := by
  have HT := Lib.hid hT
  clear hT
  have hb0 : Below w.heap.size w (((w.alloc (.cells #[.int .u64 (wd x 0), .int .u64 (wd x 1), .int .u64 (wd x 2), .int .u64 (wd x 3)] 27)).alloc (.cells #[.int .u64 (wd y 0), .int .u64 (wd y 1), .int .u64 (wd y 2), .int .u64 (wd y 3)] 27)).drew) := by go_grown
  have hY0 := (Blk.alloc1 w #[.int .u64 (wd x 0), .int .u64 (wd x 1), .int .u64 (wd x 2), .int .u64 (wd x 3)] #[.int .u64 (wd y 0), .int .u64 (wd y 1), .int .u64 (wd y 2), .int .u64 (wd y 3)] 27 27).drew
  go_enter Tryz.func80, Tryz.ntmps80
  go_wp2_with fail
  go_region_with (first
    | (go_at_call_of 63 (wd x 0); refine (least_drawn x _ (tab_below HT.out hb0 hg) (by simp)).mono ?_; rintro e w1 ⟨rfl, hb1, hd1⟩; have hb01 := hb0.trans (hb1.mono hb0.size); obtain ⟨y0, y1, y2, y3, -⟩ := (hY0.grows hb1).four)
    | (go_at_call_of 63 (wd y 0); refine (least_drawn y _ (tab_below HT.out hb01 hg) (by have := hb01.size; omega)).mono ?_; rintro e w2 ⟨rfl, hb2, hd2⟩)
    | (go_at_call 81; refine (Tryz.cmp_Compare_int _ _ _).mono ?_; rintro e w3 ⟨rfl, rfl⟩))
  all_goals
    go_wp2
    go_ret
    exact ⟨rfl, hb01.trans (hb2.mono hb01.size), by rw [hd2, hd1]; simp⟩

theorem encC_len (x : BitVec 256) : (encC x).length = 4 := rfl
theorem encC_one (x : BitVec 256) : ∀ v ∈ encC x, v.oneCell' = true := by
  intro v hv; simp [encC] at hv; rcases hv with rfl | rfl | rfl | rfl <;> rfl
def cf (x y : BitVec 256) : Int := Lib.compareInt (leastI x) (leastI y)
theorem lt_cf (x y : BitVec 256) : ltOf cf x y = decide (leastI x < leastI y) := by
  unfold ltOf cf Lib.compareInt
  by_cases h1 : leastI x < leastI y
  · simp [h1]
  · by_cases h2 : leastI y < leastI x <;> simp [h1, h2]
theorem swo_cf : SWO (ltOf cf) where
  irrefl x := by rw [lt_cf]; simp
  trans x y z h1 h2 := by rw [lt_cf] at *; simp at *; omega
  ntrans x y z h1 h2 := by rw [lt_cf] at *; simp at *; omega
theorem isAggC : ∀ w, (isAgg 27).run Tryz.prog w = .ok true w := fun _ => by kernel_rfl
theorem sizeOfC : ∀ w, (Go.sizeOf 27).run Tryz.prog w = .ok 4 w := fun _ => by kernel_rfl
theorem eg_cmp : ∀ args w, (callFunc 80 args).run Tryz.prog w = .ok (.enter 80 args) w := enters_of Tryz.func80 (by kernel_rfl) rfl

theorem cmpLays (blk off size : Nat) (w : World) (hT : TabAt 0 Lib.deBruijn64tab w) (hg : 0 < w.heap.size) (hblk : 0 ≠ blk) :
    CmpLays Tryz.prog 80 #[] encC 4 cf blk off size w := by
  intro m os dk _ x y
  have hT' : TabAt 0 Lib.deBruijn64tab (sortWorldK encC 4 w blk off m dk os) := by
    intro j hj
    rw [cell?_sortWorldK_other encC 4 w blk off m dk os _ hblk hg]; exact hT j hj
  have hg' : 0 < (sortWorldK encC 4 w blk off m dk os).heap.size := Nat.lt_of_lt_of_le hg (size_sortWorldK_c _ _ _ _ _ _ _ _)
  exact (cmp_clo x y _ hT' hg').mono fun e w' ⟨he, hb, hd⟩ => ⟨he, lays_of_below hb hd⟩
end Go.Proofs.YtkhphiilnplgjaaGreatDoor

namespace Go.Proofs.YtkhphiilnplgjaaGreatDoor
open Go.RowKit Go.Shelf Go.Lib Go.Sort

theorem ReadsC.grows {w w' : World} {blk off : Nat} {l : List (BitVec 256)} (h : ReadsC w blk off l) (hb : Below w.heap.size w w') : ReadsC w' blk off l :=
  fun j x hj i v hi => (hb.cell (lt_of_cell (h j x hj i v hi))).trans (h j x hj i v hi)
theorem ReadsC.four {w : World} {blk off : Nat} {l : List (BitVec 256)} (h : ReadsC w blk off l) (j : Nat) (x : BitVec 256) (hj : l[j]? = some x) :
    w.cell? ⟨blk, off + j * 4, none⟩ = some (.int .u64 (wd x 0)) ∧ w.cell? ⟨blk, off + j * 4 + 1, none⟩ = some (.int .u64 (wd x 1)) ∧
    w.cell? ⟨blk, off + j * 4 + 2, none⟩ = some (.int .u64 (wd x 2)) ∧ w.cell? ⟨blk, off + j * 4 + 3, none⟩ = some (.int .u64 (wd x 3)) :=
  ⟨h j x hj 0 _ rfl, h j x hj 1 _ rfl, h j x hj 2 _ rfl, h j x hj 3 _ rfl⟩

theorem infoC : (Tryz.prog.info? 27).map (fun i => (i.zero, i.size, i.bytes)) = some (some (.agg #[.int .u64 0, .int .u64 0, .int .u64 0, .int .u64 0]), 4, 32) := by kernel_rfl

theorem splitL_take (c : BitVec 256) (l : List (BitVec 256)) (k : Nat) (p : BitVec 256) (hp : l[k]? = some p) : splitL c (l.take (k + 1)) = splitL c (l.take k) ++ parts2 c p := by
  unfold splitL; rw [List.take_add_one, hp]; simp
theorem parts2_len (c p : BitVec 256) : (parts2 c p).length ≤ 2 := List.length_filter_le _ _
theorem splitL_len (c : BitVec 256) (l : List (BitVec 256)) : ∀ k, (splitL c (l.take k)).length ≤ 2 * k
  | 0 => by simp [splitL]
  | k + 1 => by
    have ih := splitL_len c l k
    cases hp : l[k]? with
    | none => rw [List.take_add_one, hp]; simp; omega
    | some p => rw [splitL_take c l k p hp, List.length_append]; have := parts2_len c p; omega
/-- what is owned lies in the world as it is. -/
theorem own_old {w : World} {base : Nat} {e : TypeId} {size : Nat} {v : Value} {n : Nat} {xs : List Value} (h : w.ownsRow base e size v n xs) : ∀ g, v.ownBlock = some g → g < w.heap.size := by
  intro g hg
  rcases h.2 with ⟨rfl, _⟩ | ⟨g', cap, cur, rfl, _, hh, _⟩
  · cases hg
  · cases hg; exact Blk.lt (vs := cur) (t := e) ⟨hh⟩
theorem cells_new4 (W : World) (a b c d : Value) (t : TypeId) (n : Nat) (hn : n = W.heap.size) : ∀ j u, [a, b, c, d][j]? = some u → (W.alloc (.cells #[a, b, c, d] t)).cell? ((⟨n, 0, none⟩ : Addr).add j) = some u := by
  intro j u hu
  subst hn
  have hb := Blk.new W #[a, b, c, d] t
  have hadd : (⟨W.heap.size, 0, none⟩ : Addr).add j = ⟨W.heap.size, j, none⟩ := by unfold Addr.add; split <;> simp_all
  rw [hadd]
  exact hb.cell j (by simpa using hu)
/-- the first j of two, the empty ones left out. -/
def two (q0 q1 : BitVec 256) (j : Nat) : List (BitVec 256) := ([q0, q1].take j).filter (fun q => !isZ q)
theorem two_len (q0 q1 : BitVec 256) (j : Nat) : (two q0 q1 j).length ≤ j := Nat.le_trans (List.length_filter_le _ _) (by rw [List.length_take]; omega)
theorem two_no0 (q0 q1 : BitVec 256) (h : isZ q0 = true) : two q0 q1 1 = two q0 q1 0 := by simp [two, h]
theorem two_yes0 (q0 q1 : BitVec 256) (h : isZ q0 = false) : two q0 q1 1 = two q0 q1 0 ++ [q0] := by simp [two, h]
theorem two_no1 (q0 q1 : BitVec 256) (h : isZ q1 = true) : two q0 q1 2 = two q0 q1 1 := by cases h0 : isZ q0 <;> simp [two, h, h0]
theorem two_yes1 (q0 q1 : BitVec 256) (h : isZ q1 = false) : two q0 q1 2 = two q0 q1 1 ++ [q1] := by cases h0 : isZ q0 <;> simp [two, h, h0]
theorem eq_clsZ (x : BitVec 256) (w : World) : (Op.equalIn 10000 27 (.agg #[.int .u64 (wd x 0), .int .u64 (wd x 1), .int .u64 (wd x 2), .int .u64 (wd x 3)]) (.agg #[.int .u64 0, .int .u64 0, .int .u64 0, .int .u64 0])).run Tryz.prog w = .ok (isZ x) w := eq_cls0 x w
theorem eight {W : World} {b : Nat} {u0 u1 u2 u3 v0 v1 v2 v3 : Value} {t : TypeId} (h : Blk W b #[u0, u1, u2, u3, v0, v1, v2, v3] t) :
    (W.cell? ⟨b, 0, none⟩ = some u0 ∧ W.cell? ⟨b, 1, none⟩ = some u1 ∧ W.cell? ⟨b, 2, none⟩ = some u2 ∧ W.cell? ⟨b, 3, none⟩ = some u3) ∧
    W.cell? ⟨b, 4, none⟩ = some v0 ∧ W.cell? ⟨b, 5, none⟩ = some v1 ∧ W.cell? ⟨b, 6, none⟩ = some v2 ∧ W.cell? ⟨b, 7, none⟩ = some v3 :=
  ⟨⟨h.cell 0 rfl, h.cell 1 rfl, h.cell 2 rfl, h.cell 3 rfl⟩, h.cell 4 rfl, h.cell 5 rfl, h.cell 6 rfl, h.cell 7 rfl⟩
theorem held_of {W : World} {b c : Nat} {u0 u1 u2 u3 v0 v1 v2 v3 : Value} {t t' : TypeId} (h : Blk W b #[u0, u1, u2, u3] t) (k : Blk W c #[v0, v1, v2, v3] t') :
    W.cell? ⟨b, 0, none⟩ = some u0 ∧ W.cell? ⟨b, 1, none⟩ = some u1 ∧ W.cell? ⟨b, 2, none⟩ = some u2 ∧ W.cell? ⟨b, 3, none⟩ = some u3 ∧
    W.cell? ⟨c, 0, none⟩ = some v0 ∧ W.cell? ⟨c, 1, none⟩ = some v1 ∧ W.cell? ⟨c, 2, none⟩ = some v2 ∧ W.cell? ⟨c, 3, none⟩ = some v3 :=
  ⟨h.cell 0 rfl, h.cell 1 rfl, h.cell 2 rfl, h.cell 3 rfl, k.cell 0 rfl, k.cell 1 rfl, k.cell 2 rfl, k.cell 3 rfl⟩

set_option maxRecDepth 100000 in
set_option maxHeartbeats 1000000 in
theorem split_any (blk off cap : Nat) (l : List (BitVec 256)) (c : BitVec 256) (w : World) (hR : ReadsC w blk off l) (hl : l.length ≤ 1000) :
    Calls Tryz.prog 78 #[.slice (some ⟨blk, off, none⟩) l.length cap, .agg #[.int .u64 (wd c 0), .int .u64 (wd c 1), .int .u64 (wd c 2), .int .u64 (wd c 3)]] w fun e w' =>
      ∃ v, e = .returned v ∧ w'.ownsRow w.heap.size 27 4 v (splitL c l).length ((splitL c l).flatMap encC) ∧ Below w.heap.size w w' := by
  obtain ⟨i0, hi, hz0, hz1, hz2⟩ := info_parts infoC
  go_enter Tryz.func78, Tryz.ntmps78
  go_wp2
  go_loopw [5, 12] (fun v i wr => ∃ k : Nat, k ≤ l.length ∧ i = .int .i64 k ∧ wr.ownsRow (w.heap.size + 1) 27 4 v (splitL c (l.take k)).length ((splitL c (l.take k)).flatMap encC) ∧ Blk wr w.heap.size #[.int .u64 (wd c 0), .int .u64 (wd c 1), .int .u64 (wd c 2), .int .u64 (wd c 3)] 27 ∧ Below w.heap.size w wr) (fun _ i _ => l.length - (intOf i).toNat)
  case atStart =>
    exact ⟨0, Nat.zero_le _, rfl, World.ownsRow_nil _ _ _ _, Blk.new w _ _, by go_grown⟩
  case round =>
    obtain ⟨k, hk, rfl, hown, hC, hbw⟩ := hrel
    obtain ⟨c0, c1, c2, c3, -⟩ := hC.four
    by_cases hlt : k < l.length
    · obtain ⟨p, hp⟩ : ∃ p, l[k]? = some p := ⟨_, List.getElem?_eq_getElem hlt⟩
      obtain ⟨a0, a1, a2, a3⟩ := hR.four k p hp
      have hlk := lt_of_cell a0
      have a0 := (hbw.cell (p := ⟨blk, off + k * 4, none⟩) hlk).trans a0
      have a1 := (hbw.cell (p := ⟨blk, off + k * 4 + 1, none⟩) hlk).trans a1
      have a2 := (hbw.cell (p := ⟨blk, off + k * 4 + 2, none⟩) hlk).trans a2
      have a3 := (hbw.cell (p := ⟨blk, off + k * 4 + 3, none⟩) hlk).trans a3
      have HPk := Lib.hid hp
      clear hp
      have hP0 := (Blk.new wr #[.int .u64 (wd p 0), .int .u64 (wd p 1), .int .u64 (wd p 2), .int .u64 (wd p 3)] 27).drew
      have hC0 := (hC.alloc (.cells #[.int .u64 (wd p 0), .int .u64 (wd p 1), .int .u64 (wd p 2), .int .u64 (wd p 3)] 27)).drew
      have hS0 := held_of hP0 hC0
      have HP := Lib.hid hP0
      have HC := Lib.hid hC0
      have HS := Lib.hid hS0
      clear hP0 hC0 hS0 hR
      go_wp2_with fail
      go_region_held3 (fun W => W.cell? ⟨wr.heap.size, 0, none⟩ = some (.int .u64 (wd p 0)) ∧ W.cell? ⟨wr.heap.size, 1, none⟩ = some (.int .u64 (wd p 1)) ∧ W.cell? ⟨wr.heap.size, 2, none⟩ = some (.int .u64 (wd p 2)) ∧ W.cell? ⟨wr.heap.size, 3, none⟩ = some (.int .u64 (wd p 3)) ∧
          W.cell? ⟨w.heap.size, 0, none⟩ = some (.int .u64 (wd c 0)) ∧ W.cell? ⟨w.heap.size, 1, none⟩ = some (.int .u64 (wd c 1)) ∧ W.cell? ⟨w.heap.size, 2, none⟩ = some (.int .u64 (wd c 2)) ∧ W.cell? ⟨w.heap.size, 3, none⟩ = some (.int .u64 (wd c 3)))
        (first | exact HS.out | exact HS1.out | exact HS2.out | exact held_of (((HP.out.grows hb1).grows hb2).alloc _) (((HC.out.grows hb1).grows hb2).alloc _))
        (first | (go_at_call 74; refine (intersect_any p c _).mono ?_; rintro e w1 ⟨rfl, hb1⟩; have HS1 := Lib.hid (held_of (HP.out.grows hb1) (HC.out.grows hb1))) | (go_at_call 117; refine (minus_any p c _).mono ?_; rintro e w2 ⟨rfl, hb2⟩; have HS2 := Lib.hid (held_of ((HP.out.grows hb1).grows hb2) ((HC.out.grows hb1).grows hb2))))
      have hk1 : splitL c (l.take (k + 1)) = splitL c (l.take k) ++ parts2 c p := splitL_take c l k p HPk.out
      have HK := Lib.hid hk1
      have hal : (splitL c (l.take k)).length ≤ 2 * k := splitL_len c l k
      have hown2 := own_alloc (own_below (own_below (own_alloc hown (.cells #[.int .u64 (wd p 0), .int .u64 (wd p 1), .int .u64 (wd p 2), .int .u64 (wd p 3)] 27)).drew hb1) hb2) (.cells #[.int .u64 (wd (p &&& c) 0), .int .u64 (wd (p &&& c) 1), .int .u64 (wd (p &&& c) 2), .int .u64 (wd (p &&& c) 3), .int .u64 (wd (p &&& ~~~c) 0), .int .u64 (wd (p &&& ~~~c) 1), .int .u64 (wd (p &&& ~~~c) 2), .int .u64 (wd (p &&& ~~~c) 3)] 27)
      have hold := own_old hown
      have hs1 : wr.heap.size < w2.heap.size := by have h1 := hb1.size; have h2 := hb2.size; simp at h1; omega
      have hbw2 : Below w.heap.size w (w2.alloc (.cells #[.int .u64 (wd (p &&& c) 0), .int .u64 (wd (p &&& c) 1), .int .u64 (wd (p &&& c) 2), .int .u64 (wd (p &&& c) 3), .int .u64 (wd (p &&& ~~~c) 0), .int .u64 (wd (p &&& ~~~c) 1), .int .u64 (wd (p &&& ~~~c) 2), .int .u64 (wd (p &&& ~~~c) 3)] 27)) := by
        refine Below.alloc (Below.trans (Below.trans (Below.drew (Below.alloc hbw hbw.size _)) (hb1.mono ?_)) (hb2.mono ?_)) ?_ _
        all_goals have := hbw.size
        all_goals have := hb1.size
        all_goals simp at this ⊢
        all_goals omega
      have hC2 := ((HC.out.grows hb1).grows hb2).alloc (.cells #[.int .u64 (wd (p &&& c) 0), .int .u64 (wd (p &&& c) 1), .int .u64 (wd (p &&& c) 2), .int .u64 (wd (p &&& c) 3), .int .u64 (wd (p &&& ~~~c) 0), .int .u64 (wd (p &&& ~~~c) 1), .int .u64 (wd (p &&& ~~~c) 2), .int .u64 (wd (p &&& ~~~c) 3)] 27)
      have hL := Blk.new w2 #[.int .u64 (wd (p &&& c) 0), .int .u64 (wd (p &&& c) 1), .int .u64 (wd (p &&& c) 2), .int .u64 (wd (p &&& c) 3), .int .u64 (wd (p &&& ~~~c) 0), .int .u64 (wd (p &&& ~~~c) 1), .int .u64 (wd (p &&& ~~~c) 2), .int .u64 (wd (p &&& ~~~c) 3)] 27
      obtain ⟨L, rfl⟩ : ∃ L, L = w2.heap.size := ⟨_, rfl⟩
      have HR := Lib.hid (And.intro hown2 (And.intro hbw2 (And.intro hC2 hL)))
      clear hk1 hown hown2 hbw2 hC2 hL HS HP HC HS1 HS2 c0 c1 c2 c3 a0 a1 a2 a3 hbw hC hb1 hb2
      generalize splitL c (l.take k) = acc at HK hal HR
      generalize hq0 : p &&& c = q0 at HR ⊢
      generalize hq1 : p &&& ~~~c = q1 at HR ⊢
      have HQ := Lib.hid (And.intro hq0 hq1)
      clear hq0 hq1
      generalize hW3 : w2.alloc (.cells #[.int .u64 (wd q0 0), .int .u64 (wd q0 1), .int .u64 (wd q0 2), .int .u64 (wd q0 3), .int .u64 (wd q1 0), .int .u64 (wd q1 1), .int .u64 (wd q1 2), .int .u64 (wd q1 3)] 27) = W3 at HR ⊢
      clear hW3
      generalize w2.heap.size = L at HR hs1 ⊢
      go_wp2_with fail
      go_loopw [5, 24] (fun v i wi => ∃ j : Nat, j ≤ 2 ∧ i = .int .i64 j ∧ wi.ownsRow (w.heap.size + 1) 27 4 v (acc ++ two q0 q1 j).length ((acc ++ two q0 q1 j).flatMap encC) ∧ (j = 0 → ∀ g, v.ownBlock = some g → g < L) ∧ (j < 2 → Blk wi L #[.int .u64 (wd q0 0), .int .u64 (wd q0 1), .int .u64 (wd q0 2), .int .u64 (wd q0 3), .int .u64 (wd q1 0), .int .u64 (wd q1 1), .int .u64 (wd q1 2), .int .u64 (wd q1 3)] 27) ∧
        Blk wi w.heap.size #[.int .u64 (wd c 0), .int .u64 (wd c 1), .int .u64 (wd c 2), .int .u64 (wd c 3)] 27 ∧ Below w.heap.size w wi) (fun _ i _ => 2 - (intOf i).toNat)
      case atStart =>
        obtain ⟨h1, h2, h3, h4⟩ := HR.out
        exact ⟨0, by omega, rfl, own_cast h1 (by simp [two]) (by simp [two]), fun _ g hg => Nat.lt_trans (hold g hg) hs1, fun _ => h4, h3, h2⟩
      case round =>
        obtain ⟨j, hj, rfl, hown, hog, hL, hC, hbw⟩ := hrel
        have hj3 : j = 0 ∨ j = 1 ∨ j = 2 := by omega
        rcases hj3 with rfl | rfl | rfl
        · obtain ⟨⟨x0, x1, x2, x3⟩, -⟩ := eight (hL (by omega))
          have hb1 : (acc ++ two q0 q1 0).length ≤ 2001 := by rw [List.length_append]; have : (two q0 q1 0).length ≤ 0 := two_len q0 q1 0; omega
          have heq := eq_clsZ q0
          cases hz : isZ q0
          case true =>
            simp only [hz] at heq
            have HE := Lib.hid (two_no0 q0 q1 hz)
            clear hz
            go_wp2
            go_roundw
            case rel => exact ⟨1, by omega, by go_num, by rw [HE.out]; exact own_alloc hown _, fun h => by omega, fun _ => (hL (by omega)).alloc _, hC.alloc _, hbw.alloc hbw.size _⟩
            case measure => simp [intOf]
          case false =>
            simp only [hz] at heq
            have HE := Lib.hid (two_yes0 q0 q1 hz)
            clear hz
            go_wp2_with (at_builtin; go_loud (refine wpList_append_own _ rfl _ _ 38 rfl (w.heap.size + 1) 27 i0 _ 4 32 Tryz.underlying38 hi hz0 hz1 hz2 rfl (by decide) _ _ _ rfl (own_alloc (own_alloc hown _) _) ⟨wr.heap.size + 1, 0, none⟩ 1 1 (encC q0) rfl rfl (cells_new4 _ _ _ _ _ _ _ (by simp)) (encC_one _) (by unfold maxLen; omega) (by omega) (by have := hbw.size; have := hC.lt; simp; omega) ?_); intro v' w5 hown2 hgrow _)
            go_roundw
            case rel =>
              have hg := own_ge hown
              exact ⟨1, by omega, by go_num, by rw [HE.out]; exact own_cast hown2 (by simp; omega) (by simp), fun h => by omega, fun _ => ((hL (by omega)).alloc _ |>.alloc _).grownBy hgrow (fun n e => by have := hog rfl n e; omega), ((hC.alloc _).alloc _).grownBy hgrow (fun n e => by have := hg n e; omega), ((hbw.alloc hbw.size _).alloc (by have := hbw.size; simp; omega) _).grown hgrow (by have := hbw.size; simp; omega) (fun n e => by have := hg n e; omega)⟩
            case measure => simp [intOf]
        · obtain ⟨-, x0, x1, x2, x3⟩ := eight (hL (by omega))
          have hb1 : (acc ++ two q0 q1 1).length ≤ 2001 := by rw [List.length_append]; have : (two q0 q1 1).length ≤ 1 := two_len q0 q1 1; omega
          have heq := eq_clsZ q1
          cases hz : isZ q1
          case true =>
            simp only [hz] at heq
            have HE := Lib.hid (two_no1 q0 q1 hz)
            clear hz
            go_wp2
            go_roundw
            case rel => exact ⟨2, by omega, by go_num, by rw [HE.out]; exact own_alloc hown _, fun h => by omega, fun _ => by omega, hC.alloc _, hbw.alloc hbw.size _⟩
            case measure => simp [intOf]
          case false =>
            simp only [hz] at heq
            have HE := Lib.hid (two_yes1 q0 q1 hz)
            clear hz
            go_wp2_with (at_builtin; go_loud (refine wpList_append_own _ rfl _ _ 38 rfl (w.heap.size + 1) 27 i0 _ 4 32 Tryz.underlying38 hi hz0 hz1 hz2 rfl (by decide) _ _ _ rfl (own_alloc (own_alloc hown _) _) ⟨wr.heap.size + 1, 0, none⟩ 1 1 (encC q1) rfl rfl (cells_new4 _ _ _ _ _ _ _ (by simp)) (encC_one _) (by unfold maxLen; omega) (by omega) (by have := hbw.size; have := hC.lt; simp; omega) ?_); intro v' w5 hown2 hgrow _)
            go_roundw
            case rel =>
              have hg := own_ge hown
              exact ⟨2, by omega, by go_num, by rw [HE.out]; exact own_cast hown2 (by simp; omega) (by simp), fun h => by omega, fun _ => by omega, ((hC.alloc _).alloc _).grownBy hgrow (fun n e => by have := hg n e; omega), ((hbw.alloc hbw.size _).alloc (by have := hbw.size; simp; omega) _).grown hgrow (by have := hbw.size; simp; omega) (fun n e => by have := hg n e; omega)⟩
            case measure => simp [intOf]
        · have HE := Lib.hid (show two q0 q1 2 = parts2 c p by rw [← HQ.out.1, ← HQ.out.2]; rfl)
          rw [HE.out] at hown
          clear HR
          go_wp2
          go_roundw
          case rel => exact ⟨k + 1, by omega, by go_num, by rw [HK.out]; exact hown, hC, hbw⟩
          case measure => simp [intOf]; omega
    · have HT := Lib.hid (show l.take k = l from List.take_of_length_le (by omega))
      clear hR
      go_wp2
      go_ret
      exact ⟨_, rfl, own_cast (own_mono hown (by omega)) (by rw [HT.out]) (by rw [HT.out]), hbw⟩
end Go.Proofs.YtkhphiilnplgjaaGreatDoor

namespace Go.Proofs.YtkhphiilnplgjaaGreatDoor
open Go.RowKit Go.Shelf Go.Lib
open Go.Sort hiding Below

theorem leastI_eq (x : BitVec 256) : leastI x = leastOf x := rfl

theorem flat_len (l : List (BitVec 256)) : (l.flatMap encC).length = l.length * 4 := by
  induction l with
  | nil => rfl
  | cons a l ih => rw [List.flatMap_cons, List.length_append, ih, encC_len, List.length_cons]; omega
theorem flat_get : ∀ (l : List (BitVec 256)) (j : Nat) (x : BitVec 256) (i : Nat) (v : Value), l[j]? = some x → (encC x)[i]? = some v → (l.flatMap encC)[j * 4 + i]? = some v
  | [], j, x, i, v, h, _ => by simp at h
  | a :: l, 0, x, i, v, h, hi => by
    obtain rfl : a = x := by simpa using h
    have hlt : i < (encC a).length := (List.getElem?_eq_some_iff.1 hi).1
    rw [List.flatMap_cons, List.getElem?_append_left (by omega)]; simpa using hi
  | a :: l, j + 1, x, i, v, h, hi => by
    have ih := flat_get l j x i v (by simpa using h) hi
    rw [List.flatMap_cons, List.getElem?_append_right (by rw [encC_len]; omega), encC_len, show (j + 1) * 4 + i - 4 = j * 4 + i by omega]; exact ih

/-- what an owned row of classes says. -/
theorem own_readC {w : World} {base : Nat} {e : TypeId} {v : Value} {l : List (BitVec 256)} (h : w.ownsRow base e 4 v l.length (l.flatMap encC)) (h0 : 0 < l.length) :
    ∃ g cap cur, v = .slice (some ⟨g, 0, none⟩) l.length cap ∧ base ≤ g ∧ w.heap[g]? = some (.cells cur e (0, 0)) ∧ l.length ≤ cap ∧ cap ≤ maxLen ∧ cur.size = cap * 4 ∧ cur.toList.take (l.length * 4) = l.flatMap encC ∧ ReadsC w g 0 l := by
  obtain ⟨hl, ⟨rfl, hn⟩ | ⟨g, cap, cur, rfl, hg, hh, hcap, hm, hsz, htk⟩⟩ := h
  · omega
  · refine ⟨g, cap, cur, rfl, hg, hh, hcap, hm, hsz, htk, fun j x hj i v hi => ?_⟩
    have hjl : j < l.length := (List.getElem?_eq_some_iff.1 hj).1
    have hi4 : i < 4 := by have := (List.getElem?_eq_some_iff.1 hi).1; rw [encC_len] at this; exact this
    have h2 := flat_get l j x i v hj hi
    rw [← htk, List.getElem?_take_of_lt (by omega)] at h2
    rw [Nat.zero_add]
    exact Blk.cell (vs := cur) (t := e) ⟨hh⟩ _ (by simpa using h2)
theorem own_isC {w : World} {base : Nat} {e : TypeId} {v : Value} {l : List (BitVec 256)} (h : w.ownsRow base e 4 v l.length (l.flatMap encC)) : IsC w v l := by
  rcases Nat.eq_zero_or_pos l.length with h0 | h0
  · have hl : l = [] := List.length_eq_zero_iff.1 h0
    subst hl
    rcases h.2 with ⟨rfl, _⟩ | ⟨g, cap, cur, rfl, _⟩
    · exact .inl ⟨rfl, none, 0, rfl⟩
    · exact .inr ⟨g, 0, cap, rfl, fun j x hj => by simp at hj⟩
  · obtain ⟨g, cap, cur, rfl, _, _, _, _, _, _, hr⟩ := own_readC h h0
    exact .inr ⟨g, 0, cap, rfl, hr⟩

theorem flatK_list (l : List (BitVec 256)) : (flatK encC 4 l.toArray).toList = l.flatMap encC := by
  apply List.ext_getElem?
  intro t
  by_cases ht : t < l.length * 4
  · obtain ⟨x, hx⟩ : ∃ x, l[t / 4]? = some x := ⟨_, List.getElem?_eq_getElem (by omega)⟩
    have h4 : t % 4 < (encC x).length := by rw [encC_len]; omega
    have h1 := flat_get l (t / 4) x (t % 4) _ hx (List.getElem?_eq_getElem h4)
    rw [show t / 4 * 4 + t % 4 = t by omega] at h1
    rw [h1]
    have hs : t < (flatK encC 4 l.toArray).toList.length := by simp [size_flatK]; omega
    rw [List.getElem?_eq_getElem hs]
    congr 1
    have hg := get_flatK encC 4 l.toArray t (by simpa using ht)
    have hx' : l.toArray[t / 4]! = x := by
      have := List.getElem?_eq_some_iff.1 hx
      obtain ⟨h5, h6⟩ := this
      rw [getElem!_pos _ _ (by simpa using h5)]; simpa using h6
    rw [hx', getElem!_pos (encC x) (t % 4) h4] at hg
    rw [getElem!_pos (flatK encC 4 l.toArray) t (by rw [size_flatK]; simpa using ht)] at hg
    simpa using hg
  · rw [List.getElem?_eq_none (by simp [size_flatK]; omega), List.getElem?_eq_none (by rw [flat_len]; omega)]

theorem holds_of_own {w : World} {g cap : Nat} {e : TypeId} {cur : Array Value} {l : List (BitVec 256)} (hh : w.heap[g]? = some (.cells cur e (0, 0))) (hcap : l.length ≤ cap) (hsz : cur.size = cap * 4) (htk : cur.toList.take (l.length * 4) = l.flatMap encC) :
    HoldsK encC 4 w g 0 l.toArray := by
  intro j hj
  rw [size_flatK] at hj
  have hj' : j < l.length * 4 := by simpa using hj
  have hb : Blk w g cur e := ⟨hh⟩
  refine ⟨?_, hb.free _⟩
  rw [Nat.zero_add]
  refine hb.cell j ?_
  have h1 : cur.toList[j]? = (l.flatMap encC)[j]? := by rw [← htk, List.getElem?_take_of_lt hj']
  have h2 : (flatK encC 4 l.toArray).toList[j]? = (l.flatMap encC)[j]? := by rw [flatK_list]
  have h3 : j < (flatK encC 4 l.toArray).size := by rw [size_flatK]; exact hj
  rw [getElem!_pos (flatK encC 4 l.toArray) j h3]
  have h4 : (flatK encC 4 l.toArray).toList[j]? = some ((flatK encC 4 l.toArray)[j]) := by
    rw [Array.getElem?_toList, Array.getElem?_eq_getElem h3]
  rw [← Array.getElem?_toList, h1, ← h2, h4]; rfl

theorem sorted_own {w : World} {base g cap q : Nat} {e : TypeId} {os : Array Obj} {cur : Array Value} {l m : List (BitVec 256)} (hg : base ≤ g) (hh : w.heap[g]? = some (.cells cur e (0, 0))) (hcap : l.length ≤ cap) (hm : cap ≤ maxLen) (hsz : cur.size = cap * 4) (hl : m.length = l.length) :
    (sortWorldK encC 4 w g 0 q m.toArray os).ownsRow base e 4 (.slice (some ⟨g, 0, none⟩) l.length cap) m.length (m.flatMap encC) := by
  have hlt : g < w.heap.size := Blk.lt (vs := cur) (t := e) ⟨hh⟩
  refine ⟨flat_len m, .inr ⟨g, cap, Sort.putCells id 0 (flatK encC 4 m.toArray) cur, by rw [hl], hg, ?_, by omega, hm, by simpa [Sort.putCells] using hsz, ?_⟩⟩
  · unfold sortWorldK putRowK
    rw [Sort.heap_grow_old _ _ (by simp [Sort.putRow, Sort.mapBlock, Sort.ahead]; exact hlt)]
    simp [Sort.putRow, Sort.mapBlock, Sort.ahead, Array.getElem?_modify, hh, Sort.onCells]
  · rw [← flatK_list]
    apply List.ext_getElem?
    intro j
    by_cases hj : j < m.length * 4
    · have hjc : j < cur.size := by omega
      have h3 : j < (flatK encC 4 m.toArray).size := by rw [size_flatK]; simpa using hj
      rw [List.getElem?_take_of_lt hj, Array.getElem?_toList, Array.getElem?_toList]
      simp only [Sort.putCells, Array.getElem?_mapIdx, Array.getElem?_eq_getElem hjc, Option.map_some]
      rw [if_pos (by omega), Array.getElem?_eq_getElem h3, getElem!_pos _ _ (by simpa using h3)]; simp
    · rw [List.getElem?_eq_none (by simp; omega), List.getElem?_eq_none (by simp [size_flatK]; omega)]
theorem sorted_below {w0 w : World} {B g q : Nat} {os : Array Obj} {d : Array (BitVec 256)} (h : Below B w0 w) (hg : B ≤ g) (hB : B ≤ w.heap.size) : Below B w0 (sortWorldK encC 4 w g 0 q d os) := by
  refine h.trans ⟨rfl, rfl, rfl, size_sortWorldK_c _ _ _ _ _ _ _ _, fun k hk => ?_⟩
  unfold sortWorldK putRowK
  rw [Sort.heap_grow_old _ _ (by simp [Sort.putRow, Sort.mapBlock, Sort.ahead]; omega)]
  simp only [Sort.putRow, Sort.mapBlock, Sort.ahead, Array.getElem?_modify]
  rw [if_neg (by omega)]

/-- the sort's contract in the words of lists. -/
theorem sort_any (g cap : Nat) (l : List (BitVec 256)) (w : World) (hT : TabAt 0 Lib.deBruijn64tab w) (hg0 : 0 < w.heap.size) (hne : 0 ≠ g) (hH : HoldsK encC 4 w g 0 l.toArray) (hg : g < w.heap.size) (hl : l.length ≤ 256) :
    Calls Tryz.prog 79 #[.slice (some ⟨g, 0, none⟩) l.length cap, .func (.func 80) #[] #[]] w fun e w' =>
      e = .returned (.tuple #[]) ∧ ∃ (m : List (BitVec 256)) (q : Nat) (os : Array Obj), l.Perm m ∧ m.Pairwise (fun a b => leastOf a ≤ leastOf b) ∧ w' = sortWorldK encC 4 w g 0 q m.toArray os := by
  have hc := AnyQ.slices_SortFunc Tryz.sortL 4 isAggC sizeOfC encC encC_len encC_one cf swo_cf 80 #[] g 0 cap l.toArray w eg_cmp (cmpLays g 0 _ w hT hg0 hne) hH hg (by simp; omega)
  refine hc.mono ?_
  rintro e w' ⟨he, d', q, os, hp, hs, hw⟩
  refine ⟨he, d'.toList, q, os, ?_, ?_, by rw [hw]⟩
  · have h1 := hp.2.2
    have hsz := hp.1
    simp only [List.size_toArray] at hsz
    have e1 : (d'.extract 0 l.toArray.size).toList = d'.toList := by rw [List.size_toArray, ← hsz]; simp
    have e2 : (l.toArray.extract 0 l.toArray.size).toList = l := by simp
    rw [e1, e2] at h1
    exact h1.symm
  · have hsz := hp.1
    simp only [List.size_toArray] at hsz
    rw [List.pairwise_iff_getElem]
    intro i j hi hj hij
    have h1 := hs i j (Nat.zero_le _) hij (by simp; simpa [hsz] using hj)
    rw [lt_cf, getElem!_pos _ _ (by simpa using hj), getElem!_pos _ _ (by simpa using hi)] at h1
    simp only [decide_eq_false_iff_not, Int.not_lt] at h1
    simpa [leastI_eq] using h1
end Go.Proofs.YtkhphiilnplgjaaGreatDoor

namespace Go.Proofs.YtkhphiilnplgjaaGreatDoor
open Go.RowKit Go.Shelf Go.Lib
open Go.Sort hiding Below

theorem mem_ofL_snoc (l : List Int) (b : Int) (h0 : 0 ≤ b) (h1 : b < 256) (j : Nat) : mem (ofL (l ++ [b])) j = (mem (ofL l) j || decide (b.toNat = j)) := by
  rw [ofL_snoc, mem_or, mem_bit _ _ (by omega)]
theorem mem_rng (lo : Int) (h0 : 0 ≤ lo) (j : Nat) : ∀ k : Nat, lo + (k : Int) ≤ 256 → mem (rng lo k) j = (decide (lo ≤ (j : Int)) && decide ((j : Int) < lo + (k : Int)))
  | 0, _ => by
    rw [rng_zero, mem_zero]
    by_cases h : lo ≤ (j : Int)
    · have : ¬ (j : Int) < lo + ((0 : Nat) : Int) := by omega
      simp only [this, decide_false, Bool.and_false]
    · simp only [h, decide_false, Bool.false_and]
  | k + 1, hk => by
    rw [rng_succ, mem_or, mem_rng lo h0 j k (by omega), mem_bit _ _ (by omega)]
    by_cases h : lo ≤ (j : Int)
    · by_cases h2 : (j : Int) < lo + (k : Int)
      · have h3 : (j : Int) < lo + ((k + 1 : Nat) : Int) := by omega
        simp only [h, h2, h3, decide_true, Bool.and_self, Bool.true_or]
      · by_cases h4 : (j : Int) = lo + (k : Int)
        · have h3 : (j : Int) < lo + ((k + 1 : Nat) : Int) := by omega
          have h5 : (lo + (k : Int)).toNat = j := by omega
          simp only [h, h2, h3, h5, decide_true, Bool.or_true, Bool.and_self]
        · have h3 : ¬ (j : Int) < lo + ((k + 1 : Nat) : Int) := by omega
          have h5 : ¬ (lo + (k : Int)).toNat = j := by omega
          simp only [h2, h3, h5, decide_false, Bool.and_false, Bool.or_self]
    · have h5 : ¬ (lo + (k : Int)).toNat = j := by omega
      simp only [h, h5, decide_false, Bool.false_and, Bool.or_self]
theorem mem_all (j : Nat) (hj : j < 256) : mem (rng 0 256) j = true := by
  rw [mem_rng 0 (by omega) j 256 (by omega)]
  have h1 : (0 : Int) ≤ (j : Int) := by omega
  have h2 : (j : Int) < 0 + ((256 : Nat) : Int) := by omega
  simp only [h1, h2, decide_true, Bool.and_self]
theorem rng_all : rng 0 256 = ~~~(0 : BitVec 256) := mem_ext fun j hj => by rw [mem_all j hj, mem_not _ _ hj, mem_zero]; rfl

/-- the cells before they are sorted. -/
def raw (l : List (BitVec 256)) : List (BitVec 256) := l.foldl (fun a c => splitL c a) [rng 0 256]
theorem raw_snoc (l : List (BitVec 256)) (c : BitVec 256) : raw (l ++ [c]) = splitL c (raw l) := by unfold raw; rw [List.foldl_append]; rfl
theorem raw_take (l : List (BitVec 256)) (k : Nat) (c : BitVec 256) (hc : l[k]? = some c) : raw (l.take (k + 1)) = splitL c (raw (l.take k)) := by
  rw [List.take_add_one, hc]; exact raw_snoc _ _
theorem inv_nil : Inv [] [rng 0 256] where
  cover j hj := ⟨_, by simp, mem_all j hj⟩
  ne p hp := by obtain rfl : p = rng 0 256 := by simpa using hp
                exact ne_zero_of_mem (mem_all 0 (by omega))
  same p hp i j hj _ := by obtain rfl : p = rng 0 256 := by simpa using hp
                           rw [mem_all j hj]; rfl
  apart := List.pairwise_singleton _ _
theorem inv_raw (l : List (BitVec 256)) : ∀ k, Inv (l.take k) (raw (l.take k))
  | 0 => inv_nil
  | k + 1 => by
    have ih := inv_raw l k
    cases hc : l[k]? with
    | none => rw [List.take_add_one, hc]; simpa using ih
    | some c => rw [raw_take l k c hc, List.take_add_one, hc]; exact ih.split c
theorem raw_pos (l : List (BitVec 256)) (k : Nat) : 0 < (raw (l.take k)).length := by
  obtain ⟨p, hp, _⟩ := (inv_raw l k).cover 0 (by omega)
  exact List.length_pos_of_mem hp

set_option maxRecDepth 100000 in
set_option maxHeartbeats 1000000 in
theorem cells_some (blk off cap : Nat) (l : List (BitVec 256)) (w : World) (hR : ReadsC w blk off l) (hl : l.length ≤ 1000) (hT : TabAt 0 Lib.deBruijn64tab w) (hg0 : 0 < w.heap.size) :
    Calls Tryz.prog 59 #[.slice (some ⟨blk, off, none⟩) l.length cap] w fun e w' =>
      ∃ v, e = .returned v ∧ w'.ownsRow w.heap.size 27 4 v (canon l).length ((canon l).flatMap encC) ∧ Below w.heap.size w w' := by
  have HT := Lib.hid hT
  clear hT
  go_enter Tryz.func59, Tryz.ntmps59
  go_wp2_with (go_at_call 48; refine (range_any 0 255 _ (by omega) (by omega) (by omega) (by omega)).mono ?_; rintro e w1 ⟨rfl, hb1⟩)
  go_loopw [3, 10] (fun v i wr => ∃ k : Nat, k ≤ l.length ∧ i = .int .i64 k ∧ wr.ownsRow w.heap.size 27 4 v (raw (l.take k)).length ((raw (l.take k)).flatMap encC) ∧ Below w.heap.size w wr) (fun _ i _ => l.length - (intOf i).toNat)
  case atStart =>
    refine ⟨0, Nat.zero_le _, rfl, ?_, hb1.alloc hb1.size _⟩
    exact own_of_blk (Blk.new w1 #[.int .u64 (wd (rng 0 256) 0), .int .u64 (wd (rng 0 256) 1), .int .u64 (wd (rng 0 256) 2), .int .u64 (wd (rng 0 256) 3)] 27) 1 4 rfl (by unfold maxLen; omega) hb1.size
  case round =>
    obtain ⟨k, hk, rfl, hown, hbw⟩ := hrel
    have hpos := raw_pos l k
    have hlen := (inv_raw l k).len
    by_cases hlt : k < l.length
    · obtain ⟨c, hc⟩ : ∃ c, l[k]? = some c := ⟨_, List.getElem?_eq_getElem hlt⟩
      obtain ⟨a0, a1, a2, a3⟩ := hR.four k c hc
      have hlk := lt_of_cell a0
      have a0 := (hbw.cell (p := ⟨blk, off + k * 4, none⟩) hlk).trans a0
      have a1 := (hbw.cell (p := ⟨blk, off + k * 4 + 1, none⟩) hlk).trans a1
      have a2 := (hbw.cell (p := ⟨blk, off + k * 4 + 2, none⟩) hlk).trans a2
      have a3 := (hbw.cell (p := ⟨blk, off + k * 4 + 3, none⟩) hlk).trans a3
      have HK := Lib.hid (raw_take l k c hc)
      have HR := Lib.hid hR
      clear hc hR
      obtain ⟨g, cp, cur, rfl, hgb, hh, hcap, hm, hsz, htk, hread⟩ := own_readC hown hpos
      generalize raw (l.take k) = L at *
      have HC := Lib.hid (split_any g 0 cp L c (wr.alloc (.cells #[.int .u64 (wd c 0), .int .u64 (wd c 1), .int .u64 (wd c 2), .int .u64 (wd c 3)] 27)) (hread.grows ((Below.refl _ wr).alloc (Nat.le_refl _) _)) (by omega))
      clear hread htk hsz hm hcap hh hown
      go_wp2_with (go_at_call 78; refine HC.out.mono ?_; rintro e w2 ⟨v, rfl, hown2, hb2⟩)
      go_roundw
      case rel => exact ⟨k + 1, by omega, by go_num, by rw [HK.out]; exact own_mono hown2 (by have := hbw.size; simp; omega), (hbw.alloc hbw.size _).trans (hb2.mono (by have := hbw.size; simp; omega))⟩
      case measure => simp [intOf]; omega
    · have hinv := inv_raw l k
      have ht : l.take k = l := List.take_of_length_le (by omega)
      rw [ht] at hinv hpos hlen hown
      obtain ⟨g, cp, cur, rfl, hgb, hh, hcap, hm, hsz, htk, hread⟩ := own_readC hown hpos
      have HS := Lib.hid (sort_any g cp (raw l) wr (tab_below HT.out hbw hg0) (by have := hbw.size; omega) (by omega) (holds_of_own hh hcap hsz htk) (Blk.lt (vs := cur) (t := 27) ⟨hh⟩) hlen)
      have HI := Lib.hid hinv
      have HD := Lib.hid (And.intro hh (And.intro hcap (And.intro hm hsz)))
      clear hR hread htk hown hinv hh hcap hm hsz ht
      generalize raw l = L at *
      go_wp2_with (go_at_call 79; refine HS.out.mono ?_; rintro e w2 ⟨rfl, m, q, os, hp, hs, hw2⟩)
      go_ret
      obtain ⟨hh, hcap, hm, hsz⟩ := HD.out
      have hcn := (HI.out.perm hp).eq_canon ((HI.out.perm hp).incr_of_le hs)
      subst hcn
      refine ⟨_, rfl, ?_, ?_⟩
      · exact sorted_own hgb hh hcap hm hsz hp.length_eq.symm
      · exact sorted_below hbw hgb hbw.size

set_option maxRecDepth 100000 in
set_option maxHeartbeats 1000000 in
theorem cells_nil (p : Option Addr) (cap0 : Nat) (w : World) (hT : TabAt 0 Lib.deBruijn64tab w) (hg0 : 0 < w.heap.size) :
    Calls Tryz.prog 59 #[.slice p 0 cap0] w fun e w' =>
      ∃ v, e = .returned v ∧ w'.ownsRow w.heap.size 27 4 v (canon []).length ((canon []).flatMap encC) ∧ Below w.heap.size w w' := by
  have HT := Lib.hid hT
  clear hT
  go_enter Tryz.func59, Tryz.ntmps59
  go_wp2_with (go_at_call 48; refine (range_any 0 255 _ (by omega) (by omega) (by omega) (by omega)).mono ?_; rintro e w1 ⟨rfl, hb1⟩)
  have hbw := hb1.alloc hb1.size (.cells #[.int .u64 (wd (rng 0 256) 0), .int .u64 (wd (rng 0 256) 1), .int .u64 (wd (rng 0 256) 2), .int .u64 (wd (rng 0 256) 3)] 27)
  have hown : (w1.alloc (.cells #[.int .u64 (wd (rng 0 256) 0), .int .u64 (wd (rng 0 256) 1), .int .u64 (wd (rng 0 256) 2), .int .u64 (wd (rng 0 256) 3)] 27)).ownsRow w.heap.size 27 4 (.slice (some ⟨w1.heap.size, 0, none⟩) 1 1) [rng 0 256].length ([rng 0 256].flatMap encC) :=
    own_of_blk (Blk.new w1 #[.int .u64 (wd (rng 0 256) 0), .int .u64 (wd (rng 0 256) 1), .int .u64 (wd (rng 0 256) 2), .int .u64 (wd (rng 0 256) 3)] 27) 1 4 rfl (by unfold maxLen; omega) hb1.size
  obtain ⟨g, cp, cur, hv, hgb, hh, hcap, hm, hsz, htk, hread⟩ := own_readC hown (by simp)
  simp only [Value.slice.injEq, Option.some.injEq, Addr.mk.injEq, and_true, true_and, List.length_cons, List.length_nil, Nat.zero_add] at hv
  obtain ⟨rfl, rfl⟩ := hv
  have HS := Lib.hid (sort_any w1.heap.size 1 [rng 0 256] _ (tab_below HT.out hbw hg0) (by have := hbw.size; omega) (by have := hb1.size; omega) (holds_of_own hh hcap hsz htk) (Blk.lt (vs := cur) (t := 27) ⟨hh⟩) (by simp))
  have HD := Lib.hid (And.intro hh (And.intro hcap (And.intro hm (And.intro hsz hbw))))
  clear hread htk hown hh hcap hm hsz hbw
  refine wp_loop_rounds 1 ?_
  rw [rounds_succ]
  go_wp2_with (go_at_call 79; refine HS.out.mono ?_; rintro e w2 ⟨rfl, m, q, os, hp, hs, hw2⟩)
  go_ret
  obtain ⟨hh, hcap, hm, hsz, hbw⟩ := HD.out
  have hcn := (inv_nil.perm hp).eq_canon ((inv_nil.perm hp).incr_of_le hs)
  subst hcn
  refine ⟨_, rfl, ?_, ?_⟩
  · exact sorted_own hgb hh hcap hm hsz hp.length_eq.symm
  · exact sorted_below hbw hgb hbw.size

/-- Cells at whatever slice reads as a list. -/
theorem cells_any (v : Value) (l : List (BitVec 256)) (w : World) (hv : IsC w v l) (hl : l.length ≤ 1000) (hT : TabAt 0 Lib.deBruijn64tab w) (hg0 : 0 < w.heap.size) :
    Calls Tryz.prog 59 #[v] w fun e w' =>
      ∃ v, e = .returned v ∧ w'.ownsRow w.heap.size 27 4 v (canon l).length ((canon l).flatMap encC) ∧ Below w.heap.size w w' := by
  rcases hv with ⟨rfl, p, cap, rfl⟩ | ⟨blk, off, cap, rfl, hR⟩
  · exact cells_nil p cap w hT hg0
  · exact cells_some blk off cap l w hR hl hT hg0
end Go.Proofs.YtkhphiilnplgjaaGreatDoor

namespace Go.Proofs.YtkhphiilnplgjaaGreatDoor
open Go.RowKit Go.Shelf Go.Lib

/-- the place of the first class that has b, or -1. -/
def ix (l : List (BitVec 256)) (b : Nat) : Int := Lib.idxBy (fun _ y => mem y b) l (default : BitVec 256)

theorem eg_ix : ∀ args w, (callFunc 68 args).run Tryz.prog w = .ok (.enter 68 args) w := enters_of Tryz.func68 (by kernel_rfl) rfl
theorem ix_clo (b : Int) (h0 : 0 ≤ b) (h1 : b < 256) (B : Nat) (w : World) (hB : Blk w B #[.int .u8 b] 5) :
    PredBelow Tryz.prog 68 #[.pointer (some ⟨B, 0, none⟩)] (fun x => .agg (encC x).toArray) (fun x => mem x b.toNat) w := fun W x hb => by
  have hc := (hB.grows hb).cell 0 rfl
  have hBW : B < W.heap.size := (hB.grows hb).lt
  have hne : B ≠ W.heap.size := by omega
  show Calls Tryz.prog 68 #[.agg #[.int .u64 (wd x 0), .int .u64 (wd x 1), .int .u64 (wd x 2), .int .u64 (wd x 3)], .pointer (some ⟨B, 0, none⟩)] W _
  go_enter Tryz.func68, Tryz.ntmps68
  go_wp2_with (go_at_call 39; refine (has_any x b _ h0 h1).mono ?_; rintro e w1 ⟨rfl, hb1⟩)
  go_ret
  exact ⟨rfl, (hb.alloc hb.size _).trans (hb1.mono (by have := hb.size; simp; omega))⟩

theorem indexFunc_none (p : Option Addr) (cap : Nat) (fv : Value) (w : World) :
    Calls Tryz.prog 67 #[.slice p 0 cap, fv] w fun e w' => e = .returned (.int .i64 (-1)) ∧ w = w' := by
  go_enter Tryz.func67, Tryz.ntmps67
  go_wp2_with fail
  refine wp_loop_rounds 1 ?_
  rw [rounds_succ]
  go_wp2_with fail
  go_ret
  exact ⟨rfl, rfl⟩

theorem index_any (v : Value) (l : List (BitVec 256)) (b : Int) (h0 : 0 ≤ b) (h1 : b < 256) (w : World) (hv : IsC w v l) (hl : l.length ≤ 1000) :
    Calls Tryz.prog 50 #[v, .int .u8 b] w fun e w' => e = .returned (.int .i64 (ix l b.toNat)) ∧ Below w.heap.size w w' := by
  by_cases hz : l = []
  · subst hz
    have hvs : ∃ p cap, v = .slice p 0 cap := by
      rcases hv with ⟨_, p, cap, rfl⟩ | ⟨blk, off, cap, rfl, _⟩
      · exact ⟨_, _, rfl⟩
      · exact ⟨_, _, rfl⟩
    obtain ⟨p, cap, rfl⟩ := hvs
    go_enter Tryz.func50, Tryz.ntmps50
    go_wp2_with (go_at_call 67; refine (indexFunc_none p cap _ _).mono ?_; rintro e w1 ⟨rfl, rfl⟩)
    go_ret
    exact ⟨rfl, by go_grown⟩
  · rcases hv with ⟨h, _⟩ | ⟨blk, off, cap, rfl, hR⟩
    · exact (hz h).elim
    · have hpos : 0 < l.length := by cases l with | nil => exact (hz rfl).elim | cons => simp
      have hblk : blk < w.heap.size := by
        obtain ⟨x, hx⟩ : ∃ x, l[0]? = some x := ⟨_, List.getElem?_eq_getElem hpos⟩
        exact lt_of_cell (hR 0 x hx 0 _ rfl)
      have hc := AnyQ.slices_IndexFunc Tryz.idxL 4 isAggC sizeOfC encC encC_len (fun x => mem x b.toNat) 68 #[.pointer (some ⟨w.heap.size, 0, none⟩)] eg_ix blk off l.length cap l (w.alloc (.cells #[.int .u8 b] 5))
        (ix_clo b h0 h1 _ _ (Blk.new w _ _)) (Nat.le_refl _) (by omega) (by simp; omega) (fun j hj i v hi => by
          have h2 := hR j (l[j]) (List.getElem?_eq_getElem hj) i v (by rw [getElem!_pos l j hj] at hi; exact hi)
          exact cell_lay h2 _)
      rw [List.take_length] at hc
      have hc' : Calls Tryz.prog 67 #[.slice (some ⟨blk, off, none⟩) l.length cap, .func (.func 68) #[] #[.pointer (some ⟨w.heap.size, 0, none⟩)]] (w.alloc (.cells #[.int .u8 b] 5)) fun e w' => e = .returned (.int .i64 (ix l b.toNat)) ∧ Below (w.alloc (.cells #[.int .u8 b] 5)).heap.size (w.alloc (.cells #[.int .u8 b] 5)) w' := hc
      have HC := Lib.hid hc'
      clear hc hc' hR
      generalize ix l b.toNat = r at HC ⊢
      go_enter Tryz.func50, Tryz.ntmps50
      go_wp2_with (go_at_call 67; refine HC.out.mono ?_; rintro e w1 ⟨rfl, hb1⟩)
      go_ret
      exact ⟨rfl, Below.trans (by go_grown) (hb1.mono (by simp))⟩
end Go.Proofs.YtkhphiilnplgjaaGreatDoor
