/-
  Walks: the cells split by one class.
-/
import Derived.Test.YthhlehhienndeaaDoorU
import Derived.Test.YthhlehhienndeaaDoorEq
import Derived.Test.YthhlehhienndeaaDoorW
import Derived.Deep.RegionHeld3
set_option linter.unusedSimpArgs false
set_option linter.unusedVariables false
namespace Go.Proofs.YthhlehhienndeaaDoor
open Go.RowKit Go.Shelf Go.Lib Go.Sort

/-- these classes stand one behind the other from there on. -/
def ReadsC (w : World) (blk off : Nat) (l : List (BitVec 256)) : Prop := ∀ j x, l[j]? = some x → ∀ i v, (encC x)[i]? = some v → w.cell? ⟨blk, off + j * 4 + i, none⟩ = some v
/-- the value is a slice that reads as these classes. -/
def IsC (w : World) (v : Value) (l : List (BitVec 256)) : Prop :=
  (l = [] ∧ ∃ p cap, v = .slice p 0 cap) ∨ ∃ blk off cap, v = .slice (some ⟨blk, off, none⟩) l.length cap ∧ ReadsC w blk off l

theorem lt_of_cell {w : World} {a : Addr} {v : Value} (h : w.cell? a = some v) : a.block < w.heap.size := by
  rcases Nat.lt_or_ge a.block w.heap.size with hlt | hge
  · exact hlt
  · unfold World.cell? at h; rw [Array.getElem?_eq_none hge] at h; cases h
theorem ReadsC.grows {w w' : World} {blk off : Nat} {l : List (BitVec 256)} (h : ReadsC w blk off l) (hb : Below w.heap.size w w') : ReadsC w' blk off l :=
  fun j x hj i v hi => (hb.cell (lt_of_cell (h j x hj i v hi))).trans (h j x hj i v hi)
theorem IsC.grows {w w' : World} {v : Value} {l : List (BitVec 256)} (h : IsC w v l) (hb : Below w.heap.size w w') : IsC w' v l := by
  rcases h with h | ⟨blk, off, cap, rfl, h⟩
  · exact .inl h
  · exact .inr ⟨blk, off, cap, rfl, h.grows hb⟩
theorem ReadsC.four {w : World} {blk off : Nat} {l : List (BitVec 256)} (h : ReadsC w blk off l) (j : Nat) (x : BitVec 256) (hj : l[j]? = some x) :
    w.cell? ⟨blk, off + j * 4, none⟩ = some (.int .u64 (wd x 0)) ∧ w.cell? ⟨blk, off + j * 4 + 1, none⟩ = some (.int .u64 (wd x 1)) ∧
    w.cell? ⟨blk, off + j * 4 + 2, none⟩ = some (.int .u64 (wd x 2)) ∧ w.cell? ⟨blk, off + j * 4 + 3, none⟩ = some (.int .u64 (wd x 3)) :=
  ⟨h j x hj 0 _ rfl, h j x hj 1 _ rfl, h j x hj 2 _ rfl, h j x hj 3 _ rfl⟩

theorem infoC : (Tryd.prog.info? 24).map (fun i => (i.zero, i.size, i.bytes)) = some (some (.agg #[.int .u64 0, .int .u64 0, .int .u64 0, .int .u64 0]), 4, 32) := by kernel_rfl

theorem splitL_take (c : BitVec 256) (l : List (BitVec 256)) (k : Nat) (p : BitVec 256) (hp : l[k]? = some p) : splitL c (l.take (k + 1)) = splitL c (l.take k) ++ parts2 c p := by
  unfold splitL; rw [List.take_add_one, hp]; simp
theorem parts2_len (c p : BitVec 256) : (parts2 c p).length ≤ 2 := List.length_filter_le _ _
theorem splitL_len (c : BitVec 256) (l : List (BitVec 256)) : ∀ k, (splitL c (l.take k)).length ≤ 2 * k
  | 0 => by simp [splitL]
  | k + 1 => by
    have ih := splitL_len c l k
    cases hp : l[k]? with
    | none => rw [List.take_add_one, hp]; simp; omega
    | some p => rw [splitL_take c l k p hp, List.length_append]; have := parts2_len c p; omega
/-- what is owned lies in the world as it is. -/
theorem own_old {w : World} {base : Nat} {e : TypeId} {size : Nat} {v : Value} {n : Nat} {xs : List Value} (h : w.ownsRow base e size v n xs) : ∀ g, v.ownBlock = some g → g < w.heap.size := by
  intro g hg
  rcases h.2 with ⟨rfl, _⟩ | ⟨g', cap, cur, rfl, _, hh, _⟩
  · cases hg
  · cases hg; exact Blk.lt (vs := cur) (t := e) ⟨hh⟩
theorem cells_new4 (W : World) (a b c d : Value) (t : TypeId) (n : Nat) (hn : n = W.heap.size) : ∀ j u, [a, b, c, d][j]? = some u → (W.alloc (.cells #[a, b, c, d] t)).cell? ((⟨n, 0, none⟩ : Addr).add j) = some u := by
  intro j u hu
  subst hn
  have hb := Blk.new W #[a, b, c, d] t
  have hadd : (⟨W.heap.size, 0, none⟩ : Addr).add j = ⟨W.heap.size, j, none⟩ := by unfold Addr.add; split <;> simp_all
  rw [hadd]
  exact hb.cell j (by simpa using hu)
/-- the first j of two, the empty ones left out. -/
def two (q0 q1 : BitVec 256) (j : Nat) : List (BitVec 256) := ([q0, q1].take j).filter (fun q => !isZ q)
theorem two_len (q0 q1 : BitVec 256) (j : Nat) : (two q0 q1 j).length ≤ j := Nat.le_trans (List.length_filter_le _ _) (by rw [List.length_take]; omega)
theorem two_no0 (q0 q1 : BitVec 256) (h : isZ q0 = true) : two q0 q1 1 = two q0 q1 0 := by simp [two, h]
theorem two_yes0 (q0 q1 : BitVec 256) (h : isZ q0 = false) : two q0 q1 1 = two q0 q1 0 ++ [q0] := by simp [two, h]
theorem two_no1 (q0 q1 : BitVec 256) (h : isZ q1 = true) : two q0 q1 2 = two q0 q1 1 := by cases h0 : isZ q0 <;> simp [two, h, h0]
theorem two_yes1 (q0 q1 : BitVec 256) (h : isZ q1 = false) : two q0 q1 2 = two q0 q1 1 ++ [q1] := by cases h0 : isZ q0 <;> simp [two, h, h0]
theorem eq_clsZ (x : BitVec 256) (w : World) : (Op.equalIn 10000 24 (.agg #[.int .u64 (wd x 0), .int .u64 (wd x 1), .int .u64 (wd x 2), .int .u64 (wd x 3)]) (.agg #[.int .u64 0, .int .u64 0, .int .u64 0, .int .u64 0])).run Tryd.prog w = .ok (isZ x) w := eq_cls0 x w
theorem eight {W : World} {b : Nat} {u0 u1 u2 u3 v0 v1 v2 v3 : Value} {t : TypeId} (h : Blk W b #[u0, u1, u2, u3, v0, v1, v2, v3] t) :
    (W.cell? ⟨b, 0, none⟩ = some u0 ∧ W.cell? ⟨b, 1, none⟩ = some u1 ∧ W.cell? ⟨b, 2, none⟩ = some u2 ∧ W.cell? ⟨b, 3, none⟩ = some u3) ∧
    W.cell? ⟨b, 4, none⟩ = some v0 ∧ W.cell? ⟨b, 5, none⟩ = some v1 ∧ W.cell? ⟨b, 6, none⟩ = some v2 ∧ W.cell? ⟨b, 7, none⟩ = some v3 :=
  ⟨⟨h.cell 0 rfl, h.cell 1 rfl, h.cell 2 rfl, h.cell 3 rfl⟩, h.cell 4 rfl, h.cell 5 rfl, h.cell 6 rfl, h.cell 7 rfl⟩
theorem held_of {W : World} {b c : Nat} {u0 u1 u2 u3 v0 v1 v2 v3 : Value} {t t' : TypeId} (h : Blk W b #[u0, u1, u2, u3] t) (k : Blk W c #[v0, v1, v2, v3] t') :
    W.cell? ⟨b, 0, none⟩ = some u0 ∧ W.cell? ⟨b, 1, none⟩ = some u1 ∧ W.cell? ⟨b, 2, none⟩ = some u2 ∧ W.cell? ⟨b, 3, none⟩ = some u3 ∧
    W.cell? ⟨c, 0, none⟩ = some v0 ∧ W.cell? ⟨c, 1, none⟩ = some v1 ∧ W.cell? ⟨c, 2, none⟩ = some v2 ∧ W.cell? ⟨c, 3, none⟩ = some v3 :=
  ⟨h.cell 0 rfl, h.cell 1 rfl, h.cell 2 rfl, h.cell 3 rfl, k.cell 0 rfl, k.cell 1 rfl, k.cell 2 rfl, k.cell 3 rfl⟩

set_option maxRecDepth 100000 in
set_option maxHeartbeats 1000000 in
theorem split_any (blk off cap : Nat) (l : List (BitVec 256)) (c : BitVec 256) (w : World) (hR : ReadsC w blk off l) (hl : l.length ≤ 1000) :
    Calls Tryd.prog 46 #[.slice (some ⟨blk, off, none⟩) l.length cap, .agg #[.int .u64 (wd c 0), .int .u64 (wd c 1), .int .u64 (wd c 2), .int .u64 (wd c 3)]] w fun e w' =>
      ∃ v, e = .returned v ∧ w'.ownsRow w.heap.size 24 4 v (splitL c l).length ((splitL c l).flatMap encC) ∧ Below w.heap.size w w' := by
  obtain ⟨i0, hi, hz0, hz1, hz2⟩ := info_parts infoC
  go_enter Tryd.func46, Tryd.ntmps46
  go_wp2
  go_loopw [5, 12] (fun v i wr => ∃ k : Nat, k ≤ l.length ∧ i = .int .i64 k ∧ wr.ownsRow (w.heap.size + 1) 24 4 v (splitL c (l.take k)).length ((splitL c (l.take k)).flatMap encC) ∧ Blk wr w.heap.size #[.int .u64 (wd c 0), .int .u64 (wd c 1), .int .u64 (wd c 2), .int .u64 (wd c 3)] 24 ∧ Below w.heap.size w wr) (fun _ i _ => l.length - (intOf i).toNat)
  case atStart =>
    exact ⟨0, Nat.zero_le _, rfl, World.ownsRow_nil _ _ _ _, Blk.new w _ _, by go_grown⟩
  case round =>
    obtain ⟨k, hk, rfl, hown, hC, hbw⟩ := hrel
    obtain ⟨c0, c1, c2, c3, -⟩ := hC.four
    by_cases hlt : k < l.length
    · obtain ⟨p, hp⟩ : ∃ p, l[k]? = some p := ⟨_, List.getElem?_eq_getElem hlt⟩
      obtain ⟨a0, a1, a2, a3⟩ := hR.four k p hp
      have hlk := lt_of_cell a0
      have a0 := (hbw.cell (p := ⟨blk, off + k * 4, none⟩) hlk).trans a0
      have a1 := (hbw.cell (p := ⟨blk, off + k * 4 + 1, none⟩) hlk).trans a1
      have a2 := (hbw.cell (p := ⟨blk, off + k * 4 + 2, none⟩) hlk).trans a2
      have a3 := (hbw.cell (p := ⟨blk, off + k * 4 + 3, none⟩) hlk).trans a3
      have HPk := Lib.hid hp
      clear hp
      have hP0 := (Blk.new wr #[.int .u64 (wd p 0), .int .u64 (wd p 1), .int .u64 (wd p 2), .int .u64 (wd p 3)] 24).drew
      have hC0 := (hC.alloc (.cells #[.int .u64 (wd p 0), .int .u64 (wd p 1), .int .u64 (wd p 2), .int .u64 (wd p 3)] 24)).drew
      have hS0 := held_of hP0 hC0
      have HP := Lib.hid hP0
      have HC := Lib.hid hC0
      have HS := Lib.hid hS0
      clear hP0 hC0 hS0 hR
      go_wp2_with fail
      go_region_held3 (fun W => W.cell? ⟨wr.heap.size, 0, none⟩ = some (.int .u64 (wd p 0)) ∧ W.cell? ⟨wr.heap.size, 1, none⟩ = some (.int .u64 (wd p 1)) ∧ W.cell? ⟨wr.heap.size, 2, none⟩ = some (.int .u64 (wd p 2)) ∧ W.cell? ⟨wr.heap.size, 3, none⟩ = some (.int .u64 (wd p 3)) ∧
          W.cell? ⟨w.heap.size, 0, none⟩ = some (.int .u64 (wd c 0)) ∧ W.cell? ⟨w.heap.size, 1, none⟩ = some (.int .u64 (wd c 1)) ∧ W.cell? ⟨w.heap.size, 2, none⟩ = some (.int .u64 (wd c 2)) ∧ W.cell? ⟨w.heap.size, 3, none⟩ = some (.int .u64 (wd c 3)))
        (first | exact HS.out | exact HS1.out | exact HS2.out | exact held_of (((HP.out.grows hb1).grows hb2).alloc _) (((HC.out.grows hb1).grows hb2).alloc _))
        (first | (go_at_call 18; refine (intersect_any p c _).mono ?_; rintro e w1 ⟨rfl, hb1⟩; have HS1 := Lib.hid (held_of (HP.out.grows hb1) (HC.out.grows hb1))) | (go_at_call 20; refine (minus_any p c _).mono ?_; rintro e w2 ⟨rfl, hb2⟩; have HS2 := Lib.hid (held_of ((HP.out.grows hb1).grows hb2) ((HC.out.grows hb1).grows hb2))))
      have hk1 : splitL c (l.take (k + 1)) = splitL c (l.take k) ++ parts2 c p := splitL_take c l k p HPk.out
      have HK := Lib.hid hk1
      have hal : (splitL c (l.take k)).length ≤ 2 * k := splitL_len c l k
      have hown2 := own_alloc (own_below (own_below (own_alloc hown (.cells #[.int .u64 (wd p 0), .int .u64 (wd p 1), .int .u64 (wd p 2), .int .u64 (wd p 3)] 24)).drew hb1) hb2) (.cells #[.int .u64 (wd (p &&& c) 0), .int .u64 (wd (p &&& c) 1), .int .u64 (wd (p &&& c) 2), .int .u64 (wd (p &&& c) 3), .int .u64 (wd (p &&& ~~~c) 0), .int .u64 (wd (p &&& ~~~c) 1), .int .u64 (wd (p &&& ~~~c) 2), .int .u64 (wd (p &&& ~~~c) 3)] 24)
      have hold := own_old hown
      have hs1 : wr.heap.size < w2.heap.size := by have h1 := hb1.size; have h2 := hb2.size; simp at h1; omega
      have hbw2 : Below w.heap.size w (w2.alloc (.cells #[.int .u64 (wd (p &&& c) 0), .int .u64 (wd (p &&& c) 1), .int .u64 (wd (p &&& c) 2), .int .u64 (wd (p &&& c) 3), .int .u64 (wd (p &&& ~~~c) 0), .int .u64 (wd (p &&& ~~~c) 1), .int .u64 (wd (p &&& ~~~c) 2), .int .u64 (wd (p &&& ~~~c) 3)] 24)) := by
        refine Below.alloc (Below.trans (Below.trans (Below.drew (Below.alloc hbw hbw.size _)) (hb1.mono ?_)) (hb2.mono ?_)) ?_ _
        all_goals have := hbw.size
        all_goals have := hb1.size
        all_goals simp at this ⊢
        all_goals omega
      have hC2 := ((HC.out.grows hb1).grows hb2).alloc (.cells #[.int .u64 (wd (p &&& c) 0), .int .u64 (wd (p &&& c) 1), .int .u64 (wd (p &&& c) 2), .int .u64 (wd (p &&& c) 3), .int .u64 (wd (p &&& ~~~c) 0), .int .u64 (wd (p &&& ~~~c) 1), .int .u64 (wd (p &&& ~~~c) 2), .int .u64 (wd (p &&& ~~~c) 3)] 24)
      have hL := Blk.new w2 #[.int .u64 (wd (p &&& c) 0), .int .u64 (wd (p &&& c) 1), .int .u64 (wd (p &&& c) 2), .int .u64 (wd (p &&& c) 3), .int .u64 (wd (p &&& ~~~c) 0), .int .u64 (wd (p &&& ~~~c) 1), .int .u64 (wd (p &&& ~~~c) 2), .int .u64 (wd (p &&& ~~~c) 3)] 24
      obtain ⟨L, rfl⟩ : ∃ L, L = w2.heap.size := ⟨_, rfl⟩
      have HR := Lib.hid (And.intro hown2 (And.intro hbw2 (And.intro hC2 hL)))
      clear hk1 hown hown2 hbw2 hC2 hL HS HP HC HS1 HS2 c0 c1 c2 c3 a0 a1 a2 a3 hbw hC hb1 hb2
      generalize splitL c (l.take k) = acc at HK hal HR
      generalize hq0 : p &&& c = q0 at HR ⊢
      generalize hq1 : p &&& ~~~c = q1 at HR ⊢
      have HQ := Lib.hid (And.intro hq0 hq1)
      clear hq0 hq1
      generalize hW3 : w2.alloc (.cells #[.int .u64 (wd q0 0), .int .u64 (wd q0 1), .int .u64 (wd q0 2), .int .u64 (wd q0 3), .int .u64 (wd q1 0), .int .u64 (wd q1 1), .int .u64 (wd q1 2), .int .u64 (wd q1 3)] 24) = W3 at HR ⊢
      clear hW3
      generalize w2.heap.size = L at HR hs1 ⊢
      go_wp2_with fail
      go_loopw [5, 24] (fun v i wi => ∃ j : Nat, j ≤ 2 ∧ i = .int .i64 j ∧ wi.ownsRow (w.heap.size + 1) 24 4 v (acc ++ two q0 q1 j).length ((acc ++ two q0 q1 j).flatMap encC) ∧ (j = 0 → ∀ g, v.ownBlock = some g → g < L) ∧ (j < 2 → Blk wi L #[.int .u64 (wd q0 0), .int .u64 (wd q0 1), .int .u64 (wd q0 2), .int .u64 (wd q0 3), .int .u64 (wd q1 0), .int .u64 (wd q1 1), .int .u64 (wd q1 2), .int .u64 (wd q1 3)] 24) ∧
        Blk wi w.heap.size #[.int .u64 (wd c 0), .int .u64 (wd c 1), .int .u64 (wd c 2), .int .u64 (wd c 3)] 24 ∧ Below w.heap.size w wi) (fun _ i _ => 2 - (intOf i).toNat)
      case atStart =>
        obtain ⟨h1, h2, h3, h4⟩ := HR.out
        exact ⟨0, by omega, rfl, own_cast h1 (by simp [two]) (by simp [two]), fun _ g hg => Nat.lt_trans (hold g hg) hs1, fun _ => h4, h3, h2⟩
      case round =>
        obtain ⟨j, hj, rfl, hown, hog, hL, hC, hbw⟩ := hrel
        have hj3 : j = 0 ∨ j = 1 ∨ j = 2 := by omega
        rcases hj3 with rfl | rfl | rfl
        · obtain ⟨⟨x0, x1, x2, x3⟩, -⟩ := eight (hL (by omega))
          have hb1 : (acc ++ two q0 q1 0).length ≤ 2001 := by rw [List.length_append]; have : (two q0 q1 0).length ≤ 0 := two_len q0 q1 0; omega
          have heq := eq_clsZ q0
          cases hz : isZ q0
          case true =>
            simp only [hz] at heq
            have HE := Lib.hid (two_no0 q0 q1 hz)
            clear hz
            go_wp2
            go_roundw
            case rel => exact ⟨1, by omega, by go_num, by rw [HE.out]; exact own_alloc hown _, fun h => by omega, fun _ => (hL (by omega)).alloc _, hC.alloc _, hbw.alloc hbw.size _⟩
            case measure => simp [intOf]
          case false =>
            simp only [hz] at heq
            have HE := Lib.hid (two_yes0 q0 q1 hz)
            clear hz
            go_wp2_with (at_builtin; go_loud (refine wpList_append_own _ rfl _ _ 33 rfl (w.heap.size + 1) 24 i0 _ 4 32 Tryd.underlying33 hi hz0 hz1 hz2 rfl (by decide) _ _ _ rfl (own_alloc (own_alloc hown _) _) ⟨wr.heap.size + 1, 0, none⟩ 1 1 (encC q0) rfl rfl (cells_new4 _ _ _ _ _ _ _ (by simp)) (encC_one _) (by unfold maxLen; omega) (by omega) (by have := hbw.size; have := hC.lt; simp; omega) ?_); intro v' w5 hown2 hgrow _)
            go_roundw
            case rel =>
              have hg := own_ge hown
              exact ⟨1, by omega, by go_num, by rw [HE.out]; exact own_cast hown2 (by simp; omega) (by simp), fun h => by omega, fun _ => ((hL (by omega)).alloc _ |>.alloc _).grownBy hgrow (fun n e => by have := hog rfl n e; omega), ((hC.alloc _).alloc _).grownBy hgrow (fun n e => by have := hg n e; omega), ((hbw.alloc hbw.size _).alloc (by have := hbw.size; simp; omega) _).grown hgrow (by have := hbw.size; simp; omega) (fun n e => by have := hg n e; omega)⟩
            case measure => simp [intOf]
        · obtain ⟨-, x0, x1, x2, x3⟩ := eight (hL (by omega))
          have hb1 : (acc ++ two q0 q1 1).length ≤ 2001 := by rw [List.length_append]; have : (two q0 q1 1).length ≤ 1 := two_len q0 q1 1; omega
          have heq := eq_clsZ q1
          cases hz : isZ q1
          case true =>
            simp only [hz] at heq
            have HE := Lib.hid (two_no1 q0 q1 hz)
            clear hz
            go_wp2
            go_roundw
            case rel => exact ⟨2, by omega, by go_num, by rw [HE.out]; exact own_alloc hown _, fun h => by omega, fun _ => by omega, hC.alloc _, hbw.alloc hbw.size _⟩
            case measure => simp [intOf]
          case false =>
            simp only [hz] at heq
            have HE := Lib.hid (two_yes1 q0 q1 hz)
            clear hz
            go_wp2_with (at_builtin; go_loud (refine wpList_append_own _ rfl _ _ 33 rfl (w.heap.size + 1) 24 i0 _ 4 32 Tryd.underlying33 hi hz0 hz1 hz2 rfl (by decide) _ _ _ rfl (own_alloc (own_alloc hown _) _) ⟨wr.heap.size + 1, 0, none⟩ 1 1 (encC q1) rfl rfl (cells_new4 _ _ _ _ _ _ _ (by simp)) (encC_one _) (by unfold maxLen; omega) (by omega) (by have := hbw.size; have := hC.lt; simp; omega) ?_); intro v' w5 hown2 hgrow _)
            go_roundw
            case rel =>
              have hg := own_ge hown
              exact ⟨2, by omega, by go_num, by rw [HE.out]; exact own_cast hown2 (by simp; omega) (by simp), fun h => by omega, fun _ => by omega, ((hC.alloc _).alloc _).grownBy hgrow (fun n e => by have := hg n e; omega), ((hbw.alloc hbw.size _).alloc (by have := hbw.size; simp; omega) _).grown hgrow (by have := hbw.size; simp; omega) (fun n e => by have := hg n e; omega)⟩
            case measure => simp [intOf]
        · have HE := Lib.hid (show two q0 q1 2 = parts2 c p by rw [← HQ.out.1, ← HQ.out.2]; rfl)
          rw [HE.out] at hown
          clear HR
          go_wp2
          go_roundw
          case rel => exact ⟨k + 1, by omega, by go_num, by rw [HK.out]; exact hown, hC, hbw⟩
          case measure => simp [intOf]; omega
    · have HT := Lib.hid (show l.take k = l from List.take_of_length_le (by omega))
      clear hR
      go_wp2
      go_ret
      exact ⟨_, rfl, own_cast (own_mono hown (by omega)) (by rw [HT.out]) (by rw [HT.out]), hbw⟩
end Go.Proofs.YthhlehhienndeaaDoor
