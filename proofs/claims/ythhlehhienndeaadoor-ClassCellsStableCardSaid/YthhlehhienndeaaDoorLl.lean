/-
  The law that the cells are stable: the walk.
-/
import Derived.Test.YthhlehhienndeaaDoorLk
import Derived.Test.YthhlehhienndeaaDoorLi
import Derived.Maps.AppendAt
import Derived.Deep.RegionHeld3
import Derived.Deep.AppendLies
import Derived.Test.YthhlehhienndeaaDoorLm
set_option linter.unusedSimpArgs false
set_option linter.unusedVariables false
namespace Go.Proofs.YthhlehhienndeaaDoor
open Go.RowKit Go.Shelf Go.Lib

/-- each class and its complement, as the code computes it. -/
def twu (l : List (BitVec 256)) : List (BitVec 256) := l.flatMap fun x => [x, cpl x]
theorem twu_eq (l : List (BitVec 256)) : twu l = tws l := by unfold twu tws; congr 1; funext x; rw [cpl_eq]
theorem twu_snoc (l : List (BitVec 256)) (x : BitVec 256) : twu (l ++ [x]) = twu l ++ [x, cpl x] := by unfold twu; rw [List.flatMap_append]; rfl
theorem twu_len (l : List (BitVec 256)) : (twu l).length = 2 * l.length := by rw [twu_eq, tws_len]
theorem drop_rev (l : List (BitVec 256)) (i : Nat) (x : BitVec 256) (h : l[i]? = some x) : (l.drop i).reverse = (l.drop (i + 1)).reverse ++ [x] := by
  obtain ⟨hi, rfl⟩ := List.getElem?_eq_some_iff.1 h
  rw [List.drop_eq_getElem_cons hi, List.reverse_cons]
theorem twu_nil : twu [] = [] := rfl
theorem encC_two (x y : BitVec 256) : ∀ v ∈ encC x ++ encC y, v.oneCell' = true := fun v hv => by
  rcases List.mem_append.1 hv with h | h
  · exact encC_one _ v h
  · exact encC_one _ v h
theorem flat_snoc (l : List (BitVec 256)) (x : BitVec 256) : l.flatMap encC ++ encC x = (l ++ [x]).flatMap encC := by rw [List.flatMap_append]; simp
theorem flat_two (l : List (BitVec 256)) (x y : BitVec 256) : l.flatMap encC ++ (encC x ++ encC y) = (l ++ [x, y]).flatMap encC := by rw [List.flatMap_append]; simp
theorem rev_len (l : List (BitVec 256)) (i : Nat) : ((l.drop i).reverse).length = l.length - i := by simp
theorem stable_rev (l : List (BitVec 256)) : canon (l.drop 0).reverse = canon l := by rw [List.drop_zero]; exact canon_rev l
theorem stable_tw0 (l : List (BitVec 256)) : canon (twu (l.drop 0).reverse) = canon l := by
  have h := canon_tws (cs := l) (es := []) (by simp)
  rw [List.append_nil] at h
  rw [List.drop_zero, twu_eq]; exact h
theorem stable_tw (l : List (BitVec 256)) (x y : BitVec 256) (hx : x ∈ l) (hy : y ∈ l) : canon (twu (l.drop 0).reverse ++ [uni x y, sbt x y]) = canon l := by
  rw [List.drop_zero, twu_eq]
  refine canon_tws fun e he => ?_
  simp only [List.mem_cons, List.not_mem_nil, or_false] at he
  exact ⟨x, hx, y, hy, he⟩
theorem cells_new8 (W : World) (a b c d a' b' c' d' : Value) (t : TypeId) (n : Nat) (hn : n = W.heap.size) : ∀ j u, [a, b, c, d, a', b', c', d'][j]? = some u → (W.alloc (.cells #[a, b, c, d, a', b', c', d'] t)).cell? ((⟨n, 0, none⟩ : Addr).add j) = some u := by
  subst hn
  intro j u hj
  have hB := Blk.new W #[a, b, c, d, a', b', c', d'] t
  have h := hB.cell j (v := u) (by simpa using hj)
  rw [Go.WideShapes.add_plain, Nat.zero_add]
  exact h
/-- one row has no block with another in common. -/
def Apart (v v' : Value) : Prop := ∀ g, v.ownBlock = some g → v'.ownBlock ≠ some g
theorem Apart.symm {v v' : Value} (h : Apart v v') : Apart v' v := fun g h1 h2 => h g h2 h1
/-- behind an append to the first. -/
theorem Apart.grow {v v' u : Value} {w : World} {base : Nat} {e : TypeId} {size n : Nat} {xs : List Value} (h : Apart v v') (hu : u.ownBlock = v.ownBlock ∨ u.ownBlock = some w.heap.size) (ho : w.ownsRow base e size v' n xs) : Apart u v' := fun g h1 h2 => by
  rcases hu with hu | hu
  · exact h g (hu ▸ h1) h2
  · rw [hu] at h1
    cases h1
    have := own_old ho _ h2
    omega

theorem Apart.grow' {v v' : Value} {g n cap : Nat} {w : World} {base : Nat} {e : TypeId} {size m : Nat} {xs : List Value} (h : Apart v v') (hu : v.ownBlock = some g ∨ g = w.heap.size) (ho : w.ownsRow base e size v' m xs) : Apart (.slice (some ⟨g, 0, none⟩) n cap) v' := fun k h1 h2 => by
  have hk : g = k := Option.some.inj h1
  subst hk
  rcases hu with hu | hu
  · exact h g hu h2
  · have := own_old ho _ h2
    omega
theorem far_cell {W W' : World} {row : Option Nat} {a : Addr} {v : Value} (h : W.cell? a = some v) (hg : W.grownBy W' row) (hne : ∀ g, row = some g → g ≠ a.block) : W'.cell? a = some v := by
  have hb := hg.block a.block (lt_of_cell h) (fun e => hne a.block e.symm rfl)
  unfold World.cell? at h ⊢
  rw [hb]; exact h
/-- a class stands there. -/
structure IsX (W : World) (b o : Nat) (x : BitVec 256) : Prop where
  c0 : W.cell? ⟨b, o, none⟩ = some (.int .u64 (wd x 0))
  c1 : W.cell? ⟨b, o + 1, none⟩ = some (.int .u64 (wd x 1))
  c2 : W.cell? ⟨b, o + 2, none⟩ = some (.int .u64 (wd x 2))
  c3 : W.cell? ⟨b, o + 3, none⟩ = some (.int .u64 (wd x 3))
theorem IsX.all {W : World} {b o : Nat} {x : BitVec 256} (h : IsX W b o x) : W.cell? ⟨b, o, none⟩ = some (.int .u64 (wd x 0)) ∧ W.cell? ⟨b, o + 1, none⟩ = some (.int .u64 (wd x 1)) ∧ W.cell? ⟨b, o + 2, none⟩ = some (.int .u64 (wd x 2)) ∧ W.cell? ⟨b, o + 3, none⟩ = some (.int .u64 (wd x 3)) := ⟨h.c0, h.c1, h.c2, h.c3⟩
theorem IsX.drew {W : World} {b o : Nat} {x : BitVec 256} (h : IsX W b o x) : IsX W.drew b o x := ⟨h.c0, h.c1, h.c2, h.c3⟩
theorem IsX.grows {W W' : World} {b o : Nat} {x : BitVec 256} (h : IsX W b o x) (hb : Below W.heap.size W W') : IsX W' b o x :=
  ⟨(hb.cell (lt_of_cell h.c0)).trans h.c0, (hb.cell (lt_of_cell h.c1)).trans h.c1, (hb.cell (lt_of_cell h.c2)).trans h.c2, (hb.cell (lt_of_cell h.c3)).trans h.c3⟩
theorem IsX.grownBy {W W' : World} {b o : Nat} {x : BitVec 256} {row : Option Nat} (h : IsX W b o x) (hg : W.grownBy W' row) (hne : ∀ g, row = some g → g ≠ b) : IsX W' b o x :=
  ⟨far_cell h.c0 hg hne, far_cell h.c1 hg hne, far_cell h.c2 hg hne, far_cell h.c3 hg hne⟩
theorem cells_eq {v : Value} {r l : List (BitVec 256)} {m : Nat} {a W : World} (hv : IsC a v r) (hw : Below a.heap.size a W) (hr : canon r = canon l) (hm : (canon l).length = m) (hl : r.length ≤ 1000) (hT : TabAt 0 Lib.deBruijn64tab a) (hg0 : 0 < a.heap.size) :
    Calls Tryd.prog 31 #[v] W fun e w' => (∃ p cap, e = .returned (.slice p m cap) ∧ IsC w' (.slice p m cap) (canon l)) ∧ Below W.heap.size W w' := by
  have h := cells_as v r (m := m) (by rw [hr]; exact hm) hv hw hl hT hg0
  rwa [hr] at h
theorem mod_at {l : List (BitVec 256)} {n : Nat} (hn : l.length = n) (hpos : 0 < n) (p : Int) (hp : 0 ≤ p) : ∃ r : Nat, ∃ x, p.tmod (n : Int) = (r : Int) ∧ r < n ∧ l[r]? = some x := by
  have hr : p.toNat % n < n := Nat.mod_lt _ hpos
  refine ⟨p.toNat % n, l[p.toNat % n], ?_, hr, List.getElem?_eq_getElem (by omega)⟩
  rw [Int.tmod_eq_emod_of_nonneg hp, Int.natCast_emod, Int.toNat_of_nonneg hp]
attribute [local irreducible] rg ofV hasI ixI sizeI leastI rng mem mems canon ix ofL bit uni itr sbt cpl ups mets twu
set_option maxRecDepth 100000 in
set_option maxHeartbeats 4000000 in
theorem stable_walk (v : Value) (l : List (BitVec 256)) (p q : Int) (w : World) (hv : IsC w v l) (hm : l.length ≤ maxLen) (hp : 0 ≤ p ∧ p < 256) (hq : 0 ≤ q ∧ q < 256)
    (hT : TabAt 0 Lib.deBruijn64tab w) (hg0 : 0 < w.heap.size) :
    Calls Tryd.prog 11 #[v, .int .u8 p, .int .u8 q] w fun e w' => e = .returned (.bool true) ∧ Below w.heap.size w w' := by
  obtain ⟨i0, hi, hz0, hz1, hz2⟩ := info_parts infoC
  have HT := Lib.hid hT
  clear hT
  obtain ⟨pp, cp, rfl⟩ := hv.shape
  unfold maxLen at hm
  generalize hn : l.length = n at hv hm ⊢
  obtain ⟨m, hmm⟩ : ∃ m, (canon l).length = m := ⟨_, rfl⟩
  have hm256 : m ≤ 256 := hmm ▸ canon_len l
  have HV := Lib.hid hv
  have HN := Lib.hid (And.intro hn hmm)
  clear hv hn hmm
  go_enter Tryd.func11, Tryd.ntmps11
  by_cases h12 : 10 < n
  · have hd : decide ((10 : Int) < (n : Int)) = true := by simp; omega
    go_wp2_with (go_at_call 13; refine (sanity_any _ HT.out hg0).mono ?_; rintro e a ⟨rfl, hb1⟩; have HB := Lib.hid hb1; clear hb1)
    go_ret
    exact ⟨rfl, HB.out⟩
  · have hd : decide ((10 : Int) < (n : Int)) = false := by simp; omega
    have h1000 : l.length ≤ 1000 := by rw [HN.out.1]; omega
    have HL := Lib.hid h1000
    clear h1000
    go_wp2_with (first
      | (go_at_call 13; refine (sanity_any _ HT.out hg0).mono ?_; rintro e a ⟨rfl, hb1⟩; have HW := Lib.hid hb1; clear hb1)
      | (go_at_call 31; refine (cells_as _ l HN.out.2 HV.out HW.out HL.out HT.out hg0).mono ?_; rintro e a1 ⟨⟨p1, c1, rfl, hI⟩, hb1⟩; replace HW := Lib.hid (up_call HW.out hb1); have HO := Lib.hid hI; clear hI hb1))
    go_loopw [9, 10, 11] (fun vb vt z wr => ∃ j : Nat, j ≤ n ∧ z = .int .i64 ((j : Int) - 1) ∧ wr.ownsRow a1.heap.size 24 4 vb ((l.drop j).reverse).length (((l.drop j).reverse).flatMap encC) ∧ wr.ownsRow a1.heap.size 24 4 vt (twu (l.drop j).reverse).length ((twu (l.drop j).reverse).flatMap encC) ∧ Apart vb vt ∧ Below a1.heap.size a1 wr) (fun _ _ z _ => (intOf z + 1).toNat)
    case atStart =>
      have hdn : l.drop n = [] := by rw [← HN.out.1, List.drop_length]
      refine ⟨n, Nat.le_refl _, rfl, ?_, ?_, ?_, up_al (up_al (Below.refl _ _) _) _⟩
      · rw [hdn]
        exact own_alloc (own_of_blk (Blk.new a1 _ _) 0 4 rfl (Nat.zero_le _) (Nat.le_refl _)) _
      · rw [hdn, List.reverse_nil, twu_nil]
        exact own_of_blk (Blk.alloc1 a1 _ _ _ _) 0 4 rfl (Nat.zero_le _) (by omega)
      · intro g h1 h2
        cases h1
        simp [Value.ownBlock] at h2
    case round =>
      obtain ⟨j, hj, rfl, hown, how2, hap, hbw⟩ := hrel
      rcases Nat.eq_zero_or_pos j with h0 | hpos
      · subst h0
        rw [show ((0 : Nat) : Int) - 1 = -1 from rfl]
        have hm0 : (canon l).length ≤ 1000 := by rw [HN.out.2]; omega
        have hr0 : ((l.drop 0).reverse).length ≤ 1000 := by rw [rev_len, HN.out.1]; omega
        have hw0 := up_call HW.out hbw
        have hT0 := tab_below HT.out hw0 hg0
        have hg1 := Nat.lt_of_lt_of_le hg0 hw0.size
        rcases Nat.eq_zero_or_pos n with hn0 | hnp
        · have hd2 : decide ((0 : Int) < (n : Int)) = false := by simp; omega
          have hd3 : decide (0 < n) = false := by simp; omega
          have ht0 : (twu (l.drop 0).reverse).length ≤ 1000 := by rw [twu_len, rev_len, HN.out.1]; omega
          have HR1 := Lib.hid (own_isC hown)
          have HR2 := Lib.hid (own_isC how2)
          have HR3 := Lib.hid (HO.out.grows hbw)
          have HY := Lib.hid (Below.refl wr.heap.size wr)
          have HU := Lib.hid (And.intro hT0 hg1)
          have HG := Lib.hid (And.intro hr0 (And.intro ht0 hm0))
          have HQ := Lib.hid hw0
          clear hown how2 hap hbw hT0 hg1 hr0 ht0 hm0 hw0 hn0
          go_wp2_with (first
            | (go_at_call 31; refine (cells_eq HR1.out HY.out (stable_rev l) HN.out.2 HG.out.1 HU.out.1 HU.out.2).mono ?_; rintro e w1 ⟨⟨p3, c3, rfl, hI⟩, hb1⟩; replace HY := Lib.hid (up_call HY.out hb1); have HP := Lib.hid hI; clear HR1 hI hb1)
            | (go_at_call 31; refine (cells_eq HR2.out HY.out (stable_tw0 l) HN.out.2 HG.out.2.1 HU.out.1 HU.out.2).mono ?_; rintro e w1 ⟨⟨p3, c3, rfl, hI⟩, hb1⟩; replace HY := Lib.hid (up_call HY.out hb1); have HP := Lib.hid hI; clear HR2 hI hb1)
            | (go_at_call 31; refine (cells_eq HR3.out HY.out (canon_canon l) HN.out.2 HG.out.2.2 HU.out.1 HU.out.2).mono ?_; rintro e w1 ⟨⟨p3, c3, rfl, hI⟩, hb1⟩; replace HY := Lib.hid (up_call HY.out hb1); have HP := Lib.hid hI; clear hI hb1)
            | (go_at_call 30; refine (same_yes HP.out (HR3.out.grows HY.out) HG.out.2.2).mono ?_; rintro e w2 ⟨rfl, hb1⟩; replace HY := Lib.hid (up_call HY.out hb1); clear HP hb1))
          go_ret
          exact ⟨rfl, up_call HQ.out HY.out⟩
        · have hd2 : decide ((0 : Int) < (n : Int)) = true := by simp; omega
          have hd3 : decide (0 < n) = true := by simp; omega
          obtain ⟨r, x, er, hr, hx⟩ := mod_at HN.out.1 hnp p hp.1
          obtain ⟨t, y, et, ht, hy⟩ := mod_at HN.out.1 hnp q hq.1
          obtain ⟨blk, off, rfl, x0, x1, x2, x3⟩ := isC_at (HV.out.grows hw0) hx
          obtain ⟨blk', off', hbo, y0, y1, y2, y3⟩ := isC_at (HV.out.grows hw0) hy
          simp only [Option.some.injEq, Addr.mk.injEq, and_true] at hbo
          obtain ⟨rfl, rfl⟩ := hbo
          have y0 := cell_lay y0 (.cells #[.int .u64 (wd x 0), .int .u64 (wd x 1), .int .u64 (wd x 2), .int .u64 (wd x 3)] 24)
          have y1 := cell_lay y1 (.cells #[.int .u64 (wd x 0), .int .u64 (wd x 1), .int .u64 (wd x 2), .int .u64 (wd x 3)] 24)
          have y2 := cell_lay y2 (.cells #[.int .u64 (wd x 0), .int .u64 (wd x 1), .int .u64 (wd x 2), .int .u64 (wd x 3)] 24)
          have y3 := cell_lay y3 (.cells #[.int .u64 (wd x 0), .int .u64 (wd x 1), .int .u64 (wd x 2), .int .u64 (wd x 3)] 24)
          have hl2 : (twu (l.drop 0).reverse).length ≤ 20 := by rw [twu_len, rev_len, HN.out.1]; omega
          have hB := hbw.size
          have HCt := Lib.hid (stable_tw l x y (List.mem_of_getElem? hx) (List.mem_of_getElem? hy))
          have HD := Lib.hid (MB.new x y wr).drew
          have HE := Lib.hid (And.intro (own_alloc (own_alloc hown (.cells #[.int .u64 (wd x 0), .int .u64 (wd x 1), .int .u64 (wd x 2), .int .u64 (wd x 3)] 24)) (.cells #[.int .u64 (wd y 0), .int .u64 (wd y 1), .int .u64 (wd y 2), .int .u64 (wd y 3)] 24)).drew (And.intro (own_alloc (own_alloc how2 (.cells #[.int .u64 (wd x 0), .int .u64 (wd x 1), .int .u64 (wd x 2), .int .u64 (wd x 3)] 24)) (.cells #[.int .u64 (wd y 0), .int .u64 (wd y 1), .int .u64 (wd y 2), .int .u64 (wd y 3)] 24)).drew (up_al (up_al (Below.refl wr.heap.size wr) (.cells #[.int .u64 (wd x 0), .int .u64 (wd x 1), .int .u64 (wd x 2), .int .u64 (wd x 3)] 24)) (.cells #[.int .u64 (wd y 0), .int .u64 (wd y 1), .int .u64 (wd y 2), .int .u64 (wd y 3)] 24)).drew))
          have HK := Lib.hid (And.intro (own_old how2) (And.intro hap (own_ge how2)))
          have HX := Lib.hid (And.intro hT0 (And.intro hg1 (And.intro hr0 (And.intro hm0 (And.intro hw0 hbw)))))
          clear hown how2 hap hbw hT0 hg1 hr0 hm0 hw0 hx hy
          go_wp2_with fail
          go_region_held3 (fun W => W.cell? ⟨wr.heap.size, 0, none⟩ = some (.int .u64 (wd x 0)) ∧ W.cell? ⟨wr.heap.size, 1, none⟩ = some (.int .u64 (wd x 1)) ∧ W.cell? ⟨wr.heap.size, 2, none⟩ = some (.int .u64 (wd x 2)) ∧ W.cell? ⟨wr.heap.size, 3, none⟩ = some (.int .u64 (wd x 3)) ∧ W.cell? ⟨wr.heap.size + 1, 0, none⟩ = some (.int .u64 (wd y 0)) ∧ W.cell? ⟨wr.heap.size + 1, 1, none⟩ = some (.int .u64 (wd y 1)) ∧ W.cell? ⟨wr.heap.size + 1, 2, none⟩ = some (.int .u64 (wd y 2)) ∧ W.cell? ⟨wr.heap.size + 1, 3, none⟩ = some (.int .u64 (wd y 3))) (first | exact HD.out.cells | exact (HD.out.grows (up_al (Below.refl _ _) _)).cells)
            (first
              | (go_at_call 16; refine (union_u x y _).mono ?_; rintro e w3 ⟨rfl, hb1⟩; replace HD := Lib.hid (HD.out.grows hb1); replace HE := Lib.hid (And.intro (own_below HE.out.1 hb1) (And.intro (own_below HE.out.2.1 hb1) (up_call HE.out.2.2 hb1))); clear hb1)
              | (go_at_call 20; refine (minus_u x y _).mono ?_; rintro e w4 ⟨rfl, hb1⟩; replace HD := Lib.hid (HD.out.grows hb1); replace HE := Lib.hid (And.intro (own_below HE.out.1 hb1) (And.intro (own_below HE.out.2.1 hb1) (up_call HE.out.2.2 hb1))); clear hb1; have hs4 := HE.out.2.2.size)
              | (refine step_append_lies _ rfl _ _ 33 rfl a1.heap.size 24 i0 _ 4 32 Tryd.underlying33 hi hz0 hz1 hz2 rfl (by decide) _ _ _ rfl (own_alloc HE.out.2.1 _) ⟨w4.heap.size, 0, none⟩ 2 2 (encC (uni x y) ++ encC (sbt x y)) rfl rfl (cells_new8 _ _ _ _ _ _ _ _ _ _ _ rfl) (encC_two _ _) (by decide) (by unfold maxLen; omega) (by omega) (by simp; omega) _ rfl ?_; intro g8 c8 w8 hown8 hgrow8 hat8 hlt8; replace HD := Lib.hid (MB.mk ((HD.out.bx.alloc _).grownBy hgrow8 (fun k e => by have := HK.out.1 k e; omega)) ((HD.out.by'.alloc _).grownBy hgrow8 (fun k e => by have := HK.out.1 k e; omega)))))
          have hA8 : Below a1.heap.size a1 w8 := (up_al (up_call HX.out.2.2.2.2.2 HE.out.2.2) _).grown hgrow8 (by simp; omega) (fun n e => HK.out.2.2 n e)
          have hW8 := up_call HW.out hA8
          have HR1 := Lib.hid (own_isC (own_grown (own_alloc HE.out.1 _) hgrow8 (fun g e h => HK.out.2.1 g h e)))
          have HR2 := Lib.hid (show IsC w8 (.slice (some ⟨g8, 0, none⟩) ((twu l.reverse).length + 2) c8) (twu (l.drop 0).reverse ++ [uni x y, sbt x y]) from own_isC (own_cast hown8 (by simp) (flat_two _ _ _)))
          have HR3 := Lib.hid (HO.out.grows hA8)
          have HY := Lib.hid (Below.refl w8.heap.size w8)
          have HU := Lib.hid (And.intro (tab_below HT.out hW8 hg0) (Nat.lt_of_lt_of_le hg0 hW8.size))
          have ht0 : (twu (l.drop 0).reverse ++ [uni x y, sbt x y]).length ≤ 1000 := by rw [List.length_append, twu_len, rev_len, HN.out.1]; simp; omega
          have HG := Lib.hid (And.intro HX.out.2.2.1 (And.intro ht0 HX.out.2.2.2.1))
          have HQ := Lib.hid hW8
          clear hA8 hW8 ht0 HX HE HK HD hown8 hgrow8 hat8 hlt8
          go_wp2_with (first
            | (go_at_call 31; refine (cells_eq HR1.out HY.out (stable_rev l) HN.out.2 HG.out.1 HU.out.1 HU.out.2).mono ?_; rintro e w1 ⟨⟨p3, c3, rfl, hI⟩, hb1⟩; replace HY := Lib.hid (up_call HY.out hb1); have HP := Lib.hid hI; clear HR1 hI hb1)
            | (go_at_call 31; refine (cells_eq HR2.out HY.out HCt.out HN.out.2 HG.out.2.1 HU.out.1 HU.out.2).mono ?_; rintro e w1 ⟨⟨p3, c3, rfl, hI⟩, hb1⟩; replace HY := Lib.hid (up_call HY.out hb1); have HP := Lib.hid hI; clear HR2 hI hb1)
            | (go_at_call 31; refine (cells_eq HR3.out HY.out (canon_canon l) HN.out.2 HG.out.2.2 HU.out.1 HU.out.2).mono ?_; rintro e w1 ⟨⟨p3, c3, rfl, hI⟩, hb1⟩; replace HY := Lib.hid (up_call HY.out hb1); have HP := Lib.hid hI; clear hI hb1)
            | (go_at_call 30; refine (same_yes HP.out (HR3.out.grows HY.out) HG.out.2.2).mono ?_; rintro e w2 ⟨rfl, hb1⟩; replace HY := Lib.hid (up_call HY.out hb1); clear HP hb1))
          go_ret
          exact ⟨rfl, up_call HQ.out HY.out⟩
      · obtain ⟨i, rfl⟩ : ∃ i, j = i + 1 := ⟨j - 1, by omega⟩
        have e1 : (((i + 1 : Nat) : Int)) - 1 = (i : Int) := by omega
        rw [e1]
        have hd1 : decide ((0 : Int) ≤ (i : Int)) = true := by simp
        have hin : i < n := by omega
        have hin2 : (i : Int) < (n : Int) := by omega
        obtain ⟨x, hx⟩ : ∃ x, l[i]? = some x := ⟨_, List.getElem?_eq_getElem (by rw [HN.out.1]; omega)⟩
        obtain ⟨blk, off, rfl, x0, x1, x2, x3⟩ := isC_at (HV.out.grows (up_call HW.out hbw)) hx
        have HBlk := Lib.hid (show blk < a1.heap.size from by
          obtain ⟨b', o', e, h0, -⟩ := isC_at (HV.out.grows HW.out) hx
          simp only [Option.some.injEq, Addr.mk.injEq, and_true] at e
          obtain ⟨rfl, rfl⟩ := e
          exact lt_of_cell h0)
        have hlen : ((l.drop (i + 1)).reverse).length ≤ 10 := by rw [rev_len, HN.out.1]; omega
        have hl2 : (twu (l.drop (i + 1)).reverse).length ≤ 20 := by rw [twu_len]; omega
        have HE := Lib.hid (drop_rev l i x hx)
        clear e1
        go_wp2_with (at_builtin; go_loud (refine wpList_append_own_at _ rfl _ _ 33 rfl a1.heap.size 24 i0 _ 4 32 Tryd.underlying33 hi hz0 hz1 hz2 rfl (by decide) _ _ _ rfl (own_alloc hown _) ⟨wr.heap.size, 0, none⟩ 1 1 (encC x) rfl rfl (cells_new4 _ _ _ _ _ _ _ rfl) (encC_one _) (by unfold maxLen; omega) (by omega) (by have := hbw.size; simp; omega) ?_); intro v' w5 hown2 hgrow _ hob)
        have hb5 : Below a1.heap.size a1 w5 := (up_al hbw _).grown hgrow (by have := hbw.size; simp; omega) (fun n e => own_ge hown n e)
        have how5 := own_grown (own_alloc how2 _) hgrow (fun g e => hap g e)
        have hap5 := hap.grow hob (own_alloc how2 _)
        obtain ⟨blk', off', hbo, y0, y1, y2, y3⟩ := isC_at (HV.out.grows (up_call HW.out hb5)) hx
        simp only [Option.some.injEq, Addr.mk.injEq, and_true] at hbo
        obtain ⟨rfl, rfl⟩ := hbo
        have HXn := Lib.hid (fun (k : Nat) (e : Value.ownBlock _ = some k) => show k ≠ blk from by have h1 := own_ge how5 k e; have h3 := HBlk.out; omega)
        have HS := Lib.hid (And.intro hown2 (And.intro how5 (And.intro hap5 (And.intro hb5 hlen))))
        clear x0 x1 x2 x3 hown how2 hap hbw hgrow hob hown2 how5 hap5 hb5 hx hlen
        go_wp2_with fail
        have HD := Lib.hid (IsX.mk y0 y1 y2 y3)
        have hlx := lt_of_cell y0
        clear y0 y1 y2 y3
        go_region_held3 (fun W => W.cell? ⟨blk, off + i * 4, none⟩ = some (.int .u64 (wd x 0)) ∧ W.cell? ⟨blk, off + i * 4 + 1, none⟩ = some (.int .u64 (wd x 1)) ∧ W.cell? ⟨blk, off + i * 4 + 2, none⟩ = some (.int .u64 (wd x 2)) ∧ W.cell? ⟨blk, off + i * 4 + 3, none⟩ = some (.int .u64 (wd x 3))) (first | exact HD.out.all | exact (HD.out.grows (up_al (Below.refl _ _) _)).all)
          (first
            | (go_at_call 22; refine (not_u x _).mono ?_; rintro e w6 ⟨rfl, hb6⟩; replace HD := Lib.hid (HD.out.drew.grows hb6); have how6 := own_below HS.out.2.1.drew hb6; have hown6 := own_below HS.out.1.drew hb6; have hs6 : a1.heap.size ≤ w6.heap.size := by have h1 := hb6.size; have h2 := HS.out.2.2.2.1.size; simp at h1; omega)
            | (refine step_append_lies _ rfl _ _ 33 rfl a1.heap.size 24 i0 _ 4 32 Tryd.underlying33 hi hz0 hz1 hz2 rfl (by decide) _ _ _ rfl (own_alloc how6 _) ⟨w6.heap.size, 0, none⟩ 2 2 (encC x ++ encC (cpl x)) rfl rfl (cells_new8 _ _ _ _ _ _ _ _ _ _ _ rfl) (encC_two _ _) (by decide) (by unfold maxLen; omega) (by omega) (by simp; omega) _ rfl ?_; intro g7 c7 w7 hown7 hgrow7 hat7 hlt7; replace HD := Lib.hid ((HD.out.grows (up_al (Below.refl _ _) _)).grownBy hgrow7 HXn.out)))
        go_wp2
        go_roundw
        case rel =>
          refine ⟨i, by omega, by go_num, ?_, ?_, ?_, ?_⟩
          · rw [HE.out]
            exact own_cast (own_grown (own_alloc hown6 _) hgrow7 (fun g e h => HS.out.2.2.1 g h e)) (by simp) (flat_snoc _ _)
          · rw [HE.out, twu_snoc]
            exact own_cast hown7 (by simp) (flat_two _ _ _)
          · exact ((HS.out.2.2.1.symm).grow' hat7 (own_alloc hown6 _)).symm
          · exact (up_al (up_call HS.out.2.2.2.1.drew hb6) _).grown hgrow7 (by simp; omega) (fun n e => own_ge how6 n e)
        case measure => simp [intOf] <;> omega
end Go.Proofs.YthhlehhienndeaaDoor
