/-
  The law on the inverse of Bytes: the walk.
-/
import Derived.Test.YthhlehhienndeaaDoorLa
import Derived.Test.YthhlehhienndeaaDoorLb
import Derived.Lib.QuietBelow
import Derived.BigQuiet
set_option linter.unusedSimpArgs false
set_option linter.unusedVariables false
namespace Go.Proofs.YthhlehhienndeaaDoor
open Go.RowKit Go.Shelf Go.Lib

/-- what stands when the members have been listed. -/
structure BI (x : BitVec 256) (n0 : Nat) (p : Option Addr) (l : List Int) (a : World) : Prop where
  box : Blk a n0 #[.int .u64 (wd x 0), .int .u64 (wd x 1), .int .u64 (wd x 2), .int .u64 (wd x 3)] 24
  row : ∀ k y, l[k]? = some y → ∃ g, p = some ⟨g, 0, none⟩ ∧ g < a.heap.size ∧ a.cell? ⟨g, k, none⟩ = some (.int .u8 y)
theorem BI.of {x : BitVec 256} {n0 base : Nat} {p : Option Addr} {cap : Nat} {l : List Int} {a : World} (h : Blk a n0 #[.int .u64 (wd x 0), .int .u64 (wd x 1), .int .u64 (wd x 2), .int .u64 (wd x 3)] 24)
    (hown : a.ownsRow base 5 1 (.slice p l.length cap) l.length (l.map (Value.int .u8))) : BI x n0 p l a where
  box := h
  row k y hk := by
    have hkl : k < l.length := (List.getElem?_eq_some_iff.1 hk).1
    obtain ⟨g, cap', hv, _, hg, _, hc⟩ := own_read hown (by omega)
    simp only [Value.slice.injEq] at hv
    exact ⟨g, hv.1, hg, hc k _ (by rw [List.getElem?_map, hk]; rfl)⟩
theorem BI.grows {x : BitVec 256} {n0 : Nat} {p : Option Addr} {l : List Int} {a W : World} (h : BI x n0 p l a) (hb : Below a.heap.size a W) : BI x n0 p l W where
  box := h.box.grows hb
  row k y hk := by
    obtain ⟨g, h1, h2, h3⟩ := h.row k y hk
    exact ⟨g, h1, Nat.lt_of_lt_of_le h2 hb.size, (hb.cell (p := ⟨g, k, none⟩) h2).trans h3⟩
theorem has_true {x : BitVec 256} {y : Int} (h0 : 0 ≤ y) (h1 : y < 256) (h : hasI x y = true) (W : World) : Calls Tryd.prog 35 #[.agg #[.int .u64 (wd x 0), .int .u64 (wd x 1), .int .u64 (wd x 2), .int .u64 (wd x 3)], .int .u8 y] W fun e w' => e = .returned (.bool true) ∧ Below W.heap.size W w' := by
  have hh := has_i x y W ⟨h0, h1⟩
  rwa [h] at hh
attribute [local irreducible] rg ofV hasI ixI sizeI leastI rng mem mems canon ix ofL bit
set_option maxRecDepth 100000 in
set_option maxHeartbeats 1000000 in
theorem inverse_walk (x : BitVec 256) (w : World) (hT : TabAt 0 Lib.deBruijn64tab w) (hg0 : 0 < w.heap.size) :
    Calls Tryd.prog 7 #[.agg #[.int .u64 (wd x 0), .int .u64 (wd x 1), .int .u64 (wd x 2), .int .u64 (wd x 3)]] w fun e w' => e = .returned (.bool true) ∧ Below w.heap.size w w' := by
  have HT := Lib.hid hT
  clear hT
  have HM := Lib.hid (mems_at x)
  have HI := Lib.hid (mems_step x)
  have HX := Lib.hid (ofL_mems x)
  have HL := mems_len x 256
  go_enter Tryd.func7, Tryd.ntmps7
  go_wp2_with (first
    | (go_at_call 13; refine (sanity_any _ ?_ ?_).mono ?_; exact tab_below HT.out (up_al (Below.refl w.heap.size w) _) hg0; exact Nat.lt_of_lt_of_le hg0 (up_al (Below.refl w.heap.size w) _).size; rintro e w1 ⟨rfl, hb1⟩; have HB := Lib.hid (up_call (up_al (Below.refl w.heap.size w) _) hb1); have HD := Lib.hid ((Blk.new w #[.int .u64 (wd x 0), .int .u64 (wd x 1), .int .u64 (wd x 2), .int .u64 (wd x 3)] 24).grows hb1); obtain ⟨d0, d1, d2, d3, -⟩ := HD.out.four; clear hb1)
    | (go_at_call 28; refine (bytes_any _ _ ?_ ?_).mono ?_; exact tab_below HT.out HB.out hg0; exact Nat.lt_of_lt_of_le hg0 HB.out.size; rintro e a ⟨⟨v, rfl, hown⟩, hb1⟩; obtain ⟨p, cp, rfl⟩ := own_shape hown; have HA := Lib.hid (BI.of (HD.out.grows hb1) hown); have HO := Lib.hid hown; replace HB := Lib.hid (up_call HB.out hb1); clear hb1 hown))
  generalize hn : (mems x 256).length = n at HL ⊢
  have HN := Lib.hid hn
  clear hn
  go_loopw [5] (fun i wr => ∃ k : Nat, k ≤ n ∧ i = .int .i64 k ∧ Below a.heap.size a wr) (fun i _ => n - (intOf i).toNat)
  case atStart => exact ⟨0, Nat.zero_le _, rfl, Below.refl _ _⟩
  case round =>
    obtain ⟨k, hk, rfl, hbw⟩ := hrel
    by_cases hlt : k < n
    · have hd : decide ((k : Int) < (n : Int)) = true := by simp; omega
      obtain ⟨y, hy⟩ : ∃ y, (mems x 256)[k]? = some y := ⟨_, List.getElem?_eq_getElem (by rw [HN.out]; exact hlt)⟩
      have hA := HA.out.grows hbw
      obtain ⟨g, rfl, hg, hc⟩ := hA.row k y hy
      obtain ⟨y0, y1, hq⟩ := HM.out k y hy
      obtain ⟨b0, b1, b2, b3, -⟩ := hA.box.four
      have k0 := cell_regrown b0
      have k1 := cell_regrown b1
      have k2 := cell_regrown b2
      have k3 := cell_regrown b3
      have k4 := cell_regrown hc
      have cHas : ∀ d os, Calls Tryd.prog 35 #[.agg #[.int .u64 (wd x 0), .int .u64 (wd x 1), .int .u64 (wd x 2), .int .u64 (wd x 3)], .int .u8 y] (Go.Sort.grow (redrawn wr d) os) fun e w'' => e = .returned (.bool true) ∧ ∃ p : Regrown, w'' = Go.Sort.grow (redrawn wr p.d) p.os := fun d os => Calls.regrown_of (has_true y0 y1 hq _)
      have HC := Lib.hid cHas
      clear cHas
      rcases Nat.eq_zero_or_pos k with h0 | hpos
      · have hd0 : decide (0 < (k : Int)) = false := by simp; omega
        have hd2 : decide (0 < k) = false := by simp; omega
        clear h0
        have hA := Lib.hid hA
        clear b0 b1 b2 b3 hc hy
        go_wp2_with fail
        refine wp_region_quiet_below (by kernel_rfl) (by kernel_rfl) ?_
        repeat (go_big_quiet_step (first | exact HC.out _ _))
        refine wpQuiet_nil ?_
        intro _ hw'
        obtain ⟨⟨dq, osq⟩, hw''⟩ := hw'
        subst hw''
        go_wp2
        go_roundw
        case rel => exact ⟨k + 1, by omega, by go_num, up_call hbw (below_regrown wr dq osq)⟩
        case measure => simp [intOf]; omega
      · obtain ⟨j, rfl⟩ : ∃ j, k = j + 1 := ⟨k - 1, by omega⟩
        have hjn : j < n := by omega
        have hd0 : decide (0 < ((j : Int) + 1)) = true := by apply decide_eq_true; omega
        obtain ⟨z, hz⟩ : ∃ z, (mems x 256)[j]? = some z := ⟨_, List.getElem?_eq_getElem (by rw [HN.out]; omega)⟩
        obtain ⟨g', hgg, _, hcz⟩ := hA.row j z hz
        simp only [Option.some.injEq, Addr.mk.injEq, and_true] at hgg
        subst hgg
        have k5 := cell_regrown hcz
        have hzy := HI.out j z y hz hy
        have hd1 : decide (y ≤ z) = false := by simp; omega
        have hA := Lib.hid hA
        clear b0 b1 b2 b3 hc hy hz hcz
        go_wp2_with fail
        refine wp_region_quiet_below (by kernel_rfl) (by kernel_rfl) ?_
        repeat (go_big_quiet_step (first | exact HC.out _ _))
        refine wpQuiet_nil ?_
        intro _ hw'
        obtain ⟨⟨dq, osq⟩, hw''⟩ := hw'
        subst hw''
        go_wp2
        go_roundw
        case rel => exact ⟨j + 1 + 1, by omega, by go_num, up_call hbw (below_regrown wr dq osq)⟩
        case measure => simp [intOf]; omega
    · obtain rfl : k = n := by omega
      have hd : decide ((k : Int) < (k : Int)) = false := by simp
      have hA := HA.out.grows hbw
      obtain ⟨b0, b1, b2, b3, -⟩ := hA.box.four
      have k0 := cell_regrown b0
      have k1 := cell_regrown b1
      have k2 := cell_regrown b2
      have k3 := cell_regrown b3
      have cOf : ∀ d os, Calls Tryd.prog 14 #[.slice p k cp] (Go.Sort.grow (redrawn wr d) os) fun e w'' => e = .returned (.agg #[.int .u64 (wd x 0), .int .u64 (wd x 1), .int .u64 (wd x 2), .int .u64 (wd x 3)]) ∧ ∃ p : Regrown, w'' = Go.Sort.grow (redrawn wr p.d) p.os := fun d os => by
        have h := of_own HO.out (by rw [HN.out]; omega) (mems_byte x 256 (Nat.le_refl _)) (up_call hbw (below_regrown wr d os))
        rw [HX.out, HN.out] at h
        exact Calls.regrown_of h
      have cSize : ∀ d os, Calls Tryd.prog 24 #[.agg #[.int .u64 (wd x 0), .int .u64 (wd x 1), .int .u64 (wd x 2), .int .u64 (wd x 3)]] (Go.Sort.grow (redrawn wr d) os) fun e w'' => e = .returned (.int .i64 k) ∧ ∃ p : Regrown, w'' = Go.Sort.grow (redrawn wr p.d) p.os := fun d os => by
        have h := size_any x (Go.Sort.grow (redrawn wr d) os)
        rw [HN.out] at h
        exact Calls.regrown_of h
      have cLeast : ∀ d os, Calls Tryd.prog 26 #[.agg #[.int .u64 (wd x 0), .int .u64 (wd x 1), .int .u64 (wd x 2), .int .u64 (wd x 3)]] (Go.Sort.grow (redrawn wr d) os) fun e w'' => e = .returned (.int .i64 (leastI x)) ∧ ∃ p : Regrown, w'' = Go.Sort.grow (redrawn wr p.d) p.os := fun d os => Calls.regrown_of (least_i x HT.out hg0 (up_call (up_call HB.out hbw) (below_regrown wr d os)))
      have HC := Lib.hid (And.intro cOf (And.intro cSize cLeast))
      have qe := eq_yes (Eq.refl x)
      have qk : ((k : Int) == (k : Int)) = true := by simp
      clear cOf cSize cLeast b0 b1 b2 b3
      rcases Nat.eq_zero_or_pos k with h0 | hpos
      · have hd0 : decide (0 < (k : Int)) = false := by simp; omega
        have hd2 : decide (0 < k) = false := by simp; omega
        have hl : leastI x = -1 := by
          have e : mems x 256 = [] := List.length_eq_zero_iff.1 (HN.out.trans h0)
          unfold leastI; rw [e]; rfl
        have hA := Lib.hid hA
        clear h0
        go_wp2_with fail
        refine wp_region_quiet_below (by kernel_rfl) (by kernel_rfl) ?_
        repeat (go_big_quiet_step (first | exact HC.out.1 _ _ | exact HC.out.2.1 _ _ | exact HC.out.2.2 _ _))
        refine wpQuiet_nil ?_
        intro _ hw'
        obtain ⟨⟨dq, osq⟩, hw''⟩ := hw'
        subst hw''
        go_wp2
        go_ret
        exact ⟨rfl, up_call (up_call HB.out hbw) (below_regrown wr dq osq)⟩
      · have hd0 : decide (0 < (k : Int)) = true := by simp; omega
        have hd2 : decide (0 < k) = true := by simp; omega
        obtain ⟨y, hy⟩ : ∃ y, (mems x 256)[0]? = some y := ⟨_, List.getElem?_eq_getElem (by rw [HN.out]; omega)⟩
        obtain ⟨g, rfl, hg, hc⟩ := hA.row 0 y hy
        obtain ⟨y0, y1, hq⟩ := HM.out 0 y hy
        have hl : leastI x = y := by
          unfold leastI
          cases hm : mems x 256 with
          | nil => rw [hm] at hy; cases hy
          | cons z l => rw [hm] at hy; cases hy; rfl
        have hA := Lib.hid hA
        clear hy
        go_wp2_with fail
        refine wp_region_quiet_below (by kernel_rfl) (by kernel_rfl) ?_
        repeat (go_big_quiet_step (first | exact HC.out.1 _ _ | exact HC.out.2.1 _ _ | exact HC.out.2.2 _ _))
        refine wpQuiet_nil ?_
        intro _ hw'
        obtain ⟨⟨dq, osq⟩, hw''⟩ := hw'
        subst hw''
        go_wp2
        go_ret
        exact ⟨rfl, up_call (up_call HB.out hbw) (below_regrown wr dq osq)⟩
end Go.Proofs.YthhlehhienndeaaDoor
