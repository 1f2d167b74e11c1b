/-
  The law that the cells are the coarsest partition: the walk.
-/
import Derived.Test.YthhlehhienndeaaDoorOpc
import Derived.Test.YthhlehhienndeaaDoorLd
import Derived.Test.YthhlehhienndeaaDoorWf
import Derived.Lib.QuietBelow
import Derived.BigQuiet
set_option linter.unusedSimpArgs false
set_option linter.unusedVariables false
namespace Go.Proofs.YthhlehhienndeaaDoor
open Go.RowKit Go.Shelf Go.Lib

theorem isC_at {w : World} {p : Option Addr} {n cap : Nat} {l : List (BitVec 256)} (h : IsC w (.slice p n cap) l) {k : Nat} {x : BitVec 256} (hk : l[k]? = some x) : ∃ blk off, p = some ⟨blk, off, none⟩ ∧
    w.cell? ⟨blk, off + k * 4, none⟩ = some (.int .u64 (wd x 0)) ∧ w.cell? ⟨blk, off + k * 4 + 1, none⟩ = some (.int .u64 (wd x 1)) ∧ w.cell? ⟨blk, off + k * 4 + 2, none⟩ = some (.int .u64 (wd x 2)) ∧ w.cell? ⟨blk, off + k * 4 + 3, none⟩ = some (.int .u64 (wd x 3)) := by
  rcases h with ⟨rfl, _⟩ | ⟨blk, off, cap, he, hc⟩
  · cases hk
  · simp only [Value.slice.injEq] at he
    exact ⟨blk, off, he.1, hc.four k x hk⟩
theorem has_b (x : BitVec 256) (b : Int) (c : Bool) (h : hasI x b = c) (h0 : 0 ≤ b ∧ b < 256) (W : World) : Calls Tryd.prog 35 #[.agg #[.int .u64 (wd x 0), .int .u64 (wd x 1), .int .u64 (wd x 2), .int .u64 (wd x 3)], .int .u8 b] W fun e w' => e = .returned (.bool c) ∧ Below W.heap.size W w' := by
  have := has_i x b W h0
  rwa [h] at this
theorem ix_canon_two (l : List (BitVec 256)) (p q : Int) (hp : 0 ≤ p ∧ p < 256) (hq : 0 ≤ q ∧ q < 256) : ∃ ka kb : Nat, ixI (canon l) p = ka ∧ ixI (canon l) q = kb ∧ (ka = kb ↔ alike l p.toNat q.toNat = true) := by
  obtain ⟨k, x, hk, hx, hn⟩ := (canon_inv l).cell_at (j := p.toNat) (by omega)
  obtain ⟨k', x', hk', hx', hn'⟩ := (canon_inv l).cell_at (j := q.toNat) (by omega)
  exact ⟨k, k', ix_hit hk hx hn, ix_hit hk' hx' hn', (canon_inv l).cell_alike (by omega) (by omega) hk hx hk' hx'⟩
theorem all_step {l : List (BitVec 256)} {p q : Int} {k : Nat} {x : BitVec 256} (h : AllAlike l p.toNat q.toNat k) (hx : l[k]? = some x) (e : hasI x p = hasI x q) : AllAlike l p.toNat q.toNat (k + 1) := fun j hj y hy => by
  rcases Nat.lt_or_ge j k with h' | h'
  · exact h j h' y hy
  · obtain rfl : j = k := by omega
    rw [hx] at hy; cases hy; exact e
theorem alike_no {l : List (BitVec 256)} {p q : Int} {k : Nat} {x : BitVec 256} (hx : l[k]? = some x) (e : hasI x p ≠ hasI x q) : alike l p.toNat q.toNat = false := alike_not hx e

attribute [local irreducible] rg ofV hasI ixI sizeI leastI rng mem mems canon ix ofL bit uni itr sbt cpl alike
set_option maxRecDepth 100000 in
set_option maxHeartbeats 1000000 in
theorem coarsest_walk (v : Value) (l : List (BitVec 256)) (p q : Int) (w : World) (hv : IsC w v l) (hm : l.length ≤ maxLen) (hp : 0 ≤ p ∧ p < 256) (hq : 0 ≤ q ∧ q < 256)
    (hT : TabAt 0 Lib.deBruijn64tab w) (hg0 : 0 < w.heap.size) :
    Calls Tryd.prog 10 #[v, .int .u8 p, .int .u8 q] w fun e w' => e = .returned (.bool true) ∧ Below w.heap.size w w' := by
  have HT := Lib.hid hT
  clear hT
  obtain ⟨pp, cp, rfl⟩ := hv.shape
  obtain ⟨ka, kb, ea, eb, eab⟩ := ix_canon_two l p q hp hq
  have HE := Lib.hid (And.intro ea (And.intro eb eab))
  clear ea eb eab
  unfold maxLen at hm
  generalize hn : l.length = n at hv hm ⊢
  have HV := Lib.hid hv
  have HN := Lib.hid hn
  clear hv hn
  go_enter Tryd.func10, Tryd.ntmps10
  by_cases h12 : 12 < n
  · have hd : decide ((12 : Int) < (n : Int)) = true := by simp; omega
    go_wp2_with (go_at_call 13; refine (sanity_any _ HT.out hg0).mono ?_; rintro e a ⟨rfl, hb1⟩; have HB := Lib.hid hb1; clear hb1)
    go_ret
    exact ⟨rfl, HB.out⟩
  · have hd : decide ((12 : Int) < (n : Int)) = false := by simp; omega
    go_wp2_with (go_at_call 13; refine (sanity_any _ HT.out hg0).mono ?_; rintro e a ⟨rfl, hb1⟩; have HB := Lib.hid hb1; clear hb1)
    go_loopw [8, 9] (fun s i wr => ∃ k : Nat, k ≤ n ∧ i = .int .i64 k ∧ Below a.heap.size a wr ∧ ((s = .bool true ∧ AllAlike l p.toNat q.toNat k) ∨ (s = .bool false ∧ alike l p.toNat q.toNat = false))) (fun _ i _ => n - (intOf i).toNat)
    case atStart => exact ⟨0, Nat.zero_le _, rfl, Below.refl _ _, .inl ⟨rfl, fun j hj => by omega⟩⟩
    case round =>
      obtain ⟨k, hk, rfl, hbw, hs⟩ := hrel
      by_cases hlt : k < n
      · have hd1 : decide ((k : Int) < (n : Int)) = true := by simp; omega
        obtain ⟨x, hx⟩ : ∃ x, l[k]? = some x := ⟨_, List.getElem?_eq_getElem (by rw [HN.out]; exact hlt)⟩
        obtain ⟨blk, off, rfl, c0, c1, c2, c3⟩ := isC_at (HV.out.grows (up_call HB.out hbw)) hx
        have k0 := cell_regrown c0
        have k1 := cell_regrown c1
        have k2 := cell_regrown c2
        have k3 := cell_regrown c3
        clear c0 c1 c2 c3
        rcases hs with ⟨rfl, ha⟩ | ⟨rfl, ha⟩
        · obtain ⟨bp, hbp⟩ : ∃ b, hasI x p = b := ⟨_, rfl⟩
          obtain ⟨bq, hbq⟩ : ∃ b, hasI x q = b := ⟨_, rfl⟩
          have HA := Lib.hid (And.intro ha hx)
          clear ha hx
          cases bp <;> cases bq
          all_goals
            have H1 := Lib.hid (fun d os => Calls.regrown_of (has_b x p _ hbp hp (Go.Sort.grow (redrawn wr d) os)))
            have H2 := Lib.hid (fun d os => Calls.regrown_of (has_b x q _ hbq hq (Go.Sort.grow (redrawn wr d) os)))
            have HX := Lib.hid (And.intro hbp hbq)
            clear hbp hbq
            go_wp2_with fail
            refine wp_region_quiet_below (by kernel_rfl) (by kernel_rfl) ?_
            repeat (go_big_quiet_step (first | with_reducible exact H1.out _ _ | with_reducible exact H2.out _ _))
            refine wpQuiet_nil ?_
            intro _ hw'
            obtain ⟨⟨dq, osq⟩, hw''⟩ := hw'
            subst hw''
            go_wp2
            go_roundw
            case rel =>
              refine ⟨k + 1, by omega, by go_num, up_call hbw (below_regrown wr dq osq), ?_⟩
              first
                | exact .inl ⟨rfl, all_step HA.out.1 HA.out.2 (HX.out.1.trans HX.out.2.symm)⟩
                | exact .inr ⟨rfl, alike_no HA.out.2 (by rw [HX.out.1, HX.out.2]; decide)⟩
            case measure => simp [intOf]; omega
        · have HA := Lib.hid ha
          clear ha hx
          go_wp2_with fail
          refine wp_region_quiet_below (by kernel_rfl) (by kernel_rfl) ?_
          repeat (go_big_quiet_step (fail))
          refine wpQuiet_nil ?_
          intro _ hw'
          obtain ⟨⟨dq, osq⟩, hw''⟩ := hw'
          subst hw''
          go_wp2
          go_roundw
          case rel => exact ⟨k + 1, by omega, by go_num, up_call hbw (below_regrown wr dq osq), .inr ⟨rfl, HA.out⟩⟩
          case measure => simp [intOf]; omega
      · obtain rfl : k = n := by omega
        have hd1 : decide ((k : Int) < (k : Int)) = false := by simp
        have HW := Lib.hid (up_call HB.out hbw)
        have h1000 : l.length ≤ 1000 := by rw [HN.out]; omega
        have hc1000 : (canon l).length ≤ 1000 := Nat.le_trans (canon_len l) (by omega)
        have HL := Lib.hid (And.intro h1000 hc1000)
        clear h1000 hc1000
        rcases hs with ⟨rfl, ha⟩ | ⟨rfl, ha⟩
        · have e : ka = kb := HE.out.2.2.2 (alike_of_all (by rw [HN.out]; exact ha))
          subst e
          clear ha
          go_wp2_with (first
            | (go_at_call 31; refine (cells_any _ l _ ?_ HL.out.1 ?_ ?_).mono ?_; exact HV.out.grows HW.out; exact tab_below HT.out HW.out hg0; exact Nat.lt_of_lt_of_le hg0 HW.out.size; rintro e w1 ⟨v1, rfl, hown, hb1⟩; have HO := Lib.hid (own_isC hown); replace HW := Lib.hid (up_call HW.out hb1); have HB1 := Lib.hid (Below.refl w1.heap.size w1); clear hown hb1)
            | (go_at_call 33; refine (index_i _ (canon l) _ HO.out HB1.out HL.out.2 ?_).mono ?_; (first | exact hp | exact hq); rintro e w2 ⟨rfl, hb1⟩; (first | rw [HE.out.1] | rw [HE.out.2.1]); replace HW := Lib.hid (up_call HW.out hb1); replace HB1 := Lib.hid (up_call HB1.out hb1); clear hb1))
          go_ret
          exact ⟨rfl, HW.out⟩
        · have e : ka ≠ kb := fun h => by rw [HE.out.2.2.1 h] at ha; cases ha
          have e1 : ((ka : Int) == (kb : Int)) = false := by simp; omega
          clear ha e
          go_wp2_with (first
            | (go_at_call 31; refine (cells_any _ l _ ?_ HL.out.1 ?_ ?_).mono ?_; exact HV.out.grows HW.out; exact tab_below HT.out HW.out hg0; exact Nat.lt_of_lt_of_le hg0 HW.out.size; rintro e w1 ⟨v1, rfl, hown, hb1⟩; have HO := Lib.hid (own_isC hown); replace HW := Lib.hid (up_call HW.out hb1); have HB1 := Lib.hid (Below.refl w1.heap.size w1); clear hown hb1)
            | (go_at_call 33; refine (index_i _ (canon l) _ HO.out HB1.out HL.out.2 ?_).mono ?_; (first | exact hp | exact hq); rintro e w2 ⟨rfl, hb1⟩; (first | rw [HE.out.1] | rw [HE.out.2.1]); replace HW := Lib.hid (up_call HW.out hb1); replace HB1 := Lib.hid (up_call HB1.out hb1); clear hb1))
          go_ret
          exact ⟨rfl, HW.out⟩
end Go.Proofs.YthhlehhienndeaaDoor
