/-
  Texts of the proof, one behind another: Wb, Wq, Wr, Wm.
-/
import Derived.Test.YtgbbjobmcbdhdaaGreatDoorYdc
import Derived.Test.YtgbbjobmcbdhdaaGreatDoorYdd
import Derived.Deep.RegionHeld3
import Derived.Test.YtgbbjobmcbdhdaaGreatDoorYcf
set_option linter.unusedSimpArgs false
set_option linter.unusedVariables false
/-
  Walks: the reference's Binary.
-/
namespace Go.Proofs.YtgbbjobmcbdhdaaGreatDoor
open Go.RowKit

theorem rops_two (k : Int) (h : k = 4 ∨ k = 5 ∨ k = 6) (W : World) : Calls Tryz.prog 39 #[.int .i64 k] W fun e W' => e = .returned (.int .i64 2) ∧ W' = W := by
  rcases h with rfl | rfl | rfl
  all_goals
    go_enter Tryz.func39, Tryz.ntmps39
    go_wp2
    go_ret
    exact ⟨rfl, rfl⟩
theorem rops_one (k : Int) (h : k = 7 ∨ k = 8) (W : World) : Calls Tryz.prog 39 #[.int .i64 k] W fun e W' => e = .returned (.int .i64 1) ∧ W' = W := by
  rcases h with rfl | rfl
  all_goals
    go_enter Tryz.func39, Tryz.ntmps39
    go_wp2
    go_ret
    exact ⟨rfl, rfl⟩
theorem rops_none (k : Int) (h4 : ¬ (k = 4 ∨ k = 5 ∨ k = 6)) (h7 : ¬ (k = 7 ∨ k = 8)) (W : World) : Calls Tryz.prog 39 #[.int .i64 k] W fun e W' => e = .returned (.int .i64 0) ∧ W' = W := by
  have e4 : (k == 4) = false := by simp; omega
  have e5 : (k == 5) = false := by simp; omega
  have e6 : (k == 6) = false := by simp; omega
  have e7 : (k == 7) = false := by simp; omega
  have e8 : (k == 8) = false := by simp; omega
  clear h4 h7
  go_enter Tryz.func39, Tryz.ntmps39
  go_wp2
  go_ret
  exact ⟨rfl, rfl⟩

set_option maxRecDepth 100000 in
set_option maxHeartbeats 4000000 in
theorem rbinary_any (kd : Int) (v u : Value) (xs ys : List Nd) (W : World) (hv : IsX W v xs) (hu : IsX W u ys) (hl : xs.length ≤ 549755813888) (hm : ys.length ≤ 549755813888)
    (hx0 : 0 < xs.length) (hok : ∀ (i : Nat) n, ys[i]? = some n → (∀ j ∈ opsN n, 0 ≤ j ∧ j < 1099511627776)) :
    Calls Tryz.prog 28 #[.int .i64 kd, v, u] W fun e W' =>
      (∃ v', e = .returned v' ∧ W'.ownsRow W.heap.size 45 9 v' (xs.length + ys.length + 1) ((bin kd xs ys).flatMap encN)) ∧ Below W.heap.size W W' := by
  obtain ⟨i0, hi, hz0, hz1, hz2⟩ := info_parts infoN
  obtain ⟨sp, sc, rfl⟩ := hv.shape
  obtain ⟨tp, tc, rfl⟩ := hu.shape
  have HV := Lib.hid (fun k x (hk : xs[k]? = some x) => hv.at hk)
  have HU := Lib.hid (fun k x (hk : ys[k]? = some x) => hu.at hk)
  have HT := Lib.hid (fun k x (hk : xs[k]? = some x) => show xs.take (k + 1) = xs.take k ++ [x] by rw [List.take_add_one, hk]; rfl)
  have HT2 := Lib.hid (fun k x (hk : ys[k]? = some x) => show xs ++ (ys.take (k + 1)).map (shN xs.length) = (xs ++ (ys.take k).map (shN xs.length)) ++ [shN xs.length x] by rw [List.take_add_one, hk, List.map_append, ← List.append_assoc]; rfl)
  have HOK := Lib.hid hok
  clear hv hu hok
  go_enter Tryz.func28, Tryz.ntmps28
  go_wp2
  go_loopw [7, 8] (fun v i wr => ∃ k : Nat, k ≤ xs.length ∧ i = .int .i64 k ∧ wr.ownsRow W.heap.size 45 9 v (xs.take k).length ((xs.take k).flatMap encN) ∧ Below W.heap.size W wr) (fun _ i _ => xs.length - (intOf i).toNat)
  case atStart => exact ⟨0, Nat.zero_le _, rfl, own_emptyN W W.heap.size (Nat.le_refl _) 45, (Below.refl _ W).alloc (Nat.le_refl _) _⟩
  case round =>
    obtain ⟨k, hk, rfl, hown, hbw⟩ := hrel
    have hll : (xs.take k).length = k := by rw [List.length_take]; omega
    by_cases hlt : k < xs.length
    · obtain ⟨x, hx⟩ : ∃ x, xs[k]? = some x := ⟨_, List.getElem?_eq_getElem hlt⟩
      obtain ⟨blk, off, rfl, a0, a1, a2, a3, a4, a5, a6, a7, a8⟩ := HV.out k x hx
      have hlb : blk < W.heap.size := lt_of_cell a0
      have mv : ∀ {o : Nat} {v : Value}, W.cell? ⟨blk, o, none⟩ = some v → wr.cell? ⟨blk, o, none⟩ = some v := fun h => (hbw.cell (p := ⟨blk, _, none⟩) hlb).trans h
      have a0 := mv a0
      have a1 := mv a1
      have a2 := mv a2
      have a3 := mv a3
      have a4 := mv a4
      have a5 := mv a5
      have a6 := mv a6
      have a7 := mv a7
      have a8 := mv a8
      clear mv
      have HK := Lib.hid (HT.out k x hx)
      have HO := Lib.hid hown
      have HB := Lib.hid hbw
      have HLen := Lib.hid hll
      have hsz := hbw.size
      clear hx hown hbw hll
      go_wp2_with (at_builtin; refine wpList_append_own _ rfl _ _ 23 rfl W.heap.size 45 i0 _ 9 72 Tryz.underlying23 hi hz0 hz1 hz2 rfl (by decide) _ _ _ rfl (own_alloc HO.out _) ⟨wr.heap.size, 0, none⟩ 1 1 (encN x) rfl rfl (cells_new9 _ _ _ _ rfl) (encN_one x) (by unfold maxLen; have := HLen.out; omega) (by have := HLen.out; omega) (by simp; omega) ?_; intro v' w2 hown2 hgrow _)
      go_roundw
      case rel => exact ⟨k + 1, by omega, by go_num, by rw [HK.out]; exact own_cast hown2 (by simp) (by rw [flat_snocN]), (HB.out.alloc hsz _).grown hgrow (by simp; omega) (fun k2 e2 => by have := own_ge HO.out k2 e2; omega)⟩
      case measure => simp [intOf]; omega
    · obtain rfl : k = xs.length := by omega
      rw [List.take_length] at hown
      obtain ⟨op, oc, rfl⟩ := own_shape hown
      have HO0 := Lib.hid hown
      have HB0 := Lib.hid hbw
      clear hown hbw hll
      go_wp2
      go_loopw [7, 9] (fun v i wr => ∃ k : Nat, k ≤ ys.length ∧ i = .int .i64 k ∧ wr.ownsRow W.heap.size 45 9 v (xs ++ (ys.take k).map (shN xs.length)).length ((xs ++ (ys.take k).map (shN xs.length)).flatMap encN) ∧ Below W.heap.size W wr) (fun _ i _ => ys.length - (intOf i).toNat)
      case atStart => exact ⟨0, Nat.zero_le _, rfl, own_cast HO0.out (by simp) (by simp), HB0.out⟩
      case round =>
        obtain ⟨k, hk, rfl, hown, hbw⟩ := hrel
        have hll : (xs ++ (ys.take k).map (shN xs.length)).length = xs.length + k := by rw [List.length_append, List.length_map, List.length_take]; omega
        have HPre := Lib.hid (HT2.out k)
        obtain ⟨pre, hpre⟩ : ∃ pre, pre = xs ++ (ys.take k).map (shN xs.length) := ⟨_, rfl⟩
        rw [← hpre] at hown hll HPre
        by_cases hlt : k < ys.length
        · obtain ⟨x, hx⟩ : ∃ x, ys[k]? = some x := ⟨_, List.getElem?_eq_getElem hlt⟩
          obtain ⟨blk, off, rfl, a0, a1, a2, a3, a4, a5, a6, a7, a8⟩ := HU.out k x hx
          have hlb : blk < W.heap.size := lt_of_cell a0
          have mv : ∀ {o : Nat} {v : Value}, W.cell? ⟨blk, o, none⟩ = some v → wr.cell? ⟨blk, o, none⟩ = some v := fun h => (hbw.cell (p := ⟨blk, _, none⟩) hlb).trans h
          have a0 := mv a0
          have a1 := mv a1
          have a2 := mv a2
          have a3 := mv a3
          have a4 := mv a4
          have a5 := mv a5
          have a6 := mv a6
          have a7 := mv a7
          have a8 := mv a8
          clear mv
          have HK := Lib.hid (HPre.out x hx)
          have HJ := HOK.out k x hx
          have HO := Lib.hid hown
          have HB := Lib.hid hbw
          have HLen := Lib.hid hll
          have hsz := hbw.size
          clear hx hown hbw hll HPre hpre
          obtain ⟨ck, cc, cl, cr, cn, cx⟩ := x
          dsimp only at a0 a1 a2 a3 a4 a5 a6 a7 a8
          by_cases h4 : ck = 4 ∨ ck = 5 ∨ ck = 6
          · have hshape : shN xs.length ⟨ck, cc, cl, cr, cn, cx⟩ = ⟨ck, cc, cl + (xs.length : Int), cr + (xs.length : Int), cn, cx⟩ := shN_two (n := ⟨ck, cc, cl, cr, cn, cx⟩) h4
            have wl : IntKind.i64.wrap (cl + (xs.length : Int)) = cl + (xs.length : Int) := IntWalk.i64_in _ (by have := HJ cl (by rw [opsN_two (n := ⟨ck, cc, cl, cr, cn, cx⟩) h4]; simp); omega)
            have wr' : IntKind.i64.wrap (cr + (xs.length : Int)) = cr + (xs.length : Int) := IntWalk.i64_in _ (by have := HJ cr (by rw [opsN_two (n := ⟨ck, cc, cl, cr, cn, cx⟩) h4]; simp); omega)
            have HC := Lib.hid (cells_new9 (wr.alloc (.cells #[.int .i64 ck, .int .u64 (wd cc 0), .int .u64 (wd cc 1), .int .u64 (wd cc 2), .int .u64 (wd cc 3), .int .i64 (cl + (xs.length : Int)), .int .i64 (cr + (xs.length : Int)), .int .i64 cn, .int .i64 cx] 45)) ⟨ck, cc, cl + (xs.length : Int), cr + (xs.length : Int), cn, cx⟩ 45 (wr.heap.size + 1) (by simp))
            have HE := Lib.hid (encN_one ⟨ck, cc, cl + (xs.length : Int), cr + (xs.length : Int), cn, cx⟩)
            have HZ := Lib.hid (show pre.length + 1 ≤ maxLen ∧ (pre.length + 1) * 72 ≤ 140737488355328 by unfold maxLen; have := HLen.out; omega)
            go_wp2_with fail
            refine (rops_two ck h4 _).mono ?_
            rintro e W1 ⟨rfl, rfl⟩
            go_wp2_with (at_builtin; refine wpList_append_own _ rfl _ _ 23 rfl W.heap.size 45 i0 _ 9 72 Tryz.underlying23 hi hz0 hz1 hz2 rfl (by decide) _ _ _ rfl (own_alloc (own_alloc HO.out _) _) ⟨wr.heap.size + 1, 0, none⟩ 1 1 (encN ⟨ck, cc, cl + (xs.length : Int), cr + (xs.length : Int), cn, cx⟩) rfl rfl HC.out HE.out HZ.out.1 HZ.out.2 (by simp; omega) ?_; intro v' w2 hown2 hgrow _)
            go_roundw
            case rel => exact ⟨k + 1, by omega, by go_num, by rw [HK.out, hshape]; exact own_cast hown2 (by simp) (by rw [flat_snocN]), ((HB.out.alloc hsz _).alloc (by simp; omega) _).grown hgrow (by simp; omega) (fun k2 e2 => by have := own_ge HO.out k2 e2; omega)⟩
            case measure => simp [intOf]; omega
          · by_cases h7 : ck = 7 ∨ ck = 8
            · have hshape : shN xs.length ⟨ck, cc, cl, cr, cn, cx⟩ = ⟨ck, cc, cl + (xs.length : Int), cr, cn, cx⟩ := shN_one (n := ⟨ck, cc, cl, cr, cn, cx⟩) h7
              have wl : IntKind.i64.wrap (cl + (xs.length : Int)) = cl + (xs.length : Int) := IntWalk.i64_in _ (by have := HJ cl (by rw [opsN_one (n := ⟨ck, cc, cl, cr, cn, cx⟩) h7]; simp); omega)
              have HC := Lib.hid (cells_new9 (wr.alloc (.cells #[.int .i64 ck, .int .u64 (wd cc 0), .int .u64 (wd cc 1), .int .u64 (wd cc 2), .int .u64 (wd cc 3), .int .i64 (cl + (xs.length : Int)), .int .i64 (cr), .int .i64 cn, .int .i64 cx] 45)) ⟨ck, cc, cl + (xs.length : Int), cr, cn, cx⟩ 45 (wr.heap.size + 1) (by simp))
              have HE := Lib.hid (encN_one ⟨ck, cc, cl + (xs.length : Int), cr, cn, cx⟩)
              have HZ := Lib.hid (show pre.length + 1 ≤ maxLen ∧ (pre.length + 1) * 72 ≤ 140737488355328 by unfold maxLen; have := HLen.out; omega)
              go_wp2_with fail
              refine (rops_one ck h7 _).mono ?_
              rintro e W1 ⟨rfl, rfl⟩
              go_wp2_with (at_builtin; refine wpList_append_own _ rfl _ _ 23 rfl W.heap.size 45 i0 _ 9 72 Tryz.underlying23 hi hz0 hz1 hz2 rfl (by decide) _ _ _ rfl (own_alloc (own_alloc HO.out _) _) ⟨wr.heap.size + 1, 0, none⟩ 1 1 (encN ⟨ck, cc, cl + (xs.length : Int), cr, cn, cx⟩) rfl rfl HC.out HE.out HZ.out.1 HZ.out.2 (by simp; omega) ?_; intro v' w2 hown2 hgrow _)
              go_roundw
              case rel => exact ⟨k + 1, by omega, by go_num, by rw [HK.out, hshape]; exact own_cast hown2 (by simp) (by rw [flat_snocN]), ((HB.out.alloc hsz _).alloc (by simp; omega) _).grown hgrow (by simp; omega) (fun k2 e2 => by have := own_ge HO.out k2 e2; omega)⟩
              case measure => simp [intOf]; omega
            · have hshape : shN xs.length ⟨ck, cc, cl, cr, cn, cx⟩ = ⟨ck, cc, cl, cr, cn, cx⟩ := shN_none (n := ⟨ck, cc, cl, cr, cn, cx⟩) h4 h7
              have HC := Lib.hid (cells_new9 (wr.alloc (.cells #[.int .i64 ck, .int .u64 (wd cc 0), .int .u64 (wd cc 1), .int .u64 (wd cc 2), .int .u64 (wd cc 3), .int .i64 (cl), .int .i64 (cr), .int .i64 cn, .int .i64 cx] 45)) ⟨ck, cc, cl, cr, cn, cx⟩ 45 (wr.heap.size + 1) (by simp))
              have HE := Lib.hid (encN_one ⟨ck, cc, cl, cr, cn, cx⟩)
              have HZ := Lib.hid (show pre.length + 1 ≤ maxLen ∧ (pre.length + 1) * 72 ≤ 140737488355328 by unfold maxLen; have := HLen.out; omega)
              go_wp2_with fail
              refine (rops_none ck h4 h7 _).mono ?_
              rintro e W1 ⟨rfl, rfl⟩
              go_wp2_with (at_builtin; refine wpList_append_own _ rfl _ _ 23 rfl W.heap.size 45 i0 _ 9 72 Tryz.underlying23 hi hz0 hz1 hz2 rfl (by decide) _ _ _ rfl (own_alloc (own_alloc HO.out _) _) ⟨wr.heap.size + 1, 0, none⟩ 1 1 (encN ⟨ck, cc, cl, cr, cn, cx⟩) rfl rfl HC.out HE.out HZ.out.1 HZ.out.2 (by simp; omega) ?_; intro v' w2 hown2 hgrow _)
              go_roundw
              case rel => exact ⟨k + 1, by omega, by go_num, by rw [HK.out, hshape]; exact own_cast hown2 (by simp) (by rw [flat_snocN]), ((HB.out.alloc hsz _).alloc (by simp; omega) _).grown hgrow (by simp; omega) (fun k2 e2 => by have := own_ge HO.out k2 e2; omega)⟩
              case measure => simp [intOf]; omega
        · obtain rfl : k = ys.length := by omega
          rw [List.take_length] at hpre
          have HO := Lib.hid hown
          have HB := Lib.hid hbw
          have HLen := Lib.hid hll
          have hsz := hbw.size
          have HPe := Lib.hid hpre
          obtain ⟨op2, oc2, hos⟩ := own_shape hown
          rw [hll] at hos
          subst hos
          clear hown hbw hll HPre hpre
          have w1 : IntKind.i64.wrap ((xs.length : Int) - 1) = (xs.length : Int) - 1 := IntWalk.i64_in _ (by omega)
          have w2' : IntKind.i64.wrap ((xs.length : Int) + (ys.length : Int) - 1) = (xs.length : Int) + (ys.length : Int) - 1 := IntWalk.i64_in _ (by omega)
          have hcn := fun t m hm => cells_new9 wr ⟨kd, 0, (xs.length : Int) - 1, (xs.length : Int) + ys.length - 1, 0, 0⟩ t m hm
          simp only [wd_zero] at hcn
          have HC := Lib.hid (hcn 45 _ rfl)
          clear hcn
          go_wp2_with (at_builtin; refine wpList_append_own _ rfl _ _ 23 rfl W.heap.size 45 i0 _ 9 72 Tryz.underlying23 hi hz0 hz1 hz2 rfl (by decide) _ _ _ rfl (own_alloc (own_cast HO.out HLen.out rfl) _) ⟨wr.heap.size, 0, none⟩ 1 1 (encN ⟨kd, 0, (xs.length : Int) - 1, (xs.length : Int) + ys.length - 1, 0, 0⟩) rfl rfl HC.out (encN_one _) (by unfold maxLen; omega) (by omega) (by simp; omega) ?_; intro v' w2 hown2 hgrow _)
          go_ret
          exact ⟨⟨_, rfl, own_cast hown2 rfl (by unfold bin; rw [HPe.out, ← flat_snocN])⟩, (HB.out.alloc hsz _).grown hgrow (by simp; omega) (fun k2 e2 => by have := own_ge HO.out k2 e2; omega)⟩
end Go.Proofs.YtgbbjobmcbdhdaaGreatDoor

/-
  Walks: one byte pushed on the pile.
-/
namespace Go.Proofs.YtgbbjobmcbdhdaaGreatDoor
open Go.RowKit Go.Shelf
attribute [local go_sem] Oper.semAt_some

theorem leaf_any (k a : Int) (ha : 0 ≤ a ∧ a < 19) (W : World) : Calls Tryz.prog 72 #[.int .i64 k, .int .i64 a] W fun e W' => (∃ n, LeafN n ∧ e = .returned (valN n)) ∧ Below W.heap.size W W' := by
  by_cases h0 : k = 0
  · subst h0; exact leaf_0 a W
  by_cases h1 : k = 1
  · subst h1; exact leaf_1 a W
  by_cases h3 : k = 3
  · subst h3; exact leaf_3 a ha W
  exact leaf_other k a h0 h1 h3 ha W
/-- what a push gives. -/
def Pushed (ls : List (List Nd)) (b : Int) (t : Nat) (W : World) (e : Ending) (W' : World) : Prop :=
  (∃ v' ls', e = .returned v' ∧ IsXs W' v' ls' ∧ Pile ls' (t + 1) ∧ 1 ≤ ls'.length ∧ ls'.length ≤ ls.length + 1 ∧ (b = 5 → 2 ≤ ls.length → ls'.length + 1 = ls.length)) ∧ Below W.heap.size W W'

set_option maxRecDepth 100000 in
set_option maxHeartbeats 4000000 in
theorem push_two (b kk kd : Int) (hb : 0 ≤ b ∧ b < 256) (hk : b.tmod 14 = kk) (hkd : kk = 4 ∧ kd = 4 ∨ kk = 5 ∧ kd = 5 ∨ kk = 6 ∧ kd = 6 ∨ kk = 13 ∧ kd = 4) (v : Value) (L : List (List Nd)) (x y : List Nd) (t : Nat) (W : World)
    (hv : IsXs W v (L ++ [x, y])) (hp : Pile (L ++ [x, y]) t) (ht : t ≤ 1073741824) (hl : L.length ≤ 1073741824) :
    Calls Tryz.prog 47 #[v, .int .u8 b] W (Pushed (L ++ [x, y]) b t W) := by
  obtain ⟨g0, g1, g2, g3⟩ := two_get L x y
  obtain ⟨vp, vc, rfl⟩ := hv.shape
  obtain ⟨vb, vo, xq, xc, rfl, c0, hx, -⟩ := hv.at g0
  obtain ⟨_, _, yq, yc, he, c1, hy, -⟩ := hv.at g1
  cases he
  have HBin := Lib.hid (fun w (hw : Below W.heap.size W w) => (rbinary_any kd _ _ x y w (hx.grows hw) (hy.grows hw) (by have := hp.le (x := x) (by simp); omega) (by have := hp.le (x := y) (by simp); omega) (hp.good x (by simp)).pos (fun i n hi j hj => by
    have h1 := chk_zero ((hp.good y (by simp)).chk i n hi) j hj
    have h2 := (List.getElem?_eq_some_iff.1 hi).1
    have h3 := hp.le (x := y) (by simp)
    omega)).mono (R' := fun e W' => (∃ p c, e = .returned (.slice p (x.length + y.length + 1) c) ∧ IsX W' (.slice p (x.length + y.length + 1) c) (bin kd x y) ∧ x.length + y.length + 1 ≤ c) ∧ Below w.heap.size w W') (fun e W' ⟨⟨v', he, ho⟩, hb⟩ => by
      obtain ⟨p, c, rfl⟩ := own_shape ho
      exact ⟨⟨p, c, he, own_isX (own_cast ho (by rw [bin_len]) rfl), own_cap ho⟩, hb⟩))
  have HWith := Lib.hid (fun w p c (hw : Below W.heap.size W w) (hz : IsX w (.slice p (x.length + y.length + 1) c) (bin kd x y)) (hzc : x.length + y.length + 1 ≤ c) => (rpile_any _ _ (L ++ [x, y]) (bin kd x y) L.length w (hv.grows hw) hz hzc (by rw [g3]; omega) (by rw [g3]; omega)).mono (R' := fun e W' => (∃ v', e = .returned v' ∧ IsXs W' v' (L ++ [bin kd x y])) ∧ Below w.heap.size w W') (fun e W' ⟨⟨v', he, ho⟩, hb⟩ => ⟨⟨v', he, by rw [g2] at ho; exact ho⟩, hb⟩))
  obtain ⟨m, hm⟩ : ∃ m, m = L.length := ⟨_, rfl⟩
  obtain ⟨n, hn⟩ : ∃ n, n = (L ++ [x, y]).length := ⟨_, rfl⟩
  obtain ⟨u, hu⟩ : ∃ u, u = L.length + 1 := ⟨_, rfl⟩
  rw [← hm] at c0
  rw [← hu] at c1
  rw [← hm, ← hn] at HWith
  rw [← hn]
  have hmn : n = m + 2 := by rw [hn, g3, hm]
  have hm1 : m ≤ 1073741824 := by omega
  have hw2 : IntKind.i64.wrap ((n : Int) - 2) = (m : Int) := by rw [IntWalk.i64_in _ (by omega)]; omega
  have hw1 : IntKind.i64.wrap ((n : Int) - 1) = (u : Int) := by rw [IntWalk.i64_in _ (by omega)]; omega
  have hlt1 : m < n := by omega
  have hlt2 : u < n := by omega
  have hge : decide ((2 : Int) ≤ (n : Int)) = true := by simp; omega
  have hres : ∀ v' W', IsXs W' v' (L ++ [bin kd x y]) → Below W.heap.size W W' → Pushed (L ++ [x, y]) b t W (.returned v') W' := fun v' W' h1 h2 =>
    ⟨⟨v', _, rfl, h1, hp.two ((hp.good x (by simp)).bin (hp.good y (by simp)) (by omega)) (post_bin (hp.post x (by simp)) (hp.post y (by simp)) (by omega)) (bin_len kd x y), by simp, by simp, fun _ _ => by simp⟩, h2⟩
  have HRes := Lib.hid hres
  have hcur : Below W.heap.size W W.drew := (Below.refl _ W).drew
  have c0 : W.drew.cell? _ = some _ := c0
  have c1 : W.drew.cell? _ = some _ := c1
  clear hv hx hy hp hres hm hn hu hmn g0 g1 g2 g3 hl
  rcases hkd with ⟨rfl, rfl⟩ | ⟨rfl, rfl⟩ | ⟨rfl, rfl⟩ | ⟨rfl, rfl⟩
  · go_enter Tryz.func47, Tryz.ntmps47
    go_wp2_with fail
    go_region_held3 (fun W' => W'.cell? ⟨vb, vo + m, none⟩ = some (.slice xq x.length xc) ∧ W'.cell? ⟨vb, vo + u, none⟩ = some (.slice yq y.length yc)) (first | exact ⟨c0, c1⟩) (first
      | (go_at_call 28; ((with_reducible refine (HBin.out _ hcur).mono ?_)); rintro e wn ⟨⟨zq, zc, rfl, hz, hzc⟩, hbn⟩; have c0 := (hbn.cell (lt_of_cell c0)).trans c0; have c1 := (hbn.cell (lt_of_cell c1)).trans c1; have hcur := hcur.trans (hbn.mono hcur.size); clear hbn)
      | (go_at_call 71; ((with_reducible refine (HWith.out _ _ _ hcur hz hzc).mono ?_)); rintro e wn ⟨⟨v', rfl, hxs⟩, hbn⟩; have c0 := (hbn.cell (lt_of_cell c0)).trans c0; have c1 := (hbn.cell (lt_of_cell c1)).trans c1; have hcur := hcur.trans (hbn.mono hcur.size); clear hbn))
    all_goals
      go_wp2_with fail
      go_ret
      exact HRes.out _ _ hxs hcur
  · go_enter Tryz.func47, Tryz.ntmps47
    go_wp2_with fail
    go_region_held3 (fun W' => W'.cell? ⟨vb, vo + m, none⟩ = some (.slice xq x.length xc) ∧ W'.cell? ⟨vb, vo + u, none⟩ = some (.slice yq y.length yc)) (first | exact ⟨c0, c1⟩) (first
      | (go_at_call 28; ((with_reducible refine (HBin.out _ hcur).mono ?_)); rintro e wn ⟨⟨zq, zc, rfl, hz, hzc⟩, hbn⟩; have c0 := (hbn.cell (lt_of_cell c0)).trans c0; have c1 := (hbn.cell (lt_of_cell c1)).trans c1; have hcur := hcur.trans (hbn.mono hcur.size); clear hbn)
      | (go_at_call 71; ((with_reducible refine (HWith.out _ _ _ hcur hz hzc).mono ?_)); rintro e wn ⟨⟨v', rfl, hxs⟩, hbn⟩; have c0 := (hbn.cell (lt_of_cell c0)).trans c0; have c1 := (hbn.cell (lt_of_cell c1)).trans c1; have hcur := hcur.trans (hbn.mono hcur.size); clear hbn))
    all_goals
      go_wp2_with fail
      go_ret
      exact HRes.out _ _ hxs hcur
  · go_enter Tryz.func47, Tryz.ntmps47
    go_wp2_with fail
    go_region_held3 (fun W' => W'.cell? ⟨vb, vo + m, none⟩ = some (.slice xq x.length xc) ∧ W'.cell? ⟨vb, vo + u, none⟩ = some (.slice yq y.length yc)) (first | exact ⟨c0, c1⟩) (first
      | (go_at_call 28; ((with_reducible refine (HBin.out _ hcur).mono ?_)); rintro e wn ⟨⟨zq, zc, rfl, hz, hzc⟩, hbn⟩; have c0 := (hbn.cell (lt_of_cell c0)).trans c0; have c1 := (hbn.cell (lt_of_cell c1)).trans c1; have hcur := hcur.trans (hbn.mono hcur.size); clear hbn)
      | (go_at_call 71; ((with_reducible refine (HWith.out _ _ _ hcur hz hzc).mono ?_)); rintro e wn ⟨⟨v', rfl, hxs⟩, hbn⟩; have c0 := (hbn.cell (lt_of_cell c0)).trans c0; have c1 := (hbn.cell (lt_of_cell c1)).trans c1; have hcur := hcur.trans (hbn.mono hcur.size); clear hbn))
    all_goals
      go_wp2_with fail
      go_ret
      exact HRes.out _ _ hxs hcur
  · go_enter Tryz.func47, Tryz.ntmps47
    go_wp2_with fail
    go_region_held3 (fun W' => W'.cell? ⟨vb, vo + m, none⟩ = some (.slice xq x.length xc) ∧ W'.cell? ⟨vb, vo + u, none⟩ = some (.slice yq y.length yc)) (first | exact ⟨c0, c1⟩) (first
      | (go_at_call 28; ((with_reducible refine (HBin.out _ hcur).mono ?_)); rintro e wn ⟨⟨zq, zc, rfl, hz, hzc⟩, hbn⟩; have c0 := (hbn.cell (lt_of_cell c0)).trans c0; have c1 := (hbn.cell (lt_of_cell c1)).trans c1; have hcur := hcur.trans (hbn.mono hcur.size); clear hbn)
      | (go_at_call 71; ((with_reducible refine (HWith.out _ _ _ hcur hz hzc).mono ?_)); rintro e wn ⟨⟨v', rfl, hxs⟩, hbn⟩; have c0 := (hbn.cell (lt_of_cell c0)).trans c0; have c1 := (hbn.cell (lt_of_cell c1)).trans c1; have hcur := hcur.trans (hbn.mono hcur.size); clear hbn))
    all_goals
      go_wp2_with fail
      go_ret
      exact HRes.out _ _ hxs hcur
end Go.Proofs.YtgbbjobmcbdhdaaGreatDoor

/-
  Walks: one byte pushed on the pile: a root over one expression, a leaf.
-/
namespace Go.Proofs.YtgbbjobmcbdhdaaGreatDoor
open Go.RowKit Go.Shelf
attribute [local go_sem] Oper.semAt_some

/-- Unary, as the pile wants it. -/
theorem runary_is (n : Nd) (v : Value) (xs : List Nd) (W : World) (hv : IsX W v xs) (hl : xs.length ≤ 1099511627776) :
    Calls Tryz.prog 29 #[valN n, v] W fun e W' => (∃ p c, e = .returned (.slice p (xs.length + 1) c) ∧ IsX W' (.slice p (xs.length + 1) c) (un n xs) ∧ xs.length + 1 ≤ c) ∧ Below W.heap.size W W' :=
  (unary_any n v xs W hv hl).mono (R' := fun e W' => (∃ p c, e = .returned (.slice p (xs.length + 1) c) ∧ IsX W' (.slice p (xs.length + 1) c) (un n xs) ∧ xs.length + 1 ≤ c) ∧ Below W.heap.size W W') (fun e W' ⟨⟨v', he, ho⟩, hb⟩ => by
    obtain ⟨p, c, rfl⟩ := own_shape ho
    exact ⟨⟨p, c, he, own_isX (l := un n xs) (own_cast ho (by rw [un_len]) rfl), own_cap ho⟩, hb⟩)
theorem isX_new1 (W : World) (n : Nd) (t : TypeId) : IsX (W.alloc (.cells #[.int .i64 n.k, .int .u64 (wd n.c 0), .int .u64 (wd n.c 1), .int .u64 (wd n.c 2), .int .u64 (wd n.c 3), .int .i64 n.l, .int .i64 n.r, .int .i64 n.mn, .int .i64 n.mx] t)) (.slice (some ⟨W.heap.size, 0, none⟩) 1 1) [n] := by
  refine .inr ⟨_, 0, 1, rfl, fun j x hj i v hi => ?_⟩
  have h2 := flat_getN [n] j x i v hj hi
  rw [Nat.zero_add]
  refine (Blk.new W #[.int .i64 n.k, .int .u64 (wd n.c 0), .int .u64 (wd n.c 1), .int .u64 (wd n.c 2), .int .u64 (wd n.c 3), .int .i64 n.l, .int .i64 n.r, .int .i64 n.mn, .int .i64 n.mx] t).cell _ ?_
  simpa [encN] using h2
theorem cells9 {W : World} (o : Obj) {v0 v1 v2 v3 v4 v5 v6 v7 v8 : Value} {t : TypeId} (ho : o = .cells #[v0, v1, v2, v3, v4, v5, v6, v7, v8] t) : Blk (W.alloc o).drew W.heap.size #[v0, v1, v2, v3, v4, v5, v6, v7, v8] t := by
  subst ho
  exact (Blk.new W _ _).drew

set_option maxRecDepth 100000 in
set_option maxHeartbeats 4000000 in
theorem push_one_7 (b : Int) (hb : 0 ≤ b ∧ b < 256) (hk : b.tmod 14 = 7) (v : Value) (L : List (List Nd)) (x : List Nd) (t : Nat) (W : World)
    (hv : IsXs W v (L ++ [x])) (hp : Pile (L ++ [x]) t) (ht : t ≤ 1073741824) (hl : L.length ≤ 1073741824) :
    Calls Tryz.prog 47 #[v, .int .u8 b] W (Pushed (L ++ [x]) b t W) := by
  obtain ⟨g0, g2, g3⟩ := one_get L x
  obtain ⟨vp, vc, rfl⟩ := hv.shape
  obtain ⟨vb, vo, xq, xc, rfl, c0, hx, -⟩ := hv.at g0
  have HU := Lib.hid (fun w (hw : Below W.heap.size W w) => by
    have h := runary_is ⟨7, 0, 0, 0, 0, 0⟩ _ x w (hx.grows hw) (by have := hp.le (x := x) (by simp); omega)
    simp only [valN, wd_zero] at h
    exact h)
  have HWith := Lib.hid (fun w p c (hw : Below W.heap.size W w) (hz : IsX w (.slice p (x.length + 1) c) (un ⟨7, 0, 0, 0, 0, 0⟩ x)) (hzc : x.length + 1 ≤ c) => (rpile_any _ _ (L ++ [x]) (un ⟨7, 0, 0, 0, 0, 0⟩ x) L.length w (hv.grows hw) hz hzc (by rw [g3]; omega) (by rw [g3]; omega)).mono (R' := fun e W' => (∃ v', e = .returned v' ∧ IsXs W' v' (L ++ [un ⟨7, 0, 0, 0, 0, 0⟩ x])) ∧ Below w.heap.size w W') (fun e W' ⟨⟨v', he, ho⟩, hb⟩ => ⟨⟨v', he, by rw [g2] at ho; exact ho⟩, hb⟩))
  obtain ⟨m, hm⟩ : ∃ m, m = L.length := ⟨_, rfl⟩
  obtain ⟨n, hn⟩ : ∃ n, n = (L ++ [x]).length := ⟨_, rfl⟩
  rw [← hm] at c0
  rw [← hm, ← hn] at HWith
  rw [← hn]
  have hmn : n = m + 1 := by rw [hn, g3, hm]
  have hm1 : m ≤ 1073741824 := by omega
  have hw1 : IntKind.i64.wrap ((n : Int) - 1) = (m : Int) := by rw [IntWalk.i64_in _ (by omega)]; omega
  have hlt1 : m < n := by omega
  have hge : decide ((1 : Int) ≤ (n : Int)) = true := by simp; omega
  have hres : ∀ v' W', IsXs W' v' (L ++ [un ⟨7, 0, 0, 0, 0, 0⟩ x]) → Below W.heap.size W W' → Pushed (L ++ [x]) b t W (.returned v') W' := fun v' W' h1 h2 =>
    ⟨⟨v', _, rfl, h1, hp.top (wf_not (hp.good x (by simp))) (post_not (hp.post x (by simp))) (un_len _ x), by simp, by simp, fun e => by subst e; exact absurd hk (by decide)⟩, h2⟩
  have HRes := Lib.hid hres
  have hblk := cells9 (W := W) (.cells #[.int .i64 7, .int .u64 0, .int .u64 0, .int .u64 0, .int .u64 0, .int .i64 0, .int .i64 0, .int .i64 0, .int .i64 0] 45) rfl
  obtain ⟨n0, n1, n2, n3, n4, n5, n6, n7, n8⟩ := hblk.nine
  have hcur : Below W.heap.size W (W.alloc (.cells #[.int .i64 7, .int .u64 0, .int .u64 0, .int .u64 0, .int .u64 0, .int .i64 0, .int .i64 0, .int .i64 0, .int .i64 0] 45)).drew := ((Below.refl _ W).alloc (Nat.le_refl _) _).drew
  have hlb : vb < W.heap.size := lt_of_cell c0
  have c0 := (hcur.cell (p := ⟨vb, _, none⟩) hlb).trans c0
  clear hv hx hp hres hm hn hmn g0 g2 g3 hl hblk
  by_cases h2 : (2 : Int) ≤ (n : Int)
  · have hge2 : decide ((2 : Int) ≤ (n : Int)) = true := by simp; omega
    go_enter Tryz.func47, Tryz.ntmps47
    go_wp2_with fail
    go_region_held3 (fun W' => W'.cell? ⟨vb, vo + m, none⟩ = some (.slice xq x.length xc) ∧ W'.cell? ⟨W.heap.size, 0, none⟩ = some (.int .i64 7) ∧ W'.cell? ⟨W.heap.size, 1, none⟩ = some (.int .u64 0) ∧ W'.cell? ⟨W.heap.size, 2, none⟩ = some (.int .u64 0) ∧ W'.cell? ⟨W.heap.size, 3, none⟩ = some (.int .u64 0) ∧ W'.cell? ⟨W.heap.size, 4, none⟩ = some (.int .u64 0) ∧ W'.cell? ⟨W.heap.size, 5, none⟩ = some (.int .i64 0) ∧ W'.cell? ⟨W.heap.size, 6, none⟩ = some (.int .i64 0) ∧ W'.cell? ⟨W.heap.size, 7, none⟩ = some (.int .i64 0) ∧ W'.cell? ⟨W.heap.size, 8, none⟩ = some (.int .i64 0)) (first | exact ⟨c0, n0, n1, n2, n3, n4, n5, n6, n7, n8⟩) (first
      | (go_at_call 29; ((with_reducible refine (HU.out _ hcur).mono ?_)); rintro e wn ⟨⟨zq, zc, rfl, hz, hzc⟩, hbn⟩; have c0 := (hbn.cell (lt_of_cell c0)).trans c0; have n0 := (hbn.cell (lt_of_cell n0)).trans n0; have n1 := (hbn.cell (lt_of_cell n1)).trans n1; have n2 := (hbn.cell (lt_of_cell n2)).trans n2; have n3 := (hbn.cell (lt_of_cell n3)).trans n3; have n4 := (hbn.cell (lt_of_cell n4)).trans n4; have n5 := (hbn.cell (lt_of_cell n5)).trans n5; have n6 := (hbn.cell (lt_of_cell n6)).trans n6; have n7 := (hbn.cell (lt_of_cell n7)).trans n7; have n8 := (hbn.cell (lt_of_cell n8)).trans n8; have hcur := hcur.trans (hbn.mono hcur.size); clear hbn)
      | (go_at_call 71; ((with_reducible refine (HWith.out _ _ _ hcur hz hzc).mono ?_)); rintro e wn ⟨⟨v', rfl, hxs⟩, hbn⟩; have c0 := (hbn.cell (lt_of_cell c0)).trans c0; have n0 := (hbn.cell (lt_of_cell n0)).trans n0; have n1 := (hbn.cell (lt_of_cell n1)).trans n1; have n2 := (hbn.cell (lt_of_cell n2)).trans n2; have n3 := (hbn.cell (lt_of_cell n3)).trans n3; have n4 := (hbn.cell (lt_of_cell n4)).trans n4; have n5 := (hbn.cell (lt_of_cell n5)).trans n5; have n6 := (hbn.cell (lt_of_cell n6)).trans n6; have n7 := (hbn.cell (lt_of_cell n7)).trans n7; have n8 := (hbn.cell (lt_of_cell n8)).trans n8; have hcur := hcur.trans (hbn.mono hcur.size); clear hbn))
    all_goals
      go_wp2_with fail
      go_ret
      exact HRes.out _ _ hxs hcur
  · have hge2 : decide ((2 : Int) ≤ (n : Int)) = false := by simp; omega
    go_enter Tryz.func47, Tryz.ntmps47
    go_wp2_with fail
    go_region_held3 (fun W' => W'.cell? ⟨vb, vo + m, none⟩ = some (.slice xq x.length xc) ∧ W'.cell? ⟨W.heap.size, 0, none⟩ = some (.int .i64 7) ∧ W'.cell? ⟨W.heap.size, 1, none⟩ = some (.int .u64 0) ∧ W'.cell? ⟨W.heap.size, 2, none⟩ = some (.int .u64 0) ∧ W'.cell? ⟨W.heap.size, 3, none⟩ = some (.int .u64 0) ∧ W'.cell? ⟨W.heap.size, 4, none⟩ = some (.int .u64 0) ∧ W'.cell? ⟨W.heap.size, 5, none⟩ = some (.int .i64 0) ∧ W'.cell? ⟨W.heap.size, 6, none⟩ = some (.int .i64 0) ∧ W'.cell? ⟨W.heap.size, 7, none⟩ = some (.int .i64 0) ∧ W'.cell? ⟨W.heap.size, 8, none⟩ = some (.int .i64 0)) (first | exact ⟨c0, n0, n1, n2, n3, n4, n5, n6, n7, n8⟩) (first
      | (go_at_call 29; ((with_reducible refine (HU.out _ hcur).mono ?_)); rintro e wn ⟨⟨zq, zc, rfl, hz, hzc⟩, hbn⟩; have c0 := (hbn.cell (lt_of_cell c0)).trans c0; have n0 := (hbn.cell (lt_of_cell n0)).trans n0; have n1 := (hbn.cell (lt_of_cell n1)).trans n1; have n2 := (hbn.cell (lt_of_cell n2)).trans n2; have n3 := (hbn.cell (lt_of_cell n3)).trans n3; have n4 := (hbn.cell (lt_of_cell n4)).trans n4; have n5 := (hbn.cell (lt_of_cell n5)).trans n5; have n6 := (hbn.cell (lt_of_cell n6)).trans n6; have n7 := (hbn.cell (lt_of_cell n7)).trans n7; have n8 := (hbn.cell (lt_of_cell n8)).trans n8; have hcur := hcur.trans (hbn.mono hcur.size); clear hbn)
      | (go_at_call 71; ((with_reducible refine (HWith.out _ _ _ hcur hz hzc).mono ?_)); rintro e wn ⟨⟨v', rfl, hxs⟩, hbn⟩; have c0 := (hbn.cell (lt_of_cell c0)).trans c0; have n0 := (hbn.cell (lt_of_cell n0)).trans n0; have n1 := (hbn.cell (lt_of_cell n1)).trans n1; have n2 := (hbn.cell (lt_of_cell n2)).trans n2; have n3 := (hbn.cell (lt_of_cell n3)).trans n3; have n4 := (hbn.cell (lt_of_cell n4)).trans n4; have n5 := (hbn.cell (lt_of_cell n5)).trans n5; have n6 := (hbn.cell (lt_of_cell n6)).trans n6; have n7 := (hbn.cell (lt_of_cell n7)).trans n7; have n8 := (hbn.cell (lt_of_cell n8)).trans n8; have hcur := hcur.trans (hbn.mono hcur.size); clear hbn))
    all_goals
      go_wp2_with fail
      go_ret
      exact HRes.out _ _ hxs hcur
set_option maxRecDepth 100000 in
set_option maxHeartbeats 4000000 in
theorem push_one_8 (b : Int) (hb : 0 ≤ b ∧ b < 256) (hk : b.tmod 14 = 8) (v : Value) (L : List (List Nd)) (x : List Nd) (t : Nat) (W : World)
    (hv : IsXs W v (L ++ [x])) (hp : Pile (L ++ [x]) t) (ht : t ≤ 1073741824) (hl : L.length ≤ 1073741824) :
    Calls Tryz.prog 47 #[v, .int .u8 b] W (Pushed (L ++ [x]) b t W) := by
  obtain ⟨g0, g2, g3⟩ := one_get L x
  obtain ⟨vp, vc, rfl⟩ := hv.shape
  obtain ⟨vb, vo, xq, xc, rfl, c0, hx, -⟩ := hv.at g0
  have HU := Lib.hid (fun w (hw : Below W.heap.size W w) => by
    have h := runary_is ⟨8, 0, 0, 0, 0, (-1)⟩ _ x w (hx.grows hw) (by have := hp.le (x := x) (by simp); omega)
    simp only [valN, wd_zero] at h
    exact h)
  have HWith := Lib.hid (fun w p c (hw : Below W.heap.size W w) (hz : IsX w (.slice p (x.length + 1) c) (un ⟨8, 0, 0, 0, 0, (-1)⟩ x)) (hzc : x.length + 1 ≤ c) => (rpile_any _ _ (L ++ [x]) (un ⟨8, 0, 0, 0, 0, (-1)⟩ x) L.length w (hv.grows hw) hz hzc (by rw [g3]; omega) (by rw [g3]; omega)).mono (R' := fun e W' => (∃ v', e = .returned v' ∧ IsXs W' v' (L ++ [un ⟨8, 0, 0, 0, 0, (-1)⟩ x])) ∧ Below w.heap.size w W') (fun e W' ⟨⟨v', he, ho⟩, hb⟩ => ⟨⟨v', he, by rw [g2] at ho; exact ho⟩, hb⟩))
  obtain ⟨m, hm⟩ : ∃ m, m = L.length := ⟨_, rfl⟩
  obtain ⟨n, hn⟩ : ∃ n, n = (L ++ [x]).length := ⟨_, rfl⟩
  rw [← hm] at c0
  rw [← hm, ← hn] at HWith
  rw [← hn]
  have hmn : n = m + 1 := by rw [hn, g3, hm]
  have hm1 : m ≤ 1073741824 := by omega
  have hw1 : IntKind.i64.wrap ((n : Int) - 1) = (m : Int) := by rw [IntWalk.i64_in _ (by omega)]; omega
  have hlt1 : m < n := by omega
  have hge : decide ((1 : Int) ≤ (n : Int)) = true := by simp; omega
  have hres : ∀ v' W', IsXs W' v' (L ++ [un ⟨8, 0, 0, 0, 0, (-1)⟩ x]) → Below W.heap.size W W' → Pushed (L ++ [x]) b t W (.returned v') W' := fun v' W' h1 h2 =>
    ⟨⟨v', _, rfl, h1, hp.top (wf_rep (mn := 0) (mx := -1) (hp.good x (by simp)) (by omega) (.inl rfl)) (post_rep (mn := 0) (mx := -1) (hp.post x (by simp)) (by omega) (.inl rfl)) (un_len _ x), by simp, by simp, fun e => by subst e; exact absurd hk (by decide)⟩, h2⟩
  have HRes := Lib.hid hres
  have hblk := cells9 (W := W) (.cells #[.int .i64 8, .int .u64 0, .int .u64 0, .int .u64 0, .int .u64 0, .int .i64 0, .int .i64 0, .int .i64 0, .int .i64 (-1)] 45) rfl
  obtain ⟨n0, n1, n2, n3, n4, n5, n6, n7, n8⟩ := hblk.nine
  have hcur : Below W.heap.size W (W.alloc (.cells #[.int .i64 8, .int .u64 0, .int .u64 0, .int .u64 0, .int .u64 0, .int .i64 0, .int .i64 0, .int .i64 0, .int .i64 (-1)] 45)).drew := ((Below.refl _ W).alloc (Nat.le_refl _) _).drew
  have hlb : vb < W.heap.size := lt_of_cell c0
  have c0 := (hcur.cell (p := ⟨vb, _, none⟩) hlb).trans c0
  clear hv hx hp hres hm hn hmn g0 g2 g3 hl hblk
  by_cases h2 : (2 : Int) ≤ (n : Int)
  · have hge2 : decide ((2 : Int) ≤ (n : Int)) = true := by simp; omega
    go_enter Tryz.func47, Tryz.ntmps47
    go_wp2_with fail
    go_region_held3 (fun W' => W'.cell? ⟨vb, vo + m, none⟩ = some (.slice xq x.length xc) ∧ W'.cell? ⟨W.heap.size, 0, none⟩ = some (.int .i64 8) ∧ W'.cell? ⟨W.heap.size, 1, none⟩ = some (.int .u64 0) ∧ W'.cell? ⟨W.heap.size, 2, none⟩ = some (.int .u64 0) ∧ W'.cell? ⟨W.heap.size, 3, none⟩ = some (.int .u64 0) ∧ W'.cell? ⟨W.heap.size, 4, none⟩ = some (.int .u64 0) ∧ W'.cell? ⟨W.heap.size, 5, none⟩ = some (.int .i64 0) ∧ W'.cell? ⟨W.heap.size, 6, none⟩ = some (.int .i64 0) ∧ W'.cell? ⟨W.heap.size, 7, none⟩ = some (.int .i64 0) ∧ W'.cell? ⟨W.heap.size, 8, none⟩ = some (.int .i64 (-1))) (first | exact ⟨c0, n0, n1, n2, n3, n4, n5, n6, n7, n8⟩) (first
      | (go_at_call 29; ((with_reducible refine (HU.out _ hcur).mono ?_)); rintro e wn ⟨⟨zq, zc, rfl, hz, hzc⟩, hbn⟩; have c0 := (hbn.cell (lt_of_cell c0)).trans c0; have n0 := (hbn.cell (lt_of_cell n0)).trans n0; have n1 := (hbn.cell (lt_of_cell n1)).trans n1; have n2 := (hbn.cell (lt_of_cell n2)).trans n2; have n3 := (hbn.cell (lt_of_cell n3)).trans n3; have n4 := (hbn.cell (lt_of_cell n4)).trans n4; have n5 := (hbn.cell (lt_of_cell n5)).trans n5; have n6 := (hbn.cell (lt_of_cell n6)).trans n6; have n7 := (hbn.cell (lt_of_cell n7)).trans n7; have n8 := (hbn.cell (lt_of_cell n8)).trans n8; have hcur := hcur.trans (hbn.mono hcur.size); clear hbn)
      | (go_at_call 71; ((with_reducible refine (HWith.out _ _ _ hcur hz hzc).mono ?_)); rintro e wn ⟨⟨v', rfl, hxs⟩, hbn⟩; have c0 := (hbn.cell (lt_of_cell c0)).trans c0; have n0 := (hbn.cell (lt_of_cell n0)).trans n0; have n1 := (hbn.cell (lt_of_cell n1)).trans n1; have n2 := (hbn.cell (lt_of_cell n2)).trans n2; have n3 := (hbn.cell (lt_of_cell n3)).trans n3; have n4 := (hbn.cell (lt_of_cell n4)).trans n4; have n5 := (hbn.cell (lt_of_cell n5)).trans n5; have n6 := (hbn.cell (lt_of_cell n6)).trans n6; have n7 := (hbn.cell (lt_of_cell n7)).trans n7; have n8 := (hbn.cell (lt_of_cell n8)).trans n8; have hcur := hcur.trans (hbn.mono hcur.size); clear hbn))
    all_goals
      go_wp2_with fail
      go_ret
      exact HRes.out _ _ hxs hcur
  · have hge2 : decide ((2 : Int) ≤ (n : Int)) = false := by simp; omega
    go_enter Tryz.func47, Tryz.ntmps47
    go_wp2_with fail
    go_region_held3 (fun W' => W'.cell? ⟨vb, vo + m, none⟩ = some (.slice xq x.length xc) ∧ W'.cell? ⟨W.heap.size, 0, none⟩ = some (.int .i64 8) ∧ W'.cell? ⟨W.heap.size, 1, none⟩ = some (.int .u64 0) ∧ W'.cell? ⟨W.heap.size, 2, none⟩ = some (.int .u64 0) ∧ W'.cell? ⟨W.heap.size, 3, none⟩ = some (.int .u64 0) ∧ W'.cell? ⟨W.heap.size, 4, none⟩ = some (.int .u64 0) ∧ W'.cell? ⟨W.heap.size, 5, none⟩ = some (.int .i64 0) ∧ W'.cell? ⟨W.heap.size, 6, none⟩ = some (.int .i64 0) ∧ W'.cell? ⟨W.heap.size, 7, none⟩ = some (.int .i64 0) ∧ W'.cell? ⟨W.heap.size, 8, none⟩ = some (.int .i64 (-1))) (first | exact ⟨c0, n0, n1, n2, n3, n4, n5, n6, n7, n8⟩) (first
      | (go_at_call 29; ((with_reducible refine (HU.out _ hcur).mono ?_)); rintro e wn ⟨⟨zq, zc, rfl, hz, hzc⟩, hbn⟩; have c0 := (hbn.cell (lt_of_cell c0)).trans c0; have n0 := (hbn.cell (lt_of_cell n0)).trans n0; have n1 := (hbn.cell (lt_of_cell n1)).trans n1; have n2 := (hbn.cell (lt_of_cell n2)).trans n2; have n3 := (hbn.cell (lt_of_cell n3)).trans n3; have n4 := (hbn.cell (lt_of_cell n4)).trans n4; have n5 := (hbn.cell (lt_of_cell n5)).trans n5; have n6 := (hbn.cell (lt_of_cell n6)).trans n6; have n7 := (hbn.cell (lt_of_cell n7)).trans n7; have n8 := (hbn.cell (lt_of_cell n8)).trans n8; have hcur := hcur.trans (hbn.mono hcur.size); clear hbn)
      | (go_at_call 71; ((with_reducible refine (HWith.out _ _ _ hcur hz hzc).mono ?_)); rintro e wn ⟨⟨v', rfl, hxs⟩, hbn⟩; have c0 := (hbn.cell (lt_of_cell c0)).trans c0; have n0 := (hbn.cell (lt_of_cell n0)).trans n0; have n1 := (hbn.cell (lt_of_cell n1)).trans n1; have n2 := (hbn.cell (lt_of_cell n2)).trans n2; have n3 := (hbn.cell (lt_of_cell n3)).trans n3; have n4 := (hbn.cell (lt_of_cell n4)).trans n4; have n5 := (hbn.cell (lt_of_cell n5)).trans n5; have n6 := (hbn.cell (lt_of_cell n6)).trans n6; have n7 := (hbn.cell (lt_of_cell n7)).trans n7; have n8 := (hbn.cell (lt_of_cell n8)).trans n8; have hcur := hcur.trans (hbn.mono hcur.size); clear hbn))
    all_goals
      go_wp2_with fail
      go_ret
      exact HRes.out _ _ hxs hcur
set_option maxRecDepth 100000 in
set_option maxHeartbeats 4000000 in
theorem push_one_9 (b : Int) (hb : 0 ≤ b ∧ b < 256) (hk : b.tmod 14 = 9) (v : Value) (L : List (List Nd)) (x : List Nd) (t : Nat) (W : World)
    (hv : IsXs W v (L ++ [x])) (hp : Pile (L ++ [x]) t) (ht : t ≤ 1073741824) (hl : L.length ≤ 1073741824) :
    Calls Tryz.prog 47 #[v, .int .u8 b] W (Pushed (L ++ [x]) b t W) := by
  obtain ⟨g0, g2, g3⟩ := one_get L x
  obtain ⟨vp, vc, rfl⟩ := hv.shape
  obtain ⟨vb, vo, xq, xc, rfl, c0, hx, -⟩ := hv.at g0
  have HU := Lib.hid (fun w (hw : Below W.heap.size W w) => by
    have h := runary_is ⟨8, 0, 0, 0, 1, (-1)⟩ _ x w (hx.grows hw) (by have := hp.le (x := x) (by simp); omega)
    simp only [valN, wd_zero] at h
    exact h)
  have HWith := Lib.hid (fun w p c (hw : Below W.heap.size W w) (hz : IsX w (.slice p (x.length + 1) c) (un ⟨8, 0, 0, 0, 1, (-1)⟩ x)) (hzc : x.length + 1 ≤ c) => (rpile_any _ _ (L ++ [x]) (un ⟨8, 0, 0, 0, 1, (-1)⟩ x) L.length w (hv.grows hw) hz hzc (by rw [g3]; omega) (by rw [g3]; omega)).mono (R' := fun e W' => (∃ v', e = .returned v' ∧ IsXs W' v' (L ++ [un ⟨8, 0, 0, 0, 1, (-1)⟩ x])) ∧ Below w.heap.size w W') (fun e W' ⟨⟨v', he, ho⟩, hb⟩ => ⟨⟨v', he, by rw [g2] at ho; exact ho⟩, hb⟩))
  obtain ⟨m, hm⟩ : ∃ m, m = L.length := ⟨_, rfl⟩
  obtain ⟨n, hn⟩ : ∃ n, n = (L ++ [x]).length := ⟨_, rfl⟩
  rw [← hm] at c0
  rw [← hm, ← hn] at HWith
  rw [← hn]
  have hmn : n = m + 1 := by rw [hn, g3, hm]
  have hm1 : m ≤ 1073741824 := by omega
  have hw1 : IntKind.i64.wrap ((n : Int) - 1) = (m : Int) := by rw [IntWalk.i64_in _ (by omega)]; omega
  have hlt1 : m < n := by omega
  have hge : decide ((1 : Int) ≤ (n : Int)) = true := by simp; omega
  have hres : ∀ v' W', IsXs W' v' (L ++ [un ⟨8, 0, 0, 0, 1, (-1)⟩ x]) → Below W.heap.size W W' → Pushed (L ++ [x]) b t W (.returned v') W' := fun v' W' h1 h2 =>
    ⟨⟨v', _, rfl, h1, hp.top (wf_rep (mn := 1) (mx := -1) (hp.good x (by simp)) (by omega) (.inl rfl)) (post_rep (mn := 1) (mx := -1) (hp.post x (by simp)) (by omega) (.inl rfl)) (un_len _ x), by simp, by simp, fun e => by subst e; exact absurd hk (by decide)⟩, h2⟩
  have HRes := Lib.hid hres
  have hblk := cells9 (W := W) (.cells #[.int .i64 8, .int .u64 0, .int .u64 0, .int .u64 0, .int .u64 0, .int .i64 0, .int .i64 0, .int .i64 1, .int .i64 (-1)] 45) rfl
  obtain ⟨n0, n1, n2, n3, n4, n5, n6, n7, n8⟩ := hblk.nine
  have hcur : Below W.heap.size W (W.alloc (.cells #[.int .i64 8, .int .u64 0, .int .u64 0, .int .u64 0, .int .u64 0, .int .i64 0, .int .i64 0, .int .i64 1, .int .i64 (-1)] 45)).drew := ((Below.refl _ W).alloc (Nat.le_refl _) _).drew
  have hlb : vb < W.heap.size := lt_of_cell c0
  have c0 := (hcur.cell (p := ⟨vb, _, none⟩) hlb).trans c0
  clear hv hx hp hres hm hn hmn g0 g2 g3 hl hblk
  by_cases h2 : (2 : Int) ≤ (n : Int)
  · have hge2 : decide ((2 : Int) ≤ (n : Int)) = true := by simp; omega
    go_enter Tryz.func47, Tryz.ntmps47
    go_wp2_with fail
    go_region_held3 (fun W' => W'.cell? ⟨vb, vo + m, none⟩ = some (.slice xq x.length xc) ∧ W'.cell? ⟨W.heap.size, 0, none⟩ = some (.int .i64 8) ∧ W'.cell? ⟨W.heap.size, 1, none⟩ = some (.int .u64 0) ∧ W'.cell? ⟨W.heap.size, 2, none⟩ = some (.int .u64 0) ∧ W'.cell? ⟨W.heap.size, 3, none⟩ = some (.int .u64 0) ∧ W'.cell? ⟨W.heap.size, 4, none⟩ = some (.int .u64 0) ∧ W'.cell? ⟨W.heap.size, 5, none⟩ = some (.int .i64 0) ∧ W'.cell? ⟨W.heap.size, 6, none⟩ = some (.int .i64 0) ∧ W'.cell? ⟨W.heap.size, 7, none⟩ = some (.int .i64 1) ∧ W'.cell? ⟨W.heap.size, 8, none⟩ = some (.int .i64 (-1))) (first | exact ⟨c0, n0, n1, n2, n3, n4, n5, n6, n7, n8⟩) (first
      | (go_at_call 29; ((with_reducible refine (HU.out _ hcur).mono ?_)); rintro e wn ⟨⟨zq, zc, rfl, hz, hzc⟩, hbn⟩; have c0 := (hbn.cell (lt_of_cell c0)).trans c0; have n0 := (hbn.cell (lt_of_cell n0)).trans n0; have n1 := (hbn.cell (lt_of_cell n1)).trans n1; have n2 := (hbn.cell (lt_of_cell n2)).trans n2; have n3 := (hbn.cell (lt_of_cell n3)).trans n3; have n4 := (hbn.cell (lt_of_cell n4)).trans n4; have n5 := (hbn.cell (lt_of_cell n5)).trans n5; have n6 := (hbn.cell (lt_of_cell n6)).trans n6; have n7 := (hbn.cell (lt_of_cell n7)).trans n7; have n8 := (hbn.cell (lt_of_cell n8)).trans n8; have hcur := hcur.trans (hbn.mono hcur.size); clear hbn)
      | (go_at_call 71; ((with_reducible refine (HWith.out _ _ _ hcur hz hzc).mono ?_)); rintro e wn ⟨⟨v', rfl, hxs⟩, hbn⟩; have c0 := (hbn.cell (lt_of_cell c0)).trans c0; have n0 := (hbn.cell (lt_of_cell n0)).trans n0; have n1 := (hbn.cell (lt_of_cell n1)).trans n1; have n2 := (hbn.cell (lt_of_cell n2)).trans n2; have n3 := (hbn.cell (lt_of_cell n3)).trans n3; have n4 := (hbn.cell (lt_of_cell n4)).trans n4; have n5 := (hbn.cell (lt_of_cell n5)).trans n5; have n6 := (hbn.cell (lt_of_cell n6)).trans n6; have n7 := (hbn.cell (lt_of_cell n7)).trans n7; have n8 := (hbn.cell (lt_of_cell n8)).trans n8; have hcur := hcur.trans (hbn.mono hcur.size); clear hbn))
    all_goals
      go_wp2_with fail
      go_ret
      exact HRes.out _ _ hxs hcur
  · have hge2 : decide ((2 : Int) ≤ (n : Int)) = false := by simp; omega
    go_enter Tryz.func47, Tryz.ntmps47
    go_wp2_with fail
    go_region_held3 (fun W' => W'.cell? ⟨vb, vo + m, none⟩ = some (.slice xq x.length xc) ∧ W'.cell? ⟨W.heap.size, 0, none⟩ = some (.int .i64 8) ∧ W'.cell? ⟨W.heap.size, 1, none⟩ = some (.int .u64 0) ∧ W'.cell? ⟨W.heap.size, 2, none⟩ = some (.int .u64 0) ∧ W'.cell? ⟨W.heap.size, 3, none⟩ = some (.int .u64 0) ∧ W'.cell? ⟨W.heap.size, 4, none⟩ = some (.int .u64 0) ∧ W'.cell? ⟨W.heap.size, 5, none⟩ = some (.int .i64 0) ∧ W'.cell? ⟨W.heap.size, 6, none⟩ = some (.int .i64 0) ∧ W'.cell? ⟨W.heap.size, 7, none⟩ = some (.int .i64 1) ∧ W'.cell? ⟨W.heap.size, 8, none⟩ = some (.int .i64 (-1))) (first | exact ⟨c0, n0, n1, n2, n3, n4, n5, n6, n7, n8⟩) (first
      | (go_at_call 29; ((with_reducible refine (HU.out _ hcur).mono ?_)); rintro e wn ⟨⟨zq, zc, rfl, hz, hzc⟩, hbn⟩; have c0 := (hbn.cell (lt_of_cell c0)).trans c0; have n0 := (hbn.cell (lt_of_cell n0)).trans n0; have n1 := (hbn.cell (lt_of_cell n1)).trans n1; have n2 := (hbn.cell (lt_of_cell n2)).trans n2; have n3 := (hbn.cell (lt_of_cell n3)).trans n3; have n4 := (hbn.cell (lt_of_cell n4)).trans n4; have n5 := (hbn.cell (lt_of_cell n5)).trans n5; have n6 := (hbn.cell (lt_of_cell n6)).trans n6; have n7 := (hbn.cell (lt_of_cell n7)).trans n7; have n8 := (hbn.cell (lt_of_cell n8)).trans n8; have hcur := hcur.trans (hbn.mono hcur.size); clear hbn)
      | (go_at_call 71; ((with_reducible refine (HWith.out _ _ _ hcur hz hzc).mono ?_)); rintro e wn ⟨⟨v', rfl, hxs⟩, hbn⟩; have c0 := (hbn.cell (lt_of_cell c0)).trans c0; have n0 := (hbn.cell (lt_of_cell n0)).trans n0; have n1 := (hbn.cell (lt_of_cell n1)).trans n1; have n2 := (hbn.cell (lt_of_cell n2)).trans n2; have n3 := (hbn.cell (lt_of_cell n3)).trans n3; have n4 := (hbn.cell (lt_of_cell n4)).trans n4; have n5 := (hbn.cell (lt_of_cell n5)).trans n5; have n6 := (hbn.cell (lt_of_cell n6)).trans n6; have n7 := (hbn.cell (lt_of_cell n7)).trans n7; have n8 := (hbn.cell (lt_of_cell n8)).trans n8; have hcur := hcur.trans (hbn.mono hcur.size); clear hbn))
    all_goals
      go_wp2_with fail
      go_ret
      exact HRes.out _ _ hxs hcur
set_option maxRecDepth 100000 in
set_option maxHeartbeats 4000000 in
theorem push_one_10 (b : Int) (hb : 0 ≤ b ∧ b < 256) (hk : b.tmod 14 = 10) (v : Value) (L : List (List Nd)) (x : List Nd) (t : Nat) (W : World)
    (hv : IsXs W v (L ++ [x])) (hp : Pile (L ++ [x]) t) (ht : t ≤ 1073741824) (hl : L.length ≤ 1073741824) :
    Calls Tryz.prog 47 #[v, .int .u8 b] W (Pushed (L ++ [x]) b t W) := by
  obtain ⟨g0, g2, g3⟩ := one_get L x
  obtain ⟨vp, vc, rfl⟩ := hv.shape
  obtain ⟨vb, vo, xq, xc, rfl, c0, hx, -⟩ := hv.at g0
  have HU := Lib.hid (fun w (hw : Below W.heap.size W w) => by
    have h := runary_is ⟨8, 0, 0, 0, 0, 1⟩ _ x w (hx.grows hw) (by have := hp.le (x := x) (by simp); omega)
    simp only [valN, wd_zero] at h
    exact h)
  have HWith := Lib.hid (fun w p c (hw : Below W.heap.size W w) (hz : IsX w (.slice p (x.length + 1) c) (un ⟨8, 0, 0, 0, 0, 1⟩ x)) (hzc : x.length + 1 ≤ c) => (rpile_any _ _ (L ++ [x]) (un ⟨8, 0, 0, 0, 0, 1⟩ x) L.length w (hv.grows hw) hz hzc (by rw [g3]; omega) (by rw [g3]; omega)).mono (R' := fun e W' => (∃ v', e = .returned v' ∧ IsXs W' v' (L ++ [un ⟨8, 0, 0, 0, 0, 1⟩ x])) ∧ Below w.heap.size w W') (fun e W' ⟨⟨v', he, ho⟩, hb⟩ => ⟨⟨v', he, by rw [g2] at ho; exact ho⟩, hb⟩))
  obtain ⟨m, hm⟩ : ∃ m, m = L.length := ⟨_, rfl⟩
  obtain ⟨n, hn⟩ : ∃ n, n = (L ++ [x]).length := ⟨_, rfl⟩
  rw [← hm] at c0
  rw [← hm, ← hn] at HWith
  rw [← hn]
  have hmn : n = m + 1 := by rw [hn, g3, hm]
  have hm1 : m ≤ 1073741824 := by omega
  have hw1 : IntKind.i64.wrap ((n : Int) - 1) = (m : Int) := by rw [IntWalk.i64_in _ (by omega)]; omega
  have hlt1 : m < n := by omega
  have hge : decide ((1 : Int) ≤ (n : Int)) = true := by simp; omega
  have hres : ∀ v' W', IsXs W' v' (L ++ [un ⟨8, 0, 0, 0, 0, 1⟩ x]) → Below W.heap.size W W' → Pushed (L ++ [x]) b t W (.returned v') W' := fun v' W' h1 h2 =>
    ⟨⟨v', _, rfl, h1, hp.top (wf_rep (mn := 0) (mx := 1) (hp.good x (by simp)) (by omega) (.inr (by omega))) (post_rep (mn := 0) (mx := 1) (hp.post x (by simp)) (by omega) (.inr (by omega))) (un_len _ x), by simp, by simp, fun e => by subst e; exact absurd hk (by decide)⟩, h2⟩
  have HRes := Lib.hid hres
  have hblk := cells9 (W := W) (.cells #[.int .i64 8, .int .u64 0, .int .u64 0, .int .u64 0, .int .u64 0, .int .i64 0, .int .i64 0, .int .i64 0, .int .i64 1] 45) rfl
  obtain ⟨n0, n1, n2, n3, n4, n5, n6, n7, n8⟩ := hblk.nine
  have hcur : Below W.heap.size W (W.alloc (.cells #[.int .i64 8, .int .u64 0, .int .u64 0, .int .u64 0, .int .u64 0, .int .i64 0, .int .i64 0, .int .i64 0, .int .i64 1] 45)).drew := ((Below.refl _ W).alloc (Nat.le_refl _) _).drew
  have hlb : vb < W.heap.size := lt_of_cell c0
  have c0 := (hcur.cell (p := ⟨vb, _, none⟩) hlb).trans c0
  clear hv hx hp hres hm hn hmn g0 g2 g3 hl hblk
  by_cases h2 : (2 : Int) ≤ (n : Int)
  · have hge2 : decide ((2 : Int) ≤ (n : Int)) = true := by simp; omega
    go_enter Tryz.func47, Tryz.ntmps47
    go_wp2_with fail
    go_region_held3 (fun W' => W'.cell? ⟨vb, vo + m, none⟩ = some (.slice xq x.length xc) ∧ W'.cell? ⟨W.heap.size, 0, none⟩ = some (.int .i64 8) ∧ W'.cell? ⟨W.heap.size, 1, none⟩ = some (.int .u64 0) ∧ W'.cell? ⟨W.heap.size, 2, none⟩ = some (.int .u64 0) ∧ W'.cell? ⟨W.heap.size, 3, none⟩ = some (.int .u64 0) ∧ W'.cell? ⟨W.heap.size, 4, none⟩ = some (.int .u64 0) ∧ W'.cell? ⟨W.heap.size, 5, none⟩ = some (.int .i64 0) ∧ W'.cell? ⟨W.heap.size, 6, none⟩ = some (.int .i64 0) ∧ W'.cell? ⟨W.heap.size, 7, none⟩ = some (.int .i64 0) ∧ W'.cell? ⟨W.heap.size, 8, none⟩ = some (.int .i64 1)) (first | exact ⟨c0, n0, n1, n2, n3, n4, n5, n6, n7, n8⟩) (first
      | (go_at_call 29; ((with_reducible refine (HU.out _ hcur).mono ?_)); rintro e wn ⟨⟨zq, zc, rfl, hz, hzc⟩, hbn⟩; have c0 := (hbn.cell (lt_of_cell c0)).trans c0; have n0 := (hbn.cell (lt_of_cell n0)).trans n0; have n1 := (hbn.cell (lt_of_cell n1)).trans n1; have n2 := (hbn.cell (lt_of_cell n2)).trans n2; have n3 := (hbn.cell (lt_of_cell n3)).trans n3; have n4 := (hbn.cell (lt_of_cell n4)).trans n4; have n5 := (hbn.cell (lt_of_cell n5)).trans n5; have n6 := (hbn.cell (lt_of_cell n6)).trans n6; have n7 := (hbn.cell (lt_of_cell n7)).trans n7; have n8 := (hbn.cell (lt_of_cell n8)).trans n8; have hcur := hcur.trans (hbn.mono hcur.size); clear hbn)
      | (go_at_call 71; ((with_reducible refine (HWith.out _ _ _ hcur hz hzc).mono ?_)); rintro e wn ⟨⟨v', rfl, hxs⟩, hbn⟩; have c0 := (hbn.cell (lt_of_cell c0)).trans c0; have n0 := (hbn.cell (lt_of_cell n0)).trans n0; have n1 := (hbn.cell (lt_of_cell n1)).trans n1; have n2 := (hbn.cell (lt_of_cell n2)).trans n2; have n3 := (hbn.cell (lt_of_cell n3)).trans n3; have n4 := (hbn.cell (lt_of_cell n4)).trans n4; have n5 := (hbn.cell (lt_of_cell n5)).trans n5; have n6 := (hbn.cell (lt_of_cell n6)).trans n6; have n7 := (hbn.cell (lt_of_cell n7)).trans n7; have n8 := (hbn.cell (lt_of_cell n8)).trans n8; have hcur := hcur.trans (hbn.mono hcur.size); clear hbn))
    all_goals
      go_wp2_with fail
      go_ret
      exact HRes.out _ _ hxs hcur
  · have hge2 : decide ((2 : Int) ≤ (n : Int)) = false := by simp; omega
    go_enter Tryz.func47, Tryz.ntmps47
    go_wp2_with fail
    go_region_held3 (fun W' => W'.cell? ⟨vb, vo + m, none⟩ = some (.slice xq x.length xc) ∧ W'.cell? ⟨W.heap.size, 0, none⟩ = some (.int .i64 8) ∧ W'.cell? ⟨W.heap.size, 1, none⟩ = some (.int .u64 0) ∧ W'.cell? ⟨W.heap.size, 2, none⟩ = some (.int .u64 0) ∧ W'.cell? ⟨W.heap.size, 3, none⟩ = some (.int .u64 0) ∧ W'.cell? ⟨W.heap.size, 4, none⟩ = some (.int .u64 0) ∧ W'.cell? ⟨W.heap.size, 5, none⟩ = some (.int .i64 0) ∧ W'.cell? ⟨W.heap.size, 6, none⟩ = some (.int .i64 0) ∧ W'.cell? ⟨W.heap.size, 7, none⟩ = some (.int .i64 0) ∧ W'.cell? ⟨W.heap.size, 8, none⟩ = some (.int .i64 1)) (first | exact ⟨c0, n0, n1, n2, n3, n4, n5, n6, n7, n8⟩) (first
      | (go_at_call 29; ((with_reducible refine (HU.out _ hcur).mono ?_)); rintro e wn ⟨⟨zq, zc, rfl, hz, hzc⟩, hbn⟩; have c0 := (hbn.cell (lt_of_cell c0)).trans c0; have n0 := (hbn.cell (lt_of_cell n0)).trans n0; have n1 := (hbn.cell (lt_of_cell n1)).trans n1; have n2 := (hbn.cell (lt_of_cell n2)).trans n2; have n3 := (hbn.cell (lt_of_cell n3)).trans n3; have n4 := (hbn.cell (lt_of_cell n4)).trans n4; have n5 := (hbn.cell (lt_of_cell n5)).trans n5; have n6 := (hbn.cell (lt_of_cell n6)).trans n6; have n7 := (hbn.cell (lt_of_cell n7)).trans n7; have n8 := (hbn.cell (lt_of_cell n8)).trans n8; have hcur := hcur.trans (hbn.mono hcur.size); clear hbn)
      | (go_at_call 71; ((with_reducible refine (HWith.out _ _ _ hcur hz hzc).mono ?_)); rintro e wn ⟨⟨v', rfl, hxs⟩, hbn⟩; have c0 := (hbn.cell (lt_of_cell c0)).trans c0; have n0 := (hbn.cell (lt_of_cell n0)).trans n0; have n1 := (hbn.cell (lt_of_cell n1)).trans n1; have n2 := (hbn.cell (lt_of_cell n2)).trans n2; have n3 := (hbn.cell (lt_of_cell n3)).trans n3; have n4 := (hbn.cell (lt_of_cell n4)).trans n4; have n5 := (hbn.cell (lt_of_cell n5)).trans n5; have n6 := (hbn.cell (lt_of_cell n6)).trans n6; have n7 := (hbn.cell (lt_of_cell n7)).trans n7; have n8 := (hbn.cell (lt_of_cell n8)).trans n8; have hcur := hcur.trans (hbn.mono hcur.size); clear hbn))
    all_goals
      go_wp2_with fail
      go_ret
      exact HRes.out _ _ hxs hcur
set_option maxRecDepth 100000 in
set_option maxHeartbeats 4000000 in
theorem push_one_11 (b : Int) (hb : 0 ≤ b ∧ b < 256) (hk : b.tmod 14 = 11) (v : Value) (L : List (List Nd)) (x : List Nd) (t : Nat) (W : World)
    (hv : IsXs W v (L ++ [x])) (hp : Pile (L ++ [x]) t) (ht : t ≤ 1073741824) (hl : L.length ≤ 1073741824) :
    Calls Tryz.prog 47 #[v, .int .u8 b] W (Pushed (L ++ [x]) b t W) := by
  obtain ⟨g0, g2, g3⟩ := one_get L x
  obtain ⟨vp, vc, rfl⟩ := hv.shape
  obtain ⟨vb, vo, xq, xc, rfl, c0, hx, -⟩ := hv.at g0
  obtain ⟨r1, e1⟩ : ∃ r1, (b / 14).tmod 3 = r1 := ⟨_, rfl⟩
  obtain ⟨r3, e3⟩ : ∃ r3, (b / 14 / 3).tmod 3 = r3 := ⟨_, rfl⟩
  have i1 : 0 ≤ r1 ∧ r1 ≤ 2 := by rw [← e1, Int.tmod_eq_emod_of_nonneg (by omega)]; omega
  have i3 : 0 ≤ r3 ∧ r3 ≤ 2 := by rw [← e3, Int.tmod_eq_emod_of_nonneg (by omega)]; omega
  have e4 : IntKind.i64.wrap (r1 + r3) = r1 + r3 := IntWalk.i64_in _ (by omega)
  have HU := Lib.hid (fun w (hw : Below W.heap.size W w) => by
    have h := runary_is ⟨8, 0, 0, 0, r1, (r1 + r3)⟩ _ x w (hx.grows hw) (by have := hp.le (x := x) (by simp); omega)
    simp only [valN, wd_zero] at h
    exact h)
  have HWith := Lib.hid (fun w p c (hw : Below W.heap.size W w) (hz : IsX w (.slice p (x.length + 1) c) (un ⟨8, 0, 0, 0, r1, (r1 + r3)⟩ x)) (hzc : x.length + 1 ≤ c) => (rpile_any _ _ (L ++ [x]) (un ⟨8, 0, 0, 0, r1, (r1 + r3)⟩ x) L.length w (hv.grows hw) hz hzc (by rw [g3]; omega) (by rw [g3]; omega)).mono (R' := fun e W' => (∃ v', e = .returned v' ∧ IsXs W' v' (L ++ [un ⟨8, 0, 0, 0, r1, (r1 + r3)⟩ x])) ∧ Below w.heap.size w W') (fun e W' ⟨⟨v', he, ho⟩, hb⟩ => ⟨⟨v', he, by rw [g2] at ho; exact ho⟩, hb⟩))
  obtain ⟨m, hm⟩ : ∃ m, m = L.length := ⟨_, rfl⟩
  obtain ⟨n, hn⟩ : ∃ n, n = (L ++ [x]).length := ⟨_, rfl⟩
  rw [← hm] at c0
  rw [← hm, ← hn] at HWith
  rw [← hn]
  have hmn : n = m + 1 := by rw [hn, g3, hm]
  have hm1 : m ≤ 1073741824 := by omega
  have hw1 : IntKind.i64.wrap ((n : Int) - 1) = (m : Int) := by rw [IntWalk.i64_in _ (by omega)]; omega
  have hlt1 : m < n := by omega
  have hge : decide ((1 : Int) ≤ (n : Int)) = true := by simp; omega
  have hres : ∀ v' W', IsXs W' v' (L ++ [un ⟨8, 0, 0, 0, r1, (r1 + r3)⟩ x]) → Below W.heap.size W W' → Pushed (L ++ [x]) b t W (.returned v') W' := fun v' W' h1 h2 =>
    ⟨⟨v', _, rfl, h1, hp.top (wf_rep (mn := r1) (mx := r1 + r3) (hp.good x (by simp)) (by omega) (.inr (by omega))) (post_rep (mn := r1) (mx := r1 + r3) (hp.post x (by simp)) (by omega) (.inr (by omega))) (un_len _ x), by simp, by simp, fun e => by subst e; exact absurd hk (by decide)⟩, h2⟩
  have HRes := Lib.hid hres
  have hblk := cells9 (W := W) (.cells #[.int .i64 8, .int .u64 0, .int .u64 0, .int .u64 0, .int .u64 0, .int .i64 0, .int .i64 0, .int .i64 r1, .int .i64 (r1 + r3)] 45) rfl
  obtain ⟨n0, n1, n2, n3, n4, n5, n6, n7, n8⟩ := hblk.nine
  have hcur : Below W.heap.size W (W.alloc (.cells #[.int .i64 8, .int .u64 0, .int .u64 0, .int .u64 0, .int .u64 0, .int .i64 0, .int .i64 0, .int .i64 r1, .int .i64 (r1 + r3)] 45)).drew := ((Below.refl _ W).alloc (Nat.le_refl _) _).drew
  have hlb : vb < W.heap.size := lt_of_cell c0
  have c0 := (hcur.cell (p := ⟨vb, _, none⟩) hlb).trans c0
  clear hv hx hp hres hm hn hmn g0 g2 g3 hl hblk
  by_cases h2 : (2 : Int) ≤ (n : Int)
  · have hge2 : decide ((2 : Int) ≤ (n : Int)) = true := by simp; omega
    go_enter Tryz.func47, Tryz.ntmps47
    go_wp2_with fail
    go_region_held3 (fun W' => W'.cell? ⟨vb, vo + m, none⟩ = some (.slice xq x.length xc) ∧ W'.cell? ⟨W.heap.size, 0, none⟩ = some (.int .i64 8) ∧ W'.cell? ⟨W.heap.size, 1, none⟩ = some (.int .u64 0) ∧ W'.cell? ⟨W.heap.size, 2, none⟩ = some (.int .u64 0) ∧ W'.cell? ⟨W.heap.size, 3, none⟩ = some (.int .u64 0) ∧ W'.cell? ⟨W.heap.size, 4, none⟩ = some (.int .u64 0) ∧ W'.cell? ⟨W.heap.size, 5, none⟩ = some (.int .i64 0) ∧ W'.cell? ⟨W.heap.size, 6, none⟩ = some (.int .i64 0) ∧ W'.cell? ⟨W.heap.size, 7, none⟩ = some (.int .i64 r1) ∧ W'.cell? ⟨W.heap.size, 8, none⟩ = some (.int .i64 (r1 + r3))) (first | exact ⟨c0, n0, n1, n2, n3, n4, n5, n6, n7, n8⟩) (first
      | (go_at_call 29; ((with_reducible refine (HU.out _ hcur).mono ?_)); rintro e wn ⟨⟨zq, zc, rfl, hz, hzc⟩, hbn⟩; have c0 := (hbn.cell (lt_of_cell c0)).trans c0; have n0 := (hbn.cell (lt_of_cell n0)).trans n0; have n1 := (hbn.cell (lt_of_cell n1)).trans n1; have n2 := (hbn.cell (lt_of_cell n2)).trans n2; have n3 := (hbn.cell (lt_of_cell n3)).trans n3; have n4 := (hbn.cell (lt_of_cell n4)).trans n4; have n5 := (hbn.cell (lt_of_cell n5)).trans n5; have n6 := (hbn.cell (lt_of_cell n6)).trans n6; have n7 := (hbn.cell (lt_of_cell n7)).trans n7; have n8 := (hbn.cell (lt_of_cell n8)).trans n8; have hcur := hcur.trans (hbn.mono hcur.size); clear hbn)
      | (go_at_call 71; ((with_reducible refine (HWith.out _ _ _ hcur hz hzc).mono ?_)); rintro e wn ⟨⟨v', rfl, hxs⟩, hbn⟩; have c0 := (hbn.cell (lt_of_cell c0)).trans c0; have n0 := (hbn.cell (lt_of_cell n0)).trans n0; have n1 := (hbn.cell (lt_of_cell n1)).trans n1; have n2 := (hbn.cell (lt_of_cell n2)).trans n2; have n3 := (hbn.cell (lt_of_cell n3)).trans n3; have n4 := (hbn.cell (lt_of_cell n4)).trans n4; have n5 := (hbn.cell (lt_of_cell n5)).trans n5; have n6 := (hbn.cell (lt_of_cell n6)).trans n6; have n7 := (hbn.cell (lt_of_cell n7)).trans n7; have n8 := (hbn.cell (lt_of_cell n8)).trans n8; have hcur := hcur.trans (hbn.mono hcur.size); clear hbn))
    all_goals
      go_wp2_with fail
      go_ret
      exact HRes.out _ _ hxs hcur
  · have hge2 : decide ((2 : Int) ≤ (n : Int)) = false := by simp; omega
    go_enter Tryz.func47, Tryz.ntmps47
    go_wp2_with fail
    go_region_held3 (fun W' => W'.cell? ⟨vb, vo + m, none⟩ = some (.slice xq x.length xc) ∧ W'.cell? ⟨W.heap.size, 0, none⟩ = some (.int .i64 8) ∧ W'.cell? ⟨W.heap.size, 1, none⟩ = some (.int .u64 0) ∧ W'.cell? ⟨W.heap.size, 2, none⟩ = some (.int .u64 0) ∧ W'.cell? ⟨W.heap.size, 3, none⟩ = some (.int .u64 0) ∧ W'.cell? ⟨W.heap.size, 4, none⟩ = some (.int .u64 0) ∧ W'.cell? ⟨W.heap.size, 5, none⟩ = some (.int .i64 0) ∧ W'.cell? ⟨W.heap.size, 6, none⟩ = some (.int .i64 0) ∧ W'.cell? ⟨W.heap.size, 7, none⟩ = some (.int .i64 r1) ∧ W'.cell? ⟨W.heap.size, 8, none⟩ = some (.int .i64 (r1 + r3))) (first | exact ⟨c0, n0, n1, n2, n3, n4, n5, n6, n7, n8⟩) (first
      | (go_at_call 29; ((with_reducible refine (HU.out _ hcur).mono ?_)); rintro e wn ⟨⟨zq, zc, rfl, hz, hzc⟩, hbn⟩; have c0 := (hbn.cell (lt_of_cell c0)).trans c0; have n0 := (hbn.cell (lt_of_cell n0)).trans n0; have n1 := (hbn.cell (lt_of_cell n1)).trans n1; have n2 := (hbn.cell (lt_of_cell n2)).trans n2; have n3 := (hbn.cell (lt_of_cell n3)).trans n3; have n4 := (hbn.cell (lt_of_cell n4)).trans n4; have n5 := (hbn.cell (lt_of_cell n5)).trans n5; have n6 := (hbn.cell (lt_of_cell n6)).trans n6; have n7 := (hbn.cell (lt_of_cell n7)).trans n7; have n8 := (hbn.cell (lt_of_cell n8)).trans n8; have hcur := hcur.trans (hbn.mono hcur.size); clear hbn)
      | (go_at_call 71; ((with_reducible refine (HWith.out _ _ _ hcur hz hzc).mono ?_)); rintro e wn ⟨⟨v', rfl, hxs⟩, hbn⟩; have c0 := (hbn.cell (lt_of_cell c0)).trans c0; have n0 := (hbn.cell (lt_of_cell n0)).trans n0; have n1 := (hbn.cell (lt_of_cell n1)).trans n1; have n2 := (hbn.cell (lt_of_cell n2)).trans n2; have n3 := (hbn.cell (lt_of_cell n3)).trans n3; have n4 := (hbn.cell (lt_of_cell n4)).trans n4; have n5 := (hbn.cell (lt_of_cell n5)).trans n5; have n6 := (hbn.cell (lt_of_cell n6)).trans n6; have n7 := (hbn.cell (lt_of_cell n7)).trans n7; have n8 := (hbn.cell (lt_of_cell n8)).trans n8; have hcur := hcur.trans (hbn.mono hcur.size); clear hbn))
    all_goals
      go_wp2_with fail
      go_ret
      exact HRes.out _ _ hxs hcur
set_option maxRecDepth 100000 in
set_option maxHeartbeats 4000000 in
theorem push_new (b : Int) (hb : 0 ≤ b ∧ b < 256) (kk : Int) (hk : b.tmod 14 = kk) (v : Value) (ls : List (List Nd)) (t : Nat) (W : World)
    (hv : IsXs W v ls) (hp : Pile ls t) (ht : t ≤ 1073741824) (hl : ls.length ≤ 1073741824)
    (hno2 : ls.length < 2 ∨ (kk ≠ 4 ∧ kk ≠ 5 ∧ kk ≠ 6 ∧ kk ≠ 13)) (hno1 : ls.length < 1 ∨ kk < 7 ∨ 11 < kk) :
    Calls Tryz.prog 47 #[v, .int .u8 b] W (Pushed ls b t W) := by
  obtain ⟨vp, vc, rfl⟩ := hv.shape
  have hkb : 0 ≤ kk ∧ kk < 14 := by rw [← hk, Int.tmod_eq_emod_of_nonneg hb.1]; omega
  have hw1 : IntKind.i64.wrap kk = kk := IntWalk.i64_in _ (by omega)
  have hw8 : IntKind.u8.wrap kk = kk := by rw [IntKind.wrap_u8]; omega
  have HL := Lib.hid (fun w => leaf_any kk (b / 14) (by omega) w)
  have HWith := Lib.hid (fun w p c nd (hw : Below W.heap.size W w) (hz : IsX w (.slice p 1 c) [nd]) (hzc : 1 ≤ c) => (rpile_any _ _ ls [nd] ls.length w (hv.grows hw) hz hzc (by omega) (by omega)).mono (R' := fun e W' => (∃ v', e = .returned v' ∧ IsXs W' v' (ls ++ [[nd]])) ∧ Below w.heap.size w W') (fun e W' ⟨⟨v', he, ho⟩, hb⟩ => ⟨⟨v', he, by rw [List.take_length] at ho; exact ho⟩, hb⟩))
  have hres : ∀ v' W' nd, LeafN nd → IsXs W' v' (ls ++ [[nd]]) → Below W.heap.size W W' → Pushed ls b t W (.returned v') W' := fun v' W' nd h0 h1 h2 =>
    ⟨⟨v', _, rfl, h1, hp.more (wf_leaf h0) (post_leaf h0) rfl, by simp, by simp, fun e h3 => by
      subst e
      have : kk = 5 := by rw [← hk]; rfl
      omega⟩, h2⟩
  have HRes := Lib.hid hres
  generalize ls.length = n at hno2 hno1 hl HWith ⊢
  clear hv hp hres
  by_cases h2 : n < 2
  · have t2 : decide ((2 : Int) ≤ (n : Int)) = false := by simp; omega
    by_cases h1 : n < 1
    · have t1 : decide ((1 : Int) ≤ (n : Int)) = false := by simp; omega
      go_enter Tryz.func47, Tryz.ntmps47
      go_wp2_with (first | (go_at_call 72; ((with_reducible refine (HL.out _).mono ?_)); rintro e W1 ⟨⟨nd, hnd, rfl⟩, hb1⟩) | (go_at_call 71; refine (HWith.out _ _ _ nd (hb1.trans (((Below.refl _ W1).alloc (Nat.le_refl _) _).mono hb1.size)) (isX_new1 W1 nd _) (Nat.le_refl _)).mono ?_; rintro e W2 ⟨⟨v', rfl, hxs⟩, hb2⟩))
      go_ret
      exact HRes.out _ _ nd hnd hxs ((hb1.trans (((Below.refl _ W1).alloc (Nat.le_refl _) _).mono hb1.size)).trans (hb2.mono (by have := hb1.size; simp; omega)))
    · have t1 : decide ((1 : Int) ≤ (n : Int)) = true := by simp; omega
      by_cases h7 : kk < 7
      · have t7 : decide ((7 : Int) ≤ kk) = false := by simp; omega
        go_enter Tryz.func47, Tryz.ntmps47
        go_wp2_with (first | (go_at_call 72; ((with_reducible refine (HL.out _).mono ?_)); rintro e W1 ⟨⟨nd, hnd, rfl⟩, hb1⟩) | (go_at_call 71; refine (HWith.out _ _ _ nd (hb1.trans (((Below.refl _ W1).alloc (Nat.le_refl _) _).mono hb1.size)) (isX_new1 W1 nd _) (Nat.le_refl _)).mono ?_; rintro e W2 ⟨⟨v', rfl, hxs⟩, hb2⟩))
        go_ret
        exact HRes.out _ _ nd hnd hxs ((hb1.trans (((Below.refl _ W1).alloc (Nat.le_refl _) _).mono hb1.size)).trans (hb2.mono (by have := hb1.size; simp; omega)))
      · have t7 : decide ((7 : Int) ≤ kk) = true := by simp; omega
        have t11 : decide (kk ≤ (11 : Int)) = false := by simp; omega
        go_enter Tryz.func47, Tryz.ntmps47
        go_wp2_with (first | (go_at_call 72; ((with_reducible refine (HL.out _).mono ?_)); rintro e W1 ⟨⟨nd, hnd, rfl⟩, hb1⟩) | (go_at_call 71; refine (HWith.out _ _ _ nd (hb1.trans (((Below.refl _ W1).alloc (Nat.le_refl _) _).mono hb1.size)) (isX_new1 W1 nd _) (Nat.le_refl _)).mono ?_; rintro e W2 ⟨⟨v', rfl, hxs⟩, hb2⟩))
        go_ret
        exact HRes.out _ _ nd hnd hxs ((hb1.trans (((Below.refl _ W1).alloc (Nat.le_refl _) _).mono hb1.size)).trans (hb2.mono (by have := hb1.size; simp; omega)))
  · have t2 : decide ((2 : Int) ≤ (n : Int)) = true := by simp; omega
    have t1 : decide ((1 : Int) ≤ (n : Int)) = true := by simp; omega
    have f4 : (kk == 4) = false := by simp; omega
    have f5 : (kk == 5) = false := by simp; omega
    have f6 : (kk == 6) = false := by simp; omega
    have f13 : (kk == 13) = false := by simp; omega
    by_cases h7 : kk < 7
    · have t7 : decide ((7 : Int) ≤ kk) = false := by simp; omega
      go_enter Tryz.func47, Tryz.ntmps47
      go_wp2_with (first | (go_at_call 72; ((with_reducible refine (HL.out _).mono ?_)); rintro e W1 ⟨⟨nd, hnd, rfl⟩, hb1⟩) | (go_at_call 71; refine (HWith.out _ _ _ nd (hb1.trans (((Below.refl _ W1).alloc (Nat.le_refl _) _).mono hb1.size)) (isX_new1 W1 nd _) (Nat.le_refl _)).mono ?_; rintro e W2 ⟨⟨v', rfl, hxs⟩, hb2⟩))
      go_ret
      exact HRes.out _ _ nd hnd hxs ((hb1.trans (((Below.refl _ W1).alloc (Nat.le_refl _) _).mono hb1.size)).trans (hb2.mono (by have := hb1.size; simp; omega)))
    · have t7 : decide ((7 : Int) ≤ kk) = true := by simp; omega
      have t11 : decide (kk ≤ (11 : Int)) = false := by simp; omega
      go_enter Tryz.func47, Tryz.ntmps47
      go_wp2_with (first | (go_at_call 72; ((with_reducible refine (HL.out _).mono ?_)); rintro e W1 ⟨⟨nd, hnd, rfl⟩, hb1⟩) | (go_at_call 71; refine (HWith.out _ _ _ nd (hb1.trans (((Below.refl _ W1).alloc (Nat.le_refl _) _).mono hb1.size)) (isX_new1 W1 nd _) (Nat.le_refl _)).mono ?_; rintro e W2 ⟨⟨v', rfl, hxs⟩, hb2⟩))
      go_ret
      exact HRes.out _ _ nd hnd hxs ((hb1.trans (((Below.refl _ W1).alloc (Nat.le_refl _) _).mono hb1.size)).trans (hb2.mono (by have := hb1.size; simp; omega)))
end Go.Proofs.YtgbbjobmcbdhdaaGreatDoor

/-
  Walks: the reference's Made: whatever the bytes, a good expression of the wanted size.
-/
namespace Go.Proofs.YtgbbjobmcbdhdaaGreatDoor
open Go.RowKit Go.Shelf
attribute [local go_sem] Oper.semAt_some

theorem push_any (b : Int) (hb : 0 ≤ b ∧ b < 256) (v : Value) (ls : List (List Nd)) (t : Nat) (W : World) (hv : IsXs W v ls) (hp : Pile ls t) (ht : t ≤ 1073741824) (hl : ls.length ≤ 1073741824) :
    Calls Tryz.prog 47 #[v, .int .u8 b] W (Pushed ls b t W) := by
  obtain ⟨kk, hk⟩ : ∃ kk, b.tmod 14 = kk := ⟨_, rfl⟩
  have hkb : 0 ≤ kk ∧ kk < 14 := by rw [← hk, Int.tmod_eq_emod_of_nonneg hb.1]; omega
  by_cases h2 : 2 ≤ ls.length ∧ (kk = 4 ∨ kk = 5 ∨ kk = 6 ∨ kk = 13)
  · obtain ⟨L, x, y, rfl⟩ := split_two h2.1
    have hL : L.length ≤ 1073741824 := by rw [List.length_append] at hl; omega
    rcases h2.2 with h | h | h | h
    · exact push_two b kk 4 hb hk (by omega) v L x y t W hv hp ht hL
    · exact push_two b kk 5 hb hk (by omega) v L x y t W hv hp ht hL
    · exact push_two b kk 6 hb hk (by omega) v L x y t W hv hp ht hL
    · exact push_two b kk 4 hb hk (by omega) v L x y t W hv hp ht hL
  · by_cases h1 : 1 ≤ ls.length ∧ 7 ≤ kk ∧ kk ≤ 11
    · obtain ⟨L, x, rfl⟩ := split_one h1.1
      have hL : L.length ≤ 1073741824 := by rw [List.length_append] at hl; omega
      have hkk : kk = 7 ∨ kk = 8 ∨ kk = 9 ∨ kk = 10 ∨ kk = 11 := by omega
      rcases hkk with rfl | rfl | rfl | rfl | rfl
      · exact push_one_7 b hb hk v L x t W hv hp ht hL
      · exact push_one_8 b hb hk v L x t W hv hp ht hL
      · exact push_one_9 b hb hk v L x t W hv hp ht hL
      · exact push_one_10 b hb hk v L x t W hv hp ht hL
      · exact push_one_11 b hb hk v L x t W hv hp ht hL
    · exact push_new b hb kk hk v ls t W hv hp ht hl (by omega) (by omega)
theorem isB_take {W : World} {p : Option Addr} {c : Nat} {l : List Int} (h : IsB W (.slice p l.length c) l) {k : Nat} (hk : k ≤ l.length) : IsB W (.slice p k c) (l.take k) := by
  rcases Nat.eq_zero_or_pos k with h0 | h0
  · subst h0; exact .inl ⟨by simp, _, _, rfl⟩
  · rcases h with ⟨rfl, _⟩ | ⟨blk, off, cap, he, hc⟩
    · simp at hk; omega
    · simp only [Value.slice.injEq] at he
      obtain ⟨rfl, _, rfl⟩ := he
      refine .inr ⟨blk, off, c, by rw [List.length_take, Nat.min_eq_left hk], fun j y hj => ?_⟩
      rw [List.getElem?_take] at hj
      split at hj
      · exact hc j y hj
      · cases hj
theorem isB_drop {W : World} {blk off c : Nat} {l : List Int} (h : IsB W (.slice (some ⟨blk, off, none⟩) l.length c) l) {k : Nat} (hk : k ≤ l.length) : IsB W (.slice (some ⟨blk, off + k, none⟩) (l.length - k) (c - k)) (l.drop k) := by
  rcases h with ⟨rfl, _⟩ | ⟨blk', off', cap, he, hc⟩
  · simp at hk; subst hk; exact .inl ⟨rfl, _, _, rfl⟩
  · simp only [Value.slice.injEq, Option.some.injEq, Addr.mk.injEq] at he
    obtain ⟨⟨rfl, rfl, _⟩, _, rfl⟩ := he
    refine .inr ⟨blk, off + k, c - k, by rw [List.length_drop], fun j y hj => ?_⟩
    rw [List.getElem?_drop] at hj
    rw [Nat.add_assoc]
    exact hc (k + j) y hj
/-- a slice's length. -/
def slLen : Value → Nat
  | .slice _ n _ => n
  | _ => 0
/-- what Made gives. -/
def MadeP (most : Nat) (W : World) (e : Ending) (W' : World) : Prop :=
  (∃ p c xs, e = .returned (.slice p xs.length c) ∧ IsX W' (.slice p xs.length c) xs ∧ Wf xs ∧ xs.length ≤ most ∧ xs.length ≤ c ∧ Post xs) ∧ Below W.heap.size W W'

theorem isX_block {w w' : World} {blk off n c : Nat} {l : List Nd} (h : IsX w (.slice (some ⟨blk, off, none⟩) n c) l) (hb : w'.heap[blk]? = w.heap[blk]?) : IsX w' (.slice (some ⟨blk, off, none⟩) n c) l := by
  rcases h with ⟨rfl, q, c', e⟩ | ⟨blk', off', cap, he, hr⟩
  · exact .inl ⟨rfl, q, c', e⟩
  · refine .inr ⟨blk', off', cap, he, fun j x hj i v hi => ?_⟩
    simp only [Value.slice.injEq, Option.some.injEq, Addr.mk.injEq] at he
    obtain ⟨⟨rfl, rfl, _⟩, _, rfl⟩ := he
    rw [World.cell?_of_block hb]; exact hr j x hj i v hi
def leaf2 : Nd := ⟨2, 0, 0, 0, 0, 0⟩
/-- the pile of one leaf, where nothing was pushed. -/
theorem first_leaf {W wr w2 : World} {v v' : Value} {T : TypeId} (hown : wr.ownsRow W.heap.size T 1 v 0 []) (hown2 : w2.ownsRow W.heap.size T 1 v' 1 [Value.slice (some ⟨wr.heap.size, 0, none⟩) 1 1])
    (hg : (((wr.alloc (.cells #[.int .i64 2, .int .u64 0, .int .u64 0, .int .u64 0, .int .u64 0, .int .i64 0, .int .i64 0, .int .i64 0, .int .i64 0] 45)).alloc (.cells #[Value.slice (some ⟨wr.heap.size, 0, none⟩) 1 1] 23)).grownBy w2 v.ownBlock)) :
    IsXs w2 v' [[leaf2]] := by
  refine ⟨[Value.slice (some ⟨wr.heap.size, 0, none⟩) 1 1], own_cells1 hown2, (⟨rfl, fun e he => (by cases he), fun j e l h => by simp at h⟩ : AllX w2 [] []).snoc (l := [leaf2]) ?_ (Nat.le_refl _)⟩
  have h1 := isX_new1 wr leaf2 45
  unfold leaf2 at h1
  simp only [wd_zero] at h1
  have h2 := h1.grows ((Below.refl _ _).alloc (Nat.le_refl _) (.cells #[Value.slice (some ⟨wr.heap.size, 0, none⟩) 1 1] 23))
  exact isX_block h2 (hg.block _ (by simp; omega) (fun e => by
    have := own_lt hown _ e.symm
    omega))

set_option maxRecDepth 100000 in
set_option maxHeartbeats 4000000 in
theorem made_any : ∀ (N : Nat) (p : Option Addr) (c : Nat) (l : List Int) (most : Nat) (W : World), l.length < N → IsB W (.slice p l.length c) l → l.length ≤ c → (∀ y ∈ l, 0 ≤ y ∧ y < 256) → l.length ≤ 1048576 → 1 ≤ most → most ≤ 1048576 →
    Calls Tryz.prog 26 #[.slice p l.length c, .int .i64 (most : Int)] W (MadeP most W) := by
  intro N
  induction N with
  | zero => intro p c l most W hN; omega
  | succ N ih =>
    intro p c l most W hN hv hc hbb hlb hm1 hm2
    obtain ⟨i0, hi, hz0, hz1, hz2⟩ := info_parts infoX
    have HV := Lib.hid hv
    have HBB := Lib.hid hbb
    have HIH := Lib.hid ih
    clear hv hbb ih
    go_enter Tryz.func26, Tryz.ntmps26
    go_wp2_with fail
    go_loopw [5, 6] (fun v i wr => ∃ (k : Nat) (ls : List (List Nd)), k ≤ l.length ∧ i = .int .i64 k ∧ IsXs wr v ls ∧ Pile ls k ∧ ls.length ≤ k ∧ (ls = [] → k = 0 ∧ wr.ownsRow W.heap.size 23 1 v 0 []) ∧ Below W.heap.size W wr) (fun _ i _ => l.length - (intOf i).toNat)
    case atStart =>
      exact ⟨0, [], Nat.zero_le _, rfl, IsXs.nil _ _ _, Pile.nil _, Nat.le_refl _, fun _ => ⟨rfl, own_empty1 W W.heap.size (Nat.le_refl _) 23⟩, (Below.refl _ W).alloc (Nat.le_refl _) _⟩
    case round =>
      obtain ⟨k, ls, hk, rfl, hxs, hpl, hln, hown, hbw⟩ := hrel
      by_cases hlt : k < l.length
      · obtain ⟨y, hy⟩ : ∃ y, l[k]? = some y := ⟨_, List.getElem?_eq_getElem hlt⟩
        obtain ⟨blk, off, rfl, a0⟩ := HV.out.at hy
        have a0 := (hbw.cell (p := ⟨blk, _, none⟩) (lt_of_cell a0)).trans a0
        have HP := Lib.hid (push_any y (HBB.out y (List.mem_of_getElem? hy)) _ ls k wr hxs hpl (by omega) (by omega))
        have HB := Lib.hid hbw
        clear hy hown hbw hxs hpl
        go_wp2_with (go_at_call 47; ((with_reducible refine HP.out.mono ?_)); rintro e W1 ⟨⟨v1, ls1, rfl, h1, h2, h3, h4, h5⟩, hb1⟩)
        go_roundw
        case rel => exact ⟨k + 1, ls1, by omega, by go_num, h1, h2, by omega, fun e => by subst e; simp at h3, HB.out.trans (hb1.mono HB.out.size)⟩
        case measure => simp [intOf]; omega
      · obtain rfl : k = l.length := by omega
        rcases Nat.eq_zero_or_pos ls.length with hz | hz
        · obtain rfl : ls = [] := List.length_eq_zero_iff.1 hz
          obtain ⟨hk0, ho⟩ := hown rfl
          have HK0 := Lib.hid hk0
          obtain ⟨q0, c0, rfl⟩ := own_shape ho
          have HO := Lib.hid ho
          have HB0 := Lib.hid hbw
          have HC := Lib.hid (cells_new1 (wr.alloc (.cells #[.int .i64 2, .int .u64 0, .int .u64 0, .int .u64 0, .int .u64 0, .int .i64 0, .int .i64 0, .int .i64 0, .int .i64 0] 45)) (.slice (some ⟨wr.heap.size, 0, none⟩) 1 1) 23 (wr.heap.size + 1) (by simp))
          have hsz := hbw.size
          clear ho hown hbw hxs hpl hk0
          go_wp2_with (at_builtin; refine wpList_append_own _ rfl _ _ 81 rfl W.heap.size 23 i0 _ 1 24 Tryz.underlying81 hi hz0 hz1 hz2 rfl (by decide) _ _ _ rfl (own_alloc (own_alloc HO.out _) _) ⟨wr.heap.size + 1, 0, none⟩ 1 1 [Value.slice (some ⟨wr.heap.size, 0, none⟩) 1 1] rfl rfl HC.out (by intro u hu; simp only [List.mem_singleton] at hu; subst hu; rfl) (by unfold maxLen; omega) (by omega) (by simp; omega) ?_; intro v' w2 hown2 hgrow _)
          have hBx : Below W.heap.size W w2 := ((HB0.out.alloc hsz _).alloc (by simp; omega) _).grown hgrow (by simp; omega) (fun k2 e2 => by have := own_ge HO.out k2 e2; omega)
          have hXx : IsXs w2 v' [[leaf2]] := first_leaf HO.out (own_cast hown2 rfl rfl) hgrow
          have hPx : Pile [[leaf2]] 1 := (Pile.nil 0).more (wf_leaf (.inr (.inl rfl))) (post_leaf (.inr (.inl rfl))) rfl
          have h1x : 1 ≤ [[leaf2]].length := Nat.le_refl _
          have hTx : 1 + [[leaf2]].length ≤ max (2 * l.length) 2 := by simp; omega
          obtain ⟨q1, c1, hv1⟩ := hXx.shape
          have hv1 : v' = .slice q1 1 c1 := hv1
          subst hv1
          clear hown2 hgrow HO HC HB0
          have HB := Lib.hid hBx
          have HX := Lib.hid hXx
          have HPl := Lib.hid hPx
          clear hBx hXx hPx
          go_wp2_with fail
          go_loopw [5] (fun v wr => ∃ (ls : List (List Nd)) (t : Nat), IsXs wr v ls ∧ Pile ls t ∧ 1 ≤ ls.length ∧ t + ls.length ≤ max (2 * l.length) 2 ∧ Below W.heap.size W wr) (fun v _ => slLen v)
          case atStart => exact ⟨_, _, HX.out, HPl.out, h1x, hTx, HB.out⟩
          case round =>
            obtain ⟨ls, t, hxs, hpl, h1, hT, hbw⟩ := hrel
            obtain ⟨q, cq, rfl⟩ := hxs.shape
            by_cases hlt : 1 < ls.length
            · have HP := Lib.hid (push_any 5 (by omega) _ ls t wr hxs hpl (by omega) (by omega))
              have HB2 := Lib.hid hbw
              clear hbw hxs hpl
              go_wp2_with (go_at_call 47; ((with_reducible refine HP.out.mono ?_)); rintro e W1 ⟨⟨v1, ls1, rfl, g1, g2, g3, g4, g5⟩, hb1⟩; obtain ⟨q1, cq1, rfl⟩ := g1.shape)
              go_roundw
              case rel => exact ⟨ls1, t + 1, g1, g2, g3, by have := g5 trivial hlt; omega, HB2.out.trans (hb1.mono HB2.out.size)⟩
              case measure =>
                have := g5 trivial hlt
                simp [slLen]
                omega
            · obtain ⟨L0, x, hls⟩ := split_one h1
              obtain rfl : L0 = [] := by
                rw [hls] at hlt
                simp at hlt
                exact hlt
              rw [List.nil_append] at hls
              subst hls
              obtain ⟨xb, xo, xq, xc, rfl, c0, hx, hxc⟩ := hxs.at (k := 0) (l := x) rfl
              rw [Nat.add_zero] at c0
              have hxl := hpl.le (x := x) (by simp)
              have hxw := hpl.good x (by simp)
              have hxo := hpl.post x (by simp)
              have HXx := Lib.hid hx
              have HW := Lib.hid hxw
              have HB2 := Lib.hid hbw
              clear hbw hxs hpl hx hxw
              simp only [List.length_singleton] at hT hlt h1 ⊢
              by_cases hm : most < x.length
              · have t1 : decide ((most : Int) < (x.length : Int)) = true := by simp; omega
                have hl0 : 0 < l.length := by omega
                obtain ⟨y, hy⟩ : ∃ y, l[0]? = some y := ⟨_, List.getElem?_eq_getElem hl0⟩
                obtain ⟨lb, lo, rfl, _⟩ := HV.out.at hy
                have HM := Lib.hid (by
                  have h := HIH.out (some ⟨lb, lo, none⟩) c (l.take (l.length / 2)) most wr (by rw [List.length_take]; omega) (by rw [List.length_take, Nat.min_eq_left (by omega)]; exact isB_take (HV.out.kept fun _ _ h => (HB2.out.cell (lt_of_cell h)).trans h) (by omega)) (by rw [List.length_take]; omega) (fun z hz => HBB.out z (List.mem_of_mem_take hz)) (by rw [List.length_take]; omega) hm1 hm2
                  rw [List.length_take, Nat.min_eq_left (by omega)] at h
                  exact h)
                clear hy
                have e2 : (((l.length : Int) / 2).toNat) = l.length / 2 := by omega
                go_wp2_with (go_at_call 26; ((with_reducible refine HM.out.mono ?_)); rintro e W1 ⟨⟨q1, c1, xs, rfl, g1, g2, g3, g4, g5⟩, hb1⟩)
                go_ret
                exact ⟨⟨q1, c1, xs, rfl, g1, g2, g3, g4, g5⟩, HB2.out.trans (hb1.mono HB2.out.size)⟩
              · have t1 : decide ((most : Int) < (x.length : Int)) = false := by simp; omega
                go_wp2_with fail
                go_ret
                exact ⟨⟨xq, xc, x, rfl, HXx.out, HW.out, by omega, hxc, hxo⟩, HB2.out⟩
        · obtain ⟨q0, c0, rfl⟩ := hxs.shape
          have hBx := hbw
          have hXx := hxs
          have hPx := hpl
          have h1x : 1 ≤ ls.length := hz
          have hTx : l.length + ls.length ≤ max (2 * l.length) 2 := by omega
          have tz : (ls.length : Int) ≠ 0 := by omega
          have tz2 : ((ls.length : Int) == 0) = false := by rw [beq_eq_false_iff_ne]; omega
          clear hbw hxs hpl hown
          have HB := Lib.hid hBx
          have HX := Lib.hid hXx
          have HPl := Lib.hid hPx
          clear hBx hXx hPx
          go_wp2_with fail
          go_loopw [5] (fun v wr => ∃ (ls : List (List Nd)) (t : Nat), IsXs wr v ls ∧ Pile ls t ∧ 1 ≤ ls.length ∧ t + ls.length ≤ max (2 * l.length) 2 ∧ Below W.heap.size W wr) (fun v _ => slLen v)
          case atStart => exact ⟨_, _, HX.out, HPl.out, h1x, hTx, HB.out⟩
          case round =>
            obtain ⟨ls, t, hxs, hpl, h1, hT, hbw⟩ := hrel
            obtain ⟨q, cq, rfl⟩ := hxs.shape
            by_cases hlt : 1 < ls.length
            · have HP := Lib.hid (push_any 5 (by omega) _ ls t wr hxs hpl (by omega) (by omega))
              have HB2 := Lib.hid hbw
              clear hbw hxs hpl
              go_wp2_with (go_at_call 47; ((with_reducible refine HP.out.mono ?_)); rintro e W1 ⟨⟨v1, ls1, rfl, g1, g2, g3, g4, g5⟩, hb1⟩; obtain ⟨q1, cq1, rfl⟩ := g1.shape)
              go_roundw
              case rel => exact ⟨ls1, t + 1, g1, g2, g3, by have := g5 trivial hlt; omega, HB2.out.trans (hb1.mono HB2.out.size)⟩
              case measure =>
                have := g5 trivial hlt
                simp [slLen]
                omega
            · obtain ⟨L0, x, hls⟩ := split_one h1
              obtain rfl : L0 = [] := by
                rw [hls] at hlt
                simp at hlt
                exact hlt
              rw [List.nil_append] at hls
              subst hls
              obtain ⟨xb, xo, xq, xc, rfl, c0, hx, hxc⟩ := hxs.at (k := 0) (l := x) rfl
              rw [Nat.add_zero] at c0
              have hxl := hpl.le (x := x) (by simp)
              have hxw := hpl.good x (by simp)
              have hxo := hpl.post x (by simp)
              have HXx := Lib.hid hx
              have HW := Lib.hid hxw
              have HB2 := Lib.hid hbw
              clear hbw hxs hpl hx hxw
              simp only [List.length_singleton] at hT hlt h1 ⊢
              by_cases hm : most < x.length
              · have t1 : decide ((most : Int) < (x.length : Int)) = true := by simp; omega
                have hl0 : 0 < l.length := by omega
                obtain ⟨y, hy⟩ : ∃ y, l[0]? = some y := ⟨_, List.getElem?_eq_getElem hl0⟩
                obtain ⟨lb, lo, rfl, _⟩ := HV.out.at hy
                have HM := Lib.hid (by
                  have h := HIH.out (some ⟨lb, lo, none⟩) c (l.take (l.length / 2)) most wr (by rw [List.length_take]; omega) (by rw [List.length_take, Nat.min_eq_left (by omega)]; exact isB_take (HV.out.kept fun _ _ h => (HB2.out.cell (lt_of_cell h)).trans h) (by omega)) (by rw [List.length_take]; omega) (fun z hz => HBB.out z (List.mem_of_mem_take hz)) (by rw [List.length_take]; omega) hm1 hm2
                  rw [List.length_take, Nat.min_eq_left (by omega)] at h
                  exact h)
                clear hy
                have e2 : (((l.length : Int) / 2).toNat) = l.length / 2 := by omega
                go_wp2_with (go_at_call 26; ((with_reducible refine HM.out.mono ?_)); rintro e W1 ⟨⟨q1, c1, xs, rfl, g1, g2, g3, g4, g5⟩, hb1⟩)
                go_ret
                exact ⟨⟨q1, c1, xs, rfl, g1, g2, g3, g4, g5⟩, HB2.out.trans (hb1.mono HB2.out.size)⟩
              · have t1 : decide ((most : Int) < (x.length : Int)) = false := by simp; omega
                go_wp2_with fail
                go_ret
                exact ⟨⟨xq, xc, x, rfl, HXx.out, HW.out, by omega, hxc, hxo⟩, HB2.out⟩
end Go.Proofs.YtgbbjobmcbdhdaaGreatDoor
