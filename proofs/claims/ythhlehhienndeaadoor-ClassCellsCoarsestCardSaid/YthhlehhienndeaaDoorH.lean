/-
  Walks: the reference's complement and difference; its list of members, their number, the least one.
-/
import Derived.Test.YthhlehhienndeaaDoorG
set_option linter.unusedSimpArgs false
set_option linter.unusedVariables false
namespace Go.Proofs.YthhlehhienndeaaDoor
open Go.RowKit

theorem infoByte : (Tryd.prog.info? 5).map (fun i => (i.zero, i.size, i.bytes)) = some (some (.int .u8 0), 1, 1) := by kernel_rfl

set_option maxRecDepth 100000 in
set_option maxHeartbeats 1000000 in
theorem rbytes_any (x : BitVec 256) (w : World) : Calls Tryd.prog 29 #[.agg #[.int .u64 (wd x 0), .int .u64 (wd x 1), .int .u64 (wd x 2), .int .u64 (wd x 3)]] w fun e w' =>
    ∃ v, e = .returned v ∧ w'.ownsRow w.heap.size 5 1 v (mems x 256).length ((mems x 256).map (Value.int .u8)) ∧ Below w.heap.size w w' := by
  obtain ⟨i0, hi, hz0, hz1, hz2⟩ := info_parts infoByte
  go_enter Tryd.func29, Tryd.ntmps29
  go_wp2
  go_loopw [3, 4] (fun v i wr => ∃ k : Nat, k ≤ 256 ∧ i = .int .i64 k ∧ wr.ownsRow (w.heap.size + 1) 5 1 v (mems x k).length ((mems x k).map (Value.int .u8)) ∧ Blk wr w.heap.size #[.int .u64 (wd x 0), .int .u64 (wd x 1), .int .u64 (wd x 2), .int .u64 (wd x 3)] 24 ∧ Below w.heap.size w wr) (fun _ i _ => 256 - (intOf i).toNat)
  case atStart =>
    refine ⟨0, Nat.zero_le _, rfl, ?_, ?_, ?_⟩
    · exact own_of_blk (Blk.alloc1 w _ _ _ _ _) 0 1 rfl (Nat.zero_le _) (Nat.le_refl _)
    · exact (Blk.new w _ _).alloc _
    · go_grown
  case round =>
    obtain ⟨k, hk, rfl, hown, hX, hbw⟩ := hrel
    obtain ⟨a0, a1, a2, a3, -⟩ := hX.four
    by_cases hlt : k < 256
    · have hl := mems_len x k
      cases hx : mem x k
      · have HS := Lib.hid (mems_no x k hx)
        generalize mems x k = l at hown HS hl
        go_wp2_with (go_at_call 41; refine (rhas_any _ _ _ (by omega) (by omega)).mono ?_; rintro e w1 ⟨rfl, hb1⟩)
        go_roundw
        case rel => exact ⟨k + 1, by omega, by go_num, by rw [HS.out]; exact own_below hown hb1, hX.grows hb1, hbw.trans (hb1.mono hbw.size)⟩
        case measure => simp [intOf]; omega
      · have HS := Lib.hid (mems_yes x k hx)
        generalize mems x k = l at hown HS hl
        go_wp2_with (first | (go_at_call 41; refine (rhas_any _ _ _ (by omega) (by omega)).mono ?_; rintro e w1 ⟨rfl, hb1⟩; have hown1 := own_below hown hb1; have hX1 := hX.grows hb1; have hbw1 := hbw.trans (hb1.mono hbw.size)) | (at_builtin; refine wpList_append_own _ rfl _ _ 25 rfl (w.heap.size + 1) 5 i0 (.int .u8 0) 1 1 Tryd.underlying25 hi hz0 hz1 hz2 rfl (by decide) _ _ _ rfl (own_alloc hown1 _) ⟨w1.heap.size, 0, none⟩ 1 1 [.int .u8 k] rfl rfl (cell_one_new _ _ _) (by simp [Value.oneCell']) (by unfold maxLen; omega) (by omega) (by have := hX1.lt; simp; omega) ?_; intro v' w2 hown2 hgrow _))
        go_roundw
        case rel =>
          have hg := own_ge hown1
          exact ⟨k + 1, by omega, by go_num, by rw [HS.out]; exact own_cast hown2 (by simp) (by simp), (hX1.alloc _).grownBy hgrow (fun j e => by have := hg j e; omega), (hbw1.alloc hbw1.size _).grown hgrow (by have := hbw1.size; simp; omega) (fun j e => by have := hg j e; omega)⟩
        case measure => simp [intOf]; omega
    · obtain rfl : k = 256 := by omega
      go_wp2
      go_ret
      exact ⟨_, rfl, own_mono hown (by omega), hbw⟩

set_option maxHeartbeats 400000 in
theorem rsize_any (x : BitVec 256) (w : World) : Calls Tryd.prog 25 #[.agg #[.int .u64 (wd x 0), .int .u64 (wd x 1), .int .u64 (wd x 2), .int .u64 (wd x 3)]] w fun e w' => e = .returned (.int .i64 (mems x 256).length) ∧ Below w.heap.size w w' := by
  go_enter Tryd.func25, Tryd.ntmps25
  go_wp2_with (go_at_call 29; refine (rbytes_any x _).mono ?_; rintro e w1 ⟨v, rfl, hown, hb1⟩; have hb2 := Below.trans (B := w.heap.size) (Below.alloc (Below.refl _ w) (Nat.le_refl _) _) (hb1.mono (by simp)); obtain ⟨hl, ⟨rfl, hn⟩ | ⟨g, cap, cur, rfl, hr⟩⟩ := hown)
  · go_ret
    exact ⟨ret_int (by rw [hn]; rfl), hb2⟩
  · go_ret
    exact ⟨rfl, hb2⟩

/-- the least member, or -1. -/
def leastI (x : BitVec 256) : Int := (mems x 256).headD (-1)

/-- what an owned row of one cell an element says, element by element. -/
theorem own_read {w : World} {base : Nat} {e : TypeId} {v : Value} {n : Nat} {xs : List Value} (h : w.ownsRow base e 1 v n xs) (h0 : 0 < n) :
    ∃ g cap, v = .slice (some ⟨g, 0, none⟩) n cap ∧ base ≤ g ∧ g < w.heap.size ∧ n ≤ cap ∧ ∀ i y, xs[i]? = some y → w.cell? ⟨g, i, none⟩ = some y := by
  obtain ⟨hl, ⟨rfl, hn⟩ | ⟨g, cap, cur, rfl, hg, hh, hcap, hm, hsz, htk⟩⟩ := h
  · omega
  · refine ⟨g, cap, rfl, hg, Blk.lt (vs := cur) (t := e) ⟨hh⟩, hcap, fun i y hy => Blk.cell (vs := cur) (t := e) ⟨hh⟩ i ?_⟩
    have h2 := congrArg (fun q => q[i]?) htk
    have hi : i < n * 1 := by
      have := (List.getElem?_eq_some_iff.1 hy).1; omega
    rw [List.getElem?_take_of_lt hi, hy] at h2
    simpa using h2

set_option maxHeartbeats 400000 in
theorem rleast_any (x : BitVec 256) (w : World) : Calls Tryd.prog 27 #[.agg #[.int .u64 (wd x 0), .int .u64 (wd x 1), .int .u64 (wd x 2), .int .u64 (wd x 3)]] w fun e w' => e = .returned (.int .i64 (leastI x)) ∧ Below w.heap.size w w' := by
  have hbyte := mems_byte x 256 (Nat.le_refl _)
  have hq := rbytes_any x (w.alloc (.cells #[.int .u64 (wd x 0), .int .u64 (wd x 1), .int .u64 (wd x 2), .int .u64 (wd x 3)] 24))
  unfold leastI
  generalize mems x 256 = l at hq hbyte
  have HQ := Lib.hid hq
  clear hq
  cases l with
  | nil =>
    go_enter Tryd.func27, Tryd.ntmps27
    go_wp2_with (go_at_call 29; refine HQ.out.mono ?_; rintro e w1 ⟨v, rfl, hown, hb1⟩; have hb2 := Below.trans (B := w.heap.size) (Below.alloc (Below.refl _ w) (Nat.le_refl _) _) (hb1.mono (by simp)); obtain ⟨hl, ⟨rfl, hn⟩ | ⟨g, cap, cur, rfl, hr⟩⟩ := hown)
    · go_ret
      exact ⟨rfl, hb2⟩
    · go_ret
      exact ⟨rfl, hb2⟩
  | cons z rest =>
    obtain ⟨z0, z1⟩ := hbyte z (by simp)
    clear hbyte
    go_enter Tryd.func27, Tryd.ntmps27
    go_wp2_with (go_at_call 29; refine HQ.out.mono ?_; rintro e w1 ⟨v, rfl, hown, hb1⟩; have hb2 := Below.trans (B := w.heap.size) (Below.alloc (Below.refl _ w) (Nat.le_refl _) _) (hb1.mono (by simp)); obtain ⟨g, cap, rfl, -, -, -, hcell⟩ := own_read hown (by simp); have hc0 := hcell 0 _ rfl; clear hcell hown)
    go_ret
    exact ⟨rfl, hb2⟩

set_option maxRecDepth 100000 in
set_option maxHeartbeats 1000000 in
theorem rnot_any (x : BitVec 256) (w : World) : Calls Tryd.prog 23 #[.agg #[.int .u64 (wd x 0), .int .u64 (wd x 1), .int .u64 (wd x 2), .int .u64 (wd x 3)]] w fun e w' => e = .returned (.agg #[.int .u64 (wd (~~~x) 0), .int .u64 (wd (~~~x) 1), .int .u64 (wd (~~~x) 2), .int .u64 (wd (~~~x) 3)]) ∧ Below w.heap.size w w' := by
  have HF := Lib.hid (sel_eq (fun j => !mem x j) (~~~x) fun j hj => by simp [BitVec.getLsbD_not, hj, mem])
  go_enter Tryd.func23, Tryd.ntmps23
  go_wp2
  go_loopw [4] (fun i wr => ∃ k : Nat, k ≤ 256 ∧ i = .int .i64 k ∧ Blk wr (w.heap.size + 2) #[.int .u64 (wd (sel (fun j => !mem x j) k) 0), .int .u64 (wd (sel (fun j => !mem x j) k) 1), .int .u64 (wd (sel (fun j => !mem x j) k) 2), .int .u64 (wd (sel (fun j => !mem x j) k) 3)] 24 ∧ Blk wr w.heap.size #[.int .u64 (wd x 0), .int .u64 (wd x 1), .int .u64 (wd x 2), .int .u64 (wd x 3)] 24 ∧
      Blk wr (w.heap.size + 1) #[.int .u64 0, .int .u64 0, .int .u64 0, .int .u64 0] 24 ∧ Below w.heap.size w wr) (fun i _ => 256 - (intOf i).toNat)
  case atStart =>
    refine ⟨0, Nat.zero_le _, rfl, ?_, ?_, ?_, ?_⟩
    · simp only [sel_zero, wd_zero]; exact Blk.alloc2 _ _ _ _ _
    · exact ((Blk.new w _ _).alloc _).alloc _
    · exact (Blk.alloc1 w _ _ _ _ _).alloc _
    · go_grown
  case round =>
    obtain ⟨k, hk, rfl, hC, hX, hR, hbw⟩ := hrel
    obtain ⟨c0, c1, c2, c3, f0, f1, f2, f3⟩ := hC.four
    obtain ⟨a0, a1, a2, a3, -⟩ := hX.four
    by_cases hlt : k < 256
    · cases hx : mem x k
      · have HS := Lib.hid (sel_yes (fun j => !mem x j) k (by simp [hx]))
        generalize sel (fun j => !mem x j) k = z at c0 c1 c2 c3 HS hC
        go_wp2_with (first | (go_at_call 41; refine (rhas_any _ _ _ (by omega) (by omega)).mono ?_; rintro e w1 ⟨rfl, hb1⟩; clear c0 c1 c2 c3 f0 f1 f2 f3; obtain ⟨c0, c1, c2, c3, f0, f1, f2, f3⟩ := (hC.grows hb1).four) | (go_at_call 38; refine (rwith_any z _ _ (by omega) (by omega)).mono ?_; rintro e w2 ⟨rfl, hb2⟩; clear c0 c1 c2 c3 f0 f1 f2 f3; obtain ⟨c0, c1, c2, c3, f0, f1, f2, f3⟩ := ((hC.grows hb1).grows hb2).four))
        go_roundw
        case rel => exact ⟨k + 1, by omega, by go_num, by rw [HS.out]; exact ((hC.grows hb1).grows hb2).set4 _ _ _ _, ((hX.grows hb1).grows hb2).other4 (by omega) _ _ _ _, ((hR.grows hb1).grows hb2).other4 (by omega) _ _ _ _, below_set4 ((hbw.trans (hb1.mono hbw.size)).trans (hb2.mono (by have := hbw.size; have := hb1.size; omega))) (by omega) _ _ _ _⟩
        case measure => simp [intOf]; omega
      · have HS := Lib.hid (sel_no (fun j => !mem x j) k (by simp [hx]))
        generalize sel (fun j => !mem x j) k = z at c0 c1 c2 c3 HS hC
        go_wp2_with (go_at_call 41; refine (rhas_any _ _ _ (by omega) (by omega)).mono ?_; rintro e w1 ⟨rfl, hb1⟩)
        go_roundw
        case rel => exact ⟨k + 1, by omega, by go_num, by rw [HS.out]; exact hC.grows hb1, hX.grows hb1, hR.grows hb1, hbw.trans (hb1.mono hbw.size)⟩
        case measure => simp [intOf]; omega
    · obtain rfl : k = 256 := by omega
      rw [HF.out] at c0 c1 c2 c3 hC
      obtain ⟨d0, d1, d2, d3, g0, g1, g2, g3⟩ := hR.four
      go_wp2
      refine bodyPost_ret (results_cell_row rfl _ _ (w.heap.size + 1) 24 _ (0, 0) _ rfl (hR.set4 _ _ _ _).is Tryd.underlying24 rfl clsSize) rfl ⟨rfl, below_set4 hbw (by omega) _ _ _ _⟩

set_option maxHeartbeats 400000 in
theorem rminus_any (x y : BitVec 256) (w : World) : Calls Tryd.prog 21 #[.agg #[.int .u64 (wd x 0), .int .u64 (wd x 1), .int .u64 (wd x 2), .int .u64 (wd x 3)], .agg #[.int .u64 (wd y 0), .int .u64 (wd y 1), .int .u64 (wd y 2), .int .u64 (wd y 3)]] w fun e w' => e = .returned (.agg #[.int .u64 (wd (x &&& ~~~y) 0), .int .u64 (wd (x &&& ~~~y) 1), .int .u64 (wd (x &&& ~~~y) 2), .int .u64 (wd (x &&& ~~~y) 3)]) ∧ Below w.heap.size w w' := by
  go_enter Tryd.func21, Tryd.ntmps21
  go_wp2_with fail
  go_region_with (first | (go_at_call 23; refine (rnot_any y _).mono ?_; rintro e w1 ⟨rfl, hb1⟩; have hX := ((((Blk.new w #[.int .u64 (wd x 0), .int .u64 (wd x 1), .int .u64 (wd x 2), .int .u64 (wd x 3)] 24).alloc (.cells #[.int .u64 (wd y 0), .int .u64 (wd y 1), .int .u64 (wd y 2), .int .u64 (wd y 3)] 24)).alloc (.cells #[.int .u64 0, .int .u64 0, .int .u64 0, .int .u64 0] 24)).drew).grows hb1; obtain ⟨a0, a1, a2, a3, -⟩ := hX.four) | (go_at_call 19; refine (rintersect_any x (~~~y) _).mono ?_; rintro e w2 ⟨rfl, hb2⟩; have hR := ((Blk.alloc2 w (.cells #[.int .u64 (wd x 0), .int .u64 (wd x 1), .int .u64 (wd x 2), .int .u64 (wd x 3)] 24) (.cells #[.int .u64 (wd y 0), .int .u64 (wd y 1), .int .u64 (wd y 2), .int .u64 (wd y 3)] 24) #[.int .u64 0, .int .u64 0, .int .u64 0, .int .u64 0] 24).drew.grows hb1).grows hb2; obtain ⟨d0, d1, d2, d3, g0, g1, g2, g3⟩ := hR.four))
  all_goals
    go_wp2
    refine bodyPost_ret (results_cell_row rfl _ _ (w.heap.size + 2) 24 _ (0, 0) _ rfl (hR.set4 _ _ _ _).is Tryd.underlying24 rfl clsSize) rfl ⟨rfl, below_set4 ?_ (by omega) _ _ _ _⟩
    exact Below.trans (Below.trans (by go_grown) (hb1.mono (by simp; omega))) (hb2.mono (by have := hb1.size; simp at this; omega))
end Go.Proofs.YthhlehhienndeaaDoor
