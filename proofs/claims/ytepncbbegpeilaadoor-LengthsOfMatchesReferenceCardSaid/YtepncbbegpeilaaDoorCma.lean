/-
  Walks: the combination of two sets by and; the code's And.
-/
import Derived.Test.YtepncbbegpeilaaDoorCb
set_option linter.unusedSimpArgs false
set_option linter.unusedVariables false
namespace Go.Proofs.YtepncbbegpeilaaDoor
open Go.RowKit Go.Lib
open Go.Sort hiding Below

set_option maxRecDepth 100000 in
set_option maxHeartbeats 4000000 in
theorem lcombine_and (va vb : Value) (h c h' c' : List Bool) (w : World) (hva : IsSet w va h c) (hvb : IsSet w vb h' c') (h1 : h.length ≤ 1152921504606846976) (h2 : c.length ≤ 1152921504606846976) (h3 : h'.length ≤ 1152921504606846976) (h4 : c'.length ≤ 1152921504606846976) :
    Calls Tryd.prog 29 #[va, vb, .func (.func 30) #[] #[]] w fun e w' => OpRes w.heap.size (okLen h.length c.length && okLen h'.length c'.length) (fun n => atL h c n && atL h' c' n) w' e ∧ Below w.heap.size w w' := by
  obtain ⟨hp, hk, cp, ck, rfl, a1, a2⟩ := hva.shape
  obtain ⟨hp', hk', cp', ck', rfl, b1, b2⟩ := hvb.shape
  have HV := Lib.hid (fun W => valid_any hp cp h.length hk c.length ck W h1 h2)
  have HV' := Lib.hid (fun W => valid_any hp' cp' h'.length hk' c'.length ck' W h3 h4)
  cases ho : okLen h.length c.length
  · rw [ho] at HV
    clear ho hva hvb a1 a2 b1 b2 HV'
    go_enter Tryd.func29, Tryd.ntmps29
    go_wp2_with (go_at_call 24; with_reducible refine (HV.out _).mono ?_; rintro e w1 ⟨rfl, hb1⟩; have hR1 := (Blk.alloc2 w _ _ _ _).grows hb1; have r0 := hR1.cell 0 rfl; have r1 := hR1.cell 1 rfl; have z0 := hR1.free 0; have z1 := hR1.free 1)
    have q0 : (w1.setCell ⟨w.heap.size + 2, 0, none⟩ (.slice none 0 0)).cell? ⟨w.heap.size + 2, 0, none⟩ = some (.slice none 0 0) := (hR1.set 0 _).cell 0 rfl
    have q1 : ((w1.setCell ⟨w.heap.size + 2, 0, none⟩ (.slice none 0 0)).setCell ⟨w.heap.size + 2, 1, none⟩ (.slice none 0 0)).cell? ⟨w.heap.size + 2, 1, none⟩ = some (.slice none 0 0) := ((hR1.set 0 _).set 1 _).cell 1 rfl
    refine bodyPost_ret (v := .tuple #[.agg #[.slice none 0 0, .slice none 0 0], .int .i64 1]) (by simp [results, Tryd.results29, go_sem, q0, q1]) rfl ⟨.inl ⟨rfl, rfl⟩, ((below_one (below_one (below_one hb1))).setCell (Nat.le_add_right _ 2) _).setCell (Nat.le_add_right _ 2) _⟩
  · cases ho' : okLen h'.length c'.length
    · rw [ho] at HV
      rw [ho'] at HV'
      clear ho ho' hva hvb a1 a2 b1 b2
      go_enter Tryd.func29, Tryd.ntmps29
      go_wp2_with (first | (go_at_call 24; with_reducible refine (HV.out _).mono ?_; rintro e w1 ⟨rfl, hb1⟩; have hX1 := (((Blk.new w _ _).alloc _).alloc _).grows hb1; have hY1 := ((Blk.alloc1 w _ _ _ _).alloc _).grows hb1; have hR1 := (Blk.alloc2 w _ _ _ _).grows hb1; have y0 := hY1.cell 0 rfl; have y1 := hY1.cell 1 rfl) | (go_at_call 24; with_reducible refine (HV'.out _).mono ?_; rintro e w2 ⟨rfl, hb2⟩; have hR2 := hR1.grows hb2; have r0 := hR2.cell 0 rfl; have r1 := hR2.cell 1 rfl; have z0 := hR2.free 0; have z1 := hR2.free 1))
      have q0 : (w2.setCell ⟨w.heap.size + 2, 0, none⟩ (.slice none 0 0)).cell? ⟨w.heap.size + 2, 0, none⟩ = some (.slice none 0 0) := (hR2.set 0 _).cell 0 rfl
      have q1 : ((w2.setCell ⟨w.heap.size + 2, 0, none⟩ (.slice none 0 0)).setCell ⟨w.heap.size + 2, 1, none⟩ (.slice none 0 0)).cell? ⟨w.heap.size + 2, 1, none⟩ = some (.slice none 0 0) := ((hR2.set 0 _).set 1 _).cell 1 rfl
      refine bodyPost_ret (v := .tuple #[.agg #[.slice none 0 0, .slice none 0 0], .int .i64 1]) (by simp [results, Tryd.results29, go_sem, q0, q1]) rfl ⟨.inl ⟨rfl, rfl⟩, ((below_two (below_one (below_one (below_one hb1))) hb2).setCell (Nat.le_add_right _ 2) _).setCell (Nat.le_add_right _ 2) _⟩
    · rw [ho] at HV
      rw [ho'] at HV'
      obtain ⟨hc, hs⟩ := okLen_pos ho
      obtain ⟨hc', hs'⟩ := okLen_pos ho'
      obtain ⟨i0, hi, hz0, hz1, hz2⟩ := info_parts infoBool
      have HA := Lib.hid (fun (k : Nat) (hk : k ≤ 9223372036854775807) W (hW : Below w.heap.size w W) => member_any _ h c k W (hva.grows hW) hc h1 h2 hk)
      have HB := Lib.hid (fun (k : Nat) (hk : k ≤ 9223372036854775807) W (hW : Below w.heap.size w W) => member_any _ h' c' k W (hvb.grows hW) hc' h3 h4 hk)
      have HMu := Lib.hid (fun W => multiple_any c.length c'.length W hc hc' (by omega) (by omega))
      have hm0 := mulOf_pos c.length c'.length hc hc'
      have hml : mulOf c.length c'.length ≤ 512 * 512 := Nat.le_trans (mulOf_le _ _) (Nat.mul_le_mul (by omega) (by omega))
      obtain ⟨F, hF⟩ : ∃ F : Nat → Bool, F = fun n => atL h c n && atL h' c' n := ⟨_, rfl⟩
      have HFr := Lib.hid (show From F (mulOf c.length c'.length) (max h.length h'.length) by
        rw [hF]; exact both_from (fun x y => x && y) (lcm_from (atL_from h c hc) _ (mulOf_left _ _)) (lcm_from (atL_from h' c' hc') _ (mulOf_right _ _)))
      rw [← hF]
      have HF := Lib.hid hF
      generalize mulOf c.length c'.length = m at HMu hm0 hml HFr
      clear ho ho' hva hvb a1 a2 b1 b2 hF
      obtain ⟨H, hH⟩ : ∃ H, max h.length h'.length = H := ⟨_, rfl⟩
      rw [hH] at HFr
      obtain ⟨n, hn⟩ : ∃ n, H + m = n := ⟨_, rfl⟩
      have HRep := Lib.hid (rep_of_fun F H m hm0 HFr.out ((List.range n).map F) (by simp [hn]) (fun j hj => range_getD n F j (by omega)))
      have e0 : max (h.length : Int) (h'.length : Int) = (H : Int) := by omega
      have e1 : (H : Int) + (m : Int) = (n : Int) := by omega
      have hnl : n ≤ 1048576 := by omega
      have HM := Lib.hid (rowB_zero n F)
      clear hn HFr hH
      go_enter Tryd.func29, Tryd.ntmps29
      go_wp2_with (first
        | (go_at_call 24; with_reducible refine (HV.out _).mono ?_; rintro e w1 ⟨rfl, hb1⟩; have X1 := (((Blk.new w _ _).alloc _).alloc _).grows hb1; have Y1 := ((Blk.alloc1 w _ _ _ _).alloc _).grows hb1; have R1 := (Blk.alloc2 w _ _ _ _).grows hb1; have hbw1 := below_one (below_one (below_one hb1)); have y0 := Y1.cell 0 rfl; have y1 := Y1.cell 1 rfl)
        | (go_at_call 24; with_reducible refine (HV'.out _).mono ?_; rintro e w2 ⟨rfl, hb2⟩; have X2 := X1.grows hb2; have Y2 := Y1.grows hb2; have R2 := R1.grows hb2; have hbw2 := below_two hbw1 hb2; have x0 := X2.cell 0 rfl; have x1 := X2.cell 1 rfl; have y2 := Y2.cell 0 rfl; have y3 := Y2.cell 1 rfl)
        | (go_at_call 26; with_reducible refine (HMu.out _).mono ?_; rintro e w3 ⟨rfl, hb3⟩; have X3 := X2.grows hb3; have Y3 := Y2.grows hb3; have R3 := R2.grows hb3; have hbw3 := below_two hbw2 hb3)
        | (at_make; refine wpList_make_row _ rfl _ _ 26 rfl 4 i0 _ Tryd.underlying26 hi hz0 hz1 rfl _ _ n rfl rfl (by rw [hz2]; omega) (by omega) ?_; rw [HM.out]))
      have G4 := Blk.new w3 (rowB n 0 F) 4
      have X4 := X3.alloc (.cells (rowB n 0 F) 4)
      have Y4 := Y3.alloc (.cells (rowB n 0 F) 4)
      have R4 := R3.alloc (.cells (rowB n 0 F) 4)
      have hbw4 := hbw3.alloc hbw3.size (.cells (rowB n 0 F) 4)
      have hgs : w.heap.size + 2 < w3.heap.size := R3.lt
      clear hb1 hb2 hb3 X1 Y1 R1 hbw1 y0 y1 X2 Y2 R2 hbw2 x0 x1 y2 y3 X3 Y3 R3 hbw3
      generalize w3.alloc (.cells (rowB n 0 F) 4) = w4 at G4 X4 Y4 R4 hbw4 ⊢
      generalize w3.heap.size = g at G4 hgs ⊢
      go_loopw [39] (fun i wr => ∃ k : Nat, i = .int .i64 k ∧ k ≤ n ∧ Blk wr g (rowB n k F) 4 ∧ Blk wr w.heap.size #[.slice hp h.length hk, .slice cp c.length ck] 31 ∧ Blk wr (w.heap.size + 1) #[.slice hp' h'.length hk', .slice cp' c'.length ck'] 31 ∧ Blk wr (w.heap.size + 2) #[.slice none 0 0, .slice none 0 0] 31 ∧ Below w.heap.size w wr) (fun i _ => n - (RowKit.intOf i).toNat)
      case atStart => exact ⟨0, rfl, Nat.zero_le _, G4, X4, Y4, R4, hbw4⟩
      case round =>
        clear G4 X4 Y4 R4 hbw4
        obtain ⟨k, rfl, hkn, G, X, Y, R, hbw⟩ := hrel
        by_cases hlt : k < n
        · have HAk := Lib.hid (HA.out k (by omega))
          have HBk := Lib.hid (HB.out k (by omega))
          have hFk : F k = (atL h c k && atL h' c' k) := by rw [HF.out]
          generalize atL h c k = x at HAk hFk
          generalize atL h' c' k = y at HBk hFk
          have HC := Lib.hid (fun W => andB_clo x y W)
          rw [← hFk] at HC
          have HS := Lib.hid (rowB_set n k F)
          generalize hz : F k = z at HC HS
          clear hFk hz
          go_wp2_with fail
          have X0 := X.drew
          have Y0 := Y.drew
          have G0 := G.drew
          have R0 := R.drew
          have hbw0 := hbw.drew
          go_region_held3 (fun W => W.cell? ⟨w.heap.size, 0, none⟩ = some (.slice hp h.length hk) ∧ W.cell? ⟨w.heap.size, 1, none⟩ = some (.slice cp c.length ck) ∧ W.cell? ⟨w.heap.size + 1, 0, none⟩ = some (.slice hp' h'.length hk') ∧ W.cell? ⟨w.heap.size + 1, 1, none⟩ = some (.slice cp' c'.length ck'))
            (first | exact ⟨X0.cell 0 rfl, X0.cell 1 rfl, Y0.cell 0 rfl, Y0.cell 1 rfl⟩ | exact ⟨X1.cell 0 rfl, X1.cell 1 rfl, Y1.cell 0 rfl, Y1.cell 1 rfl⟩ | exact ⟨X2.cell 0 rfl, X2.cell 1 rfl, Y2.cell 0 rfl, Y2.cell 1 rfl⟩ | exact ⟨X3.cell 0 rfl, X3.cell 1 rfl, Y3.cell 0 rfl, Y3.cell 1 rfl⟩ | exact ⟨X4.cell 0 rfl, X4.cell 1 rfl, Y4.cell 0 rfl, Y4.cell 1 rfl⟩)
            (first
              | (go_at_call 32; ((with_reducible refine (HAk.out _ hbw0).mono ?_)); rintro e w1 ⟨rfl, hb1⟩; have X1 := X0.grows hb1; have Y1 := Y0.grows hb1; have G1 := G0.grows hb1; have R1 := R0.grows hb1; have hbw1 := below_two hbw0 hb1)
              | (go_at_call 32; ((with_reducible refine (HBk.out _ hbw1).mono ?_)); rintro e w2 ⟨rfl, hb2⟩; have X2 := X1.grows hb2; have Y2 := Y1.grows hb2; have G2 := G1.grows hb2; have R2 := R1.grows hb2; have hbw2 := below_two hbw1 hb2)
              | (go_at_call 30; ((with_reducible refine (HC.out _).mono ?_)); rintro e w3 ⟨rfl, hb3⟩; have X3 := X2.grows hb3; have Y3 := Y2.grows hb3; have G3 := G2.grows hb3; have R3 := R2.grows hb3; have hbw3 := below_two hbw2 hb3; have s0 := G3.cell k (rowB_get n k F k hlt); have z0 := G3.free k; have X4 := X3.other (a := ⟨g, k, none⟩) (by simp; omega) (.bool z); have Y4 := Y3.other (a := ⟨g, k, none⟩) (by simp; omega) (.bool z)))
          have G4 := (G3.set k (.bool z)).cast HS.out
          have R4 := R3.other (a := ⟨g, k, none⟩) (by simp; omega) (.bool z)
          have hbw4 := hbw3.setCell (p := ⟨g, k, none⟩) (by simp; omega) (.bool z)
          go_wp2
          go_roundw
          case rel => exact ⟨k + 1, by go_num, by omega, G4, X4, Y4, R4, hbw4⟩
          case measure => simp [RowKit.intOf]; omega
        · obtain rfl : k = n := by omega
          have hrd := rowB_reads G
          have hlr : w.heap.size + 2 < wr.heap.size := R.lt
          go_wp2_with (go_at_call 17; ((with_reducible refine (canonical_at g k k ((List.range k).map F) H F wr hrd HRep.out (by simp) (Nat.le_refl _) hnl (by omega)).mono ?_)); rintro e w5 ⟨hres, hb5⟩; obtain ⟨rp, rl, rk, sp, sl, sk, en, rfl⟩ := hres.shape; have R5 := R.grows hb5; have s0 := R5.cell 0 rfl; have s1 := R5.cell 1 rfl; have z0 := R5.free 0; have z1 := R5.free 1)
          have q0 : (w5.setCell ⟨w.heap.size + 2, 0, none⟩ (.slice rp rl rk)).cell? ⟨w.heap.size + 2, 0, none⟩ = some (.slice rp rl rk) := (R5.set 0 _).cell 0 rfl
          have q1 : ((w5.setCell ⟨w.heap.size + 2, 0, none⟩ (.slice rp rl rk)).setCell ⟨w.heap.size + 2, 1, none⟩ (.slice sp sl sk)).cell? ⟨w.heap.size + 2, 1, none⟩ = some (.slice sp sl sk) := ((R5.set 0 _).set 1 _).cell 1 rfl
          refine bodyPost_ret (v := .tuple #[.agg #[.slice rp rl rk, .slice sp sl sk], .int .i64 en]) (by simp [results, Tryd.results29, go_sem, q0, q1]) rfl ⟨((hres.set (p := ⟨w.heap.size + 2, 0, none⟩) hlr _).set (p := ⟨w.heap.size + 2, 1, none⟩) hlr _).mono (by omega), ((below_two hbw hb5).setCell (Nat.le_add_right _ 2) _).setCell (Nat.le_add_right _ 2) _⟩
set_option maxRecDepth 100000 in
set_option maxHeartbeats 1000000 in
theorem and_any (va vb : Value) (h c h' c' : List Bool) (w : World) (hva : IsSet w va h c) (hvb : IsSet w vb h' c') (h1 : h.length ≤ 1152921504606846976) (h2 : c.length ≤ 1152921504606846976) (h3 : h'.length ≤ 1152921504606846976) (h4 : c'.length ≤ 1152921504606846976) :
    Calls Tryd.prog 11 #[va, vb] w fun e w' => OpRes w.heap.size (okLen h.length c.length && okLen h'.length c'.length) (fun n => atL h c n && atL h' c' n) w' e ∧ Below w.heap.size w w' := by
  obtain ⟨hp, hk, cp, ck, rfl, a1, a2⟩ := hva.shape
  obtain ⟨hp', hk', cp', ck', rfl, b1, b2⟩ := hvb.shape
  have HC := Lib.hid (fun W (hW : Below w.heap.size w W) => lcombine_and _ _ h c h' c' W (hva.grows hW) (hvb.grows hW) h1 h2 h3 h4)
  clear hva hvb a1 a2 b1 b2
  generalize (okLen h.length c.length && okLen h'.length c'.length) = ok at HC ⊢
  generalize (fun n => atL h c n && atL h' c' n) = F at HC ⊢
  have hb0 : Below w.heap.size w (((w.alloc (.cells #[.slice hp h.length hk, .slice cp c.length ck] 31)).alloc (.cells #[.slice hp' h'.length hk', .slice cp' c'.length ck'] 31)).alloc (.cells #[.slice none 0 0, .slice none 0 0] 31)) := by go_grown
  have R0 := Blk.alloc2 w (.cells #[.slice hp h.length hk, .slice cp c.length ck] 31) (.cells #[.slice hp' h'.length hk', .slice cp' c'.length ck'] 31) #[.slice none 0 0, .slice none 0 0] 31
  have hlr := R0.lt
  go_enter Tryd.func11, Tryd.ntmps11
  go_wp2_with (go_at_call 29; ((with_reducible refine (HC.out _ hb0).mono ?_)); rintro e w5 ⟨hres, hb5⟩; obtain ⟨rp, rl, rk, sp, sl, sk, en, rfl⟩ := hres.shape; have R5 := R0.grows hb5; have s0 := R5.cell 0 rfl; have s1 := R5.cell 1 rfl; have z0 := R5.free 0; have z1 := R5.free 1)
  have q0 : (w5.setCell ⟨w.heap.size + 2, 0, none⟩ (.slice rp rl rk)).cell? ⟨w.heap.size + 2, 0, none⟩ = some (.slice rp rl rk) := (R5.set 0 _).cell 0 rfl
  have q1 : ((w5.setCell ⟨w.heap.size + 2, 0, none⟩ (.slice rp rl rk)).setCell ⟨w.heap.size + 2, 1, none⟩ (.slice sp sl sk)).cell? ⟨w.heap.size + 2, 1, none⟩ = some (.slice sp sl sk) := ((R5.set 0 _).set 1 _).cell 1 rfl
  refine bodyPost_ret (v := .tuple #[.agg #[.slice rp rl rk, .slice sp sl sk], .int .i64 en]) (by simp [results, Tryd.results11, go_sem, q0, q1]) rfl ⟨((hres.set (p := ⟨w.heap.size + 2, 0, none⟩) hlr _).set (p := ⟨w.heap.size + 2, 1, none⟩) hlr _).mono (by simp; omega), ((below_two hb0 hb5).setCell (Nat.le_add_right _ 2) _).setCell (Nat.le_add_right _ 2) _⟩
end Go.Proofs.YtepncbbegpeilaaDoor
