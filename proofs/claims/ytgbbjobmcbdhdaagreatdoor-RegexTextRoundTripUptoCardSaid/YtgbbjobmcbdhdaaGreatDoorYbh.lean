/-
  Texts of the proof, one behind another: Vc.
-/
import Derived.Test.YtgbbjobmcbdhdaaGreatDoorYbg
import Derived.Lib.QuietBelow
set_option linter.unusedSimpArgs false
set_option linter.unusedVariables false
/-
  Walks: the first error of a node.
-/
namespace Go.Proofs.YtgbbjobmcbdhdaaGreatDoor
open Go.RowKit Go.Lib Go.Sort

def boundsErr (n : Nd) : Int :=
  if n.mn < 0 then 1 else if n.mx < -1 then 1 else if 16 < n.mn then 2 else if 16 < n.mx then 2 else if n.mx = -1 then 0 else if n.mx < n.mn then 1 else 0
def chkR (b : Bool) (n : Nd) : Int := if b = true then 1 else boundsErr n
theorem chkR_yes (n : Nd) : chkR true n = 1 := rfl
theorem chkR_no (n : Nd) : chkR false n = boundsErr n := rfl
/-- an operand is no index below i. -/
def badOp (i j : Int) : Bool := decide (j < 0) || decide (i ≤ j)
def chkN (n : Nd) (i : Int) : Int := if knownB n.k = false ∨ n ≠ usedN n then 1 else chkR ((opsN n).any (badOp i)) n
theorem IsI.shape {w : World} {v : Value} {l : List Int} (h : IsI w v l) : ∃ p cap, v = .slice p l.length cap := by
  rcases h with ⟨rfl, p, cap, rfl⟩ | ⟨blk, off, cap, rfl, _⟩
  · exact ⟨p, cap, rfl⟩
  · exact ⟨_, _, rfl⟩
theorem IsI.at {w : World} {p : Option Addr} {n cap : Nat} {l : List Int} (h : IsI w (.slice p n cap) l) {k : Nat} {y : Int} (hk : l[k]? = some y) : ∃ blk off, p = some ⟨blk, off, none⟩ ∧ w.cell? ⟨blk, off + k, none⟩ = some (.int .i64 y) := by
  rcases h with ⟨rfl, _⟩ | ⟨blk, off, cap, he, hc⟩
  · cases hk
  · simp only [Value.slice.injEq] at he
    exact ⟨blk, off, he.1, hc k y hk⟩
theorem lt_of_cell {w : World} {a : Addr} {v : Value} (h : w.cell? a = some v) : a.block < w.heap.size := by
  rcases Nat.lt_or_ge a.block w.heap.size with hlt | hge
  · exact hlt
  · unfold World.cell? at h; rw [Array.getElem?_eq_none hge] at h; cases h
theorem opsN_len (n : Nd) : (opsN n).length ≤ 2 := by unfold opsN; split <;> (try split) <;> simp

theorem below_drewN {B : Nat} {a b : World} (h : Below B a b) (n : Nat) : Below B a (b.drewN n) := h.trans ⟨rfl, rfl, rfl, Nat.le_refl _, fun _ _ => rfl⟩
theorem known_b (k : Int) (b : Bool) (hb : knownB k = b) (W : World) : Calls Tryz.prog 55 #[.int .i64 k] W fun e W' => e = .returned (.bool b) ∧ Below W.heap.size W W' :=
  (known_any k W).mono fun _ _ ⟨he, hw⟩ => ⟨hb ▸ he, hw ▸ Below.refl _ _⟩
set_option maxRecDepth 100000 in
set_option maxHeartbeats 4000000 in
theorem check_any (n : Nd) (i0 : Int) (W : World) : Calls Tryz.prog 36 #[valN n, .int .i64 i0] W fun e W' => e = .returned (.int .i64 (chkN n i0)) ∧ Below W.heap.size W W' := by
  have hb := Blk.new W #[.int .i64 n.k, .int .u64 (wd n.c 0), .int .u64 (wd n.c 1), .int .u64 (wd n.c 2), .int .u64 (wd n.c 3), .int .i64 n.l, .int .i64 n.r, .int .i64 n.mn, .int .i64 n.mx] 45
  have hB0 : Below W.heap.size W (W.alloc (.cells #[.int .i64 n.k, .int .u64 (wd n.c 0), .int .u64 (wd n.c 1), .int .u64 (wd n.c 2), .int .u64 (wd n.c 3), .int .i64 n.l, .int .i64 n.r, .int .i64 n.mn, .int .i64 n.mx] 45)) := by go_grown
  obtain ⟨x0, x1, x2, x3, x4, x5, x6, x7, x8⟩ := hb.nine
  have HU := Lib.hid (fun d os => Calls.regrown_of (used_any n (grow (redrawn (W.alloc (.cells #[.int .i64 n.k, .int .u64 (wd n.c 0), .int .u64 (wd n.c 1), .int .u64 (wd n.c 2), .int .u64 (wd n.c 3), .int .i64 n.l, .int .i64 n.r, .int .i64 n.mn, .int .i64 n.mx] 45)) d) os)))
  by_cases hk : knownB n.k = false
  · have hx : chkN n i0 = 1 := by unfold chkN; rw [if_pos (.inl hk)]
    rw [hx]
    have HK := Lib.hid (fun W => hk ▸ known_any n.k W)
    clear hk hx
    go_enter Tryz.func36, Tryz.ntmps36
    go_wp2
    go_quiet ((go_at_call 55; exact Calls.quiet_of_same (HK.out _)))
    go_wp2
    go_ret
    exact ⟨rfl, below_drewN hB0 _⟩
  · have hk' : knownB n.k = true := by simpa using hk
    have HK := Lib.hid (fun d os => Calls.regrown_of (known_b n.k true hk' (grow (redrawn (W.alloc (.cells #[.int .i64 n.k, .int .u64 (wd n.c 0), .int .u64 (wd n.c 1), .int .u64 (wd n.c 2), .int .u64 (wd n.c 3), .int .i64 n.l, .int .i64 n.r, .int .i64 n.mn, .int .i64 n.mx] 45)) d) os)))
    have k0 := cell_regrown x0
    have k1 := cell_regrown x1
    have k2 := cell_regrown x2
    have k3 := cell_regrown x3
    have k4 := cell_regrown x4
    have k5 := cell_regrown x5
    have k6 := cell_regrown x6
    have k7 := cell_regrown x7
    have k8 := cell_regrown x8
    clear x0 x1 x2 x3 x4 x5 x6 x7 x8
    by_cases hu : n = usedN n
    · have hE : ∀ w, (Op.equalIn 10000 45 (valN n) (valN (usedN n))).run Tryz.prog w = .ok true w := fun w => by rw [eq_nd, decide_eq_true hu]
      have ho := (fun W => operands_any n W)
      have hl2 := opsN_len n
      have hx : chkN n i0 = chkR ((opsN n).any (badOp i0)) n := by unfold chkN; rw [if_neg (by simp [hk', ← hu])]
      rw [hx]
      clear hx hk hk' hu
      generalize opsN n = l at ho hl2 ⊢
      generalize hX : chkR (l.any (badOp i0)) n = X
      have HX := Lib.hid hX
      have HO := Lib.hid ho
      clear hX ho
      go_enter Tryz.func36, Tryz.ntmps36
      go_wp2
      refine wp_region_quiet_below (by kernel_rfl) (by kernel_rfl) ?_
      repeat (go_big_quiet_step (first | exact HU.out _ _ | exact HK.out _ _))
      refine wpQuiet_nil ?_
      intro _ hw'
      obtain ⟨⟨dq, osq⟩, hw''⟩ := hw'
      subst hw''
      go_wp2_with (go_at_call 57; refine (HO.out _).mono ?_; rintro e W1 ⟨⟨v, rfl, hv, -⟩, hb1⟩; obtain ⟨p, cap, rfl⟩ := hv.shape)
      have hfin : Below W.heap.size W W1 := (hB0.trans ((below_regrown _ dq osq).mono hB0.size)).trans (hb1.mono (hB0.trans ((below_regrown _ dq osq).mono hB0.size)).size)
      have y7 := (hb1.cell (lt_of_cell (k7 dq osq))).trans (k7 dq osq)
      have y8 := (hb1.cell (lt_of_cell (k8 dq osq))).trans (k8 dq osq)
      clear k0 k1 k2 k3 k4 k5 k6 k7 k8 HU HK HO hE hb hB0 hb1
      have HV := Lib.hid hv
      have HF := Lib.hid hfin
      clear hv hfin
      go_loop [20] (fun i => ∃ k : Nat, k ≤ l.length ∧ i = .int .i64 k ∧ (l.take k).any (badOp i0) = false) (fun i => l.length - (RowKit.intOf i).toNat)
      case atStart => exact ⟨0, Nat.zero_le _, rfl, rfl⟩
      case round =>
        obtain ⟨k, hk, rfl, hany⟩ := hrel
        by_cases hlt : k < l.length
        · obtain ⟨y, hy⟩ : ∃ y, l[k]? = some y := ⟨_, List.getElem?_eq_getElem hlt⟩
          obtain ⟨blk, off, rfl, hc⟩ := HV.out.at hy
          have htk : (l.take (k + 1)).any (badOp i0) = badOp i0 y := by rw [List.take_add_one, hy, List.any_append, hany]; simp
          have HT := Lib.hid htk
          clear htk hany
          have hall : badOp i0 y = true → l.any (badOp i0) = true := fun h => List.any_eq_true.2 ⟨y, List.mem_of_getElem? hy, h⟩
          have HALL := Lib.hid hall
          clear hall hy
          by_cases b1 : y < 0
          · have t1 : decide (y < 0) = true := by simp [b1]
            have HB := Lib.hid (HALL.out (by unfold badOp; rw [t1]; rfl))
            go_wp2
            go_ret
            rw [← HX.out, HB.out, chkR_yes]
            exact ⟨rfl, HF.out⟩
          · have t1 : decide (y < 0) = false := by simp; omega
            by_cases b2 : i0 ≤ y
            · have t2 : decide (i0 ≤ y) = true := by simp [b2]
              have HB := Lib.hid (HALL.out (by unfold badOp; rw [t2]; simp))
              go_wp2
              go_ret
              rw [← HX.out, HB.out, chkR_yes]
              exact ⟨rfl, HF.out⟩
            · have t2 : decide (i0 ≤ y) = false := by simp; omega
              have HB := Lib.hid (show badOp i0 y = false by unfold badOp; rw [t1, t2]; rfl)
              go_wp2
              go_round
              case rel => exact ⟨k + 1, by omega, by go_num, by rw [HT.out]; exact HB.out⟩
              case measure => simp [RowKit.intOf]; omega
        · obtain rfl : k = l.length := by omega
          rw [List.take_length] at hany
          have HN := Lib.hid hany
          clear hany hlt hk
          obtain ⟨nk, nc, nl, nr, mn, mx⟩ := n
          by_cases q1 : mn < 0
          · have t1 : decide (mn < 0) = true := by simp [q1]
            have HBE := Lib.hid (show boundsErr ⟨nk, nc, nl, nr, mn, mx⟩ = 1 from by simp only [boundsErr, if_pos q1])
            go_wp2
            go_ret
            rw [← HX.out, HN.out, chkR_no, HBE.out]
            exact ⟨rfl, HF.out⟩
          have t1 : decide (mn < 0) = false := by simp; omega
          by_cases q2 : mx < -1
          · have t2 : decide (mx < -1) = true := by simp [q2]
            have HBE := Lib.hid (show boundsErr ⟨nk, nc, nl, nr, mn, mx⟩ = 1 from by simp only [boundsErr, if_neg q1, if_pos q2])
            go_wp2
            go_ret
            rw [← HX.out, HN.out, chkR_no, HBE.out]
            exact ⟨rfl, HF.out⟩
          have t2 : decide (mx < -1) = false := by simp; omega
          by_cases q3 : 16 < mn
          · have t3 : decide (16 < mn) = true := by simp [q3]
            have HBE := Lib.hid (show boundsErr ⟨nk, nc, nl, nr, mn, mx⟩ = 2 from by simp only [boundsErr, if_neg q1, if_neg q2, if_pos q3])
            go_wp2
            go_ret
            rw [← HX.out, HN.out, chkR_no, HBE.out]
            exact ⟨rfl, HF.out⟩
          have t3 : decide (16 < mn) = false := by simp; omega
          by_cases q4 : 16 < mx
          · have t4 : decide (16 < mx) = true := by simp [q4]
            have HBE := Lib.hid (show boundsErr ⟨nk, nc, nl, nr, mn, mx⟩ = 2 from by simp only [boundsErr, if_neg q1, if_neg q2, if_neg q3, if_pos q4])
            go_wp2
            go_ret
            rw [← HX.out, HN.out, chkR_no, HBE.out]
            exact ⟨rfl, HF.out⟩
          have t4 : decide (16 < mx) = false := by simp; omega
          by_cases q5 : mx = -1
          · have t5 : (mx != -1) = false := by simp [q5]
            have HBE := Lib.hid (show boundsErr ⟨nk, nc, nl, nr, mn, mx⟩ = 0 from by simp only [boundsErr, if_neg q1, if_neg q2, if_neg q3, if_neg q4, if_pos q5])
            go_wp2
            go_ret
            rw [← HX.out, HN.out, chkR_no, HBE.out]
            exact ⟨rfl, HF.out⟩
          have t5 : (mx != -1) = true := by simp [q5]
          by_cases q6 : mx < mn
          · have t6 : decide (mx < mn) = true := by simp [q6]
            have HBE := Lib.hid (show boundsErr ⟨nk, nc, nl, nr, mn, mx⟩ = 1 from by simp only [boundsErr, if_neg q1, if_neg q2, if_neg q3, if_neg q4, if_neg q5, if_pos q6])
            go_wp2
            go_ret
            rw [← HX.out, HN.out, chkR_no, HBE.out]
            exact ⟨rfl, HF.out⟩
          have t6 : decide (mx < mn) = false := by simp; omega
          have HBE := Lib.hid (show boundsErr ⟨nk, nc, nl, nr, mn, mx⟩ = 0 from by simp only [boundsErr, if_neg q1, if_neg q2, if_neg q3, if_neg q4, if_neg q5, if_neg q6])
          go_wp2
          go_ret
          rw [← HX.out, HN.out, chkR_no, HBE.out]
          exact ⟨rfl, HF.out⟩
    · have hE : ∀ w, (Op.equalIn 10000 45 (valN n) (valN (usedN n))).run Tryz.prog w = .ok false w := fun w => by rw [eq_nd, decide_eq_false hu]
      have hx : chkN n i0 = 1 := by unfold chkN; rw [if_pos (.inr hu)]
      rw [hx]
      clear hx hk hk' hu
      go_enter Tryz.func36, Tryz.ntmps36
      go_wp2
      refine wp_region_quiet_below (by kernel_rfl) (by kernel_rfl) ?_
      repeat (go_big_quiet_step (first | exact HU.out _ _ | exact HK.out _ _))
      refine wpQuiet_nil ?_
      intro _ hw'
      obtain ⟨⟨dq, osq⟩, hw''⟩ := hw'
      subst hw''
      go_wp2
      go_ret
      exact ⟨rfl, hB0.trans ((below_regrown _ dq osq).mono hB0.size)⟩
end Go.Proofs.YtgbbjobmcbdhdaaGreatDoor
