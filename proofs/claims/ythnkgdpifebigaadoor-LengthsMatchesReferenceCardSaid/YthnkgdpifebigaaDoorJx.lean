/-
  Walks: the reference's Least, Canon, And, Or, Sum; the law on the reference.
-/
import Derived.Test.YthnkgdpifebigaaDoorLe
import Derived.Test.YthnkgdpifebigaaDoorRv
import Derived.Test.YthnkgdpifebigaaDoorSt
import Derived.Test.YthnkgdpifebigaaDoorRc
import Derived.Test.YthnkgdpifebigaaDoorLs
import Derived.Test.YthnkgdpifebigaaDoorLa
set_option linter.unusedSimpArgs false
set_option linter.unusedVariables false
namespace Go.Proofs.YthnkgdpifebigaaDoor
open Go.RowKit

theorem rleastS_loop (hh c : List Bool) (n : Int) (ho : okLen hh.length c.length = true) (hn : n ≤ 1099511627776) (hi : (-9223372036854775808 : Int) ≤ n) (w : World) (hp : Option Addr) (hk : Nat) (cp : Option Addr) (ck : Nat)
    (hv : IsSet w (.agg #[.slice hp hh.length hk, .slice cp c.length ck]) hh c) :
    Calls Tryd.prog 22 #[.agg #[.slice hp hh.length hk, .slice cp c.length ck], .int .i64 n] w fun e w' => e = .returned (.int .i64 (leastS hh c n)) ∧ Below w.heap.size w w' := by
  obtain ⟨hc, hs⟩ := okLen_pos ho
  have HV := Lib.hid (fun W => (ho ▸ rvalid_any hp cp hh.length hk c.length ck W (by omega) (by omega)))
  have HM := Lib.hid (fun (k : Nat) (hk : k ≤ 9223372036854775807) W (hW : Below w.heap.size w W) => at_any _ hh c k W (hv.grows hW) hc (by omega) (by omega) hk)
  have HE := Lib.hid (show leastS hh c n = firstFrom (atL hh c) n.toNat (max n.toNat hh.length + c.length - n.toNat) by unfold leastS; rw [ho, decide_eq_true hn]; rfl)
  clear hv ho
  obtain ⟨k0, hk0⟩ : ∃ k0, n.toNat = k0 := ⟨_, rfl⟩
  rw [hk0] at HE
  obtain ⟨e, he⟩ : ∃ e, max k0 hh.length + c.length = e := ⟨_, rfl⟩
  rw [he] at HE
  have hle : k0 ≤ e := by omega
  have h1 : decide (n > 1099511627776) = false := by simp; omega
  have hnk : n = (k0 : Int) ∨ (n < 0 ∧ k0 = 0) := by omega
  have hk1 : k0 ≤ 1099511627776 := by omega
  clear hk0
  have hsz : w.heap.size + 1 ≤ w.heap.size + 1 := Nat.le_refl _
  rcases hnk with rfl | ⟨hneg, hk00⟩
  all_goals
    go_enter Tryd.func22, Tryd.ntmps22
    go_wp2_with (go_at_call 18; refine (HV.out _).mono ?_; rintro e1 w1 ⟨rfl, hb1⟩; have hB1 := (Blk.new w _ _).grows hb1; have c0 := hB1.cell 0 rfl; have c1 := hB1.cell 1 rfl; have hbw := below_one hb1)
  all_goals
    go_loopw [5] (fun i wr => ∃ k : Nat, i = .int .i64 k ∧ k0 ≤ k ∧ k ≤ e ∧ firstFrom (atL hh c) k0 (e - k0) = firstFrom (atL hh c) k (e - k) ∧ Blk wr w.heap.size #[.slice hp hh.length hk, .slice cp c.length ck] 24 ∧ Below w.heap.size w wr) (fun i _ => e - (intOf i).toNat)
    case atStart => exact ⟨k0, by first | rfl | (rw [hk00]; rfl) | (rw [hk00]; congr 1; omega), Nat.le_refl _, hle, rfl, hB1, hbw⟩
    case round =>
      clear c0 c1 hB1 hbw hb1
      obtain ⟨k, rfl, hk0, hke, hfirst, hB, hbr⟩ := hrel
      have c0 := hB.cell 0 rfl
      have c1 := hB.cell 1 rfl
      have HF := Lib.hid hfirst
      clear hfirst
      by_cases hlt : k < e
      · have HMk := Lib.hid (HM.out k (by omega))
        cases hb : atL hh c k
        · rw [hb] at HMk
          have HN := Lib.hid (firstFrom_no (atL hh c) k (e - k) (by omega) hb)
          clear hb
          go_wp2_with (go_at_call 37; refine (HMk.out _ hbr).mono ?_; rintro e2 w2 ⟨rfl, hb2⟩)
          all_goals
            go_roundw
            case rel => exact ⟨k + 1, by go_num, by omega, by omega, by rw [HF.out, HN.out, Nat.sub_sub], hB.grows hb2, below_two hbr hb2⟩
            case measure => simp [intOf]; omega
        · rw [hb] at HMk
          have HY := Lib.hid (firstFrom_yes (atL hh c) k (e - k) (by omega) hb)
          clear hb
          go_wp2_with (go_at_call 37; refine (HMk.out _ hbr).mono ?_; rintro e2 w2 ⟨rfl, hb2⟩)
          all_goals
            go_ret
            exact ⟨ret_int (by rw [HE.out, HF.out, HY.out]), below_two hbr hb2⟩
      · obtain rfl : k = e := by omega
        go_wp2
        all_goals
          go_ret
          exact ⟨ret_int (by rw [HE.out, HF.out, Nat.sub_self]; rfl), hbr⟩

set_option maxHeartbeats 400000 in
theorem rleast_any (v : Value) (h c : List Bool) (n : Int) (w : World) (hv : IsSet w v h c) (h1 : h.length ≤ 1152921504606846976) (h2 : c.length ≤ 1152921504606846976) (hi : (-9223372036854775808 : Int) ≤ n) :
    Calls Tryd.prog 22 #[v, .int .i64 n] w fun e w' => e = .returned (.int .i64 (leastS h c n)) ∧ Below w.heap.size w w' := by
  obtain ⟨hp, hk, cp, ck, rfl, a1, a2⟩ := hv.shape
  cases ho : okLen h.length c.length
  · have HV := Lib.hid (fun W => ho ▸ rvalid_any hp cp h.length hk c.length ck W h1 h2)
    have HE := Lib.hid (show -1 = leastS h c n by unfold leastS; rw [ho]; rfl)
    clear ho hv a1 a2
    go_enter Tryd.func22, Tryd.ntmps22
    go_wp2_with (go_at_call 18; refine (HV.out _).mono ?_; rintro e w1 ⟨rfl, hb1⟩)
    go_ret
    exact ⟨ret_int HE.out, below_one hb1⟩
  · by_cases hn : n ≤ 1099511627776
    · exact rleastS_loop h c n ho hn hi w hp hk cp ck hv
    · have HV := Lib.hid (fun W => ho ▸ rvalid_any hp cp h.length hk c.length ck W h1 h2)
      have HE := Lib.hid (show -1 = leastS h c n by unfold leastS; rw [ho, decide_eq_false hn]; rfl)
      have hn1 : decide (n > 1099511627776) = true := by simpa using hn
      clear ho hv a1 a2
      go_enter Tryd.func22, Tryd.ntmps22
      go_wp2_with (go_at_call 18; refine (HV.out _).mono ?_; rintro e w1 ⟨rfl, hb1⟩)
      go_ret
      exact ⟨ret_int HE.out, below_one hb1⟩
end Go.Proofs.YthnkgdpifebigaaDoor
namespace Go.Proofs.YthnkgdpifebigaaDoor
open Go.RowKit Go.Lib

theorem allShort : AllShort := fun v h c _ hv hc hl W hW => shortest_any v h c W (hv.grows hW) hc hl
theorem rcanon_any (v : Value) (h c : List Bool) (w : World) (hv : IsSet w v h c) (h1 : h.length ≤ 1152921504606846976) (h2 : c.length ≤ 1152921504606846976) :
    Calls Tryd.prog 15 #[v] w fun e w' => OpRes w.heap.size (okLen h.length c.length) (atL h c) w' e ∧ Below w.heap.size w w' :=
  rcanon_of v h c w hv h1 h2 fun ho => allShort v h c w hv (okLen_pos ho).1 (by have := (okLen_pos ho).2; omega)
set_option maxRecDepth 100000 in
set_option maxHeartbeats 1000000 in
theorem rand_any (va vb : Value) (h c h' c' : List Bool) (w : World) (hva : IsSet w va h c) (hvb : IsSet w vb h' c') (ho : okLen h.length c.length = true) (ho' : okLen h'.length c'.length = true) :
    Calls Tryd.prog 24 #[va, vb] w fun e w' => OpRes w.heap.size true (fun n => atL h c n && atL h' c' n) w' e ∧ Below w.heap.size w w' := by
  obtain ⟨hp, hk, cp, ck, rfl, a1, a2⟩ := hva.shape
  obtain ⟨hp', hk', cp', ck', rfl, b1, b2⟩ := hvb.shape
  have HC := Lib.hid (fun W (hW : Below w.heap.size w W) => rcombined_and _ _ h c h' c' W (hva.grows hW) (hvb.grows hW) ho ho' allShort)
  clear hva hvb a1 a2 b1 b2 ho ho'
  generalize (fun n => atL h c n && atL h' c' n) = F at HC ⊢
  have hb0 : Below w.heap.size w (((w.alloc (.cells #[.slice hp h.length hk, .slice cp c.length ck] 24)).alloc (.cells #[.slice hp' h'.length hk', .slice cp' c'.length ck'] 24)).alloc (.cells #[.slice none 0 0, .slice none 0 0] 24)) := by go_grown
  have R0 := Blk.alloc2 w (.cells #[.slice hp h.length hk, .slice cp c.length ck] 24) (.cells #[.slice hp' h'.length hk', .slice cp' c'.length ck'] 24) #[.slice none 0 0, .slice none 0 0] 24
  have hlr := R0.lt
  go_enter Tryd.func24, Tryd.ntmps24
  go_wp2_with (go_at_call 40; ((with_reducible refine (HC.out _ hb0).mono ?_)); rintro e w5 ⟨hres, hb5⟩; obtain ⟨rp, rl, rk, sp, sl, sk, en, rfl⟩ := hres.shape; have R5 := R0.grows hb5; have s0 := R5.cell 0 rfl; have s1 := R5.cell 1 rfl; have z0 := R5.free 0; have z1 := R5.free 1)
  have q0 : (w5.setCell ⟨w.heap.size + 2, 0, none⟩ (.slice rp rl rk)).cell? ⟨w.heap.size + 2, 0, none⟩ = some (.slice rp rl rk) := (R5.set 0 _).cell 0 rfl
  have q1 : ((w5.setCell ⟨w.heap.size + 2, 0, none⟩ (.slice rp rl rk)).setCell ⟨w.heap.size + 2, 1, none⟩ (.slice sp sl sk)).cell? ⟨w.heap.size + 2, 1, none⟩ = some (.slice sp sl sk) := ((R5.set 0 _).set 1 _).cell 1 rfl
  refine bodyPost_ret (v := .tuple #[.agg #[.slice rp rl rk, .slice sp sl sk], .int .i64 en]) (by simp [results, Tryd.results24, go_sem, q0, q1]) rfl ⟨((hres.set (p := ⟨w.heap.size + 2, 0, none⟩) hlr _).set (p := ⟨w.heap.size + 2, 1, none⟩) hlr _).mono (by simp; omega), ((below_two hb0 hb5).setCell (Nat.le_add_right _ 2) _).setCell (Nat.le_add_right _ 2) _⟩
set_option maxRecDepth 100000 in
set_option maxHeartbeats 1000000 in
theorem ror_any (va vb : Value) (h c h' c' : List Bool) (w : World) (hva : IsSet w va h c) (hvb : IsSet w vb h' c') (ho : okLen h.length c.length = true) (ho' : okLen h'.length c'.length = true) :
    Calls Tryd.prog 26 #[va, vb] w fun e w' => OpRes w.heap.size true (fun n => atL h c n || atL h' c' n) w' e ∧ Below w.heap.size w w' := by
  obtain ⟨hp, hk, cp, ck, rfl, a1, a2⟩ := hva.shape
  obtain ⟨hp', hk', cp', ck', rfl, b1, b2⟩ := hvb.shape
  have HC := Lib.hid (fun W (hW : Below w.heap.size w W) => rcombined_or _ _ h c h' c' W (hva.grows hW) (hvb.grows hW) ho ho' allShort)
  clear hva hvb a1 a2 b1 b2 ho ho'
  generalize (fun n => atL h c n || atL h' c' n) = F at HC ⊢
  have hb0 : Below w.heap.size w (((w.alloc (.cells #[.slice hp h.length hk, .slice cp c.length ck] 24)).alloc (.cells #[.slice hp' h'.length hk', .slice cp' c'.length ck'] 24)).alloc (.cells #[.slice none 0 0, .slice none 0 0] 24)) := by go_grown
  have R0 := Blk.alloc2 w (.cells #[.slice hp h.length hk, .slice cp c.length ck] 24) (.cells #[.slice hp' h'.length hk', .slice cp' c'.length ck'] 24) #[.slice none 0 0, .slice none 0 0] 24
  have hlr := R0.lt
  go_enter Tryd.func26, Tryd.ntmps26
  go_wp2_with (go_at_call 40; ((with_reducible refine (HC.out _ hb0).mono ?_)); rintro e w5 ⟨hres, hb5⟩; obtain ⟨rp, rl, rk, sp, sl, sk, en, rfl⟩ := hres.shape; have R5 := R0.grows hb5; have s0 := R5.cell 0 rfl; have s1 := R5.cell 1 rfl; have z0 := R5.free 0; have z1 := R5.free 1)
  have q0 : (w5.setCell ⟨w.heap.size + 2, 0, none⟩ (.slice rp rl rk)).cell? ⟨w.heap.size + 2, 0, none⟩ = some (.slice rp rl rk) := (R5.set 0 _).cell 0 rfl
  have q1 : ((w5.setCell ⟨w.heap.size + 2, 0, none⟩ (.slice rp rl rk)).setCell ⟨w.heap.size + 2, 1, none⟩ (.slice sp sl sk)).cell? ⟨w.heap.size + 2, 1, none⟩ = some (.slice sp sl sk) := ((R5.set 0 _).set 1 _).cell 1 rfl
  refine bodyPost_ret (v := .tuple #[.agg #[.slice rp rl rk, .slice sp sl sk], .int .i64 en]) (by simp [results, Tryd.results26, go_sem, q0, q1]) rfl ⟨((hres.set (p := ⟨w.heap.size + 2, 0, none⟩) hlr _).set (p := ⟨w.heap.size + 2, 1, none⟩) hlr _).mono (by simp; omega), ((below_two hb0 hb5).setCell (Nat.le_add_right _ 2) _).setCell (Nat.le_add_right _ 2) _⟩
end Go.Proofs.YthnkgdpifebigaaDoor
namespace Go.Proofs.YthnkgdpifebigaaDoor
open Go.RowKit Go.Lib

theorem mulOf_dvd (a b : Nat) : mulOf a b ∣ a * b := ⟨Nat.gcd a b, by
  unfold mulOf
  rw [Nat.mul_right_comm, Nat.div_mul_cancel (Nat.gcd_dvd_left a b)]⟩
theorem sum_from {h c h' c' : List Bool} {P N : Nat} (hc : 0 < c.length) (hc' : 0 < c'.length) (hP : c.length * c'.length = P) (hN : h.length + h'.length + P = N) : From (sumB (atL h c) (atL h' c')) P N := by
  subst hP; subst hN
  exact (lcm_from (sum_per hc hc') _ (mulOf_dvd _ _)).mono (by have := mulOf_le c.length c'.length; omega)
theorem sum_yes {f g : Nat → Bool} {n i : Nat} (h : partS f g n i = true) (hi : i ≤ n + 1) : sumB f g n = true := by
  rw [← partS_all]
  unfold partS at h ⊢
  rw [List.any_eq_true] at h ⊢
  obtain ⟨x, hx, he⟩ := h
  exact ⟨x, by rw [List.mem_range] at hx ⊢; omega, he⟩
set_option maxRecDepth 100000 in
set_option maxHeartbeats 8000000 in
theorem rsum_of (va vb : Value) (h c h' c' : List Bool) (w : World) (hva : IsSet w va h c) (hvb : IsSet w vb h' c') (ho : okLen h.length c.length = true) (ho' : okLen h'.length c'.length = true) (hAS : AllShort) :
    Calls Tryd.prog 28 #[va, vb] w fun e w' => OpRes w.heap.size true (sumB (atL h c) (atL h' c')) w' e ∧ Below w.heap.size w w' := by
  obtain ⟨hp, hk, cp, ck, rfl, a1, a2⟩ := hva.shape
  obtain ⟨hp', hk', cp', ck', rfl, b1, b2⟩ := hvb.shape
  obtain ⟨hc, hs⟩ := okLen_pos ho
  obtain ⟨hc', hs'⟩ := okLen_pos ho'
  obtain ⟨i0, hi, hz0, hz1, hz2⟩ := info_parts infoBool
  have HV := Lib.hid (fun W => ho ▸ rvalid_any hp cp h.length hk c.length ck W (by omega) (by omega))
  have HV' := Lib.hid (fun W => ho' ▸ rvalid_any hp' cp' h'.length hk' c'.length ck' W (by omega) (by omega))
  have HAA := Lib.hid (fun (k : Nat) (hk : k ≤ 9223372036854775807) W (hW : Below w.heap.size w W) => at_any _ h c k W (hva.grows hW) hc (by omega) (by omega) hk)
  have HBB := Lib.hid (fun (k : Nat) (hk : k ≤ 9223372036854775807) W (hW : Below w.heap.size w W) => at_any _ h' c' k W (hvb.grows hW) hc' (by omega) (by omega) hk)
  obtain ⟨F, hF⟩ : ∃ F : Nat → Bool, F = sumB (atL h c) (atL h' c') := ⟨_, rfl⟩
  obtain ⟨P, hP⟩ : ∃ P, c.length * c'.length = P := ⟨_, rfl⟩
  obtain ⟨K, hK⟩ : ∃ K, h.length + h'.length = K := ⟨_, rfl⟩
  obtain ⟨N, hN⟩ : ∃ N, K + P = N := ⟨_, rfl⟩
  obtain ⟨T, hT⟩ : ∃ T, N + P = T := ⟨_, rfl⟩
  have HFr := Lib.hid (show From F P N by rw [hF]; exact sum_from hc hc' hP (by omega))
  have hP0 : 0 < P := by rw [← hP]; exact Nat.mul_pos hc hc'
  have hPl : P ≤ 512 * 512 := by rw [← hP]; exact Nat.mul_le_mul (by omega) (by omega)
  have hNl : N ≤ 512 * 512 + 1024 := by omega
  have e0 : (h.length : Int) + (h'.length : Int) = (K : Int) := by omega
  have e3 : (K : Int) + (P : Int) = (N : Int) := by omega
  have e1 : (N : Int) + (P : Int) = (T : Int) := by omega
  have e2 : (c.length : Int) * (c'.length : Int) = (P : Int) := by rw [← hP]; exact (Int.natCast_mul _ _).symm
  have hTl : T ≤ 1048576 := by omega
  rw [← hF]
  have HF := Lib.hid hF
  have HT := Lib.hid hT
  clear ho ho' hva hvb a1 a2 b1 b2 hF hP hN hT hK
  have X := ((Blk.new w #[.slice hp h.length hk, .slice cp c.length ck] 24).alloc (.cells #[.slice hp' h'.length hk', .slice cp' c'.length ck'] 24)).alloc (.cells #[.slice none 0 0, .slice none 0 0] 24)
  have Y := (Blk.alloc1 w #[.slice hp h.length hk, .slice cp c.length ck] #[.slice hp' h'.length hk', .slice cp' c'.length ck'] 24 24).alloc (.cells #[.slice none 0 0, .slice none 0 0] 24)
  have R := Blk.alloc2 w (.cells #[.slice hp h.length hk, .slice cp c.length ck] 24) (.cells #[.slice hp' h'.length hk', .slice cp' c'.length ck'] 24) #[.slice none 0 0, .slice none 0 0] 24
  have hbw : Below w.heap.size w (((w.alloc (.cells #[.slice hp h.length hk, .slice cp c.length ck] 24)).alloc (.cells #[.slice hp' h'.length hk', .slice cp' c'.length ck'] 24)).alloc (.cells #[.slice none 0 0, .slice none 0 0] 24)) := by go_grown
  go_enter Tryd.func28, Tryd.ntmps28
  go_wp2_with (go_at_call 18; first
    | ((with_reducible refine (HV.out _).mono ?_); rintro e w1 ⟨rfl, hb1⟩; have X := X.grows hb1; have Y := Y.grows hb1; have R := R.grows hb1; have hbw := below_two hbw hb1; have xc0 := X.cell 0 rfl; have xc1 := X.cell 1 rfl; have yc0 := Y.cell 0 rfl; have yc1 := Y.cell 1 rfl)
    | ((with_reducible refine (HV'.out _).mono ?_); rintro e w2 ⟨rfl, hb2⟩; have X := X.grows hb2; have Y := Y.grows hb2; have R := R.grows hb2; have hbw := below_two hbw hb2; clear xc0 xc1 yc0 yc1; have xc0 := X.cell 0 rfl; have xc1 := X.cell 1 rfl; have yc0 := Y.cell 0 rfl; have yc1 := Y.cell 1 rfl))
  have X2 := X.alloc (.cells #[.slice none 0 0, .slice none 0 0] 24)
  have Y2 := Y.alloc (.cells #[.slice none 0 0, .slice none 0 0] 24)
  have R2 := R.alloc (.cells #[.slice none 0 0, .slice none 0 0] 24)
  have D2 := Blk.new w2 #[.slice none 0 0, .slice none 0 0] 24
  have hbw2 := hbw.alloc hbw.size (.cells #[.slice none 0 0, .slice none 0 0] 24)
  have hsz := R.lt
  obtain ⟨B, hBe⟩ : ∃ B, w2.heap.size + 1 = B := ⟨_, rfl⟩
  have hB2 : B ≤ (w2.alloc (.cells #[.slice none 0 0, .slice none 0 0] 24)).heap.size := by simp; omega
  have hDB : w2.heap.size < B := by omega
  clear hBe X Y R hbw xc0 xc1 yc0 yc1
  generalize w2.alloc (.cells #[.slice none 0 0, .slice none 0 0] 24) = w7 at X2 Y2 R2 D2 hbw2 hB2 ⊢
  generalize w2.heap.size = D at D2 hDB hsz ⊢
  have O0 := World.ownsRow_nil w7 B 4 1
  try simp only [e0, e1, e2, e3]
  go_loopw [9] (fun i wr => ∃ (M : Nat) (u0 u1 : Value), i = .int .i64 (M : Int) ∧ M ≤ T ∧ Blk wr w.heap.size #[.slice hp h.length hk, .slice cp c.length ck] 24 ∧ Blk wr (w.heap.size + 1) #[.slice hp' h'.length hk', .slice cp' c'.length ck'] 24 ∧ Blk wr (w.heap.size + 2) #[.slice none 0 0, .slice none 0 0] 24 ∧ Blk wr D #[u0, u1] 24 ∧
      wr.ownsRow B 4 1 u0 (min M N) (((List.range (min M N)).map F).map Value.bool) ∧ wr.ownsRow B 4 1 u1 (M - N) (((List.range (M - N)).map fun i => F (N + i)).map Value.bool) ∧ Apart u0 u1 ∧ B ≤ wr.heap.size ∧ Below w.heap.size w wr) (fun i _ => T - (RowKit.intOf i).toNat)
  case atStart => exact ⟨0, _, _, rfl, by omega, X2, Y2, R2, D2, own_cast O0 (by omega) (by rw [Nat.zero_min]; rfl), own_cast O0 (by omega) (by rw [Nat.zero_sub]; rfl), apart_nil _, hB2, hbw2⟩
  case round =>
    clear X2 Y2 R2 D2 O0 hB2 hbw2
    obtain ⟨M, u0, u1, rfl, hM, X, Y, R, DD, O0, O1, hap, hB, hbw⟩ := hrel
    obtain ⟨p0, k0, rfl⟩ := own_shape O0
    obtain ⟨p1, k1, rfl⟩ := own_shape O1
    by_cases hlt : M < T
    · obtain ⟨wo, hwo⟩ : ∃ wo, wo = wr := ⟨_, rfl⟩
      subst hwo
      go_wp2_with fail
      go_loopw [10, 11] (fun s i wq => ∃ (j : Nat) (b : Bool), s = .bool b ∧ i = .int .i64 (j : Int) ∧ j ≤ M + 1 ∧ partS (atL h c) (atL h' c') M j = b ∧ Below wo.heap.size wo wq) (fun _ i _ => M + 1 - (RowKit.intOf i).toNat)
      case atStart => exact ⟨0, false, rfl, rfl, by omega, rfl, Below.refl _ _⟩
      case round =>
        obtain ⟨j, b, rfl, rfl, hjl, hpart, hb5⟩ := hrel
        obtain ⟨w5, hw5⟩ : ∃ w5, w5 = wr := ⟨_, rfl⟩
        subst hw5
        cases b
        · by_cases hj : j ≤ M
          · have hbq := below_two hbw hb5
            have hbo := hb5
            have X6 := X.grows hb5
            have Y6 := Y.grows hb5
            have xc0 := X6.cell 0 rfl
            have xc1 := X6.cell 1 rfl
            obtain ⟨Q, hQ⟩ : ∃ Q : Nat, (M : Int) - (j : Int) = (Q : Int) := ⟨M - j, by omega⟩
            have hQn : M - j = Q := by omega
            have HA := Lib.hid (HAA.out j (by omega))
            have HB := Lib.hid (HBB.out Q (by omega))
            have HS := Lib.hid (partS_succ (atL h c) (atL h' c') M j)
            rw [hpart, hQn] at HS
            clear hQn hpart
            cases hx : atL h c j <;> cases hy : atL h' c' Q
            all_goals
              rw [hx] at HA
              rw [hy] at HB
              rw [hx, hy] at HS
              clear hx hy
              go_wp2_with (first | (go_at_call 37; ((with_reducible refine (HA.out _ hbq).mono ?_)); rintro e w6 ⟨rfl, hb6⟩; have hbq := below_two hbq hb6; have hbo := below_two hbo hb6; have Y6 := Y6.grows hb6; have yc0 := Y6.cell 0 rfl; have yc1 := Y6.cell 1 rfl) | (go_at_call 37; ((with_reducible refine (HB.out _ hbq).mono ?_)); rintro e w6 ⟨rfl, hb6⟩; have hbq := below_two hbq hb6; have hbo := below_two hbo hb6; have Y6 := Y6.grows hb6; have yc0 := Y6.cell 0 rfl; have yc1 := Y6.cell 1 rfl))
              go_roundw
              case rel => exact ⟨j + 1, _, rfl, by go_num, by omega, HS.out, hbo⟩
              case measure => simp [RowKit.intOf]; omega
          · have HFM := Lib.hid (show F M = false by rw [HF.out, ← partS_all, ← hpart]; congr 1; omega)
            have X := X.grows hb5
            have Y := Y.grows hb5
            have R := R.grows hb5
            have DD := DD.grows hb5
            have hB := Nat.le_trans hB hb5.size
            have hbw := below_two hbw hb5
            have O0 := own_below O0 hb5
            have O1 := own_below O1 hb5
            by_cases hlo : M < N
            · have hm1 : min M N = M := by omega
              have hm2 : min (M + 1) N = M + 1 := by omega
              have hm3 : M + 1 - N = 0 := by omega
              have hm4 : M - N = 0 := by omega
              rw [hm1] at O0 DD hap
              rw [hm4] at O1 DD hap
              have HO0 := Lib.hid O0
              have HO1 := Lib.hid O1
              have HSn := Lib.hid (show ((List.range (M + 1)).map F).map Value.bool = ((List.range M).map F).map Value.bool ++ [Value.bool false] by rw [range_snocR, List.map_append, HFM.out]; rfl)
              clear hm1 hm4
              have HAp := Lib.hid hap
              have xc0 := X.cell 0 rfl
              have xc1 := X.cell 1 rfl
              have yc0 := Y.cell 0 rfl
              have yc1 := Y.cell 1 rfl
              have dc0 := DD.cell 0 rfl
              have dc1 := DD.cell 1 rfl
              have df0 := DD.free 0
              have df1 := DD.free 1
              have dl := DD.lt
              clear O0 O1 hap

              have hw5 : D < w5.heap.size := DD.lt
              go_wp2_with (at_builtin; refine wpList_append_own_at _ rfl _ _ 22 rfl B 4 i0 _ 1 1 Tryd.underlying22 hi hz0 hz1 hz2 rfl (by decide) _ _ _ rfl (own_alloc HO0.out _) ⟨w5.heap.size, 0, none⟩ 1 1 [.bool false] rfl rfl (cells_newB _ _ _ _ rfl) (bool_one false) (by unfold maxLen; omega) (by omega) (by simp; omega) ?_; intro v' w6 hown2 hgrow _ hat; obtain ⟨p6, k6, rfl⟩ := own_shape hown2; have D7 := (DD.alloc (.cells #[.bool false] 4)).grownBy hgrow (fun g e => by have := own_ge HO0.out g e; omega); have q0 := D7.cell 0 rfl; have f6 := D7.free 0)
              all_goals
                have hat2 := hat
                go_roundw
                case rel => exact ⟨M + 1, _, _, by go_num, by omega,
                  ((X.alloc (.cells #[.bool false] 4)).grownBy hgrow (fun g e => by have := own_ge HO0.out g e; omega)).other (by show w.heap.size ≠ D; omega) _,
                  ((Y.alloc (.cells #[.bool false] 4)).grownBy hgrow (fun g e => by have := own_ge HO0.out g e; omega)).other (by show w.heap.size + 1 ≠ D; omega) _,
                  ((R.alloc (.cells #[.bool false] 4)).grownBy hgrow (fun g e => by have := own_ge HO0.out g e; omega)).other (by show w.heap.size + 2 ≠ D; omega) _,
                  D7.set 0 _,
                  by rw [hm2, HSn.out]; exact own_set (p := ⟨D, 0, none⟩) hown2 hDB _,
                  by rw [hm3]; exact own_set (p := ⟨D, 0, none⟩) (own_grown (own_alloc HO1.out _) hgrow (fun g e1 e2 => HAp.out g e1 e2)) hDB _,
                  apart_new (W := w5) (o := .cells #[.bool false] 4) HAp.out hat2 HO1.out,
                  by have h7 := hgrow.size; simp at h7 ⊢; omega,
                  ((hbw.alloc hbw.size (.cells #[.bool false] 4)).grown hgrow (by have h8 := hbw.size; simp; omega) (fun g e => by have := own_ge HO0.out g e; omega)).setCell (by show w.heap.size ≤ D; omega) _⟩
                case measure => simp [RowKit.intOf]; omega
            · obtain ⟨J, hJ⟩ : ∃ J, M - N = J := ⟨_, rfl⟩
              have hm1 : min M N = N := by omega
              have hm2 : min (M + 1) N = N := by omega
              have hm3 : M + 1 - N = J + 1 := by omega
              rw [hm1] at O0 DD hap
              rw [hJ] at O1 DD hap
              have HO0 := Lib.hid O0
              have HO1 := Lib.hid O1
              have hJl : J ≤ 2097152 := by omega
              have HSn := Lib.hid (show ((List.range (J + 1)).map fun i => F (N + i)).map Value.bool = ((List.range J).map fun i => F (N + i)).map Value.bool ++ [Value.bool false] by rw [range_snocR, List.map_append, show N + J = M by omega, HFM.out]; rfl)
              clear hm1 hJ
              have HAp := Lib.hid hap
              have xc0 := X.cell 0 rfl
              have xc1 := X.cell 1 rfl
              have yc0 := Y.cell 0 rfl
              have yc1 := Y.cell 1 rfl
              have dc0 := DD.cell 0 rfl
              have dc1 := DD.cell 1 rfl
              have df0 := DD.free 0
              have df1 := DD.free 1
              have dl := DD.lt
              clear O0 O1 hap

              have hw5 : D < w5.heap.size := DD.lt
              go_wp2_with (at_builtin; refine wpList_append_own_at _ rfl _ _ 22 rfl B 4 i0 _ 1 1 Tryd.underlying22 hi hz0 hz1 hz2 rfl (by decide) _ _ _ rfl (own_alloc HO1.out _) ⟨w5.heap.size, 0, none⟩ 1 1 [.bool false] rfl rfl (cells_newB _ _ _ _ rfl) (bool_one false) (by unfold maxLen; omega) (by omega) (by simp; omega) ?_; intro v' w6 hown2 hgrow _ hat; obtain ⟨p6, k6, rfl⟩ := own_shape hown2; have D7 := (DD.alloc (.cells #[.bool false] 4)).grownBy hgrow (fun g e => by have := own_ge HO1.out g e; omega); have q0 := D7.cell 1 rfl; have f6 := D7.free 1)
              all_goals
                have hat2 := hat
                go_roundw
                case rel => exact ⟨M + 1, _, _, by go_num, by omega,
                  ((X.alloc (.cells #[.bool false] 4)).grownBy hgrow (fun g e => by have := own_ge HO1.out g e; omega)).other (by show w.heap.size ≠ D; omega) _,
                  ((Y.alloc (.cells #[.bool false] 4)).grownBy hgrow (fun g e => by have := own_ge HO1.out g e; omega)).other (by show w.heap.size + 1 ≠ D; omega) _,
                  ((R.alloc (.cells #[.bool false] 4)).grownBy hgrow (fun g e => by have := own_ge HO1.out g e; omega)).other (by show w.heap.size + 2 ≠ D; omega) _,
                  D7.set 1 _,
                  by rw [hm2]; exact own_set (p := ⟨D, 1, none⟩) (own_grown (own_alloc HO0.out _) hgrow (fun g e1 e2 => HAp.out g e2 e1)) hDB _,
                  by rw [hm3, HSn.out]; exact own_set (p := ⟨D, 1, none⟩) hown2 hDB _,
                  (apart_new (W := w5) (o := .cells #[.bool false] 4) HAp.out.symm hat2 HO0.out).symm,
                  by have h7 := hgrow.size; simp at h7 ⊢; omega,
                  ((hbw.alloc hbw.size (.cells #[.bool false] 4)).grown hgrow (by have h8 := hbw.size; simp; omega) (fun g e => by have := own_ge HO1.out g e; omega)).setCell (by show w.heap.size ≤ D; omega) _⟩
                case measure => simp [RowKit.intOf]; omega
        · by_cases hj : j ≤ M
          · have HFM := Lib.hid (show F M = true by rw [HF.out]; exact sum_yes hpart hjl)
            have X := X.grows hb5
            have Y := Y.grows hb5
            have R := R.grows hb5
            have DD := DD.grows hb5
            have hB := Nat.le_trans hB hb5.size
            have hbw := below_two hbw hb5
            have O0 := own_below O0 hb5
            have O1 := own_below O1 hb5
            by_cases hlo : M < N
            · have hm1 : min M N = M := by omega
              have hm2 : min (M + 1) N = M + 1 := by omega
              have hm3 : M + 1 - N = 0 := by omega
              have hm4 : M - N = 0 := by omega
              rw [hm1] at O0 DD hap
              rw [hm4] at O1 DD hap
              have HO0 := Lib.hid O0
              have HO1 := Lib.hid O1
              have HSn := Lib.hid (show ((List.range (M + 1)).map F).map Value.bool = ((List.range M).map F).map Value.bool ++ [Value.bool true] by rw [range_snocR, List.map_append, HFM.out]; rfl)
              clear hm1 hm4
              have HAp := Lib.hid hap
              have xc0 := X.cell 0 rfl
              have xc1 := X.cell 1 rfl
              have yc0 := Y.cell 0 rfl
              have yc1 := Y.cell 1 rfl
              have dc0 := DD.cell 0 rfl
              have dc1 := DD.cell 1 rfl
              have df0 := DD.free 0
              have df1 := DD.free 1
              have dl := DD.lt
              clear O0 O1 hap

              have hw5 : D < w5.heap.size := DD.lt
              go_wp2_with (at_builtin; refine wpList_append_own_at _ rfl _ _ 22 rfl B 4 i0 _ 1 1 Tryd.underlying22 hi hz0 hz1 hz2 rfl (by decide) _ _ _ rfl (own_alloc HO0.out _) ⟨w5.heap.size, 0, none⟩ 1 1 [.bool true] rfl rfl (cells_newB _ _ _ _ rfl) (bool_one true) (by unfold maxLen; omega) (by omega) (by simp; omega) ?_; intro v' w6 hown2 hgrow _ hat; obtain ⟨p6, k6, rfl⟩ := own_shape hown2; have D7 := (DD.alloc (.cells #[.bool true] 4)).grownBy hgrow (fun g e => by have := own_ge HO0.out g e; omega); have q0 := D7.cell 0 rfl; have f6 := D7.free 0)
              all_goals
                have hat2 := hat
                go_roundw
                case rel => exact ⟨M + 1, _, _, by go_num, by omega,
                  ((X.alloc (.cells #[.bool true] 4)).grownBy hgrow (fun g e => by have := own_ge HO0.out g e; omega)).other (by show w.heap.size ≠ D; omega) _,
                  ((Y.alloc (.cells #[.bool true] 4)).grownBy hgrow (fun g e => by have := own_ge HO0.out g e; omega)).other (by show w.heap.size + 1 ≠ D; omega) _,
                  ((R.alloc (.cells #[.bool true] 4)).grownBy hgrow (fun g e => by have := own_ge HO0.out g e; omega)).other (by show w.heap.size + 2 ≠ D; omega) _,
                  D7.set 0 _,
                  by rw [hm2, HSn.out]; exact own_set (p := ⟨D, 0, none⟩) hown2 hDB _,
                  by rw [hm3]; exact own_set (p := ⟨D, 0, none⟩) (own_grown (own_alloc HO1.out _) hgrow (fun g e1 e2 => HAp.out g e1 e2)) hDB _,
                  apart_new (W := w5) (o := .cells #[.bool true] 4) HAp.out hat2 HO1.out,
                  by have h7 := hgrow.size; simp at h7 ⊢; omega,
                  ((hbw.alloc hbw.size (.cells #[.bool true] 4)).grown hgrow (by have h8 := hbw.size; simp; omega) (fun g e => by have := own_ge HO0.out g e; omega)).setCell (by show w.heap.size ≤ D; omega) _⟩
                case measure => simp [RowKit.intOf]; omega
            · obtain ⟨J, hJ⟩ : ∃ J, M - N = J := ⟨_, rfl⟩
              have hm1 : min M N = N := by omega
              have hm2 : min (M + 1) N = N := by omega
              have hm3 : M + 1 - N = J + 1 := by omega
              rw [hm1] at O0 DD hap
              rw [hJ] at O1 DD hap
              have HO0 := Lib.hid O0
              have HO1 := Lib.hid O1
              have hJl : J ≤ 2097152 := by omega
              have HSn := Lib.hid (show ((List.range (J + 1)).map fun i => F (N + i)).map Value.bool = ((List.range J).map fun i => F (N + i)).map Value.bool ++ [Value.bool true] by rw [range_snocR, List.map_append, show N + J = M by omega, HFM.out]; rfl)
              clear hm1 hJ
              have HAp := Lib.hid hap
              have xc0 := X.cell 0 rfl
              have xc1 := X.cell 1 rfl
              have yc0 := Y.cell 0 rfl
              have yc1 := Y.cell 1 rfl
              have dc0 := DD.cell 0 rfl
              have dc1 := DD.cell 1 rfl
              have df0 := DD.free 0
              have df1 := DD.free 1
              have dl := DD.lt
              clear O0 O1 hap

              have hw5 : D < w5.heap.size := DD.lt
              go_wp2_with (at_builtin; refine wpList_append_own_at _ rfl _ _ 22 rfl B 4 i0 _ 1 1 Tryd.underlying22 hi hz0 hz1 hz2 rfl (by decide) _ _ _ rfl (own_alloc HO1.out _) ⟨w5.heap.size, 0, none⟩ 1 1 [.bool true] rfl rfl (cells_newB _ _ _ _ rfl) (bool_one true) (by unfold maxLen; omega) (by omega) (by simp; omega) ?_; intro v' w6 hown2 hgrow _ hat; obtain ⟨p6, k6, rfl⟩ := own_shape hown2; have D7 := (DD.alloc (.cells #[.bool true] 4)).grownBy hgrow (fun g e => by have := own_ge HO1.out g e; omega); have q0 := D7.cell 1 rfl; have f6 := D7.free 1)
              all_goals
                have hat2 := hat
                go_roundw
                case rel => exact ⟨M + 1, _, _, by go_num, by omega,
                  ((X.alloc (.cells #[.bool true] 4)).grownBy hgrow (fun g e => by have := own_ge HO1.out g e; omega)).other (by show w.heap.size ≠ D; omega) _,
                  ((Y.alloc (.cells #[.bool true] 4)).grownBy hgrow (fun g e => by have := own_ge HO1.out g e; omega)).other (by show w.heap.size + 1 ≠ D; omega) _,
                  ((R.alloc (.cells #[.bool true] 4)).grownBy hgrow (fun g e => by have := own_ge HO1.out g e; omega)).other (by show w.heap.size + 2 ≠ D; omega) _,
                  D7.set 1 _,
                  by rw [hm2]; exact own_set (p := ⟨D, 1, none⟩) (own_grown (own_alloc HO0.out _) hgrow (fun g e1 e2 => HAp.out g e2 e1)) hDB _,
                  by rw [hm3, HSn.out]; exact own_set (p := ⟨D, 1, none⟩) hown2 hDB _,
                  (apart_new (W := w5) (o := .cells #[.bool true] 4) HAp.out.symm hat2 HO0.out).symm,
                  by have h7 := hgrow.size; simp at h7 ⊢; omega,
                  ((hbw.alloc hbw.size (.cells #[.bool true] 4)).grown hgrow (by have h8 := hbw.size; simp; omega) (fun g e => by have := own_ge HO1.out g e; omega)).setCell (by show w.heap.size ≤ D; omega) _⟩
                case measure => simp [RowKit.intOf]; omega
          · have HFM := Lib.hid (show F M = true by rw [HF.out]; exact sum_yes hpart hjl)
            have X := X.grows hb5
            have Y := Y.grows hb5
            have R := R.grows hb5
            have DD := DD.grows hb5
            have hB := Nat.le_trans hB hb5.size
            have hbw := below_two hbw hb5
            have O0 := own_below O0 hb5
            have O1 := own_below O1 hb5
            by_cases hlo : M < N
            · have hm1 : min M N = M := by omega
              have hm2 : min (M + 1) N = M + 1 := by omega
              have hm3 : M + 1 - N = 0 := by omega
              have hm4 : M - N = 0 := by omega
              rw [hm1] at O0 DD hap
              rw [hm4] at O1 DD hap
              have HO0 := Lib.hid O0
              have HO1 := Lib.hid O1
              have HSn := Lib.hid (show ((List.range (M + 1)).map F).map Value.bool = ((List.range M).map F).map Value.bool ++ [Value.bool true] by rw [range_snocR, List.map_append, HFM.out]; rfl)
              clear hm1 hm4
              have HAp := Lib.hid hap
              have xc0 := X.cell 0 rfl
              have xc1 := X.cell 1 rfl
              have yc0 := Y.cell 0 rfl
              have yc1 := Y.cell 1 rfl
              have dc0 := DD.cell 0 rfl
              have dc1 := DD.cell 1 rfl
              have df0 := DD.free 0
              have df1 := DD.free 1
              have dl := DD.lt
              clear O0 O1 hap

              have hw5 : D < w5.heap.size := DD.lt
              go_wp2_with (at_builtin; refine wpList_append_own_at _ rfl _ _ 22 rfl B 4 i0 _ 1 1 Tryd.underlying22 hi hz0 hz1 hz2 rfl (by decide) _ _ _ rfl (own_alloc HO0.out _) ⟨w5.heap.size, 0, none⟩ 1 1 [.bool true] rfl rfl (cells_newB _ _ _ _ rfl) (bool_one true) (by unfold maxLen; omega) (by omega) (by simp; omega) ?_; intro v' w6 hown2 hgrow _ hat; obtain ⟨p6, k6, rfl⟩ := own_shape hown2; have D7 := (DD.alloc (.cells #[.bool true] 4)).grownBy hgrow (fun g e => by have := own_ge HO0.out g e; omega); have q0 := D7.cell 0 rfl; have f6 := D7.free 0)
              all_goals
                have hat2 := hat
                go_roundw
                case rel => exact ⟨M + 1, _, _, by go_num, by omega,
                  ((X.alloc (.cells #[.bool true] 4)).grownBy hgrow (fun g e => by have := own_ge HO0.out g e; omega)).other (by show w.heap.size ≠ D; omega) _,
                  ((Y.alloc (.cells #[.bool true] 4)).grownBy hgrow (fun g e => by have := own_ge HO0.out g e; omega)).other (by show w.heap.size + 1 ≠ D; omega) _,
                  ((R.alloc (.cells #[.bool true] 4)).grownBy hgrow (fun g e => by have := own_ge HO0.out g e; omega)).other (by show w.heap.size + 2 ≠ D; omega) _,
                  D7.set 0 _,
                  by rw [hm2, HSn.out]; exact own_set (p := ⟨D, 0, none⟩) hown2 hDB _,
                  by rw [hm3]; exact own_set (p := ⟨D, 0, none⟩) (own_grown (own_alloc HO1.out _) hgrow (fun g e1 e2 => HAp.out g e1 e2)) hDB _,
                  apart_new (W := w5) (o := .cells #[.bool true] 4) HAp.out hat2 HO1.out,
                  by have h7 := hgrow.size; simp at h7 ⊢; omega,
                  ((hbw.alloc hbw.size (.cells #[.bool true] 4)).grown hgrow (by have h8 := hbw.size; simp; omega) (fun g e => by have := own_ge HO0.out g e; omega)).setCell (by show w.heap.size ≤ D; omega) _⟩
                case measure => simp [RowKit.intOf]; omega
            · obtain ⟨J, hJ⟩ : ∃ J, M - N = J := ⟨_, rfl⟩
              have hm1 : min M N = N := by omega
              have hm2 : min (M + 1) N = N := by omega
              have hm3 : M + 1 - N = J + 1 := by omega
              rw [hm1] at O0 DD hap
              rw [hJ] at O1 DD hap
              have HO0 := Lib.hid O0
              have HO1 := Lib.hid O1
              have hJl : J ≤ 2097152 := by omega
              have HSn := Lib.hid (show ((List.range (J + 1)).map fun i => F (N + i)).map Value.bool = ((List.range J).map fun i => F (N + i)).map Value.bool ++ [Value.bool true] by rw [range_snocR, List.map_append, show N + J = M by omega, HFM.out]; rfl)
              clear hm1 hJ
              have HAp := Lib.hid hap
              have xc0 := X.cell 0 rfl
              have xc1 := X.cell 1 rfl
              have yc0 := Y.cell 0 rfl
              have yc1 := Y.cell 1 rfl
              have dc0 := DD.cell 0 rfl
              have dc1 := DD.cell 1 rfl
              have df0 := DD.free 0
              have df1 := DD.free 1
              have dl := DD.lt
              clear O0 O1 hap

              have hw5 : D < w5.heap.size := DD.lt
              go_wp2_with (at_builtin; refine wpList_append_own_at _ rfl _ _ 22 rfl B 4 i0 _ 1 1 Tryd.underlying22 hi hz0 hz1 hz2 rfl (by decide) _ _ _ rfl (own_alloc HO1.out _) ⟨w5.heap.size, 0, none⟩ 1 1 [.bool true] rfl rfl (cells_newB _ _ _ _ rfl) (bool_one true) (by unfold maxLen; omega) (by omega) (by simp; omega) ?_; intro v' w6 hown2 hgrow _ hat; obtain ⟨p6, k6, rfl⟩ := own_shape hown2; have D7 := (DD.alloc (.cells #[.bool true] 4)).grownBy hgrow (fun g e => by have := own_ge HO1.out g e; omega); have q0 := D7.cell 1 rfl; have f6 := D7.free 1)
              all_goals
                have hat2 := hat
                go_roundw
                case rel => exact ⟨M + 1, _, _, by go_num, by omega,
                  ((X.alloc (.cells #[.bool true] 4)).grownBy hgrow (fun g e => by have := own_ge HO1.out g e; omega)).other (by show w.heap.size ≠ D; omega) _,
                  ((Y.alloc (.cells #[.bool true] 4)).grownBy hgrow (fun g e => by have := own_ge HO1.out g e; omega)).other (by show w.heap.size + 1 ≠ D; omega) _,
                  ((R.alloc (.cells #[.bool true] 4)).grownBy hgrow (fun g e => by have := own_ge HO1.out g e; omega)).other (by show w.heap.size + 2 ≠ D; omega) _,
                  D7.set 1 _,
                  by rw [hm2]; exact own_set (p := ⟨D, 1, none⟩) (own_grown (own_alloc HO0.out _) hgrow (fun g e1 e2 => HAp.out g e2 e1)) hDB _,
                  by rw [hm3, HSn.out]; exact own_set (p := ⟨D, 1, none⟩) hown2 hDB _,
                  (apart_new (W := w5) (o := .cells #[.bool true] 4) HAp.out.symm hat2 HO0.out).symm,
                  by have h7 := hgrow.size; simp at h7 ⊢; omega,
                  ((hbw.alloc hbw.size (.cells #[.bool true] 4)).grown hgrow (by have h8 := hbw.size; simp; omega) (fun g e => by have := own_ge HO1.out g e; omega)).setCell (by show w.heap.size ≤ D; omega) _⟩
                case measure => simp [RowKit.intOf]; omega
    · obtain rfl : M = T := by omega
      have hTN := HT.out
      have hm1 : min M N = N := by omega
      have hm2 : M - N = P := by omega
      rw [hm1] at O0 DD
      rw [hm2] at O1 DD
      have hIS : IsSet wr (.agg #[.slice p0 N k0, .slice p1 P k1]) ((List.range N).map F) ((List.range P).map fun i => F (N + i)) := ⟨_, _, rfl, own_isB (own_cast O0 (by simp) rfl), own_isB (own_cast O1 (by simp) rfl)⟩
      have HIS := Lib.hid hIS
      have HTab := Lib.hid (tab_at HFr.out hP0)
      have d0 := DD.cell 0 rfl
      have d1 := DD.cell 1 rfl
      have xc1 := X.cell 1 rfl
      have yc1 := Y.cell 1 rfl
      clear O0 O1 hap hTN hm1 hm2 hIS
      go_wp2_with (go_at_call 34; refine (bounded_of _ _ _ F _ HIS.out (HTab.out ▸ hAS _ _ _ _ HIS.out (by simp; omega) (by simp; omega)) hP0 HFr.out (by omega)).mono ?_; rintro e w5 ⟨⟨hh, cc, hC, hres⟩, hb5⟩; obtain ⟨hq, hl, hz, cq, cl, cz, nn, rfl⟩ := hres.shape; have R5 := R.grows hb5; have r0 := R5.cell 0 rfl; have r1 := R5.cell 1 rfl; have z0 := R5.free 0; have z1 := R5.free 1)
      have q0 : (w5.setCell ⟨w.heap.size + 2, 0, none⟩ (.slice hq hl hz)).cell? ⟨w.heap.size + 2, 0, none⟩ = some (.slice hq hl hz) := (R5.set 0 _).cell 0 rfl
      have q1 : ((w5.setCell ⟨w.heap.size + 2, 0, none⟩ (.slice hq hl hz)).setCell ⟨w.heap.size + 2, 1, none⟩ (.slice cq cl cz)).cell? ⟨w.heap.size + 2, 1, none⟩ = some (.slice cq cl cz) := ((R5.set 0 _).set 1 _).cell 1 rfl
      have hlt2 : w.heap.size + 2 < wr.heap.size := R.lt
      refine bodyPost_ret (v := .tuple #[.agg #[.slice hq hl hz, .slice cq cl cz], .int .i64 nn]) (by simp [results, Tryd.results28, go_sem, q0, q1]) rfl ⟨.inr ⟨rfl, _, _, hC, ((hres.set (p := ⟨w.heap.size + 2, 0, none⟩) hlt2 _).set (p := ⟨w.heap.size + 2, 1, none⟩) hlt2 _).mono hbw.size⟩, ((below_two hbw hb5).setCell (Nat.le_add_right _ 2) _).setCell (Nat.le_add_right _ 2) _⟩
end Go.Proofs.YthnkgdpifebigaaDoor
namespace Go.Proofs.YthnkgdpifebigaaDoor
open Go.RowKit Go.Lib

/-- what a function with a set and an error for its results says of them. -/
def Res (ok : Bool) (f : Nat → Bool) (h c : List Bool) (n : Int) : Prop :=
  (ok = false ∧ h = [] ∧ c = [] ∧ n = 1) ∨ (ok = true ∧ ((IsCanon f h c ∧ h.length + c.length ≤ 512 ∧ n = 0) ∨ (h = [] ∧ c = [] ∧ n = 2 ∧ ∃ h' c', IsCanon f h' c' ∧ 512 < h'.length + c'.length)))
theorem Res.unique {ok : Bool} {f : Nat → Bool} {h c h' c' : List Bool} {n n' : Int} (a : Res ok f h c n) (b : Res ok f h' c' n') : h = h' ∧ c = c' ∧ n = n' := by
  rcases a with ⟨a0, rfl, rfl, rfl⟩ | ⟨a0, a1⟩
  · rcases b with ⟨_, rfl, rfl, rfl⟩ | ⟨b0, _⟩
    · exact ⟨rfl, rfl, rfl⟩
    · rw [a0] at b0; cases b0
  · rcases b with ⟨b0, _⟩ | ⟨_, b1⟩
    · rw [a0] at b0; cases b0
    · rcases a1 with ⟨x, xl, rfl⟩ | ⟨rfl, rfl, rfl, hx, cx, x, xl⟩
      · rcases b1 with ⟨y, _, rfl⟩ | ⟨_, _, _, hy, cy, y, yl⟩
        · obtain ⟨e1, e2⟩ := x.unique y fun _ => rfl
          exact ⟨e1, e2, rfl⟩
        · obtain ⟨e1, e2⟩ := x.unique y fun _ => rfl
          rw [e1, e2] at xl; omega
      · rcases b1 with ⟨y, yl, _⟩ | ⟨rfl, rfl, rfl, _⟩
        · obtain ⟨e1, e2⟩ := x.unique y fun _ => rfl
          rw [e1, e2] at xl; omega
        · exact ⟨rfl, rfl, rfl⟩
theorem isSet_none (W : World) : IsSet W (.agg #[.slice none 0 0, .slice none 0 0]) [] [] := ⟨_, _, rfl, own_isB (World.ownsRow_nil W 0 4 1), own_isB (World.ownsRow_nil W 0 4 1)⟩
theorem opres_any {B : Nat} {ok : Bool} {f : Nat → Bool} {W : World} {e : Ending} (r : OpRes B ok f W e) :
    ∃ h c hp hk cp ck n, e = .returned (.tuple #[.agg #[.slice hp h.length hk, .slice cp c.length ck], .int .i64 n]) ∧ Hid (Res ok f h c n) ∧ h.length ≤ 512 ∧ c.length ≤ 512 ∧ IsSet W (.agg #[.slice hp h.length hk, .slice cp c.length ck]) h c := by
  rcases r with ⟨h0, rfl⟩ | ⟨h0, h, c, hc, r⟩
  · exact ⟨[], [], none, 0, none, 0, 1, rfl, Lib.hid (.inl ⟨h0, rfl, rfl, rfl⟩), by simp, by simp, isSet_none W⟩
  · rcases r with ⟨hl, v, rfl, hown⟩ | ⟨hl, rfl⟩
    · obtain ⟨hp, hk, cp, ck, rfl, a1, a2⟩ := hown.isSet.shape
      exact ⟨h, c, hp, hk, cp, ck, 0, rfl, Lib.hid (.inr ⟨h0, .inl ⟨hc, hl, rfl⟩⟩), by omega, by omega, _, _, rfl, a1, a2⟩
    · exact ⟨[], [], none, 0, none, 0, 2, rfl, Lib.hid (.inr ⟨h0, .inr ⟨rfl, rfl, rfl, h, c, hc, hl⟩⟩), by simp, by simp, isSet_none W⟩
theorem regq {p : Nat} {args : Array Value} {W : World} {x : Value} (hc : ∀ W', Below W.heap.size W W' → Calls Tryd.prog p args W' fun e w' => e = .returned x ∧ Below W'.heap.size W' w') (d : Nat) (os : Array Obj) :
    Calls Tryd.prog p args (Go.Sort.grow (redrawn W d) os) fun e w' => e = .returned x ∧ ∃ p : Regrown, w' = Go.Sort.grow (redrawn W p.d) p.os :=
  Calls.regrown_of (hc _ (below_regrown W d os))
set_option maxRecDepth 100000 in
set_option maxHeartbeats 16000000 in
theorem matches_walk (w : World) (v v' : Value) (h c h' c' : List Bool) (n : Int) (hv : IsSet w v h c) (hu : IsSet w v' h' c') (h1 : h.length ≤ 1152921504606846976) (h2 : c.length ≤ 1152921504606846976) (h3 : h'.length ≤ 1152921504606846976) (h4 : c'.length ≤ 1152921504606846976)
    (hn0 : (-9223372036854775808 : Int) ≤ n) (hn1 : n ≤ 9223372036854775807) (hT : TabAt 0 Lib.deBruijn64tab w) (hg : 0 < w.heap.size) :
    Calls Tryd.prog 3 #[v, v', .int .i64 n] w fun e w' => e = .returned (.bool true) ∧ Below w.heap.size w w' := by
  obtain ⟨hp, hk, cp, ck, rfl, a1, a2⟩ := hv.shape
  obtain ⟨hp', hk', cp', ck', rfl, b1, b2⟩ := hu.shape
  have XS := Lib.hid hv
  have YS := Lib.hid hu
  have HT := Lib.hid (fun W (hW : Below w.heap.size w W) => And.intro (tab_below hT hW hg) (Nat.lt_of_lt_of_le hg hW.size))
  clear hT hg hv a1 a2 hu b1 b2
  go_enter Tryd.func3, Tryd.ntmps3
  go_wp2_with fail
  show Calls Tryd.prog _ _ (al w [(Obj.cells #[.slice hp h.length hk, .slice cp c.length ck] 24), (Obj.cells #[.slice hp' h'.length hk', .slice cp' c'.length ck'] 24)]) _
  obtain ⟨OS, hOS⟩ : ∃ OS, OS = [(Obj.cells #[.slice hp h.length hk, .slice cp c.length ck] 24), (Obj.cells #[.slice hp' h'.length hk', .slice cp' c'.length ck'] 24)] := ⟨_, rfl⟩
  rw [← hOS]
  replace XS := Lib.hid (XS.out.al OS)
  replace YS := Lib.hid (YS.out.al OS)
  have HB := Lib.hid (al_below OS w)
  have BX0 : Blk (al w OS) (w.heap.size) #[.slice hp h.length hk, .slice cp c.length ck] 24 := by rw [hOS]; exact al_blk w _ 0 rfl
  have BY0 : Blk (al w OS) (w.heap.size + 1) #[.slice hp' h'.length hk', .slice cp' c'.length ck'] 24 := by rw [hOS]; exact al_blk w _ 1 rfl
  have BX := Lib.hid BX0
  have BY := Lib.hid BY0
  clear BX0 BY0
  clear hOS
  generalize al w OS = W0 at XS YS BX BY HB ⊢
  refine (sanity_any W0 (HT.out _ HB.out).1 (HT.out _ HB.out).2).mono ?_
  rintro e w1 ⟨rfl, hb⟩
  replace XS := Lib.hid (XS.out.grows hb)
  replace YS := Lib.hid (YS.out.grows hb)
  replace BX := Lib.hid (BX.out.grows hb)
  replace BY := Lib.hid (BY.out.grows hb)
  replace HB := Lib.hid (HB.out.trans (hb.mono HB.out.size))
  clear hb
  have BX_0 := BX.out.cell 0 rfl
  have BX_1 := BX.out.cell 1 rfl
  have BX_l := BX.out.lt
  go_wp2_with fail
  clear BX_0 BX_1 BX_l
  refine (made_is _ h c 10 24 w1 XS.out h1 h2 (by decide) (by decide)).mono ?_
  rintro e w2 ⟨⟨xh, xc, xp, xk, xq, xj, rfl, hG, xl, xm, G0⟩, hb⟩
  replace XS := Lib.hid (XS.out.grows hb)
  replace YS := Lib.hid (YS.out.grows hb)
  replace BX := Lib.hid (BX.out.grows hb)
  replace BY := Lib.hid (BY.out.grows hb)
  replace HB := Lib.hid (HB.out.trans (hb.mono HB.out.size))
  clear hb
  have Sx := Lib.hid (G0)
  clear G0 hG
  have xo := Lib.hid (okLen_yes xm.1 (show xh.length + xc.length ≤ 512 by omega))
  have w2b : w.heap.size ≤ w2.heap.size := HB.out.size
  have BY_0 := BY.out.cell 0 rfl
  have BY_1 := BY.out.cell 1 rfl
  have BY_l := BY.out.lt
  go_wp2_with fail
  clear BY_0 BY_1 BY_l
  show Calls Tryd.prog _ _ (al w2 [(Obj.cells #[.slice xp xh.length xk, .slice xq xc.length xj] 24)]) _
  obtain ⟨OS, hOS⟩ : ∃ OS, OS = [(Obj.cells #[.slice xp xh.length xk, .slice xq xc.length xj] 24)] := ⟨_, rfl⟩
  rw [← hOS]
  replace XS := Lib.hid (XS.out.al OS)
  replace YS := Lib.hid (YS.out.al OS)
  replace BX := Lib.hid (BX.out.al OS)
  replace BY := Lib.hid (BY.out.al OS)
  replace Sx := Lib.hid (Sx.out.al OS)
  replace HB := Lib.hid (HB.out.trans ((al_below OS w2).mono HB.out.size))
  have Cx0 : Blk (al w2 OS) (w2.heap.size) #[.slice xp xh.length xk, .slice xq xc.length xj] 24 := by rw [hOS]; exact al_blk w2 _ 0 rfl
  have Cx := Lib.hid Cx0
  clear Cx0
  clear hOS
  generalize al w2 OS = W2 at XS YS BX BY Sx Cx HB ⊢
  refine (made_is _ h' c' 10 24 W2 YS.out h3 h4 (by decide) (by decide)).mono ?_
  rintro e w3 ⟨⟨yh, yc, yp, yk, yq, yj, rfl, hG, yl, ym, G0⟩, hb⟩
  replace XS := Lib.hid (XS.out.grows hb)
  replace YS := Lib.hid (YS.out.grows hb)
  replace BX := Lib.hid (BX.out.grows hb)
  replace BY := Lib.hid (BY.out.grows hb)
  replace Sx := Lib.hid (Sx.out.grows hb)
  replace Cx := Lib.hid (Cx.out.grows hb)
  replace HB := Lib.hid (HB.out.trans (hb.mono HB.out.size))
  clear hb
  have Sy := Lib.hid (G0)
  clear G0 hG
  have yo := Lib.hid (okLen_yes ym.1 (show yh.length + yc.length ≤ 512 by omega))
  have w3b : w.heap.size ≤ w3.heap.size := HB.out.size
  have Cx_w3 : w2.heap.size < w3.heap.size := Cx.out.lt
  clear YS BY
  have BX_0 := BX.out.cell 0 rfl
  have BX_1 := BX.out.cell 1 rfl
  have BX_l := BX.out.lt
  go_wp2_with fail
  clear BX_0 BX_1 BX_l
  show Calls Tryd.prog _ _ (al w3 [(Obj.cells #[.slice yp yh.length yk, .slice yq yc.length yj] 24)]) _
  obtain ⟨OS, hOS⟩ : ∃ OS, OS = [(Obj.cells #[.slice yp yh.length yk, .slice yq yc.length yj] 24)] := ⟨_, rfl⟩
  rw [← hOS]
  replace XS := Lib.hid (XS.out.al OS)
  replace BX := Lib.hid (BX.out.al OS)
  replace Sx := Lib.hid (Sx.out.al OS)
  replace Cx := Lib.hid (Cx.out.al OS)
  replace Sy := Lib.hid (Sy.out.al OS)
  replace HB := Lib.hid (HB.out.trans ((al_below OS w3).mono HB.out.size))
  have Cy0 : Blk (al w3 OS) (w3.heap.size) #[.slice yp yh.length yk, .slice yq yc.length yj] 24 := by rw [hOS]; exact al_blk w3 _ 0 rfl
  have Cy := Lib.hid Cy0
  clear Cy0
  clear hOS
  generalize al w3 OS = W3 at XS BX Sx Cx Sy Cy HB ⊢
  refine (canon_any _ h c W3 XS.out h1 h2).mono ?_
  rintro e w4 ⟨hr, hb⟩
  obtain ⟨uh, uc, up, uk, uq, uj, un, rfl, uR, ul, um, G0⟩ := opres_any hr
  replace XS := Lib.hid (XS.out.grows hb)
  replace BX := Lib.hid (BX.out.grows hb)
  replace Sx := Lib.hid (Sx.out.grows hb)
  replace Cx := Lib.hid (Cx.out.grows hb)
  replace Sy := Lib.hid (Sy.out.grows hb)
  replace Cy := Lib.hid (Cy.out.grows hb)
  replace HB := Lib.hid (HB.out.trans (hb.mono HB.out.size))
  clear hb
  have Su := Lib.hid (G0)
  clear G0 hr
  have w4b : w.heap.size ≤ w4.heap.size := HB.out.size
  have Cx_w4 : w2.heap.size < w4.heap.size := Cx.out.lt
  have Cy_w4 : w3.heap.size < w4.heap.size := Cy.out.lt
  have BX_0 := BX.out.cell 0 rfl
  have BX_1 := BX.out.cell 1 rfl
  have BX_l := BX.out.lt
  go_wp2_with fail
  clear BX_0 BX_1 BX_l
  show Calls Tryd.prog _ _ (al w4 [(Obj.cells #[.slice up uh.length uk, .slice uq uc.length uj] 24)]) _
  obtain ⟨OS, hOS⟩ : ∃ OS, OS = [(Obj.cells #[.slice up uh.length uk, .slice uq uc.length uj] 24)] := ⟨_, rfl⟩
  rw [← hOS]
  replace XS := Lib.hid (XS.out.al OS)
  replace BX := Lib.hid (BX.out.al OS)
  replace Sx := Lib.hid (Sx.out.al OS)
  replace Cx := Lib.hid (Cx.out.al OS)
  replace Sy := Lib.hid (Sy.out.al OS)
  replace Cy := Lib.hid (Cy.out.al OS)
  replace Su := Lib.hid (Su.out.al OS)
  replace HB := Lib.hid (HB.out.trans ((al_below OS w4).mono HB.out.size))
  have Cu0 : Blk (al w4 OS) (w4.heap.size) #[.slice up uh.length uk, .slice uq uc.length uj] 24 := by rw [hOS]; exact al_blk w4 _ 0 rfl
  have Cu := Lib.hid Cu0
  clear Cu0
  clear hOS
  generalize al w4 OS = W4 at XS BX Sx Cx Sy Cy Su Cu HB ⊢
  refine (rcanon_any _ h c W4 XS.out h1 h2).mono ?_
  rintro e w5 ⟨hr, hb⟩
  obtain ⟨th, tc, tp, tk, tq, tj, tn, rfl, tR, tl, tm, G0⟩ := opres_any hr
  replace XS := Lib.hid (XS.out.grows hb)
  replace BX := Lib.hid (BX.out.grows hb)
  replace Sx := Lib.hid (Sx.out.grows hb)
  replace Cx := Lib.hid (Cx.out.grows hb)
  replace Sy := Lib.hid (Sy.out.grows hb)
  replace Cy := Lib.hid (Cy.out.grows hb)
  replace Su := Lib.hid (Su.out.grows hb)
  replace Cu := Lib.hid (Cu.out.grows hb)
  replace HB := Lib.hid (HB.out.trans (hb.mono HB.out.size))
  clear hb
  have St := Lib.hid (G0)
  clear G0 hr
  obtain ⟨e1, e2, e3⟩ := Res.unique uR.out tR.out
  subst e1
  subst e2
  subst e3
  clear uR tR tl tm
  have w5b : w.heap.size ≤ w5.heap.size := HB.out.size
  have Cx_w5 : w2.heap.size < w5.heap.size := Cx.out.lt
  have Cy_w5 : w3.heap.size < w5.heap.size := Cy.out.lt
  have Cu_w5 : w4.heap.size < w5.heap.size := Cu.out.lt
  have hal := below_alloc1 w5 (Obj.cells #[.slice tp uh.length tk, .slice tq uc.length tj] 24)
  replace XS := Lib.hid (XS.out.grows hal)
  replace BX := Lib.hid (BX.out.grows hal)
  replace Sx := Lib.hid (Sx.out.grows hal)
  replace Cx := Lib.hid (Cx.out.grows hal)
  replace Sy := Lib.hid (Sy.out.grows hal)
  replace Cy := Lib.hid (Cy.out.grows hal)
  replace Su := Lib.hid (Su.out.grows hal)
  replace Cu := Lib.hid (Cu.out.grows hal)
  replace St := Lib.hid (St.out.grows hal)
  replace HB := Lib.hid (HB.out.trans (hal.mono HB.out.size))
  clear hal
  have Ct := Lib.hid (Blk.new w5 #[.slice tp uh.length tk, .slice tq uc.length tj] 24)
  have z0 := cell_regrown (BX.out.cell 0 rfl)
  have z1 := cell_regrown (BX.out.cell 1 rfl)
  have z2 := cell_regrown (Cu.out.cell 0 rfl)
  have z3 := cell_regrown (Cu.out.cell 1 rfl)
  have z4 := cell_regrown (Ct.out.cell 0 rfl)
  have z5 := cell_regrown (Ct.out.cell 1 rfl)
  have Q1 := Lib.hid (fun d os => regq (d := d) (os := os) fun W hW => same_is _ _ uh uc uh uc true W (Su.out.grows hW) (St.out.grows hW) ((sameS_iff _ _ _ _).2 ⟨rfl, rfl⟩) (by omega) (by omega) (by omega) (by omega))
  have Q2 := Lib.hid (fun d os => regq (W := (w5.alloc (Obj.cells #[.slice tp uh.length tk, .slice tq uc.length tj] 24))) (d := d) (os := os) fun W hW => valid_any hp cp h.length hk c.length ck W h1 h2)
  have Q3 := Lib.hid (fun d os => regq (W := (w5.alloc (Obj.cells #[.slice tp uh.length tk, .slice tq uc.length tj] 24))) (d := d) (os := os) fun W hW => rvalid_any hp cp h.length hk c.length ck W h1 h2)
  have Q4 := Lib.hid (fun d os => regq (d := d) (os := os) fun W hW => has_any _ h c n W (XS.out.grows hW) h1 h2 hn1)
  have Q5 := Lib.hid (fun d os => regq (d := d) (os := os) fun W hW => rhas_any _ h c n W (XS.out.grows hW) h1 h2 hn1)
  have Q6 := Lib.hid (fun d os => regq (d := d) (os := os) fun W hW => least_any _ h c n W (XS.out.grows hW) h1 h2 hn0)
  have Q7 := Lib.hid (fun d os => regq (d := d) (os := os) fun W hW => rleast_any _ h c n W (XS.out.grows hW) h1 h2 hn0)
  generalize leastS h c n = lx at Q6 Q7
  obtain ⟨bo, hbo⟩ : ∃ bo, okLen h.length c.length = bo := ⟨_, rfl⟩
  rw [hbo] at Q2 Q3
  clear hbo
  obtain ⟨bh, hbh⟩ : ∃ bh, hasB h c n = bh := ⟨_, rfl⟩
  rw [hbh] at Q4 Q5
  clear hbh
  cases bo <;> cases bh
  all_goals
    go_wp2_with fail
    refine wp_region_quiet_below (by kernel_rfl) (by kernel_rfl) ?_
    repeat (go_big_quiet_step (first | with_reducible exact Q1.out _ _ | with_reducible exact Q2.out _ _ | with_reducible exact Q3.out _ _ | with_reducible exact Q4.out _ _ | with_reducible exact Q5.out _ _ | with_reducible exact Q6.out _ _ | with_reducible exact Q7.out _ _))
    refine wpQuiet_nil ?_
    intro _ hw'
    obtain ⟨⟨dq, osq⟩, hw''⟩ := hw'
    subst hw''
    have hgr := below_regrown (w5.alloc (Obj.cells #[.slice tp uh.length tk, .slice tq uc.length tj] 24)) dq osq
    clear z0 z1 z2 z3 z4 z5 Q1 Q2 Q3 Q4 Q5 Q6 Q7
    replace XS := Lib.hid (XS.out.grows hgr)
    replace BX := Lib.hid (BX.out.grows hgr)
    replace Sx := Lib.hid (Sx.out.grows hgr)
    replace Cx := Lib.hid (Cx.out.grows hgr)
    replace Sy := Lib.hid (Sy.out.grows hgr)
    replace Cy := Lib.hid (Cy.out.grows hgr)
    replace Su := Lib.hid (Su.out.grows hgr)
    replace Cu := Lib.hid (Cu.out.grows hgr)
    replace St := Lib.hid (St.out.grows hgr)
    replace Ct := Lib.hid (Ct.out.grows hgr)
    replace HB := Lib.hid (HB.out.trans (hgr.mono HB.out.size))
    generalize Go.Sort.grow (redrawn (w5.alloc (Obj.cells #[.slice tp uh.length tk, .slice tq uc.length tj] 24)) dq) osq = w6 at XS BX Sx Cx Sy Cy Su Cu St Ct HB ⊢
    clear hgr
    clear XS BX Su St
    have Cx_0 := Cx.out.cell 0 rfl
    have Cx_1 := Cx.out.cell 1 rfl
    have Cx_l := Cx.out.lt
    have Cy_0 := Cy.out.cell 0 rfl
    have Cy_1 := Cy.out.cell 1 rfl
    have Cy_l := Cy.out.lt
    go_wp2_with fail
    clear Cx_0 Cx_1 Cx_l Cy_0 Cy_1 Cy_l
    have H0 := and_any _ _ xh xc yh yc w6 Sx.out Sy.out (by omega) (by omega) (by omega) (by omega)
    rw [xo.out, yo.out] at H0
    refine H0.mono ?_
    clear H0
    rintro e w7 ⟨hr, hb⟩
    obtain ⟨c1h, c1c, c1p, c1k, c1q, c1j, c1n, rfl, c1R, c1l, c1m, G0⟩ := opres_any hr
    replace Sx := Lib.hid (Sx.out.grows hb)
    replace Cx := Lib.hid (Cx.out.grows hb)
    replace Sy := Lib.hid (Sy.out.grows hb)
    replace Cy := Lib.hid (Cy.out.grows hb)
    replace Cu := Lib.hid (Cu.out.grows hb)
    replace Ct := Lib.hid (Ct.out.grows hb)
    replace HB := Lib.hid (HB.out.trans (hb.mono HB.out.size))
    clear hb
    have Sc1 := Lib.hid (G0)
    clear G0 hr
    have fz0 := Cu.out.free 0
    have fz1 := Cu.out.free 1
    have oc0 := Cu.out.cell 0 rfl
    have oc1 := Cu.out.cell 1 rfl
    replace Sx := Lib.hid (Sx.out.box Cu.out (notbool _ _ _) (notbool _ _ _) (.slice c1p c1h.length c1k) (.slice c1q c1c.length c1j))
    replace Cx := Lib.hid ((Cx.out.other (a := ⟨w4.heap.size, 0, none⟩) (by show _ ≠ w4.heap.size; omega) (.slice c1p c1h.length c1k)).other (a := ⟨w4.heap.size, 1, none⟩) (by show _ ≠ w4.heap.size; omega) (.slice c1q c1c.length c1j))
    replace Sy := Lib.hid (Sy.out.box Cu.out (notbool _ _ _) (notbool _ _ _) (.slice c1p c1h.length c1k) (.slice c1q c1c.length c1j))
    replace Cy := Lib.hid ((Cy.out.other (a := ⟨w4.heap.size, 0, none⟩) (by show _ ≠ w4.heap.size; omega) (.slice c1p c1h.length c1k)).other (a := ⟨w4.heap.size, 1, none⟩) (by show _ ≠ w4.heap.size; omega) (.slice c1q c1c.length c1j))
    replace Ct := Lib.hid ((Ct.out.other (a := ⟨w4.heap.size, 0, none⟩) (by show _ ≠ w4.heap.size; omega) (.slice c1p c1h.length c1k)).other (a := ⟨w4.heap.size, 1, none⟩) (by show _ ≠ w4.heap.size; omega) (.slice c1q c1c.length c1j))
    replace Sc1 := Lib.hid (Sc1.out.box Cu.out (notbool _ _ _) (notbool _ _ _) (.slice c1p c1h.length c1k) (.slice c1q c1c.length c1j))
    replace HB := Lib.hid ((HB.out.setCell (p := ⟨w4.heap.size, 0, none⟩) (by show w.heap.size ≤ w4.heap.size; omega) (.slice c1p c1h.length c1k)).setCell (p := ⟨w4.heap.size, 1, none⟩) (by show w.heap.size ≤ w4.heap.size; omega) (.slice c1q c1c.length c1j))
    replace Cu : Hid (Blk _ w4.heap.size #[.slice c1p c1h.length c1k, .slice c1q c1c.length c1j] 24) := Lib.hid ((Cu.out.set 0 (.slice c1p c1h.length c1k)).set 1 (.slice c1q c1c.length c1j))
    have Cx_0 := Cx.out.cell 0 rfl
    have Cx_1 := Cx.out.cell 1 rfl
    have Cy_0 := Cy.out.cell 0 rfl
    have Cy_1 := Cy.out.cell 1 rfl
    go_wp2_with fail
    clear fz0 fz1 oc0 oc1 Cx_0 Cx_1 Cy_0 Cy_1
    generalize (w7.setCell ⟨w4.heap.size, 0, none⟩ (.slice c1p c1h.length c1k)).setCell ⟨w4.heap.size, 1, none⟩ (.slice c1q c1c.length c1j) = W7 at Sx Cx Sy Cy Cu Ct Sc1 HB ⊢
    refine (rand_any _ _ xh xc yh yc W7 Sx.out Sy.out xo.out yo.out).mono ?_
    rintro e w8 ⟨hr, hb⟩
    obtain ⟨d1h, d1c, d1p, d1k, d1q, d1j, d1n, rfl, d1R, d1l, d1m, G0⟩ := opres_any hr
    replace Sx := Lib.hid (Sx.out.grows hb)
    replace Cx := Lib.hid (Cx.out.grows hb)
    replace Sy := Lib.hid (Sy.out.grows hb)
    replace Cy := Lib.hid (Cy.out.grows hb)
    replace Cu := Lib.hid (Cu.out.grows hb)
    replace Ct := Lib.hid (Ct.out.grows hb)
    replace Sc1 := Lib.hid (Sc1.out.grows hb)
    replace HB := Lib.hid (HB.out.trans (hb.mono HB.out.size))
    clear hb
    have Sd1 := Lib.hid (G0)
    clear G0 hr
    obtain ⟨e1, e2, e3⟩ := Res.unique c1R.out d1R.out
    subst e1
    subst e2
    subst e3
    clear c1R d1R d1l d1m
    have fz0 := Ct.out.free 0
    have fz1 := Ct.out.free 1
    have oc0 := Ct.out.cell 0 rfl
    have oc1 := Ct.out.cell 1 rfl
    replace Sx := Lib.hid (Sx.out.box Ct.out (notbool _ _ _) (notbool _ _ _) (.slice d1p c1h.length d1k) (.slice d1q c1c.length d1j))
    replace Cx := Lib.hid ((Cx.out.other (a := ⟨w5.heap.size, 0, none⟩) (by show _ ≠ w5.heap.size; omega) (.slice d1p c1h.length d1k)).other (a := ⟨w5.heap.size, 1, none⟩) (by show _ ≠ w5.heap.size; omega) (.slice d1q c1c.length d1j))
    replace Sy := Lib.hid (Sy.out.box Ct.out (notbool _ _ _) (notbool _ _ _) (.slice d1p c1h.length d1k) (.slice d1q c1c.length d1j))
    replace Cy := Lib.hid ((Cy.out.other (a := ⟨w5.heap.size, 0, none⟩) (by show _ ≠ w5.heap.size; omega) (.slice d1p c1h.length d1k)).other (a := ⟨w5.heap.size, 1, none⟩) (by show _ ≠ w5.heap.size; omega) (.slice d1q c1c.length d1j))
    replace Cu := Lib.hid ((Cu.out.other (a := ⟨w5.heap.size, 0, none⟩) (by show _ ≠ w5.heap.size; omega) (.slice d1p c1h.length d1k)).other (a := ⟨w5.heap.size, 1, none⟩) (by show _ ≠ w5.heap.size; omega) (.slice d1q c1c.length d1j))
    replace Sc1 := Lib.hid (Sc1.out.box Ct.out (notbool _ _ _) (notbool _ _ _) (.slice d1p c1h.length d1k) (.slice d1q c1c.length d1j))
    replace Sd1 := Lib.hid (Sd1.out.box Ct.out (notbool _ _ _) (notbool _ _ _) (.slice d1p c1h.length d1k) (.slice d1q c1c.length d1j))
    replace HB := Lib.hid ((HB.out.setCell (p := ⟨w5.heap.size, 0, none⟩) (by show w.heap.size ≤ w5.heap.size; omega) (.slice d1p c1h.length d1k)).setCell (p := ⟨w5.heap.size, 1, none⟩) (by show w.heap.size ≤ w5.heap.size; omega) (.slice d1q c1c.length d1j))
    replace Ct : Hid (Blk _ w5.heap.size #[.slice d1p c1h.length d1k, .slice d1q c1c.length d1j] 24) := Lib.hid ((Ct.out.set 0 (.slice d1p c1h.length d1k)).set 1 (.slice d1q c1c.length d1j))
    have Cu_0 := Cu.out.cell 0 rfl
    have Cu_1 := Cu.out.cell 1 rfl
    have Ct_0 := Ct.out.cell 0 rfl
    have Ct_1 := Ct.out.cell 1 rfl
    go_wp2_with fail
    clear fz0 fz1 oc0 oc1 Cu_0 Cu_1 Ct_0 Ct_1
    generalize (w8.setCell ⟨w5.heap.size, 0, none⟩ (.slice d1p c1h.length d1k)).setCell ⟨w5.heap.size, 1, none⟩ (.slice d1q c1c.length d1j) = W8 at Sx Cx Sy Cy Cu Ct Sc1 Sd1 HB ⊢
    refine (same_is _ _ c1h c1c c1h c1c true W8 Sc1.out Sd1.out ((sameS_iff _ _ _ _).2 ⟨rfl, rfl⟩) (by omega) (by omega) (by omega) (by omega)).mono ?_
    rintro e w9 ⟨rfl, hb⟩
    replace Sx := Lib.hid (Sx.out.grows hb)
    replace Cx := Lib.hid (Cx.out.grows hb)
    replace Sy := Lib.hid (Sy.out.grows hb)
    replace Cy := Lib.hid (Cy.out.grows hb)
    replace Cu := Lib.hid (Cu.out.grows hb)
    replace Ct := Lib.hid (Ct.out.grows hb)
    replace Sc1 := Lib.hid (Sc1.out.grows hb)
    replace Sd1 := Lib.hid (Sd1.out.grows hb)
    replace HB := Lib.hid (HB.out.trans (hb.mono HB.out.size))
    clear hb
    clear Sc1 Sd1
    have Cx_0 := Cx.out.cell 0 rfl
    have Cx_1 := Cx.out.cell 1 rfl
    have Cx_l := Cx.out.lt
    have Cy_0 := Cy.out.cell 0 rfl
    have Cy_1 := Cy.out.cell 1 rfl
    have Cy_l := Cy.out.lt
    go_wp2_with fail
    clear Cx_0 Cx_1 Cx_l Cy_0 Cy_1 Cy_l
    have H0 := or_any _ _ xh xc yh yc w9 Sx.out Sy.out (by omega) (by omega) (by omega) (by omega)
    rw [xo.out, yo.out] at H0
    refine H0.mono ?_
    clear H0
    rintro e w10 ⟨hr, hb⟩
    obtain ⟨c2h, c2c, c2p, c2k, c2q, c2j, c2n, rfl, c2R, c2l, c2m, G0⟩ := opres_any hr
    replace Sx := Lib.hid (Sx.out.grows hb)
    replace Cx := Lib.hid (Cx.out.grows hb)
    replace Sy := Lib.hid (Sy.out.grows hb)
    replace Cy := Lib.hid (Cy.out.grows hb)
    replace Cu := Lib.hid (Cu.out.grows hb)
    replace Ct := Lib.hid (Ct.out.grows hb)
    replace HB := Lib.hid (HB.out.trans (hb.mono HB.out.size))
    clear hb
    have Sc2 := Lib.hid (G0)
    clear G0 hr
    have fz0 := Cu.out.free 0
    have fz1 := Cu.out.free 1
    have oc0 := Cu.out.cell 0 rfl
    have oc1 := Cu.out.cell 1 rfl
    replace Sx := Lib.hid (Sx.out.box Cu.out (notbool _ _ _) (notbool _ _ _) (.slice c2p c2h.length c2k) (.slice c2q c2c.length c2j))
    replace Cx := Lib.hid ((Cx.out.other (a := ⟨w4.heap.size, 0, none⟩) (by show _ ≠ w4.heap.size; omega) (.slice c2p c2h.length c2k)).other (a := ⟨w4.heap.size, 1, none⟩) (by show _ ≠ w4.heap.size; omega) (.slice c2q c2c.length c2j))
    replace Sy := Lib.hid (Sy.out.box Cu.out (notbool _ _ _) (notbool _ _ _) (.slice c2p c2h.length c2k) (.slice c2q c2c.length c2j))
    replace Cy := Lib.hid ((Cy.out.other (a := ⟨w4.heap.size, 0, none⟩) (by show _ ≠ w4.heap.size; omega) (.slice c2p c2h.length c2k)).other (a := ⟨w4.heap.size, 1, none⟩) (by show _ ≠ w4.heap.size; omega) (.slice c2q c2c.length c2j))
    replace Ct := Lib.hid ((Ct.out.other (a := ⟨w4.heap.size, 0, none⟩) (by show _ ≠ w4.heap.size; omega) (.slice c2p c2h.length c2k)).other (a := ⟨w4.heap.size, 1, none⟩) (by show _ ≠ w4.heap.size; omega) (.slice c2q c2c.length c2j))
    replace Sc2 := Lib.hid (Sc2.out.box Cu.out (notbool _ _ _) (notbool _ _ _) (.slice c2p c2h.length c2k) (.slice c2q c2c.length c2j))
    replace HB := Lib.hid ((HB.out.setCell (p := ⟨w4.heap.size, 0, none⟩) (by show w.heap.size ≤ w4.heap.size; omega) (.slice c2p c2h.length c2k)).setCell (p := ⟨w4.heap.size, 1, none⟩) (by show w.heap.size ≤ w4.heap.size; omega) (.slice c2q c2c.length c2j))
    replace Cu : Hid (Blk _ w4.heap.size #[.slice c2p c2h.length c2k, .slice c2q c2c.length c2j] 24) := Lib.hid ((Cu.out.set 0 (.slice c2p c2h.length c2k)).set 1 (.slice c2q c2c.length c2j))
    have Cx_0 := Cx.out.cell 0 rfl
    have Cx_1 := Cx.out.cell 1 rfl
    have Cy_0 := Cy.out.cell 0 rfl
    have Cy_1 := Cy.out.cell 1 rfl
    go_wp2_with fail
    clear fz0 fz1 oc0 oc1 Cx_0 Cx_1 Cy_0 Cy_1
    generalize (w10.setCell ⟨w4.heap.size, 0, none⟩ (.slice c2p c2h.length c2k)).setCell ⟨w4.heap.size, 1, none⟩ (.slice c2q c2c.length c2j) = W10 at Sx Cx Sy Cy Cu Ct Sc2 HB ⊢
    refine (ror_any _ _ xh xc yh yc W10 Sx.out Sy.out xo.out yo.out).mono ?_
    rintro e w11 ⟨hr, hb⟩
    obtain ⟨d2h, d2c, d2p, d2k, d2q, d2j, d2n, rfl, d2R, d2l, d2m, G0⟩ := opres_any hr
    replace Sx := Lib.hid (Sx.out.grows hb)
    replace Cx := Lib.hid (Cx.out.grows hb)
    replace Sy := Lib.hid (Sy.out.grows hb)
    replace Cy := Lib.hid (Cy.out.grows hb)
    replace Cu := Lib.hid (Cu.out.grows hb)
    replace Ct := Lib.hid (Ct.out.grows hb)
    replace Sc2 := Lib.hid (Sc2.out.grows hb)
    replace HB := Lib.hid (HB.out.trans (hb.mono HB.out.size))
    clear hb
    have Sd2 := Lib.hid (G0)
    clear G0 hr
    obtain ⟨e1, e2, e3⟩ := Res.unique c2R.out d2R.out
    subst e1
    subst e2
    subst e3
    clear c2R d2R d2l d2m
    have fz0 := Ct.out.free 0
    have fz1 := Ct.out.free 1
    have oc0 := Ct.out.cell 0 rfl
    have oc1 := Ct.out.cell 1 rfl
    replace Sx := Lib.hid (Sx.out.box Ct.out (notbool _ _ _) (notbool _ _ _) (.slice d2p c2h.length d2k) (.slice d2q c2c.length d2j))
    replace Cx := Lib.hid ((Cx.out.other (a := ⟨w5.heap.size, 0, none⟩) (by show _ ≠ w5.heap.size; omega) (.slice d2p c2h.length d2k)).other (a := ⟨w5.heap.size, 1, none⟩) (by show _ ≠ w5.heap.size; omega) (.slice d2q c2c.length d2j))
    replace Sy := Lib.hid (Sy.out.box Ct.out (notbool _ _ _) (notbool _ _ _) (.slice d2p c2h.length d2k) (.slice d2q c2c.length d2j))
    replace Cy := Lib.hid ((Cy.out.other (a := ⟨w5.heap.size, 0, none⟩) (by show _ ≠ w5.heap.size; omega) (.slice d2p c2h.length d2k)).other (a := ⟨w5.heap.size, 1, none⟩) (by show _ ≠ w5.heap.size; omega) (.slice d2q c2c.length d2j))
    replace Cu := Lib.hid ((Cu.out.other (a := ⟨w5.heap.size, 0, none⟩) (by show _ ≠ w5.heap.size; omega) (.slice d2p c2h.length d2k)).other (a := ⟨w5.heap.size, 1, none⟩) (by show _ ≠ w5.heap.size; omega) (.slice d2q c2c.length d2j))
    replace Sc2 := Lib.hid (Sc2.out.box Ct.out (notbool _ _ _) (notbool _ _ _) (.slice d2p c2h.length d2k) (.slice d2q c2c.length d2j))
    replace Sd2 := Lib.hid (Sd2.out.box Ct.out (notbool _ _ _) (notbool _ _ _) (.slice d2p c2h.length d2k) (.slice d2q c2c.length d2j))
    replace HB := Lib.hid ((HB.out.setCell (p := ⟨w5.heap.size, 0, none⟩) (by show w.heap.size ≤ w5.heap.size; omega) (.slice d2p c2h.length d2k)).setCell (p := ⟨w5.heap.size, 1, none⟩) (by show w.heap.size ≤ w5.heap.size; omega) (.slice d2q c2c.length d2j))
    replace Ct : Hid (Blk _ w5.heap.size #[.slice d2p c2h.length d2k, .slice d2q c2c.length d2j] 24) := Lib.hid ((Ct.out.set 0 (.slice d2p c2h.length d2k)).set 1 (.slice d2q c2c.length d2j))
    have Cu_0 := Cu.out.cell 0 rfl
    have Cu_1 := Cu.out.cell 1 rfl
    have Ct_0 := Ct.out.cell 0 rfl
    have Ct_1 := Ct.out.cell 1 rfl
    go_wp2_with fail
    clear fz0 fz1 oc0 oc1 Cu_0 Cu_1 Ct_0 Ct_1
    generalize (w11.setCell ⟨w5.heap.size, 0, none⟩ (.slice d2p c2h.length d2k)).setCell ⟨w5.heap.size, 1, none⟩ (.slice d2q c2c.length d2j) = W11 at Sx Cx Sy Cy Cu Ct Sc2 Sd2 HB ⊢
    refine (same_is _ _ c2h c2c c2h c2c true W11 Sc2.out Sd2.out ((sameS_iff _ _ _ _).2 ⟨rfl, rfl⟩) (by omega) (by omega) (by omega) (by omega)).mono ?_
    rintro e w12 ⟨rfl, hb⟩
    replace Sx := Lib.hid (Sx.out.grows hb)
    replace Cx := Lib.hid (Cx.out.grows hb)
    replace Sy := Lib.hid (Sy.out.grows hb)
    replace Cy := Lib.hid (Cy.out.grows hb)
    replace Cu := Lib.hid (Cu.out.grows hb)
    replace Ct := Lib.hid (Ct.out.grows hb)
    replace Sc2 := Lib.hid (Sc2.out.grows hb)
    replace Sd2 := Lib.hid (Sd2.out.grows hb)
    replace HB := Lib.hid (HB.out.trans (hb.mono HB.out.size))
    clear hb
    clear Sc2 Sd2
    have Cx_0 := Cx.out.cell 0 rfl
    have Cx_1 := Cx.out.cell 1 rfl
    have Cx_l := Cx.out.lt
    have Cy_0 := Cy.out.cell 0 rfl
    have Cy_1 := Cy.out.cell 1 rfl
    have Cy_l := Cy.out.lt
    go_wp2_with fail
    clear Cx_0 Cx_1 Cx_l Cy_0 Cy_1 Cy_l
    have H0 := sum_any _ _ xh xc yh yc w12 Sx.out Sy.out (by omega) (by omega) (by omega) (by omega)
    rw [xo.out, yo.out] at H0
    refine H0.mono ?_
    clear H0
    rintro e w13 ⟨hr, hb⟩
    obtain ⟨c3h, c3c, c3p, c3k, c3q, c3j, c3n, rfl, c3R, c3l, c3m, G0⟩ := opres_any hr
    replace Sx := Lib.hid (Sx.out.grows hb)
    replace Cx := Lib.hid (Cx.out.grows hb)
    replace Sy := Lib.hid (Sy.out.grows hb)
    replace Cy := Lib.hid (Cy.out.grows hb)
    replace Cu := Lib.hid (Cu.out.grows hb)
    replace Ct := Lib.hid (Ct.out.grows hb)
    replace HB := Lib.hid (HB.out.trans (hb.mono HB.out.size))
    clear hb
    have Sc3 := Lib.hid (G0)
    clear G0 hr
    have fz0 := Cu.out.free 0
    have fz1 := Cu.out.free 1
    have oc0 := Cu.out.cell 0 rfl
    have oc1 := Cu.out.cell 1 rfl
    replace Sx := Lib.hid (Sx.out.box Cu.out (notbool _ _ _) (notbool _ _ _) (.slice c3p c3h.length c3k) (.slice c3q c3c.length c3j))
    replace Cx := Lib.hid ((Cx.out.other (a := ⟨w4.heap.size, 0, none⟩) (by show _ ≠ w4.heap.size; omega) (.slice c3p c3h.length c3k)).other (a := ⟨w4.heap.size, 1, none⟩) (by show _ ≠ w4.heap.size; omega) (.slice c3q c3c.length c3j))
    replace Sy := Lib.hid (Sy.out.box Cu.out (notbool _ _ _) (notbool _ _ _) (.slice c3p c3h.length c3k) (.slice c3q c3c.length c3j))
    replace Cy := Lib.hid ((Cy.out.other (a := ⟨w4.heap.size, 0, none⟩) (by show _ ≠ w4.heap.size; omega) (.slice c3p c3h.length c3k)).other (a := ⟨w4.heap.size, 1, none⟩) (by show _ ≠ w4.heap.size; omega) (.slice c3q c3c.length c3j))
    replace Ct := Lib.hid ((Ct.out.other (a := ⟨w4.heap.size, 0, none⟩) (by show _ ≠ w4.heap.size; omega) (.slice c3p c3h.length c3k)).other (a := ⟨w4.heap.size, 1, none⟩) (by show _ ≠ w4.heap.size; omega) (.slice c3q c3c.length c3j))
    replace Sc3 := Lib.hid (Sc3.out.box Cu.out (notbool _ _ _) (notbool _ _ _) (.slice c3p c3h.length c3k) (.slice c3q c3c.length c3j))
    replace HB := Lib.hid ((HB.out.setCell (p := ⟨w4.heap.size, 0, none⟩) (by show w.heap.size ≤ w4.heap.size; omega) (.slice c3p c3h.length c3k)).setCell (p := ⟨w4.heap.size, 1, none⟩) (by show w.heap.size ≤ w4.heap.size; omega) (.slice c3q c3c.length c3j))
    replace Cu : Hid (Blk _ w4.heap.size #[.slice c3p c3h.length c3k, .slice c3q c3c.length c3j] 24) := Lib.hid ((Cu.out.set 0 (.slice c3p c3h.length c3k)).set 1 (.slice c3q c3c.length c3j))
    have Cx_0 := Cx.out.cell 0 rfl
    have Cx_1 := Cx.out.cell 1 rfl
    have Cy_0 := Cy.out.cell 0 rfl
    have Cy_1 := Cy.out.cell 1 rfl
    go_wp2_with fail
    clear fz0 fz1 oc0 oc1 Cx_0 Cx_1 Cy_0 Cy_1
    generalize (w13.setCell ⟨w4.heap.size, 0, none⟩ (.slice c3p c3h.length c3k)).setCell ⟨w4.heap.size, 1, none⟩ (.slice c3q c3c.length c3j) = W13 at Sx Cx Sy Cy Cu Ct Sc3 HB ⊢
    refine (rsum_of _ _ xh xc yh yc W13 Sx.out Sy.out xo.out yo.out allShort).mono ?_
    rintro e w14 ⟨hr, hb⟩
    obtain ⟨d3h, d3c, d3p, d3k, d3q, d3j, d3n, rfl, d3R, d3l, d3m, G0⟩ := opres_any hr
    replace Sx := Lib.hid (Sx.out.grows hb)
    replace Cx := Lib.hid (Cx.out.grows hb)
    replace Sy := Lib.hid (Sy.out.grows hb)
    replace Cy := Lib.hid (Cy.out.grows hb)
    replace Cu := Lib.hid (Cu.out.grows hb)
    replace Ct := Lib.hid (Ct.out.grows hb)
    replace Sc3 := Lib.hid (Sc3.out.grows hb)
    replace HB := Lib.hid (HB.out.trans (hb.mono HB.out.size))
    clear hb
    have Sd3 := Lib.hid (G0)
    clear G0 hr
    obtain ⟨e1, e2, e3⟩ := Res.unique c3R.out d3R.out
    subst e1
    subst e2
    subst e3
    clear c3R d3R d3l d3m
    have fz0 := Ct.out.free 0
    have fz1 := Ct.out.free 1
    have oc0 := Ct.out.cell 0 rfl
    have oc1 := Ct.out.cell 1 rfl
    replace Sx := Lib.hid (Sx.out.box Ct.out (notbool _ _ _) (notbool _ _ _) (.slice d3p c3h.length d3k) (.slice d3q c3c.length d3j))
    replace Cx := Lib.hid ((Cx.out.other (a := ⟨w5.heap.size, 0, none⟩) (by show _ ≠ w5.heap.size; omega) (.slice d3p c3h.length d3k)).other (a := ⟨w5.heap.size, 1, none⟩) (by show _ ≠ w5.heap.size; omega) (.slice d3q c3c.length d3j))
    replace Sy := Lib.hid (Sy.out.box Ct.out (notbool _ _ _) (notbool _ _ _) (.slice d3p c3h.length d3k) (.slice d3q c3c.length d3j))
    replace Cy := Lib.hid ((Cy.out.other (a := ⟨w5.heap.size, 0, none⟩) (by show _ ≠ w5.heap.size; omega) (.slice d3p c3h.length d3k)).other (a := ⟨w5.heap.size, 1, none⟩) (by show _ ≠ w5.heap.size; omega) (.slice d3q c3c.length d3j))
    replace Cu := Lib.hid ((Cu.out.other (a := ⟨w5.heap.size, 0, none⟩) (by show _ ≠ w5.heap.size; omega) (.slice d3p c3h.length d3k)).other (a := ⟨w5.heap.size, 1, none⟩) (by show _ ≠ w5.heap.size; omega) (.slice d3q c3c.length d3j))
    replace Sc3 := Lib.hid (Sc3.out.box Ct.out (notbool _ _ _) (notbool _ _ _) (.slice d3p c3h.length d3k) (.slice d3q c3c.length d3j))
    replace Sd3 := Lib.hid (Sd3.out.box Ct.out (notbool _ _ _) (notbool _ _ _) (.slice d3p c3h.length d3k) (.slice d3q c3c.length d3j))
    replace HB := Lib.hid ((HB.out.setCell (p := ⟨w5.heap.size, 0, none⟩) (by show w.heap.size ≤ w5.heap.size; omega) (.slice d3p c3h.length d3k)).setCell (p := ⟨w5.heap.size, 1, none⟩) (by show w.heap.size ≤ w5.heap.size; omega) (.slice d3q c3c.length d3j))
    replace Ct : Hid (Blk _ w5.heap.size #[.slice d3p c3h.length d3k, .slice d3q c3c.length d3j] 24) := Lib.hid ((Ct.out.set 0 (.slice d3p c3h.length d3k)).set 1 (.slice d3q c3c.length d3j))
    have Cu_0 := Cu.out.cell 0 rfl
    have Cu_1 := Cu.out.cell 1 rfl
    have Ct_0 := Ct.out.cell 0 rfl
    have Ct_1 := Ct.out.cell 1 rfl
    go_wp2_with fail
    clear fz0 fz1 oc0 oc1 Cu_0 Cu_1 Ct_0 Ct_1
    generalize (w14.setCell ⟨w5.heap.size, 0, none⟩ (.slice d3p c3h.length d3k)).setCell ⟨w5.heap.size, 1, none⟩ (.slice d3q c3c.length d3j) = W14 at Sx Cx Sy Cy Cu Ct Sc3 Sd3 HB ⊢
    refine (same_is _ _ c3h c3c c3h c3c true W14 Sc3.out Sd3.out ((sameS_iff _ _ _ _).2 ⟨rfl, rfl⟩) (by omega) (by omega) (by omega) (by omega)).mono ?_
    rintro e w15 ⟨rfl, hb⟩
    replace Sx := Lib.hid (Sx.out.grows hb)
    replace Cx := Lib.hid (Cx.out.grows hb)
    replace Sy := Lib.hid (Sy.out.grows hb)
    replace Cy := Lib.hid (Cy.out.grows hb)
    replace Cu := Lib.hid (Cu.out.grows hb)
    replace Ct := Lib.hid (Ct.out.grows hb)
    replace Sc3 := Lib.hid (Sc3.out.grows hb)
    replace Sd3 := Lib.hid (Sd3.out.grows hb)
    replace HB := Lib.hid (HB.out.trans (hb.mono HB.out.size))
    clear hb
    clear Sc3 Sd3
    go_wp2_with fail
    go_ret
    exact ⟨rfl, HB.out⟩
end Go.Proofs.YthnkgdpifebigaaDoor
