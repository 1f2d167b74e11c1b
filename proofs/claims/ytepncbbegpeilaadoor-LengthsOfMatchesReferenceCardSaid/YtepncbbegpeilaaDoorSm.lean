/-
  Walks: the code's Sum.
-/
import Derived.Test.YtepncbbegpeilaaDoorSu
set_option linter.unusedSimpArgs false
set_option linter.unusedVariables false
namespace Go.Proofs.YtepncbbegpeilaaDoor
open Go.RowKit Go.Lib
open Go.Deep
open Go.Sort hiding Below

/-- the first r of the rows of booleans, joined. -/
def accB (SS : Nat → Nat → Bool) (r j : Nat) : Bool := (List.range r).any fun i => SS i j
theorem accB_succ (SS : Nat → Nat → Bool) (r j : Nat) : accB SS (r + 1) j = (accB SS r j || SS r j) := by
  unfold accB; rw [List.range_succ, List.any_append]; simp
theorem accB_four (SS : Nat → Nat → Bool) (j : Nat) : accB SS 4 j = (SS 0 j || SS 1 j || SS 2 j || SS 3 j) := by
  rw [accB_succ, accB_succ, accB_succ, accB_succ]; simp [accB]
/-- the sums of the parts of two sets, part by part. -/
theorem rows_exist (h c h' c' : List Bool) (hc : 0 < c.length) (hc' : 0 < c'.length) : ∃ SS : Nat → Nat → Bool,
    (∀ j, SS 0 j = true ↔ sumsTo (mem2 h c 0 h.length) (mem2 h' c' 0 h'.length) 0 0 j) ∧
    (∀ j, SS 1 j = true ↔ sumsTo (mem2 h c 0 h.length) (mem2 h' c' h'.length (h'.length + c'.length)) 0 c'.length j) ∧
    (∀ j, SS 2 j = true ↔ sumsTo (mem2 h c h.length (h.length + c.length)) (mem2 h' c' 0 h'.length) c.length 0 j) ∧
    (∀ j, SS 3 j = true ↔ sumsTo (mem2 h c h.length (h.length + c.length)) (mem2 h' c' h'.length (h'.length + c'.length)) c.length c'.length j) ∧
    ∀ j, accB SS 4 j = sumB (atL h c) (atL h' c') j := by
  classical
  refine ⟨fun i j => match i with
    | 0 => decide (sumsTo (mem2 h c 0 h.length) (mem2 h' c' 0 h'.length) 0 0 j)
    | 1 => decide (sumsTo (mem2 h c 0 h.length) (mem2 h' c' h'.length (h'.length + c'.length)) 0 c'.length j)
    | 2 => decide (sumsTo (mem2 h c h.length (h.length + c.length)) (mem2 h' c' 0 h'.length) c.length 0 j)
    | _ => decide (sumsTo (mem2 h c h.length (h.length + c.length)) (mem2 h' c' h'.length (h'.length + c'.length)) c.length c'.length j),
    fun j => decide_eq_true_iff, fun j => decide_eq_true_iff, fun j => decide_eq_true_iff, fun j => decide_eq_true_iff, fun j => ?_⟩
  rw [accB_four, Bool.eq_iff_iff, sum_parts h c h' c' hc hc']
  simp only [Bool.or_eq_true, decide_eq_true_iff, or_assoc]
theorem own_setN {w : World} {base : Nat} {v : Value} {l : List Nat} (h : w.ownsRow base 3 1 v l.length (l.map encN)) {p : Addr} (hp : p.block < base) (u : Value) : (w.setCell p u).ownsRow base 3 1 v l.length (l.map encN) := own_set h hp u
/-- two rows of numbers of one's own. -/
structure Pair (B : Nat) (v0 v1 : Value) (xs0 xs1 : List Nat) (W : World) : Prop where
  o0 : W.ownsRow B 3 1 v0 xs0.length (xs0.map encN)
  o1 : W.ownsRow B 3 1 v1 xs1.length (xs1.map encN)
theorem Pair.grows {B : Nat} {v0 v1 : Value} {xs0 xs1 : List Nat} {W W' : World} (h : Pair B v0 v1 xs0 xs1 W) (hb : Below W.heap.size W W') : Pair B v0 v1 xs0 xs1 W' := ⟨own_below h.o0 hb, own_below h.o1 hb⟩
theorem Pair.set {B : Nat} {v0 v1 : Value} {xs0 xs1 : List Nat} {W : World} (h : Pair B v0 v1 xs0 xs1 W) {p : Addr} (hp : p.block < B) (u : Value) : Pair B v0 v1 xs0 xs1 (W.setCell p u) := ⟨own_set h.o0 hp u, own_set h.o1 hp u⟩
theorem below_alloc1 (W : World) (o : Obj) : Below W.heap.size W (W.alloc o) := (Below.refl _ W).alloc (Nat.le_refl _) o
theorem acc_round (SS : Nat → Nat → Bool) (r k : Nat) (x y : Bool) (hx : accB SS r k = x) (hy : SS r k = y) : accB SS (r + 1) k = (x || y) := by rw [accB_succ, hx, hy]
theorem rowT_low (S G : Nat → Bool) (k : Nat) : rowT S G k k = G k := by unfold rowT; rw [if_neg (by omega)]
set_option maxRecDepth 100000 in
set_option maxHeartbeats 4000000 in
theorem sum_any (va vb : Value) (h c h' c' : List Bool) (w : World) (hva : IsSet w va h c) (hvb : IsSet w vb h' c') (h1 : h.length ≤ 1152921504606846976) (h2 : c.length ≤ 1152921504606846976) (h3 : h'.length ≤ 1152921504606846976) (h4 : c'.length ≤ 1152921504606846976) :
    Calls Tryd.prog 10 #[va, vb] w fun e w' => OpRes w.heap.size (okLen h.length c.length && okLen h'.length c'.length) (sumB (atL h c) (atL h' c')) w' e ∧ Below w.heap.size w w' := by
  obtain ⟨hp, hk, cp, ck, rfl, a1, a2⟩ := hva.shape
  obtain ⟨hp', hk', cp', ck', rfl, b1, b2⟩ := hvb.shape
  have HV := Lib.hid (fun W => valid_any hp cp h.length hk c.length ck W h1 h2)
  have HV' := Lib.hid (fun W => valid_any hp' cp' h'.length hk' c'.length ck' W h3 h4)
  cases ho : okLen h.length c.length
  · rw [ho] at HV
    clear ho hva hvb a1 a2 b1 b2 HV'
    go_enter Tryd.func10, Tryd.ntmps10
    go_wp2_with (go_at_call 24; with_reducible refine (HV.out _).mono ?_; rintro e w1 ⟨rfl, hb1⟩; have hR1 := (Blk.alloc2 w _ _ _ _).grows hb1; have r0 := hR1.cell 0 rfl; have r1 := hR1.cell 1 rfl; have z0 := hR1.free 0; have z1 := hR1.free 1)
    have q0 : (w1.setCell ⟨w.heap.size + 2, 0, none⟩ (.slice none 0 0)).cell? ⟨w.heap.size + 2, 0, none⟩ = some (.slice none 0 0) := (hR1.set 0 _).cell 0 rfl
    have q1 : ((w1.setCell ⟨w.heap.size + 2, 0, none⟩ (.slice none 0 0)).setCell ⟨w.heap.size + 2, 1, none⟩ (.slice none 0 0)).cell? ⟨w.heap.size + 2, 1, none⟩ = some (.slice none 0 0) := ((hR1.set 0 _).set 1 _).cell 1 rfl
    refine bodyPost_ret (v := .tuple #[.agg #[.slice none 0 0, .slice none 0 0], .int .i64 1]) (by simp [results, Tryd.results10, go_sem, q0, q1]) rfl ⟨.inl ⟨rfl, rfl⟩, ((below_one (below_one (below_one hb1))).setCell (Nat.le_add_right _ 2) _).setCell (Nat.le_add_right _ 2) _⟩
  · cases ho' : okLen h'.length c'.length
    · rw [ho] at HV
      rw [ho'] at HV'
      clear ho ho' hva hvb a1 a2 b1 b2
      go_enter Tryd.func10, Tryd.ntmps10
      go_wp2_with (first | (go_at_call 24; with_reducible refine (HV.out _).mono ?_; rintro e w1 ⟨rfl, hb1⟩; have hX1 := (((Blk.new w _ _).alloc _).alloc _).grows hb1; have hY1 := ((Blk.alloc1 w _ _ _ _).alloc _).grows hb1; have hR1 := (Blk.alloc2 w _ _ _ _).grows hb1; have y0 := hY1.cell 0 rfl; have y1 := hY1.cell 1 rfl) | (go_at_call 24; with_reducible refine (HV'.out _).mono ?_; rintro e w2 ⟨rfl, hb2⟩; have hR2 := hR1.grows hb2; have r0 := hR2.cell 0 rfl; have r1 := hR2.cell 1 rfl; have z0 := hR2.free 0; have z1 := hR2.free 1))
      have q0 : (w2.setCell ⟨w.heap.size + 2, 0, none⟩ (.slice none 0 0)).cell? ⟨w.heap.size + 2, 0, none⟩ = some (.slice none 0 0) := (hR2.set 0 _).cell 0 rfl
      have q1 : ((w2.setCell ⟨w.heap.size + 2, 0, none⟩ (.slice none 0 0)).setCell ⟨w.heap.size + 2, 1, none⟩ (.slice none 0 0)).cell? ⟨w.heap.size + 2, 1, none⟩ = some (.slice none 0 0) := ((hR2.set 0 _).set 1 _).cell 1 rfl
      refine bodyPost_ret (v := .tuple #[.agg #[.slice none 0 0, .slice none 0 0], .int .i64 1]) (by simp [results, Tryd.results10, go_sem, q0, q1]) rfl ⟨.inl ⟨rfl, rfl⟩, ((below_two (below_one (below_one (below_one hb1))) hb2).setCell (Nat.le_add_right _ 2) _).setCell (Nat.le_add_right _ 2) _⟩
    · rw [ho] at HV
      rw [ho'] at HV'
      obtain ⟨hc, hs⟩ := okLen_pos ho
      obtain ⟨hc', hs'⟩ := okLen_pos ho'
      obtain ⟨i0, hi, hz0, hz1, hz2⟩ := info_parts infoBool
      have HA := Lib.hid (fun (k : Nat) (hk : k ≤ 9223372036854775807) W (hW : Below w.heap.size w W) => member_any _ h c k W (hva.grows hW) hc h1 h2 hk)
      have HB := Lib.hid (fun (k : Nat) (hk : k ≤ 9223372036854775807) W (hW : Below w.heap.size w W) => member_any _ h' c' k W (hvb.grows hW) hc' h3 h4 hk)
      have HMu := Lib.hid (fun W => multiple_any c.length c'.length W hc hc' (by omega) (by omega))
      have hm0 := mulOf_pos c.length c'.length hc hc'
      have hml : mulOf c.length c'.length ≤ 512 * 512 := Nat.le_trans (mulOf_le _ _) (Nat.mul_le_mul (by omega) (by omega))
      obtain ⟨SS, hS0, hS1, hS2, hS3, hacc⟩ := rows_exist h c h' c' hc hc'
      have HP := Lib.hid (fun W (hW : Below w.heap.size w W) => parts_any _ h c W (hva.grows hW) hc hs)
      have HP' := Lib.hid (fun W (hW : Below w.heap.size w W) => parts_any _ h' c' W (hvb.grows hW) hc' hs')
      have HFr := Lib.hid (sumB_from (atL h c) (atL h' c') (mulOf c.length c'.length) h.length h'.length (lcm_from (atL_from h c hc) _ (mulOf_left _ _)) (lcm_from (atL_from h' c' hc') _ (mulOf_right _ _)))
      have hcm : c.length ≤ mulOf c.length c'.length := Nat.le_of_dvd hm0 (mulOf_left _ _)
      have hcm' : c'.length ≤ mulOf c.length c'.length := Nat.le_of_dvd hm0 (mulOf_right _ _)
      generalize mulOf c.length c'.length = m at HMu hm0 hml HFr hcm hcm'
      obtain ⟨F, hF⟩ : ∃ F : Nat → Bool, F = sumB (atL h c) (atL h' c') := ⟨_, rfl⟩
      rw [← hF] at HFr hacc ⊢
      clear HA HB ho ho' hva hvb a1 a2 b1 b2 hF
      obtain ⟨H, hH⟩ : ∃ H, h.length + h'.length + m = H := ⟨_, rfl⟩
      rw [hH] at HFr
      obtain ⟨n, hn⟩ : ∃ n, H + m = n := ⟨_, rfl⟩
      have HRep := Lib.hid (rep_of_fun F H m hm0 HFr.out ((List.range n).map F) (by simp [hn]) (fun j hj => range_getD n F j (by omega)))
      have e0 : (h.length : Int) + (h'.length : Int) + (m : Int) = (H : Int) := by omega
      have e1 : (H : Int) + (m : Int) = (n : Int) := by omega
      have hnl : n ≤ 1048576 := by omega
      have HM := Lib.hid ((rowB_zero n F).trans ((rowB_start n F).trans (rowB_congr (G := accB SS 0) fun j _ => rfl)))
      have HN := Lib.hid (show h.length + c.length + h'.length + c'.length ≤ n by omega)
      clear hn HFr hH hcm hcm'
      go_enter Tryd.func10, Tryd.ntmps10
      go_wp2_with (first
        | (go_at_call 24; with_reducible refine (HV.out _).mono ?_; rintro e w1 ⟨rfl, hb1⟩; have X1 := (((Blk.new w _ _).alloc _).alloc _).grows hb1; have Y1 := ((Blk.alloc1 w _ _ _ _).alloc _).grows hb1; have R1 := (Blk.alloc2 w _ _ _ _).grows hb1; have hbw1 := below_one (below_one (below_one hb1)); have y0 := Y1.cell 0 rfl; have y1 := Y1.cell 1 rfl)
        | (go_at_call 24; with_reducible refine (HV'.out _).mono ?_; rintro e w2 ⟨rfl, hb2⟩; have X2 := X1.grows hb2; have Y2 := Y1.grows hb2; have R2 := R1.grows hb2; have hbw2 := below_two hbw1 hb2; have x0 := X2.cell 0 rfl; have x1 := X2.cell 1 rfl; have y2 := Y2.cell 0 rfl; have y3 := Y2.cell 1 rfl)
        | (go_at_call 26; with_reducible refine (HMu.out _).mono ?_; rintro e w3 ⟨rfl, hb3⟩; have X3 := X2.grows hb3; have Y3 := Y2.grows hb3; have R3 := R2.grows hb3; have hbw3 := below_two hbw2 hb3; have x4 := X3.cell 0 rfl; have x5 := X3.cell 1 rfl; have y4 := Y3.cell 0 rfl; have y5 := Y3.cell 1 rfl)
        | (at_make; refine wpList_make_row _ rfl _ _ 26 rfl 4 i0 _ Tryd.underlying26 hi hz0 hz1 rfl _ _ n rfl rfl (by rw [hz2]; omega) (by omega) ?_; rw [HM.out]; have X4 := X3.alloc (.cells (rowB n n (accB SS 0)) 4); have Y4 := Y3.alloc (.cells (rowB n n (accB SS 0)) 4); have R4 := R3.alloc (.cells (rowB n n (accB SS 0)) 4); have G4 := Blk.new w3 (rowB n n (accB SS 0)) 4; have hbw4 := hbw3.alloc hbw3.size (.cells (rowB n n (accB SS 0)) 4); have x6 := X4.cell 0 rfl; have x7 := X4.cell 1 rfl)
        | (go_at_call 27; with_reducible refine (HP.out _ hbw4).mono ?_; rintro e w5 ⟨⟨u0, u1, rfl, OU0, OU1⟩, hb5⟩; obtain ⟨p0, k0, rfl⟩ := own_shape OU0; obtain ⟨p1, k1, rfl⟩ := own_shape OU1; have X5 := X4.grows hb5; have Y5 := Y4.grows hb5; have R5 := R4.grows hb5; have G5 := G4.grows hb5; have hbw5 := below_two hbw4 hb5))
      have hgs : w.heap.size + 2 < w3.heap.size := R3.lt
      have hBa : w3.heap.size < (w3.alloc (.cells (rowB n n (accB SS 0)) 4)).heap.size := G4.lt
      have hB5 : (w3.alloc (.cells (rowB n n (accB SS 0)) 4)).heap.size ≤ w5.heap.size := hb5.size
      generalize (w3.alloc (.cells (rowB n n (accB SS 0)) 4)).heap.size = B at OU0 OU1 hBa hB5
      generalize w3.heap.size = g at G5 hgs hBa ⊢
      clear hb1 hb2 hb3 hb5 X1 X2 X3 X4 Y1 Y2 Y3 Y4 R1 R2 R3 R4 G4 x0 x1 x4 x5 x6 x7 y0 y1 y2 y3 y4 y5 hbw1 hbw2 hbw3 hbw4
      have ml0 := mem2_len h c 0 h.length
      have ml1 := mem2_len h c h.length (h.length + c.length)
      have nl0 := mem2_len h' c' 0 h'.length
      have nl1 := mem2_len h' c' h'.length (h'.length + c'.length)
      have HL := Lib.hid (show ∀ x, x ∈ mem2 h c 0 h.length ∨ x ∈ mem2 h c h.length (h.length + c.length) → ∀ y, y ∈ mem2 h' c' 0 h'.length ∨ y ∈ mem2 h' c' h'.length (h'.length + c'.length) → x + y < n from fun x hx y hy => by
        have hx2 : x < h.length + c.length := by
          rcases hx with hx | hx
          · have := ((in_mem2 _ _ _ _ _).1 hx).1; omega
          · exact ((in_mem2 _ _ _ _ _).1 hx).1
        have hy2 : y < h'.length + c'.length := by
          rcases hy with hy | hy
          · have := ((in_mem2 _ _ _ _ _).1 hy).1; omega
          · exact ((in_mem2 _ _ _ _ _).1 hy).1
        have := HN.out; omega)
      have HSS := Lib.hid (And.intro hS0 (And.intro hS1 (And.intro hS2 hS3)))
      clear hS0 hS1 hS2 hS3
      clear HP
      generalize mem2 h c 0 h.length = xs0 at OU0 ml0 HL HSS ⊢
      generalize mem2 h c h.length (h.length + c.length) = xs1 at OU1 ml1 HL HSS ⊢
      generalize mem2 h' c' 0 h'.length = ys0 at HP' nl0 HL HSS
      generalize mem2 h' c' h'.length (h'.length + c'.length) = ys1 at HP' nl1 HL HSS
      have PU5 : Pair B (.slice p0 xs0.length k0) (.slice p1 xs1.length k1) xs0 xs1 w5 := ⟨OU0, OU1⟩
      clear OU0 OU1 X5
      go_loopw [46] (fun i wr => ∃ a : Nat, i = .int .i64 a ∧ a ≤ 2 ∧ Blk wr g (rowB n n (accB SS (2 * a))) 4 ∧ Blk wr (w.heap.size + 1) #[.slice hp' h'.length hk', .slice cp' c'.length ck'] 31 ∧ Blk wr (w.heap.size + 2) #[.slice none 0 0, .slice none 0 0] 31 ∧ Pair B (.slice p0 xs0.length k0) (.slice p1 xs1.length k1) xs0 xs1 wr ∧ B ≤ wr.heap.size ∧ Below w.heap.size w wr) (fun i _ => 2 - (RowKit.intOf i).toNat)
      case atStart => exact ⟨0, rfl, by omega, G5, Y5, R5, PU5, hB5, hbw5⟩
      case round =>
        clear G5 Y5 R5 PU5 hB5 hbw5
        obtain ⟨a, rfl, ha, G, Y, R, PU, hBw, hbw⟩ := hrel
        by_cases hal : a < 2
        · have hgen : ∃ (px : Option Addr) (xs : List Nat) (kx sx : Nat), (∀ W : World, (Instr.index 60 (.agg #[.slice p0 xs0.length k0, .int .i64 0, .slice p1 xs1.length k1, .int .i64 (c.length : Int)]) (.int .i64 (a : Int))).run Tryd.prog W = .ok (.agg #[.slice px xs.length kx, .int .i64 (sx : Int)]) W) ∧
              wr.ownsRow B 3 1 (.slice px xs.length kx) xs.length (xs.map encN) ∧ xs.length ≤ 512 ∧ sx ≤ 512 ∧ (∀ x ∈ xs, ∀ y, y ∈ ys0 ∨ y ∈ ys1 → x + y < n) ∧ (∀ j, SS (2 * a) j = true ↔ sumsTo xs ys0 sx 0 j) ∧ (∀ j, SS (2 * a + 1) j = true ↔ sumsTo xs ys1 sx c'.length j) := by
            have ha2 : a = 0 ∨ a = 1 := by omega
            rcases ha2 with rfl | rfl
            · exact ⟨p0, xs0, k0, 0, fun _ => by kernel_rfl, PU.o0, by omega, by omega, fun x hx => HL.out x (.inl hx), HSS.out.1, HSS.out.2.1⟩
            · exact ⟨p1, xs1, k1, c.length, fun _ => by kernel_rfl, PU.o1, by omega, by omega, fun x hx => HL.out x (.inr hx), HSS.out.2.2.1, HSS.out.2.2.2⟩
          obtain ⟨px, xs, kx, sx, hix, OX, hxl, hsx, hxy, hSa, hSb⟩ := hgen
          have y0 := Y.cell 0 rfl
          have y1 := Y.cell 1 rfl
          have Y1 := Y.alloc (.cells #[.slice px xs.length kx, .int .i64 (sx : Int)] 59)
          have y2 := Y1.cell 0 rfl
          have y3 := Y1.cell 1 rfl
          have hbw1 : Below w.heap.size w (wr.alloc (.cells #[.slice px xs.length kx, .int .i64 (sx : Int)] 59)) := hbw.alloc hbw.size _
          have HXY := Lib.hid hxy
          have HSab := Lib.hid (And.intro hSa hSb)
          clear hxy hSa hSb
          go_wp2_with (first
            | (go_at_call 27; with_reducible refine (HP'.out _ hbw1).mono ?_; rintro e w6 ⟨⟨v0, v1, rfl, OV0, OV1⟩, hb6⟩; obtain ⟨r0, l0, rfl⟩ := own_shape OV0; obtain ⟨r1, l1, rfl⟩ := own_shape OV1))
          have hqB : wr.heap.size < (wr.alloc (.cells #[.slice px xs.length kx, .int .i64 (sx : Int)] 59)).heap.size := (Blk.new wr #[.slice px xs.length kx, .int .i64 (sx : Int)] 59).lt
          have hB6 : (wr.alloc (.cells #[.slice px xs.length kx, .int .i64 (sx : Int)] 59)).heap.size ≤ w6.heap.size := hb6.size
          have G6 := (G.alloc (.cells #[.slice px xs.length kx, .int .i64 (sx : Int)] 59)).grows hb6
          have Y6 := Y1.grows hb6
          have R6 := (R.alloc (.cells #[.slice px xs.length kx, .int .i64 (sx : Int)] 59)).grows hb6
          have PU6 := (PU.grows (below_alloc1 wr (.cells #[.slice px xs.length kx, .int .i64 (sx : Int)] 59))).grows hb6
          have OX6 := own_below (own_alloc OX (.cells #[.slice px xs.length kx, .int .i64 (sx : Int)] 59)) hb6
          have Q6 := (Blk.new wr #[.slice px xs.length kx, .int .i64 (sx : Int)] 59).grows hb6
          have hbw6 := below_two hbw1 hb6
          generalize (wr.alloc (.cells #[.slice px xs.length kx, .int .i64 (sx : Int)] 59)).heap.size = Bb at OV0 OV1 hqB hB6
          have PV6 : Pair Bb (.slice r0 ys0.length l0) (.slice r1 ys1.length l1) ys0 ys1 w6 := ⟨OV0, OV1⟩
          clear OV0 OV1 OX PU G Y R Y1 y0 y1 y2 y3 hbw hbw1 hb6
          generalize wr.heap.size = qx at hBw hqB Q6 ⊢
          go_loopw [51] (fun i wi => ∃ b : Nat, i = .int .i64 b ∧ b ≤ 2 ∧ Blk wi g (rowB n n (accB SS (2 * a + b))) 4 ∧ Blk wi (w.heap.size + 1) #[.slice hp' h'.length hk', .slice cp' c'.length ck'] 31 ∧ Blk wi (w.heap.size + 2) #[.slice none 0 0, .slice none 0 0] 31 ∧ Pair B (.slice p0 xs0.length k0) (.slice p1 xs1.length k1) xs0 xs1 wi ∧
              wi.ownsRow B 3 1 (.slice px xs.length kx) xs.length (xs.map encN) ∧ Blk wi qx #[.slice px xs.length kx, .int .i64 (sx : Int)] 59 ∧ Pair Bb (.slice r0 ys0.length l0) (.slice r1 ys1.length l1) ys0 ys1 wi ∧ Bb ≤ wi.heap.size ∧ Below w.heap.size w wi) (fun i _ => 2 - (RowKit.intOf i).toNat)
          case atStart => exact ⟨0, rfl, by omega, G6, Y6, R6, PU6, OX6, Q6, PV6, hB6, hbw6⟩
          case round =>
            clear G6 Y6 R6 PU6 OX6 Q6 PV6 hB6 hbw6
            obtain ⟨b, rfl, hb, G, Y, R, PU, OX, Q, PV, hBb, hbw⟩ := hrel
            by_cases hbl : b < 2
            · have hgen : ∃ (py : Option Addr) (ys : List Nat) (ky ty : Nat), (∀ W : World, (Instr.index 60 (.agg #[.slice r0 ys0.length l0, .int .i64 0, .slice r1 ys1.length l1, .int .i64 (c'.length : Int)]) (.int .i64 (b : Int))).run Tryd.prog W = .ok (.agg #[.slice py ys.length ky, .int .i64 (ty : Int)]) W) ∧
                  wr.ownsRow Bb 3 1 (.slice py ys.length ky) ys.length (ys.map encN) ∧ ys.length ≤ 512 ∧ ty ≤ 512 ∧ (∀ x ∈ xs, ∀ y ∈ ys, x + y < n) ∧ (∀ j, SS (2 * a + b) j = true ↔ sumsTo xs ys sx ty j) := by
                have hb2 : b = 0 ∨ b = 1 := by omega
                rcases hb2 with rfl | rfl
                · exact ⟨r0, ys0, l0, 0, fun _ => by kernel_rfl, PV.o0, by omega, by omega, fun x hx y hy => HXY.out x hx y (.inl hy), HSab.out.1⟩
                · exact ⟨r1, ys1, l1, c'.length, fun _ => by kernel_rfl, PV.o1, by omega, by omega, fun x hx y hy => HXY.out x hx y (.inr hy), HSab.out.2⟩
              obtain ⟨py, ys, ky, ty, hiy, OY, hyl, hty, hxy2, hS⟩ := hgen
              have HSu := Lib.hid (sums_any px py kx ky sx ty n xs ys (SS (2 * a + b)) (wr.alloc (.cells #[.slice py ys.length ky, .int .i64 (ty : Int)] 59)) (own_isN (own_alloc OX _)) (own_isN (own_alloc OY _)) hS (by omega) (by omega) hnl hxy2 (by omega) (by omega))
              have Q1 := Q.alloc (.cells #[.slice py ys.length ky, .int .i64 (ty : Int)] 59)
              have q0 := Q1.cell 0 rfl
              have q1 := Q1.cell 1 rfl
              have hbw1 : Below w.heap.size w (wr.alloc (.cells #[.slice py ys.length ky, .int .i64 (ty : Int)] 59)) := hbw.alloc hbw.size _
              clear hS hxy2
              go_wp2_with (first
                | (go_at_call 28; with_reducible refine HSu.out.mono ?_; rintro e w7 ⟨⟨gs, rfl, hgs7, GS⟩, hb7⟩))
              have hgg : g < gs := Nat.lt_of_lt_of_le hBa (Nat.le_trans (Nat.le_trans (Nat.le_of_lt (Nat.lt_of_le_of_lt hBw hqB)) hBb) (Nat.le_trans (below_alloc1 wr _).size hgs7))
              have G7 := ((G.alloc (.cells #[.slice py ys.length ky, .int .i64 (ty : Int)] 59)).grows hb7).cast (show _ = rowB n n (rowT (accB SS (2 * a + b + 1)) (accB SS (2 * a + b)) 0) from rowB_congr fun j _ => by unfold rowT; rw [if_neg (by omega)])
              have Y7 := (Y.alloc (.cells #[.slice py ys.length ky, .int .i64 (ty : Int)] 59)).grows hb7
              have R7 := (R.alloc (.cells #[.slice py ys.length ky, .int .i64 (ty : Int)] 59)).grows hb7
              have PU7 := (PU.grows (below_alloc1 wr (.cells #[.slice py ys.length ky, .int .i64 (ty : Int)] 59))).grows hb7
              have OX7 := own_below (own_alloc OX (.cells #[.slice py ys.length ky, .int .i64 (ty : Int)] 59)) hb7
              have Q7 := Q1.grows hb7
              have PV7 := (PV.grows (below_alloc1 wr (.cells #[.slice py ys.length ky, .int .i64 (ty : Int)] 59))).grows hb7
              have hB7 : Bb ≤ w7.heap.size := Nat.le_trans hBb (Nat.le_trans (below_alloc1 wr _).size hb7.size)
              have hbw7 := below_two hbw1 hb7
              have hqg : qx ≠ g := by omega
              have hgB : g < Bb := by omega
              clear G Y R PU OX Q PV hBb hbw OY HSu Q1 q0 q1 hbw1 hb7 hgs7
              go_loopw [60] (fun i wi => ∃ k : Nat, i = .int .i64 k ∧ k ≤ n ∧ Blk wi g (rowB n n (rowT (accB SS (2 * a + b + 1)) (accB SS (2 * a + b)) k)) 4 ∧ Blk wi gs (rowB n n (SS (2 * a + b))) 4 ∧ Blk wi (w.heap.size + 1) #[.slice hp' h'.length hk', .slice cp' c'.length ck'] 31 ∧ Blk wi (w.heap.size + 2) #[.slice none 0 0, .slice none 0 0] 31 ∧ Pair B (.slice p0 xs0.length k0) (.slice p1 xs1.length k1) xs0 xs1 wi ∧
                  wi.ownsRow B 3 1 (.slice px xs.length kx) xs.length (xs.map encN) ∧ Blk wi qx #[.slice px xs.length kx, .int .i64 (sx : Int)] 59 ∧ Pair Bb (.slice r0 ys0.length l0) (.slice r1 ys1.length l1) ys0 ys1 wi ∧ Bb ≤ wi.heap.size ∧ Below w.heap.size w wi) (fun i _ => n - (RowKit.intOf i).toNat)
              case atStart => exact ⟨0, rfl, by omega, G7, GS, Y7, R7, PU7, OX7, Q7, PV7, hB7, hbw7⟩
              case round =>
                clear G7 GS Y7 R7 PU7 OX7 Q7 PV7 hB7 hbw7
                obtain ⟨k, rfl, hkn, G, GS, Y, R, PU, OX, Q, PV, hBb, hbw⟩ := hrel
                by_cases hlt : k < n
                · have c0 := G.cell k (rowB_full _ _ _ hlt)
                  rw [rowT_low] at c0
                  have c1 := GS.cell k (rowB_full _ _ _ hlt)
                  have f0 := G.free k
                  have hr := acc_round SS (2 * a + b) k _ _ rfl rfl
                  have HPut := Lib.hid (fun v (hv : accB SS (2 * a + b + 1) k = v) => (rowB_put n (rowT (accB SS (2 * a + b + 1)) (accB SS (2 * a + b)) k) k v).trans (rowB_congr fun j _ => rowT_put (accB SS (2 * a + b + 1)) (accB SS (2 * a + b)) k v hv j))
                  generalize accB SS (2 * a + b) k = x at c0 hr
                  generalize SS (2 * a + b) k = y at c1 hr
                  have HG := Lib.hid G
                  clear G
                  cases x
                  all_goals
                    have HP := Lib.hid (HPut.out _ hr)
                    clear hr HPut
                    simp only [Bool.false_or, Bool.true_or] at HP
                    go_wp2
                    go_roundw
                    case rel => exact ⟨k + 1, by go_num, by omega, (HG.out.set k _).cast HP.out, GS.other (by show gs ≠ g; omega) _, Y.other (by show w.heap.size + 1 ≠ g; omega) _, R.other (by show w.heap.size + 2 ≠ g; omega) _, PU.set (by show g < B; omega) _, own_set (p := ⟨g, k, none⟩) OX (by show g < B; omega) _, Q.other (by show qx ≠ g; omega) _, PV.set (by show g < Bb; omega) _, by simpa using hBb, hbw.setCell (by show w.heap.size ≤ g; omega) _⟩
                    case measure => simp [RowKit.intOf]; omega
                · obtain rfl : k = n := by omega
                  have G := G.cast (show _ = rowB k k (accB SS (2 * a + (b + 1))) from rowB_congr fun j hj => by unfold rowT; rw [if_pos hj]; rfl)
                  go_wp2
                  go_roundw
                  case rel => exact ⟨b + 1, by go_num, by omega, G, Y, R, PU, OX, Q, PV, hBb, hbw⟩
                  case measure => simp [RowKit.intOf]; omega
            · obtain rfl : b = 2 := by omega
              have G := G.cast (show _ = rowB n n (accB SS (2 * (a + 1))) from by rw [show 2 * a + 2 = 2 * (a + 1) by omega])
              go_wp2
              go_roundw
              case rel => exact ⟨a + 1, by go_num, by omega, G, Y, R, PU, by omega, hbw⟩
              case measure => simp [RowKit.intOf]; omega
        · obtain rfl : a = 2 := by omega
          have hrd := rowB_reads (G.cast (show _ = rowB n n F from rowB_congr fun j _ => hacc j))
          have hlr : w.heap.size + 2 < wr.heap.size := R.lt
          clear G
          go_wp2_with (go_at_call 17; ((with_reducible refine (canonical_at g n n ((List.range n).map F) H F wr hrd HRep.out (by simp) (Nat.le_refl _) hnl (by omega)).mono ?_)); rintro e w5 ⟨hres, hb5⟩; obtain ⟨rp, rl, rk, sp, sl, sk, en, rfl⟩ := hres.shape; have R5 := R.grows hb5; have s0 := R5.cell 0 rfl; have s1 := R5.cell 1 rfl; have z0 := R5.free 0; have z1 := R5.free 1)
          have q0 : (w5.setCell ⟨w.heap.size + 2, 0, none⟩ (.slice rp rl rk)).cell? ⟨w.heap.size + 2, 0, none⟩ = some (.slice rp rl rk) := (R5.set 0 _).cell 0 rfl
          have q1 : ((w5.setCell ⟨w.heap.size + 2, 0, none⟩ (.slice rp rl rk)).setCell ⟨w.heap.size + 2, 1, none⟩ (.slice sp sl sk)).cell? ⟨w.heap.size + 2, 1, none⟩ = some (.slice sp sl sk) := ((R5.set 0 _).set 1 _).cell 1 rfl
          refine bodyPost_ret (v := .tuple #[.agg #[.slice rp rl rk, .slice sp sl sk], .int .i64 en]) (by simp [results, Tryd.results10, go_sem, q0, q1]) rfl ⟨((hres.set (p := ⟨w.heap.size + 2, 0, none⟩) hlr _).set (p := ⟨w.heap.size + 2, 1, none⟩) hlr _).mono (by omega), ((below_two hbw hb5).setCell (Nat.le_add_right _ 2) _).setCell (Nat.le_add_right _ 2) _⟩
end Go.Proofs.YtepncbbegpeilaaDoor
