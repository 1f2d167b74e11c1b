/-
  Walks: the reference's Shortest.
-/
import Derived.Test.YtepncbbegpeilaaDoorRp
import Derived.Test.YtepncbbegpeilaaDoorMd
import Derived.Test.YtepncbbegpeilaaDoorLo
import Derived.Deep.RegionHeld3
set_option linter.unusedSimpArgs false
set_option linter.unusedVariables false
namespace Go.Proofs.YtepncbbegpeilaaDoor
open Go.RowKit Go.Lib

theorem atq {W : World} {v : Value} {h c : List Bool} {n : Nat} {b : Bool} (hv : IsSet W v h c) (hb : atL h c n = b) (hc : 0 < c.length) (h1 : h.length ≤ 1152921504606846976) (h2 : c.length ≤ 1152921504606846976) (hn : n ≤ 9223372036854775807) (d : Nat) (os : Array Obj) :
    Calls Tryd.prog 46 #[v, .int .i64 (n : Int)] (Go.Sort.grow (redrawn W d) os) fun e w' => e = .returned (.bool b) ∧ ∃ p : Regrown, w' = Go.Sort.grow (redrawn W p.d) p.os :=
  Calls.regrown_of (hb ▸ at_any v h c n _ (hv.grows (below_regrown W d os)) hc h1 h2 hn)
theorem canon_tab {f : Nat → Bool} {l : List Bool} {H p N : Nat} (r : Rep f l H) (hp : IsPer (l.drop H) p) (hN : N ≤ H) (hF : From f p N) (hL : N = 0 ∨ f (N - 1) ≠ f (N - 1 + p)) :
    IsCanon f ((List.range N).map f) ((List.range p).map fun i => f (N + i)) := by
  have key := canon_of r hp hN hF hL
  have hlt := r.lt
  have hpl : p ≤ l.length - H := by have := hp.le; simpa using this
  have k1 : l.take N = (List.range N).map f := by
    apply List.ext_getElem (by simp; omega)
    intro i h1 h2
    have hi : i < N := by simpa using h2
    have := r.val i (by omega)
    rw [List.getD_eq_getElem?_getD, List.getElem?_eq_getElem (by omega)] at this
    simpa using this
  have k2 : (l.drop N).take p = (List.range p).map fun i => f (N + i) := by
    apply List.ext_getElem (by simp; omega)
    intro i h1 h2
    have hi : i < p := by simpa using h2
    have := r.val (N + i) (by omega)
    rw [List.getD_eq_getElem?_getD, List.getElem?_eq_getElem (by omega)] at this
    simpa using this
  rwa [k1, k2] at key
def ld0 : Op := Op.load 26 (Operand.tmp 45)
theorem ld0_eq : Op.load 26 (Operand.tmp 45) = ld0 := rfl
def ld1 : Op := Op.load 26 (Operand.tmp 53)
theorem ld1_eq : Op.load 26 (Operand.tmp 53) = ld1 := rfl
attribute [local go_sem] ld0 ld1
theorem range_snocB (f : Nat → Bool) (n : Nat) : (List.range (n + 1)).map f = (List.range n).map f ++ [f n] := by rw [List.range_succ, List.map_append]; rfl
set_option maxRecDepth 100000 in
set_option maxHeartbeats 8000000 in
theorem shortest_any (v : Value) (h c : List Bool) (w : World) (hv : IsSet w v h c) (hc : 0 < c.length) (hs : h.length + c.length ≤ 1048576) :
    Calls Tryd.prog 37 #[v] w fun e w' => (∃ h' c' vo, IsCanon (atL h c) h' c' ∧ e = .returned vo ∧ OwnSet w' w.heap.size vo h' c') ∧ Below w.heap.size w w' := by
  obtain ⟨hp, hk, cp, ck, rfl, a1, a2⟩ := hv.shape
  obtain ⟨i0, hi, hz0, hz1, hz2⟩ := info_parts infoBool
  have HS := Lib.hid (fun W (hW : Below w.heap.size w W) => hv.grows hW)
  have HRe := Lib.hid (fun W (hW : Below w.heap.size w W) P (h0 : 0 < P) (h1 : P ≤ c.length) => repeats_any _ c P W (a2.grows hW) h0 (by omega) (by omega))
  have HRep := Lib.hid (rep_of_set h c hc)
  clear hv a1 a2
  obtain ⟨f, hf⟩ : ∃ f, atL h c = f := ⟨_, rfl⟩
  have HF := Lib.hid hf
  rw [hf] at HRep ⊢
  clear hf
  have X := (Blk.new w #[.slice hp h.length hk, .slice cp c.length ck] 31).alloc (.cells #[.slice none 0 0, .slice none 0 0] 31)
  have R := Blk.alloc1 w #[.slice hp h.length hk, .slice cp c.length ck] #[.slice none 0 0, .slice none 0 0] 31 31
  have hbw : Below w.heap.size w ((w.alloc (.cells #[.slice hp h.length hk, .slice cp c.length ck] 31)).alloc (.cells #[.slice none 0 0, .slice none 0 0] 31)) := by go_grown
  go_enter Tryd.func37, Tryd.ntmps37
  go_wp2_with fail
  generalize (w.alloc (.cells #[.slice hp h.length hk, .slice cp c.length ck] 31)).alloc (.cells #[.slice none 0 0, .slice none 0 0] 31) = w1 at X R hbw ⊢
  go_loopw [3] (fun i wr => ∃ P : Nat, i = .int .i64 (P : Int) ∧ 0 < P ∧ P ≤ c.length ∧ (∀ q, 0 < q → q < P → ¬ Good c q) ∧ Blk wr w.heap.size #[.slice hp h.length hk, .slice cp c.length ck] 31 ∧ Blk wr (w.heap.size + 1) #[.slice none 0 0, .slice none 0 0] 31 ∧ Below w.heap.size w wr) (fun i _ => c.length + 1 - (RowKit.intOf i).toNat)
  case atStart => exact ⟨1, rfl, by omega, by omega, fun q h1 h2 => by omega, X, R, hbw⟩
  case round =>
    clear X R hbw
    obtain ⟨P, rfl, hP0, hP, hno, X, R, hbw⟩ := hrel
    have x1 := X.cell 1 rfl
    have hRe := Lib.hid (HRe.out _ hbw P hP0 hP)
    have HNo := Lib.hid hno
    clear hno
    cases hg : goodB c P
    · have hng : ¬ Good c P := fun hgd => by rw [(goodB_iff c P).2 hgd] at hg; cases hg
      have hPc : P < c.length := by
        rcases Nat.lt_or_ge P c.length with h1 | h1
        · exact h1
        · obtain rfl : P = c.length := by omega
          exact absurd (good_len c) hng
      have HN := Lib.hid (show ∀ q, 0 < q → q < P + 1 → ¬ Good c q from fun q h1 h2 => by
        rcases Nat.lt_or_ge q P with h3 | h3
        · exact HNo.out q h1 h3
        · obtain rfl : q = P := by omega
          exact hng)
      have hRe2 := hRe.out
      rw [hg] at hRe2
      have HR2 := Lib.hid hRe2
      clear hRe hRe2 hng hg
      go_wp2_with (go_at_call 45; with_reducible refine HR2.out.mono ?_; rintro e w5 ⟨rfl, hb5⟩)
      go_roundw
      case rel => exact ⟨P + 1, by go_num, by omega, by omega, HN.out, X.grows hb5, R.grows hb5, below_two hbw hb5⟩
      case measure => simp [RowKit.intOf]; omega
    · have hgd := (goodB_iff c P).1 hg
      have hRe2 := hRe.out
      rw [hg] at hRe2
      have HR2 := Lib.hid hRe2
      have hper : IsPer ((h ++ c).drop h.length) P := by rw [List.drop_left]; exact ⟨hP0, hP, hgd, HNo.out⟩
      have HPer := Lib.hid hper
      have HFr := Lib.hid (per_least HRep.out hper).1
      clear hRe hRe2 hg hgd hper
      go_wp2_with (go_at_call 45; with_reducible refine HR2.out.mono ?_; rintro e w5 ⟨rfl, hb5⟩; have X5 := X.grows hb5; have R5 := R.grows hb5; have hbw5 := below_two hbw hb5; have x0 := X5.cell 0 rfl)
      clear X R hbw hb5 x1 x0
      go_loopw [4] (fun i wr => ∃ N : Nat, i = .int .i64 (N : Int) ∧ N ≤ h.length ∧ From f P N ∧ Blk wr w.heap.size #[.slice hp h.length hk, .slice cp c.length ck] 31 ∧ Blk wr (w.heap.size + 1) #[.slice none 0 0, .slice none 0 0] 31 ∧ Below w.heap.size w wr) (fun i _ => (RowKit.intOf i).toNat)
      case atStart => exact ⟨h.length, rfl, Nat.le_refl _, HFr.out, X5, R5, hbw5⟩
      case round =>
        clear X5 R5 hbw5
        obtain ⟨N, rfl, hN, hfr, X, R, hbw⟩ := hrel
        have HFn := Lib.hid hfr
        clear hfr
        have k0 := cell_regrown (X.cell 0 rfl)
        have k1 := cell_regrown (X.cell 1 rfl)
        have HX := Lib.hid (And.intro X (And.intro R hbw))
        have hS := HS.out _ hbw
        clear X R hbw
        rcases Nat.eq_zero_or_pos N with hN0 | hN0
        · have hg0 : ¬ (0 : Int) < (N : Int) := by omega
          clear hS
          go_wp2_with fail
          refine wp_region_quiet_below (by kernel_rfl) (by kernel_rfl) ?_
          repeat (go_big_quiet_step (first | with_reducible exact HX.out _ _))
          refine wpQuiet_nil ?_
          intro _ hw'
          obtain ⟨⟨dq, osq⟩, hw''⟩ := hw'
          subst hw''
          have hgr := below_regrown wr dq osq
          obtain ⟨X, R, hbw⟩ := HX.out
          have X1 := X.grows hgr
          have R1 := R.grows hgr
          have hbw1 := below_two hbw hgr
          generalize Go.Sort.grow (redrawn wr dq) osq = w6 at X1 R1 hbw1 ⊢
          go_wp2_with fail
          have hLs : N = 0 ∨ f (N - 1) ≠ f (N - 1 + P) := .inl hN0
          have HCan := Lib.hid (canon_tab HRep.out HPer.out hN HFn.out hLs)
          have X2 := X1.alloc (.cells #[.slice none 0 0, .slice none 0 0] 31)
          have R2 := R1.alloc (.cells #[.slice none 0 0, .slice none 0 0] 31)
          have D2 := Blk.new w6 #[.slice none 0 0, .slice none 0 0] 31
          have hbw2 := hbw1.alloc hbw1.size (.cells #[.slice none 0 0, .slice none 0 0] 31)
          have hsz := R1.lt
          obtain ⟨B, hBe⟩ : ∃ B, w6.heap.size + 1 = B := ⟨_, rfl⟩
          have hB2 : B ≤ (w6.alloc (.cells #[.slice none 0 0, .slice none 0 0] 31)).heap.size := by simp; omega
          have hDB : w6.heap.size < B := by omega
          clear hBe X1 R1 hbw1
          generalize w6.alloc (.cells #[.slice none 0 0, .slice none 0 0] 31) = w7 at X2 R2 D2 hbw2 hB2 ⊢
          generalize w6.heap.size = D at D2 hDB hsz ⊢
          have O0 := World.ownsRow_nil w7 B 4 1
          obtain ⟨T, hT⟩ : ∃ T, N + P = T := ⟨_, rfl⟩
          have hTi : (N : Int) + (P : Int) = (T : Int) := by omega
          have hTl : T ≤ 2097152 := by omega
          try simp only [hTi, Bool.not_true, Bool.not_false]
          go_loopw [6] (fun i wr => ∃ (M : Nat) (u0 u1 : Value), i = .int .i64 (M : Int) ∧ M ≤ T ∧ Blk wr w.heap.size #[.slice hp h.length hk, .slice cp c.length ck] 31 ∧ Blk wr (w.heap.size + 1) #[.slice none 0 0, .slice none 0 0] 31 ∧ Blk wr D #[u0, u1] 31 ∧
              wr.ownsRow B 4 1 u0 (min M N) (((List.range (min M N)).map f).map Value.bool) ∧ wr.ownsRow B 4 1 u1 (M - N) (((List.range (M - N)).map fun i => f (N + i)).map Value.bool) ∧ Apart u0 u1 ∧ B ≤ wr.heap.size ∧ Below w.heap.size w wr) (fun i _ => T - (RowKit.intOf i).toNat)
          case atStart => exact ⟨0, _, _, rfl, by omega, X2, R2, D2, own_cast O0 (by omega) (by rw [Nat.zero_min]; rfl), own_cast O0 (by omega) (by rw [Nat.zero_sub]; rfl), apart_nil _, hB2, hbw2⟩
          case round =>
            clear X2 R2 D2 O0 hB2 hbw2
            obtain ⟨M, u0, u1, rfl, hM, X, R, DD, O0, O1, hap, hB, hbw⟩ := hrel
            obtain ⟨p0, k0, rfl⟩ := own_shape O0
            obtain ⟨p1, k1, rfl⟩ := own_shape O1
            by_cases hlt : M < T
            · obtain ⟨b, hb⟩ : ∃ b, f M = b := ⟨_, rfl⟩
              have HAt := Lib.hid (fun W (hW : Below w.heap.size w W) => (show Calls Tryd.prog 46 #[.agg #[.slice hp h.length hk, .slice cp c.length ck], .int .i64 (M : Int)] W fun e w' => e = .returned (.bool b) ∧ Below W.heap.size W w' from (show atL h c M = b by rw [HF.out]; exact hb) ▸ at_any _ h c M W (HS.out W hW) hc (by omega) (by omega) (by omega)))
              have X0 := X.drew
              have D0 := DD.drew
              have R0 := R.drew
              have hbw0 := hbw.drew
              by_cases hlo : M < N
              · exact absurd hlo (by omega)
              · obtain ⟨J, hJ⟩ : ∃ J, M - N = J := ⟨_, rfl⟩
                have hm1 : min M N = N := by omega
                have hm2 : min (M + 1) N = N := by omega
                have hm3 : M + 1 - N = J + 1 := by omega
                rw [hm1] at O0 DD D0 hap
                rw [hJ] at O1 DD D0 hap
                have HO0 := Lib.hid O0
                have HO1 := Lib.hid O1
                have hJl : J ≤ 2097152 := by omega
                have HSn := Lib.hid (show ((List.range (J + 1)).map fun i => f (N + i)).map Value.bool = ((List.range J).map fun i => f (N + i)).map Value.bool ++ [Value.bool b] by rw [range_snocB, List.map_append, show N + J = M by omega, hb]; rfl)
                have HAp := Lib.hid hap
                have xc0 := X.cell 0 rfl
                have xc1 := X.cell 1 rfl
                have xl := X.lt
                have d0c := DD.cell 1 rfl
                have d0d := D0.cell 1 rfl
                have dl := DD.lt
                clear O0 O1 hap hb hm1 hJ
                go_wp2_with fail
                rw [ld1_eq]
                go_region_held3 (fun W => W.cell? ⟨w.heap.size, 0, none⟩ = some (.slice hp h.length hk) ∧ W.cell? ⟨w.heap.size, 1, none⟩ = some (.slice cp c.length ck))
                  (first | exact ⟨X0.cell 0 rfl, X0.cell 1 rfl⟩ | exact ⟨X5.cell 0 rfl, X5.cell 1 rfl⟩ | exact ⟨X6.cell 0 rfl, X6.cell 1 rfl⟩ | exact ⟨X7.cell 0 rfl, X7.cell 1 rfl⟩ | exact ⟨X8.cell 0 rfl, X8.cell 1 rfl⟩)
                  (first
                    | (go_at_call 46; ((with_reducible refine (HAt.out _ hbw0).mono ?_)); rintro e w5 ⟨rfl, hb5⟩; have X5 := X0.grows hb5; have D5 := D0.grows hb5; have R5 := R0.grows hb5; have hbw5 := below_two hbw0 hb5; have c5 := D5.cell 1 rfl; have l5 := D5.lt; have X6 := X5.alloc (.cells #[.bool b] 4); have D6 := D5.alloc (.cells #[.bool b] 4); have c6 := D6.cell 1 rfl)
                    | (refine step_append_lies _ rfl _ _ 26 rfl B 4 i0 _ 1 1 Tryd.underlying26 hi hz0 hz1 hz2 rfl (by decide) _ _ _ rfl (own_alloc (own_below (w := wr.drew) HO1.out hb5) _) ⟨w5.heap.size, 0, none⟩ 1 1 [.bool b] rfl rfl (cells_newB _ _ _ _ rfl) (bool_one b) (by decide) (by unfold maxLen; omega) (by omega) (by have := hb5.size; simp at this ⊢; omega) _ rfl ?_; intro g cap w6 hown2 hgrow hat hlt2; have X7 := X6.grownBy hgrow (fun g e => by have := own_ge HO1.out g e; omega); have D7 := D6.grownBy hgrow (fun g e => by have := own_ge HO1.out g e; omega); have c7 := D7.cell 1 rfl; have f7 := D7.free 1; have X8 := X7.other (a := ⟨D, 1, none⟩) (by show w.heap.size ≠ D; omega) (.slice (some ⟨g, 0, none⟩) (J + 1) cap)))
                all_goals
                  have hat2 : (Value.slice (some ⟨g, 0, none⟩) (J + 1) cap).ownBlock = (Value.slice p1 J k1).ownBlock ∨ (Value.slice (some ⟨g, 0, none⟩) (J + 1) cap).ownBlock = some (w5.alloc (.cells #[.bool b] 4)).heap.size := by
                    rcases hat with h9 | h9
                    · exact .inl h9.symm
                    · exact .inr (congrArg some h9)
                  go_wp2
                  go_roundw
                  case rel => exact ⟨M + 1, _, _, by go_num, by omega, X8,
                    ((R5.alloc _).grownBy hgrow (fun g e => by have := own_ge HO1.out g e; omega)).other (by show w.heap.size + 1 ≠ D; omega) _,
                    D7.set 1 _,
                    by rw [hm2]; exact own_set (p := ⟨D, 1, none⟩) (own_grown (own_alloc (own_below (w := wr.drew) HO0.out hb5) _) hgrow (fun g e1 e2 => HAp.out g e2 e1)) hDB _,
                    by rw [hm3, HSn.out]; exact own_set (p := ⟨D, 1, none⟩) hown2 hDB _,
                    (apart_new (W := w5) (o := .cells #[.bool b] 4) HAp.out.symm hat2 (own_below (w := wr.drew) HO0.out hb5)).symm,
                    by have h7 := hgrow.size; have h8 := hb5.size; simp at h7 h8 ⊢; omega,
                    ((hbw5.alloc hbw5.size _).grown hgrow (by have h8 := hbw5.size; simp; omega) (fun g e => by have := own_ge HO1.out g e; omega)).setCell (by show w.heap.size ≤ D; omega) _⟩
                  case measure => simp [RowKit.intOf]; omega
            · obtain rfl : M = T := by omega
              have hm1 : min M N = N := by omega
              have hm2 : M - N = P := by omega
              rw [hm1] at O0 DD
              rw [hm2] at O1 DD
              have HO := Lib.hid (And.intro O0 O1)
              have d0 := DD.cell 0 rfl
              have d1 := DD.cell 1 rfl
              have r0 := R.cell 0 rfl
              have r1 := R.cell 1 rfl
              have z0 := R.free 0
              have z1 := R.free 1
              have hsB : w.heap.size + 1 < B := by omega
              clear O0 O1 hap hN0
              go_wp2
              have q0 : (wr.setCell ⟨w.heap.size + 1, 0, none⟩ (.slice p0 N k0)).cell? ⟨w.heap.size + 1, 0, none⟩ = some (.slice p0 N k0) := (R.set 0 _).cell 0 rfl
              have q1 : ((wr.setCell ⟨w.heap.size + 1, 0, none⟩ (.slice p0 N k0)).setCell ⟨w.heap.size + 1, 1, none⟩ (.slice p1 P k1)).cell? ⟨w.heap.size + 1, 1, none⟩ = some (.slice p1 P k1) := ((R.set 0 _).set 1 _).cell 1 rfl
              refine bodyPost_ret (v := .agg #[.slice p0 N k0, .slice p1 P k1]) (by simp [results, Tryd.results37, go_sem, q0, q1]) rfl ⟨⟨_, _, _, HCan.out, rfl, _, _, rfl, own_cast (own_mono (own_set (p := ⟨w.heap.size + 1, 1, none⟩) (own_set (p := ⟨w.heap.size + 1, 0, none⟩) HO.out.1 hsB _) hsB _) (by omega)) (by simp) rfl, own_cast (own_mono (own_set (p := ⟨w.heap.size + 1, 1, none⟩) (own_set (p := ⟨w.heap.size + 1, 0, none⟩) HO.out.2 hsB _) hsB _) (by omega)) (by simp) rfl⟩, (hbw.setCell (Nat.le_add_right _ 1) _).setCell (Nat.le_add_right _ 1) _⟩
        · obtain ⟨N1, hN1⟩ : ∃ N1, N - 1 = N1 := ⟨_, rfl⟩
          obtain ⟨M, hM⟩ : ∃ M, N1 + P = M := ⟨_, rfl⟩
          have hsub : (N : Int) - 1 = (N1 : Int) := by omega
          have hadd : (N1 : Int) + (P : Int) = (M : Int) := by omega
          have hg1 : (0 : Int) < (N : Int) := by omega
          have hmeas : N1 < N := by omega
          have hm1 : N1 ≤ h.length := by omega
          obtain ⟨x, hx⟩ : ∃ x, f N1 = x := ⟨_, rfl⟩
          obtain ⟨y, hy⟩ : ∃ y, f M = y := ⟨_, rfl⟩
          have HXc := Lib.hid (atq hS (n := N1) (b := x) (by rw [HF.out]; exact hx) hc (by omega) (by omega) (by omega))
          have HYc := Lib.hid (atq hS (n := M) (b := y) (by rw [HF.out]; exact hy) hc (by omega) (by omega) (by omega))
          have HXy := Lib.hid (And.intro hx (And.intro hy (And.intro hN1 hM)))
          clear hx hy hS hN1 hM
          by_cases hxy : x = y
          · subst hxy
            have HNn := Lib.hid (show From f P N1 from fun n hn => by
              obtain ⟨q1, q2, q3, q4⟩ := HXy.out
              rcases Nat.lt_or_ge n N with h1 | h1
              · obtain rfl : n = N1 := by omega
                rw [q4, q2, q1]
              · exact HFn.out n h1)
            clear HXy
            cases x
            all_goals
              go_wp2_with fail
              refine wp_region_quiet_below (by kernel_rfl) (by kernel_rfl) ?_
              repeat (go_big_quiet_step (first | with_reducible exact HXc.out _ _ | with_reducible exact HYc.out _ _))
              refine wpQuiet_nil ?_
              intro _ hw'
              obtain ⟨⟨dq, osq⟩, hw''⟩ := hw'
              subst hw''
              have hgr := below_regrown wr dq osq
              obtain ⟨X, R, hbw⟩ := HX.out
              go_wp2_with fail
              go_roundw
              case rel => exact ⟨N1, rfl, by omega, HNn.out, X.grows hgr, R.grows hgr, below_two hbw hgr⟩
              case measure => simp [RowKit.intOf]; omega
          · have hyx : y = !x := by cases x <;> cases y <;> simp_all
            subst hyx
            have HLe := Lib.hid (show f (N - 1) ≠ f (N - 1 + P) by
              obtain ⟨q1, q2, q3, q4⟩ := HXy.out
              rw [q3, q4, q1, q2]; cases x <;> decide)
            clear HXy hxy
            cases x
            all_goals
              go_wp2_with fail
              refine wp_region_quiet_below (by kernel_rfl) (by kernel_rfl) ?_
              repeat (go_big_quiet_step (first | with_reducible exact HXc.out _ _ | with_reducible exact HYc.out _ _))
              refine wpQuiet_nil ?_
              intro _ hw'
              obtain ⟨⟨dq, osq⟩, hw''⟩ := hw'
              subst hw''
              have hgr := below_regrown wr dq osq
              obtain ⟨X, R, hbw⟩ := HX.out
              have X1 := X.grows hgr
              have R1 := R.grows hgr
              have hbw1 := below_two hbw hgr
              generalize Go.Sort.grow (redrawn wr dq) osq = w6 at X1 R1 hbw1 ⊢
              go_wp2_with fail
              have hLs : N = 0 ∨ f (N - 1) ≠ f (N - 1 + P) := .inr HLe.out
              have HCan := Lib.hid (canon_tab HRep.out HPer.out hN HFn.out hLs)
              have X2 := X1.alloc (.cells #[.slice none 0 0, .slice none 0 0] 31)
              have R2 := R1.alloc (.cells #[.slice none 0 0, .slice none 0 0] 31)
              have D2 := Blk.new w6 #[.slice none 0 0, .slice none 0 0] 31
              have hbw2 := hbw1.alloc hbw1.size (.cells #[.slice none 0 0, .slice none 0 0] 31)
              have hsz := R1.lt
              obtain ⟨B, hBe⟩ : ∃ B, w6.heap.size + 1 = B := ⟨_, rfl⟩
              have hB2 : B ≤ (w6.alloc (.cells #[.slice none 0 0, .slice none 0 0] 31)).heap.size := by simp; omega
              have hDB : w6.heap.size < B := by omega
              clear hBe X1 R1 hbw1
              generalize w6.alloc (.cells #[.slice none 0 0, .slice none 0 0] 31) = w7 at X2 R2 D2 hbw2 hB2 ⊢
              generalize w6.heap.size = D at D2 hDB hsz ⊢
              have O0 := World.ownsRow_nil w7 B 4 1
              obtain ⟨T, hT⟩ : ∃ T, N + P = T := ⟨_, rfl⟩
              have hTi : (N : Int) + (P : Int) = (T : Int) := by omega
              have hTl : T ≤ 2097152 := by omega
              try simp only [hTi, Bool.not_true, Bool.not_false]
              go_loopw [6] (fun i wr => ∃ (M : Nat) (u0 u1 : Value), i = .int .i64 (M : Int) ∧ M ≤ T ∧ Blk wr w.heap.size #[.slice hp h.length hk, .slice cp c.length ck] 31 ∧ Blk wr (w.heap.size + 1) #[.slice none 0 0, .slice none 0 0] 31 ∧ Blk wr D #[u0, u1] 31 ∧
                  wr.ownsRow B 4 1 u0 (min M N) (((List.range (min M N)).map f).map Value.bool) ∧ wr.ownsRow B 4 1 u1 (M - N) (((List.range (M - N)).map fun i => f (N + i)).map Value.bool) ∧ Apart u0 u1 ∧ B ≤ wr.heap.size ∧ Below w.heap.size w wr) (fun i _ => T - (RowKit.intOf i).toNat)
              case atStart => exact ⟨0, _, _, rfl, by omega, X2, R2, D2, own_cast O0 (by omega) (by rw [Nat.zero_min]; rfl), own_cast O0 (by omega) (by rw [Nat.zero_sub]; rfl), apart_nil _, hB2, hbw2⟩
              case round =>
                clear X2 R2 D2 O0 hB2 hbw2
                obtain ⟨M, u0, u1, rfl, hM, X, R, DD, O0, O1, hap, hB, hbw⟩ := hrel
                obtain ⟨p0, k0, rfl⟩ := own_shape O0
                obtain ⟨p1, k1, rfl⟩ := own_shape O1
                by_cases hlt : M < T
                · obtain ⟨b, hb⟩ : ∃ b, f M = b := ⟨_, rfl⟩
                  have HAt := Lib.hid (fun W (hW : Below w.heap.size w W) => (show Calls Tryd.prog 46 #[.agg #[.slice hp h.length hk, .slice cp c.length ck], .int .i64 (M : Int)] W fun e w' => e = .returned (.bool b) ∧ Below W.heap.size W w' from (show atL h c M = b by rw [HF.out]; exact hb) ▸ at_any _ h c M W (HS.out W hW) hc (by omega) (by omega) (by omega)))
                  have X0 := X.drew
                  have D0 := DD.drew
                  have R0 := R.drew
                  have hbw0 := hbw.drew
                  by_cases hlo : M < N
                  · have hm1 : min M N = M := by omega
                    have hm2 : min (M + 1) N = M + 1 := by omega
                    have hm3 : M + 1 - N = 0 := by omega
                    have hm4 : M - N = 0 := by omega
                    rw [hm1] at O0 DD D0 hap
                    rw [hm4] at O1 DD D0 hap
                    have HO0 := Lib.hid O0
                    have HO1 := Lib.hid O1
                    have HSn := Lib.hid (show ((List.range (M + 1)).map f).map Value.bool = ((List.range M).map f).map Value.bool ++ [Value.bool b] by rw [range_snocB, List.map_append, hb]; rfl)
                    have HAp := Lib.hid hap
                    have xc0 := X.cell 0 rfl
                    have xc1 := X.cell 1 rfl
                    have xl := X.lt
                    have d0c := DD.cell 0 rfl
                    have d0d := D0.cell 0 rfl
                    have dl := DD.lt
                    clear O0 O1 hap hb hm1 hm4
                    go_wp2_with fail
                    rw [ld0_eq]
                    go_region_held3 (fun W => W.cell? ⟨w.heap.size, 0, none⟩ = some (.slice hp h.length hk) ∧ W.cell? ⟨w.heap.size, 1, none⟩ = some (.slice cp c.length ck))
                      (first | exact ⟨X0.cell 0 rfl, X0.cell 1 rfl⟩ | exact ⟨X5.cell 0 rfl, X5.cell 1 rfl⟩ | exact ⟨X6.cell 0 rfl, X6.cell 1 rfl⟩ | exact ⟨X7.cell 0 rfl, X7.cell 1 rfl⟩ | exact ⟨X8.cell 0 rfl, X8.cell 1 rfl⟩)
                      (first
                        | (go_at_call 46; ((with_reducible refine (HAt.out _ hbw0).mono ?_)); rintro e w5 ⟨rfl, hb5⟩; have X5 := X0.grows hb5; have D5 := D0.grows hb5; have R5 := R0.grows hb5; have hbw5 := below_two hbw0 hb5; have c5 := D5.cell 0 rfl; have l5 := D5.lt; have X6 := X5.alloc (.cells #[.bool b] 4); have D6 := D5.alloc (.cells #[.bool b] 4); have c6 := D6.cell 0 rfl)
                        | (refine step_append_lies _ rfl _ _ 26 rfl B 4 i0 _ 1 1 Tryd.underlying26 hi hz0 hz1 hz2 rfl (by decide) _ _ _ rfl (own_alloc (own_below (w := wr.drew) HO0.out hb5) _) ⟨w5.heap.size, 0, none⟩ 1 1 [.bool b] rfl rfl (cells_newB _ _ _ _ rfl) (bool_one b) (by decide) (by unfold maxLen; omega) (by omega) (by have := hb5.size; simp at this ⊢; omega) _ rfl ?_; intro g cap w6 hown2 hgrow hat hlt2; have X7 := X6.grownBy hgrow (fun g e => by have := own_ge HO0.out g e; omega); have D7 := D6.grownBy hgrow (fun g e => by have := own_ge HO0.out g e; omega); have c7 := D7.cell 0 rfl; have f7 := D7.free 0; have X8 := X7.other (a := ⟨D, 0, none⟩) (by show w.heap.size ≠ D; omega) (.slice (some ⟨g, 0, none⟩) (M + 1) cap)))
                    all_goals
                      have hat2 : (Value.slice (some ⟨g, 0, none⟩) (M + 1) cap).ownBlock = (Value.slice p0 M k0).ownBlock ∨ (Value.slice (some ⟨g, 0, none⟩) (M + 1) cap).ownBlock = some (w5.alloc (.cells #[.bool b] 4)).heap.size := by
                        rcases hat with h9 | h9
                        · exact .inl h9.symm
                        · exact .inr (congrArg some h9)
                      go_wp2
                      go_roundw
                      case rel => exact ⟨M + 1, _, _, by go_num, by omega, X8,
                        ((R5.alloc _).grownBy hgrow (fun g e => by have := own_ge HO0.out g e; omega)).other (by show w.heap.size + 1 ≠ D; omega) _,
                        D7.set 0 _,
                        by rw [hm2, HSn.out]; exact own_set (p := ⟨D, 0, none⟩) hown2 hDB _,
                        by rw [hm3]; exact own_set (p := ⟨D, 0, none⟩) (own_grown (own_alloc (own_below (w := wr.drew) HO1.out hb5) _) hgrow (fun g e1 e2 => HAp.out g e1 e2)) hDB _,
                        apart_new (W := w5) (o := .cells #[.bool b] 4) HAp.out hat2 (own_below (w := wr.drew) HO1.out hb5),
                        by have h7 := hgrow.size; have h8 := hb5.size; simp at h7 h8 ⊢; omega,
                        ((hbw5.alloc hbw5.size _).grown hgrow (by have h8 := hbw5.size; simp; omega) (fun g e => by have := own_ge HO0.out g e; omega)).setCell (by show w.heap.size ≤ D; omega) _⟩
                      case measure => simp [RowKit.intOf]; omega
                  · obtain ⟨J, hJ⟩ : ∃ J, M - N = J := ⟨_, rfl⟩
                    have hm1 : min M N = N := by omega
                    have hm2 : min (M + 1) N = N := by omega
                    have hm3 : M + 1 - N = J + 1 := by omega
                    rw [hm1] at O0 DD D0 hap
                    rw [hJ] at O1 DD D0 hap
                    have HO0 := Lib.hid O0
                    have HO1 := Lib.hid O1
                    have hJl : J ≤ 2097152 := by omega
                    have HSn := Lib.hid (show ((List.range (J + 1)).map fun i => f (N + i)).map Value.bool = ((List.range J).map fun i => f (N + i)).map Value.bool ++ [Value.bool b] by rw [range_snocB, List.map_append, show N + J = M by omega, hb]; rfl)
                    have HAp := Lib.hid hap
                    have xc0 := X.cell 0 rfl
                    have xc1 := X.cell 1 rfl
                    have xl := X.lt
                    have d0c := DD.cell 1 rfl
                    have d0d := D0.cell 1 rfl
                    have dl := DD.lt
                    clear O0 O1 hap hb hm1 hJ
                    go_wp2_with fail
                    rw [ld1_eq]
                    go_region_held3 (fun W => W.cell? ⟨w.heap.size, 0, none⟩ = some (.slice hp h.length hk) ∧ W.cell? ⟨w.heap.size, 1, none⟩ = some (.slice cp c.length ck))
                      (first | exact ⟨X0.cell 0 rfl, X0.cell 1 rfl⟩ | exact ⟨X5.cell 0 rfl, X5.cell 1 rfl⟩ | exact ⟨X6.cell 0 rfl, X6.cell 1 rfl⟩ | exact ⟨X7.cell 0 rfl, X7.cell 1 rfl⟩ | exact ⟨X8.cell 0 rfl, X8.cell 1 rfl⟩)
                      (first
                        | (go_at_call 46; ((with_reducible refine (HAt.out _ hbw0).mono ?_)); rintro e w5 ⟨rfl, hb5⟩; have X5 := X0.grows hb5; have D5 := D0.grows hb5; have R5 := R0.grows hb5; have hbw5 := below_two hbw0 hb5; have c5 := D5.cell 1 rfl; have l5 := D5.lt; have X6 := X5.alloc (.cells #[.bool b] 4); have D6 := D5.alloc (.cells #[.bool b] 4); have c6 := D6.cell 1 rfl)
                        | (refine step_append_lies _ rfl _ _ 26 rfl B 4 i0 _ 1 1 Tryd.underlying26 hi hz0 hz1 hz2 rfl (by decide) _ _ _ rfl (own_alloc (own_below (w := wr.drew) HO1.out hb5) _) ⟨w5.heap.size, 0, none⟩ 1 1 [.bool b] rfl rfl (cells_newB _ _ _ _ rfl) (bool_one b) (by decide) (by unfold maxLen; omega) (by omega) (by have := hb5.size; simp at this ⊢; omega) _ rfl ?_; intro g cap w6 hown2 hgrow hat hlt2; have X7 := X6.grownBy hgrow (fun g e => by have := own_ge HO1.out g e; omega); have D7 := D6.grownBy hgrow (fun g e => by have := own_ge HO1.out g e; omega); have c7 := D7.cell 1 rfl; have f7 := D7.free 1; have X8 := X7.other (a := ⟨D, 1, none⟩) (by show w.heap.size ≠ D; omega) (.slice (some ⟨g, 0, none⟩) (J + 1) cap)))
                    all_goals
                      have hat2 : (Value.slice (some ⟨g, 0, none⟩) (J + 1) cap).ownBlock = (Value.slice p1 J k1).ownBlock ∨ (Value.slice (some ⟨g, 0, none⟩) (J + 1) cap).ownBlock = some (w5.alloc (.cells #[.bool b] 4)).heap.size := by
                        rcases hat with h9 | h9
                        · exact .inl h9.symm
                        · exact .inr (congrArg some h9)
                      go_wp2
                      go_roundw
                      case rel => exact ⟨M + 1, _, _, by go_num, by omega, X8,
                        ((R5.alloc _).grownBy hgrow (fun g e => by have := own_ge HO1.out g e; omega)).other (by show w.heap.size + 1 ≠ D; omega) _,
                        D7.set 1 _,
                        by rw [hm2]; exact own_set (p := ⟨D, 1, none⟩) (own_grown (own_alloc (own_below (w := wr.drew) HO0.out hb5) _) hgrow (fun g e1 e2 => HAp.out g e2 e1)) hDB _,
                        by rw [hm3, HSn.out]; exact own_set (p := ⟨D, 1, none⟩) hown2 hDB _,
                        (apart_new (W := w5) (o := .cells #[.bool b] 4) HAp.out.symm hat2 (own_below (w := wr.drew) HO0.out hb5)).symm,
                        by have h7 := hgrow.size; have h8 := hb5.size; simp at h7 h8 ⊢; omega,
                        ((hbw5.alloc hbw5.size _).grown hgrow (by have h8 := hbw5.size; simp; omega) (fun g e => by have := own_ge HO1.out g e; omega)).setCell (by show w.heap.size ≤ D; omega) _⟩
                      case measure => simp [RowKit.intOf]; omega
                · obtain rfl : M = T := by omega
                  have hm1 : min M N = N := by omega
                  have hm2 : M - N = P := by omega
                  rw [hm1] at O0 DD
                  rw [hm2] at O1 DD
                  have HO := Lib.hid (And.intro O0 O1)
                  have d0 := DD.cell 0 rfl
                  have d1 := DD.cell 1 rfl
                  have r0 := R.cell 0 rfl
                  have r1 := R.cell 1 rfl
                  have z0 := R.free 0
                  have z1 := R.free 1
                  have hsB : w.heap.size + 1 < B := by omega
                  clear O0 O1 hap hN0
                  go_wp2
                  have q0 : (wr.setCell ⟨w.heap.size + 1, 0, none⟩ (.slice p0 N k0)).cell? ⟨w.heap.size + 1, 0, none⟩ = some (.slice p0 N k0) := (R.set 0 _).cell 0 rfl
                  have q1 : ((wr.setCell ⟨w.heap.size + 1, 0, none⟩ (.slice p0 N k0)).setCell ⟨w.heap.size + 1, 1, none⟩ (.slice p1 P k1)).cell? ⟨w.heap.size + 1, 1, none⟩ = some (.slice p1 P k1) := ((R.set 0 _).set 1 _).cell 1 rfl
                  refine bodyPost_ret (v := .agg #[.slice p0 N k0, .slice p1 P k1]) (by simp [results, Tryd.results37, go_sem, q0, q1]) rfl ⟨⟨_, _, _, HCan.out, rfl, _, _, rfl, own_cast (own_mono (own_set (p := ⟨w.heap.size + 1, 1, none⟩) (own_set (p := ⟨w.heap.size + 1, 0, none⟩) HO.out.1 hsB _) hsB _) (by omega)) (by simp) rfl, own_cast (own_mono (own_set (p := ⟨w.heap.size + 1, 1, none⟩) (own_set (p := ⟨w.heap.size + 1, 0, none⟩) HO.out.2 hsB _) hsB _) (by omega)) (by simp) rfl⟩, (hbw.setCell (Nat.le_add_right _ 1) _).setCell (Nat.le_add_right _ 1) _⟩
end Go.Proofs.YtepncbbegpeilaaDoor
