/-
  The law on the lengths of words: the walk.
-/
import Derived.Test.YthnkgdpifebigaaDoorMa
import Derived.Test.YthnkgdpifebigaaDoorLo
set_option linter.unusedSimpArgs false
set_option linter.unusedVariables false
namespace Go.Proofs.YthnkgdpifebigaaDoor
open Go.RowKit Go.Lib

theorem nodup_or_rep (f : Nat → Nat) : ∀ m, ((List.range m).map f).Nodup ∨ ∃ i H, i < m ∧ H < i ∧ f i = f H
  | 0 => .inl (by simp)
  | m + 1 => by
    rcases nodup_or_rep f m with h | ⟨i, H, h1, h2, h3⟩
    · by_cases hin : f m ∈ (List.range m).map f
      · obtain ⟨H, hH, e⟩ := List.mem_map.1 hin
        exact .inr ⟨m, H, by omega, List.mem_range.1 hH, e.symm⟩
      · refine .inl ?_
        rw [List.range_succ, List.map_append, List.nodup_append]
        exact ⟨h, by simp, fun a ha b hb e => hin (by simp at hb; subst hb; subst e; exact ha)⟩
    · exact .inr ⟨i, H, by omega, h2, h3⟩
/-- the sets of states repeat soon. -/
theorem seq_rep {tb : List Nat} {n : Nat} (hn : 0 < n) (hn8 : n ≤ 8) (h : ∀ q, q < tb.length → tb.getD q 0 < 2 ^ n) : ∃ i H, i ≤ 256 ∧ H < i ∧ seqBits tb i = seqBits tb H := by
  rcases nodup_or_rep (seqBits tb) 257 with h1 | ⟨i, H, h1, h2, h3⟩
  · have h2 := distinct_le h1 (m := 2 ^ n) (fun x hx => by obtain ⟨j, _, rfl⟩ := List.mem_map.1 hx; exact seqBits_lt hn h j)
    have h3 : 2 ^ n ≤ 2 ^ 8 := Nat.pow_le_pow_right (by decide) hn8
    simp at h2
    omega
  · exact ⟨i, H, by omega, h2, h3⟩
/-- is some state of R below S accepting? -/
def accP (R : Nat) (ac : List Bool) (S : Nat) : Bool := (List.range S).any fun s => R.testBit s && ac.getD s false
/-- is t reached from some state of R below S? -/
def nextP (tb : List Nat) (R S t : Nat) : Bool := (List.range S).any fun q => R.testBit q && (tb.getD q 0).testBit t
theorem accP_succ (R : Nat) (ac : List Bool) (S : Nat) : accP R ac (S + 1) = (accP R ac S || (R.testBit S && ac.getD S false)) := by
  unfold accP; rw [List.range_succ, List.any_append]; simp
theorem nextP_succ (tb : List Nat) (R S t : Nat) : nextP tb R (S + 1) t = (nextP tb R S t || (R.testBit S && (tb.getD S 0).testBit t)) := by
  unfold nextP; rw [List.range_succ, List.any_append]; simp
theorem nextP_all (tb : List Nat) (R t : Nat) : nextP tb R tb.length t = (stepBits tb R).testBit t := (stepBits_bit tb R t).symm
theorem accP_all (tb : List Nat) (ac : List Bool) (n k : Nat) : accP (seqBits tb k) ac n = accN tb (accBits ac n) k := by
  unfold accN
  generalize seqBits tb k = R
  rw [Bool.eq_iff_iff]
  unfold accP
  rw [List.any_eq_true, decide_eq_true_iff]
  constructor
  · rintro ⟨s, hs, h⟩ h0
    rw [Bool.and_eq_true] at h
    have h1 : (R &&& accBits ac n).testBit s = true := by
      rw [Nat.testBit_and, h.1, accBits_bit, decide_eq_true (List.mem_range.1 hs), h.2]; rfl
    rw [h0, Nat.zero_testBit] at h1; cases h1
  · intro h0
    have h1 : ∃ s, (R &&& accBits ac n).testBit s = true := by
      apply Classical.byContradiction
      intro hno
      apply h0
      apply Nat.eq_of_testBit_eq
      intro s
      rw [Nat.zero_testBit]
      cases hc : (R &&& accBits ac n).testBit s
      · rfl
      · exact absurd ⟨s, hc⟩ hno
    obtain ⟨s, hs⟩ := h1
    rw [Nat.testBit_and, accBits_bit, Bool.and_eq_true, Bool.and_eq_true, decide_eq_true_iff] at hs
    exact ⟨s, List.mem_range.2 hs.2.1, by rw [hs.1, hs.2.2]; rfl⟩
theorem rowBits_take_bit (r : List Int) (C : Nat) (x : Int) (h : r[C]? = some x) (t : Nat) : (rowBits (r.take (C + 1))).testBit t = ((rowBits (r.take C)).testBit t || decide (x.toNat = t)) := by
  rw [rowBits_take h, Nat.testBit_or, testBit_pow]
/-- the made automaton is valid. -/
theorem machine_valid (l : List Int) (hb : ∀ z ∈ l, 0 ≤ z ∧ z < 256) : validD clsM ((List.range (mn l)).map (mrow l (mn l))) ((List.range (mn l)).map (macc l)) = true := by
  rw [validD_iff]
  obtain ⟨h1, h2⟩ := mn_pos l
  refine ⟨by kernel_rfl, by simp; omega, by simp; omega, by simp, fun r hr => ?_⟩
  obtain ⟨s, _, rfl⟩ := List.mem_map.1 hr
  refine ⟨rfl, fun t ht => ?_⟩
  have key : ∀ c, okTo ((List.range (mn l)).map (mrow l (mn l))).length (mcell l (mn l) s c : Int) := fun c => by
    unfold okTo mcell
    have := Nat.mod_lt (mb l (1 + 4 * s + c)) h1
    simp
    omega
  simp [mrow] at ht
  rcases ht with rfl | rfl | rfl
  · exact key 0
  · exact key 1
  · exact key 2
set_option maxRecDepth 100000 in
set_option maxHeartbeats 8000000 in
theorem ofwords_walk (w : World) (p : Option Addr) (k : Nat) (l : List Int) (y : Int) (hv : IsY w (.slice p l.length k) l) (hb : ∀ z ∈ l, 0 ≤ z ∧ z < 256) (hl : l.length ≤ 1152921504606846976) (hy0 : 0 ≤ y) (hy1 : y < 65536)
    (hT : TabAt 0 Lib.deBruijn64tab w) (hg : 0 < w.heap.size) :
    Calls Tryd.prog 9 #[.slice p l.length k, .int .u16 y] w fun e w' => e = .returned (.bool true) ∧ Below w.heap.size w w' := by
  have HT := Lib.hid (fun W (hW : Below w.heap.size w W) => And.intro (tab_below hT hW hg) (Nat.lt_of_lt_of_le hg hW.size))
  have HS := Lib.hid (sanity_any w hT hg)
  have HMa := Lib.hid (fun W (hW : Below w.heap.size w W) => machine_any p k l W (hv.grows hW) hb hl)
  have hval := machine_valid l hb
  obtain ⟨N, hN⟩ : ∃ N, mn l = N := ⟨_, rfl⟩
  have hN1 : 0 < N ∧ N ≤ 8 := hN ▸ mn_pos l
  rw [hN] at HMa hval
  obtain ⟨nx, hnx⟩ : ∃ nx, (List.range N).map (mrow l N) = nx := ⟨_, rfl⟩
  obtain ⟨ac, hac⟩ : ∃ ac, (List.range N).map (macc l) = ac := ⟨_, rfl⟩
  have hnl : nx.length = N := by rw [← hnx]; simp
  have hal : ac.length = N := by rw [← hac]; simp
  rw [hnx, hac] at HMa hval
  have hok := validD_iff.1 hval
  have hr3 : ∀ r ∈ nx, r.length = 3 := fun r hr => (hok.2.2.2.2 r hr).1
  have HRo := Lib.hid (fun r (hr : r ∈ nx) t (ht : t ∈ r) => (show 0 ≤ t ∧ t < (N : Int) by have := (hok.2.2.2.2 r hr).2 t ht; unfold okTo at this; rw [hnl] at this; exact this))
  have HR3 := Lib.hid hr3
  have HVal := Lib.hid hval
  obtain ⟨tb, htb⟩ : ∃ tb, nx.map rowBits = tb := ⟨_, rfl⟩
  have htl : tb.length = N := by rw [← htb, List.length_map, hnl]
  have HTb := Lib.hid (fun (q : Nat) r (hq : nx[q]? = some r) => (show tb.getD q 0 = rowBits r by rw [← htb]; exact map_getD rowBits nx q r hq))
  have HTl := Lib.hid (show ∀ q, q < tb.length → tb.getD q 0 < 2 ^ N from fun q hq => by
    rw [htl] at hq
    obtain ⟨r, hr⟩ := get_of_lt (l := nx) (k := q) (by omega)
    rw [HTb.out q r hr]
    exact rowBits_lt fun t ht => by have := HRo.out r (List.mem_of_getElem? hr) t ht; omega)
  have HTe := Lib.hid htb
  have HTL := Lib.hid htl
  have HN := Lib.hid (And.intro hnl hal)
  obtain ⟨ib, hib, hb0, hb1, hb2⟩ := info_parts infoBool
  clear hT hg hv hb hval hok hr3 hnx hac htb hN
  go_enter Tryd.func9, Tryd.ntmps9
  go_wp2_with fail
  refine HS.out.mono ?_
  rintro e w1 ⟨rfl, hb1'⟩
  go_wp2_with fail
  refine (HMa.out _ hb1').mono ?_
  rintro e w2 ⟨⟨v, rfl, hD⟩, hb2'⟩
  have hbw2 := below_two hb1' hb2'
  have HD := Lib.hid hD
  obtain ⟨pc, kc, pn, kn, pa, ka, rfl, h1, h2, h3⟩ := hD.shape
  have hcl : clsM.length = 3 := rfl
  rw [hcl, hnl, hal] at HD ⊢
  rw [hcl] at h1
  rw [hnl] at h2
  rw [hal] at h3
  clear HS HMa hb1' hb2' hD hcl
  go_wp2_with fail
  -- the lengths of the words
  have D0 := Blk.new w2 #[.slice pc 3 kc, .slice pn N kn, .slice pa N ka] 40
  have hal2 := below_alloc1 w2 (.cells #[.slice pc 3 kc, .slice pn N kn, .slice pa N ka] 40)
  have HD2 := HD.out.grows hal2
  have h2' := h2.grows hal2
  have h3' := h3.grows hal2
  have hbw3 := hbw2.trans (hal2.mono hbw2.size)
  have HOf := of_any _ clsM nx ac _ HD2 (by decide) (by omega) (by omega) (fun r hr => by rw [HR3.out r hr]; omega) (by omega) (HT.out _ hbw3).1 (HT.out _ hbw3).2
  rw [HVal.out, HTe.out, hnl] at HOf
  obtain ⟨A, hA⟩ : ∃ A, accBits ac N = A := ⟨_, rfl⟩
  rw [hA] at HOf
  have HA := Lib.hid hA
  clear hal2 HD HD2 h1 h2 h3 hA
  generalize w2.alloc (.cells #[.slice pc 3 kc, .slice pn N kn, .slice pa N ka] 40) = W2 at D0 h2' h3' hbw3 HOf ⊢
  refine HOf.mono ?_
  rintro e w3 ⟨hr, hb⟩
  obtain ⟨i, H, hi1, hi2, hi3⟩ := seq_rep hN1.1 hN1.2 HTl.out
  obtain ⟨xh, xc, xp, xk, xq, xj, rfl, xC0, xl, xm, x0⟩ := opres_ok hr (P := i - H) (N := H) (by omega) (accN_from hi3 (by omega)) (by omega)
  have xC := Lib.hid xC0
  have xw : xh.length + xc.length ≤ 256 := by omega
  have D1 := D0.grows hb
  have m1 := h2'.grows hb
  have a1 := h3'.grows hb
  have hbw4 := below_two hbw3 hb
  clear xC0 xl xm hr hb HOf D0 h2' h3' hbw3 hi1 hi2 hi3
  have d1c := D1.cell 1 rfl
  have d1l := D1.lt
  go_wp2_with (at_make; refine wpList_make_row _ rfl _ _ 22 rfl 4 ib _ Tryd.underlying22 hib hb0 hb1 rfl _ _ N rfl rfl (by rw [hb2]; omega) (by omega) ?_; rw [rowB_zero N (fun _ => false), rowB_start N (fun _ => false)]; have XBx := Blk.new w3 #[.slice xp xh.length xk, .slice xq xc.length xj] 24; have hal3 := below_alloc1 w3 (.cells #[.slice xp xh.length xk, .slice xq xc.length xj] 24); have D2 := D1.grows hal3; have m2 := m1.grows hal3; have a2 := a1.grows hal3; have x2 := x0.grows hal3; have hbw5 := hbw4.trans (hal3.mono hbw4.size); clear hal3; generalize w3.alloc (.cells #[.slice xp xh.length xk, .slice xq xc.length xj] 24) = W4 at XBx D2 m2 a2 x2 hbw5 ⊢; have G0 := Blk.new W4 (rowB N N fun _ => false) 4; have hW0 := below_alloc1 W4 (.cells (rowB N N fun _ => false) 4); have g0 := G0.cell 0 (rowB_full N _ 0 hN1.1); have f0 := G0.free 0; generalize W4.alloc (.cells (rowB N N fun _ => false) 4) = W5 at G0 hW0 g0 f0 ⊢)
  have HC := Lib.hid (fun W (hW : Below W4.heap.size W4 W) => And.intro (D2.grows hW) (And.intro (XBx.grows hW) (And.intro (x2.grows hW) (And.intro (m2.grows hW) (a2.grows hW)))))
  have HBw := Lib.hid hbw5
  have hW1 := hW0.setCell (p := ⟨W4.heap.size, 0, none⟩) (Nat.le_refl _) (.bool true)
  have G1 := (G0.set 0 (.bool true)).cast ((rowB_put N _ 0 true).trans (rowB_congr (G := fun j => (seqBits tb 0).testBit j) fun j _ => by
    show (if j = 0 then true else false) = (1 : Nat).testBit j
    rw [show (1 : Nat) = 2 ^ 0 from rfl, testBit_pow]
    by_cases e : j = 0
    · subst e; rfl
    · rw [if_neg e, decide_eq_false (fun h => e h.symm)]))
  clear D1 m1 a1 x0 hbw4 d1c d1l XBx D2 m2 a2 x2 hbw5 G0 hW0 g0 f0
  generalize W5.setCell ⟨W4.heap.size, 0, none⟩ (.bool true) = W6 at hW1 G1 ⊢
  go_loopw [9, 10] (fun r i wr => ∃ (K g : Nat), r = .slice (some ⟨g, 0, none⟩) N N ∧ i = .int .i64 (K : Int) ∧ K ≤ 300 ∧ W4.heap.size ≤ g ∧ Blk wr g (rowB N N fun j => (seqBits tb K).testBit j) 4 ∧ Below W4.heap.size W4 wr) (fun _ i _ => 300 - (RowKit.intOf i).toNat)
  case atStart => exact ⟨0, _, rfl, rfl, by omega, Nat.le_refl _, G1, hW1⟩
  case round =>
    clear G1 hW1
    obtain ⟨K, g, rfl, rfl, hK, hge, G, hW⟩ := hrel
    by_cases hlt : K < 300
    · have d1c := (HC.out _ hW).1.cell 1 rfl
      have HSs := Lib.hid (show stepBits tb (seqBits tb K) = seqBits tb (K + 1) from rfl)
      have HAc := Lib.hid (accP_all tb ac N K)
      obtain ⟨R, hR⟩ : ∃ R, seqBits tb K = R := ⟨_, rfl⟩
      rw [hR] at G HSs HAc
      have HR' := Lib.hid hR
      clear hR
      go_wp2_with (at_make; refine wpList_make_row _ rfl _ _ 22 rfl 4 ib _ Tryd.underlying22 hib hb0 hb1 rfl _ _ N rfl rfl (by rw [hb2]; omega) (by omega) ?_; rw [rowB_zero N (fun _ => false), rowB_start N (fun _ => false)]; have G2 := Blk.new wr (rowB N N fun _ => false) 4; have G1 := G.alloc (.cells (rowB N N fun _ => false) 4); have hW1 := hW.alloc hW.size (.cells (rowB N N fun _ => false) 4); have hgl := G.lt; have hg2 := hW.size; generalize wr.alloc (.cells (rowB N N fun _ => false) 4) = W7 at G2 G1 hW1 ⊢; generalize wr.heap.size = g2 at G2 hgl hg2 ⊢)
      go_loopw [11, 13] (fun a s wi => ∃ S : Nat, a = .bool (accP R ac S) ∧ s = .int .i64 (S : Int) ∧ S ≤ N ∧ Blk wi g (rowB N N fun j => R.testBit j) 4 ∧ Blk wi g2 (rowB N N (nextP tb R S)) 4 ∧ Below W4.heap.size W4 wi) (fun _ s _ => N - (RowKit.intOf s).toNat)
      case atStart => exact ⟨0, rfl, rfl, by omega, G1, G2.cast (rowB_congr fun t _ => rfl), hW1⟩
      case round =>
        clear G G1 G2 hW hW1 d1c
        obtain ⟨S, rfl, rfl, hS, G1, G2, hW⟩ := hrel
        by_cases hlc : S < N
        · obtain ⟨r, hr⟩ := get_of_lt (l := nx) (k := S) (by have := HN.out.1; omega)
          obtain ⟨blk, off, rq, rc, rfl, hcell, hI⟩ := (HC.out _ hW).2.2.2.1.at hr
          obtain ⟨blk', off', rfl, hca⟩ := (HC.out _ hW).2.2.2.2.at (k := S) (by have := HN.out.2; omega)
          have hcx := HC.out _ hW
          have d1c := hcx.1.cell 1 rfl
          have d2c := hcx.1.cell 2 rfl
          have g0 := G1.cell S (rowB_full N _ S hlc)
          have hr3 := HR3.out r (List.mem_of_getElem? hr)
          have hrm := HRo.out r (List.mem_of_getElem? hr)
          have HTq := Lib.hid (HTb.out S r hr)
          have HAs := Lib.hid (accP_succ R ac S)
          have HNs := Lib.hid (nextP_succ tb R S)
          rw [hr3] at hcell hI
          have HRr := Lib.hid hr
          have HRm := Lib.hid hrm
          have HR := Lib.hid hr3
          obtain ⟨a2, ha2⟩ : ∃ a2, accP R ac (S + 1) = a2 := ⟨_, rfl⟩
          rw [ha2] at HAs
          have HA2 := Lib.hid ha2
          clear hr ha2 hI hrm hr3 hcx
          obtain ⟨b1, hb1e⟩ : ∃ b, R.testBit S = b := ⟨_, rfl⟩
          rw [hb1e] at g0 HAs HNs
          have HB1 := Lib.hid hb1e
          clear hb1e
          generalize accP R ac S = a0 at HAs ⊢
          generalize ac.getD S false = b2 at hca HAs
          cases b1
          · have hF : Blk wr g2 (rowB N N (nextP tb R (S + 1))) 4 := G2.cast (rowB_congr fun t _ => by rw [HNs.out t, Bool.false_and, Bool.or_false])
            cases a0
            all_goals
              go_wp2_with fail
              go_loopw [14] (fun c wj => c = .int .i64 0 ∧ Blk wj g (rowB N N fun j => R.testBit j) 4 ∧ Blk wj g2 (rowB N N (nextP tb R (S + 1))) 4 ∧ Below W4.heap.size W4 wj) (fun _ _ => 0)
              case atStart => exact ⟨rfl, G1, hF, hW⟩
              case round =>
                obtain ⟨rfl, G1', hF', hW'⟩ := hrel
                have g0' := G1'.cell S (rowB_full N _ S hlc)
                rw [HB1.out] at g0'
                clear G1 G2 hF hW g0 d1c d2c hcell hca
                go_wp2_with fail
                go_roundw
                case rel => exact ⟨S + 1, by rw [HA2.out, HAs.out]; rfl, by go_num, by omega, G1', hF', hW'⟩
                case measure => simp [RowKit.intOf]; omega
          · cases a0 <;> cases b2
            all_goals
              go_wp2_with fail
              go_loopw [14] (fun c wj => ∃ C : Nat, c = .int .i64 (C : Int) ∧ C ≤ 3 ∧ Blk wj g (rowB N N fun j => R.testBit j) 4 ∧ Blk wj g2 (rowB N N (fun t => nextP tb R S t || (rowBits (r.take C)).testBit t)) 4 ∧ Below W4.heap.size W4 wj) (fun c _ => 3 - (RowKit.intOf c).toNat)
              case atStart => exact ⟨0, rfl, by omega, G1, G2.cast (rowB_congr fun t _ => by rw [List.take_zero]; show _ = (_ || (0 : Nat).testBit t); rw [Nat.zero_testBit, Bool.or_false]), hW⟩
              case round =>
                obtain ⟨C, rfl, hC, G1', G2', hW'⟩ := hrel
                have g0' := G1'.cell S (rowB_full N _ S hlc)
                rw [HB1.out] at g0'
                clear G1 G2 hW g0 d1c d2c hcell hca
                by_cases hc3 : C < 3
                · obtain ⟨blk3, off3, q3, c3, he, hcell', hI3⟩ := (HC.out _ hW').2.2.2.1.at HRr.out
                  simp only [Option.some.injEq, Addr.mk.injEq, and_true] at he
                  obtain ⟨rfl, rfl⟩ := he
                  rw [HR.out] at hcell' hI3
                  obtain ⟨x, hx⟩ := get_of_lt (l := r) (k := C) (by have := HR.out; omega)
                  obtain ⟨b3, o3, rfl, hcx⟩ := hI3.at hx
                  have hxm := HRm.out x (List.mem_of_getElem? hx)
                  obtain ⟨t, rfl⟩ := Int.eq_ofNat_of_zero_le hxm.1
                  have ht : t < N := by have := hxm.2; omega
                  have d1' := (HC.out _ hW').1.cell 1 rfl
                  have g2c := G2'.cell t (rowB_full N _ t ht)
                  have f2 := G2'.free t
                  have HPut := Lib.hid ((rowB_put N (fun t => nextP tb R S t || (rowBits (r.take C)).testBit t) t true).trans (rowB_congr (G := fun t => nextP tb R S t || (rowBits (r.take (C + 1))).testBit t) fun j _ => by
                    rw [rowBits_take_bit r C _ hx j]
                    by_cases e : j = t
                    · subst e; rw [if_pos rfl]; simp
                    · rw [if_neg e, decide_eq_false (by simp; omega), Bool.or_false]))
                  clear hI3 hxm hx
                  go_wp2_with fail
                  go_roundw
                  case rel => exact ⟨C + 1, by go_num, by omega, G1'.other (by show g ≠ g2; omega) _, (G2'.set t _).cast HPut.out, hW'.setCell (by show W4.heap.size ≤ g2; omega) _⟩
                  case measure => simp [RowKit.intOf]; omega
                · have hC3 : C = 3 := by omega
                  have hF : Blk wr g2 (rowB N N (nextP tb R (S + 1))) 4 := G2'.cast (rowB_congr fun t _ => by rw [HNs.out t, Bool.true_and, HTq.out, List.take_of_length_le (by rw [HR.out]; omega)])
                  go_wp2_with fail
                  go_roundw
                  case rel => exact ⟨S + 1, by rw [HA2.out, HAs.out]; rfl, by go_num, by omega, G1', hF, hW'⟩
                  case measure => simp [RowKit.intOf]; omega
        · obtain rfl : N = S := by omega
          have e3 : hasB xh xc (K : Int) = accP R ac N := by
            rw [has_canon xC.out (by omega), decide_eq_true (by omega), HAc.out, HA.out]; rfl
          have hNx : Blk wr g2 (rowB N N fun j => (seqBits tb (K + 1)).testBit j) 4 := G2.cast (rowB_congr fun t _ => by rw [← HSs.out, ← nextP_all, HTL.out])
          have x0c := (HC.out _ hW).2.1.cell 0 rfl
          have x1c := (HC.out _ hW).2.1.cell 1 rfl
          have d1c := (HC.out _ hW).1.cell 1 rfl
          generalize accP R ac N = b at e3 ⊢
          have HH := Lib.hid (has_is _ xh xc (K : Int) b wr (HC.out _ hW).2.2.1 e3 (by omega) (by omega) (by omega))
          clear e3 G1 G2
          have hky : (K < 40) ∨ (¬ K < 40 ∧ ((K : Int) == y) = true) ∨ (¬ K < 40 ∧ ((K : Int) == y) = false) := by
            rcases Nat.lt_or_ge K 40 with h | h
            · exact .inl h
            · refine .inr ?_
              cases hc : ((K : Int) == y)
              · exact .inr ⟨by omega, rfl⟩
              · exact .inl ⟨by omega, rfl⟩
          rcases hky with hk | ⟨hk, hk2⟩ | ⟨hk, hk2⟩
          · cases b
            all_goals
              go_wp2_with (go_at_call 19; with_reducible refine HH.out.mono ?_; rintro e w8 ⟨rfl, hb8⟩)
              go_roundw
              case rel => exact ⟨K + 1, g2, rfl, by go_num, by omega, hg2, hNx.grows hb8, hW.trans (hb8.mono hW.size)⟩
              case measure => simp [RowKit.intOf]; omega
          · cases b
            all_goals
              go_wp2_with (go_at_call 19; with_reducible refine HH.out.mono ?_; rintro e w8 ⟨rfl, hb8⟩)
              go_roundw
              case rel => exact ⟨K + 1, g2, rfl, by go_num, by omega, hg2, hNx.grows hb8, hW.trans (hb8.mono hW.size)⟩
              case measure => simp [RowKit.intOf]; omega
          · go_wp2_with fail
            go_roundw
            case rel => exact ⟨K + 1, g2, rfl, by go_num, by omega, hg2, hNx, hW⟩
            case measure => simp [RowKit.intOf]; omega
    · obtain rfl : K = 300 := by omega
      go_wp2
      go_ret
      exact ⟨rfl, below_two HBw.out hW⟩
end Go.Proofs.YthnkgdpifebigaaDoor
