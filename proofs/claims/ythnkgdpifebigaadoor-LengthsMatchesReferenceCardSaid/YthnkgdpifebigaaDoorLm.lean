/-
  The law on least members: the walk.
-/
import Derived.Test.YthnkgdpifebigaaDoorLi
import Derived.Test.YthnkgdpifebigaaDoorRv
set_option linter.unusedSimpArgs false
set_option linter.unusedVariables false
namespace Go.Proofs.YthnkgdpifebigaaDoor
open Go.RowKit Go.Lib

/-- what Least returns, from a number of the searched ones on: the first member among the next ones, or -1 if there is none. -/
theorem firstFrom_some (f : Nat → Bool) : ∀ m k j, j < m → f (k + j) = true → (∀ i, i < j → f (k + i) = false) → firstFrom f k m = ((k + j : Nat) : Int)
  | 0, k, j, h, _, _ => by omega
  | m + 1, k, 0, _, h1, _ => by unfold firstFrom; rw [if_pos (by simpa using h1)]; rfl
  | m + 1, k, j + 1, h, h1, h2 => by
    have h0 := h2 0 (by omega)
    unfold firstFrom
    rw [if_neg (by rw [Nat.add_zero] at h0; rw [h0]; decide), firstFrom_some f m (k + 1) j (by omega) (by rw [← h1]; congr 1; omega) (fun i hi => by have := h2 (i + 1) (by omega); rw [← this]; congr 1; omega)]
    congr 1; omega
theorem firstFrom_none (f : Nat → Bool) : ∀ m k, (∀ i, i < m → f (k + i) = false) → firstFrom f k m = -1
  | 0, k, _ => rfl
  | m + 1, k, h => by
    have h0 := h 0 (by omega)
    unfold firstFrom
    rw [if_neg (by rw [Nat.add_zero] at h0; rw [h0]; decide)]
    exact firstFrom_none f m (k + 1) fun i hi => by have := h (i + 1) (by omega); rw [← this]; congr 1; omega
theorem leastS_found {h c : List Bool} {n : Int} {j : Nat} (ho : okLen h.length c.length = true) (hn : n ≤ 1099511627776) (hs : h.length + c.length ≤ 60) (hj : j < 60) (h1 : atL h c (n.toNat + j) = true) (h2 : ∀ i, i < j → atL h c (n.toNat + i) = false) : leastS h c n = ((n.toNat + j : Nat) : Int) := by
  unfold leastS
  rw [ho, decide_eq_true hn]
  show firstFrom _ _ _ = _
  obtain ⟨hc, -⟩ := okLen_pos ho
  have key : j < max n.toNat h.length + c.length - n.toNat := by
    rcases Nat.lt_or_ge j (max n.toNat h.length + c.length - n.toNat) with h3 | h3
    · exact h3
    · exfalso
      -- beyond: reduce by a cycle
      have h4 : h.length ≤ n.toNat + j - c.length := by omega
      have h5 := atL_add h c (n.toNat + j - c.length) hc h4
      rw [show n.toNat + j - c.length + c.length = n.toNat + j by omega, h1] at h5
      have h6 := h2 (j - c.length) (by omega)
      rw [show n.toNat + (j - c.length) = n.toNat + j - c.length by omega, ← h5] at h6
      cases h6
  exact firstFrom_some _ _ _ _ key h1 h2
theorem leastS_none {h c : List Bool} {n : Int} (ho : okLen h.length c.length = true) (hn : n ≤ 1099511627776) (hs : h.length + c.length ≤ 60) (h2 : ∀ i, i < 60 → atL h c (n.toNat + i) = false) : leastS h c n = -1 := by
  unfold leastS
  rw [ho, decide_eq_true hn]
  show firstFrom _ _ _ = _
  exact firstFrom_none _ _ _ fun i hi => h2 i (by omega)
theorem okLen_yes {h c : Nat} (h1 : 0 < c) (h2 : h + c ≤ 512) : okLen h c = true := decide_eq_true ⟨h1, h2⟩
set_option maxRecDepth 100000 in
set_option maxHeartbeats 8000000 in
theorem leastmember_walk (w : World) (v : Value) (h c : List Bool) (n : Int) (hv : IsSet w v h c) (h1 : h.length ≤ 1152921504606846976) (h2 : c.length ≤ 1152921504606846976) (hn0 : (-9223372036854775808 : Int) ≤ n) (hn1 : n ≤ 9223372036854775807)
    (hT : TabAt 0 Lib.deBruijn64tab w) (hg : 0 < w.heap.size) :
    Calls Tryd.prog 10 #[v, .int .i64 n] w fun e w' => e = .returned (.bool true) ∧ Below w.heap.size w w' := by
  obtain ⟨hp, hk, cp, ck, rfl, a1, a2⟩ := hv.shape
  have XS := Lib.hid hv
  have HT := Lib.hid (fun W (hW : Below w.heap.size w W) => And.intro (tab_below hT hW hg) (Nat.lt_of_lt_of_le hg hW.size))
  clear hT hg hv a1 a2
  go_enter Tryd.func10, Tryd.ntmps10
  go_wp2_with fail
  show Calls Tryd.prog _ _ (al w [(Obj.cells #[.slice hp h.length hk, .slice cp c.length ck] 24)]) _
  obtain ⟨OS, hOS⟩ : ∃ OS, OS = [(Obj.cells #[.slice hp h.length hk, .slice cp c.length ck] 24)] := ⟨_, rfl⟩
  rw [← hOS]
  replace XS := Lib.hid (XS.out.al OS)
  have HB := Lib.hid (al_below OS w)
  have BX0 : Blk (al w OS) (w.heap.size) #[.slice hp h.length hk, .slice cp c.length ck] 24 := by rw [hOS]; exact al_blk w _ 0 rfl
  have BX := Lib.hid BX0
  clear BX0
  clear hOS
  generalize al w OS = W0 at XS BX HB ⊢
  refine (sanity_any W0 (HT.out _ HB.out).1 (HT.out _ HB.out).2).mono ?_
  rintro e w1 ⟨rfl, hb⟩
  replace XS := Lib.hid (XS.out.grows hb)
  replace BX := Lib.hid (BX.out.grows hb)
  replace HB := Lib.hid (HB.out.trans (hb.mono HB.out.size))
  clear hb
  have BX_0 := BX.out.cell 0 rfl
  have BX_1 := BX.out.cell 1 rfl
  have BX_l := BX.out.lt
  go_wp2_with fail
  clear BX_0 BX_1 BX_l
  refine (made_is _ h c 20 30 w1 XS.out h1 h2 (by decide) (by decide)).mono ?_
  rintro e w2 ⟨⟨gh, gc, gp, gk, qp, qk, rfl, hG, hgl, hgc, G0⟩, hb⟩
  replace XS := Lib.hid (XS.out.grows hb)
  replace BX := Lib.hid (BX.out.grows hb)
  replace HB := Lib.hid (HB.out.trans (hb.mono HB.out.size))
  clear hb
  have G := Lib.hid (G0)
  clear G0 hG
  clear XS BX
  have hg3 : gh.length ≤ 1152921504606846976 := by omega
  have hg4 : gc.length ≤ 1152921504606846976 := by omega
  have ho : okLen gh.length gc.length = true := okLen_yes hgc.1 (by omega)
  have hs60 : gh.length + gc.length ≤ 60 := by omega
  have HO := Lib.hid ho
  clear ho
  by_cases hbig : n ≤ 1099511627776
  case neg =>
    have hl : leastS gh gc n = -1 := by unfold leastS; rw [decide_eq_false hbig, Bool.and_false]; rfl
    have HL := Lib.hid hl
    clear hl
    have hd : decide (n > 1099511627776) = true := by simp; omega
    go_wp2_with fail
    show Calls Tryd.prog _ _ (al w2 [(Obj.cells #[.slice gp gh.length gk, .slice qp gc.length qk] 24)]) _
    obtain ⟨OS, hOS⟩ : ∃ OS, OS = [(Obj.cells #[.slice gp gh.length gk, .slice qp gc.length qk] 24)] := ⟨_, rfl⟩
    rw [← hOS]
    replace G := Lib.hid (G.out.al OS)
    replace HB := Lib.hid (HB.out.trans ((al_below OS w2).mono HB.out.size))
    have BG0 : Blk (al w2 OS) (w2.heap.size) #[.slice gp gh.length gk, .slice qp gc.length qk] 24 := by rw [hOS]; exact al_blk w2 _ 0 rfl
    have BG := Lib.hid BG0
    clear BG0
    clear hOS
    generalize al w2 OS = W2 at G BG HB ⊢
    have HLe := least_any _ gh gc n W2 G.out hg3 hg4 hn0
    rw [HL.out] at HLe
    refine (HLe).mono ?_
    rintro e w3 ⟨rfl, hb⟩
    replace G := Lib.hid (G.out.grows hb)
    replace BG := Lib.hid (BG.out.grows hb)
    replace HB := Lib.hid (HB.out.trans (hb.mono HB.out.size))
    clear hb
    go_wp2_with fail
    go_ret
    exact ⟨rfl, HB.out⟩
  case pos =>
    have hd : ¬ (n > 1099511627776) := by omega
    obtain ⟨k0, hk0⟩ : ∃ k0, n.toNat = k0 := ⟨_, rfl⟩
    have hmx : max n 0 = (k0 : Int) := by omega
    have hk1 : k0 ≤ 1099511627776 := by omega
    obtain ⟨r, hr⟩ : ∃ r, leastS gh gc n = r := ⟨_, rfl⟩
    have HF := Lib.hid (fun K (h3 : k0 ≤ K) (h4 : K < k0 + 60) (h5 : atL gh gc K = true) (h6 : ∀ m, k0 ≤ m → m < K → atL gh gc m = false) => (show r = (K : Int) by
      rw [← hr, leastS_found (n := n) (j := K - k0) HO.out hbig hs60 (by omega) (by rw [hk0, show k0 + (K - k0) = K by omega]; exact h5) (fun i hi => by rw [hk0]; exact h6 _ (by omega) (by omega)), hk0]
      congr 1; omega))
    have HNo := Lib.hid (fun (h6 : ∀ m, k0 ≤ m → m < k0 + 60 → atL gh gc m = false) => hr.symm.trans (leastS_none (n := n) HO.out hbig hs60 (fun i hi => by rw [hk0]; exact h6 _ (by omega) (by omega))))
    have HR := Lib.hid hr
    clear hr
    go_wp2_with fail
    show Calls Tryd.prog _ _ (al w2 [(Obj.cells #[.slice gp gh.length gk, .slice qp gc.length qk] 24)]) _
    obtain ⟨OS, hOS⟩ : ∃ OS, OS = [(Obj.cells #[.slice gp gh.length gk, .slice qp gc.length qk] 24)] := ⟨_, rfl⟩
    rw [← hOS]
    replace G := Lib.hid (G.out.al OS)
    replace HB := Lib.hid (HB.out.trans ((al_below OS w2).mono HB.out.size))
    have BG0 : Blk (al w2 OS) (w2.heap.size) #[.slice gp gh.length gk, .slice qp gc.length qk] 24 := by rw [hOS]; exact al_blk w2 _ 0 rfl
    have BG := Lib.hid BG0
    clear BG0
    clear hOS
    generalize al w2 OS = W2 at G BG HB ⊢
    have HLe := least_any _ gh gc n W2 G.out hg3 hg4 hn0
    rw [HR.out] at HLe
    refine (HLe).mono ?_
    rintro e w3 ⟨rfl, hb⟩
    replace G := Lib.hid (G.out.grows hb)
    replace BG := Lib.hid (BG.out.grows hb)
    replace HB := Lib.hid (HB.out.trans (hb.mono HB.out.size))
    clear hb
    clear HLe hk0
    have hB := BG.out
    have hGs := G.out
    have hbw := HB.out
    clear BG G HB
    go_wp2_with fail
    go_loopw [9] (fun x wr => ∃ K : Nat, x = .int .i64 (K : Int) ∧ k0 ≤ K ∧ K ≤ k0 + 60 ∧ (∀ m, k0 ≤ m → m < K → atL gh gc m = false) ∧ Blk wr w2.heap.size #[.slice gp gh.length gk, .slice qp gc.length qk] 24 ∧ IsSet wr (.agg #[.slice gp gh.length gk, .slice qp gc.length qk]) gh gc ∧ Below w.heap.size w wr) (fun x _ => k0 + 60 - (RowKit.intOf x).toNat)
    case atStart => exact ⟨k0, rfl, Nat.le_refl _, by omega, fun m hm hm2 => by omega, hB, hGs, hbw⟩
    case round =>
      clear hB hGs hbw
      obtain ⟨K, rfl, hK0, hK, hno, hB, hGs, hbw⟩ := hrel
      have HNj := Lib.hid hno
      clear hno
      by_cases hlt : K < k0 + 60
      · have c0 := hB.cell 0 rfl
        have c1 := hB.cell 1 rfl
        have hH := has_any _ gh gc (K : Int) wr hGs hg3 hg4 (by omega)
        have e0 : hasB gh gc (K : Int) = atL gh gc K := by
          unfold hasB; rw [HO.out, decide_eq_true (by omega)]; rfl
        rw [e0] at hH
        cases hb : atL gh gc K
        · rw [hb] at hH
          have HNn := Lib.hid (show ∀ m, k0 ≤ m → m < K + 1 → atL gh gc m = false from fun m hm0 hm => by
            rcases Nat.lt_or_ge m K with h' | h'
            · exact HNj.out m hm0 h'
            · obtain rfl : m = K := by omega
              exact hb)
          have HH := Lib.hid hH
          clear hb e0 hH
          go_wp2_with (go_at_call 19; with_reducible refine HH.out.mono ?_; rintro e w4 ⟨rfl, hb4⟩)
          go_roundw
          case rel => exact ⟨K + 1, by go_num, by omega, by omega, HNn.out, hB.grows hb4, hGs.grows hb4, below_two hbw hb4⟩
          case measure => simp [RowKit.intOf]; omega
        · rw [hb] at hH
          have hrk := HF.out K hK0 hlt hb HNj.out
          have HH := Lib.hid hH
          clear hb e0 hH
          subst hrk
          go_wp2_with (go_at_call 19; with_reducible refine HH.out.mono ?_; rintro e w4 ⟨rfl, hb4⟩)
          go_ret
          exact ⟨rfl, below_two hbw hb4⟩
      · obtain rfl : K = k0 + 60 := by omega
        have hrk := HNo.out HNj.out
        subst hrk
        go_wp2
        go_ret
        exact ⟨rfl, hbw⟩
end Go.Proofs.YthnkgdpifebigaaDoor
