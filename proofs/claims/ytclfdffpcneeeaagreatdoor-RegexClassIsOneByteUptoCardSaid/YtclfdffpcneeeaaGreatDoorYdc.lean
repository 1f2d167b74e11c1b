/-
  Texts of the proof, one behind another: Ey, Ez.
-/
import Derived.Test.YtclfdffpcneeeaaGreatDoorYda
import Derived.Test.YtclfdffpcneeeaaGreatDoorYdb
import Derived.Test.YtclfdffpcneeeaaGreatDoorYbd
set_option linter.unusedSimpArgs false
set_option linter.unusedVariables false
/-
  Walks: a node's ends, whatever its kind.
-/
namespace Go.Proofs.YtclfdffpcneeeaaGreatDoor
open Go.RowKit Go.Shelf
attribute [local go_sem] Oper.semAt_some

theorem good_le_last : ∀ {m : List (Nat × Nat)}, Good m → ∀ {s : Nat × Nat}, m[m.length - 1]? = some s → ∀ t ∈ m, t.2 ≤ s.2
  | [], _, _, _, t, ht => by cases ht
  | [x], _, s, hs, t, ht => by
    simp only [List.length_singleton, Nat.sub_self, List.getElem?_cons_zero, Option.some.injEq] at hs
    subst hs
    rw [List.mem_singleton] at ht
    subst ht
    exact Nat.le_refl _
  | x :: y :: l, h, s, hs, t, ht => by
    have hs' : (y :: l)[(y :: l).length - 1]? = some s := by simpa using hs
    have ih := good_le_last h.2.2 hs'
    rcases List.mem_cons.1 ht with rfl | ht
    · have h1 := ih y (by simp)
      have h2 := h.2.1
      have h3 := Good.head h.2.2
      omega
    · exact ih t ht
/-- the last position of a set that ends at N. -/
theorem good_last {m : List (Nat × Nat)} {s : Nat × Nat} {N : Nat} (h : Good m) (hN : ∀ q, On m q → q ≤ N) (hs : m[m.length - 1]? = some s) : N < s.2 ↔ On m N := by
  have hm := List.mem_of_getElem? hs
  constructor
  · intro hlt
    have h1 := h.mem s hm
    have h2 := hN (s.2 - 1) ⟨s, hm, by omega, by omega⟩
    exact ⟨s, hm, by omega, hlt⟩
  · rintro ⟨t, ht, _, h2⟩
    have := good_le_last h hs t ht
    omega
theorem ends_any (Bm mb : Nat) (xs : List Nd) (b : List Int) (xb xo xc : Nat) (bv : Value) (hX : OkX xs) (hb : b.length ≤ 1048576) (hbb : ∀ y ∈ b, 0 ≤ y ∧ y < 256) (i : Nat) : i < xs.length → EndsC Bm mb xs b xb xo xc bv i := by
  induction i using Nat.strongRecOn with
  | _ i ih =>
    intro hi
    have hn := List.getElem?_eq_getElem hi
    have hk := hX.kind i _ hn
    have hE : ∀ j, j < i → EndsC Bm mb xs b xb xo xc bv j := fun j hj => ih j hj (by omega)
    generalize xs[i] = n at hn hk
    rcases (by omega : n.k = 1 ∨ n.k = 2 ∨ n.k = 3 ∨ n.k = 4 ∨ n.k = 5 ∨ n.k = 6 ∨ n.k = 7 ∨ n.k = 8) with h | h | h | h | h | h | h | h
    · exact ends_1 Bm mb xs b xb xo xc bv i n hX hn hb h
    · exact ends_2 Bm mb xs b xb xo xc bv i n hX hn hb h
    · exact ends_3 Bm mb xs b xb xo xc bv i n hX hn hb hbb h
    · exact ends_4 Bm mb xs b xb xo xc bv i n hX hn hb hE h
    · exact ends_5 Bm mb xs b xb xo xc bv i n hX hn hb hE h
    · exact ends_6 Bm mb xs b xb xo xc bv i n hX hn hb hE h
    · exact ends_7 Bm mb xs b xb xo xc bv i n hX hn hb hE h
    · exact ends_8 Bm mb xs b xb xo xc bv i n hX hn hb hE h
end Go.Proofs.YtclfdffpcneeeaaGreatDoor

/-
  Walks: Match and Nullable.
-/
namespace Go.Proofs.YtclfdffpcneeeaaGreatDoor
open Go.RowKit Go.Shelf
attribute [local go_sem] Oper.semAt_some

set_option maxRecDepth 100000 in
set_option maxHeartbeats 2000000 in
theorem match_any (v bv : Value) (xs : List Nd) (b : List Int) (W : World) (hv : IsX W v xs) (hm : xs.length ≤ maxLen) (hbv : IsB W bv b) (hbb : ∀ y ∈ b, 0 ≤ y ∧ y < 256) (hb : b.length ≤ 1048576)
    (htab : Lib.TabBelow Tryz.prog W.heap.size W "internal/strconv.uint64pow10" .u64 Lib.pow10Tab) :
    Calls Tryz.prog 21 #[v, bv] W fun e W' => e = .returned (.bool (matchB xs b)) ∧ Below W.heap.size W W' := by
  have HV := Lib.hid (valid_any v xs W hv hm)
  by_cases h0 : validE xs = 0
  · have hX := okX_of h0
    have hne : xs.length ≠ 0 := by
      intro h
      unfold validE at h0
      rw [if_neg (by omega), if_pos h] at h0
      cases h0
    obtain ⟨xb, xo, xc, rfl, hR⟩ : ∃ blk off cap, v = .slice (some ⟨blk, off, none⟩) xs.length cap ∧ ReadsN W blk off xs := by
      rcases hv with ⟨rfl, _⟩ | h
      · exact absurd rfl hne
      · exact h
    obtain ⟨bp, bc, rfl⟩ := hbv.shape
    rw [h0] at HV
    have HR := Lib.hid hR
    have HB := Lib.hid hbv
    have HT := Lib.hid htab
    have HX := Lib.hid hX
    have H0 := Lib.hid h0
    have Hbb := Lib.hid hbb
    clear hv hR hbv htab hX h0 hbb
    have hmm := @run_makeMap Tryz.prog
    have hlx := HX.out.len
    have hwl : IntKind.i64.wrap ((xs.length : Int) - 1) = ((xs.length - 1 : Nat) : Int) := by rw [IntWalk.i64_in _ (by omega)]; omega
    go_enter Tryz.func21, Tryz.ntmps21
    go_wp2_with (go_at_call 17; refine HV.out.mono ?_; rintro e W1 ⟨rfl, hb1⟩)
    have hbm : Below W1.heap.size W1 ((W1.alloc (.map #[] 0)).alloc (.cells #[.slice (some ⟨xb, xo, none⟩) xs.length xc, .slice bp b.length bc, .map (some W1.heap.size)] 61)) := ((Below.refl _ W1).alloc (Nat.le_refl _) _).alloc (by simp) _
    have hM0 : Mw ((W1.alloc (.map #[] 0)).alloc (.cells #[.slice (some ⟨xb, xo, none⟩) xs.length xc, .slice bp b.length bc, .map (some W1.heap.size)] 61)) (W1.heap.size + 1) W1.heap.size xs b xb xo xc (.slice bp b.length bc) := by
      refine ⟨?_, (HR.out.grows hb1).grows hbm, (HB.out.kept fun _ _ h => (hb1.cell (lt_of_cell h)).trans h).kept fun _ _ h => (hbm.cell (lt_of_cell h)).trans h, #[], 0, ?_, fun e he => by simp at he⟩
      · have h := Blk.new (W1.alloc (.map #[] 0)) #[.slice (some ⟨xb, xo, none⟩) xs.length xc, .slice bp b.length bc, .map (some W1.heap.size)] 61
        rw [World.size_alloc] at h
        exact h
      · exact (Below.heap_alloc _ _ _ (by simp)).trans (heap_alloc_new W1 _)
    have hs2 : ((W1.alloc (.map #[] 0)).alloc (.cells #[.slice (some ⟨xb, xo, none⟩) xs.length xc, .slice bp b.length bc, .map (some W1.heap.size)] 61)).heap.size = W1.heap.size + 2 := by simp
    generalize ((W1.alloc (.map #[] 0)).alloc (.cells #[.slice (some ⟨xb, xo, none⟩) xs.length xc, .slice bp b.length bc, .map (some W1.heap.size)] 61)) = W2 at hbm hM0 hs2 ⊢
    have hT2 := Lib.TabBelow.on HT.out (hb1.trans (hbm.mono hb1.size))
    have HM0 := Lib.hid hM0
    have HBm := Lib.hid hbm
    have HB1 := Lib.hid hb1
    have HT2 := Lib.hid hT2
    have Hs2 := Lib.hid hs2
    have HO := Lib.hid (fun w => only_any 0 (by decide) w)
    clear hM0 hbm hb1 hT2 hs2
    go_wp2_with (go_at_call 41; refine (HO.out _).mono ?_; rintro e W3 ⟨rfl, hw3⟩; have Hw3 := Lib.hid hw3; clear hw3)
    have hb3 : Below W2.heap.size W2 W3 := by rw [Hw3.out]; exact (Below.refl _ W2).alloc (Nat.le_refl _) _
    have hi3 : IsS W3 (.slice (some ⟨W2.heap.size, 0, none⟩) 1 1) [(0, 0 + 1)] := by rw [Hw3.out]; exact only_isS 0 W2
    have hE3 := ends_any (W1.heap.size + 1) W1.heap.size xs b xb xo xc (.slice bp b.length bc) HX.out hb Hbb.out (xs.length - 1) (by omega) (.slice (some ⟨W2.heap.size, 0, none⟩) 1 1) [(0, 0 + 1)] W3
      (HM0.out.grows hb3) (Lib.tabBelow_of_tabIs ((HT2.out.on (hb3.mono (by have := Hs2.out; have := HB1.out.size; omega))).here)) hi3 (good_one 0) (fun q hq => by have := on_one hq; omega)
    have HE3 := Lib.hid hE3
    have HB3 := Lib.hid hb3
    clear hb3 hi3 hE3 Hw3
    go_wp2_with fail
    refine HE3.out.mono ?_
    rintro e W4 ⟨⟨v4, m, rfl, hv4, hs4⟩, hg4, hm4⟩
    obtain ⟨p4, c4, rfl⟩ := hv4.shape
    have hbt : Below W.heap.size W W4 := by
      have h1 := HB1.out
      have h2 := HBm.out
      have h3 := HB3.out
      have h4 := Hs2.out
      refine (h1.trans ((h2.mono h1.size).trans (h3.mono (by have := h1.size; omega)))).trans ⟨hg4.os, hg4.tape, hg4.output, hg4.size, fun k hk => hg4.block k ?_ ?_⟩
      · have := h1.size; have := h3.size; omega
      · have := h1.size; simp; omega
    have Hbt := Lib.hid hbt
    have hle4 := hs4.le
    have hg0 := hs4.1
    have hon : On m b.length ↔ sp b (tr xs (xs.length - 1)) 0 b.length := by
      rw [hs4.2]
      constructor
      · rintro ⟨p, hp, h⟩
        obtain rfl := on_one hp
        exact h
      · intro h
        exact ⟨0, ((only_good 0).2 0).2 rfl, h⟩
    clear hbt hs4 hg4 hm4 HE3
    rcases m with _ | ⟨s0, m0⟩
    · have hmf : matchB xs b = false := matchB_false fun h => on_nil _ (hon.2 h)
      have Hmf := Lib.hid hmf
      clear hmf hon hle4 hg0 hv4
      simp only [List.length_nil]
      go_wp2
      go_ret
      exact ⟨ret_bool Hmf.out.symm, Hbt.out⟩
    · obtain ⟨s, hs⟩ : ∃ s, (s0 :: m0)[(s0 :: m0).length - 1]? = some s := ⟨_, List.getElem?_eq_getElem (by simp)⟩
      have hlast := good_last hg0 hle4 hs
      have hll := len_pts hg0
      have hll2 := pts_len hg0 hle4
      obtain ⟨gb, go, rfl, -, q1⟩ := hv4.at hs
      have hpos : 0 < (s0 :: m0).length := by simp
      have hres : decide (b.length < s.2) = matchB xs b := by
        rw [Bool.eq_iff_iff, decide_eq_true_iff, matchB_true]
        constructor
        · intro h
          exact ⟨H0.out, hon.1 (hlast.1 (by omega))⟩
        · rintro ⟨_, h⟩
          have := hlast.2 (hon.2 h)
          omega
      have Hres := Lib.hid hres
      generalize (s0 :: m0).length = N at hll hll2 hpos q1 ⊢
      have hN : N ≤ 1048577 := by omega
      have t1 : decide ((0 : Int) < (N : Int)) = true := by simp; omega
      have wN : IntKind.i64.wrap ((N : Int) - 1) = ((N - 1 : Nat) : Int) := by rw [IntWalk.i64_in _ (by omega)]; omega
      clear hs hlast hg0 hle4 hon hres hv4 hll hll2
      go_wp2
      go_ret
      exact ⟨ret_bool Hres.out, Hbt.out⟩
  · have hv0 : (validE xs != 0) = true := by simp [h0]
    have hmf : matchB xs b = false := by
      cases hmm : matchB xs b
      · rfl
      · exact absurd (matchB_true.1 hmm).1 h0
    have Hmf := Lib.hid hmf
    obtain ⟨p, c, rfl⟩ := hv.shape
    obtain ⟨bp, bc, rfl⟩ := hbv.shape
    clear hv hbv hmf htab
    go_enter Tryz.func21, Tryz.ntmps21
    go_wp2_with (go_at_call 17; refine HV.out.mono ?_; rintro e W1 ⟨rfl, hb1⟩)
    go_ret
    exact ⟨ret_bool Hmf.out.symm, hb1⟩
set_option maxRecDepth 100000 in
theorem nullable_any (v : Value) (xs : List Nd) (W : World) (hv : IsX W v xs) (hm : xs.length ≤ maxLen)
    (htab : Lib.TabBelow Tryz.prog W.heap.size W "internal/strconv.uint64pow10" .u64 Lib.pow10Tab) :
    Calls Tryz.prog 19 #[v] W fun e W' => e = .returned (.bool (matchB xs [])) ∧ Below W.heap.size W W' := by
  have HM := Lib.hid (match_any v (.slice none 0 0) xs [] W hv hm (.inl ⟨rfl, none, 0, rfl⟩) (fun y hy => by cases hy) (by simp) htab)
  obtain ⟨p, c, rfl⟩ := hv.shape
  clear hv htab
  go_enter Tryz.func19, Tryz.ntmps19
  go_wp2_with (go_at_call 21; refine HM.out.mono ?_; rintro e W1 ⟨rfl, hb1⟩)
  go_ret
  exact ⟨rfl, hb1⟩
end Go.Proofs.YtclfdffpcneeeaaGreatDoor
