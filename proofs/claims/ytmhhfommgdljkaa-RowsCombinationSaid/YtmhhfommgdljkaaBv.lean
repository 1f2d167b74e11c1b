/-
  Walk: solvable.
-/
import Derived.Test.YtmhhfommgdljkaaBw
set_option linter.unusedSimpArgs false
set_option linter.unusedVariables false
namespace Go.Proofs.Ytmhhfommgdljkaa
open Go.RowKit Go.Lib

def HasSol (rs : List Rw) (b : List Iv) : Prop := ∃ z, InB b z ∧ Sol rs z
/-- the answer to the question whether a box contains a solution. -/
def SolvR (rs : List Rw) (b : List Iv) (q : Bool) : Prop := (q = true ∧ HasSol rs b) ∨ (q = false ∧ NoSol rs b)
theorem SolvR.lower {rs : List Rw} {b : List Iv} {i : Nat} {v : Iv} (hv : b[i]? = some v) (h : v.lo ≤ v.hi) {k : Int} (hq : SolvR rs (lower b i v k) true) : SolvR rs b true := by
  rcases hq with ⟨_, z, h1, h2⟩ | ⟨e, _⟩
  · exact .inl ⟨rfl, z, (InB.of_lower hv h h1).1, h2⟩
  · cases e
theorem SolvR.both {rs : List Rw} {b : List Iv} {i : Nat} {v : Iv} (hv : b[i]? = some v) (h : v.lo ≤ v.hi) {k l : Int} {q : Bool} (h0 : SolvR rs (Go.Proofs.Ytmhhfommgdljkaa.lower b i v k) false) (hq : SolvR rs (upper b i v l) q) : SolvR rs b q := by
  rcases h0 with ⟨e, _⟩ | ⟨_, h0⟩
  · cases e
  · rcases hq with ⟨rfl, z, h1, h2⟩ | ⟨rfl, h1⟩
    · exact .inl ⟨rfl, z, (InB.of_upper hv h h1).1, h2⟩
    · exact .inr ⟨rfl, NoSol.both hv h0 h1⟩
/-- what solvable answers. -/
def SolvRes (w : World) (rs : List Rw) (b : List Iv) (e : Ending) (w' : World) : Prop := ∃ q, SolvR rs b q ∧ e = .returned (.bool q) ∧ Below w.heap.size w w'
theorem lower_take (B : List Iv) (n i : Nat) (v : Iv) (k : Int) : (lower B i v k).take n = lower (B.take n) i v k := by unfold lower; rw [List.take_set]
theorem upper_take (B : List Iv) (n i : Nat) (v : Iv) (k : Int) : (upper B i v k).take n = upper (B.take n) i v k := by unfold upper; rw [List.take_set]
theorem lower_length (B : List Iv) (i : Nat) (v : Iv) (k : Int) : (lower B i v k).length = B.length := by unfold lower; simp
theorem upper_length (B : List Iv) (i : Nat) (v : Iv) (k : Int) : (upper B i v k).length = B.length := by unfold upper; simp
set_option maxRecDepth 100000 in
set_option maxHeartbeats 4000000 in
theorem solvable_any (s : Sy) (hV : validB s = true) : ∀ (N : Nat) (v : Value) (B : List Iv) (w : World), vol (B.take s.T.length) ≤ N → IsS w v s → B.length = 12 → Full (B.take s.T.length) →
    Calls Try.prog 31 #[v, .agg (boxA B)] w (SolvRes w s.R (B.take s.T.length)) := by
  intro N
  have hvi := valid_iff.1 hV
  obtain ⟨⟨hn1, hn2, hn3⟩, -, hR⟩ := hvi
  have HR := Lib.hid hR
  clear hV hR
  induction N with
  | zero =>
    intro v B w h1 _ _ hF
    have := vol_pos hF
    omega
  | succ N ih =>
    intro v B w hvol hv hB hF
    obtain ⟨tp, tc, rp, rc, rfl, htc, hrc, h1, h2⟩ := hv.shape
    have HS := Lib.hid (fun W (hW : Below w.heap.size w W) => hv.grows hW)
    have HRs := Lib.hid (fun W (hW : Below w.heap.size w W) => h2.grows hW)
    have HB := Lib.hid hB
    have HF := Lib.hid hF
    have HIH := Lib.hid ih
    have HVol := Lib.hid hvol
    have hb1 : Below w.heap.size w ((w.alloc (.cells #[.slice tp s.T.length tc, .slice rp s.R.length rc] 25)).alloc (.cells (boxA B) 58)) := by go_grown
    have S1 := (Blk.new w #[.slice tp s.T.length tc, .slice rp s.R.length rc] 25).alloc (.cells (boxA B) 58)
    have D1 : BxAt ((w.alloc (.cells #[.slice tp s.T.length tc, .slice rp s.R.length rc] 25)).alloc (.cells (boxA B) 58)) (w.heap.size + 1) B := ⟨Blk.alloc1 w _ _ _ _, hB⟩
    have hz : w.heap.size + 2 = ((w.alloc (.cells #[.slice tp s.T.length tc, .slice rp s.R.length rc] 25)).alloc (.cells (boxA B) 58)).heap.size := by simp
    clear hv h1 h2 hB hF ih hvol
    have HS1 := Lib.hid S1
    have HD1 := Lib.hid D1
    have HW1 := Lib.hid hb1
    clear S1 D1 hb1 hz
    have s0 := HS1.out.cell 0 rfl
    have s1 := HS1.out.cell 1 rfl
    go_enter Try.func31, Try.ntmps31
    go_wp2_with (first | (refine wpList_load_row rfl 58 _ rfl (w.heap.size + 1) rfl 58 _ (0, 0) _ HD1.out.1.is Try.underlying58 rfl (box_info HB.out) ?_) | fail)
    generalize ((w.alloc (.cells #[.slice tp s.T.length tc, .slice rp s.R.length rc] 25)).alloc (.cells (boxA B) 58)) = w1 at *
    refine (failing_any _ s.R B s.T.length w1 (HRs.out w1 HW1.out) HB.out hn2 HF.out (by omega) HR.out).mono ?_
    rintro e w2 ⟨rfl, hb2⟩
    have HS2 := Lib.hid (HS1.out.grows hb2)
    have HD2 := Lib.hid (HD1.out.grows hb2)
    have HW2 := Lib.hid (below_two HW1.out hb2)
    clear hb2 HS1 HD1 HW1 s0 s1
    have t0 := HS2.out.cell 0 rfl
    have t1 := HS2.out.cell 1 rfl
    by_cases hf : failK s.R (B.take s.T.length) < s.R.length
    · have HQ := Lib.hid (show SolvR s.R (B.take s.T.length) false from .inr ⟨rfl, noSol_of_fail hf⟩)
      have hfi : failI s.R (B.take s.T.length) = (failK s.R (B.take s.T.length) : Int) := by unfold failI; rw [if_pos hf]
      rw [hfi]
      clear hf hfi
      generalize failK s.R (B.take s.T.length) = kf
      go_wp2
      go_ret
      exact ⟨false, HQ.out, rfl, HW2.out⟩
    · have hfi : failI s.R (B.take s.T.length) = -1 := by unfold failI; rw [if_neg hf]
      rw [hfi]
      have HNF := Lib.hid hf
      clear hf hfi
      go_wp2_with (first | (refine wpList_load_row rfl 58 _ rfl (w.heap.size + 1) rfl 58 _ (0, 0) _ HD2.out.1.is Try.underlying58 rfl (box_info HB.out) ?_) | fail)
      refine (open_any B s.T.length w2 HB.out hn2).mono ?_
      rintro e w3 ⟨rfl, hb3⟩
      have HS3 := Lib.hid (HS2.out.grows hb3)
      have HD3 := Lib.hid (HD2.out.grows hb3)
      have HW3 := Lib.hid (below_two HW2.out hb3)
      clear hb3 HS2 HD2 HW2 t0 t1
      have t0 := HS3.out.cell 0 rfl
      have t1 := HS3.out.cell 1 rfl
      have htl : (B.take s.T.length).length = s.T.length := by rw [List.length_take, HB.out]; omega
      by_cases ho : openK (B.take s.T.length) < (B.take s.T.length).length
      · have hov := openK_lt ho
        have hol := ho
        rw [htl] at hol
        have HO := Lib.hid ho
        have hneq : (((openK (B.take s.T.length) : Nat) : Int) == (s.T.length : Int)) = false := by rw [beq_eq_false_iff_ne]; omega
        obtain ⟨vi, hvi, hvlt⟩ := hov
        have HVi := Lib.hid hvi
        have hBi : B[openK (B.take s.T.length)]? = some vi := by rw [List.getElem?_take_of_lt hol] at hvi; exact hvi
        have hvf := HF.out vi (List.mem_of_getElem? hvi)
        have HVl := Lib.hid hvlt
        have HBi := Lib.hid hBi
        clear htl ho hvi hBi hvlt
        generalize openK (B.take s.T.length) = io at hol hneq HO HVi HBi ⊢
        go_wp2_with (first | (refine wpList_load_row rfl 58 _ rfl (w.heap.size + 1) rfl 58 _ (0, 0) _ HD3.out.1.is Try.underlying58 rfl (box_info HB.out) ?_) | fail)
        refine (halves_any B io vi w3 HB.out HBi.out (by omega)).mono ?_
        rintro e w4 ⟨rfl, hb4⟩
        have HS4 := Lib.hid (HS3.out.grows hb4)
        have HW4 := Lib.hid (below_two HW3.out hb4)
        clear hb4 HS3 HD3 HW3 t0 t1
        have hLl : (lower B io vi vi.hr).length = 12 := by rw [lower_length]; exact HB.out
        have hUl : (upper B io vi vi.lr).length = 12 := by rw [upper_length]; exact HB.out
        have hLF : Full ((lower B io vi vi.hr).take s.T.length) := by rw [lower_take]; exact Full.lower HF.out HVi.out HVl.out _
        have hUF : Full ((upper B io vi vi.lr).take s.T.length) := by rw [upper_take]; exact Full.upper HF.out HVi.out HVl.out _
        have hvv := vol_halves HVi.out HVl.out vi.hr vi.lr
        have hp1 := vol_pos hLF
        have hp2 := vol_pos hUF
        rw [lower_take] at hp1
        rw [upper_take] at hp2
        have hv1 : vol ((lower B io vi vi.hr).take s.T.length) ≤ N := by rw [lower_take]; have := HVol.out; omega
        have hv2 : vol ((upper B io vi vi.lr).take s.T.length) ≤ N := by rw [upper_take]; have := HVol.out; omega
        have HVV := Lib.hid (And.intro hv1 hv2)
        have HLL := Lib.hid (And.intro hLl hUl)
        have HFF := Lib.hid (And.intro hLF hUF)
        have hvle : vi.lo ≤ vi.hi := Int.le_of_lt HVl.out
        have HJ1 := Lib.hid (show SolvR s.R ((lower B io vi vi.hr).take s.T.length) true → SolvR s.R (B.take s.T.length) true by rw [lower_take]; exact SolvR.lower HVi.out hvle)
        have HJ2 := Lib.hid (show ∀ q, SolvR s.R ((lower B io vi vi.hr).take s.T.length) false → SolvR s.R ((upper B io vi vi.lr).take s.T.length) q → SolvR s.R (B.take s.T.length) q by rw [lower_take, upper_take]; exact fun q h0 h1 => SolvR.both HVi.out hvle h0 h1)
        clear hLl hUl hLF hUF hvv hp1 hp2 hv1 hv2 hvf hvle HVi HBi HVl HO HVol
        generalize lower B io vi vi.hr = L at HVV HLL HFF HJ1 HJ2 ⊢
        generalize upper B io vi vi.lr = U at HVV HLL HFF HJ1 HJ2 ⊢
        go_upto_region 7 with (first
          | (refine wpList_store_row rfl 58 _ _ rfl w4.heap.size (boxA L) rfl rfl 58 zA ((Blk.new w4 zA 58).alloc _).is (box_info HLL.out.1) (by rw [boxA_size, HLL.out.1]; rfl) (box_one L) ?_)
          | (refine wpList_store_row rfl 58 _ _ rfl (w4.heap.size + 1) (boxA U) rfl rfl 58 zA ((Blk.alloc1 w4 zA zA 58 58).row (by omega) _).is (box_info HLL.out.2) (by rw [boxA_size, HLL.out.2]; rfl) (box_one U) ?_)
          | fail)
        refine wp_world fun w5 hw5 => ?_
        have F6 : BxAt w5 w4.heap.size L := by
          rw [hw5]
          have e1 := BxAt.row (B := L) ((Blk.new w4 zA 58).alloc (.cells zA 58)) HLL.out.1
          exact ⟨Blk.row e1.1 (by omega) _, e1.2⟩
        have F7 : BxAt w5 (w4.heap.size + 1) U := by
          rw [hw5]
          exact BxAt.row (B := U) ((Blk.alloc1 w4 zA zA 58 58).row (by omega) _) HLL.out.2
        have hb5 : Below w4.heap.size w4 w5 := by
          rw [hw5]
          exact below_row (below_row (((Below.refl _ w4).alloc (Nat.le_refl _) _).alloc (by simp) _) (Nat.le_refl _) _) (by omega) _
        clear hw5
        have HF6 := Lib.hid F6
        have HF7 := Lib.hid F7
        have HS5 := Lib.hid (HS4.out.grows hb5)
        have HW5 := Lib.hid (below_two HW4.out hb5)
        clear F6 F7 hb5 HS4 HW4
        have t0 := HS5.out.cell 0 rfl
        have t1 := HS5.out.cell 1 rfl
        go_wp2_with (first | (refine wpList_load_row rfl 58 _ rfl w4.heap.size rfl 58 _ (0, 0) _ HF6.out.1.is Try.underlying58 rfl (box_info HLL.out.1) ?_) | fail)
        refine (HIH.out _ L w5 HVV.out.1 (HS.out w5 HW5.out) HLL.out.1 HFF.out.1).mono ?_
        rintro e w6 ⟨q, hq, rfl, hb6⟩
        have HS6 := Lib.hid (HS5.out.grows hb6)
        have HG7 := Lib.hid (HF7.out.grows hb6)
        have HW6 := Lib.hid (below_two HW5.out hb6)
        clear hb6 HS5 HF7 HF6 HW5 t0 t1
        have t0 := HS6.out.cell 0 rfl
        have t1 := HS6.out.cell 1 rfl
        cases q with
        | true =>
          have HQ := Lib.hid (HJ1.out hq)
          clear hq
          go_wp2
          go_ret
          exact ⟨true, HQ.out, rfl, HW6.out⟩
        | false =>
          have HQ := Lib.hid hq
          clear hq
          go_wp2_with (first | (refine wpList_load_want (by rfl) 58 _ rfl (w4.heap.size + 1) rfl 58 _ (0, 0) _ HG7.out.1.is Try.underlying58 rfl (box_info HLL.out.2) ?_) | fail)
          refine (HIH.out _ U w6 HVV.out.2 (HS.out w6 HW6.out) HLL.out.2 HFF.out.2).mono ?_
          rintro e w7 ⟨q, hq, rfl, hb7⟩
          have HQ2 := Lib.hid (HJ2.out q HQ.out hq)
          have HW7 := Lib.hid (below_two HW6.out hb7)
          clear hq hb7
          go_wp2
          go_ret
          exact ⟨q, HQ2.out, rfl, HW7.out⟩
      · have heq : openK (B.take s.T.length) = s.T.length := by
          have h1 : openK (B.take s.T.length) ≤ (B.take s.T.length).length := List.findIdx_le_length ..
          omega
        have HQ := Lib.hid (show SolvR s.R (B.take s.T.length) true from by
          have hl := least_leaf HNF.out ho HF.out
          exact .inl ⟨rfl, _, hl.inb, hl.sol⟩)
        rw [heq]
        clear heq ho htl
        go_wp2
        go_ret
        exact ⟨true, HQ.out, rfl, HW3.out⟩
end Go.Proofs.Ytmhhfommgdljkaa
