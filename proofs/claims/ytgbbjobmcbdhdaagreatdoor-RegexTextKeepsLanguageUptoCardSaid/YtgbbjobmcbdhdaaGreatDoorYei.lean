/-
  Texts of the proof, one behind another: Tk.
-/
import Derived.Test.YtgbbjobmcbdhdaaGreatDoorYeh
import Derived.Test.YtgbbjobmcbdhdaaGreatDoorYeb
set_option linter.unusedSimpArgs false
set_option linter.unusedVariables false
/-
  The law that a text keeps the language: the walk.
-/
namespace Go.Proofs.YtgbbjobmcbdhdaaGreatDoor
open Go.RowKit Go.Shelf
attribute [local go_sem] Oper.semAt_some

theorem own_ptr {w : World} {base : Nat} {e : TypeId} {size : Nat} {v : Value} {n : Nat} {xs : List Value} (h : w.ownsRow base e size v n xs) (h0 : 0 < n) : ∃ g c, v = .slice (some ⟨g, 0, none⟩) n c ∧ base ≤ g ∧ g < w.heap.size := by
  have hg := own_ge h
  have hl := own_lt h
  obtain ⟨_, ⟨_, hn⟩ | ⟨g, cap, cur, hv, _⟩⟩ := h
  · omega
  · subst hv
    exact ⟨g, cap, rfl, hg g rfl, hl g rfl⟩
theorem own_cell {w : World} {base g cap n : Nat} {e : TypeId} {size : Nat} {xs : List Value} (h : w.ownsRow base e size (.slice (some ⟨g, 0, none⟩) n cap) n xs) (k : Nat) (v : Value) : (w.setCell ⟨g, k, none⟩ v).ownsRow base e size (.slice (some ⟨g, 0, none⟩) n cap) n (xs.set k v) := by
  obtain ⟨hl, ⟨hv, _⟩ | ⟨g', cap', cur, hv, hg, hh, hcap, hm, hsz, htk⟩⟩ := h
  · cases hv
  · simp only [Value.slice.injEq, Option.some.injEq, Addr.mk.injEq, and_true, true_and] at hv
    obtain ⟨rfl, rfl⟩ := hv
    have hb : Blk w g cur e := ⟨hh⟩
    have hb4 := hb.set k v
    refine ⟨by rw [List.length_set]; exact hl, .inr ⟨g, cap, _, rfl, hg, hb4.is, hcap, hm, by simpa using hsz, ?_⟩⟩
    rw [← htk]
    simp only [Array.toList_setIfInBounds, List.take_set]
theorem own_row {w : World} {base g cap n : Nat} {e : TypeId} {size : Nat} {xs : List Value} (h : w.ownsRow base e size (.slice (some ⟨g, 0, none⟩) n cap) n xs) : ∃ cur, Blk w g cur e := by
  obtain ⟨_, ⟨hv, _⟩ | ⟨g', cap', cur, hv, _, hh, _⟩⟩ := h
  · cases hv
  · simp only [Value.slice.injEq, Option.some.injEq, Addr.mk.injEq, and_true, true_and] at hv
    obtain ⟨rfl, rfl⟩ := hv
    exact ⟨cur, ⟨hh⟩⟩
theorem set_root (A B : List Value) (k : Nat) (v : Value) (i : Nat) (h : A.length = k) : (A ++ B).set (k + i) v = A ++ B.set i v := by
  rw [List.set_append_right _ _ (by omega)]
  congr 2
  omega
theorem set_root0 (A B : List Value) (k : Nat) (v : Value) (h : A.length = k) : (A ++ B).set k v = A ++ B.set 0 v := set_root A B k v 0 h
/-- the operands of the last node are exchanged. -/
theorem own_turn {w : World} {base g cap n : Nat} {e : TypeId} {P : List Nd} {a b : Int} (h : w.ownsRow base e 9 (.slice (some ⟨g, 0, none⟩) (n + 1) cap) (n + 1) ((P ++ [(⟨5, 0, a, b, 0, 0⟩ : Nd)]).flatMap encN)) (hP : P.length = n) :
    (((((((((w.setCell ⟨g, n * 9, none⟩ (.int .i64 5)).setCell ⟨g, n * 9 + 1, none⟩ (.int .u64 0)).setCell ⟨g, n * 9 + 2, none⟩ (.int .u64 0)).setCell ⟨g, n * 9 + 3, none⟩ (.int .u64 0)).setCell ⟨g, n * 9 + 4, none⟩ (.int .u64 0)).setCell ⟨g, n * 9 + 5, none⟩ (.int .i64 b)).setCell ⟨g, n * 9 + 6, none⟩ (.int .i64 a)).setCell ⟨g, n * 9 + 7, none⟩ (.int .i64 0)).setCell ⟨g, n * 9 + 8, none⟩ (.int .i64 0)).ownsRow base e 9 (.slice (some ⟨g, 0, none⟩) (n + 1) cap) (n + 1) ((P ++ [(⟨5, 0, b, a, 0, 0⟩ : Nd)]).flatMap encN) := by
  have hA : (P.flatMap encN).length = n * 9 := by rw [flat_lenN, hP]
  rw [flat_snocN] at h ⊢
  refine own_cast (own_cell (own_cell (own_cell (own_cell (own_cell (own_cell (own_cell (own_cell (own_cell h (n * 9) (.int .i64 5)) (n * 9 + 1) (.int .u64 0)) (n * 9 + 2) (.int .u64 0)) (n * 9 + 3) (.int .u64 0)) (n * 9 + 4) (.int .u64 0)) (n * 9 + 5) (.int .i64 b)) (n * 9 + 6) (.int .i64 a)) (n * 9 + 7) (.int .i64 0)) (n * 9 + 8) (.int .i64 0)) rfl ?_
  rw [set_root0 _ _ _ _ hA]
  simp only [set_root _ _ _ _ _ hA, encN, wd_zero]
  rfl

set_option maxRecDepth 100000 in
set_option maxHeartbeats 4000000 in
theorem keeps_walk (W : World) (lp mp bp : Option Addr) (lc mc bc : Nat) (l m b : List Int) (hl : BytesArg W lp lc l) (hm : BytesArg W mp mc m) (hb : BytesArg W bp bc b) (hG : Given W) :
    Calls Tryz.prog 6 #[.slice lp l.length lc, .slice mp m.length mc, .slice bp b.length bc] W fun e W' => e = .returned (.bool true) ∧ Below W.heap.size W W' := by
  have HS := Lib.hid (sanity_any W hG.bruijn hG.bruijn_lt hG.powers)
  have HL := Lib.hid hl
  have HM := Lib.hid hm
  have HB := Lib.hid hb
  have HG := Lib.hid hG
  obtain ⟨u, hu⟩ : ∃ u, b.take 8 = u := ⟨_, rfl⟩
  have HSm := Lib.hid (fun w => by
    have h := small_any bp bc b 8 (by omega) w hb.cap hb.len
    rw [hu] at h
    exact h)
  have HU := Lib.hid hu
  clear hl hm hb hG hu
  go_enter Tryz.func6, Tryz.ntmps6
  go_wp2_with fail
  refine HS.out.mono ?_
  rintro e W1 ⟨rfl, hb1⟩
  go_wp2_with fail
  refine (HSm.out W1).mono ?_
  rintro e _ ⟨rfl, rfl⟩
  go_wp2_with fail
  refine (HL.out.made hb1 20 (by omega) (by omega)).mono ?_
  rintro e W2 ⟨⟨xq, xc, xs, rfl, hx, hxw, hxl, -, t, ht, hts, rfl⟩, hb2⟩
  have hB2 := hb1.trans (hb2.mono hb1.size)
  go_wp2_with fail
  refine (HM.out.made hB2 20 (by omega) (by omega)).mono ?_
  rintro e W3 ⟨⟨yq, yc, ys, rfl, hy, hyw, hyl, -, r, hr, hrs, rfl⟩, hb3⟩
  have hB3 := hB2.trans (hb3.mono hB2.size)
  have hx3 := hx.grows hb3
  rw [flatT_len] at hxl hyl
  have hbin := rbin_is 5 _ _ (flat t 0) (flat r 0) W3 hx3 hy (by rw [flatT_len]; omega) (by rw [flatT_len]; omega) hxw hyw
  have hrev := fun w (hw : Below W3.heap.size W3 w) => rbinary_any 5 _ _ (flat r 0) (flat t 0) w (hy.grows hw) (hx3.grows hw) (by rw [flatT_len]; omega) (by rw [flatT_len]; omega) hyw.pos (fun i n hi j hj => by
    have h1 := chk_zero (hxw.chk i n hi) j hj
    have h2 := (List.getElem?_eq_some_iff.1 hi).1
    rw [flatT_len] at h2
    omega)
  rw [bin_flat, flatT_len, flatT_len] at hbin
  simp only [bin_flat, flatT_len] at hrev
  simp only [flatT_len]
  have HBin := Lib.hid hbin
  have HRev := Lib.hid hrev
  have hp := size_pos t
  have hp' := size_pos r
  clear hbin hrev hx hx3 hy hb1 hb2 hb3 hB2 HS hxw hyw
  go_wp2_with fail
  refine HBin.out.mono ?_
  rintro e W4 ⟨⟨sq, sc, rfl, hs, -⟩, hb4⟩
  go_wp2_with fail
  refine (HRev.out _ hb4).mono ?_
  rintro e W5 ⟨⟨zv, rfl, hown⟩, hb5⟩
  obtain ⟨g, zc, rfl, hg1, hg2⟩ := own_ptr hown (by omega)
  obtain ⟨n, hn⟩ : ∃ n, r.size + t.size = n := ⟨_, rfl⟩
  rw [hn] at hown ⊢
  have hrt : (flat (.alt r t) 0)[n]? = some ⟨5, 0, ((0 + r.size - 1 : Nat) : Int), ((0 + r.size + t.size - 1 : Nat) : Int), 0, 0⟩ := by rw [← hn]; exact last_two (by rw [flatT_len, flatT_len])
  have hlen : (flat (.alt r t) 0).length = n + 1 := by rw [flatT_len]; simp only [Rx.size]; omega
  have hzx := own_isX (l := flat (.alt r t) 0) (own_cast hown hlen.symm rfl)
  obtain ⟨xb, xo, he, a0, a1, a2, a3, a4, a5, a6, a7, a8⟩ := hzx.at hrt
  cases he
  obtain ⟨ra, hra⟩ : ∃ ra : Int, ((0 + r.size - 1 : Nat) : Int) = ra := ⟨_, rfl⟩
  obtain ⟨rb, hrb⟩ : ∃ rb : Int, ((0 + r.size + t.size - 1 : Nat) : Int) = rb := ⟨_, rfl⟩
  simp only [wd_zero, Nat.zero_add, Nat.add_zero] at a0 a1 a2 a3 a4 a5 a6 a7 a8
  have hfl : flat (.alt r t) 0 = (flat r 0 ++ flat t (0 + r.size)) ++ [⟨5, 0, ra, rb, 0, 0⟩] := by rw [← hra, ← hrb, List.append_assoc]; rfl
  have htu : turned t r = (flat r 0 ++ flat t (0 + r.size)) ++ [⟨5, 0, rb, ra, 0, 0⟩] := by rw [← hra, ← hrb, List.append_assoc]; rfl
  have hPn : (flat r 0 ++ flat t (0 + r.size)).length = n := by rw [List.length_append, flatT_len, flatT_len]; exact hn
  rw [hfl] at hown
  simp only [Nat.zero_add] at hra hrb
  rw [hra] at a5
  rw [hrb] at a6
  have hnb : n ≤ 1000 := by omega
  have hbl : g < W5.heap.size := hg2
  obtain ⟨cur, hrow⟩ := own_row hown
  have z0 := hrow.free (n * 9)
  have z1 := hrow.free (n * 9 + 1)
  have z2 := hrow.free (n * 9 + 2)
  have z3 := hrow.free (n * 9 + 3)
  have z4 := hrow.free (n * 9 + 4)
  have z5 := hrow.free (n * 9 + 5)
  have z6 := hrow.free (n * 9 + 6)
  have z7 := hrow.free (n * 9 + 7)
  have z8 := hrow.free (n * 9 + 8)
  clear hrow
  have HX := Lib.hid (And.intro hown hs)
  have HC := Lib.hid (And.intro hB3 (And.intro hb4 (And.intro hb5 hg1)))
  have HT := Lib.hid (And.intro htu (And.intro hPn hn))
  have hs2 : r.size + t.size + 1 ≤ 200 := by omega
  have hs3 : (Rx.alt t r).size ≤ 200 := by simp only [Rx.size]; omega
  have hfl4 : (fmtT (.alt t r)).length ≤ 4000 := by
    have h := fmt_short (.alt t r) ⟨hts, hrs⟩
    simp only [Rx.size] at h
    omega
  have hV0 := (turned_wf ht hr).valid (by rw [turned_len]; exact hs2)
  have hTx := turned_text ht hr hs2
  have hBx := fun w (hw : Below W4.heap.size W4 w) => HC.out.1.trans ((HC.out.2.1.trans (hw.mono HC.out.2.1.size)).mono HC.out.1.size)
  have HFm := Lib.hid (fun w (hz : IsX w (.slice (some ⟨g, 0, none⟩) (n + 1) zc) (turned t r)) (hw : Below W4.heap.size W4 w) =>
    (format_ok _ (turned t r) w hz hV0 (bs (fmtT (.alt t r))) (by rw [bs_size]; exact hfl4) (by rw [turned_len]; exact hTx) (tab_below HG.out.bruijn (hBx w hw) HG.out.bruijn_lt) (Nat.lt_of_lt_of_le HG.out.bruijn_lt (hBx w hw).size)).mono
      (R' := fun e W' => e = .returned (.tuple #[.string (bs (fmtT (.alt t r))), .int .i64 0]) ∧ IsX W' (.slice (some ⟨g, 0, none⟩) (n + 1) zc) (turned t r) ∧ Below W4.heap.size W4 W') (fun e W' ⟨he, hb⟩ => ⟨he, hz.grows hb, hw.trans (hb.mono hw.size)⟩))
  have HQ := Lib.hid (fun w (hw : Below W4.heap.size W4 w) => parsed_eq (bs (fmtT (.alt t r))) (by rw [bs_size]; exact hfl4) ((fmtT (.alt t r)).length + 1) (flat (.alt t r) 0) (by rw [L_bs]; exact parse_fmt (t := .alt t r) ⟨ht, hr⟩ hs3 hfl4 _ (Nat.le_refl _)) _ w (hs.grows hw))
  have hw3 : IsB W4 (.slice bp u.length bc) u := by rw [← HU.out]; exact isB_small (HB.out.at (hBx W4 (Below.refl _ _))).is 8
  have hwb : ∀ y ∈ u, 0 ≤ y ∧ y < 256 := fun y hy => HB.out.byte y (by rw [← HU.out] at hy; exact List.mem_of_mem_take hy)
  have hwl : u.length ≤ 1048576 := by rw [← HU.out, List.length_take]; omega
  have HMt := Lib.hid (fun w (hw : Below W4.heap.size W4 w) zv zs (hz : IsX w zv zs) (hzl : zs.length ≤ 200) => match_is hw3 hwb hwl hw (HG.out.at (hBx w hw)) hz hzl)
  have HE := Lib.hid (turned_match ht hr hs2 u)
  have HLn := Lib.hid (And.intro (show (turned t r).length ≤ 200 by rw [turned_len]; exact hs2) (show (flat (.alt t r) 0).length ≤ 200 by rw [flatT_len]; exact hs3))
  have HBx := Lib.hid hBx
  clear hs2 hs3 hfl4 hV0 hTx hBx hw3 hwb hwl hts hrs ht hr hn hfl htu hPn hra hrb hxl hyl hp hp'
  clear hown hs hzx hrt hlen hg1 hg2 hB3 hb4 hb5
  go_wp2_with fail
  refine (HFm.out _ ?_ ?_).mono ?_
  · refine IsX.grows ?_ ((Below.refl _ _).alloc (Nat.le_refl _) _)
    have h := own_turn HX.out.1 HT.out.2.1
    rw [← HT.out.1] at h
    exact own_isX (own_cast h (by rw [turned_len, HT.out.2.2]) rfl)
  · have hg1 := HC.out.2.2.2
    have h9 := ((((((((HC.out.2.2.1.setCell (p := ⟨g, n * 9, none⟩) hg1 (.int .i64 5)).setCell (p := ⟨g, n * 9 + 1, none⟩) hg1 (.int .u64 0)).setCell (p := ⟨g, n * 9 + 2, none⟩) hg1 (.int .u64 0)).setCell (p := ⟨g, n * 9 + 3, none⟩) hg1 (.int .u64 0)).setCell (p := ⟨g, n * 9 + 4, none⟩) hg1 (.int .u64 0)).setCell (p := ⟨g, n * 9 + 5, none⟩) hg1 (.int .i64 rb)).setCell (p := ⟨g, n * 9 + 6, none⟩) hg1 (.int .i64 ra)).setCell (p := ⟨g, n * 9 + 7, none⟩) hg1 (.int .i64 0)).setCell (p := ⟨g, n * 9 + 8, none⟩) hg1 (.int .i64 0)
    exact h9.alloc h9.size _
  rintro e W6 ⟨rfl, hz, hcur⟩
  generalize bs (fmtT (.alt t r)) = T at HQ ⊢
  have HZ := Lib.hid hz
  clear hz HFm
  go_wp2_with fail
  refine (HQ.out _ hcur).mono ?_
  rintro e W7 ⟨rfl, hbn⟩
  have HZ := Lib.hid (HZ.out.grows hbn)
  have hcur := hcur.trans (hbn.mono hcur.size)
  clear hbn
  go_wp2_with fail
  refine (HMt.out _ hcur _ _ HZ.out HLn.out.1).mono ?_
  rw [HE.out]
  rintro e W8 ⟨rfl, hbn⟩
  have hcur := hcur.trans (hbn.mono hcur.size)
  clear hbn
  go_wp2_with fail
  refine (HMt.out _ hcur _ _ (HX.out.2.grows hcur) HLn.out.2).mono ?_
  rintro e W9 ⟨rfl, hbn⟩
  have hcur := hcur.trans (hbn.mono hcur.size)
  clear hbn
  generalize matchB (flat (.alt t r) 0) u = q
  cases q
  all_goals
    go_wp2_with fail
    go_ret
    exact ⟨rfl, HBx.out _ hcur⟩
end Go.Proofs.YtgbbjobmcbdhdaaGreatDoor
