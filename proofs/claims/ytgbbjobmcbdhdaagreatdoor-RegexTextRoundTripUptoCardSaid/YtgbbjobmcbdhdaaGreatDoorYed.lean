/-
  Texts of the proof, one behind another: Tr.
-/
import Derived.Test.YtgbbjobmcbdhdaaGreatDoorYda
import Derived.Test.YtgbbjobmcbdhdaaGreatDoorYeb
import Derived.Test.YtgbbjobmcbdhdaaGreatDoorYec
set_option linter.unusedSimpArgs false
set_option linter.unusedVariables false
/-
  The law that texts are read back: the walk.
-/
namespace Go.Proofs.YtgbbjobmcbdhdaaGreatDoor
open Go.RowKit Go.Shelf Go.Lib
attribute [local go_sem] Oper.semAt_some

/-- what the parser gives for a text. -/
def GoodR : Except (Nat × Int) (List Nd) → Prop
  | .error (_, er) => er ≠ 0
  | .ok ys => ∃ t, OkT t ∧ ys = flat t 0 ∧ t.size ≤ 200
theorem parse_some (s : ByteArray) : ∃ r, (∀ w, Calls Tryz.prog 23 #[.string s] w (ParseR w r)) ∧ GoodR r := by
  obtain ⟨r, hr⟩ := Nt.parse_total (L s)
  refine ⟨r, fun w => ?_, ?_⟩
  · by_cases hs : s.size ≤ 4000
    · exact parse_any s w hs _ r hr
    · unfold parseS at hr
      rw [if_pos (by simp; omega)] at hr
      cases hr
      exact parse_long s w (by omega)
  · rcases r with ⟨q, er⟩ | ys
    · exact Nt.parse_bad hr
    · exact parse_makes hr
set_option maxRecDepth 100000 in
set_option maxHeartbeats 4000000 in
theorem roundtrip_walk (W : World) (lp : Option Addr) (lc : Nat) (l : List Int) (s : ByteArray) (hl : BytesArg W lp lc l) (hG : Given W) :
    Calls Tryz.prog 5 #[.slice lp l.length lc, .string s] W fun e W' => e = .returned (.bool true) ∧ Below W.heap.size W W' := by
  have HS := Lib.hid (sanity_any W hG.bruijn hG.bruijn_lt hG.powers)
  have HL := Lib.hid hl
  have HG := Lib.hid hG
  obtain ⟨r, hP, hR⟩ := parse_some s
  have HP := Lib.hid hP
  have HR := Lib.hid hR
  have htab := fun w (hw : Below W.heap.size W w) => tab_below HG.out.bruijn hw HG.out.bruijn_lt
  have hlt := fun w (hw : Below W.heap.size W w) => Nat.lt_of_lt_of_le HG.out.bruijn_lt hw.size
  have HT := Lib.hid htab
  have HU := Lib.hid hlt
  clear hl hG hP hR htab hlt
  go_enter Tryz.func5, Tryz.ntmps5
  go_wp2_with fail
  refine HS.out.mono ?_
  rintro e W1 ⟨rfl, hb1⟩
  go_wp2_with fail
  refine (HL.out.made hb1 40 (by omega) (by omega)).mono ?_
  rintro e W2 ⟨⟨xq, xc, xs, rfl, hx, hxw, hxl, -, t, ht, hsh, rfl⟩, hb2⟩
  have hB2 := hb1.trans (hb2.mono hb1.size)
  rw [flatT_len] at hxl
  have hlen : (fmtT t).length ≤ 4000 := by have := fmt_short t hsh; omega
  have HF := Lib.hid (fun w (hw : Below W2.heap.size W2 w) => by
    have hb := hB2.trans (hw.mono hB2.size)
    have h := format_any t ht (by omega) _ w (hx.grows hw) (HT.out w hb) (HU.out w hb)
    rw [if_pos hlen] at h
    exact h)
  have HQ := Lib.hid (fun w (hw : Below W2.heap.size W2 w) => parsed_eq (bs (fmtT t)) (by rw [bs_size]; exact hlen) ((fmtT t).length + 1) (flat t 0) (by rw [L_bs]; exact parse_fmt ht (by omega) hlen _ (Nat.le_refl _)) _ w (hx.grows hw))
  generalize bs (fmtT t) = T at HF HQ
  generalize (flat t 0).length = n at HF HQ ⊢
  have HB2 := Lib.hid hB2
  have hcur : Below W2.heap.size W2 W2 := Below.refl _ _
  clear hx hxw hxl hb1 hb2 hB2 HS ht hsh hlen
  go_wp2_with fail
  refine (HF.out _ hcur).mono ?_
  rintro e W3 ⟨rfl, hbn⟩
  have hcur := hcur.trans (hbn.mono hcur.size)
  clear hbn
  go_wp2_with fail
  refine (HP.out _).mono ?_
  rintro e W4 hp
  rcases r with ⟨q, er⟩ | ys
  · obtain ⟨rfl, hbn⟩ := hp
    have hcur := hcur.trans (hbn.mono hcur.size)
    clear hbn
    have t0 : (er != 0) = true := bne_iff_ne.2 HR.out
    have t1 : (er == 0) = false := beq_eq_false_iff_ne.2 HR.out
    have HN := Lib.hid (fun w => format_bad (.slice none 0 0) [] w (.inl ⟨rfl, none, 0, rfl⟩) (by decide) (by decide))
    go_wp2_with fail
    refine (HN.out _).mono ?_
    rintro e W5 ⟨rfl, hbn⟩
    have hcur := hcur.trans (hbn.mono hcur.size)
    clear hbn
    go_wp2_with fail
    refine (HQ.out _ hcur).mono ?_
    rintro e W6 ⟨rfl, hbn⟩
    have hcur := hcur.trans (hbn.mono hcur.size)
    clear hbn
    go_wp2_with fail
    go_ret
    exact ⟨rfl, HB2.out.trans (hcur.mono HB2.out.size)⟩
  · obtain ⟨⟨yv, rfl, hown⟩, hbn⟩ := hp
    obtain ⟨u, hu, rfl, hus⟩ := HR.out
    have hy := own_isX hown
    obtain ⟨yp, yc, rfl⟩ := own_shape hown
    have hcur := hcur.trans (hbn.mono hcur.size)
    clear hbn hown
    have hb := HB2.out.trans (hcur.mono HB2.out.size)
    have HFy := Lib.hid (format_any u hu hus _ W4 hy (HT.out W4 hb) (HU.out W4 hb))
    have HY := Lib.hid hy
    clear hy hb
    by_cases hlen : (fmtT u).length ≤ 4000
    · rw [if_pos hlen] at HFy
      have HQy := Lib.hid (fun w (hw : Below W4.heap.size W4 w) => parsed_eq (bs (fmtT u)) (by rw [bs_size]; exact hlen) ((fmtT u).length + 1) (flat u 0) (by rw [L_bs]; exact parse_fmt hu hus hlen _ (Nat.le_refl _)) _ w (HY.out.grows hw))
      generalize bs (fmtT u) = U at HFy HQy
      generalize (flat u 0).length = m at HFy HQy ⊢
      have hc4 : Below W4.heap.size W4 W4 := Below.refl _ _
      clear hlen
      go_wp2_with fail
      refine HFy.out.mono ?_
      rintro e W5 ⟨rfl, hbn⟩
      have hcur := hcur.trans (hbn.mono hcur.size)
      have hc4 := hc4.trans (hbn.mono hc4.size)
      clear hbn
      go_wp2_with fail
      refine (HQ.out _ hcur).mono ?_
      rintro e W6 ⟨rfl, hbn⟩
      have hcur := hcur.trans (hbn.mono hcur.size)
      have hc4 := hc4.trans (hbn.mono hc4.size)
      clear hbn
      go_wp2_with fail
      refine (HQy.out _ hc4).mono ?_
      rintro e W7 ⟨rfl, hbn⟩
      have hcur := hcur.trans (hbn.mono hcur.size)
      clear hbn
      go_wp2_with fail
      go_ret
      exact ⟨rfl, HB2.out.trans (hcur.mono HB2.out.size)⟩
    · rw [if_neg hlen] at HFy
      generalize (flat u 0).length = m at HFy ⊢
      clear hlen
      go_wp2_with fail
      refine HFy.out.mono ?_
      rintro e W5 ⟨rfl, hbn⟩
      have hcur := hcur.trans (hbn.mono hcur.size)
      clear hbn
      go_wp2_with fail
      refine (HQ.out _ hcur).mono ?_
      rintro e W6 ⟨rfl, hbn⟩
      have hcur := hcur.trans (hbn.mono hcur.size)
      clear hbn
      go_wp2_with fail
      go_ret
      exact ⟨rfl, HB2.out.trans (hcur.mono HB2.out.size)⟩
end Go.Proofs.YtgbbjobmcbdhdaaGreatDoor
