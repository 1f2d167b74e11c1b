/-
  Walk: sum.
-/
import Derived.Test.YtmhhfommgdljkaaKd
import Derived.StillTailTactics
set_option linter.unusedSimpArgs false
set_option linter.unusedVariables false
namespace Go.Proofs.Ytmhhfommgdljkaa
open Go.RowKit Go.Lib

theorem sumS_len : ∀ {M : List Int} {br : List Rw} {acc : Rw}, M.length ≠ br.length → sumS M br acc = none
  | [], [], _, h => absurd rfl h
  | [], _ :: _, _, _ => by simp [sumS]
  | _ :: _, [], _, _ => by simp [sumS]
  | m :: M, r :: br, acc, h => by
    unfold sumS
    rw [sumS_len (M := M) (br := br) (by simpa using h)]
    simp
theorem sumS_step {M : List Int} {br : List Rw} {k : Nat} {m : Int} {r acc : Rw} (hm : M[k]? = some m) (hr : br[k]? = some r) :
    sumS (M.drop k) (br.drop k) acc = if 0 ≤ m ∧ m ≤ 1000 then (if withinB (addS m r acc) big = true then sumS (M.drop (k + 1)) (br.drop (k + 1)) (addS m r acc) else none) else none := by
  have e1 : M.drop k = m :: M.drop (k + 1) := by
    rw [List.drop_eq_getElem_cons (lt_of_get hm)]
    have := (List.getElem?_eq_some_iff.1 hm).2
    rw [this]
  have e2 : br.drop k = r :: br.drop (k + 1) := by
    rw [List.drop_eq_getElem_cons (lt_of_get hr)]
    have := (List.getElem?_eq_some_iff.1 hr).2
    rw [this]
  rw [e1, e2, sumS]
theorem Tot.own {base : Nat} {w : World} {ta tb n : Nat} {acc : Rw} (h : Tot w ta tb n acc) (hn : n ≤ 1000) (hb : base ≤ ta) : OwnI base w (.slice (some ⟨ta, 0, none⟩) n n) acc.A := by
  have := own_ints (base := base) h.ints (by rw [h.len]; unfold maxLen; omega) hb
  rw [h.len] at this
  exact this
theorem Tot.isI {w : World} {ta tb n : Nat} {acc : Rw} (h : Tot w ta tb n acc) (hn : n ≤ 1000) : IsI w (.slice (some ⟨ta, 0, none⟩) n n) acc.A := by
  have := own_isI (own_ints (base := 0) h.ints (by rw [h.len]; unfold maxLen; omega) (Nat.zero_le _))
  rw [h.len] at this
  exact this
set_option maxRecDepth 100000 in
set_option maxHeartbeats 8000000 in
theorem sum_any (u v : Value) (M : List Int) (br : List Rw) (n : Nat) (w : World) (hu : IsI w u M) (hv : IsRs w v br) (hG : Good n br) (h0 : 0 < br.length) (hn : n ≤ 1000) (hl : br.length ≤ 140737488351232) :
    Calls Try.prog 39 #[u, v] w (CutRes w (sumS M br (zeroR (width br)))) := by
  obtain ⟨pm, cm, rfl, hcm⟩ := hu.shape
  obtain ⟨p, cp, rfl, hcp⟩ := hv.shape
  have H0 := Lib.hid (Blk.new w #[.slice none 0 0, .int .i64 0] 37)
  have hbw : Below w.heap.size w (w.alloc (.cells #[.slice none 0 0, .int .i64 0] 37)) := by go_grown
  have HW := Lib.hid hbw
  have HM := Lib.hid (fun W (hW : Below w.heap.size w W) => hu.grows hW)
  have HV := Lib.hid (fun W (hW : Below w.heap.size w W) => hv.grows hW)
  have HG := Lib.hid hG
  by_cases hlen : M.length = br.length
  · have hM : M.length ≤ 140737488351232 := by omega
    obtain ⟨r0, hr0⟩ := get_of_lt h0
    have hn0 : r0.A.length = n := (hG r0 (List.mem_of_getElem? hr0)).1
    have hwd : width br = n := by cases br with
      | nil => simp at h0
      | cons a br => simp at hr0; subst hr0; exact hn0
    rw [hwd]
    obtain ⟨b1, o1, u1, rfl, cx, cy, hur⟩ := hv.at hr0
    obtain ⟨pu, cu, rfl, -⟩ := hur.shape
    rw [hn0] at cx
    have cxx := (hbw.cell (lt_of_cell cx)).trans cx
    rw [Nat.zero_mul, Nat.add_zero] at cxx
    obtain ⟨ii, hii, hi0, hi1, hi2⟩ := info_parts infoI
    have HMd := Lib.hid (made_ints n)
    have HL := Lib.hid hlen
    have d1 : (((M.length : Nat) : Int) != (br.length : Int)) = false := by rw [hlen]; simp
    have hb0' : (0 : Int) < (br.length : Int) := by omega
    clear hbw hu hv hG hr0 hn0 cx cy hur hwd hlen
    go_enter Try.func39, Try.ntmps39
    go_upto_region 5 with (first
      | (at_make; refine wpList_make_row _ rfl _ _ 22 rfl 3 ii _ Try.underlying22 hii hi0 hi1 rfl _ _ n rfl rfl (by rw [hi2]; omega) (by omega) ?_; rw [HMd.out])
      | fail)
    refine wp_world fun w3 hw3 => ?_
    have Z3 : Blk w3 w.heap.size #[.slice none 0 0, .int .i64 0] 37 := by rw [hw3]; exact ((Blk.new w _ _).alloc _).alloc _
    have T3 : Tot w3 (w.heap.size + 1) (w.heap.size + 1 + 1) n (zeroR n) := by
      refine ⟨?_, ?_, by simp [zeroR], by rw [within_iff]; simp [zeroR, big]⟩
      · rw [hw3]; exact Blk.alloc2 w _ _ _ _
      · rw [hw3]; exact (Blk.alloc1 w _ _ _ _ _).alloc _
    have hb3 : Below w.heap.size w w3 := by rw [hw3]; go_grown
    clear hw3 cxx d1
    have HZ3 := Lib.hid Z3
    have HT3 := Lib.hid T3
    have HW3 := Lib.hid hb3
    clear Z3 T3 hb3
    go_wp2
    go_loopw [26] (fun kv wr => ∃ (k : Nat) (acc : Rw), k ≤ br.length ∧ kv = .int .i64 k ∧ Tot wr (w.heap.size + 1) (w.heap.size + 1 + 1) n acc ∧ sumS (M.drop k) (br.drop k) acc = sumS M br (zeroR n) ∧ Blk wr w.heap.size #[.slice none 0 0, .int .i64 0] 37 ∧ Below w.heap.size w wr) (fun kv _ => br.length - (RowKit.intOf kv).toNat)
    case atStart => exact ⟨0, zeroR n, Nat.zero_le _, rfl, HT3.out, rfl, HZ3.out, HW3.out⟩
    case round =>
      obtain ⟨k, acc, hk, rfl, hT, hS, hZ, hb⟩ := hrel
      have HTr := Lib.hid hT
      have HSr := Lib.hid hS
      have HZr := Lib.hid hZ
      have HWr := Lib.hid hb
      clear hS
      by_cases hlt : k < br.length
      · obtain ⟨r, hr⟩ := get_of_lt hlt
        obtain ⟨m, hm⟩ := get_of_lt (l := M) (k := k) (by have := HL.out; omega)
        have HSt := Lib.hid (sumS_step (acc := acc) hm hr)
        obtain ⟨hrl, hrw⟩ := HG.out r (List.mem_of_getElem? hr)
        obtain ⟨rb, ro, ru, hre, rx0, ry0, hru⟩ := (HV.out w (Below.refl _ _)).at hr
        cases hre
        have rx := (hb.cell (lt_of_cell rx0)).trans rx0
        have ry := (hb.cell (lt_of_cell ry0)).trans ry0
        obtain ⟨mb, mo, hme, mx⟩ := (HM.out _ hb).at hm
        subst hme
        obtain ⟨qu, cq, rfl, -⟩ := hru.shape
        rw [hrl] at rx hru
        clear rx0 ry0
        have hlm : k < M.length := by have := HL.out; omega
        have z0 := hZ.cell 0 rfl
        have z1 := hZ.cell 1 rfl
        have y0 := hZ.free 0
        have y1 := hZ.free 1
        have ylt := hZ.lt
        have mxl : mb < wr.heap.size := lt_of_cell mx
        have HGr := Lib.hid (And.intro hrl hrw)
        have HRu := Lib.hid hru
        clear hr hm hT hZ hb hrw hrl hru
        by_cases hm1 : m < 0
        · have HX := Lib.hid (show sumS M br (zeroR n) = none by rw [← HSr.out, HSt.out, if_neg (by omega)])
          go_wp2
          refine at_world fun W hW => ?_
          have RW : Blk W w.heap.size #[.slice none 0 0, .int .i64 0] 37 := by rw [hW]; exact ((HZr.out.set 0 _).set 1 _).alloc _
          have hBW : Below w.heap.size w W := by rw [hW]; exact ((HWr.out.setCell (p := ⟨w.heap.size, 0, none⟩) (Nat.le_refl _) _).setCell (p := ⟨w.heap.size, 1, none⟩) (Nat.le_refl _) _).alloc (by have := HWr.out.size; simpa using this) _
          have q0 := RW.cell 0 rfl
          have q1 := RW.cell 1 rfl
          clear hW RW z0 z1 y0 y1
          rw [HX.out]
          refine bodyPost_ret (v := .tuple #[.agg #[.slice none 0 0, .int .i64 0], .bool false]) (by simp [results, Try.results39, go_sem, q0, q1]) rfl ⟨hBW, _, rfl, rfl⟩
        · by_cases hm2 : 1000 < m
          · have HX := Lib.hid (show sumS M br (zeroR n) = none by rw [← HSr.out, HSt.out, if_neg (by omega)])
            go_wp2
            refine at_world fun W hW => ?_
            have RW : Blk W w.heap.size #[.slice none 0 0, .int .i64 0] 37 := by rw [hW]; exact ((HZr.out.set 0 _).set 1 _).alloc _
            have hBW : Below w.heap.size w W := by rw [hW]; exact ((HWr.out.setCell (p := ⟨w.heap.size, 0, none⟩) (Nat.le_refl _) _).setCell (p := ⟨w.heap.size, 1, none⟩) (Nat.le_refl _) _).alloc (by have := HWr.out.size; simpa using this) _
            have q0 := RW.cell 0 rfl
            have q1 := RW.cell 1 rfl
            clear hW RW z0 z1 y0 y1
            rw [HX.out]
            refine bodyPost_ret (v := .tuple #[.agg #[.slice none 0 0, .int .i64 0], .bool false]) (by simp [results, Try.results39, go_sem, q0, q1]) rfl ⟨hBW, _, rfl, rfl⟩
          · have HSt2 := Lib.hid (show sumS M br (zeroR n) = if withinB (addS m r acc) big = true then sumS (M.drop (k + 1)) (br.drop (k + 1)) (addS m r acc) else none by rw [← HSr.out, HSt.out, if_pos (by omega)])
            go_wp2
            refine wp_world fun w4 hw4 => ?_
            have hb4 : Below wr.heap.size wr w4 := by rw [hw4]; go_grown
            have D4 : Blk w4 wr.heap.size #[.slice qu n cq, .int .i64 r.C] 37 := by rw [hw4]; exact Blk.new wr _ _
            have T4 := HTr.out.grows hb4
            have Z4 := HZr.out.grows hb4
            have W4 := below_two HWr.out hb4
            have mx4 := (hb4.cell (lt_of_cell mx)).trans mx
            have HT4 := Lib.hid T4
            have HZ4 := Lib.hid Z4
            have HW4 := Lib.hid W4
            have HD4 := Lib.hid D4
            have HUw := Lib.hid (fun W (hW : Below (w.heap.size + 1) w4 W) => HRu.out.grows (W4.trans (hW.mono (by omega))))
            have hHeld0 : w4.cell? ⟨wr.heap.size, 0, none⟩ = some (.slice qu n cq) ∧ w4.cell? ⟨wr.heap.size, 1, none⟩ = some (.int .i64 r.C) ∧ w4.cell? ⟨mb, mo + k, none⟩ = some (.int .i64 m) := ⟨D4.cell 0 rfl, D4.cell 1 rfl, mx4⟩
            clear hw4 hb4 D4 T4 Z4 W4 mx4 rx ry mx z0 z1 y0 y1 ylt mxl
            go_cut [9] (fun s9 wx => s9 = .pointer (some ⟨wr.heap.size, 0, none⟩) ∧ Blk wx (w.heap.size + 1 + 1) #[.slice (some ⟨w.heap.size + 1, 0, none⟩) n n, .int .i64 (addS m r acc).C] 37 ∧ Blk wx (w.heap.size + 1) (intsA (addS m r acc).A) 3 ∧ Below (w.heap.size + 1) w4 wx)
            case first =>
              obtain ⟨s0, s1, s2⟩ := hHeld0
              go_still_tail 6, (by kernel_rfl)
              go_wp2_with (go_at_call 43; refine (add_any (.slice qu n cq) r acc m n (w.heap.size + 1) (w.heap.size + 1 + 1) (w.heap.size + 1) w4.drew (HT4.out.grows (below_drew (Below.refl _ _))) (fun W hW => HUw.out W ((below_drew (Below.refl _ _)).trans hW)) HGr.out.1 HGr.out.2 (by omega) hn (Nat.le_refl _) (by omega)).mono ?_; rintro e w5 ⟨rfl, hr5, hi5, hb5⟩; have HE := Lib.hid (And.intro hr5 (And.intro hi5 ((below_drew (Below.refl (w.heap.size + 1) w4)).trans hb5))); clear hr5 hi5 hb5)
              go_meet
              exact ⟨rfl, HE.out.1, HE.out.2.1, HE.out.2.2⟩
            case rest =>
              obtain ⟨rfl, hr5, hi5, hb5⟩ := hcut
              clear hHeld0
              obtain ⟨w5, rfl⟩ : ∃ w5 : World, w5 = wc := ⟨_, rfl⟩
              have t0 := hr5.cell 0 rfl
              have t1 := hr5.cell 1 rfl
              have HZ5 := Lib.hid (HZ4.out.below hb5 (by omega))
              have HW5 := Lib.hid (HW4.out.trans (hb5.mono (by omega)))
              have hal : (addS m r acc).A.length = n := by have := HGr.out.1; have := HTr.out.len; simp [addS]; omega
              have hI5 := own_isI (own_ints (base := 0) hi5 (by rw [hal]; unfold maxLen; omega) (Nat.zero_le _))
              rw [hal] at hI5
              have HX5 := Lib.hid (And.intro hr5 (And.intro hi5 (And.intro hal hI5)))
              clear hr5 hi5 hb5 hal hI5
              go_wp2_with fail
              refine (within_any _ (addS m r acc) 1099511627776 w5 HX5.out.2.2.2 (by have := HX5.out.2.2.1; omega) (by omega)).mono ?_
              rintro e w6 ⟨rfl, hb6⟩
              have HZ6 := Lib.hid (HZ5.out.grows hb6)
              have HW6 := Lib.hid (below_two HW5.out hb6)
              have HR6 := Lib.hid (HX5.out.1.grows hb6)
              have HI6 := Lib.hid (HX5.out.2.1.grows hb6)
              clear hb6 t0 t1
              cases hwb : withinB (addS m r acc) 1099511627776 with
              | false =>
                have HX := Lib.hid (show sumS M br (zeroR n) = none by rw [HSt2.out, if_neg (by unfold big; rw [hwb]; decide)])
                have z0 := HZ6.out.cell 0 rfl
                have z1 := HZ6.out.cell 1 rfl
                have y0 := HZ6.out.free 0
                have y1 := HZ6.out.free 1
                have ylt := HZ6.out.lt
                clear hwb
                go_wp2
                refine at_world fun W hW => ?_
                have RW : Blk W w.heap.size #[.slice none 0 0, .int .i64 0] 37 := by rw [hW]; exact (HZ6.out.set 0 _).set 1 _
                have hBW : Below w.heap.size w W := by rw [hW]; exact (HW6.out.setCell (p := ⟨w.heap.size, 0, none⟩) (Nat.le_refl _) _).setCell (p := ⟨w.heap.size, 1, none⟩) (Nat.le_refl _) _
                have q0 := RW.cell 0 rfl
                have q1 := RW.cell 1 rfl
                clear hW RW z0 z1 y0 y1
                rw [HX.out]
                refine bodyPost_ret (v := .tuple #[.agg #[.slice none 0 0, .int .i64 0], .bool false]) (by simp [results, Try.results39, go_sem, q0, q1]) rfl ⟨hBW, _, rfl, rfl⟩
              | true =>
                have HX := Lib.hid (show sumS (M.drop (k + 1)) (br.drop (k + 1)) (addS m r acc) = sumS M br (zeroR n) by rw [HSt2.out, if_pos (by unfold big; exact hwb)])
                have HOk := Lib.hid (show withinB (addS m r acc) big = true from hwb)
                clear hwb
                go_wp2
                go_roundw
                case rel => exact ⟨k + 1, addS m r acc, by omega, by go_num, ⟨HR6.out, HI6.out, HX5.out.2.2.1, HOk.out⟩, HX.out, HZ6.out, HW6.out⟩
                case measure => simp [RowKit.intOf]; omega
      · have HX := Lib.hid (show sumS M br (zeroR n) = some acc by
          rw [← HSr.out, List.drop_eq_nil_of_le (by have := HL.out; omega), List.drop_eq_nil_of_le (by omega)]; rfl)
        have t0 := hT.row.cell 0 rfl
        have t1 := hT.row.cell 1 rfl
        have z0 := hZ.cell 0 rfl
        have z1 := hZ.cell 1 rfl
        have y0 := hZ.free 0
        have y1 := hZ.free 1
        have ylt := hZ.lt
        clear hT hZ hb
        go_wp2
        refine at_world fun W hW => ?_
        have RW : Blk W w.heap.size #[.slice (some ⟨w.heap.size + 1, 0, none⟩) n n, .int .i64 acc.C] 37 := by rw [hW]; exact (HZr.out.set 0 _).set 1 _
        have hBW : Below w.heap.size w W := by rw [hW]; exact (HWr.out.setCell (p := ⟨w.heap.size, 0, none⟩) (Nat.le_refl _) _).setCell (p := ⟨w.heap.size, 1, none⟩) (Nat.le_refl _) _
        have hTW : Tot W (w.heap.size + 1) (w.heap.size + 1 + 1) n acc := by
          rw [hW]
          exact ⟨(HTr.out.row.other (a := ⟨w.heap.size, 0, none⟩) (by show _ ≠ w.heap.size; omega) _).other (a := ⟨w.heap.size, 1, none⟩) (by show _ ≠ w.heap.size; omega) _, (HTr.out.ints.other (a := ⟨w.heap.size, 0, none⟩) (by show _ ≠ w.heap.size; omega) _).other (a := ⟨w.heap.size, 1, none⟩) (by show _ ≠ w.heap.size; omega) _, HTr.out.len, HTr.out.ok⟩
        have hIW := hTW.own (base := w.heap.size) hn (by omega)
        have q0 := RW.cell 0 rfl
        have q1 := RW.cell 1 rfl
        clear hW RW z0 z1 y0 y1 t0 t1 hTW
        rw [HX.out]
        refine bodyPost_ret (v := .tuple #[.agg #[.slice (some ⟨w.heap.size + 1, 0, none⟩) n n, .int .i64 acc.C], .bool true]) (by simp [results, Try.results39, go_sem, q0, q1]) rfl ⟨hBW, _, rfl, hIW⟩
  · have HX := Lib.hid (sumS_len (acc := zeroR (width br)) hlen)
    have d1 : (((M.length : Nat) : Int) != (br.length : Int)) = true := by rw [bne_iff_ne]; omega
    have z0 := H0.out.cell 0 rfl
    have z1 := H0.out.cell 1 rfl
    clear hbw hu hv hG hlen
    go_enter Try.func39, Try.ntmps39
    go_wp2
    rw [HX.out]
    refine bodyPost_ret (v := .tuple #[.agg #[.slice none 0 0, .int .i64 0], .bool false]) (by simp [results, Try.results39, go_sem, z0, z1]) rfl ⟨HW.out, _, rfl, rfl⟩
end Go.Proofs.Ytmhhfommgdljkaa
