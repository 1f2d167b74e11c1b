/-
  Walk: the reference's Made.
-/
import Derived.Test.YtmhhfommgdljkaaMr
import Derived.Deep.CutBlock
set_option linter.unusedSimpArgs false
set_option linter.unusedVariables false
namespace Go.Proofs.Ytmhhfommgdljkaa
open Go.RowKit Go.Lib

/-- a system with small numbers. -/
structure SmallS (s : Sy) : Prop where
  pos : 1 ≤ s.T.length
  len : s.T.length ≤ 4
  top : ∀ t ∈ s.T, 0 ≤ t ∧ t ≤ 5
  rows : s.R.length ≤ 6
  row : ∀ r ∈ s.R, r.A.length = s.T.length ∧ SmallR r
theorem KS_sys : ¬ KS 25 := by unfold KS; decide
theorem top_snoc {T : List Int} {b : Int} (h : ∀ t ∈ T, 0 ≤ t ∧ t ≤ 5) (hb : 0 ≤ b ∧ b ≤ 5) : ∀ t ∈ T ++ [b], 0 ≤ t ∧ t ≤ 5 := fun t ht => by
  rcases List.mem_append.1 ht with h1 | h1
  · exact h t h1
  · rw [List.mem_singleton] at h1; subst h1; exact hb
theorem rows_snoc {br : List Rw} {n : Nat} {q : Rw} (h : ∀ r ∈ br, r.A.length = n ∧ SmallR r) (hq : q.A.length = n ∧ SmallR q) : ∀ r ∈ br ++ [q], r.A.length = n ∧ SmallR r := fun r hr => by
  rcases List.mem_append.1 hr with h1 | h1
  · exact h r h1
  · rw [List.mem_singleton] at h1; subst h1; exact hq
theorem BrAt.keepS {w0 W W' : World} {v : Value} {br : List Rw} (h : BrAt w0 W v br) (hk : KeptTy KS W W') (hs : KeptTy (fun t => t = 37) W W') : BrAt w0 W' v br := by
  obtain ⟨L, hL, ho, hp⟩ := h
  exact ⟨L, hL, own_keep ho hs rfl, fun q hq => (hp q hq).keep hk⟩
/-- a made row was appended. -/
theorem made_grown {w wr w4 w7 : World} {o : Obj} {L : List (Value × Rw)} {br : List Rw} {q : Rw} {k n : Nat} {vp up : Option Addr} {vc uc : Nat} {v7 x y uq : Value} {T : List Int}
    (h1 : L.map (·.2) = br) (h2 : L.length = k) (h3 : wr.ownsRow w.heap.size 37 2 (.slice vp k vc) k (rwCells L)) (h4 : ∀ q ∈ L, RowV w wr q.1 q.2.A) (hb : Below wr.heap.size wr w4) (hq : OwnI wr.drew.heap.size w4 uq q.A)
    (hO : Blk wr (w.heap.size + 1 + 1) #[.slice up n uc, .slice vp k vc] 25) (hA : Blk wr w.heap.size #[x, y] 25) (hZ : Blk wr (w.heap.size + 1) #[.slice none 0 0, .slice none 0 0] 25) (hI : OwnI w.heap.size wr (.slice up n uc) T) (hw : Below w.heap.size w wr)
    (hown : w7.ownsRow w.heap.size 37 2 v7 (k + 1) (rwCells L ++ [uq, .int .i64 q.C])) (hg : (w4.alloc o).grownBy w7 (Value.slice vp k vc).ownBlock) :
    BrAt w w7 v7 (br ++ [q]) ∧ Blk w7 (w.heap.size + 1 + 1) #[.slice up n uc, .slice vp k vc] 25 ∧ Blk w7 w.heap.size #[x, y] 25 ∧ Blk w7 (w.heap.size + 1) #[.slice none 0 0, .slice none 0 0] 25 ∧ OwnI w.heap.size w7 (.slice up n uc) T ∧ Below w.heap.size w w7 := by
  have ho4 := own_keep (S := fun _ => True) h3 (KeptTy.below hb) trivial
  have hoa := own_alloc ho4 o
  have hba : Below w4.heap.size w4 (w4.alloc o) := (Below.refl _ w4).alloc (Nat.le_refl _) o
  have hb2 := below_two hb hba
  refine ⟨?_, ((hO.grows hb).alloc o).grownBy hg (own_ne hoa ((hO.grows hb).alloc o) (by decide)), ((hA.grows hb).alloc o).grownBy hg (own_ne hoa ((hA.grows hb).alloc o) (by decide)), ((hZ.grows hb).alloc o).grownBy hg (own_ne hoa ((hZ.grows hb).alloc o) (by decide)), (hI.keep (KeptTy.below hb2)).keep (KeptTy.grown hg hoa KS_row), (below_two hw hb2).grown hg (by have h1 := hw.size; have h2 := hb2.size; omega) (own_ge hoa)⟩
  rw [← h1]
  exact BrAt.push (w := w4.alloc o) (fun q hq => (h4 q hq).keep (KeptTy.below hb2)) (by rw [h2]; exact hoa) (.inr ((hq.low hw.size).grows hba)) (by rw [h2]; exact hown) hg
set_option maxRecDepth 100000 in
set_option maxHeartbeats 4000000 in
theorem made_any (v : Value) (s : Sy) (w : World) (hs : IsS w v s) :
    Calls Try.prog 9 #[v] w fun e w' => ∃ u m, e = .returned u ∧ IsS w' u m ∧ SmallS m ∧ Below w.heap.size w w' := by
  obtain ⟨tp, tc, rp, rc, rfl, htc, hrc, hT1, hR1⟩ := hs.shape
  obtain ⟨ii, hii, hi0, hi1, hi2⟩ := info_parts infoI
  obtain ⟨ir, hir, hr0, hr1, hr2⟩ := info_parts infoRow
  have HT1 := Lib.hid (fun W (hW : Below w.heap.size w W) => hT1.grows hW)
  have HR1 := Lib.hid (fun W (hW : Below w.heap.size w W) => hR1.grows hW)
  clear hs hT1 hR1
  go_enter Try.func9, Try.ntmps9
  go_upto_region 2 with fail
  refine wp_world fun w2 hw2 => ?_
  have A2 : Blk w2 w.heap.size #[.slice tp s.T.length tc, .slice rp s.R.length rc] 25 := by rw [hw2]; exact ((blk_at rfl).alloc _).alloc _
  have Z2 : Blk w2 (w.heap.size + 1) #[.slice none 0 0, .slice none 0 0] 25 := by rw [hw2]; exact (blk_at (by simp)).alloc _
  have O2 : Blk w2 (w.heap.size + 1 + 1) #[.slice none 0 0, .slice none 0 0] 25 := by rw [hw2]; exact blk_at (by simp)
  have hb2 : Below w.heap.size w w2 := by rw [hw2]; go_grown
  clear hw2
  have HA := Lib.hid A2
  have HZ := Lib.hid Z2
  have HO := Lib.hid O2
  have HB := Lib.hid hb2
  clear A2 Z2 O2 hb2
  go_upto_block 0 with fail
  go_cut [4] (fun s4 wx => ∃ (k : Nat) (u : Value) (T : List Int), s4 = .int .i64 k ∧ k ≤ 4 ∧ T.length ≤ 4 ∧ (∀ t ∈ T, 0 ≤ t ∧ t ≤ 5) ∧ OwnI w.heap.size wx u T ∧ Blk wx (w.heap.size + 1 + 1) #[u, .slice none 0 0] 25 ∧ Blk wx w.heap.size #[.slice tp s.T.length tc, .slice rp s.R.length rc] 25 ∧ Blk wx (w.heap.size + 1) #[.slice none 0 0, .slice none 0 0] 25 ∧ Below w.heap.size w wx)
  case first =>
    go_wp2_with fail
    go_loopw [4] (fun iv wr => ∃ (i : Nat) (u : Value) (T : List Int), i ≤ 4 ∧ iv = .int .i64 i ∧ T.length = i ∧ (∀ t ∈ T, 0 ≤ t ∧ t ≤ 5) ∧ OwnI w.heap.size wr u T ∧ Blk wr (w.heap.size + 1 + 1) #[u, .slice none 0 0] 25 ∧ Blk wr w.heap.size #[.slice tp s.T.length tc, .slice rp s.R.length rc] 25 ∧ Blk wr (w.heap.size + 1) #[.slice none 0 0, .slice none 0 0] 25 ∧ Below w.heap.size w wr) (fun iv _ => 4 - (RowKit.intOf iv).toNat)
    case atStart => exact ⟨0, _, [], by omega, rfl, rfl, fun t h => (by cases h), OwnI.nil _ _, HO.out, HA.out, HZ.out, HB.out⟩
    case round =>
      obtain ⟨i, u, T, hi, rfl, hTl, hTb, hown, hO, hA, hZ, hbw⟩ := hrel
      have HOr := Lib.hid hO
      have HAr := Lib.hid hA
      have HZr := Lib.hid hZ
      have HWr := Lib.hid hbw
      have HT := Lib.hid (And.intro hTl hTb)
      have hoi := hown
      unfold OwnI at hoi
      rw [hTl] at hoi
      have HOw := Lib.hid hoi
      have HOi := Lib.hid hown
      obtain ⟨up, uc, rfl⟩ := own_shape hoi
      have a0 := hA.cell 0 rfl
      clear hTl hTb hO hA hZ hbw hoi hown
      by_cases h4 : i < 4
      · by_cases hlt : i < s.T.length
        · obtain ⟨a, ha⟩ := get_of_lt hlt
          obtain ⟨b1, o1, rfl, cx⟩ := (HT1.out _ HWr.out).at ha
          have o0 := HOr.out.cell 0 rfl
          have f0 := HOr.out.free 0
          have olt := HOr.out.lt
          have hws := HWr.out.size
          have HFd := Lib.hid (fold_in a (lo := 0) (hi := 5) (by decide))
          have HFg := Lib.hid (fun (o : Obj) (w7 : World) (hg : (wr.drew.alloc o).grownBy w7 (Value.slice up i uc).ownBlock) => (show Blk w7 (w.heap.size + 1 + 1) #[.slice up i uc, .slice none 0 0] 25 ∧ Blk w7 w.heap.size #[.slice (some ⟨b1, o1, none⟩) s.T.length tc, .slice rp s.R.length rc] 25 ∧ Blk w7 (w.heap.size + 1) #[.slice none 0 0, .slice none 0 0] 25 ∧ Below w.heap.size w w7 from
            ⟨(HOr.out.drew.alloc o).grownBy hg (own_ne (own_alloc HOw.out o) (HOr.out.alloc o) (by decide)), (HAr.out.drew.alloc o).grownBy hg (own_ne (own_alloc HOw.out o) (HAr.out.alloc o) (by decide)), (HZr.out.drew.alloc o).grownBy hg (own_ne (own_alloc HOw.out o) (HZr.out.alloc o) (by decide)), ((below_drew HWr.out).alloc hws o).grown hg (by show _ ≤ _; simp; omega) (own_ge HOw.out)⟩))
          clear ha
          go_wp2_with fail
          go_region_law (first
            | ((refine grow_step rfl _ _ 22 rfl rfl w.heap.size 3 ii (.int .i64 0) 1 8 Try.underlying22 hii hi0 hi1 hi2 rfl (by decide) (.slice up i uc) i (T.map (Value.int .i64)) rfl (own_alloc HOw.out _) ⟨wr.heap.size, 0, none⟩ 1 1 [.int .i64 (foldS a 0 5)] rfl rfl (cells_new _ _ _ _ rfl) (one_all rfl) (by unfold maxLen; omega) (by omega) (by simp; omega) ?_; intro v7 w7 hown7 hg7; obtain ⟨p7, c7, rfl⟩ := own_shape hown7; have hF7 := HFg.out _ _ hg7; have f7 := hF7.1.cell 0 rfl; have g7 := hF7.1.free 0; have hl7 := hF7.1.lt; have HO7 := Lib.hid hown7; have HF7 := Lib.hid hF7; clear hown7 hg7 hF7))
            | (go_simp; go_at_call 20; (refine (fold_any a 0 5 _ (by decide) (by decide) (by decide)).mono ?_); rintro e w4 ⟨rfl, rfl⟩)
            | fail)
          all_goals
            go_wp2
            go_roundw
            case rel =>
              obtain ⟨q1, q2, q3, q4⟩ := HF7.out
              have ho := HO7.out
              refine ⟨i + 1, .slice p7 (i + 1) c7, T ++ [foldS a 0 5], by omega, by go_num, by simp [HT.out.1], top_snoc HT.out.2 HFd.out, ?_, q1.set 0 _, q2.other (by show _ ≠ w.heap.size + 1 + 1; omega) _, q3.other (by show _ ≠ w.heap.size + 1 + 1; omega) _, q4.setCell (p := ⟨w.heap.size + 1 + 1, 0, none⟩) (by show _ ≤ w.heap.size + 1 + 1; omega) _⟩
              unfold OwnI
              rw [List.length_append, HT.out.1, List.map_append]
              exact own_keep (S := fun t => t = 3) ho (KeptTy.set q1 (by decide) _) rfl
            case measure => simp [RowKit.intOf]; omega
        · go_wp2_with fail
          all_goals go_meet
          all_goals exact ⟨i, _, T, rfl, hi, by have := HT.out.1; omega, HT.out.2, HOi.out, HOr.out, HAr.out, HZr.out, HWr.out⟩
      · have hd : decide ((i : Int) < 4) = false := by rw [decide_eq_false_iff_not]; omega
        rcases Nat.lt_or_ge i s.T.length with hlt | hge
        · go_wp2_with fail
          all_goals go_meet
          all_goals exact ⟨i, _, T, rfl, hi, by have := HT.out.1; omega, HT.out.2, HOi.out, HOr.out, HAr.out, HZr.out, HWr.out⟩
        · go_wp2_with fail
          all_goals go_meet
          all_goals exact ⟨i, _, T, rfl, hi, by have := HT.out.1; omega, HT.out.2, HOi.out, HOr.out, HAr.out, HZr.out, HWr.out⟩
  case rest =>
    obtain ⟨k, u, T, rfl, hk, hTl, hTb, hown, hO, hA, hZ, hbw⟩ := hcut
    have HOc := Lib.hid hO
    have HAc := Lib.hid hA
    have HZc := Lib.hid hZ
    have HWc := Lib.hid hbw
    have HT := Lib.hid (And.intro hTl hTb)
    have HOi := Lib.hid hown
    obtain ⟨up, uc, rfl⟩ := own_shape hown
    clear hTl hTb hO hA hZ hbw hown HO HA HZ HB
    have o0 := HOc.out.cell 0 rfl
    go_upto_if 32 with fail
    go_cut [] (fun wx => ∃ (u : Value) (T : List Int), 1 ≤ T.length ∧ T.length ≤ 4 ∧ (∀ t ∈ T, 0 ≤ t ∧ t ≤ 5) ∧ OwnI w.heap.size wx u T ∧ Blk wx (w.heap.size + 1 + 1) #[u, .slice none 0 0] 25 ∧ Blk wx w.heap.size #[.slice tp s.T.length tc, .slice rp s.R.length rc] 25 ∧ Blk wx (w.heap.size + 1) #[.slice none 0 0, .slice none 0 0] 25 ∧ Below w.heap.size w wx)
    case first =>
      have f0 := HOc.out.free 0
      have olt := HOc.out.lt
      by_cases hz : T.length = 0
      · obtain rfl : T = [] := List.length_eq_zero_iff.1 hz
        go_wp2_with fail
        go_meet
        refine ⟨_, [3], by decide, by decide, by intro t ht; rw [List.mem_singleton] at ht; omega, own_ints (m := [3]) (blk_at (by simp)) (by decide) (by have := HWc.out.size; omega), (HOc.out.set 0 _).alloc _, (HAc.out.other (by show _ ≠ w.heap.size + 1 + 1; omega) _).alloc _, (HZc.out.other (by show _ ≠ w.heap.size + 1 + 1; omega) _).alloc _, (HWc.out.setCell (p := ⟨w.heap.size + 1 + 1, 0, none⟩) (by show _ ≤ w.heap.size + 1 + 1; omega) _).alloc (by have := HWc.out.size; simp; omega) _⟩
      · have d1 : ((T.length : Int) == 0) = false := by rw [beq_eq_false_iff_ne]; omega
        have d2 : (T.length == 0) = false := by rw [beq_eq_false_iff_ne]; omega
        go_wp2_with fail
        all_goals go_meet
        all_goals exact ⟨_, T, by omega, HT.out.1, HT.out.2, HOi.out, HOc.out, HAc.out, HZc.out, HWc.out⟩
    case rest =>
      obtain ⟨u, T, hT1, hT4, hTb, hown, hO, hA, hZ, hbw⟩ := hcut
      have HOd := Lib.hid hO
      have HAd := Lib.hid hA
      have HZd := Lib.hid hZ
      have HWd := Lib.hid hbw
      have HTd := Lib.hid (And.intro hT1 (And.intro hT4 hTb))
      have HOi2 := Lib.hid hown
      obtain ⟨up2, uc2, rfl⟩ := own_shape hown
      obtain ⟨n, hn⟩ : ∃ n, T.length = n := ⟨_, rfl⟩
      rw [hn] at HTd HOi2 HOd hO
      have HNn := Lib.hid hn
      clear hT1 hT4 hTb hO hA hZ hbw hown HOc HAc HZc HWc HT HOi o0 hn
      go_wp2_with fail
      go_loopw [5] (fun iv wr => ∃ (k : Nat) (v : Value) (br : List Rw), k ≤ 6 ∧ iv = .int .i64 k ∧ br.length = k ∧ (∀ r ∈ br, r.A.length = n ∧ SmallR r) ∧ BrAt w wr v br ∧ OwnI w.heap.size wr (.slice up2 n uc2) T ∧ Blk wr (w.heap.size + 1 + 1) #[.slice up2 n uc2, v] 25 ∧ Blk wr w.heap.size #[.slice tp s.T.length tc, .slice rp s.R.length rc] 25 ∧ Blk wr (w.heap.size + 1) #[.slice none 0 0, .slice none 0 0] 25 ∧ Below w.heap.size w wr) (fun iv _ => 6 - (RowKit.intOf iv).toNat)
      case atStart => exact ⟨0, _, [], by omega, rfl, rfl, fun t h => (by cases h), BrAt.nil _ _, HOi2.out, HOd.out, HAd.out, HZd.out, HWd.out⟩
      case round =>
        obtain ⟨k, v, br, hk, rfl, hkl, hbr, hB, hI, hO, hA, hZ, hbw⟩ := hrel
        have HOr := Lib.hid hO
        have HAr := Lib.hid hA
        have HZr := Lib.hid hZ
        have HWr := Lib.hid hbw
        have HIr := Lib.hid hI
        have HBr := Lib.hid hB
        have HKr := Lib.hid (And.intro hkl hbr)
        obtain ⟨vp, vc, rfl⟩ := hB.len
        rw [hkl] at hO HOr
        have a1 := hA.cell 1 rfl
        have o0 := hO.cell 0 rfl
        have o1 := hO.cell 1 rfl
        have z0 := hZ.cell 0 rfl
        have z1 := hZ.cell 1 rfl
        have y0 := hZ.free 0
        have y1 := hZ.free 1
        have zlt := hZ.lt
        have fin : ∀ (Q : Prop), (∀ (W : World) (c0 : W.cell? ⟨w.heap.size + 1, 0, none⟩ = some (.slice up2 n uc2)) (c1 : W.cell? ⟨w.heap.size + 1, 1, none⟩ = some (.slice vp k vc)), (∃ m, IsS W (.agg #[.slice up2 n uc2, .slice vp k vc]) m ∧ SmallS m) → Below w.heap.size w W → W = (wr.setCell ⟨w.heap.size + 1, 0, none⟩ (.slice up2 n uc2)).setCell ⟨w.heap.size + 1, 1, none⟩ (.slice vp k vc) → Q) → Q := fun Q hQ => by
          have hZ2 := (HZr.out.set 0 (.slice up2 n uc2)).set 1 (.slice vp k vc)
          have hbw2 := (HWr.out.setCell (p := ⟨w.heap.size + 1, 0, none⟩) (by show _ ≤ w.heap.size + 1; omega) (.slice up2 n uc2)).setCell (p := ⟨w.heap.size + 1, 1, none⟩) (by show _ ≤ w.heap.size + 1; omega) (.slice vp k vc)
          refine hQ _ (hZ2.cell 0 rfl) (hZ2.cell 1 rfl) ⟨⟨T, br⟩, ⟨_, _, rfl, ?_, ?_⟩, ?_⟩ hbw2 rfl
          · exact (HIr.out.keep ((KeptTy.set (p := ⟨w.heap.size + 1, 0, none⟩) HZr.out KS_sys _).trans (KeptTy.set (p := ⟨w.heap.size + 1, 1, none⟩) (HZr.out.set 0 _) KS_sys _))).isI
          · obtain ⟨L, hL, ho, hp⟩ := HBr.out
            have hk1 := fun (S : TypeId → Prop) (hS : ¬ S 25) => (KeptTy.set (S := S) (p := ⟨w.heap.size + 1, 0, none⟩) HZr.out hS (.slice up2 n uc2)).trans (KeptTy.set (p := ⟨w.heap.size + 1, 1, none⟩) (HZr.out.set 0 _) hS (.slice vp k vc))
            have hq : BrAt w ((wr.setCell ⟨w.heap.size + 1, 0, none⟩ (.slice up2 n uc2)).setCell ⟨w.heap.size + 1, 1, none⟩ (.slice vp k vc)) (.slice vp br.length vc) br := ⟨L, hL, own_keep (S := fun t => t = 37) ho (hk1 _ (by decide)) rfl, fun q hq => (hp q hq).keep (hk1 _ KS_sys)⟩
            rw [HKr.out.1] at hq
            exact hq.isRs hbw2
          · exact ⟨by rw [HNn.out]; exact HTd.out.1, by rw [HNn.out]; exact HTd.out.2.1, HTd.out.2.2, by rw [HKr.out.1]; exact hk, fun r hr => by rw [HNn.out]; exact HKr.out.2 r hr⟩
        have HF := Lib.hid fin
        clear hkl hbr hB hI hO hA hZ hbw fin
        by_cases h6 : k < 6
        · by_cases hlt : k < s.R.length
          · obtain ⟨r, hr⟩ := get_of_lt hlt
            obtain ⟨b1, o, us, rfl, x0, x1, hIr⟩ := (HR1.out _ HWr.out).at hr
            obtain ⟨ps, cs, rfl, -⟩ := hIr.shape
            have HIs := Lib.hid (hIr.grows (below_drew (Below.refl _ wr)))
            have HKx := Lib.hid (fun (W : World) (hW : Below wr.heap.size wr W) => (And.intro ((hW.cell (lt_of_cell x0)).trans x0) ((hW.cell (lt_of_cell x1)).trans x1)))
            have HN4 := Lib.hid HTd.out.2.1
            clear hr hIr z0 z1 y0 y1 zlt
            have hn4 : n ≤ 4 := HN4.out
            obtain ⟨L, hL, hoL, hpL⟩ := HBr.out
            have hLl : L.length = k := by rw [← HKr.out.1, ← hL, List.length_map]
            rw [hLl, HKr.out.1] at hoL
            have HL := Lib.hid (And.intro hL (And.intro hLl (And.intro hoL hpL)))
            clear hL hoL hpL hLl
            go_wp2_with fail
            go_region_law (first
              | ((refine grow_step rfl _ _ 23 rfl rfl w.heap.size 37 ir (.agg #[.slice none 0 0, .int .i64 0]) 2 32 Try.underlying23 hir hr0 hr1 hr2 rfl (by decide) (.slice vp k vc) k (rwCells L) rfl (own_alloc HO4.out _) ⟨w4.heap.size, 0, none⟩ 1 1 _ rfl rfl (cells_new _ _ _ _ rfl) (one_all rfl) (by unfold maxLen; omega) (by omega) (by simp; omega) ?_); intro v7 w7 hown7 hg7; obtain ⟨p7, c7, rfl⟩ := own_shape hown7; have hF7 := HF4.out _ _ _ hown7 hg7; have f0 := hF7.2.1.cell 1 rfl; have g7 := hF7.2.1.free 1; have hl7 := hF7.2.1.lt; have HF7 := Lib.hid hF7; clear hown7 hg7 hF7)
              | (go_simp; go_at_call 16; (refine (madeRow_any (.slice ps r.A.length cs) r n _ HIs.out (by omega)).mono ?_); rintro e w4 ⟨q, ⟨uq, rfl, hq, hbq⟩, hql, hqs⟩; have hb4 := below_two (below_drew (Below.refl _ wr)) hbq; have o4 := (HOr.out.grows hb4).cell 0 rfl; have o5 := (HOr.out.grows hb4).cell 1 rfl; have l4 := (HOr.out.grows hb4).lt; have l5 := (HAr.out.grows hb4).lt; have l6 := lt_of_cell (HKx.out w4 hb4).1; have a5 := (HAr.out.grows hb4).cell 1 rfl; have x4 := (HKx.out w4 hb4).1; have x5 := (HKx.out w4 hb4).2; have HO4 := Lib.hid (own_keep (S := fun _ => True) HL.out.2.2.1 (KeptTy.below hb4) trivial); have HB4 := Lib.hid hb4; have HQ := Lib.hid (And.intro hq (And.intro hql hqs)); have hws4 := Nat.le_trans HWr.out.size hb4.size; obtain ⟨pq, cq, rfl, -⟩ := hq.isI.shape; clear hq hql hqs hbq hb4; have HF4 := Lib.hid (fun (o : Obj) (w7 : World) (v7 : Value) (hown : w7.ownsRow w.heap.size 37 2 v7 (k + 1) (rwCells L ++ [.slice pq q.A.length cq, .int .i64 q.C])) (hg : (w4.alloc o).grownBy w7 (Value.slice vp k vc).ownBlock) => made_grown HL.out.1 HL.out.2.1 HL.out.2.2.1 HL.out.2.2.2 HB4.out HQ.out.1 HOr.out HAr.out HZr.out HIr.out HWr.out hown hg))
              | fail)
            all_goals
              go_wp2
              go_roundw
              case rel =>
                obtain ⟨q0, q1, q2, q3, q4, q5⟩ := HF7.out
                exact ⟨k + 1, .slice p7 (k + 1) c7, br ++ [q], by omega, by go_num, by simp [HKr.out.1], rows_snoc HKr.out.2 HQ.out.2, BrAt.keepS q0 (KeptTy.set (p := ⟨w.heap.size + 1 + 1, 1, none⟩) q1 KS_sys _) (KeptTy.set (p := ⟨w.heap.size + 1 + 1, 1, none⟩) q1 (by decide) _), q4.keep (KeptTy.set (p := ⟨w.heap.size + 1 + 1, 1, none⟩) q1 KS_sys _), q1.set 1 _, q2.other (by show _ ≠ w.heap.size + 1 + 1; omega) _, q3.other (by show _ ≠ w.heap.size + 1 + 1; omega) _, q5.setCell (p := ⟨w.heap.size + 1 + 1, 1, none⟩) (by show _ ≤ w.heap.size + 1 + 1; omega) _⟩
              case measure => simp [RowKit.intOf]; omega
          · go_wp2_with fail
            refine HF.out _ fun W q0 q1 hm hbW hW => ?_
            rw [← hW]
            obtain ⟨m, hm1, hm2⟩ := hm
            clear hW a1 o0 o1 z0 z1 y0 y1 zlt
            refine bodyPost_ret (v := .agg #[.slice up2 n uc2, .slice vp k vc]) ?_ rfl ⟨_, m, rfl, hm1, hm2, hbW⟩
            simp [results, Try.results9, go_sem, q0, q1]
        · have hd : decide ((k : Int) < 6) = false := by rw [decide_eq_false_iff_not]; omega
          rcases Nat.lt_or_ge k s.R.length with hlt | hge
          · go_wp2_with fail
            refine HF.out _ fun W q0 q1 hm hbW hW => ?_
            rw [← hW]
            obtain ⟨m, hm1, hm2⟩ := hm
            clear hW a1 o0 o1 z0 z1 y0 y1 zlt
            refine bodyPost_ret (v := .agg #[.slice up2 n uc2, .slice vp k vc]) ?_ rfl ⟨_, m, rfl, hm1, hm2, hbW⟩
            simp [results, Try.results9, go_sem, q0, q1]
          · go_wp2_with fail
            refine HF.out _ fun W q0 q1 hm hbW hW => ?_
            rw [← hW]
            obtain ⟨m, hm1, hm2⟩ := hm
            clear hW a1 o0 o1 z0 z1 y0 y1 zlt
            refine bodyPost_ret (v := .agg #[.slice up2 n uc2, .slice vp k vc]) ?_ rfl ⟨_, m, rfl, hm1, hm2, hbW⟩
            simp [results, Try.results9, go_sem, q0, q1]
end Go.Proofs.Ytmhhfommgdljkaa
