/-
  Walk: the law RowsCombination.
-/
import Derived.Test.YtmhhfommgdljkaaDc
set_option linter.unusedSimpArgs false
set_option linter.unusedVariables false
namespace Go.Proofs.Ytmhhfommgdljkaa
open Go.RowKit Go.Lib

def sumR (a b : Rw) : Rw := ⟨List.zipWith (· + ·) a.A b.A, a.C + b.C⟩
theorem dot_add : ∀ {A B x : List Int}, A.length = B.length → dot (List.zipWith (· + ·) A B) x = dot A x + dot B x
  | [], [], x, _ => by simp [dot]
  | a :: A, b :: B, [], _ => by simp [dot]
  | a :: A, b :: B, y :: x, h => by
    have ih := dot_add (A := A) (B := B) (x := x) (by simpa using h)
    simp only [List.zipWith_cons_cons, dot, ih, Int.add_mul]
    omega
theorem val_sum {a b : Rw} {x : List Int} (h : a.A.length = b.A.length) : val (sumR a b) x = val a x + val b x := by
  show (a.C + b.C) + dot (List.zipWith (· + ·) a.A b.A) x = (a.C + dot a.A x) + (b.C + dot b.A x)
  rw [dot_add h]; omega
theorem sol_comb {R : List Rw} {a b : Rw} {x : List Int} (ha : a ∈ R) (hb : b ∈ R) (hl : a.A.length = b.A.length) : Sol (sumR a b :: R.reverse) x ↔ Sol R x := by
  constructor
  · intro h r hr
    exact h r (List.mem_cons_of_mem _ (List.mem_reverse.2 hr))
  · intro h r hr
    rcases List.mem_cons.1 hr with rfl | h1
    · rw [val_sum hl]
      have := h a ha
      have := h b hb
      omega
    · exact h r (List.mem_reverse.1 h1)
theorem least_comb {m : Sy} {a b : Rw} {y : List Int} (ha : a ∈ m.R) (hb : b ∈ m.R) (hl : a.A.length = b.A.length) (h : Least (sumR a b :: m.R.reverse) (wholeB ⟨m.T, sumR a b :: m.R.reverse⟩) y) : Least m.R (wholeB m) y :=
  ⟨(cand_iff (s := m)).2 ((cand_iff (s := ⟨m.T, sumR a b :: m.R.reverse⟩)).1 h.inb), (sol_comb ha hb hl).1 h.sol,
    fun z hz hs => h.least z ((cand_iff (s := ⟨m.T, sumR a b :: m.R.reverse⟩)).2 ((cand_iff (s := m)).1 hz)) ((sol_comb ha hb hl).2 hs)⟩
theorem nosol_comb {m : Sy} {a b : Rw} (ha : a ∈ m.R) (hb : b ∈ m.R) (hl : a.A.length = b.A.length) (h : NoSol (sumR a b :: m.R.reverse) (wholeB ⟨m.T, sumR a b :: m.R.reverse⟩)) : NoSol m.R (wholeB m) :=
  fun z hz hs => h z ((cand_iff (s := ⟨m.T, sumR a b :: m.R.reverse⟩)).2 ((cand_iff (s := m)).1 hz)) ((sol_comb ha hb hl).2 hs)
theorem zip_small : ∀ {A B : List Int}, (∀ a ∈ A, -6 ≤ a ∧ a ≤ 6) → (∀ b ∈ B, -6 ≤ b ∧ b ≤ 6) → ∀ c ∈ List.zipWith (· + ·) A B, -1000 ≤ c ∧ c ≤ 1000
  | [], _, _, _, c, h => by simp at h
  | _ :: _, [], _, _, c, h => by simp at h
  | a :: A, b :: B, ha, hb, c, h => by
    rw [List.zipWith_cons_cons] at h
    rcases List.mem_cons.1 h with rfl | h1
    · have := ha a (List.mem_cons_self ..)
      have := hb b (List.mem_cons_self ..)
      omega
    · exact zip_small (fun a h => ha a (List.mem_cons_of_mem _ h)) (fun b h => hb b (List.mem_cons_of_mem _ h)) c h1
theorem comb_valid {m : Sy} {a b : Rw} (hm : SmallS m) (ha : a ∈ m.R) (hb : b ∈ m.R) : validB ⟨m.T, sumR a b :: m.R.reverse⟩ = true := by
  obtain ⟨a1, a2⟩ := hm.row a ha
  obtain ⟨b1, b2⟩ := hm.row b hb
  refine valid_of hm.pos hm.len hm.top (by have := hm.rows; simp; omega) fun r hr => ?_
  rcases List.mem_cons.1 hr with rfl | h1
  · refine ⟨by unfold sumR; rw [List.length_zipWith, a1, b1, Nat.min_self], zip_small a2.1 b2.1, ?_⟩
    have := a2.2; have := b2.2
    unfold sumR; show _ ≤ a.C + b.C ∧ a.C + b.C ≤ _; omega
  · exact SmallR.big (hm.row r (List.mem_reverse.1 h1))
theorem zip_snoc : ∀ {A B : List Int} {i : Nat} {a b : Int}, A[i]? = some a → B[i]? = some b → (List.zipWith (· + ·) A B).take (i + 1) = (List.zipWith (· + ·) A B).take i ++ [a + b] := fun {A B i a b} ha hb => by
  rw [List.take_add_one, List.getElem?_zipWith, ha, hb]; rfl
theorem drop_snoc {R : List Rw} {j : Nat} {r : Rw} (h : R[j]? = some r) : (R.drop j).reverse = (R.drop (j + 1)).reverse ++ [r] := by
  rw [List.drop_eq_getElem_cons (lt_of_get h), List.reverse_cons]
  have := (List.getElem?_eq_some_iff.1 h).2
  rw [this]
set_option maxRecDepth 100000 in
set_option maxHeartbeats 4000000 in
theorem combination_walk (v : Value) (s : Sy) (y0 y1 : Nat) (w : World) (hs : IsS w v s) (h0 : y0 < 256) (h1 : y1 < 256) :
    Calls Try.prog 6 #[v, .int .u8 y0, .int .u8 y1] w fun e w' => e = .returned (.bool true) ∧ Below w.heap.size w w' := by
  obtain ⟨tp, tc, rp, rc, rfl, htc, hrc, -, -⟩ := hs.shape
  have HS := Lib.hid (fun W (hW : Below w.heap.size w W) => hs.grows hW)
  clear hs
  go_enter Try.func6, Try.ntmps6
  go_upto_region 1 with fail
  have hb1 : Below w.heap.size w (w.alloc (.cells #[.slice tp s.T.length tc, .slice rp s.R.length rc] 25)) := by go_grown
  have B1 := Blk.new w #[.slice tp s.T.length tc, .slice rp s.R.length rc] 25
  generalize w.alloc (.cells #[.slice tp s.T.length tc, .slice rp s.R.length rc] 25) = w1 at hb1 B1 ⊢
  go_wp2_with fail
  refine (sanity_any w1).mono ?_
  rintro e w2 ⟨rfl, hb2⟩
  have HB2 := Lib.hid (below_two hb1 hb2)
  have c0 := (B1.grows hb2).cell 0 rfl
  have c1 := (B1.grows hb2).cell 1 rfl
  clear hb1 hb2 B1
  go_wp2_with fail
  refine (made_any _ s w2 (HS.out w2 HB2.out)).mono ?_
  rintro e w3 ⟨u, m, rfl, hm, hsm, hb3⟩
  obtain ⟨mp, mc, np, nc, rfl, hmc, hnc, hmT, hmR⟩ := hm.shape
  have HM := Lib.hid hm
  have HSm := Lib.hid hsm
  have HB3 := Lib.hid (below_two HB2.out hb3)
  have HMp := Lib.hid hmR
  clear hm hsm hb3 c0 c1 hmT hmR
  go_upto_region 3 with fail
  have hb4 : Below w3.heap.size w3 (w3.alloc (.cells #[.slice mp m.T.length mc, .slice np m.R.length nc] 25)) := by go_grown
  have B4 := Blk.new w3 #[.slice mp m.T.length mc, .slice np m.R.length nc] 25
  obtain ⟨q, hq⟩ : ∃ q, w3.heap.size = q := ⟨_, rfl⟩
  have HM4 := Lib.hid (HM.out.grows hb4)
  have HB4 := Lib.hid (below_two HB3.out hb4)
  have HMp4 := Lib.hid (HMp.out.grows hb4)
  clear hb4 HM HB3 HMp
  generalize w3.alloc (.cells #[.slice mp m.T.length mc, .slice np m.R.length nc] 25) = w4 at B4 HM4 HB4 HMp4 ⊢
  rw [hq] at B4
  simp only [hq]
  clear hq
  have c0 := B4.cell 0 rfl
  have c1 := B4.cell 1 rfl
  have HB := Lib.hid B4
  clear B4
  obtain ⟨n, hn⟩ : ∃ n, m.T.length = n := ⟨_, rfl⟩
  obtain ⟨k, hk⟩ : ∃ k, m.R.length = k := ⟨_, rfl⟩
  have hn4 : n ≤ 4 := by have := HSm.out.len; omega
  have hk6 : k ≤ 6 := by have := HSm.out.rows; omega
  rw [hn, hk] at HB HM4
  rw [hk] at HMp4 c1
  rw [hn] at c0
  have HNK := Lib.hid (And.intro hn hk)
  rw [hn] at hmc ⊢
  rw [hk] at hnc ⊢
  clear hn hk
  by_cases hk0 : k = 0
  · subst hk0
    go_wp2
    go_ret
    exact ⟨rfl, HB4.out⟩
  have d1 : ((k : Int) == 0) = false := by rw [beq_eq_false_iff_ne]; omega
  have d2 : (k == 0) = false := by rw [beq_eq_false_iff_ne]; omega
  have hqlt := HB.out.lt
  go_upto_region 5 with fail
  go_cut [9] (fun s9 wx => ∃ (g : Nat) (u : Value) (r : Rw), s9 = .pointer (some ⟨g, 0, none⟩) ∧ w4.heap.size ≤ g ∧ r ∈ m.R ∧ Blk wx g #[u, .int .i64 r.C] 37 ∧ IsI w4 u r.A ∧ Below w4.heap.size w4 wx)
  case first =>
    obtain ⟨ia, hia⟩ : ∃ ia, y0 % k = ia := ⟨_, rfl⟩
    have hik : ia < k := by rw [← hia]; exact Nat.mod_lt _ (by omega)
    have ht : (IntKind.i64.wrap (y0 : Int)).tmod (k : Int) = (ia : Int) := by rw [IntWalk.i64_in _ (by omega), ← hia]; exact (Int.ofNat_tmod y0 k).symm
    obtain ⟨r, hr⟩ := get_of_lt (show ia < m.R.length by rw [HNK.out.2]; exact hik)
    obtain ⟨b3, o3, us, rfl, x0, x1, hIr⟩ := HMp4.out.at hr
    have bl := lt_of_cell x0
    obtain ⟨ps, cs, rfl, -⟩ := hIr.shape
    have HIr := Lib.hid hIr
    have HRm := Lib.hid (List.mem_of_getElem? hr)
    clear hia hr hIr
    go_region_law (fail)
    all_goals go_wp2_with fail
    all_goals go_meet
    all_goals first
      | exact ⟨w4.heap.size, _, r, rfl, Nat.le_refl _, HRm.out, (blk_at rfl).drew, HIr.out, by go_grown⟩
      | fail
  case rest =>
    obtain ⟨ga, ua, ra, rfl, hga, hra, hA, hIa, hbw⟩ := hcut
    have HA := Lib.hid hA
    have HW := Lib.hid hbw
    have Hra := Lib.hid (And.intro hra (And.intro hIa hga))
    obtain ⟨pa, ca, rfl, -⟩ := hIa.shape
    clear hga hra hA hIa hbw c0 c1
    have HBc := Lib.hid (HB.out.grows HW.out)
    have c0 := HBc.out.cell 0 rfl
    have c1 := HBc.out.cell 1 rfl
    have wlt := HBc.out.lt
    go_upto_region 6 with fail
    go_cut [10] (fun s9 wx => ∃ (g : Nat) (u : Value) (r : Rw), s9 = .pointer (some ⟨g, 0, none⟩) ∧ wc.heap.size ≤ g ∧ r ∈ m.R ∧ Blk wx g #[u, .int .i64 r.C] 37 ∧ IsI w4 u r.A ∧ Below wc.heap.size wc wx)
    case first =>
      obtain ⟨ia, hia⟩ : ∃ ia, y1 % k = ia := ⟨_, rfl⟩
      have hik : ia < k := by rw [← hia]; exact Nat.mod_lt _ (by omega)
      have ht : (IntKind.i64.wrap (y1 : Int)).tmod (k : Int) = (ia : Int) := by rw [IntWalk.i64_in _ (by omega), ← hia]; exact (Int.ofNat_tmod y1 k).symm
      obtain ⟨r, hr⟩ := get_of_lt (show ia < m.R.length by rw [HNK.out.2]; exact hik)
      obtain ⟨b3, o3, us, rfl, x0, x1, hIr⟩ := HMp4.out.at hr
      have x2 := (HW.out.cell (lt_of_cell x0)).trans x0
      have x3 := (HW.out.cell (lt_of_cell x1)).trans x1
      have bl := lt_of_cell x2
      obtain ⟨ps, cs, rfl, -⟩ := hIr.shape
      have HIr := Lib.hid hIr
      have HRm := Lib.hid (List.mem_of_getElem? hr)
      clear hia hr hIr x0 x1
      go_region_law (fail)
      all_goals go_wp2_with fail
      all_goals go_meet
      all_goals first
        | exact ⟨wc.heap.size, _, r, rfl, Nat.le_refl _, HRm.out, (blk_at rfl).drew, HIr.out, by go_grown⟩
        | fail
    case rest =>
      obtain ⟨gb, ub, rb, rfl, hgb, hrb, hB, hIb, hbx⟩ := hcut
      have HW2 := Lib.hid (below_two HW.out hbx)
      have HB2 := Lib.hid hB
      have HA2 := Lib.hid (HA.out.grows hbx)
      have Hrb := Lib.hid (And.intro hrb hIb)
      have Hgg := Lib.hid (show w4.heap.size ≤ ga ∧ w4.heap.size ≤ gb by have := Hra.out.2.2; have := HW.out.size; omega)
      obtain ⟨pb, cb, rfl, -⟩ := hIb.shape
      obtain ⟨a1, a2⟩ := HSm.out.row ra Hra.out.1
      obtain ⟨b1, b2⟩ := HSm.out.row rb hrb
      have HRo := Lib.hid (And.intro (And.intro a1 a2) (And.intro b1 b2))
      obtain ⟨-, ca1, ca2⟩ := a2
      obtain ⟨-, cb1, cb2⟩ := b2
      clear hgb hrb hB hIb hbx c0 c1 wlt a1 b1
      have q0 := HA2.out.cell 1 rfl
      have q1 := HB2.out.cell 1 rfl
      go_upto_region 8 with fail
      have S3 := Blk.new wc #[.slice none 0 0, .int .i64 (ra.C + rb.C)] 37
      have hb3 : Below wc.heap.size wc (wc.alloc (.cells #[.slice none 0 0, .int .i64 (ra.C + rb.C)] 37)) := by go_grown
      obtain ⟨gs, hgs⟩ : ∃ g, wc.heap.size = g := ⟨_, rfl⟩
      have Hgs := Lib.hid (show w4.heap.size ≤ gs ∧ ga ≠ gs ∧ gb ≠ gs by have := HW2.out.size; have := HA2.out.lt; have := HB2.out.lt; omega)
      generalize wc.alloc (.cells #[.slice none 0 0, .int .i64 (ra.C + rb.C)] 37) = w5 at S3 hb3 ⊢
      have HA5 := Lib.hid (HA2.out.grows hb3)
      have HB5 := Lib.hid (HB2.out.grows hb3)
      have HW5 := Lib.hid (below_two HW2.out hb3)
      rw [hgs] at S3
      simp only [hgs]
      have HS5 := Lib.hid S3
      clear S3 hb3 hgs q0 q1
      obtain ⟨ii, hii, hi0, hi1, hi2⟩ := info_parts infoI
      have hZl : (List.zipWith (· + ·) ra.A rb.A).length = n := by rw [List.length_zipWith, HRo.out.1.1, HRo.out.2.1, Nat.min_self]; exact HNK.out.1
      have HZl := Lib.hid hZl
      clear hZl
      have HB5q := Lib.hid (HB.out.grows HW5.out)
      have c0 := HB5q.out.cell 0 rfl
      go_wp2_with fail
      go_loopw [12] (fun iv wr => ∃ (i : Nat) (u : Value), i ≤ n ∧ iv = .int .i64 i ∧ Blk wr gs #[u, .int .i64 (ra.C + rb.C)] 37 ∧ wr.ownsRow w4.heap.size 3 1 u i (((List.zipWith (· + ·) ra.A rb.A).take i).map (Value.int .i64)) ∧ Blk wr ga #[.slice pa ra.A.length ca, .int .i64 ra.C] 37 ∧ Blk wr gb #[.slice pb rb.A.length cb, .int .i64 rb.C] 37 ∧ Below w4.heap.size w4 wr) (fun iv _ => n - (RowKit.intOf iv).toNat)
      case atStart => exact ⟨0, _, Nat.zero_le _, rfl, HS5.out, World.ownsRow_nil _ _ _ _, HA5.out, HB5.out, HW5.out⟩
      case round =>
        obtain ⟨i, u, hi, rfl, hS, hown, hA, hB, hbw⟩ := hrel
        have HSr := Lib.hid hS
        have HO := Lib.hid hown
        have HAr := Lib.hid hA
        have HBr := Lib.hid hB
        have HWr := Lib.hid hbw
        have HQr := Lib.hid (HB.out.grows hbw)
        obtain ⟨zp, zc, rfl⟩ := own_shape hown
        have c0 := HQr.out.cell 0 rfl
        clear hS hown hA hB hbw
        by_cases hlt : i < n
        · have hla : i < ra.A.length := by rw [HRo.out.1.1, HNK.out.1]; exact hlt
          have hlb : i < rb.A.length := by rw [HRo.out.2.1, HNK.out.1]; exact hlt
          obtain ⟨xa, hxa⟩ := get_of_lt hla
          obtain ⟨xb, hxb⟩ := get_of_lt hlb
          obtain ⟨ba, oa, rfl, cxa⟩ := (Hra.out.2.1.grows HWr.out).at hxa
          obtain ⟨bb, ob, rfl, cxb⟩ := (Hrb.out.2.grows HWr.out).at hxb
          have hsa := HRo.out.1.2.1 xa (List.mem_of_getElem? hxa)
          have hsb := HRo.out.2.2.1 xb (List.mem_of_getElem? hxb)
          have HTk := Lib.hid (show ((List.zipWith (· + ·) ra.A rb.A).take (i + 1)).map (Value.int .i64) = ((List.zipWith (· + ·) ra.A rb.A).take i).map (Value.int .i64) ++ [.int .i64 (xa + xb)] by rw [zip_snoc hxa hxb, List.map_append]; rfl)
          generalize ((List.zipWith (· + ·) ra.A rb.A).take i).map (Value.int .i64) = M at HO HTk
          have s0 := HSr.out.cell 0 rfl
          have fs := HSr.out.free 0
          have slt := HSr.out.lt
          have a0 := HAr.out.cell 0 rfl
          have b0 := HBr.out.cell 0 rfl
          have hws := HWr.out.size
          have HFg := Lib.hid (fun (o : Obj) (w7 : World) (hg : (wr.drew.alloc o).grownBy w7 (Value.slice zp i zc).ownBlock) => (show Blk w7 gs #[.slice zp i zc, .int .i64 (ra.C + rb.C)] 37 ∧ Blk w7 ga #[.slice (some ⟨ba, oa, none⟩) ra.A.length ca, .int .i64 ra.C] 37 ∧ Blk w7 gb #[.slice (some ⟨bb, ob, none⟩) rb.A.length cb, .int .i64 rb.C] 37 ∧ Below w4.heap.size w4 w7 from
            ⟨(HSr.out.drew.alloc o).grownBy hg (own_ne (own_alloc HO.out o) (HSr.out.alloc o) (by decide)), (HAr.out.drew.alloc o).grownBy hg (own_ne (own_alloc HO.out o) (HAr.out.alloc o) (by decide)), (HBr.out.drew.alloc o).grownBy hg (own_ne (own_alloc HO.out o) (HBr.out.alloc o) (by decide)), ((below_drew HWr.out).alloc hws o).grown hg (by show _ ≤ _; simp; omega) (own_ge HO.out)⟩))
          have hls : xa + xb ≤ 12 ∧ -12 ≤ xa + xb := by omega
          have HWv := Lib.hid (show IntKind.i64.wrap (xa + xb) = xa + xb from IntWalk.i64_in _ (by omega))
          clear hxa hxb
          go_wp2_with fail
          go_region_law (first | ((refine grow_step rfl _ _ 22 rfl rfl w4.heap.size 3 ii (.int .i64 0) 1 8 Try.underlying22 hii hi0 hi1 hi2 rfl (by decide) (.slice zp i zc) i M rfl (own_alloc HO.out _) ⟨wr.heap.size, 0, none⟩ 1 1 [.int .i64 (IntKind.i64.wrap (xa + xb))] rfl rfl (cells_new _ _ _ _ rfl) (one_all rfl) (by unfold maxLen; omega) (by omega) (by simp; omega) ?_; intro v7 w7 hown7 hg7; obtain ⟨p7, c7, rfl⟩ := own_shape hown7; have hF7 := HFg.out _ _ hg7; have f7 := hF7.1.cell 0 rfl; have g7 := hF7.1.free 0; have hl7 := hF7.1.lt; have HO7 := Lib.hid hown7; have HF7 := Lib.hid hF7; clear hown7 hg7 hF7)) | fail)
          all_goals
            go_wp2
            go_roundw
            case rel =>
              obtain ⟨g1, g2, g3, g4⟩ := HF7.out
              have ho := HO7.out
              rw [HWv.out] at ho
              refine ⟨i + 1, .slice p7 (i + 1) c7, by omega, by go_num, g1.set 0 _, ?_, g2.other (by show ga ≠ gs; exact Hgs.out.2.1) _, g3.other (by show gb ≠ gs; exact Hgs.out.2.2) _, g4.setCell (p := ⟨gs, 0, none⟩) Hgs.out.1 _⟩
              rw [HTk.out]
              exact own_keep (S := fun t => t = 3) ho (KeptTy.set (p := ⟨gs, 0, none⟩) g1 (by decide) _) rfl
            case measure => simp [RowKit.intOf]; omega
        · obtain rfl : i = n := by omega
          have HE := Lib.hid (show (List.zipWith (· + ·) ra.A rb.A).take i = (sumR ra rb).A by unfold sumR; rw [List.take_of_length_le (by rw [HZl.out]; exact Nat.le_refl _)])
          have s0 := HSr.out.cell 0 rfl
          have s1 := HSr.out.cell 1 rfl
          go_upto_region 13 with fail
          have R6 : Blk ((wr.alloc (.cells #[.slice zp i zc, .int .i64 (ra.C + rb.C)] 37)).alloc (.cells #[.slice mp i mc, .slice (some ⟨wr.heap.size, 0, none⟩) 1 1] 25)) wr.heap.size #[.slice zp i zc, .int .i64 (ra.C + rb.C)] 37 := (blk_at rfl).alloc _
          have T6 : Blk ((wr.alloc (.cells #[.slice zp i zc, .int .i64 (ra.C + rb.C)] 37)).alloc (.cells #[.slice mp i mc, .slice (some ⟨wr.heap.size, 0, none⟩) 1 1] 25)) (wr.heap.size + 1) #[.slice mp i mc, .slice (some ⟨wr.heap.size, 0, none⟩) 1 1] 25 := blk_at (by simp)
          have hb6 : Below wr.heap.size wr ((wr.alloc (.cells #[.slice zp i zc, .int .i64 (ra.C + rb.C)] 37)).alloc (.cells #[.slice mp i mc, .slice (some ⟨wr.heap.size, 0, none⟩) 1 1] 25)) := by go_grown
          generalize ((wr.alloc (.cells #[.slice zp i zc, .int .i64 (ra.C + rb.C)] 37)).alloc (.cells #[.slice mp i mc, .slice (some ⟨wr.heap.size, 0, none⟩) 1 1] 25)) = w6 at R6 T6 hb6 ⊢
          have hws := HWr.out.size
          have HZ6 := Lib.hid (own_keep (S := fun _ => True) HO.out (KeptTy.below hb6) trivial)
          have hbr6 : BrAt w4 w6 (.slice (some ⟨wr.heap.size, 0, none⟩) 1 1) [sumR ra rb] := by
            refine ⟨[(.slice zp i zc, sumR ra rb)], rfl, own_of_blk (base := w4.heap.size) R6 1 2 rfl (by decide) hws, fun q hq => ?_⟩
            rw [List.mem_singleton] at hq
            subst hq
            have ho := HZ6.out
            rw [HE.out] at ho
            refine .inr ?_
            unfold OwnI
            rw [show (sumR ra rb).A.length = i from HZl.out]
            exact ho
          have HBr6 := Lib.hid hbr6
          have HT6 := Lib.hid T6
          have HW6 := Lib.hid (HWr.out.trans (hb6.mono hws))
          have HQ6 := Lib.hid (HB.out.grows HW6.out)
          obtain ⟨gt, hgt⟩ : ∃ g, wr.heap.size + 1 = g := ⟨_, rfl⟩
          obtain ⟨g1, hg1⟩ : ∃ g, wr.heap.size = g := ⟨_, rfl⟩
          have Hgt := Lib.hid (show w4.heap.size ≤ gt by omega)
          rw [hgt] at HT6
          simp only [hgt]
          rw [hg1] at HT6 HBr6
          clear R6 T6 hb6 hbr6 hgt hg1 hws s0 s1 c0 HZ6
          have c0 := HQ6.out.cell 0 rfl
          have c1 := HQ6.out.cell 1 rfl
          obtain ⟨k', hkk⟩ : ∃ k', k = k' + 1 := ⟨k - 1, by omega⟩
          have HK := Lib.hid hkk
          clear hkk
          go_wp2_with fail
          go_loopw [14] (fun iv wr => ∃ (j : Nat) (vt : Value), j ≤ k ∧ ((j = 0 ∧ iv = .int .i64 (-1)) ∨ ∃ j' : Nat, j = j' + 1 ∧ iv = .int .i64 (j' : Int)) ∧ BrAt w4 wr vt (sumR ra rb :: (m.R.drop j).reverse) ∧ Blk wr gt #[.slice mp i mc, vt] 25 ∧ Below w4.heap.size w4 wr) (fun iv _ => (RowKit.intOf iv + 1).toNat)
          case atStart =>
            refine ⟨k, _, Nat.le_refl _, .inr ⟨k', HK.out, congrArg (Value.int .i64) (by have := HK.out; omega)⟩, ?_, HT6.out, HW6.out⟩
            rw [List.drop_of_length_le (by rw [HNK.out.2]; exact Nat.le_refl _)]
            exact HBr6.out
          case round =>
            obtain ⟨j, vt, hj, hcase, hbr, hT, hbw⟩ := hrel
            obtain ⟨vp, vc, L, rfl, hL⟩ := hbr.parts
            have HBrr := Lib.hid hbr
            have HL := Lib.hid hL
            have HTr := Lib.hid hT
            have HWw := Lib.hid hbw
            have HQw := Lib.hid (HB.out.grows hbw)
            clear hbr hL hT hbw c0 c1
            have c0 := HQw.out.cell 0 rfl
            have c1 := HQw.out.cell 1 rfl
            have t0 := HTr.out.cell 0 rfl
            have t1 := HTr.out.cell 1 rfl
            obtain ⟨len, hlen⟩ : ∃ len, (sumR ra rb :: (m.R.drop j).reverse).length = len := ⟨_, rfl⟩
            have hlen2 : len ≤ 8 := by rw [← hlen]; simp; have := HNK.out.2; omega
            rw [hlen] at HTr HL t1 HBrr
            rcases hcase with ⟨rfl, rfl⟩ | ⟨j', rfl, rfl⟩
            · have hbr0 := HBrr.out
              rw [List.drop_zero] at hbr0
              have hRs := hbr0.isRs HWw.out
              have hMx := HM4.out.grows HWw.out
              have HMx := Lib.hid hMx
              obtain ⟨tv, nv, he, hTx, hRx⟩ := hMx
              simp only [Value.agg.injEq, Array.mk.injEq, List.cons.injEq, and_true] at he
              obtain ⟨rfl, rfl⟩ := he
              have HTs := Lib.hid (show IsS wr (.agg #[.slice mp i mc, .slice vp len vc]) ⟨m.T, sumR ra rb :: m.R.reverse⟩ from ⟨_, _, rfl, hTx, hRs⟩)
              have HV := Lib.hid (comb_valid HSm.out Hra.out.1 Hrb.out.1)
              have Hll := Lib.hid (show ra.A.length = rb.A.length by rw [HRo.out.1.1, HRo.out.2.1])
              have HWx := Lib.hid (HB4.out.trans (HWw.out.mono HB4.out.size))
              clear hbr0 hRs hTx hRx
              go_wp2_with fail
              refine (solve_any _ m _ HMx.out HSm.out.valid HSm.out.small).mono ?_
              rintro e w7 ⟨hb7, hres7⟩
              have HR7 := Lib.hid hres7
              have HT7 := Lib.hid (HTs.out.grows hb7)
              have HG7 := Lib.hid (HTr.out.grows hb7)
              have HW7 := Lib.hid (HWx.out.trans (hb7.mono HWx.out.size))
              have g0 := HG7.out.cell 0 rfl
              have g1 := HG7.out.cell 1 rfl
              clear hres7 hb7 c0 c1 t0 t1
              rcases HR7.out with ⟨x, vx, hL, rfl, hx⟩ | ⟨hN, vq, N0, rfl, -, -⟩
              · obtain ⟨xp, xc, rfl, hxc⟩ := hx.shape
                have HX := Lib.hid hx
                have HLx := Lib.hid hL
                clear hx hL HR7
                go_wp2_with fail
                refine (solve_any _ ⟨m.T, sumR ra rb :: m.R.reverse⟩ _ HT7.out HV.out HSm.out.small).mono ?_
                rintro e w8 ⟨hb8, ⟨y, vy, hL, rfl, hy⟩ | ⟨hN, -⟩⟩
                · obtain rfl : x = y := HLx.out.unique (least_comb Hra.out.1 Hrb.out.1 Hll.out hL)
                  obtain ⟨yp, yc, rfl, hyc⟩ := hy.shape
                  have HY := Lib.hid hy
                  have HX8 := Lib.hid (HX.out.grows hb8)
                  have HW8 := Lib.hid (HW7.out.trans (hb8.mono HW7.out.size))
                  have hcx := cand_iff.1 HLx.out.inb
                  have HLn := Lib.hid (show x.length ≤ 4 by rw [hcx.1]; exact HSm.out.len)
                  have HSe := Lib.hid (show sameB x x = true from decide_eq_true rfl)
                  clear hy hL hb8 hcx g0 g1
                  go_wp2_with fail
                  refine (same_any _ _ x x _ HX8.out HY.out (by have := HLn.out; omega) (by have := HLn.out; omega)).mono ?_
                  rintro e w9 ⟨rfl, hb9⟩
                  rw [HSe.out]
                  have HW9 := Lib.hid (HW8.out.trans (hb9.mono HW8.out.size))
                  clear hb9
                  go_wp2
                  go_ret
                  exact ⟨rfl, HW9.out⟩
                · exact (nosol_comb Hra.out.1 Hrb.out.1 Hll.out hN x HLx.out.inb HLx.out.sol).elim
              · have HN0 := Lib.hid hN
                clear hN HR7
                go_wp2_with fail
                refine (solve_any _ ⟨m.T, sumR ra rb :: m.R.reverse⟩ _ HT7.out HV.out HSm.out.small).mono ?_
                rintro e w8 ⟨hb8, ⟨y, vy, hL, -, -⟩ | ⟨hN, vq2, N, rfl, -, -⟩⟩
                · have hl := least_comb Hra.out.1 Hrb.out.1 Hll.out hL
                  exact (HN0.out y hl.inb hl.sol).elim
                · have HW8 := Lib.hid (HW7.out.trans (hb8.mono HW7.out.size))
                  have HSe := Lib.hid (show sameB [] [] = true from decide_eq_true rfl)
                  clear hN hb8 g0 g1
                  go_wp2_with fail
                  refine (same_any _ _ [] [] _ (IsI.nil _) (IsI.nil _) (by simp) (by simp)).mono ?_
                  rintro e w9 ⟨rfl, hb9⟩
                  rw [HSe.out]
                  have HW9 := Lib.hid (HW8.out.trans (hb9.mono HW8.out.size))
                  clear hb9
                  go_wp2
                  go_ret
                  exact ⟨rfl, HW9.out⟩
            · have hj' : j' < k := by omega
              obtain ⟨r, hr⟩ := get_of_lt (show j' < m.R.length by rw [HNK.out.2]; exact hj')
              obtain ⟨b3, o3, us, rfl, x0, x1, hIr⟩ := HMp4.out.at hr
              have x2 := (HWw.out.cell (lt_of_cell x0)).trans x0
              have x3 := (HWw.out.cell (lt_of_cell x1)).trans x1
              have bl := lt_of_cell x2
              obtain ⟨ps, cs, rfl, -⟩ := hIr.shape
              have HIr := Lib.hid hIr
              have HDr := Lib.hid (drop_snoc hr)
              have tf := HTr.out.free 1
              have tl := HTr.out.lt
              have hws := HWw.out.size
              have hge : decide ((0 : Int) ≤ (j' : Int)) = true := by rw [decide_eq_true_iff]; omega
              have hge2 : (0 : Int) ≤ (j' : Int) := by omega
              clear hr hIr x0 x1
              obtain ⟨ir, hir, hr0, hr1, hr2⟩ := info_parts infoRow
              go_wp2_with fail
              go_region_law (first | ((refine grow_step rfl _ _ 23 rfl rfl w4.heap.size 37 ir (.agg #[.slice none 0 0, .int .i64 0]) 2 32 Try.underlying23 hir hr0 hr1 hr2 rfl (by decide) (.slice vp len vc) len (rwCells L) rfl (own_alloc HL.out.2.2.1 _) ⟨wr.heap.size, 0, none⟩ 1 1 _ rfl rfl (cells_new _ _ _ _ rfl) (one_all rfl) (by unfold maxLen; omega) (by omega) (by simp; omega) ?_); intro v7 w7 hown7 hg7; obtain ⟨p7, c7, rfl⟩ := own_shape hown7; have hF7 := push_grown (wm := wr.drew) HL.out.1 HL.out.2.1 HL.out.2.2.1 HL.out.2.2.2 HWw.out (below_drew (Below.refl _ _)) (.inl HIr.out) HTr.out hown7 hg7; have y1 := hF7.2.1.cell 1 rfl; have z1 := hF7.2.1.free 1; have l7 := hF7.2.1.lt; have HF7 := Lib.hid hF7; clear hown7 hg7 hF7) | fail)
              all_goals
                go_wp2
                go_roundw
                case rel =>
                  refine ⟨j', .slice p7 (len + 1) c7, by omega, ?_, ?_, HF7.out.2.1.set 1 _, HF7.out.2.2.setCell (p := ⟨gt, 1, none⟩) Hgt.out _⟩
                  · rcases j' with _ | j''
                    · exact .inl ⟨rfl, by go_num⟩
                    · exact .inr ⟨j'', rfl, by go_num⟩
                  · rw [HDr.out, ← List.cons_append]
                    exact BrAt.keepS HF7.out.1 (KeptTy.set (p := ⟨gt, 1, none⟩) HF7.out.2.1 KS_sys _) (KeptTy.set (p := ⟨gt, 1, none⟩) HF7.out.2.1 (by decide) _)
                case measure =>
                  first
                    | (simp [RowKit.intOf]; done)
                    | (simp [RowKit.intOf]; omega)
                    | fail
end Go.Proofs.Ytmhhfommgdljkaa
