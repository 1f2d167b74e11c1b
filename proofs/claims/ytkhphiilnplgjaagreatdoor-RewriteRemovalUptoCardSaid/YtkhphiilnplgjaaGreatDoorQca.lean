/-
  Texts of the proof, one behind another: Yl.
-/
import Derived.Test.YtkhphiilnplgjaaGreatDoorQbg
import Derived.Test.YtkhphiilnplgjaaGreatDoorQbh
import Derived.Test.YtkhphiilnplgjaaGreatDoorQba
import Derived.Test.YtkhphiilnplgjaaGreatDoorQbj
set_option linter.unusedSimpArgs false
set_option linter.unusedVariables false
namespace Go.Proofs.YtkhphiilnplgjaaGreatDoor
open Go.RowKit Go.Lib

set_option maxRecDepth 100000 in
set_option maxHeartbeats 1000000 in
theorem percent1_any (v u : Value) (k : Int) (old new b : List Int) (lax : Bool) (db : Nat) (w : World) (hv : IsOp w v k old new) (hu : IsY w u b) (hD : Blk w db #[.bool lax] 120) (hb : b.length ≤ 140737488351232) :
    Calls Tryz.prog 96 #[v, u, .pointer (some ⟨db, 0, none⟩)] w (DoRes w (dec lax b)) := by
  obtain ⟨po, co, pn, cn, rfl, h1, h2, c1, c2⟩ := hv.shape
  have hbw1 : Below w.heap.size w (w.alloc (.cells #[.int .i64 k, .slice po old.length co, .slice pn new.length cn] 24)) := by go_grown
  have HB1 := Lib.hid (decode_any u b lax _ (hu.grows hbw1) hb)
  have d0 : (w.alloc (.cells #[.int .i64 k, .slice po old.length co, .slice pn new.length cn] 24)).cell? ⟨db, 0, none⟩ = some (.bool lax) := (hD.grows hbw1).cell 0 rfl
  clear hv hu h1 h2 hD
  go_enter Tryz.func96, Tryz.ntmps96
  go_wp2_with fail
  generalize (w.alloc (.cells #[.int .i64 k, .slice po old.length co, .slice pn new.length cn] 24)) = w1 at HB1 d0 hbw1 ⊢
  go_wp2_with fail
  refine HB1.out.mono ?_
  rintro e w2 ⟨r, rfl, hY, hb2⟩
  have HR := Lib.hid (And.intro hY (below_two hbw1 hb2))
  clear hY hb2 d0 HB1 hbw1
  go_wp2
  go_ret2
  exact ⟨_, rfl, HR.out.1, HR.out.2⟩
theorem of_nil (p : Option Addr) (cap : Nat) (w : World) : Calls Tryz.prog 106 #[.slice p 0 cap] w fun e w' => e = .returned (.agg #[.int .u64 (wd (ofL [] ) 0), .int .u64 (wd (ofL [] ) 1), .int .u64 (wd (ofL [] ) 2), .int .u64 (wd (ofL [] ) 3)]) ∧ Below w.heap.size w w' := by
  go_enter Tryz.func106, Tryz.ntmps106
  go_wp2
  refine wp_loop_rounds 1 ?_
  rw [rounds_succ]
  have h0 : Blk ((w.alloc (.cells #[.int .u64 0, .int .u64 0, .int .u64 0, .int .u64 0] 27)).alloc (.cells #[.int .u64 0, .int .u64 0, .int .u64 0, .int .u64 0] 27)) w.heap.size #[.int .u64 0, .int .u64 0, .int .u64 0, .int .u64 0] 27 := (Blk.new w _ _).alloc _
  go_wp2
  refine bodyPost_ret (results_cell_row rfl _ _ w.heap.size 27 _ (0, 0) _ rfl h0.is Tryz.underlying27 rfl clsSize) rfl ?_
  simp only [ofL_nil, wd_zero]
  exact ⟨trivial, by go_grown⟩
theorem of_isY {w : World} {v : Value} {l : List Int} (h : IsY w v l) (hm : l.length ≤ 140737488351232) : Calls Tryz.prog 106 #[v] w fun e w' => e = .returned (.agg #[.int .u64 (wd (ofL l) 0), .int .u64 (wd (ofL l) 1), .int .u64 (wd (ofL l) 2), .int .u64 (wd (ofL l) 3)]) ∧ Below w.heap.size w w' := by
  obtain ⟨p, cap, rfl, hc⟩ := h.shape
  cases l with
  | nil => exact of_nil p cap w
  | cons y l =>
    obtain ⟨b, o, rfl, c0⟩ := h.at (j := 0) (x := y) rfl
    have h2 := of_any b o (y :: l).length cap (y :: l) w (Nat.le_refl _) (by omega) (lt_of_cell c0) (fun k hk => by
      obtain ⟨x, hx⟩ := get_of_lt hk
      obtain ⟨b', o', e, hc⟩ := h.at hx
      simp only [Option.some.injEq, Addr.mk.injEq, and_true] at e
      obtain ⟨rfl, rfl⟩ := e
      rw [hc, List.getD_eq_getElem?_getD, hx]; rfl) (fun k hk => by
      obtain ⟨x, hx⟩ := get_of_lt hk
      rw [List.getD_eq_getElem?_getD, hx]
      exact h.byt.at hx)
    rwa [List.take_length] at h2
theorem mem_ofL (l : List Int) (h : ∀ z ∈ l, 0 ≤ z ∧ z < 256) (j : Nat) : mem (ofL l) j = l.any fun z => decide (z.toNat = j) := by
  unfold ofL
  have main : ∀ (l : List Int) (c : BitVec 256), (∀ z ∈ l, 0 ≤ z ∧ z < 256) → mem (l.foldl (fun c b => c ||| bit b.toNat) c) j = (mem c j || l.any fun z => decide (z.toNat = j)) := by
    intro l
    induction l with
    | nil => intro c _; simp
    | cons z l ih =>
      intro c hl
      have hz := hl z (by simp)
      rw [List.foldl_cons, ih _ (fun y hy => hl y (List.mem_cons_of_mem _ hy)), mem_or, mem_bit _ _ (by omega), List.any_cons, Bool.or_assoc]
  rw [main l 0 h, mem_zero, Bool.false_or]
theorem mem_of_in {l : List Int} {x : Int} (hl : Byt l) (hx : 0 ≤ x ∧ x < 256) : mem (ofL l) x.toNat = l.contains x := by
  rw [mem_ofL l hl, Bool.eq_iff_iff, List.any_eq_true, List.contains_iff_mem]
  constructor
  · rintro ⟨z, hz, he⟩
    have h8 := hl z hz
    have : z.toNat = x.toNat := by simpa using he
    have : z = x := by omega
    exact this ▸ hz
  · intro h
    exact ⟨x, h, by simp⟩
set_option maxRecDepth 100000 in
set_option maxHeartbeats 4000000 in
theorem drop_any (v u : Value) (k : Int) (old new b : List Int) (w : World) (hv : IsOp w v k old new) (hu : IsY w u b) (ho : old.length ≤ 140737488351232) (hb : b.length ≤ 140737488351232) :
    Calls Tryz.prog 105 #[v, u] w (DoRes w (some (b.filter fun z => !old.contains z))) := by
  obtain ⟨i0, hi, hz0, hz1, hz2⟩ := info_parts infoU8
  obtain ⟨po, co, pn, cn, rfl, h1, h2, c1, c2⟩ := hv.shape
  obtain ⟨pb, cb, rfl, c3⟩ := hu.shape
  have hbw1 : Below w.heap.size w (w.alloc (.cells #[.int .i64 k, .slice po old.length co, .slice pn new.length cn] 24)) := by go_grown
  have D1 := Blk.new w #[.int .i64 k, .slice po old.length co, .slice pn new.length cn] 24
  have HOf := Lib.hid (of_isY (h1.grows hbw1) ho)
  have HV := Lib.hid (fun W (hW : Below w.heap.size w W) => hu.grows hW)
  have HY := Lib.hid (And.intro hu.byt h1.byt)
  have x1 : (w.alloc (.cells #[.int .i64 k, .slice po old.length co, .slice pn new.length cn] 24)).cell? ⟨w.heap.size, 1, none⟩ = some (.slice po old.length co) := D1.cell 1 rfl
  clear hv hu h1 h2
  go_enter Tryz.func105, Tryz.ntmps105
  go_wp2_with fail
  generalize (w.alloc (.cells #[.int .i64 k, .slice po old.length co, .slice pn new.length cn] 24)) = w1 at HOf D1 x1 hbw1 ⊢
  go_wp2_with fail
  refine HOf.out.mono ?_
  rintro e w2 ⟨rfl, hb2⟩
  have hbw2 := below_two hbw1 hb2
  clear x1 D1 HOf hb2 hbw1
  have hmc := fun (x : Int) (hx : 0 ≤ x ∧ x < 256) => mem_of_in HY.out.2 hx
  generalize ofL old = cl at hmc ⊢
  have HMC := Lib.hid hmc
  clear hmc
  have hs2 := hbw2.size
  have Cn := Blk.new w2 #[.int .u64 0, .int .u64 0, .int .u64 0, .int .u64 0] 27
  obtain ⟨g0, g1, g2, g3, f0, f1, f2, f3⟩ := Cn.four
  go_wp2
  clear Cn g0 g1 g2 g3 f0 f1 f2 f3
  have HC3 := Lib.hid (Blk.new w2 #[.int .u64 (wd cl 0), .int .u64 (wd cl 1), .int .u64 (wd cl 2), .int .u64 (wd cl 3)] 27)
  have HB3 := Lib.hid (hbw2.alloc hbw2.size (.cells #[.int .u64 (wd cl 0), .int .u64 (wd cl 1), .int .u64 (wd cl 2), .int .u64 (wd cl 3)] 27))
  generalize (w2.alloc (.cells #[.int .u64 (wd cl 0), .int .u64 (wd cl 1), .int .u64 (wd cl 2), .int .u64 (wd cl 3)] 27)) = w3 at HC3 HB3 ⊢
  clear hbw2
  generalize w2.heap.size = cbk at HC3 hs2 ⊢
  go_loopw [7, 15] (fun ov iv wr => ∃ (i : Nat) (acc : List Int), i ≤ b.length ∧ iv = .int .i64 (i : Int) ∧ wr.ownsRow (cbk + 1) 5 1 ov acc.length (acc.map (Value.int .u8)) ∧ Byt acc ∧ acc = ((b.take i).filter fun z => !old.contains z) ∧ Blk wr cbk #[.int .u64 (wd cl 0), .int .u64 (wd cl 1), .int .u64 (wd cl 2), .int .u64 (wd cl 3)] 27 ∧ Below w.heap.size w wr ∧ acc.length ≤ i) (fun _ iv _ => b.length - (RowKit.intOf iv).toNat)
  case atStart => exact ⟨0, [], Nat.zero_le _, rfl, World.ownsRow_nil _ _ _ _, Byt.nil, by simp, HC3.out, HB3.out, Nat.le_refl _⟩
  case round =>
    obtain ⟨i, acc, hil, rfl, hown, hacc, hinv, C, hbw, hal⟩ := hrel
    have HO := Lib.hid hown
    have HA := Lib.hid hacc
    have HN := Lib.hid hinv
    have HB := Lib.hid hbw
    have HC := Lib.hid C
    clear hown hacc hinv HC3 HB3
    by_cases hlt : i < b.length
    · obtain ⟨x, hx⟩ := get_of_lt hlt
      obtain ⟨bb, oo, rfl, cx⟩ := (HV.out wr hbw).at hx
      have hx8 := HY.out.1.at hx
      have HX := Lib.hid hx
      clear hx
      have hslt := C.lt
      obtain ⟨k0, k1, k2, k3, -⟩ := C.four
      have hd : decide ((i : Int) < (b.length : Int)) = true := by rw [decide_eq_true_iff]; omega
      have HH := Lib.hid (has_any cl x wr hx8.1 hx8.2)
      rw [HMC.out x hx8] at HH
      cases hin : old.contains x
      · rw [hin] at HH
        have HS := Lib.hid (filter_yes (old := old) HX.out hin)
        clear hin
        go_wp2_with fail
        refine HH.out.mono ?_
        rintro e w4 ⟨rfl, hb4⟩
        have HO4 := Lib.hid (own_below HO.out hb4)
        have HC4 := Lib.hid (HC.out.grows hb4)
        have HB4 := Lib.hid (below_two hbw hb4)
        have hs4 := hb4.size
        clear C hb4 cx k0 k1 k2 k3 hbw HH
        go_wp2_with (at_builtin; refine wpList_append_own _ rfl _ _ 22 rfl (cbk + 1) 5 i0 (.int .u8 0) 1 1 Tryz.underlying22 hi hz0 hz1 hz2 rfl (by decide) _ _ _ rfl (own_alloc HO4.out _) ⟨w4.heap.size, 0, none⟩ 1 1 [.int .u8 x] rfl rfl (cell_one_new _ _ _) (by simp [Value.oneCell']) (by unfold maxLen; omega) (by omega) (by simp; omega) ?_; intro v' w9 hown2 hgrow _)
        go_roundw
        case rel =>
          have hg := own_ge HO4.out
          exact ⟨i + 1, acc ++ [x], by omega, by go_num, own_cast hown2 (by simp) (by simp), HA.out.append (Byt.one hx8), by rw [HN.out, HS.out], (HC4.out.alloc _).grownBy hgrow (fun k e => by have := hg k e; omega), (HB4.out.alloc HB4.out.size _).grown hgrow (by have := HB4.out.size; simp; omega) (fun k e => by have := hg k e; omega), by rw [List.length_append]; simp only [List.length_cons, List.length_nil]; omega⟩
        case measure => simp [RowKit.intOf]; omega
      · rw [hin] at HH
        have HS := Lib.hid (filter_no (old := old) HX.out hin)
        clear hin
        go_wp2_with fail
        refine HH.out.mono ?_
        rintro e w4 ⟨rfl, hb4⟩
        have HO4 := Lib.hid (own_below HO.out hb4)
        have HC4 := Lib.hid (HC.out.grows hb4)
        have HB4 := Lib.hid (below_two hbw hb4)
        clear C hb4 cx k0 k1 k2 k3 hbw HH
        go_wp2
        go_roundw
        case rel => exact ⟨i + 1, acc, by omega, by go_num, HO4.out, HA.out, by rw [HN.out, HS.out], HC4.out, HB4.out, by omega⟩
        case measure => simp [RowKit.intOf]; omega
    · obtain rfl : i = b.length := by omega
      have HF := Lib.hid (show acc = (b.filter fun z => !old.contains z) by rw [HN.out, List.take_length])
      clear HN
      obtain ⟨pq, cq, rfl⟩ := own_shape HO.out
      go_wp2
      go_ret2
      exact DoRes.some rfl (by rw [← HF.out]; exact own_isY HA.out HO.out) hbw
set_option maxRecDepth 100000 in
set_option maxHeartbeats 4000000 in
theorem squeeze_any (v u : Value) (k c : Int) (old new b : List Int) (w : World) (hv : IsOp w v k old new) (hu : IsY w u b) (hc : old[0]? = some c) (ho : old.length ≤ 140737488351232) (hb : b.length ≤ 140737488351232) :
    Calls Tryz.prog 109 #[v, u] w (DoRes w (some (sqz c false b))) := by
  obtain ⟨i0, hi, hz0, hz1, hz2⟩ := info_parts infoU8
  obtain ⟨po, co, pn, cn, rfl, h1, h2, c1, c2⟩ := hv.shape
  obtain ⟨pb, cb, rfl, c3⟩ := hu.shape
  have hbw1 : Below w.heap.size w (w.alloc (.cells #[.int .i64 k, .slice po old.length co, .slice pn new.length cn] 24)) := by go_grown
  have D1 := Blk.new w #[.int .i64 k, .slice po old.length co, .slice pn new.length cn] 24
  have HP := Lib.hid (fun W (hW : Below w.heap.size w W) => h1.grows hW)
  have HV := Lib.hid (fun W (hW : Below w.heap.size w W) => hu.grows hW)
  have HY := Lib.hid (And.intro hu.byt h1.byt)
  have HC := Lib.hid hc
  clear hv hu h1 h2 hc
  go_enter Tryz.func109, Tryz.ntmps109
  go_wp2
  generalize (w.alloc (.cells #[.int .i64 k, .slice po old.length co, .slice pn new.length cn] 24)) = w1 at D1 hbw1 ⊢
  go_loopw [6, 11] (fun ov iv wr => ∃ (i : Nat) (acc : List Int), i ≤ b.length ∧ iv = .int .i64 (i : Int) ∧ wr.ownsRow (w.heap.size + 1) 5 1 ov acc.length (acc.map (Value.int .u8)) ∧ Byt acc ∧ acc ++ sqz c (prevB c b i) (b.drop i) = sqz c false b ∧ Blk wr w.heap.size #[.int .i64 k, .slice po old.length co, .slice pn new.length cn] 24 ∧ Below w.heap.size w wr ∧ acc.length ≤ i) (fun _ iv _ => b.length - (RowKit.intOf iv).toNat)
  case atStart => exact ⟨0, [], Nat.zero_le _, rfl, World.ownsRow_nil _ _ _ _, Byt.nil, by rw [List.drop_zero]; rfl, D1, hbw1, Nat.le_refl _⟩
  case round =>
    obtain ⟨i, acc, hil, rfl, hown, hacc, hinv, D, hbw, hal⟩ := hrel
    have HO := Lib.hid hown
    have HA := Lib.hid hacc
    have HN := Lib.hid hinv
    have HB := Lib.hid hbw
    have HD := Lib.hid D
    clear hown hacc hinv D1 hbw1
    by_cases hlt : i < b.length
    · obtain ⟨x, hx⟩ := get_of_lt hlt
      obtain ⟨bb, oo, rfl, cx⟩ := (HV.out wr hbw).at hx
      have hx8 := HY.out.1.at hx
      have HX := Lib.hid hx
      clear hx
      have hslt := D.lt
      have x1 : wr.cell? ⟨w.heap.size, 1, none⟩ = some (.slice po old.length co) := D.cell 1 rfl
      have hd : decide ((i : Int) < (b.length : Int)) = true := by rw [decide_eq_true_iff]; omega
      obtain ⟨ob, oc, rfl, cc⟩ := (HP.out wr hbw).at HC.out
      rw [Nat.add_zero] at cc
      have hol : 0 < old.length := (List.getElem?_eq_some_iff.1 HC.out).1
      by_cases hxc : x = c
      · subst hxc
        have hne : (x != x) = false := by simp
        rcases Nat.eq_zero_or_pos i with rfl | hi0
        · rw [Nat.add_zero] at cx
          have HS := Lib.hid (sqz_first (c := x) (acc := acc) HX.out)
          go_wp2_with (at_builtin; refine wpList_append_own _ rfl _ _ 22 rfl (w.heap.size + 1) 5 i0 (.int .u8 0) 1 1 Tryz.underlying22 hi hz0 hz1 hz2 rfl (by decide) _ _ _ rfl (own_alloc HO.out _) ⟨wr.heap.size, 0, none⟩ 1 1 [.int .u8 x] rfl rfl (cell_one_new _ _ _) (by simp [Value.oneCell']) (by unfold maxLen; omega) (by omega) (by simp; omega) ?_; intro v' w9 hown2 hgrow _)
          go_roundw
          case rel =>
            have hg := own_ge HO.out
            exact ⟨0 + 1, acc ++ [x], by omega, by go_num, own_cast hown2 (by simp) (by simp), HA.out.append (Byt.one hx8), by rw [← HN.out]; exact HS.out.symm, (HD.out.alloc _).grownBy hgrow (fun k e => by have := hg k e; omega), (HB.out.alloc HB.out.size _).grown hgrow (by have := HB.out.size; simp; omega) (fun k e => by have := hg k e; omega), by rw [List.length_append]; simp only [List.length_cons, List.length_nil]; omega⟩
          case measure => simp [RowKit.intOf]; omega
        · obtain ⟨y, hy⟩ := get_of_lt (l := b) (k := i - 1) (by omega)
          obtain ⟨b2, o2, e2, cy⟩ := (HV.out wr hbw).at hy
          simp only [Option.some.injEq, Addr.mk.injEq, and_true] at e2
          obtain ⟨rfl, rfl⟩ := e2
          have hy8 := HY.out.1.at hy
          have hi1 : (0 : Int) ≤ (i : Int) - 1 := by omega
          have hi2 : (i : Int) - 1 < (b.length : Int) := by omega
          have hi3 : ((i : Int) - 1).toNat = i - 1 := by omega
          have hi4 : ((i : Int) == 0) = false := by rw [beq_eq_false_iff_ne]; omega
          by_cases hyc : y = x
          · subst hyc
            have HS := Lib.hid (sqz_skip (acc := acc) hi0 HX.out hy)
            clear hy
            go_wp2
            clear hi3
            go_roundw
            case rel => exact ⟨i + 1, acc, by omega, by go_num, HO.out, HA.out, by rw [← HN.out]; exact HS.out.symm, HD.out, HB.out, by omega⟩
            case measure => simp [RowKit.intOf]; omega
          · have HS := Lib.hid (sqz_keep (c := x) (acc := acc) HX.out (.inr ⟨hi0, y, hy, hyc⟩))
            have hne2 : (y != x) = true := by rw [bne_iff_ne]; exact hyc
            clear hy
            go_wp2_with (at_builtin; refine wpList_append_own _ rfl _ _ 22 rfl (w.heap.size + 1) 5 i0 (.int .u8 0) 1 1 Tryz.underlying22 hi hz0 hz1 hz2 rfl (by decide) _ _ _ rfl (own_alloc HO.out _) ⟨wr.heap.size, 0, none⟩ 1 1 [.int .u8 x] rfl rfl (cell_one_new _ _ _) (by simp [Value.oneCell']) (by unfold maxLen; omega) (by omega) (by simp; omega) ?_; intro v' w9 hown2 hgrow _)
            clear hi3
            go_roundw
            case rel =>
              have hg := own_ge HO.out
              exact ⟨i + 1, acc ++ [x], by omega, by go_num, own_cast hown2 (by simp) (by simp), HA.out.append (Byt.one hx8), by rw [← HN.out]; exact HS.out.symm, (HD.out.alloc _).grownBy hgrow (fun k e => by have := hg k e; omega), (HB.out.alloc HB.out.size _).grown hgrow (by have := HB.out.size; simp; omega) (fun k e => by have := hg k e; omega), by rw [List.length_append]; simp only [List.length_cons, List.length_nil]; omega⟩
            case measure => simp [RowKit.intOf]; omega
      · have HS := Lib.hid (sqz_keep (c := c) (acc := acc) HX.out (.inl hxc))
        have hne : (x != c) = true := by rw [bne_iff_ne]; exact hxc
        go_wp2_with (at_builtin; refine wpList_append_own _ rfl _ _ 22 rfl (w.heap.size + 1) 5 i0 (.int .u8 0) 1 1 Tryz.underlying22 hi hz0 hz1 hz2 rfl (by decide) _ _ _ rfl (own_alloc HO.out _) ⟨wr.heap.size, 0, none⟩ 1 1 [.int .u8 x] rfl rfl (cell_one_new _ _ _) (by simp [Value.oneCell']) (by unfold maxLen; omega) (by omega) (by simp; omega) ?_; intro v' w9 hown2 hgrow _)
        go_roundw
        case rel =>
          have hg := own_ge HO.out
          exact ⟨i + 1, acc ++ [x], by omega, by go_num, own_cast hown2 (by simp) (by simp), HA.out.append (Byt.one hx8), by rw [← HN.out]; exact HS.out.symm, (HD.out.alloc _).grownBy hgrow (fun k e => by have := hg k e; omega), (HB.out.alloc HB.out.size _).grown hgrow (by have := HB.out.size; simp; omega) (fun k e => by have := hg k e; omega), by rw [List.length_append]; simp only [List.length_cons, List.length_nil]; omega⟩
        case measure => simp [RowKit.intOf]; omega
    · obtain rfl : i = b.length := by omega
      have HF := Lib.hid (show acc = sqz c false b by rw [← HN.out, List.drop_length]; simp [sqz])
      clear HN
      obtain ⟨pq, cq, rfl⟩ := own_shape HO.out
      go_wp2
      go_ret2
      exact DoRes.some rfl (by rw [← HF.out]; exact own_isY HA.out HO.out) hbw
end Go.Proofs.YtkhphiilnplgjaaGreatDoor
