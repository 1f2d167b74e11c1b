/-
  Texts of the proof, one behind another: Zt, Zu.
-/
import Derived.Test.YtlhbhcfpbhnkeaaGreatDoorQci
set_option linter.unusedSimpArgs false
set_option linter.unusedVariables false
namespace Go.Proofs.YtlhbhcfpbhnkeaaGreatDoor
open Go.RowKit Go.Lib

theorem op_of {w : World} {k : Int} {old new : List Int} {vo vn : Value} (h1 : IsY w vo old) (h2 : IsY w vn new) : IsOp w (.agg #[.int .i64 k, vo, vn]) k old new := ⟨_, _, rfl, h1, h2⟩
theorem val_long (k : Int) (old new : List Int) (h : 9 ≤ old.length) : valI k old new = false := by
  unfold valI
  repeat' split
  all_goals first | (rw [decide_eq_false_iff_not]; omega) | rfl
theorem val_new (k : Int) (old new : List Int) (h : 5 ≤ new.length) : valI k old new = false := by
  unfold valI
  repeat' split
  all_goals first | (rw [decide_eq_false_iff_not]; omega) | rfl
theorem val_one {k : Int} {new : List Int} (h : valI k [] new = true) : valI k [49] new = false := by
  unfold valI at h ⊢
  repeat' (split at h)
  all_goals first | (rw [decide_eq_true_iff] at h; simp at h; done) | skip
  all_goals first | (rw [if_pos (by assumption)]; rw [decide_eq_false_iff_not]; simp) | (cases h) | skip
theorem val_none {k : Int} {old new : List Int} (h : valI k old new = true) (hne : old ≠ []) : valI k [] new = false := by
  have hl := List.length_pos_iff.2 hne
  unfold valI at h ⊢
  by_cases h1 : k = 1 ∨ k = 2 ∨ k = 3 ∨ k = 4
  · rw [if_pos h1, decide_eq_true_iff] at h; omega
  rw [if_neg h1] at h ⊢
  repeat' split
  all_goals first | (rw [decide_eq_false_iff_not]; simp) | rfl
set_option maxRecDepth 100000 in
set_option maxHeartbeats 8000000 in
theorem rejects_walk (v u : Value) (k : Int) (old new : List Int) (y : Int) (b : List Int) (w : World) (hv : IsOp w v k old new) (hu : IsY w u b) (hy0 : 0 ≤ y) (hy1 : y < 256) (ho : old.length ≤ 140737488351232) (hn : new.length ≤ 140737488351232) (hb : b.length ≤ 140737488351232)
    (hM : MaxOk w) (hT : TabAt 0 Lib.deBruijn64tab w) (hg : 0 < w.heap.size) :
    Calls Tryz.prog 11 #[v, .int .u8 y, u] w fun e w' => e = .returned (.bool true) ∧ Below w.heap.size w w' := by
  have hcv := fun (w : World) (C : Array Value) (n c g : Nat) (hg : g = w.heap.size) => Go.Joins.run_convert_bytes_const_at (P := Tryz.prog) w 22 5 C n c g hg Tryz.underlying22 Tryz.underlying5
  have HM := Lib.hid (fun W (hW : Below w.heap.size w W) => hM.grows hW hM.lt)
  have HT := Lib.hid (fun W (hW : Below w.heap.size w W) => tab_below hT hW hg)
  have HG := Lib.hid (fun W (hW : Below w.heap.size w W) => Nat.lt_of_lt_of_le hg hW.size)
  have HV := Lib.hid (fun W (hW : Below w.heap.size w W) => hv.grows hW)
  have HU := Lib.hid (fun W (hW : Below w.heap.size w W) => hu.grows hW)
  obtain ⟨po, co, pn, cn, rfl, -, -, -, -⟩ := hv.shape
  obtain ⟨pb, cb, rfl, -⟩ := hu.shape
  clear hM hT hg hv hu
  have hb1 : Below w.heap.size w (w.alloc (.cells #[.int .i64 k, .slice po old.length co, .slice pn new.length cn] 24)) := by go_grown
  have D1 := Blk.new w #[.int .i64 k, .slice po old.length co, .slice pn new.length cn] 24
  go_enter Tryz.func11, Tryz.ntmps11
  go_wp2_with fail
  generalize (w.alloc (.cells #[.int .i64 k, .slice po old.length co, .slice pn new.length cn] 24)) = w1 at hb1 D1 ⊢
  refine (sanity8_any w1 (HM.out w1 hb1) (HT.out w1 hb1) (HG.out w1 hb1)).mono ?_
  rintro e w2 ⟨rfl, hb2⟩
  have D2 := D1.grows hb2
  have hbw2 := below_two hb1 hb2
  obtain ⟨d0, d1, d2⟩ := (⟨D2.cell 0 rfl, D2.cell 1 rfl, D2.cell 2 rfl⟩ : _ ∧ _ ∧ _)
  have HB2 := Lib.hid hbw2
  clear D1 D2 hb1 hb2 hbw2
  go_wp2_with fail
  refine (made_any _ k old new w2 (HV.out w2 HB2.out) ho hn).mono ?_
  rintro e w3 ⟨u3, rfl, hI3, hb3⟩
  obtain ⟨p3, c3, q3, e3, rfl, hy3, hz3, hc3, he3⟩ := hI3.shape
  have HY3 := Lib.hid hy3
  have HZ3 := Lib.hid hz3
  have HB3 := Lib.hid (below_two HB2.out hb3)
  have HKd := Lib.hid (And.intro (mkOld_len k old) (mkNew_len k new))
  have HVal := Lib.hid (mk_val k old new)
  generalize mkK k = K at HVal ⊢
  generalize mkOld k old = OO at HY3 HKd HVal ⊢
  generalize mkNew k new = NN at HZ3 HKd HVal ⊢
  clear d0 d1 d2 hI3 hy3 hz3 hb3 HB2
  have hbN : Below w3.heap.size w3 ((w3.alloc (.cells #[.int .i64 K, .slice p3 OO.length c3, .slice q3 NN.length e3] 24)).alloc (.cells #[.int .u8 49, .int .u8 50, .int .u8 51, .int .u8 52, .int .u8 53, .int .u8 54, .int .u8 55, .int .u8 56, .int .u8 57] 5 (9, 10))) := by go_grown
  have hyN := lit_isY (l := [49, 50, 51, 52, 53, 54, 55, 56, 57]) (n := 9) rfl rfl (byt_of rfl) (World.alloc_heap_new (w3.alloc (.cells #[.int .i64 K, .slice p3 OO.length c3, .slice q3 NN.length e3] 24)) (.cells #[.int .u8 49, .int .u8 50, .int .u8 51, .int .u8 52, .int .u8 53, .int .u8 54, .int .u8 55, .int .u8 56, .int .u8 57] 5 (9, 10)))
  rw [World.size_alloc] at hyN
  have DP := (Blk.new w3 #[.int .i64 K, .slice p3 OO.length c3, .slice q3 NN.length e3] 24).alloc (.cells #[.int .u8 49, .int .u8 50, .int .u8 51, .int .u8 52, .int .u8 53, .int .u8 54, .int .u8 55, .int .u8 56, .int .u8 57] 5 (9, 10))
  have hm4 : y.tmod 4 = 0 ∨ y.tmod 4 = 1 ∨ y.tmod 4 = 2 ∨ y.tmod 4 = 3 := by rw [Int.tmod_eq_emod_of_nonneg hy0]; omega
  have HM4 := Lib.hid hm4
  generalize hmm : y.tmod 4 = m at HM4
  clear hm4
  rcases HM4.out with rfl | rfl | rfl | rfl
  · go_wp2_with fail
    have hbX : Below w3.heap.size w3 ((w3.alloc (.cells #[.int .i64 (9 * (y / 4 % 2)), .slice p3 OO.length c3, .slice q3 NN.length e3] 24)).alloc (.cells #[.int .u8 49, .int .u8 50, .int .u8 51, .int .u8 52, .int .u8 53, .int .u8 54, .int .u8 55, .int .u8 56, .int .u8 57] 5 (9, 10))) := by go_grown
    have hNX := lit_isY (l := [49, 50, 51, 52, 53, 54, 55, 56, 57]) (n := 9) rfl rfl (byt_of rfl) (World.alloc_heap_new (w3.alloc (.cells #[.int .i64 (9 * (y / 4 % 2)), .slice p3 OO.length c3, .slice q3 NN.length e3] 24)) (.cells #[.int .u8 49, .int .u8 50, .int .u8 51, .int .u8 52, .int .u8 53, .int .u8 54, .int .u8 55, .int .u8 56, .int .u8 57] 5 (9, 10)))
    rw [World.size_alloc] at hNX
    have DX := (Blk.new w3 #[.int .i64 (9 * (y / 4 % 2)), .slice p3 OO.length c3, .slice q3 NN.length e3] 24).alloc (.cells #[.int .u8 49, .int .u8 50, .int .u8 51, .int .u8 52, .int .u8 53, .int .u8 54, .int .u8 55, .int .u8 56, .int .u8 57] 5 (9, 10))
    have hYX := HY3.out.grows hbX
    have hZX := HZ3.out.grows hbX
    generalize ((w3.alloc (.cells #[.int .i64 (9 * (y / 4 % 2)), .slice p3 OO.length c3, .slice q3 NN.length e3] 24)).alloc (.cells #[.int .u8 49, .int .u8 50, .int .u8 51, .int .u8 52, .int .u8 53, .int .u8 54, .int .u8 55, .int .u8 56, .int .u8 57] 5 (9, 10))) = X at hbX hNX DX hYX hZX ⊢
    have hval : valI (9 * (y / 4 % 2)) OO NN = false := valI_no _ _ _ (by omega)
    have hIX : IsOp X (.agg #[.int .i64 (9 * (y / 4 % 2)), .slice p3 OO.length c3, .slice q3 NN.length e3]) (9 * (y / 4 % 2)) OO NN := op_of hYX hZX
    have hlo : (OO : List Int).length ≤ 140737488351232 := by (have := HKd.out.1; omega)
    have hln : (NN : List Int).length ≤ 140737488351232 := by (have := HKd.out.2; omega)
    have hbw := below_two HB3.out hbX
    have hdo := do_bad8 _ _ (9 * (y / 4 % 2)) OO NN b X hIX (HU.out X hbw) hlo hln hval
    have HIX := Lib.hid (fun W (hW : Below X.heap.size X W) => hIX.grows hW)
    have HVX := Lib.hid hval
    have HBX := Lib.hid hbw
    have HDX := Lib.hid DX
    have HLX := Lib.hid (And.intro hlo hln)
    clear hbX hNX DX hYX hZX hval hIX hlo hln hbw
    refine hdo.mono ?_
    rintro e w5 ⟨u5, rfl, hx5, hb5⟩
    obtain ⟨p5, c5, rfl⟩ := hx5.len (n := 0) rfl
    have D5 := HDX.out.grows hb5
    obtain ⟨d0, d1, d2⟩ := (⟨D5.cell 0 rfl, D5.cell 1 rfl, D5.cell 2 rfl⟩ : _ ∧ _ ∧ _)
    have hD5 := D5.lt
    have HD5 := Lib.hid D5
    have HB5 := Lib.hid hb5
    clear hdo hx5 hb5 D5
    go_wp2_with fail
    refine (mach_inv _ (9 * (y / 4 % 2)) OO NN w5 (HIX.out w5 HB5.out) HLX.out.1 HLX.out.2 HVX.out).mono ?_
    rintro e w6 ⟨rfl, hb6⟩
    have D6 := HD5.out.grows hb6
    have hD6 := D6.lt
    obtain ⟨g0, g1, g2⟩ := (⟨D6.cell 0 rfl, D6.cell 1 rfl, D6.cell 2 rfl⟩ : _ ∧ _ ∧ _)
    have HB6 := Lib.hid (below_two HB5.out hb6)
    clear d0 d1 d2 D6 hb6
    unfold zeroT
    go_wp2_with fail
    have hb7 : Below w6.heap.size w6 (w6.alloc (.cells #[.slice none 0 0, .slice none 0 0, .slice none 0 0, .slice none 0 0] 43)) := by go_grown
    have HB7 := Lib.hid (below_two HB6.out hb7)
    refine (pv_any _ (9 * (y / 4 % 2)) OO NN _ (HIX.out _ HB7.out) HLX.out.1 HLX.out.2).mono ?_
    rintro e w8 ⟨rfl, hb8⟩
    rw [show errI (valI (9 * (y / 4 % 2)) OO NN) = 1 by rw [HVX.out]; rfl]
    have HB8 := Lib.hid (below_two HB7.out hb8)
    have T8 := (Blk.new w6 #[.slice none 0 0, .slice none 0 0, .slice none 0 0, .slice none 0 0] 43).grows hb8
    have t1 : w8.cell? ⟨w6.heap.size, 1, none⟩ = some (.slice none 0 0) := T8.cell 1 rfl
    clear hb7 hb8 T8 g0 g1 g2
    go_wp2
    go_ret
    exact ⟨rfl, below_two HBX.out HB8.out⟩
  · go_wp2_with fail
    have hbX : Below w3.heap.size w3 ((w3.alloc (.cells #[.int .i64 K, (.slice (some ⟨w3.heap.size + 1, 0, none⟩) 9 9), .slice q3 NN.length e3] 24)).alloc (.cells #[.int .u8 49, .int .u8 50, .int .u8 51, .int .u8 52, .int .u8 53, .int .u8 54, .int .u8 55, .int .u8 56, .int .u8 57] 5 (9, 10))) := by go_grown
    have hNX := lit_isY (l := [49, 50, 51, 52, 53, 54, 55, 56, 57]) (n := 9) rfl rfl (byt_of rfl) (World.alloc_heap_new (w3.alloc (.cells #[.int .i64 K, (.slice (some ⟨w3.heap.size + 1, 0, none⟩) 9 9), .slice q3 NN.length e3] 24)) (.cells #[.int .u8 49, .int .u8 50, .int .u8 51, .int .u8 52, .int .u8 53, .int .u8 54, .int .u8 55, .int .u8 56, .int .u8 57] 5 (9, 10)))
    rw [World.size_alloc] at hNX
    have DX := (Blk.new w3 #[.int .i64 K, (.slice (some ⟨w3.heap.size + 1, 0, none⟩) 9 9), .slice q3 NN.length e3] 24).alloc (.cells #[.int .u8 49, .int .u8 50, .int .u8 51, .int .u8 52, .int .u8 53, .int .u8 54, .int .u8 55, .int .u8 56, .int .u8 57] 5 (9, 10))
    have hYX := HY3.out.grows hbX
    have hZX := HZ3.out.grows hbX
    generalize ((w3.alloc (.cells #[.int .i64 K, (.slice (some ⟨w3.heap.size + 1, 0, none⟩) 9 9), .slice q3 NN.length e3] 24)).alloc (.cells #[.int .u8 49, .int .u8 50, .int .u8 51, .int .u8 52, .int .u8 53, .int .u8 54, .int .u8 55, .int .u8 56, .int .u8 57] 5 (9, 10))) = X at hbX hNX DX hYX hZX ⊢
    have hval : valI K [49, 50, 51, 52, 53, 54, 55, 56, 57] NN = false := val_long _ _ _ (by simp)
    have hIX : IsOp X (.agg #[.int .i64 K, (.slice (some ⟨w3.heap.size + 1, 0, none⟩) 9 9), .slice q3 NN.length e3]) K [49, 50, 51, 52, 53, 54, 55, 56, 57] NN := op_of hNX hZX
    have hlo : ([49, 50, 51, 52, 53, 54, 55, 56, 57] : List Int).length ≤ 140737488351232 := by decide
    have hln : (NN : List Int).length ≤ 140737488351232 := by (have := HKd.out.2; omega)
    have hbw := below_two HB3.out hbX
    have hdo := do_bad8 _ _ K [49, 50, 51, 52, 53, 54, 55, 56, 57] NN b X hIX (HU.out X hbw) hlo hln hval
    have HIX := Lib.hid (fun W (hW : Below X.heap.size X W) => hIX.grows hW)
    have HVX := Lib.hid hval
    have HBX := Lib.hid hbw
    have HDX := Lib.hid DX
    have HLX := Lib.hid (And.intro hlo hln)
    clear hbX hNX DX hYX hZX hval hIX hlo hln hbw
    refine hdo.mono ?_
    rintro e w5 ⟨u5, rfl, hx5, hb5⟩
    obtain ⟨p5, c5, rfl⟩ := hx5.len (n := 0) rfl
    have D5 := HDX.out.grows hb5
    obtain ⟨d0, d1, d2⟩ := (⟨D5.cell 0 rfl, D5.cell 1 rfl, D5.cell 2 rfl⟩ : _ ∧ _ ∧ _)
    have hD5 := D5.lt
    have HD5 := Lib.hid D5
    have HB5 := Lib.hid hb5
    clear hdo hx5 hb5 D5
    go_wp2_with fail
    refine (mach_inv _ K [49, 50, 51, 52, 53, 54, 55, 56, 57] NN w5 (HIX.out w5 HB5.out) HLX.out.1 HLX.out.2 HVX.out).mono ?_
    rintro e w6 ⟨rfl, hb6⟩
    have D6 := HD5.out.grows hb6
    have hD6 := D6.lt
    obtain ⟨g0, g1, g2⟩ := (⟨D6.cell 0 rfl, D6.cell 1 rfl, D6.cell 2 rfl⟩ : _ ∧ _ ∧ _)
    have HB6 := Lib.hid (below_two HB5.out hb6)
    clear d0 d1 d2 D6 hb6
    unfold zeroT
    go_wp2_with fail
    have hb7 : Below w6.heap.size w6 (w6.alloc (.cells #[.slice none 0 0, .slice none 0 0, .slice none 0 0, .slice none 0 0] 43)) := by go_grown
    have HB7 := Lib.hid (below_two HB6.out hb7)
    refine (pv_any _ K [49, 50, 51, 52, 53, 54, 55, 56, 57] NN _ (HIX.out _ HB7.out) HLX.out.1 HLX.out.2).mono ?_
    rintro e w8 ⟨rfl, hb8⟩
    rw [show errI (valI K [49, 50, 51, 52, 53, 54, 55, 56, 57] NN) = 1 by rw [HVX.out]; rfl]
    have HB8 := Lib.hid (below_two HB7.out hb8)
    have T8 := (Blk.new w6 #[.slice none 0 0, .slice none 0 0, .slice none 0 0, .slice none 0 0] 43).grows hb8
    have t1 : w8.cell? ⟨w6.heap.size, 1, none⟩ = some (.slice none 0 0) := T8.cell 1 rfl
    clear hb7 hb8 T8 g0 g1 g2
    go_wp2
    go_ret
    exact ⟨rfl, below_two HBX.out HB8.out⟩
  · go_wp2_with fail
    have hbX : Below w3.heap.size w3 ((w3.alloc (.cells #[.int .i64 K, .slice p3 OO.length c3, (.slice (some ⟨w3.heap.size + 1, 0, none⟩) 5 9)] 24)).alloc (.cells #[.int .u8 49, .int .u8 50, .int .u8 51, .int .u8 52, .int .u8 53, .int .u8 54, .int .u8 55, .int .u8 56, .int .u8 57] 5 (9, 10))) := by go_grown
    have hNX := lit_isY (l := [49, 50, 51, 52, 53, 54, 55, 56, 57]) (n := 9) rfl rfl (byt_of rfl) (World.alloc_heap_new (w3.alloc (.cells #[.int .i64 K, .slice p3 OO.length c3, (.slice (some ⟨w3.heap.size + 1, 0, none⟩) 5 9)] 24)) (.cells #[.int .u8 49, .int .u8 50, .int .u8 51, .int .u8 52, .int .u8 53, .int .u8 54, .int .u8 55, .int .u8 56, .int .u8 57] 5 (9, 10)))
    rw [World.size_alloc] at hNX
    have DX := (Blk.new w3 #[.int .i64 K, .slice p3 OO.length c3, (.slice (some ⟨w3.heap.size + 1, 0, none⟩) 5 9)] 24).alloc (.cells #[.int .u8 49, .int .u8 50, .int .u8 51, .int .u8 52, .int .u8 53, .int .u8 54, .int .u8 55, .int .u8 56, .int .u8 57] 5 (9, 10))
    have hYX := HY3.out.grows hbX
    have hZX := HZ3.out.grows hbX
    generalize ((w3.alloc (.cells #[.int .i64 K, .slice p3 OO.length c3, (.slice (some ⟨w3.heap.size + 1, 0, none⟩) 5 9)] 24)).alloc (.cells #[.int .u8 49, .int .u8 50, .int .u8 51, .int .u8 52, .int .u8 53, .int .u8 54, .int .u8 55, .int .u8 56, .int .u8 57] 5 (9, 10))) = X at hbX hNX DX hYX hZX ⊢
    have hval : valI K OO [49, 50, 51, 52, 53] = false := val_new _ _ _ (by simp)
    have hIX : IsOp X (.agg #[.int .i64 K, .slice p3 OO.length c3, (.slice (some ⟨w3.heap.size + 1, 0, none⟩) 5 9)]) K OO [49, 50, 51, 52, 53] := op_of hYX (hNX.take 5 (by simp))
    have hlo : (OO : List Int).length ≤ 140737488351232 := by (have := HKd.out.1; omega)
    have hln : ([49, 50, 51, 52, 53] : List Int).length ≤ 140737488351232 := by decide
    have hbw := below_two HB3.out hbX
    have hdo := do_bad8 _ _ K OO [49, 50, 51, 52, 53] b X hIX (HU.out X hbw) hlo hln hval
    have HIX := Lib.hid (fun W (hW : Below X.heap.size X W) => hIX.grows hW)
    have HVX := Lib.hid hval
    have HBX := Lib.hid hbw
    have HDX := Lib.hid DX
    have HLX := Lib.hid (And.intro hlo hln)
    clear hbX hNX DX hYX hZX hval hIX hlo hln hbw
    refine hdo.mono ?_
    rintro e w5 ⟨u5, rfl, hx5, hb5⟩
    obtain ⟨p5, c5, rfl⟩ := hx5.len (n := 0) rfl
    have D5 := HDX.out.grows hb5
    obtain ⟨d0, d1, d2⟩ := (⟨D5.cell 0 rfl, D5.cell 1 rfl, D5.cell 2 rfl⟩ : _ ∧ _ ∧ _)
    have hD5 := D5.lt
    have HD5 := Lib.hid D5
    have HB5 := Lib.hid hb5
    clear hdo hx5 hb5 D5
    go_wp2_with fail
    refine (mach_inv _ K OO [49, 50, 51, 52, 53] w5 (HIX.out w5 HB5.out) HLX.out.1 HLX.out.2 HVX.out).mono ?_
    rintro e w6 ⟨rfl, hb6⟩
    have D6 := HD5.out.grows hb6
    have hD6 := D6.lt
    obtain ⟨g0, g1, g2⟩ := (⟨D6.cell 0 rfl, D6.cell 1 rfl, D6.cell 2 rfl⟩ : _ ∧ _ ∧ _)
    have HB6 := Lib.hid (below_two HB5.out hb6)
    clear d0 d1 d2 D6 hb6
    unfold zeroT
    go_wp2_with fail
    have hb7 : Below w6.heap.size w6 (w6.alloc (.cells #[.slice none 0 0, .slice none 0 0, .slice none 0 0, .slice none 0 0] 43)) := by go_grown
    have HB7 := Lib.hid (below_two HB6.out hb7)
    refine (pv_any _ K OO [49, 50, 51, 52, 53] _ (HIX.out _ HB7.out) HLX.out.1 HLX.out.2).mono ?_
    rintro e w8 ⟨rfl, hb8⟩
    rw [show errI (valI K OO [49, 50, 51, 52, 53]) = 1 by rw [HVX.out]; rfl]
    have HB8 := Lib.hid (below_two HB7.out hb8)
    have T8 := (Blk.new w6 #[.slice none 0 0, .slice none 0 0, .slice none 0 0, .slice none 0 0] 43).grows hb8
    have t1 : w8.cell? ⟨w6.heap.size, 1, none⟩ = some (.slice none 0 0) := T8.cell 1 rfl
    clear hb7 hb8 T8 g0 g1 g2
    go_wp2
    go_ret
    exact ⟨rfl, below_two HBX.out HB8.out⟩
  · by_cases h0 : OO = []
    · subst h0
      go_wp2_with fail
      have hbX : Below w3.heap.size w3 ((w3.alloc (.cells #[.int .i64 K, (.slice (some ⟨w3.heap.size + 1, 0, none⟩) 1 9), .slice q3 NN.length e3] 24)).alloc (.cells #[.int .u8 49, .int .u8 50, .int .u8 51, .int .u8 52, .int .u8 53, .int .u8 54, .int .u8 55, .int .u8 56, .int .u8 57] 5 (9, 10))) := by go_grown
      have hNX := lit_isY (l := [49, 50, 51, 52, 53, 54, 55, 56, 57]) (n := 9) rfl rfl (byt_of rfl) (World.alloc_heap_new (w3.alloc (.cells #[.int .i64 K, (.slice (some ⟨w3.heap.size + 1, 0, none⟩) 1 9), .slice q3 NN.length e3] 24)) (.cells #[.int .u8 49, .int .u8 50, .int .u8 51, .int .u8 52, .int .u8 53, .int .u8 54, .int .u8 55, .int .u8 56, .int .u8 57] 5 (9, 10)))
      rw [World.size_alloc] at hNX
      have DX := (Blk.new w3 #[.int .i64 K, (.slice (some ⟨w3.heap.size + 1, 0, none⟩) 1 9), .slice q3 NN.length e3] 24).alloc (.cells #[.int .u8 49, .int .u8 50, .int .u8 51, .int .u8 52, .int .u8 53, .int .u8 54, .int .u8 55, .int .u8 56, .int .u8 57] 5 (9, 10))
      have hYX := HY3.out.grows hbX
      have hZX := HZ3.out.grows hbX
      generalize ((w3.alloc (.cells #[.int .i64 K, (.slice (some ⟨w3.heap.size + 1, 0, none⟩) 1 9), .slice q3 NN.length e3] 24)).alloc (.cells #[.int .u8 49, .int .u8 50, .int .u8 51, .int .u8 52, .int .u8 53, .int .u8 54, .int .u8 55, .int .u8 56, .int .u8 57] 5 (9, 10))) = X at hbX hNX DX hYX hZX ⊢
      have hval : valI K [49] NN = false := val_one HVal.out
      have hIX : IsOp X (.agg #[.int .i64 K, (.slice (some ⟨w3.heap.size + 1, 0, none⟩) 1 9), .slice q3 NN.length e3]) K [49] NN := op_of (hNX.take 1 (by simp)) hZX
      have hlo : ([49] : List Int).length ≤ 140737488351232 := by decide
      have hln : (NN : List Int).length ≤ 140737488351232 := by (have := HKd.out.2; omega)
      have hbw := below_two HB3.out hbX
      have hdo := do_bad8 _ _ K [49] NN b X hIX (HU.out X hbw) hlo hln hval
      have HIX := Lib.hid (fun W (hW : Below X.heap.size X W) => hIX.grows hW)
      have HVX := Lib.hid hval
      have HBX := Lib.hid hbw
      have HDX := Lib.hid DX
      have HLX := Lib.hid (And.intro hlo hln)
      clear hbX hNX DX hYX hZX hval hIX hlo hln hbw
      refine hdo.mono ?_
      rintro e w5 ⟨u5, rfl, hx5, hb5⟩
      obtain ⟨p5, c5, rfl⟩ := hx5.len (n := 0) rfl
      have D5 := HDX.out.grows hb5
      obtain ⟨d0, d1, d2⟩ := (⟨D5.cell 0 rfl, D5.cell 1 rfl, D5.cell 2 rfl⟩ : _ ∧ _ ∧ _)
      have hD5 := D5.lt
      have HD5 := Lib.hid D5
      have HB5 := Lib.hid hb5
      clear hdo hx5 hb5 D5
      go_wp2_with fail
      refine (mach_inv _ K [49] NN w5 (HIX.out w5 HB5.out) HLX.out.1 HLX.out.2 HVX.out).mono ?_
      rintro e w6 ⟨rfl, hb6⟩
      have D6 := HD5.out.grows hb6
      have hD6 := D6.lt
      obtain ⟨g0, g1, g2⟩ := (⟨D6.cell 0 rfl, D6.cell 1 rfl, D6.cell 2 rfl⟩ : _ ∧ _ ∧ _)
      have HB6 := Lib.hid (below_two HB5.out hb6)
      clear d0 d1 d2 D6 hb6
      unfold zeroT
      go_wp2_with fail
      have hb7 : Below w6.heap.size w6 (w6.alloc (.cells #[.slice none 0 0, .slice none 0 0, .slice none 0 0, .slice none 0 0] 43)) := by go_grown
      have HB7 := Lib.hid (below_two HB6.out hb7)
      refine (pv_any _ K [49] NN _ (HIX.out _ HB7.out) HLX.out.1 HLX.out.2).mono ?_
      rintro e w8 ⟨rfl, hb8⟩
      rw [show errI (valI K [49] NN) = 1 by rw [HVX.out]; rfl]
      have HB8 := Lib.hid (below_two HB7.out hb8)
      have T8 := (Blk.new w6 #[.slice none 0 0, .slice none 0 0, .slice none 0 0, .slice none 0 0] 43).grows hb8
      have t1 : w8.cell? ⟨w6.heap.size, 1, none⟩ = some (.slice none 0 0) := T8.cell 1 rfl
      clear hb7 hb8 T8 g0 g1 g2
      go_wp2
      go_ret
      exact ⟨rfl, below_two HBX.out HB8.out⟩
    · have hne : ¬ ((OO.length : Int) = 0) := by have := List.length_pos_iff.2 h0; omega
      have HNE := Lib.hid h0
      clear h0
      go_wp2_with fail
      have hbX : Below w3.heap.size w3 ((w3.alloc (.cells #[.int .i64 K, .slice none 0 0, .slice q3 NN.length e3] 24)).alloc (.cells #[.int .u8 49, .int .u8 50, .int .u8 51, .int .u8 52, .int .u8 53, .int .u8 54, .int .u8 55, .int .u8 56, .int .u8 57] 5 (9, 10))) := by go_grown
      have hNX := lit_isY (l := [49, 50, 51, 52, 53, 54, 55, 56, 57]) (n := 9) rfl rfl (byt_of rfl) (World.alloc_heap_new (w3.alloc (.cells #[.int .i64 K, .slice none 0 0, .slice q3 NN.length e3] 24)) (.cells #[.int .u8 49, .int .u8 50, .int .u8 51, .int .u8 52, .int .u8 53, .int .u8 54, .int .u8 55, .int .u8 56, .int .u8 57] 5 (9, 10)))
      rw [World.size_alloc] at hNX
      have DX := (Blk.new w3 #[.int .i64 K, .slice none 0 0, .slice q3 NN.length e3] 24).alloc (.cells #[.int .u8 49, .int .u8 50, .int .u8 51, .int .u8 52, .int .u8 53, .int .u8 54, .int .u8 55, .int .u8 56, .int .u8 57] 5 (9, 10))
      have hYX := HY3.out.grows hbX
      have hZX := HZ3.out.grows hbX
      generalize ((w3.alloc (.cells #[.int .i64 K, .slice none 0 0, .slice q3 NN.length e3] 24)).alloc (.cells #[.int .u8 49, .int .u8 50, .int .u8 51, .int .u8 52, .int .u8 53, .int .u8 54, .int .u8 55, .int .u8 56, .int .u8 57] 5 (9, 10))) = X at hbX hNX DX hYX hZX ⊢
      have hval : valI K [] NN = false := val_none HVal.out HNE.out
      have hIX : IsOp X (.agg #[.int .i64 K, .slice none 0 0, .slice q3 NN.length e3]) K [] NN := op_of (IsY.nil X) hZX
      have hlo : ([] : List Int).length ≤ 140737488351232 := by decide
      have hln : (NN : List Int).length ≤ 140737488351232 := by (have := HKd.out.2; omega)
      have hbw := below_two HB3.out hbX
      have hdo := do_bad8 _ _ K [] NN b X hIX (HU.out X hbw) hlo hln hval
      have HIX := Lib.hid (fun W (hW : Below X.heap.size X W) => hIX.grows hW)
      have HVX := Lib.hid hval
      have HBX := Lib.hid hbw
      have HDX := Lib.hid DX
      have HLX := Lib.hid (And.intro hlo hln)
      clear hbX hNX DX hYX hZX hval hIX hlo hln hbw
      refine hdo.mono ?_
      rintro e w5 ⟨u5, rfl, hx5, hb5⟩
      obtain ⟨p5, c5, rfl⟩ := hx5.len (n := 0) rfl
      have D5 := HDX.out.grows hb5
      obtain ⟨d0, d1, d2⟩ := (⟨D5.cell 0 rfl, D5.cell 1 rfl, D5.cell 2 rfl⟩ : _ ∧ _ ∧ _)
      have hD5 := D5.lt
      have HD5 := Lib.hid D5
      have HB5 := Lib.hid hb5
      clear hdo hx5 hb5 D5
      go_wp2_with fail
      refine (mach_inv _ K [] NN w5 (HIX.out w5 HB5.out) HLX.out.1 HLX.out.2 HVX.out).mono ?_
      rintro e w6 ⟨rfl, hb6⟩
      have D6 := HD5.out.grows hb6
      have hD6 := D6.lt
      obtain ⟨g0, g1, g2⟩ := (⟨D6.cell 0 rfl, D6.cell 1 rfl, D6.cell 2 rfl⟩ : _ ∧ _ ∧ _)
      have HB6 := Lib.hid (below_two HB5.out hb6)
      clear d0 d1 d2 D6 hb6
      unfold zeroT
      go_wp2_with fail
      have hb7 : Below w6.heap.size w6 (w6.alloc (.cells #[.slice none 0 0, .slice none 0 0, .slice none 0 0, .slice none 0 0] 43)) := by go_grown
      have HB7 := Lib.hid (below_two HB6.out hb7)
      refine (pv_any _ K [] NN _ (HIX.out _ HB7.out) HLX.out.1 HLX.out.2).mono ?_
      rintro e w8 ⟨rfl, hb8⟩
      rw [show errI (valI K [] NN) = 1 by rw [HVX.out]; rfl]
      have HB8 := Lib.hid (below_two HB7.out hb8)
      have T8 := (Blk.new w6 #[.slice none 0 0, .slice none 0 0, .slice none 0 0, .slice none 0 0] 43).grows hb8
      have t1 : w8.cell? ⟨w6.heap.size, 1, none⟩ = some (.slice none 0 0) := T8.cell 1 rfl
      clear hb7 hb8 T8 g0 g1 g2
      go_wp2
      go_ret
      exact ⟨rfl, below_two HBX.out HB8.out⟩
end Go.Proofs.YtlhbhcfpbhnkeaaGreatDoor

namespace Go.Proofs.YtlhbhcfpbhnkeaaGreatDoor
open Go.RowKit Go.Lib

theorem do_lowA (v : Value) (b : List Int) (w : World) (hv : IsY w v b) (hb : b.length ≤ 140737488351232) (hM : MaxOk w) : Calls Tryz.prog 14 #[.agg #[.int .i64 1, .slice none 0 0, .slice none 0 0], v] w (DoRes w (some (b.map lowI))) := do_all _ v 1 [] [] b w (op_nil w 1) hv (by simp) (by simp) hb (fun h => by omega) hM
theorem do_upA (v : Value) (b : List Int) (w : World) (hv : IsY w v b) (hb : b.length ≤ 140737488351232) (hM : MaxOk w) : Calls Tryz.prog 14 #[.agg #[.int .i64 2, .slice none 0 0, .slice none 0 0], v] w (DoRes w (some (b.map upI))) := do_all _ v 2 [] [] b w (op_nil w 2) hv (by simp) (by simp) hb (fun h => by omega) hM
set_option maxRecDepth 100000 in
set_option maxHeartbeats 8000000 in
theorem case_walkA (v : Value) (b : List Int) (w : World) (hv : IsY w v b) (hb : b.length ≤ 140737488351232) (hM : MaxOk w) (hT : TabAt 0 Lib.deBruijn64tab w) (hg : 0 < w.heap.size) :
    Calls Tryz.prog 6 #[v] w fun e w' => e = .returned (.bool true) ∧ Below w.heap.size w w' := by
  obtain ⟨pb, cb, rfl, _⟩ := hv.shape
  have HM := Lib.hid (fun W (hW : Below w.heap.size w W) => hM.grows hW hM.lt)
  have HV := Lib.hid (fun W (hW : Below w.heap.size w W) => hv.grows hW)
  have HS := Lib.hid (sanity8_any w hM hT hg)
  clear hv hM hT hg
  go_enter Tryz.func6, Tryz.ntmps6
  go_wp2_with fail
  refine HS.out.mono ?_
  rintro e w1 ⟨rfl, hb1⟩
  have Hb1 := Lib.hid hb1
  clear hb1 HS
  go_wp2_with fail
  have hbl : Below w.heap.size w ((w1.alloc (.cells #[.int .i64 1, .slice none 0 0, .slice none 0 0] 24)).alloc (.cells #[.int .i64 2, .slice none 0 0, .slice none 0 0] 24)) := (Hb1.out.alloc Hb1.out.size _).alloc (by have := Hb1.out.size; simp; omega) _
  have hL := (Blk.new w1 #[.int .i64 1, .slice none 0 0, .slice none 0 0] 24).alloc (.cells #[.int .i64 2, .slice none 0 0, .slice none 0 0] 24)
  have hU := Blk.alloc1 w1 #[.int .i64 1, .slice none 0 0, .slice none 0 0] #[.int .i64 2, .slice none 0 0, .slice none 0 0] 24 24
  generalize ((w1.alloc (.cells #[.int .i64 1, .slice none 0 0, .slice none 0 0] 24)).alloc (.cells #[.int .i64 2, .slice none 0 0, .slice none 0 0] 24)) = w2 at hbl hL hU ⊢
  generalize w1.heap.size = lb at hL hU ⊢
  refine (do_lowA _ b w2 (HV.out w2 hbl) hb (HM.out w2 hbl)).mono ?_
  rintro e w3 ⟨x, rfl, hx, hb3⟩
  have hx : IsY w3 x (b.map lowI) := hx
  obtain ⟨px, cx, rfl⟩ := hx.len (n := b.length) (List.length_map _)
  have hbl3 := hbl.trans (hb3.mono hbl.size)
  have hL3 := hL.grows hb3
  have hU3 := hU.grows hb3
  obtain ⟨u0, u1, u2⟩ := (⟨hU3.cell 0 rfl, hU3.cell 1 rfl, hU3.cell 2 rfl⟩ : _ ∧ _ ∧ _)
  clear hbl hL hU hb3
  go_wp2_with fail
  refine (do_upA _ b w3 (HV.out w3 hbl3) hb (HM.out w3 hbl3)).mono ?_
  rintro e w4 ⟨y, rfl, hy, hb4⟩
  have hy : IsY w4 y (b.map upI) := hy
  obtain ⟨py, cy, rfl⟩ := hy.len (n := b.length) (List.length_map _)
  have Hx4 := Lib.hid (hx.grows hb4)
  have Hy4 := Lib.hid hy
  have hbl4 := hbl3.trans (hb4.mono hbl3.size)
  have HL4 := Lib.hid (hL3.grows hb4)
  have HU4 := Lib.hid (hU3.grows hb4)
  have Hb4 := Lib.hid hbl4
  have HV4 := Lib.hid (HV.out w4 hbl4)
  clear hx hy hbl3 hbl4 hb4 hL3 hU3 u0 u1 u2
  simp only [Option.isSome_some]
  go_wp2_with fail
  go_loopw [10] (fun iv wr => ∃ i : Nat, iv = .int .i64 (i : Int) ∧ i ≤ b.length ∧ Below w4.heap.size w4 wr) (fun iv _ => b.length - (RowKit.intOf iv).toNat)
  case atStart => exact ⟨0, rfl, Nat.zero_le _, Below.refl _ _⟩
  case round =>
    obtain ⟨i, rfl, hi, hbr⟩ := hrel
    by_cases hlt : i < b.length
    · obtain ⟨z, hz⟩ := get_of_lt hlt
      have hzb := HV4.out.byt.at hz
      obtain ⟨b0, o0, rfl, x0⟩ := (HV4.out.grows hbr).at hz
      obtain ⟨b1, o1, rfl, x1⟩ := (Hx4.out.grows hbr).at (j := i) (x := lowI z) (by rw [List.getElem?_map, hz]; rfl)
      obtain ⟨b2, o2, rfl, x2⟩ := (Hy4.out.grows hbr).at (j := i) (x := upI z) (by rw [List.getElem?_map, hz]; rfl)
      clear hz
      have hcase : (97 ≤ z ∧ z ≤ 122) ∨ (97 ≤ z ∧ 122 < z) ∨ (z < 97 ∧ 65 ≤ z ∧ z ≤ 90) ∨ (z < 97 ∧ 65 ≤ z ∧ 90 < z) ∨ (z < 65) := by omega
      rcases hcase with hcase | hcase | hcase | hcase | hcase
      · have d1 : decide (z ≥ 97) = true := by first | (rw [decide_eq_true_iff]; omega) | (rw [decide_eq_false_iff_not]; omega)
        have d2 : decide (z ≤ 122) = true := by first | (rw [decide_eq_true_iff]; omega) | (rw [decide_eq_false_iff_not]; omega)
        have hor := or_low (z := z) (by omega)
        have han := andNot_up (z := z) (by omega)
        clear hcase
        go_wp2
        go_quiet (fail)
        go_wp2
        go_roundw
        case rel => exact ⟨i + 1, by go_num, by omega, below_drews hbr _⟩
        case measure => simp [RowKit.intOf]; omega
      · have d1 : decide (z ≥ 97) = true := by first | (rw [decide_eq_true_iff]; omega) | (rw [decide_eq_false_iff_not]; omega)
        have d2 : decide (z ≤ 122) = false := by first | (rw [decide_eq_true_iff]; omega) | (rw [decide_eq_false_iff_not]; omega)
        have d3 : decide (z ≥ 65) = true := by first | (rw [decide_eq_true_iff]; omega) | (rw [decide_eq_false_iff_not]; omega)
        have d4 : decide (z ≤ 90) = false := by first | (rw [decide_eq_true_iff]; omega) | (rw [decide_eq_false_iff_not]; omega)
        rw [show lowI z = z by unfold lowI; rw [if_neg (by omega)]] at x1
        rw [show upI z = z by unfold upI; rw [if_neg (by omega)]] at x2
        clear hcase
        go_wp2
        go_quiet (fail)
        go_wp2
        go_roundw
        case rel => exact ⟨i + 1, by go_num, by omega, below_drews hbr _⟩
        case measure => simp [RowKit.intOf]; omega
      · have d1 : decide (z ≥ 97) = false := by first | (rw [decide_eq_true_iff]; omega) | (rw [decide_eq_false_iff_not]; omega)
        have d3 : decide (z ≥ 65) = true := by first | (rw [decide_eq_true_iff]; omega) | (rw [decide_eq_false_iff_not]; omega)
        have d4 : decide (z ≤ 90) = true := by first | (rw [decide_eq_true_iff]; omega) | (rw [decide_eq_false_iff_not]; omega)
        have hor := or_low (z := z) (by omega)
        have han := andNot_up (z := z) (by omega)
        clear hcase
        go_wp2
        go_quiet (fail)
        go_wp2
        go_roundw
        case rel => exact ⟨i + 1, by go_num, by omega, below_drews hbr _⟩
        case measure => simp [RowKit.intOf]; omega
      · have d1 : decide (z ≥ 97) = false := by first | (rw [decide_eq_true_iff]; omega) | (rw [decide_eq_false_iff_not]; omega)
        have d3 : decide (z ≥ 65) = true := by first | (rw [decide_eq_true_iff]; omega) | (rw [decide_eq_false_iff_not]; omega)
        have d4 : decide (z ≤ 90) = false := by first | (rw [decide_eq_true_iff]; omega) | (rw [decide_eq_false_iff_not]; omega)
        rw [show lowI z = z by unfold lowI; rw [if_neg (by omega)]] at x1
        rw [show upI z = z by unfold upI; rw [if_neg (by omega)]] at x2
        clear hcase
        go_wp2
        go_quiet (fail)
        go_wp2
        go_roundw
        case rel => exact ⟨i + 1, by go_num, by omega, below_drews hbr _⟩
        case measure => simp [RowKit.intOf]; omega
      · have d1 : decide (z ≥ 97) = false := by first | (rw [decide_eq_true_iff]; omega) | (rw [decide_eq_false_iff_not]; omega)
        have d3 : decide (z ≥ 65) = false := by first | (rw [decide_eq_true_iff]; omega) | (rw [decide_eq_false_iff_not]; omega)
        rw [show lowI z = z by unfold lowI; rw [if_neg (by omega)]] at x1
        rw [show upI z = z by unfold upI; rw [if_neg (by omega)]] at x2
        clear hcase
        go_wp2
        go_quiet (fail)
        go_wp2
        go_roundw
        case rel => exact ⟨i + 1, by go_num, by omega, below_drews hbr _⟩
        case measure => simp [RowKit.intOf]; omega
    · obtain rfl : i = b.length := by omega
      have Hx0 := Lib.hid (Hx4.out.grows hbr)
      have Hy0 := Lib.hid (Hy4.out.grows hbr)
      have HL0 := Lib.hid (HL4.out.grows hbr)
      have HU0 := Lib.hid (HU4.out.grows hbr)
      have Hb0 := Lib.hid (Hb4.out.trans (hbr.mono Hb4.out.size))
      clear hbr Hx4 Hy4 HL4 HU4 Hb4 HV4
      obtain ⟨c0, c1, c2⟩ := (⟨HL0.out.cell 0 rfl, HL0.out.cell 1 rfl, HL0.out.cell 2 rfl⟩ : _ ∧ _ ∧ _)
      go_wp2_with fail
      clear c0 c1 c2
      refine (do_lowA _ (b.map lowI) wr Hx0.out (by rw [List.length_map]; exact hb) (HM.out wr Hb0.out)).mono ?_
      rintro e v1 ⟨r1, rfl, hr1, hbv1⟩
      have Hr1n1 : Hid (IsY v1 r1 (b.map lowI)) := Lib.hid (by have h9 : IsY v1 r1 ((b.map lowI).map lowI) := hr1; rw [List.map_map] at h9; rwa [show lowI ∘ lowI = lowI from funext fun z => low_low z] at h9)
      have Hx1 := Lib.hid (Hx0.out.grows hbv1)
      have Hy1 := Lib.hid (Hy0.out.grows hbv1)
      have HL1 := Lib.hid (HL0.out.grows hbv1)
      have HU1 := Lib.hid (HU0.out.grows hbv1)
      have Hb1 := Lib.hid (Hb0.out.trans (hbv1.mono Hb0.out.size))
      clear hr1 hbv1 Hx0 Hy0 HL0 HU0 Hb0
      simp only [Option.isSome_some]
      obtain ⟨c0, c1, c2⟩ := (⟨HU1.out.cell 0 rfl, HU1.out.cell 1 rfl, HU1.out.cell 2 rfl⟩ : _ ∧ _ ∧ _)
      go_wp2_with fail
      clear c0 c1 c2
      refine (do_upA _ (b.map upI) v1 Hy1.out (by rw [List.length_map]; exact hb) (HM.out v1 Hb1.out)).mono ?_
      rintro e v2 ⟨r2, rfl, hr2, hbv2⟩
      have Hr2n2 : Hid (IsY v2 r2 (b.map upI)) := Lib.hid (by have h9 : IsY v2 r2 ((b.map upI).map upI) := hr2; rw [List.map_map] at h9; rwa [show upI ∘ upI = upI from funext fun z => up_up z] at h9)
      have Hx2 := Lib.hid (Hx1.out.grows hbv2)
      have Hy2 := Lib.hid (Hy1.out.grows hbv2)
      have HL2 := Lib.hid (HL1.out.grows hbv2)
      have HU2 := Lib.hid (HU1.out.grows hbv2)
      have Hb2 := Lib.hid (Hb1.out.trans (hbv2.mono Hb1.out.size))
      have Hr1n2 := Lib.hid (Hr1n1.out.grows hbv2)
      clear hr2 hbv2 Hx1 Hy1 HL1 HU1 Hb1 Hr1n1
      simp only [Option.isSome_some]
      obtain ⟨c0, c1, c2⟩ := (⟨HL2.out.cell 0 rfl, HL2.out.cell 1 rfl, HL2.out.cell 2 rfl⟩ : _ ∧ _ ∧ _)
      go_wp2_with fail
      clear c0 c1 c2
      refine (do_lowA _ (b.map upI) v2 Hy2.out (by rw [List.length_map]; exact hb) (HM.out v2 Hb2.out)).mono ?_
      rintro e v3 ⟨r3, rfl, hr3, hbv3⟩
      have Hr3n3 : Hid (IsY v3 r3 (b.map lowI)) := Lib.hid (by have h9 : IsY v3 r3 ((b.map upI).map lowI) := hr3; rw [List.map_map] at h9; rwa [show lowI ∘ upI = lowI from funext fun z => low_up z] at h9)
      have Hx3 := Lib.hid (Hx2.out.grows hbv3)
      have Hy3 := Lib.hid (Hy2.out.grows hbv3)
      have HL3 := Lib.hid (HL2.out.grows hbv3)
      have HU3 := Lib.hid (HU2.out.grows hbv3)
      have Hb3 := Lib.hid (Hb2.out.trans (hbv3.mono Hb2.out.size))
      have Hr1n3 := Lib.hid (Hr1n2.out.grows hbv3)
      have Hr2n3 := Lib.hid (Hr2n2.out.grows hbv3)
      clear hr3 hbv3 Hx2 Hy2 HL2 HU2 Hb2 Hr1n2 Hr2n2
      simp only [Option.isSome_some]
      obtain ⟨c0, c1, c2⟩ := (⟨HU3.out.cell 0 rfl, HU3.out.cell 1 rfl, HU3.out.cell 2 rfl⟩ : _ ∧ _ ∧ _)
      go_wp2_with fail
      clear c0 c1 c2
      refine (do_upA _ (b.map lowI) v3 Hx3.out (by rw [List.length_map]; exact hb) (HM.out v3 Hb3.out)).mono ?_
      rintro e v4 ⟨r4, rfl, hr4, hbv4⟩
      have Hr4n4 : Hid (IsY v4 r4 (b.map upI)) := Lib.hid (by have h9 : IsY v4 r4 ((b.map lowI).map upI) := hr4; rw [List.map_map] at h9; rwa [show upI ∘ lowI = upI from funext fun z => up_low z] at h9)
      have Hx4 := Lib.hid (Hx3.out.grows hbv4)
      have Hy4 := Lib.hid (Hy3.out.grows hbv4)
      have HL4 := Lib.hid (HL3.out.grows hbv4)
      have HU4 := Lib.hid (HU3.out.grows hbv4)
      have Hb4 := Lib.hid (Hb3.out.trans (hbv4.mono Hb3.out.size))
      have Hr1n4 := Lib.hid (Hr1n3.out.grows hbv4)
      have Hr2n4 := Lib.hid (Hr2n3.out.grows hbv4)
      have Hr3n4 := Lib.hid (Hr3n3.out.grows hbv4)
      clear hr4 hbv4 Hx3 Hy3 HL3 HU3 Hb3 Hr1n3 Hr2n3 Hr3n3
      simp only [Option.isSome_some]
      have heq : ∀ l : List Int, eqY l l = true := fun l => eqY_iff.2 rfl
      go_wp2_with fail
      refine (same_any _ _ (b.map lowI) (b.map lowI) v4 Hr1n4.out Hx4.out).mono ?_
      rintro e z1 ⟨rfl, rfl⟩
      rw [heq]
      go_wp2_with fail
      refine (same_any _ _ (b.map upI) (b.map upI) _ Hr2n4.out Hy4.out).mono ?_
      rintro e z2 ⟨rfl, rfl⟩
      rw [heq]
      go_wp2_with fail
      refine (same_any _ _ (b.map lowI) (b.map lowI) _ Hr3n4.out Hx4.out).mono ?_
      rintro e z3 ⟨rfl, rfl⟩
      rw [heq]
      go_wp2_with fail
      refine (same_any _ _ (b.map upI) (b.map upI) _ Hr4n4.out Hy4.out).mono ?_
      rintro e z4 ⟨rfl, rfl⟩
      rw [heq]
      go_wp2
      go_ret
      exact ⟨rfl, Hb4.out⟩
end Go.Proofs.YtlhbhcfpbhnkeaaGreatDoor
