/-
  Texts of the proof, one behind another: Zz.
-/
import Derived.Test.YtlhbhcfpbhnkeaaGreatDoorQda
import Derived.Test.YtlhbhcfpbhnkeaaGreatDoorQci
import Derived.Test.YtlhbhcfpbhnkeaaGreatDoorQcb
import Derived.Deep.RegionHeld3
set_option linter.unusedSimpArgs false
set_option linter.unusedVariables false
namespace Go.Proofs.YtlhbhcfpbhnkeaaGreatDoor
open Go.RowKit Go.Lib

set_option maxRecDepth 100000 in
set_option maxHeartbeats 8000000 in
theorem matches_walk (v u : Value) (k : Int) (old new b : List Int) (c : BitVec 256) (w : World) (hv : IsOp w v k old new) (hu : IsY w u b) (hbd : (old.length + new.length) + b.length ≤ 1048576)
    (hM : MaxOk w) (hT : TabAt 0 Lib.deBruijn64tab w) (hg : 0 < w.heap.size) :
    Calls Tryz.prog 3 #[v, u, .agg #[.int .u64 (wd c 0), .int .u64 (wd c 1), .int .u64 (wd c 2), .int .u64 (wd c 3)]] w fun e w' => e = .returned (.bool true) ∧ Below w.heap.size w w' := by
  have HM := Lib.hid (fun W (hW : Below w.heap.size w W) => hM.grows hW hM.lt)
  have HT := Lib.hid (fun W (hW : Below w.heap.size w W) => tab_below hT hW hg)
  have HG := Lib.hid (fun W (hW : Below w.heap.size w W) => Nat.lt_of_lt_of_le hg hW.size)
  have HU := Lib.hid (fun W (hW : Below w.heap.size w W) => hu.grows hW)
  obtain ⟨vo, vn, rfl, hvo, hvn⟩ := hv
  have HO := Lib.hid (fun W (hW : Below w.heap.size w W) => hvo.grows hW)
  have HN := Lib.hid (fun W (hW : Below w.heap.size w W) => hvn.grows hW)
  obtain ⟨po, co, rfl, -⟩ := hvo.shape
  obtain ⟨pn, cn, rfl, -⟩ := hvn.shape
  obtain ⟨pb, cb, rfl, hcb⟩ := hu.shape
  have HBd := Lib.hid hbd
  clear hM hT hg hvo hvn hu hbd
  go_enter Tryz.func3, Tryz.ntmps3
  have hb1 : Below w.heap.size w ((w.alloc (.cells #[.int .i64 k, .slice po old.length co, .slice pn new.length cn] 24)).alloc (.cells #[.int .u64 (wd c 0), .int .u64 (wd c 1), .int .u64 (wd c 2), .int .u64 (wd c 3)] 27)) := by go_grown
  have D1 := (Blk.new w #[.int .i64 k, .slice po old.length co, .slice pn new.length cn] 24).alloc (.cells #[.int .u64 (wd c 0), .int .u64 (wd c 1), .int .u64 (wd c 2), .int .u64 (wd c 3)] 27)
  have E1 := Blk.alloc1 w #[.int .i64 k, .slice po old.length co, .slice pn new.length cn] #[.int .u64 (wd c 0), .int .u64 (wd c 1), .int .u64 (wd c 2), .int .u64 (wd c 3)] 24 27
  go_wp2_with fail
  generalize ((w.alloc (.cells #[.int .i64 k, .slice po old.length co, .slice pn new.length cn] 24)).alloc (.cells #[.int .u64 (wd c 0), .int .u64 (wd c 1), .int .u64 (wd c 2), .int .u64 (wd c 3)] 27)) = w1 at hb1 D1 E1 ⊢
  refine (sanity8_any w1 (HM.out w1 hb1) (HT.out w1 hb1) (HG.out w1 hb1)).mono ?_
  rintro e w2 ⟨rfl, hb2⟩
  have D2 := D1.grows hb2
  have E2 := E1.grows hb2
  have HB2 := Lib.hid (below_two hb1 hb2)
  obtain ⟨d0, d1, d2⟩ := (⟨D2.cell 0 rfl, D2.cell 1 rfl, D2.cell 2 rfl⟩ : _ ∧ _ ∧ _)
  have hD2 := D2.lt
  have hE2 := E2.lt
  have HD2 := Lib.hid D2
  have HE2 := Lib.hid E2
  clear D1 E1 D2 E2 hb1 hb2
  go_wp2_with fail
  refine (made_any _ k old new w2 ⟨_, _, rfl, HO.out w2 HB2.out, HN.out w2 HB2.out⟩ (by have := HBd.out; omega) (by have := HBd.out; omega)).mono ?_
  rintro e w3 ⟨u3, rfl, hI3, hb3⟩
  have HLn := Lib.hid (And.intro (mkOld_len k old) (mkNew_len k new))
  generalize mkOld k old = OO at hI3 HLn
  generalize mkNew k new = NN at hI3 HLn
  generalize mkK k = K at hI3
  obtain ⟨p3, c3, q3, e3, rfl, hy3, hz3, hc3, he3⟩ := hI3.shape
  have HI := Lib.hid (fun W (hW : Below w3.heap.size w3 W) => hI3.grows hW)
  have HB3 := Lib.hid (below_two HB2.out hb3)
  have D3 := HD2.out.grows hb3
  have E3 := HE2.out.grows hb3
  have hb4 : Below w3.heap.size w3 (w3.alloc (.cells #[.int .i64 K, .slice p3 OO.length c3, .slice q3 NN.length e3] 24)) := by go_grown
  have P4 := Blk.new w3 #[.int .i64 K, .slice p3 OO.length c3, .slice q3 NN.length e3] 24
  have D4 := D3.grows hb4
  have E4 := E3.grows hb4
  obtain ⟨t0, t1, t2⟩ := (⟨D3.cell 0 rfl, D3.cell 1 rfl, D3.cell 2 rfl⟩ : _ ∧ _ ∧ _)
  have hD3 := D3.lt
  have HD4 := Lib.hid D4
  have HE4 := Lib.hid E4
  have HP4 := Lib.hid P4
  have HB4 := Lib.hid hb4
  clear d0 d1 d2 hI3 hy3 hz3 hb3 D3 E3 D4 E4 P4
  go_wp2_with fail
  clear t0 t1 t2
  generalize (w3.alloc (.cells #[.int .i64 K, .slice p3 OO.length c3, .slice q3 NN.length e3] 24)) = w4 at hb4 HD4 HE4 HP4 HB4 ⊢
  obtain ⟨r1, hr1⟩ : ∃ r, doI k old new b = r := ⟨_, rfl⟩
  obtain ⟨r2, hr2⟩ : ∃ r, doI K OO NN b = r := ⟨_, rfl⟩
  have hdo1 := do_any _ _ k old new b w4 ⟨_, _, rfl, HO.out w4 (below_two HB3.out HB4.out), HN.out w4 (below_two HB3.out HB4.out)⟩ (HU.out w4 (below_two HB3.out HB4.out)) (by have := HBd.out; omega) (by have := HBd.out; omega) (by have := HBd.out; omega) (HM.out w4 (below_two HB3.out HB4.out))
  rw [hr1] at hdo1
  refine hdo1.mono ?_
  rintro e w5 ⟨x1, rfl, hx1, hb5⟩
  obtain ⟨px1, cx1, rfl, -⟩ := hx1.shape
  generalize hs1 : r1.isSome = s1
  generalize hl1 : r1.getD [] = L1 at hx1 ⊢
  obtain ⟨n1, hn1⟩ : ∃ n, L1.length = n := ⟨_, rfl⟩
  rw [hn1] at hx1 ⊢
  have HS1 := Lib.hid (And.intro hr1 (And.intro hs1 hl1))
  have HX1 := Lib.hid hx1
  have HB5 := Lib.hid (below_two HB4.out hb5)
  have D5 := HD4.out.grows hb5
  have HD5 := Lib.hid D5
  have hD5 := D5.lt
  have HE5 := Lib.hid (HE4.out.grows hb5)
  have HP5 := Lib.hid (HP4.out.grows hb5)
  obtain ⟨t0, t1, t2⟩ := (⟨D5.cell 0 rfl, D5.cell 1 rfl, D5.cell 2 rfl⟩ : _ ∧ _ ∧ _)
  clear hdo1 hr1 hs1 hl1 hn1 hx1 hb4 hb5 D5 hD3
  go_wp2_with fail
  clear t0 t1 t2
  have hdo2 := rdo_any _ _ k old new b w5 ⟨_, _, rfl, HO.out w5 (below_two HB3.out HB5.out), HN.out w5 (below_two HB3.out HB5.out)⟩ (HU.out w5 (below_two HB3.out HB5.out)) (by have := HBd.out; omega) (by have := HBd.out; omega) (by have := HBd.out; omega)
  rw [HS1.out.1] at hdo2
  refine hdo2.mono ?_
  rintro e w6 ⟨x2, rfl, hx2, hb6⟩
  rw [HS1.out.2.2] at hx2
  rw [HS1.out.2.1]
  obtain ⟨px2, cx2, rfl, -⟩ := hx2.shape
  obtain ⟨n2, hn2⟩ : ∃ n, L1.length = n := ⟨_, rfl⟩
  rw [hn2] at hx2 ⊢
  have HX2 := Lib.hid hx2
  have HX1a := Lib.hid (HX1.out.grows hb6)
  have HB6 := Lib.hid (below_two HB5.out hb6)
  have HD6 := Lib.hid (HD5.out.grows hb6)
  have HE6 := Lib.hid (HE5.out.grows hb6)
  have P6 := HP5.out.grows hb6
  have HP6 := Lib.hid P6
  have hP6 := P6.lt
  obtain ⟨t0, t1, t2⟩ := (⟨P6.cell 0 rfl, P6.cell 1 rfl, P6.cell 2 rfl⟩ : _ ∧ _ ∧ _)
  clear hdo2 hn2 hx2 hb6 P6
  go_wp2_with fail
  clear t0 t1 t2
  have hdo3 := do_any _ _ K OO NN b w6 (HI.out w6 HB6.out) (HU.out w6 (below_two HB3.out HB6.out)) (by have := HLn.out.1; omega) (by have := HLn.out.2; omega) (by have := HBd.out; omega) (HM.out w6 (below_two HB3.out HB6.out))
  rw [hr2] at hdo3
  refine hdo3.mono ?_
  rintro e w7 ⟨x3, rfl, hx3, hb7⟩
  obtain ⟨px3, cx3, rfl, -⟩ := hx3.shape
  generalize hs2 : r2.isSome = s2
  generalize hl2 : r2.getD [] = L2 at hx3 ⊢
  obtain ⟨n3, hn3⟩ : ∃ n, L2.length = n := ⟨_, rfl⟩
  rw [hn3] at hx3 ⊢
  have HS2 := Lib.hid (And.intro hr2 (And.intro hs2 hl2))
  have HX3 := Lib.hid hx3
  have HX1b := Lib.hid (HX1a.out.grows hb7)
  have HX2b := Lib.hid (HX2.out.grows hb7)
  have HB7 := Lib.hid (below_two HB6.out hb7)
  have HD7 := Lib.hid (HD6.out.grows hb7)
  have HE7 := Lib.hid (HE6.out.grows hb7)
  have P7 := HP6.out.grows hb7
  have hP7 := P7.lt
  obtain ⟨t0, t1, t2⟩ := (⟨P7.cell 0 rfl, P7.cell 1 rfl, P7.cell 2 rfl⟩ : _ ∧ _ ∧ _)
  clear hdo3 hr2 hs2 hl2 hn3 hx3 hb7 P7
  go_wp2_with fail
  clear t0 t1 t2
  have hdo4 := rdo_any _ _ K OO NN b w7 (HI.out w7 HB7.out) (HU.out w7 (below_two HB3.out HB7.out)) (by have := HLn.out.1; omega) (by have := HLn.out.2; omega) (by have := HBd.out; omega)
  rw [HS2.out.1] at hdo4
  refine hdo4.mono ?_
  rintro e w8 ⟨x4, rfl, hx4, hb8⟩
  rw [HS2.out.2.2] at hx4
  rw [HS2.out.2.1]
  obtain ⟨px4, cx4, rfl, -⟩ := hx4.shape
  obtain ⟨n4, hn4⟩ : ∃ n, L2.length = n := ⟨_, rfl⟩
  rw [hn4] at hx4 ⊢
  have hdr8 : Below w8.heap.size w8 w8.drew := by go_grown
  have hb8d := below_two hb8 hdr8
  have HX4 := Lib.hid (hx4.grows hdr8)
  have HX1c := Lib.hid (HX1b.out.grows hb8d)
  have HX2c := Lib.hid (HX2b.out.grows hb8d)
  have HX3c := Lib.hid (HX3.out.grows hb8d)
  have HB8 := Lib.hid (below_two HB7.out hb8d)
  have D8 := HD7.out.grows hb8d
  have E8 := HE7.out.grows hb8d
  have HD8 := Lib.hid D8
  have HE8 := Lib.hid E8
  have hD8 : w.heap.size < w8.drew.heap.size := D8.lt
  have hE8 : w.heap.size + 1 < w8.drew.heap.size := E8.lt
  have HS8 : Hid (w8.drew.cell? ⟨w.heap.size, 0, none⟩ = some (.int .i64 k) ∧ w8.drew.cell? ⟨w.heap.size, 1, none⟩ = some (.slice po old.length co) ∧ w8.drew.cell? ⟨w.heap.size, 2, none⟩ = some (.slice pn new.length cn) ∧ w8.drew.cell? ⟨w.heap.size + 1, 0, none⟩ = some (.int .u64 (wd c 0)) ∧ w8.drew.cell? ⟨w.heap.size + 1, 1, none⟩ = some (.int .u64 (wd c 1)) ∧ w8.drew.cell? ⟨w.heap.size + 1, 2, none⟩ = some (.int .u64 (wd c 2)) ∧ w8.drew.cell? ⟨w.heap.size + 1, 3, none⟩ = some (.int .u64 (wd c 3))) := Lib.hid ⟨D8.cell 0 rfl, D8.cell 1 rfl, D8.cell 2 rfl, E8.cell 0 rfl, E8.cell 1 rfl, E8.cell 2 rfl, E8.cell 3 rfl⟩
  clear hdo4 hn4 hx4 hb8 hdr8 hb8d D8 E8
  go_wp2_with fail
  go_region_held3 (fun W => W.cell? ⟨w.heap.size, 0, none⟩ = some (.int .i64 k) ∧ W.cell? ⟨w.heap.size, 1, none⟩ = some (.slice po old.length co) ∧ W.cell? ⟨w.heap.size, 2, none⟩ = some (.slice pn new.length cn) ∧ W.cell? ⟨w.heap.size + 1, 0, none⟩ = some (.int .u64 (wd c 0)) ∧ W.cell? ⟨w.heap.size + 1, 1, none⟩ = some (.int .u64 (wd c 1)) ∧ W.cell? ⟨w.heap.size + 1, 2, none⟩ = some (.int .u64 (wd c 2)) ∧ W.cell? ⟨w.heap.size + 1, 3, none⟩ = some (.int .u64 (wd c 3)))
    (first | (with_reducible exact HS8.out) | (with_reducible exact HS9.out) | (with_reducible exact HS10.out) | (with_reducible exact HS11.out) | (with_reducible exact HS12.out) | fail)
    (first
      | (go_at_call 16; refine (pv_any _ k old new _ ⟨_, _, rfl, HO.out _ (below_two HB3.out HB8.out), HN.out _ (below_two HB3.out HB8.out)⟩ (by have := HBd.out; omega) (by have := HBd.out; omega)).mono ?_; rintro e w9 ⟨rfl, hb9⟩; have hK := below_two HB8.out hb9; have HB9 := Lib.hid hK; have hD := HD8.out.grows hb9; have HD9 := Lib.hid hD; have hE := HE8.out.grows hb9; have HE9 := Lib.hid hE; have HS9 : Hid (w9.cell? ⟨w.heap.size, 0, none⟩ = some (.int .i64 k) ∧ w9.cell? ⟨w.heap.size, 1, none⟩ = some (.slice po old.length co) ∧ w9.cell? ⟨w.heap.size, 2, none⟩ = some (.slice pn new.length cn) ∧ w9.cell? ⟨w.heap.size + 1, 0, none⟩ = some (.int .u64 (wd c 0)) ∧ w9.cell? ⟨w.heap.size + 1, 1, none⟩ = some (.int .u64 (wd c 1)) ∧ w9.cell? ⟨w.heap.size + 1, 2, none⟩ = some (.int .u64 (wd c 2)) ∧ w9.cell? ⟨w.heap.size + 1, 3, none⟩ = some (.int .u64 (wd c 3))) := Lib.hid ⟨hD.cell 0 rfl, hD.cell 1 rfl, hD.cell 2 rfl, hE.cell 0 rfl, hE.cell 1 rfl, hE.cell 2 rfl, hE.cell 3 rfl⟩; have HX1i := Lib.hid (HX1c.out.grows hb9); have HX2i := Lib.hid (HX2c.out.grows hb9); have HX3i := Lib.hid (HX3c.out.grows hb9); have HX4i := Lib.hid (HX4.out.grows hb9); clear hK hD hE hb9)
      | (go_at_call 17; refine (rvalid_any _ k old new _ ⟨_, _, rfl, HO.out _ (below_two HB3.out HB9.out), HN.out _ (below_two HB3.out HB9.out)⟩ (by have := HBd.out; omega) (by have := HBd.out; omega)).mono ?_; rintro e w10 ⟨rfl, hb10⟩; have hK := below_two HB9.out hb10; have HB10 := Lib.hid hK; have hD := HD9.out.grows hb10; have HD10 := Lib.hid hD; have hE := HE9.out.grows hb10; have HE10 := Lib.hid hE; have HS10 : Hid (w10.cell? ⟨w.heap.size, 0, none⟩ = some (.int .i64 k) ∧ w10.cell? ⟨w.heap.size, 1, none⟩ = some (.slice po old.length co) ∧ w10.cell? ⟨w.heap.size, 2, none⟩ = some (.slice pn new.length cn) ∧ w10.cell? ⟨w.heap.size + 1, 0, none⟩ = some (.int .u64 (wd c 0)) ∧ w10.cell? ⟨w.heap.size + 1, 1, none⟩ = some (.int .u64 (wd c 1)) ∧ w10.cell? ⟨w.heap.size + 1, 2, none⟩ = some (.int .u64 (wd c 2)) ∧ w10.cell? ⟨w.heap.size + 1, 3, none⟩ = some (.int .u64 (wd c 3))) := Lib.hid ⟨hD.cell 0 rfl, hD.cell 1 rfl, hD.cell 2 rfl, hE.cell 0 rfl, hE.cell 1 rfl, hE.cell 2 rfl, hE.cell 3 rfl⟩; have HX1j := Lib.hid (HX1i.out.grows hb10); have HX2j := Lib.hid (HX2i.out.grows hb10); have HX3j := Lib.hid (HX3i.out.grows hb10); have HX4j := Lib.hid (HX4i.out.grows hb10); clear hK hD hE hb10)
      | (go_at_call 18; refine (same_any _ _ L1 L1 _ HX1j.out HX2j.out).mono ?_; rintro e w10' ⟨rfl, rfl⟩; rw [eqY_iff.2 rfl])
      | (go_at_call 18; refine (same_any _ _ L2 L2 _ HX3j.out HX4j.out).mono ?_; rintro e w10' ⟨rfl, rfl⟩; rw [eqY_iff.2 rfl])
      | (go_at_call 19; refine (trim_any _ c b _ (HU.out _ (below_two HB3.out HB10.out)) (by have := HBd.out; omega)).mono ?_; rintro e w11 ⟨f, t, z11, hT1, rfl, hz11, hb11⟩; obtain ⟨T, hTT⟩ : ∃ T, (b.take t).drop f = T := ⟨_, rfl⟩; rw [hTT] at hz11; have HT1 := Lib.hid (And.intro hT1 hTT); have HZ11 := Lib.hid hz11; clear hT1 hTT hz11; have hK := below_two HB10.out hb11; have HB11 := Lib.hid hK; have hD := HD10.out.grows hb11; have HD11 := Lib.hid hD; have hE := HE10.out.grows hb11; have HE11 := Lib.hid hE; have HS11 : Hid (w11.cell? ⟨w.heap.size, 0, none⟩ = some (.int .i64 k) ∧ w11.cell? ⟨w.heap.size, 1, none⟩ = some (.slice po old.length co) ∧ w11.cell? ⟨w.heap.size, 2, none⟩ = some (.slice pn new.length cn) ∧ w11.cell? ⟨w.heap.size + 1, 0, none⟩ = some (.int .u64 (wd c 0)) ∧ w11.cell? ⟨w.heap.size + 1, 1, none⟩ = some (.int .u64 (wd c 1)) ∧ w11.cell? ⟨w.heap.size + 1, 2, none⟩ = some (.int .u64 (wd c 2)) ∧ w11.cell? ⟨w.heap.size + 1, 3, none⟩ = some (.int .u64 (wd c 3))) := Lib.hid ⟨hD.cell 0 rfl, hD.cell 1 rfl, hD.cell 2 rfl, hE.cell 0 rfl, hE.cell 1 rfl, hE.cell 2 rfl, hE.cell 3 rfl⟩; clear hK hD hE hb11)
      | (go_at_call 20; refine (rtrim_any _ c b _ (HU.out _ (below_two HB3.out HB11.out)) (by have := HBd.out; omega)).mono ?_; rintro e w12 ⟨f', t', z12, hT2, rfl, hz12, hb12⟩; have hTu := HT1.out.1.unique hT2; rw [← hTu.1, ← hTu.2, HT1.out.2] at hz12; have HZ12 := Lib.hid hz12; clear hT2 hTu hz12; have HZ11b := Lib.hid (HZ11.out.grows hb12); have hK := below_two HB11.out hb12; have HB12 := Lib.hid hK; have hD := HD11.out.grows hb12; have HD12 := Lib.hid hD; have hE := HE11.out.grows hb12; have HE12 := Lib.hid hE; have HS12 : Hid (w12.cell? ⟨w.heap.size, 0, none⟩ = some (.int .i64 k) ∧ w12.cell? ⟨w.heap.size, 1, none⟩ = some (.slice po old.length co) ∧ w12.cell? ⟨w.heap.size, 2, none⟩ = some (.slice pn new.length cn) ∧ w12.cell? ⟨w.heap.size + 1, 0, none⟩ = some (.int .u64 (wd c 0)) ∧ w12.cell? ⟨w.heap.size + 1, 1, none⟩ = some (.int .u64 (wd c 1)) ∧ w12.cell? ⟨w.heap.size + 1, 2, none⟩ = some (.int .u64 (wd c 2)) ∧ w12.cell? ⟨w.heap.size + 1, 3, none⟩ = some (.int .u64 (wd c 3))) := Lib.hid ⟨hD.cell 0 rfl, hD.cell 1 rfl, hD.cell 2 rfl, hE.cell 0 rfl, hE.cell 1 rfl, hE.cell 2 rfl, hE.cell 3 rfl⟩; clear hK hD hE hb12)
      | (go_at_call 18; refine (same_any _ _ T T _ HZ11b.out HZ12.out).mono ?_; rintro e w12' ⟨rfl, rfl⟩; rw [eqY_iff.2 rfl])
      | fail)
  all_goals
    go_wp2
    go_ret
    exact ⟨rfl, below_two HB3.out HB12.out⟩
end Go.Proofs.YtlhbhcfpbhnkeaaGreatDoor
