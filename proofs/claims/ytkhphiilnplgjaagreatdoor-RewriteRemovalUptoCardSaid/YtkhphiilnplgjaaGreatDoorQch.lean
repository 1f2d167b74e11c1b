/-
  Texts of the proof, one behind another: Zm, Zn, Zp, Zq, Zr, Wb, Wx.
-/
import Derived.Test.YtkhphiilnplgjaaGreatDoorQcf
import Derived.Test.YtkhphiilnplgjaaGreatDoorQcb
import Derived.Lib.SmallJoins
import Derived.Test.YtkhphiilnplgjaaGreatDoorQbd
import Derived.Deep.RegionHeld3
import Derived.Test.YtkhphiilnplgjaaGreatDoorQag
set_option linter.unusedSimpArgs false
set_option linter.unusedVariables false
namespace Go.Proofs.YtkhphiilnplgjaaGreatDoor
open Go.RowKit Go.Lib

theorem mach_aa (v : Value) (w : World) (hv : IsOp w v 6 [97, 97] [98]) (hT : TabAt 0 Lib.deBruijn64tab w) (hg : 0 < w.heap.size) :
    Calls Tryz.prog 22 #[v] w fun e w' => ∃ u, e = .returned (.tuple #[u, .int .i64 0]) ∧ TrAt w.heap.size w' u [cA, cB] rowsA [true, true] [[], [97]] ∧ Below w.heap.size w w' := by
  refine mach_gen 6 1 4 4 100 102 (fun _ _ _ _ _ r2 => #[.pointer (some ⟨r2, 0, none⟩)]) (fun _ _ _ _ _ r2 => #[.pointer (some ⟨r2, 0, none⟩)]) v [97, 97] [98] _ _ _ _ w hv (by omega) (by omega) (fun _ _ _ _ _ _ => ⟨rfl, rfl, rfl, rfl, rfl⟩) (by omega) (by omega) (by omega) (by simp) (by simp)
    (enters_of Tryz.func102 (by kernel_rfl) rfl) (by simp) ?_
  intro W v2 bl bu p1 p2 r1 r2 hW hB hv2
  have h := repl2_all v2 6 [97, 97] [98] r2 W hv2 hB.all (by simp) (by simp) (by simp) (tab_below hT hW hg) (Nat.lt_of_lt_of_le hg hW.size)
  rw [canon_aa, rows_aa] at h
  exact calls_cast (by simp) h
theorem lit_isY {w : World} {g n : Nat} {C : Array Value} {l : List Int} {e : TypeId} {fr : Nat × Nat} (hn : n = l.length) (hC : C = (l.map (Value.int .u8)).toArray) (hb : Byt l) (h : w.heap[g]? = some (.cells C e fr)) : IsY w (.slice (some ⟨g, 0, none⟩) n n) l := by
  subst hn
  subst hC
  refine ⟨hb, fun p n c e h => by (cases e; cases h), some ⟨g, 0, none⟩, l.length, rfl, Nat.le_refl _, fun j x hx => ⟨g, 0, rfl, ?_⟩⟩
  rw [Nat.zero_add]
  simp only [World.cell?, h]
  rw [List.getElem?_toArray, List.getElem?_map, hx]; rfl
theorem byt_of {l : List Int} (h : (l.all fun z => decide (0 ≤ z) && decide (z < 256)) = true) : Byt l := fun z hz => by
  have := List.all_eq_true.1 h z hz
  rwa [Bool.and_eq_true, decide_eq_true_iff, decide_eq_true_iff] at this
theorem op_nil (w : World) (k : Int) : IsOp w (.agg #[.int .i64 k, .slice none 0 0, .slice none 0 0]) k [] [] := ⟨_, _, rfl, IsY.nil w, IsY.nil w⟩
def blankC : BitVec 256 := BitVec.ofNat 256 (2 ^ 32)
theorem trim_blank : TrimIs (fun z => mem blankC z.toNat) [32, 32, 97, 32, 98, 32] 2 5 where
  ft := by omega
  tl := by simp
  lo := fun j hj x hx => by
    match j, hj, hx with
    | 0, _, hx => (simp at hx; subst hx; show mem blankC (Int.toNat 32) = true; kernel_rfl)
    | 1, _, hx => (simp at hx; subst hx; show mem blankC (Int.toNat 32) = true; kernel_rfl)
  lo1 := fun x hx => by (simp at hx; subst hx; show mem blankC (Int.toNat 97) = false; kernel_rfl)
  hi := fun j hj x hx => by
    match j, hj, hx with
    | 5, _, hx => (simp at hx; subst hx; show mem blankC (Int.toNat 32) = true; kernel_rfl)
  hi1 := fun _ x hx => by (simp at hx; subst hx; show mem blankC (Int.toNat 98) = false; kernel_rfl)
set_option maxRecDepth 100000 in
set_option maxHeartbeats 8000000 in
theorem sanity8_any (w : World) (hM : MaxOk w) (hT : TabAt 0 Lib.deBruijn64tab w) (hg : 0 < w.heap.size) :
    Calls Tryz.prog 12 #[] w fun e w' => e = .returned (.bool true) ∧ Below w.heap.size w w' := by
  have hcv := fun (w : World) (C : Array Value) (n c g : Nat) (hg : g = w.heap.size) => Go.Joins.run_convert_bytes_const_at (P := Tryz.prog) w 22 5 C n c g hg Tryz.underlying22 Tryz.underlying5
  have HM := Lib.hid (fun W (hW : Below w.heap.size w W) => hM.grows hW hM.lt)
  have HT := Lib.hid (fun W (hW : Below w.heap.size w W) => tab_below hT hW hg)
  have HG := Lib.hid (fun W (hW : Below w.heap.size w W) => Nat.lt_of_lt_of_le hg hW.size)
  clear hM hT hg
  go_enter Tryz.func12, Tryz.ntmps12
  go_wp2_with fail
  have hb1 : Below w.heap.size w (w.alloc (.cells #[.int .u8 53, .int .u8 37, .int .u8 52] 5 (3, 4))) := by go_grown
  have hy1 := lit_isY (l := [53, 37, 52]) (n := 3) rfl rfl (byt_of rfl) (World.alloc_heap_new w (.cells #[.int .u8 53, .int .u8 37, .int .u8 52] 5 (3, 4)))
  generalize (w.alloc (.cells #[.int .u8 53, .int .u8 37, .int .u8 52] 5 (3, 4))) = w1 at hb1 hy1 ⊢
  have hdo := do_any _ _ 3 [] [] [53, 37, 52] w1 (op_nil w1 3) hy1 (by simp) (by simp) (by simp) (HM.out w1 hb1)
  rw [show doI 3 [] [] [53, 37, 52] = none by kernel_rfl] at hdo
  refine hdo.mono ?_
  rintro e w2 ⟨u2, rfl, -, hb2⟩
  have Hb2 := Lib.hid (hb1.trans (hb2.mono hb1.size))
  clear hb1 hy1 hdo hb2
  simp only [Option.isSome_none]
  go_wp2_with fail
  have hb3 : Below w.heap.size w ((w2.alloc (.cells #[.int .u8 97, .int .u8 97] 5 (2, 3))).alloc (.cells #[.int .u8 98] 5 (1, 2))) := (Hb2.out.alloc Hb2.out.size _).alloc (by have := Hb2.out.size; simp; omega) _
  have hy3 := (lit_isY (l := [97, 97]) (n := 2) rfl rfl (byt_of rfl) (World.alloc_heap_new w2 (.cells #[.int .u8 97, .int .u8 97] 5 (2, 3)))).grows (w' := (w2.alloc (.cells #[.int .u8 97, .int .u8 97] 5 (2, 3))).alloc (.cells #[.int .u8 98] 5 (1, 2))) ((Below.refl _ _).alloc (Nat.le_refl _) _)
  have hy4 := lit_isY (l := [98]) (n := 1) rfl rfl (byt_of rfl) (World.alloc_heap_new (w2.alloc (.cells #[.int .u8 97, .int .u8 97] 5 (2, 3))) (.cells #[.int .u8 98] 5 (1, 2)))
  rw [World.size_alloc] at hy4
  generalize ((w2.alloc (.cells #[.int .u8 97, .int .u8 97] 5 (2, 3))).alloc (.cells #[.int .u8 98] 5 (1, 2))) = w3 at hb3 hy3 hy4 ⊢
  refine (mach_aa _ w3 ⟨_, _, rfl, hy3, hy4⟩ (HT.out w3 hb3) (HG.out w3 hb3)).mono ?_
  rintro e w4 ⟨u4, rfl, hTr, hb4⟩
  have Hb4 := Lib.hid (hb3.trans (hb4.mono hb3.size))
  obtain ⟨q1, n1, k1, q2, n2, k2, q3, n3, k3, q4, n4, k4, rfl⟩ := hTr.shape
  have HTr := Lib.hid hTr.isT
  clear hb3 hy3 hy4 hTr hb4
  go_wp2_with fail
  have hb5 : Below w4.heap.size w4 ((w4.alloc (.cells #[.slice q1 n1 k1, .slice q2 n2 k2, .slice q3 n3 k3, .slice q4 n4 k4] 43)).alloc (.cells #[.int .u8 97, .int .u8 97, .int .u8 97, .int .u8 97, .int .u8 97] 5 (5, 6))) := by go_grown
  have hy5 := lit_isY (l := [97, 97, 97, 97, 97]) (n := 5) rfl rfl (byt_of rfl) (World.alloc_heap_new (w4.alloc (.cells #[.slice q1 n1 k1, .slice q2 n2 k2, .slice q3 n3 k3, .slice q4 n4 k4] 43)) (.cells #[.int .u8 97, .int .u8 97, .int .u8 97, .int .u8 97, .int .u8 97] 5 (5, 6)))
  rw [World.size_alloc] at hy5
  have hT5 := HTr.out.grows hb5
  have hb05 := Hb4.out.trans (hb5.mono Hb4.out.size)
  generalize ((w4.alloc (.cells #[.slice q1 n1 k1, .slice q2 n2 k2, .slice q3 n3 k3, .slice q4 n4 k4] 43)).alloc (.cells #[.int .u8 97, .int .u8 97, .int .u8 97, .int .u8 97, .int .u8 97] 5 (5, 6))) = w5 at hy5 hT5 hb05 ⊢
  have hrun := run_any _ _ [cA, cB] rowsA [true, true] [[], [97]] [97, 97, 97, 97, 97] w5 hT5 hy5 okT_aa runT_aa (by simp [rowsA]) (by simp)
  rw [out_aa] at hrun
  refine hrun.mono ?_
  rintro e w6 ⟨u6, rfl, hy6, hb6⟩
  have Hb6 := Lib.hid (hb05.trans (hb6.mono hb05.size))
  clear hb5 hy5 hT5 hb05 hrun hb6 HTr
  simp only [Option.isSome_some]
  have hb7 : Below w6.heap.size w6 (w6.alloc (.cells #[.int .u64 4294967296, .int .u64 0, .int .u64 0, .int .u64 0] 27)) := by go_grown
  have hy6' : IsY w6 u6 [98, 98, 97] := hy6
  have hst := isY_str (hy6'.grows hb7)
  clear hy6'
  have HC7 := Lib.hid (Blk.new w6 #[.int .u64 4294967296, .int .u64 0, .int .u64 0, .int .u64 0] 27)
  have Hb7 := Lib.hid (Hb6.out.trans (hb7.mono Hb6.out.size))
  have heq1 : (strOfNums [98, 98, 97]).toList = [98, 98, 97] := by kernel_rfl
  clear hb7 hy6
  go_wp2_with fail
  generalize (w6.alloc (.cells #[.int .u64 4294967296, .int .u64 0, .int .u64 0, .int .u64 0] 27)) = x0 at HC7 Hb7 ⊢
  have hc1 := HC7.out
  have hb1' := Hb7.out
  have hd1 := does_any _ 1 [] [] ⟨#[97, 66, 45, 90]⟩ ⟨#[97, 98, 45, 122]⟩ x0 (op_nil _ 1) (by simp) (by simp) (by decide) (HM.out _ hb1')
  rw [show doesB 1 [] [] ⟨#[97, 66, 45, 90]⟩ ⟨#[97, 98, 45, 122]⟩ = true by kernel_rfl] at hd1
  refine hd1.mono ?_
  rintro e x1 ⟨rfl, hbz1⟩
  have HB1 := Lib.hid (hb1'.trans (hbz1.mono hb1'.size))
  have HC1 := Lib.hid (hc1.grows hbz1)
  clear hd1 hbz1 hc1 hb1' Hb7 HC7
  clear hst heq1
  go_wp2_with fail
  have hc2 := HC1.out
  have hb2' := HB1.out
  have hd2 := does_any _ 3 [] [] ⟨#[97, 37, 52, 49, 37, 50, 102]⟩ ⟨#[97, 65, 47]⟩ x1 (op_nil _ 3) (by simp) (by simp) (by decide) (HM.out _ hb2')
  rw [show doesB 3 [] [] ⟨#[97, 37, 52, 49, 37, 50, 102]⟩ ⟨#[97, 65, 47]⟩ = true by kernel_rfl] at hd2
  refine hd2.mono ?_
  rintro e x2 ⟨rfl, hbz2⟩
  have HB2 := Lib.hid (hb2'.trans (hbz2.mono hb2'.size))
  have HC2 := Lib.hid (hc2.grows hbz2)
  clear hd2 hbz2 hc2 hb2' HB1 HC1
  go_wp2_with fail
  have hc3 := HC2.out
  have hb3' := HB2.out
  have hd3 := does_any _ 4 [] [] ⟨#[37, 52, 37, 52, 49]⟩ ⟨#[37, 52, 65]⟩ x2 (op_nil _ 4) (by simp) (by simp) (by decide) (HM.out _ hb3')
  rw [show doesB 4 [] [] ⟨#[37, 52, 37, 52, 49]⟩ ⟨#[37, 52, 65]⟩ = true by kernel_rfl] at hd3
  refine hd3.mono ?_
  rintro e x3 ⟨rfl, hbz3⟩
  have HB3 := Lib.hid (hb3'.trans (hbz3.mono hb3'.size))
  have HC3 := Lib.hid (hc3.grows hbz3)
  clear hd3 hbz3 hc3 hb3' HB2 HC2
  go_wp2_with fail
  have hbl4 : Below x3.heap.size x3 ((x3.alloc (.cells #[.int .u8 97, .int .u8 97] 5 (2, 3))).alloc (.cells #[.int .u8 98] 5 (1, 2))) := by go_grown
  have hya4 := (lit_isY (l := [97, 97]) (n := 2) rfl rfl (byt_of rfl) (World.alloc_heap_new x3 (.cells #[.int .u8 97, .int .u8 97] 5 (2, 3)))).grows (w' := ((x3.alloc (.cells #[.int .u8 97, .int .u8 97] 5 (2, 3))).alloc (.cells #[.int .u8 98] 5 (1, 2)))) ((Below.refl _ _).alloc (Nat.le_refl _) _)
  have hyb4 := lit_isY (l := [98]) (n := 1) rfl rfl (byt_of rfl) (World.alloc_heap_new (x3.alloc (.cells #[.int .u8 97, .int .u8 97] 5 (2, 3))) (.cells #[.int .u8 98] 5 (1, 2)))
  rw [World.size_alloc] at hyb4
  have hc4 := HC3.out.grows hbl4
  have hb4' := HB3.out.trans (hbl4.mono HB3.out.size)
  clear hbl4
  generalize ((x3.alloc (.cells #[.int .u8 97, .int .u8 97] 5 (2, 3))).alloc (.cells #[.int .u8 98] 5 (1, 2))) = v4 at hya4 hc4 hb4' hyb4 ⊢
  have hd4 := does_any _ 5 [97, 97] [98] ⟨#[97, 97, 97, 97]⟩ ⟨#[98, 97, 97]⟩ v4 ⟨_, _, rfl, hya4, hyb4⟩ (by simp) (by simp) (by decide) (HM.out _ hb4')
  rw [show doesB 5 [97, 97] [98] ⟨#[97, 97, 97, 97]⟩ ⟨#[98, 97, 97]⟩ = true by kernel_rfl] at hd4
  refine hd4.mono ?_
  rintro e x4 ⟨rfl, hbz4⟩
  have HB4 := Lib.hid (hb4'.trans (hbz4.mono hb4'.size))
  have HC4 := Lib.hid (hc4.grows hbz4)
  clear hd4 hbz4 hc4 hb4' hya4 hyb4 HB3 HC3
  go_wp2_with fail
  have hbl5 : Below x4.heap.size x4 (x4.alloc (.cells #[.int .u8 120, .int .u8 121] 5 (2, 3))) := by go_grown
  have hya5 := lit_isY (l := [120, 121]) (n := 2) rfl rfl (byt_of rfl) (World.alloc_heap_new x4 (.cells #[.int .u8 120, .int .u8 121] 5 (2, 3)))
  have hc5 := HC4.out.grows hbl5
  have hb5' := HB4.out.trans (hbl5.mono HB4.out.size)
  clear hbl5
  generalize (x4.alloc (.cells #[.int .u8 120, .int .u8 121] 5 (2, 3))) = v5 at hya5 hc5 hb5' ⊢
  have hd5 := does_any _ 7 [120, 121] [] ⟨#[97, 120, 98, 121, 120]⟩ ⟨#[97, 98]⟩ v5 ⟨_, _, rfl, hya5, IsY.nil _⟩ (by simp) (by simp) (by decide) (HM.out _ hb5')
  rw [show doesB 7 [120, 121] [] ⟨#[97, 120, 98, 121, 120]⟩ ⟨#[97, 98]⟩ = true by kernel_rfl] at hd5
  refine hd5.mono ?_
  rintro e x5 ⟨rfl, hbz5⟩
  have HB5 := Lib.hid (hb5'.trans (hbz5.mono hb5'.size))
  have HC5 := Lib.hid (hc5.grows hbz5)
  clear hd5 hbz5 hc5 hb5' hya5 HB4 HC4
  go_wp2_with fail
  have hbl6 : Below x5.heap.size x5 (x5.alloc (.cells #[.int .u8 47] 5 (1, 2))) := by go_grown
  have hya6 := lit_isY (l := [47]) (n := 1) rfl rfl (byt_of rfl) (World.alloc_heap_new x5 (.cells #[.int .u8 47] 5 (1, 2)))
  have hc6 := HC5.out.grows hbl6
  have hb6' := HB5.out.trans (hbl6.mono HB5.out.size)
  clear hbl6
  generalize (x5.alloc (.cells #[.int .u8 47] 5 (1, 2))) = v6 at hya6 hc6 hb6' ⊢
  have hd6 := does_any _ 8 [47] [] ⟨#[97, 47, 47, 98, 47, 47, 47, 99, 47]⟩ ⟨#[97, 47, 98, 47, 99, 47]⟩ v6 ⟨_, _, rfl, hya6, IsY.nil _⟩ (by simp) (by simp) (by decide) (HM.out _ hb6')
  rw [show doesB 8 [47] [] ⟨#[97, 47, 47, 98, 47, 47, 47, 99, 47]⟩ ⟨#[97, 47, 98, 47, 99, 47]⟩ = true by kernel_rfl] at hd6
  refine hd6.mono ?_
  rintro e x6 ⟨rfl, hbz6⟩
  have HB6 := Lib.hid (hb6'.trans (hbz6.mono hb6'.size))
  have HC6 := Lib.hid (hc6.grows hbz6)
  clear hd6 hbz6 hc6 hb6' hya6 HB5 HC5
  obtain ⟨c0, c1, c2, c3, _, _, _, _⟩ := HC6.out.four
  have hbt : Below x6.heap.size x6 (x6.alloc (.cells #[.int .u8 32, .int .u8 32, .int .u8 97, .int .u8 32, .int .u8 98, .int .u8 32] 5 (6, 7))) := by go_grown
  have hyt := lit_isY (l := [32, 32, 97, 32, 98, 32]) (n := 6) rfl rfl (byt_of rfl) (World.alloc_heap_new x6 (.cells #[.int .u8 32, .int .u8 32, .int .u8 97, .int .u8 32, .int .u8 98, .int .u8 32] 5 (6, 7)))
  have hbT := HB6.out.trans (hbt.mono HB6.out.size)
  have hTr := trim_any _ blankC [32, 32, 97, 32, 98, 32] (x6.alloc (.cells #[.int .u8 32, .int .u8 32, .int .u8 97, .int .u8 32, .int .u8 98, .int .u8 32] 5 (6, 7))) hyt (by simp)
  have hCb : (.agg #[.int .u64 (wd blankC 0), .int .u64 (wd blankC 1), .int .u64 (wd blankC 2), .int .u64 (wd blankC 3)] : Value) = (.agg #[.int .u64 4294967296, .int .u64 0, .int .u64 0, .int .u64 0] : Value) := by kernel_rfl
  rw [hCb] at hTr
  clear hCb
  have HT2 := Lib.hid (And.intro hbT hTr)
  clear hbt hyt hbT hTr
  go_wp2_with fail
  refine HT2.out.2.mono ?_
  rintro e y ⟨f, t, r, ht, rfl, hy, hby⟩
  obtain ⟨rfl, rfl⟩ := ht.unique trim_blank
  have hy' : IsY y r [97, 32, 98] := hy
  have hst := isY_str hy'
  have eq2 : (strOfNums [97, 32, 98]).toList = [97, 32, 98] := by kernel_rfl
  have HB9 := Lib.hid (HT2.out.1.trans (hby.mono HT2.out.1.size))
  have HV := Lib.hid (pv_bad _ 9 [] [] y (op_nil y 9) (by omega))
  clear hy hy' hby ht HT2 c0 c1 c2 c3
  go_wp2_with fail
  refine HV.out.mono ?_
  rintro e y2 ⟨rfl, hb2⟩
  have HF := Lib.hid (HB9.out.trans (hb2.mono HB9.out.size))
  clear hb2 HB9 HV hst
  go_wp2
  go_ret
  exact ⟨rfl, HF.out⟩
end Go.Proofs.YtkhphiilnplgjaaGreatDoor

namespace Go.Proofs.YtkhphiilnplgjaaGreatDoor
open Go.RowKit Go.Lib

theorem low_low (z : Int) : lowI (lowI z) = lowI z := by unfold lowI; repeat (first | split | omega)
theorem up_up (z : Int) : upI (upI z) = upI z := by unfold upI; repeat (first | split | omega)
theorem low_up (z : Int) : lowI (upI z) = lowI z := by unfold lowI upI; repeat (first | split | omega)
theorem up_low (z : Int) : upI (lowI z) = upI z := by unfold lowI upI; repeat (first | split | omega)
theorem or_low {z : Int} (h : (97 ≤ z ∧ z ≤ 122) ∨ (65 ≤ z ∧ z ≤ 90)) : bits .or .u8 z 32 = lowI z := by
  have ha : ((List.range 256).all fun n => !(decide (97 ≤ n ∧ n ≤ 122) || decide (65 ≤ n ∧ n ≤ 90)) || decide (bits .or .u8 (n : Int) 32 = lowI (n : Int))) = true := by kernel_rfl
  have := List.all_eq_true.1 ha z.toNat (List.mem_range.2 (by omega))
  rw [Int.toNat_of_nonneg (by omega), Bool.or_eq_true, decide_eq_true_iff, Bool.not_eq_true', Bool.or_eq_false_iff, decide_eq_false_iff_not, decide_eq_false_iff_not] at this
  rcases this with ⟨h1, h2⟩ | h
  · omega
  · exact h
theorem andNot_up {z : Int} (h : (97 ≤ z ∧ z ≤ 122) ∨ (65 ≤ z ∧ z ≤ 90)) : bits .andNot .u8 z 32 = upI z := by
  have ha : ((List.range 256).all fun n => !(decide (97 ≤ n ∧ n ≤ 122) || decide (65 ≤ n ∧ n ≤ 90)) || decide (bits .andNot .u8 (n : Int) 32 = upI (n : Int))) = true := by kernel_rfl
  have := List.all_eq_true.1 ha z.toNat (List.mem_range.2 (by omega))
  rw [Int.toNat_of_nonneg (by omega), Bool.or_eq_true, decide_eq_true_iff, Bool.not_eq_true', Bool.or_eq_false_iff, decide_eq_false_iff_not, decide_eq_false_iff_not] at this
  rcases this with ⟨h1, h2⟩ | h
  · omega
  · exact h
theorem do_low (v : Value) (b : List Int) (w : World) (hv : IsY w v b) (hb : b.length ≤ 4294967280) (hM : MaxOk w) : Calls Tryz.prog 14 #[.agg #[.int .i64 1, .slice none 0 0, .slice none 0 0], v] w (DoRes w (some (b.map lowI))) := do_any _ v 1 [] [] b w (op_nil w 1) hv (by simp) (by simp) hb hM
theorem do_up (v : Value) (b : List Int) (w : World) (hv : IsY w v b) (hb : b.length ≤ 4294967280) (hM : MaxOk w) : Calls Tryz.prog 14 #[.agg #[.int .i64 2, .slice none 0 0, .slice none 0 0], v] w (DoRes w (some (b.map upI))) := do_any _ v 2 [] [] b w (op_nil w 2) hv (by simp) (by simp) hb hM
theorem IsY.len {w : World} {v : Value} {l : List Int} {n : Nat} (h : IsY w v l) (hn : l.length = n) : ∃ p c, v = .slice p n c := by
  obtain ⟨p, c, rfl, _⟩ := h.shape
  exact ⟨p, c, by rw [hn]⟩
set_option maxRecDepth 100000 in
set_option maxHeartbeats 8000000 in
theorem case_walk (v : Value) (b : List Int) (w : World) (hv : IsY w v b) (hb : b.length ≤ 4294967280) (hM : MaxOk w) (hT : TabAt 0 Lib.deBruijn64tab w) (hg : 0 < w.heap.size) :
    Calls Tryz.prog 6 #[v] w fun e w' => e = .returned (.bool true) ∧ Below w.heap.size w w' := by
  obtain ⟨pb, cb, rfl, _⟩ := hv.shape
  have HM := Lib.hid (fun W (hW : Below w.heap.size w W) => hM.grows hW hM.lt)
  have HV := Lib.hid (fun W (hW : Below w.heap.size w W) => hv.grows hW)
  have HS := Lib.hid (sanity8_any w hM hT hg)
  clear hv hM hT hg
  go_enter Tryz.func6, Tryz.ntmps6
  go_wp2_with fail
  refine HS.out.mono ?_
  rintro e w1 ⟨rfl, hb1⟩
  have Hb1 := Lib.hid hb1
  clear hb1 HS
  go_wp2_with fail
  have hbl : Below w.heap.size w ((w1.alloc (.cells #[.int .i64 1, .slice none 0 0, .slice none 0 0] 24)).alloc (.cells #[.int .i64 2, .slice none 0 0, .slice none 0 0] 24)) := (Hb1.out.alloc Hb1.out.size _).alloc (by have := Hb1.out.size; simp; omega) _
  have hL := (Blk.new w1 #[.int .i64 1, .slice none 0 0, .slice none 0 0] 24).alloc (.cells #[.int .i64 2, .slice none 0 0, .slice none 0 0] 24)
  have hU := Blk.alloc1 w1 #[.int .i64 1, .slice none 0 0, .slice none 0 0] #[.int .i64 2, .slice none 0 0, .slice none 0 0] 24 24
  generalize ((w1.alloc (.cells #[.int .i64 1, .slice none 0 0, .slice none 0 0] 24)).alloc (.cells #[.int .i64 2, .slice none 0 0, .slice none 0 0] 24)) = w2 at hbl hL hU ⊢
  generalize w1.heap.size = lb at hL hU ⊢
  refine (do_low _ b w2 (HV.out w2 hbl) hb (HM.out w2 hbl)).mono ?_
  rintro e w3 ⟨x, rfl, hx, hb3⟩
  have hx : IsY w3 x (b.map lowI) := hx
  obtain ⟨px, cx, rfl⟩ := hx.len (n := b.length) (List.length_map _)
  have hbl3 := hbl.trans (hb3.mono hbl.size)
  have hL3 := hL.grows hb3
  have hU3 := hU.grows hb3
  obtain ⟨u0, u1, u2⟩ := (⟨hU3.cell 0 rfl, hU3.cell 1 rfl, hU3.cell 2 rfl⟩ : _ ∧ _ ∧ _)
  clear hbl hL hU hb3
  go_wp2_with fail
  refine (do_up _ b w3 (HV.out w3 hbl3) hb (HM.out w3 hbl3)).mono ?_
  rintro e w4 ⟨y, rfl, hy, hb4⟩
  have hy : IsY w4 y (b.map upI) := hy
  obtain ⟨py, cy, rfl⟩ := hy.len (n := b.length) (List.length_map _)
  have Hx4 := Lib.hid (hx.grows hb4)
  have Hy4 := Lib.hid hy
  have hbl4 := hbl3.trans (hb4.mono hbl3.size)
  have HL4 := Lib.hid (hL3.grows hb4)
  have HU4 := Lib.hid (hU3.grows hb4)
  have Hb4 := Lib.hid hbl4
  have HV4 := Lib.hid (HV.out w4 hbl4)
  clear hx hy hbl3 hbl4 hb4 hL3 hU3 u0 u1 u2
  simp only [Option.isSome_some]
  go_wp2_with fail
  go_loopw [10] (fun iv wr => ∃ i : Nat, iv = .int .i64 (i : Int) ∧ i ≤ b.length ∧ Below w4.heap.size w4 wr) (fun iv _ => b.length - (RowKit.intOf iv).toNat)
  case atStart => exact ⟨0, rfl, Nat.zero_le _, Below.refl _ _⟩
  case round =>
    obtain ⟨i, rfl, hi, hbr⟩ := hrel
    by_cases hlt : i < b.length
    · obtain ⟨z, hz⟩ := get_of_lt hlt
      have hzb := HV4.out.byt.at hz
      obtain ⟨b0, o0, rfl, x0⟩ := (HV4.out.grows hbr).at hz
      obtain ⟨b1, o1, rfl, x1⟩ := (Hx4.out.grows hbr).at (j := i) (x := lowI z) (by rw [List.getElem?_map, hz]; rfl)
      obtain ⟨b2, o2, rfl, x2⟩ := (Hy4.out.grows hbr).at (j := i) (x := upI z) (by rw [List.getElem?_map, hz]; rfl)
      clear hz
      have hcase : (97 ≤ z ∧ z ≤ 122) ∨ (97 ≤ z ∧ 122 < z) ∨ (z < 97 ∧ 65 ≤ z ∧ z ≤ 90) ∨ (z < 97 ∧ 65 ≤ z ∧ 90 < z) ∨ (z < 65) := by omega
      rcases hcase with hcase | hcase | hcase | hcase | hcase
      · have d1 : decide (z ≥ 97) = true := by first | (rw [decide_eq_true_iff]; omega) | (rw [decide_eq_false_iff_not]; omega)
        have d2 : decide (z ≤ 122) = true := by first | (rw [decide_eq_true_iff]; omega) | (rw [decide_eq_false_iff_not]; omega)
        have hor := or_low (z := z) (by omega)
        have han := andNot_up (z := z) (by omega)
        clear hcase
        go_wp2
        go_quiet (fail)
        go_wp2
        go_roundw
        case rel => exact ⟨i + 1, by go_num, by omega, below_drews hbr _⟩
        case measure => simp [RowKit.intOf]; omega
      · have d1 : decide (z ≥ 97) = true := by first | (rw [decide_eq_true_iff]; omega) | (rw [decide_eq_false_iff_not]; omega)
        have d2 : decide (z ≤ 122) = false := by first | (rw [decide_eq_true_iff]; omega) | (rw [decide_eq_false_iff_not]; omega)
        have d3 : decide (z ≥ 65) = true := by first | (rw [decide_eq_true_iff]; omega) | (rw [decide_eq_false_iff_not]; omega)
        have d4 : decide (z ≤ 90) = false := by first | (rw [decide_eq_true_iff]; omega) | (rw [decide_eq_false_iff_not]; omega)
        rw [show lowI z = z by unfold lowI; rw [if_neg (by omega)]] at x1
        rw [show upI z = z by unfold upI; rw [if_neg (by omega)]] at x2
        clear hcase
        go_wp2
        go_quiet (fail)
        go_wp2
        go_roundw
        case rel => exact ⟨i + 1, by go_num, by omega, below_drews hbr _⟩
        case measure => simp [RowKit.intOf]; omega
      · have d1 : decide (z ≥ 97) = false := by first | (rw [decide_eq_true_iff]; omega) | (rw [decide_eq_false_iff_not]; omega)
        have d3 : decide (z ≥ 65) = true := by first | (rw [decide_eq_true_iff]; omega) | (rw [decide_eq_false_iff_not]; omega)
        have d4 : decide (z ≤ 90) = true := by first | (rw [decide_eq_true_iff]; omega) | (rw [decide_eq_false_iff_not]; omega)
        have hor := or_low (z := z) (by omega)
        have han := andNot_up (z := z) (by omega)
        clear hcase
        go_wp2
        go_quiet (fail)
        go_wp2
        go_roundw
        case rel => exact ⟨i + 1, by go_num, by omega, below_drews hbr _⟩
        case measure => simp [RowKit.intOf]; omega
      · have d1 : decide (z ≥ 97) = false := by first | (rw [decide_eq_true_iff]; omega) | (rw [decide_eq_false_iff_not]; omega)
        have d3 : decide (z ≥ 65) = true := by first | (rw [decide_eq_true_iff]; omega) | (rw [decide_eq_false_iff_not]; omega)
        have d4 : decide (z ≤ 90) = false := by first | (rw [decide_eq_true_iff]; omega) | (rw [decide_eq_false_iff_not]; omega)
        rw [show lowI z = z by unfold lowI; rw [if_neg (by omega)]] at x1
        rw [show upI z = z by unfold upI; rw [if_neg (by omega)]] at x2
        clear hcase
        go_wp2
        go_quiet (fail)
        go_wp2
        go_roundw
        case rel => exact ⟨i + 1, by go_num, by omega, below_drews hbr _⟩
        case measure => simp [RowKit.intOf]; omega
      · have d1 : decide (z ≥ 97) = false := by first | (rw [decide_eq_true_iff]; omega) | (rw [decide_eq_false_iff_not]; omega)
        have d3 : decide (z ≥ 65) = false := by first | (rw [decide_eq_true_iff]; omega) | (rw [decide_eq_false_iff_not]; omega)
        rw [show lowI z = z by unfold lowI; rw [if_neg (by omega)]] at x1
        rw [show upI z = z by unfold upI; rw [if_neg (by omega)]] at x2
        clear hcase
        go_wp2
        go_quiet (fail)
        go_wp2
        go_roundw
        case rel => exact ⟨i + 1, by go_num, by omega, below_drews hbr _⟩
        case measure => simp [RowKit.intOf]; omega
    · obtain rfl : i = b.length := by omega
      have Hx0 := Lib.hid (Hx4.out.grows hbr)
      have Hy0 := Lib.hid (Hy4.out.grows hbr)
      have HL0 := Lib.hid (HL4.out.grows hbr)
      have HU0 := Lib.hid (HU4.out.grows hbr)
      have Hb0 := Lib.hid (Hb4.out.trans (hbr.mono Hb4.out.size))
      clear hbr Hx4 Hy4 HL4 HU4 Hb4 HV4
      obtain ⟨c0, c1, c2⟩ := (⟨HL0.out.cell 0 rfl, HL0.out.cell 1 rfl, HL0.out.cell 2 rfl⟩ : _ ∧ _ ∧ _)
      go_wp2_with fail
      clear c0 c1 c2
      refine (do_low _ (b.map lowI) wr Hx0.out (by rw [List.length_map]; exact hb) (HM.out wr Hb0.out)).mono ?_
      rintro e v1 ⟨r1, rfl, hr1, hbv1⟩
      have Hr1n1 : Hid (IsY v1 r1 (b.map lowI)) := Lib.hid (by have h9 : IsY v1 r1 ((b.map lowI).map lowI) := hr1; rw [List.map_map] at h9; rwa [show lowI ∘ lowI = lowI from funext fun z => low_low z] at h9)
      have Hx1 := Lib.hid (Hx0.out.grows hbv1)
      have Hy1 := Lib.hid (Hy0.out.grows hbv1)
      have HL1 := Lib.hid (HL0.out.grows hbv1)
      have HU1 := Lib.hid (HU0.out.grows hbv1)
      have Hb1 := Lib.hid (Hb0.out.trans (hbv1.mono Hb0.out.size))
      clear hr1 hbv1 Hx0 Hy0 HL0 HU0 Hb0
      simp only [Option.isSome_some]
      obtain ⟨c0, c1, c2⟩ := (⟨HU1.out.cell 0 rfl, HU1.out.cell 1 rfl, HU1.out.cell 2 rfl⟩ : _ ∧ _ ∧ _)
      go_wp2_with fail
      clear c0 c1 c2
      refine (do_up _ (b.map upI) v1 Hy1.out (by rw [List.length_map]; exact hb) (HM.out v1 Hb1.out)).mono ?_
      rintro e v2 ⟨r2, rfl, hr2, hbv2⟩
      have Hr2n2 : Hid (IsY v2 r2 (b.map upI)) := Lib.hid (by have h9 : IsY v2 r2 ((b.map upI).map upI) := hr2; rw [List.map_map] at h9; rwa [show upI ∘ upI = upI from funext fun z => up_up z] at h9)
      have Hx2 := Lib.hid (Hx1.out.grows hbv2)
      have Hy2 := Lib.hid (Hy1.out.grows hbv2)
      have HL2 := Lib.hid (HL1.out.grows hbv2)
      have HU2 := Lib.hid (HU1.out.grows hbv2)
      have Hb2 := Lib.hid (Hb1.out.trans (hbv2.mono Hb1.out.size))
      have Hr1n2 := Lib.hid (Hr1n1.out.grows hbv2)
      clear hr2 hbv2 Hx1 Hy1 HL1 HU1 Hb1 Hr1n1
      simp only [Option.isSome_some]
      obtain ⟨c0, c1, c2⟩ := (⟨HL2.out.cell 0 rfl, HL2.out.cell 1 rfl, HL2.out.cell 2 rfl⟩ : _ ∧ _ ∧ _)
      go_wp2_with fail
      clear c0 c1 c2
      refine (do_low _ (b.map upI) v2 Hy2.out (by rw [List.length_map]; exact hb) (HM.out v2 Hb2.out)).mono ?_
      rintro e v3 ⟨r3, rfl, hr3, hbv3⟩
      have Hr3n3 : Hid (IsY v3 r3 (b.map lowI)) := Lib.hid (by have h9 : IsY v3 r3 ((b.map upI).map lowI) := hr3; rw [List.map_map] at h9; rwa [show lowI ∘ upI = lowI from funext fun z => low_up z] at h9)
      have Hx3 := Lib.hid (Hx2.out.grows hbv3)
      have Hy3 := Lib.hid (Hy2.out.grows hbv3)
      have HL3 := Lib.hid (HL2.out.grows hbv3)
      have HU3 := Lib.hid (HU2.out.grows hbv3)
      have Hb3 := Lib.hid (Hb2.out.trans (hbv3.mono Hb2.out.size))
      have Hr1n3 := Lib.hid (Hr1n2.out.grows hbv3)
      have Hr2n3 := Lib.hid (Hr2n2.out.grows hbv3)
      clear hr3 hbv3 Hx2 Hy2 HL2 HU2 Hb2 Hr1n2 Hr2n2
      simp only [Option.isSome_some]
      obtain ⟨c0, c1, c2⟩ := (⟨HU3.out.cell 0 rfl, HU3.out.cell 1 rfl, HU3.out.cell 2 rfl⟩ : _ ∧ _ ∧ _)
      go_wp2_with fail
      clear c0 c1 c2
      refine (do_up _ (b.map lowI) v3 Hx3.out (by rw [List.length_map]; exact hb) (HM.out v3 Hb3.out)).mono ?_
      rintro e v4 ⟨r4, rfl, hr4, hbv4⟩
      have Hr4n4 : Hid (IsY v4 r4 (b.map upI)) := Lib.hid (by have h9 : IsY v4 r4 ((b.map lowI).map upI) := hr4; rw [List.map_map] at h9; rwa [show upI ∘ lowI = upI from funext fun z => up_low z] at h9)
      have Hx4 := Lib.hid (Hx3.out.grows hbv4)
      have Hy4 := Lib.hid (Hy3.out.grows hbv4)
      have HL4 := Lib.hid (HL3.out.grows hbv4)
      have HU4 := Lib.hid (HU3.out.grows hbv4)
      have Hb4 := Lib.hid (Hb3.out.trans (hbv4.mono Hb3.out.size))
      have Hr1n4 := Lib.hid (Hr1n3.out.grows hbv4)
      have Hr2n4 := Lib.hid (Hr2n3.out.grows hbv4)
      have Hr3n4 := Lib.hid (Hr3n3.out.grows hbv4)
      clear hr4 hbv4 Hx3 Hy3 HL3 HU3 Hb3 Hr1n3 Hr2n3 Hr3n3
      simp only [Option.isSome_some]
      have heq : ∀ l : List Int, eqY l l = true := fun l => eqY_iff.2 rfl
      go_wp2_with fail
      refine (same_any _ _ (b.map lowI) (b.map lowI) v4 Hr1n4.out Hx4.out).mono ?_
      rintro e z1 ⟨rfl, rfl⟩
      rw [heq]
      go_wp2_with fail
      refine (same_any _ _ (b.map upI) (b.map upI) _ Hr2n4.out Hy4.out).mono ?_
      rintro e z2 ⟨rfl, rfl⟩
      rw [heq]
      go_wp2_with fail
      refine (same_any _ _ (b.map lowI) (b.map lowI) _ Hr3n4.out Hx4.out).mono ?_
      rintro e z3 ⟨rfl, rfl⟩
      rw [heq]
      go_wp2_with fail
      refine (same_any _ _ (b.map upI) (b.map upI) _ Hr4n4.out Hy4.out).mono ?_
      rintro e z4 ⟨rfl, rfl⟩
      rw [heq]
      go_wp2
      go_ret
      exact ⟨rfl, Hb4.out⟩
end Go.Proofs.YtkhphiilnplgjaaGreatDoor

namespace Go.Proofs.YtkhphiilnplgjaaGreatDoor
open Go.RowKit Go.Lib

/-- the kind that is made. -/
def mkK (k : Int) : Int := 1 + k % 8
def orA (l : List Int) : List Int := if l = [] then [97] else l
def mkOld (k : Int) (old : List Int) : List Int := if mkK k = 5 ∨ mkK k = 6 then (orA old).take 4 else if mkK k = 7 then (orA old).take 8 else if mkK k = 8 then (orA old).take 1 else []
def mkNew (k : Int) (new : List Int) : List Int := if mkK k = 5 ∨ mkK k = 6 then new.take 4 else []
theorem orA_len (l : List Int) : 1 ≤ (orA l).length := by
  unfold orA; split
  · simp
  · rename_i h; have := List.length_pos_iff.2 h; omega
theorem mk_val (k : Int) (old new : List Int) : valI (mkK k) (mkOld k old) (mkNew k new) = true := by
  have h0 : 1 ≤ mkK k ∧ mkK k ≤ 8 := by unfold mkK; omega
  have hl := orA_len old
  unfold mkOld mkNew
  have hc : (mkK k = 1 ∨ mkK k = 2 ∨ mkK k = 3 ∨ mkK k = 4) ∨ (mkK k = 5 ∨ mkK k = 6) ∨ mkK k = 7 ∨ mkK k = 8 := by omega
  rcases hc with h | h | h | h
  · rw [valI_1 _ _ _ h, if_neg (by omega), if_neg (by omega), if_neg (by omega), if_neg (by omega)]; rfl
  · rw [valI_5 _ _ _ h, if_pos h, if_pos h, decide_eq_true_iff]
    simp only [List.length_take]; omega
  · rw [if_neg (by omega), if_pos h, if_neg (by omega), h, valI_7, decide_eq_true_iff]
    simp only [List.length_take, List.length_nil]; exact ⟨by omega, by omega, trivial⟩
  · rw [if_neg (by omega), if_neg (by omega), if_pos h, if_neg (by omega), h, valI_8, decide_eq_true_iff]
    simp only [List.length_take, List.length_nil]; exact ⟨by omega, trivial⟩
theorem mk_rem (k : Int) : IntKind.i64.wrap ((IntKind.u64.wrap k).tmod 8) = k % 8 := by
  have h1 : IntKind.u64.wrap k = k % 18446744073709551616 := by simp [IntKind.wrap, IntKind.signed, IntKind.bits]
  rw [h1, Int.tmod_eq_emod_of_nonneg (by omega), IntWalk.i64_in _ (by omega)]
  omega
theorem results_made (tmps : Array Value) (w : World) (g : Nat) (cs : Array Value) (hp : tmps.getD 2 undef = .pointer (some ⟨g, 0, none⟩)) (hg : Blk w g cs 24) (hs : cs.size = 3) :
    (results Tryz.f13 tmps).run Tryz.prog w = .ok (.agg cs) w := by
  have hn : (Tryz.prog.info? 24).map (·.size) = some 3 := by kernel_rfl
  exact results_cell_row (p := 2) (ty := 24) rfl tmps w g _ cs (0, 0) _ hp hg.is Tryz.underlying24 rfl (by rw [hn, hs])
theorem IsY.far {w : World} {v : Value} {l : List Int} (h : IsY w v l) {b i : Nat} {u : Value} (hb : ∀ a n c, v = .slice (some a) n c → b ≠ a.block) : IsY (w.setCell ⟨b, i, none⟩ u) v l := by
  obtain ⟨p, cap, rfl, h1, h2⟩ := h.is
  refine ⟨h.byt, h.nl, p, cap, rfl, h1, fun j x hx => ?_⟩
  obtain ⟨b', o, rfl, hc⟩ := h2 j x hx
  exact ⟨b', o, rfl, (World.cell?_setCell_far _ _ _ _ (hb _ _ _ rfl)).trans hc⟩
set_option maxRecDepth 100000 in
set_option maxHeartbeats 8000000 in
theorem made_full (v : Value) (k : Int) (old new : List Int) (w : World) (hv : IsOp w v k old new) (ho : old.length ≤ 140737488351232) (hn : new.length ≤ 140737488351232) (hne : old ≠ []) :
    Calls Tryz.prog 13 #[v] w fun e w' => ∃ u, e = .returned u ∧ IsOp w' u (mkK k) (mkOld k old) (mkNew k new) ∧ Below w.heap.size w w' := by
  obtain ⟨po, co, pn, cn, rfl, h1, h2, c1, c2⟩ := hv.shape
  have e0 := mk_rem k
  have e1 : IntKind.i64.wrap (1 + k % 8) = mkK k := IntWalk.i64_in _ (by omega)
  have HO := Lib.hid (fun W (hW : Below w.heap.size w W) => h1.grows hW)
  have HN := Lib.hid (fun W (hW : Below w.heap.size w W) => h2.grows hW)
  have HKd := Lib.hid (show (1 ≤ mkK k ∧ mkK k ≤ 4) ∨ mkK k = 5 ∨ mkK k = 6 ∨ mkK k = 7 ∨ mkK k = 8 by unfold mkK; omega)
  have HO' := Lib.hid (show mkOld k old = if mkK k = 5 ∨ mkK k = 6 then (orA old).take 4 else if mkK k = 7 then (orA old).take 8 else if mkK k = 8 then (orA old).take 1 else [] from rfl)
  have HN' := Lib.hid (show mkNew k new = if mkK k = 5 ∨ mkK k = 6 then new.take 4 else [] from rfl)
  generalize mkK k = K at e1 HKd HO' HN' ⊢
  generalize mkOld k old = OO at HO' ⊢
  generalize mkNew k new = NN at HN' ⊢
  clear hv h1 h2
  have hb3 : Below w.heap.size w (((w.alloc (.cells #[.int .i64 k, .slice po old.length co, .slice pn new.length cn] 24)).alloc (.cells #[.int .i64 0, .slice none 0 0, .slice none 0 0] 24)).alloc (.cells #[.int .i64 K, .slice none 0 0, .slice none 0 0] 24)) := by go_grown
  have D0 := (Blk.new w #[.int .i64 k, .slice po old.length co, .slice pn new.length cn] 24).alloc (.cells #[.int .i64 0, .slice none 0 0, .slice none 0 0] 24) |>.alloc (.cells #[.int .i64 K, .slice none 0 0, .slice none 0 0] 24)
  have D1 := (Blk.alloc1 w #[.int .i64 k, .slice po old.length co, .slice pn new.length cn] #[.int .i64 0, .slice none 0 0, .slice none 0 0] 24 24).alloc (.cells #[.int .i64 K, .slice none 0 0, .slice none 0 0] 24)
  have D2 := Blk.alloc1 (w.alloc (.cells #[.int .i64 k, .slice po old.length co, .slice pn new.length cn] 24)) #[.int .i64 0, .slice none 0 0, .slice none 0 0] #[.int .i64 K, .slice none 0 0, .slice none 0 0] 24 24
  rw [World.size_alloc] at D2
  go_enter Tryz.func13, Tryz.ntmps13
  go_wp2_with fail
  generalize (((w.alloc (.cells #[.int .i64 k, .slice po old.length co, .slice pn new.length cn] 24)).alloc (.cells #[.int .i64 0, .slice none 0 0, .slice none 0 0] 24)).alloc (.cells #[.int .i64 K, .slice none 0 0, .slice none 0 0] 24)) = w1 at D0 D1 D2 hb3 ⊢
  obtain ⟨gb, hgb⟩ : ∃ g, w.heap.size + 1 = g := ⟨_, rfl⟩
  obtain ⟨gc, hgc⟩ : ∃ g, gb + 1 = g := ⟨_, rfl⟩
  rw [hgb] at D1 D2
  simp only [hgb, hgc] at D1 D2 ⊢
  have hgl : w.heap.size < gb ∧ gb < gc := by omega
  clear hgb hgc
  refine (copy_own _ old w1 (HO.out w1 hb3) (by omega)).mono ?_
  rintro e w2 ⟨u2, rfl, hown, hb2⟩
  have D02 := D0.grows hb2
  have D12 := D1.grows hb2
  have D22 := D2.grows hb2
  have hgw : gc < w1.heap.size := D2.lt
  have HB2 := Lib.hid (below_two hb3 hb2)
  clear D0 D1 D2 hb3 hb2
  have HY := Lib.hid (own_isY (HO.out w (Below.refl _ _)).byt hown)
  rcases own_blk hown with ⟨-, h0⟩ | ⟨g, cap, cur, rfl, hg, hB, hcap, hm, hsz, htk⟩
  · exact absurd h0 hne
  have hz : ¬ ((old.length : Int) = 0) := by have := List.length_pos_iff.2 hne; omega
  have hor : orA old = old := if_neg hne
  rw [hor] at HO'
  obtain ⟨n1, hn1⟩ : ∃ n, old.length = n := ⟨_, rfl⟩
  obtain ⟨L, hL⟩ : ∃ L, old = L := ⟨_, rfl⟩
  have HL : Hid (L.length = n1) := Lib.hid (by rw [← hL]; exact hn1)
  have hn1' : 1 ≤ n1 := by omega
  rw [hL] at HO' HY
  rw [hn1] at hcap hz ho ⊢
  have HW := Lib.hid (show w2 = w2 from rfl)
  clear hown hB hm hsz htk hor hn1 hL HW
  have hnn : gb ≠ gc ∧ w.heap.size ≠ gc ∧ w.heap.size ≠ gb := by omega
  have b1 : w2.cell? ⟨w.heap.size, 1, none⟩ = some (.slice po old.length co) := D02.cell 1 rfl
  have b2 : w2.cell? ⟨w.heap.size, 2, none⟩ = some (.slice pn new.length cn) := D02.cell 2 rfl
  have x0 : w2.cell? ⟨gc, 0, none⟩ = some (.int .i64 K) := D22.cell 0 rfl
  have x1 : w2.cell? ⟨gc, 1, none⟩ = some (.slice none 0 0) := D22.cell 1 rfl
  have x2 : w2.cell? ⟨gc, 2, none⟩ = some (.slice none 0 0) := D22.cell 2 rfl
  have fx0 := D22.free 0
  have fx1 := D22.free 1
  have fx2 := D22.free 2
  have y0 : w2.cell? ⟨gb, 0, none⟩ = some (.int .i64 0) := D12.cell 0 rfl
  have y1 : w2.cell? ⟨gb, 1, none⟩ = some (.slice none 0 0) := D12.cell 1 rfl
  have y2 : w2.cell? ⟨gb, 2, none⟩ = some (.slice none 0 0) := D12.cell 2 rfl
  have fy0 := D12.free 0
  have fy1 := D12.free 1
  have fy2 := D12.free 2
  have HD0 := Lib.hid D02
  have HD1 := Lib.hid D12
  have HD2 := Lib.hid D22
  clear D02 D12 D22
  rcases HKd.out with hK | rfl | rfl | rfl | rfl
  · have HOn : Hid (OO = []) := Lib.hid (by rw [HO'.out, if_neg (by omega), if_neg (by omega), if_neg (by omega)])
    have HNn : Hid (NN = []) := Lib.hid (by rw [HN'.out, if_neg (by omega)])
    have hK4 : K = 1 ∨ K = 2 ∨ K = 3 ∨ K = 4 := by omega
    clear hK
    rcases hK4 with rfl | rfl | rfl | rfl
    all_goals
      go_wp2_with fail
      refine bodyPost_ret (results_made _ _ gb _ rfl (((HD1.out.set 0 _).set 1 _).set 2 _) rfl) rfl ⟨_, rfl, ?_, ?_⟩
      · rw [HOn.out, HNn.out]; exact ⟨_, _, rfl, IsY.nil _, IsY.nil _⟩
      · exact ((HB2.out.setCell (by show w.heap.size ≤ gb; omega) _).setCell (by show w.heap.size ≤ gb; omega) _).setCell (by show w.heap.size ≤ gb; omega) _
  · have HOn : Hid (OO = L.take 4) := Lib.hid (by rw [HO'.out, if_pos (by omega)])
    have HNn : Hid (NN = new.take 4) := Lib.hid (by rw [HN'.out, if_pos (by omega)])
    obtain ⟨q, hq⟩ : ∃ q, min n1 4 = q := ⟨_, rfl⟩
    obtain ⟨q2, hq2⟩ : ∃ q, min new.length 4 = q := ⟨_, rfl⟩
    have hmin : min (n1 : Int) 4 = (q : Int) := by omega
    have hmin2 : min (new.length : Int) 4 = (q2 : Int) := by omega
    have hql : q ≤ cap := by omega
    have HCp := Lib.hid (fun W (hW : Below w.heap.size w W) => copy_own (.slice pn q2 cn) (new.take 4) W (by have h := (HN.out W hW).take q2 (by omega); rwa [show new.take q2 = new.take 4 by rw [← hq2, List.take_eq_take_iff]; omega] at h) (by simp only [List.length_take]; omega))
    have hqn : q = n1 ∨ q = 4 ∧ 4 ≤ n1 := by omega
    clear hq hq2
    go_wp2_with fail
    have hbX := HB2.out.setCell (p := ⟨gc, 1, none⟩) (by show w.heap.size ≤ gc; omega) (.slice (some ⟨g, 0, none⟩) q cap)
    refine (HCp.out _ hbX).mono ?_
    rintro e w4 ⟨u4, rfl, hown4, hb4⟩
    have HX0 := Lib.hid ((HD0.out.other (by show w.heap.size ≠ gc; omega) (.slice (some ⟨g, 0, none⟩) q cap)).grows hb4)
    have HX1 := Lib.hid ((HD1.out.other (by show gb ≠ gc; omega) (.slice (some ⟨g, 0, none⟩) q cap)).grows hb4)
    have HX2 := Lib.hid ((HD2.out.set 1 (.slice (some ⟨g, 0, none⟩) q cap)).grows hb4)
    have HXY := Lib.hid ((IsY.far (b := gc) (i := 1) (u := .slice (some ⟨g, 0, none⟩) q cap) HY.out (fun a n c e => by cases e; show gc ≠ g; omega)).grows hb4)
    have HBX := Lib.hid (below_two hbX hb4)
    have hU4 := own_isY ((HN.out w (Below.refl _ _)).byt.take 4) hown4
    have hU5 : ∀ a n c, u4 = .slice (some a) n c → w2.heap.size ≤ a.block := by
      intro a n c e
      rcases own_blk hown4 with ⟨e2, -⟩ | ⟨g2, c2, cu2, e2, hg2, -⟩
      · rw [e2] at e; cases e
      · rw [e2] at e; cases e; simpa using hg2
    obtain ⟨p4, c4, rfl, hc4⟩ := hU4.shape
    obtain ⟨n4, hn4⟩ : ∃ n, (new.take 4).length = n := ⟨_, rfl⟩
    rw [hn4] at hU4 hU5 ⊢
    clear hc4 hn4
    have hw12 : gc < w2.heap.size := HD2.out.lt
    have HU4 := Lib.hid hU4
    have HU5 := Lib.hid hU5
    clear hU4 hU5
    have hXs : w2.heap.size ≤ w4.heap.size := by have := hb4.size; simpa using this
    have xx0 : w4.cell? ⟨gc, 0, none⟩ = some (.int .i64 5) := HX2.out.cell 0 rfl
    have xx1 : w4.cell? ⟨gc, 1, none⟩ = some (.slice (some ⟨g, 0, none⟩) q cap) := HX2.out.cell 1 rfl
    have xx2 : w4.cell? ⟨gc, 2, none⟩ = some (.slice none 0 0) := HX2.out.cell 2 rfl
    have fxx2 := HX2.out.free 2
    have yy0 : w4.cell? ⟨gb, 0, none⟩ = some (.int .i64 0) := HX1.out.cell 0 rfl
    have yy1 : w4.cell? ⟨gb, 1, none⟩ = some (.slice none 0 0) := HX1.out.cell 1 rfl
    have yy2 : w4.cell? ⟨gb, 2, none⟩ = some (.slice none 0 0) := HX1.out.cell 2 rfl
    have fyy0 := HX1.out.free 0
    have fyy1 := HX1.out.free 1
    have fyy2 := HX1.out.free 2
    clear b1 b2 x0 x1 x2 fx0 fx1 fx2 y0 y1 y2 fy0 fy1 fy2 hbX hb4 hown4
    go_wp2_with fail
    have hfo : ∀ a n c, Value.slice (some (⟨g, 0, none⟩ : Addr)) q cap = .slice (some a) n c → gb ≠ a.block ∧ gc ≠ a.block := fun a n c e => by cases e; exact ⟨by show gb ≠ g; omega, by show gc ≠ g; omega⟩
    have hfn : ∀ a n c, Value.slice p4 n4 c4 = .slice (some a) n c → gb ≠ a.block ∧ gc ≠ a.block := fun a n c e => by have := HU5.out a n c e; omega
    have hyo := HXY.out.take q (by rw [HL.out]; omega)
    refine bodyPost_ret (results_made _ _ gb _ rfl (Blk.set (Blk.set (Blk.set (Blk.other HX1.out (by show gb ≠ gc; omega) _) 0 _) 1 _) 2 _) rfl) rfl ⟨_, rfl, ?_, ?_⟩
    · rw [HOn.out, HNn.out]
      refine ⟨_, _, rfl, ?_, ?_⟩
      · rw [show L.take 4 = L.take q by rw [List.take_eq_take_iff, HL.out]; omega]
        exact IsY.far (IsY.far (IsY.far (IsY.far hyo (fun a n c e => (hfo a n c e).2)) (fun a n c e => (hfo a n c e).1)) (fun a n c e => (hfo a n c e).1)) (fun a n c e => (hfo a n c e).1)
      · exact IsY.far (IsY.far (IsY.far (IsY.far HU4.out (fun a n c e => (hfn a n c e).2)) (fun a n c e => (hfn a n c e).1)) (fun a n c e => (hfn a n c e).1)) (fun a n c e => (hfn a n c e).1)
    · exact (((HBX.out.setCell (by show w.heap.size ≤ gc; omega) _).setCell (by show w.heap.size ≤ gb; omega) _).setCell (by show w.heap.size ≤ gb; omega) _).setCell (by show w.heap.size ≤ gb; omega) _
  · have HOn : Hid (OO = L.take 4) := Lib.hid (by rw [HO'.out, if_pos (by omega)])
    have HNn : Hid (NN = new.take 4) := Lib.hid (by rw [HN'.out, if_pos (by omega)])
    obtain ⟨q, hq⟩ : ∃ q, min n1 4 = q := ⟨_, rfl⟩
    obtain ⟨q2, hq2⟩ : ∃ q, min new.length 4 = q := ⟨_, rfl⟩
    have hmin : min (n1 : Int) 4 = (q : Int) := by omega
    have hmin2 : min (new.length : Int) 4 = (q2 : Int) := by omega
    have hql : q ≤ cap := by omega
    have HCp := Lib.hid (fun W (hW : Below w.heap.size w W) => copy_own (.slice pn q2 cn) (new.take 4) W (by have h := (HN.out W hW).take q2 (by omega); rwa [show new.take q2 = new.take 4 by rw [← hq2, List.take_eq_take_iff]; omega] at h) (by simp only [List.length_take]; omega))
    have hqn : q = n1 ∨ q = 4 ∧ 4 ≤ n1 := by omega
    clear hq hq2
    go_wp2_with fail
    have hbX := HB2.out.setCell (p := ⟨gc, 1, none⟩) (by show w.heap.size ≤ gc; omega) (.slice (some ⟨g, 0, none⟩) q cap)
    refine (HCp.out _ hbX).mono ?_
    rintro e w4 ⟨u4, rfl, hown4, hb4⟩
    have HX0 := Lib.hid ((HD0.out.other (by show w.heap.size ≠ gc; omega) (.slice (some ⟨g, 0, none⟩) q cap)).grows hb4)
    have HX1 := Lib.hid ((HD1.out.other (by show gb ≠ gc; omega) (.slice (some ⟨g, 0, none⟩) q cap)).grows hb4)
    have HX2 := Lib.hid ((HD2.out.set 1 (.slice (some ⟨g, 0, none⟩) q cap)).grows hb4)
    have HXY := Lib.hid ((IsY.far (b := gc) (i := 1) (u := .slice (some ⟨g, 0, none⟩) q cap) HY.out (fun a n c e => by cases e; show gc ≠ g; omega)).grows hb4)
    have HBX := Lib.hid (below_two hbX hb4)
    have hU4 := own_isY ((HN.out w (Below.refl _ _)).byt.take 4) hown4
    have hU5 : ∀ a n c, u4 = .slice (some a) n c → w2.heap.size ≤ a.block := by
      intro a n c e
      rcases own_blk hown4 with ⟨e2, -⟩ | ⟨g2, c2, cu2, e2, hg2, -⟩
      · rw [e2] at e; cases e
      · rw [e2] at e; cases e; simpa using hg2
    obtain ⟨p4, c4, rfl, hc4⟩ := hU4.shape
    obtain ⟨n4, hn4⟩ : ∃ n, (new.take 4).length = n := ⟨_, rfl⟩
    rw [hn4] at hU4 hU5 ⊢
    clear hc4 hn4
    have hw12 : gc < w2.heap.size := HD2.out.lt
    have HU4 := Lib.hid hU4
    have HU5 := Lib.hid hU5
    clear hU4 hU5
    have hXs : w2.heap.size ≤ w4.heap.size := by have := hb4.size; simpa using this
    have xx0 : w4.cell? ⟨gc, 0, none⟩ = some (.int .i64 6) := HX2.out.cell 0 rfl
    have xx1 : w4.cell? ⟨gc, 1, none⟩ = some (.slice (some ⟨g, 0, none⟩) q cap) := HX2.out.cell 1 rfl
    have xx2 : w4.cell? ⟨gc, 2, none⟩ = some (.slice none 0 0) := HX2.out.cell 2 rfl
    have fxx2 := HX2.out.free 2
    have yy0 : w4.cell? ⟨gb, 0, none⟩ = some (.int .i64 0) := HX1.out.cell 0 rfl
    have yy1 : w4.cell? ⟨gb, 1, none⟩ = some (.slice none 0 0) := HX1.out.cell 1 rfl
    have yy2 : w4.cell? ⟨gb, 2, none⟩ = some (.slice none 0 0) := HX1.out.cell 2 rfl
    have fyy0 := HX1.out.free 0
    have fyy1 := HX1.out.free 1
    have fyy2 := HX1.out.free 2
    clear b1 b2 x0 x1 x2 fx0 fx1 fx2 y0 y1 y2 fy0 fy1 fy2 hbX hb4 hown4
    go_wp2_with fail
    have hfo : ∀ a n c, Value.slice (some (⟨g, 0, none⟩ : Addr)) q cap = .slice (some a) n c → gb ≠ a.block ∧ gc ≠ a.block := fun a n c e => by cases e; exact ⟨by show gb ≠ g; omega, by show gc ≠ g; omega⟩
    have hfn : ∀ a n c, Value.slice p4 n4 c4 = .slice (some a) n c → gb ≠ a.block ∧ gc ≠ a.block := fun a n c e => by have := HU5.out a n c e; omega
    have hyo := HXY.out.take q (by rw [HL.out]; omega)
    refine bodyPost_ret (results_made _ _ gb _ rfl (Blk.set (Blk.set (Blk.set (Blk.other HX1.out (by show gb ≠ gc; omega) _) 0 _) 1 _) 2 _) rfl) rfl ⟨_, rfl, ?_, ?_⟩
    · rw [HOn.out, HNn.out]
      refine ⟨_, _, rfl, ?_, ?_⟩
      · rw [show L.take 4 = L.take q by rw [List.take_eq_take_iff, HL.out]; omega]
        exact IsY.far (IsY.far (IsY.far (IsY.far hyo (fun a n c e => (hfo a n c e).2)) (fun a n c e => (hfo a n c e).1)) (fun a n c e => (hfo a n c e).1)) (fun a n c e => (hfo a n c e).1)
      · exact IsY.far (IsY.far (IsY.far (IsY.far HU4.out (fun a n c e => (hfn a n c e).2)) (fun a n c e => (hfn a n c e).1)) (fun a n c e => (hfn a n c e).1)) (fun a n c e => (hfn a n c e).1)
    · exact (((HBX.out.setCell (by show w.heap.size ≤ gc; omega) _).setCell (by show w.heap.size ≤ gb; omega) _).setCell (by show w.heap.size ≤ gb; omega) _).setCell (by show w.heap.size ≤ gb; omega) _
  · have HOn : Hid (OO = L.take 8) := Lib.hid (by rw [HO'.out, if_neg (by omega), if_pos rfl])
    have HNn : Hid (NN = []) := Lib.hid (by rw [HN'.out, if_neg (by omega)])
    obtain ⟨q, hq⟩ : ∃ q, min n1 8 = q := ⟨_, rfl⟩
    have hmin : min (n1 : Int) 8 = (q : Int) := by omega
    have hql : q ≤ cap := by omega
    have hqn : q = n1 ∨ q = 8 ∧ 8 ≤ n1 := by omega
    clear hq
    go_wp2_with fail
    have hfo : ∀ a n c, Value.slice (some (⟨g, 0, none⟩ : Addr)) q cap = .slice (some a) n c → gb ≠ a.block ∧ gc ≠ a.block := fun a n c e => by cases e; exact ⟨by show gb ≠ g; omega, by show gc ≠ g; omega⟩
    have hyo := HY.out.take q (by rw [HL.out]; omega)
    refine bodyPost_ret (results_made _ _ gb _ rfl (Blk.set (Blk.set (Blk.set (Blk.other HD1.out (by show gb ≠ gc; omega) _) 0 _) 1 _) 2 _) rfl) rfl ⟨_, rfl, ?_, ?_⟩
    · rw [HOn.out, HNn.out]
      refine ⟨_, _, rfl, ?_, IsY.nil _⟩
      rw [show L.take 8 = L.take q by rw [List.take_eq_take_iff, HL.out]; omega]
      exact IsY.far (IsY.far (IsY.far (IsY.far hyo (fun a n c e => (hfo a n c e).2)) (fun a n c e => (hfo a n c e).1)) (fun a n c e => (hfo a n c e).1)) (fun a n c e => (hfo a n c e).1)
    · exact (((HB2.out.setCell (by show w.heap.size ≤ gc; omega) _).setCell (by show w.heap.size ≤ gb; omega) _).setCell (by show w.heap.size ≤ gb; omega) _).setCell (by show w.heap.size ≤ gb; omega) _
  · have HOn : Hid (OO = L.take 1) := Lib.hid (by rw [HO'.out, if_neg (by omega), if_neg (by omega), if_pos rfl])
    have HNn : Hid (NN = []) := Lib.hid (by rw [HN'.out, if_neg (by omega)])
    have hql : (1 : Int) ≤ (cap : Int) := by omega
    go_wp2_with fail
    have hfo : ∀ a n c, Value.slice (some (⟨g, 0, none⟩ : Addr)) 1 cap = .slice (some a) n c → gb ≠ a.block ∧ gc ≠ a.block := fun a n c e => by cases e; exact ⟨by show gb ≠ g; omega, by show gc ≠ g; omega⟩
    have hyo := HY.out.take 1 (by rw [HL.out]; omega)
    refine bodyPost_ret (results_made _ _ gb _ rfl (Blk.set (Blk.set (Blk.set (Blk.other HD1.out (by show gb ≠ gc; omega) _) 0 _) 1 _) 2 _) rfl) rfl ⟨_, rfl, ?_, ?_⟩
    · rw [HOn.out, HNn.out]
      refine ⟨_, _, rfl, ?_, IsY.nil _⟩
      exact IsY.far (IsY.far (IsY.far (IsY.far hyo (fun a n c e => (hfo a n c e).2)) (fun a n c e => (hfo a n c e).1)) (fun a n c e => (hfo a n c e).1)) (fun a n c e => (hfo a n c e).1)
    · exact (((HB2.out.setCell (by show w.heap.size ≤ gc; omega) _).setCell (by show w.heap.size ≤ gb; omega) _).setCell (by show w.heap.size ≤ gb; omega) _).setCell (by show w.heap.size ≤ gb; omega) _
end Go.Proofs.YtkhphiilnplgjaaGreatDoor

namespace Go.Proofs.YtkhphiilnplgjaaGreatDoor
open Go.RowKit Go.Lib

set_option maxRecDepth 100000 in
set_option maxHeartbeats 8000000 in
theorem made_none (v : Value) (k : Int) (old new : List Int) (w : World) (hv : IsOp w v k old new) (ho : old.length ≤ 140737488351232) (hn : new.length ≤ 140737488351232) (hne : old = []) :
    Calls Tryz.prog 13 #[v] w fun e w' => ∃ u, e = .returned u ∧ IsOp w' u (mkK k) (mkOld k old) (mkNew k new) ∧ Below w.heap.size w w' := by
  obtain ⟨po, co, pn, cn, rfl, h1, h2, c1, c2⟩ := hv.shape
  have e0 := mk_rem k
  have e1 : IntKind.i64.wrap (1 + k % 8) = mkK k := IntWalk.i64_in _ (by omega)
  have HO := Lib.hid (fun W (hW : Below w.heap.size w W) => h1.grows hW)
  have HN := Lib.hid (fun W (hW : Below w.heap.size w W) => h2.grows hW)
  have HKd := Lib.hid (show (1 ≤ mkK k ∧ mkK k ≤ 4) ∨ mkK k = 5 ∨ mkK k = 6 ∨ mkK k = 7 ∨ mkK k = 8 by unfold mkK; omega)
  have HO' := Lib.hid (show mkOld k old = if mkK k = 5 ∨ mkK k = 6 then (orA old).take 4 else if mkK k = 7 then (orA old).take 8 else if mkK k = 8 then (orA old).take 1 else [] from rfl)
  have HN' := Lib.hid (show mkNew k new = if mkK k = 5 ∨ mkK k = 6 then new.take 4 else [] from rfl)
  generalize mkK k = K at e1 HKd HO' HN' ⊢
  generalize mkOld k old = OO at HO' ⊢
  generalize mkNew k new = NN at HN' ⊢
  clear hv h1 h2
  have HNE := Lib.hid hne
  clear hne
  have hb3 : Below w.heap.size w (((w.alloc (.cells #[.int .i64 k, .slice po old.length co, .slice pn new.length cn] 24)).alloc (.cells #[.int .i64 0, .slice none 0 0, .slice none 0 0] 24)).alloc (.cells #[.int .i64 K, .slice none 0 0, .slice none 0 0] 24)) := by go_grown
  have D0 := (Blk.new w #[.int .i64 k, .slice po old.length co, .slice pn new.length cn] 24).alloc (.cells #[.int .i64 0, .slice none 0 0, .slice none 0 0] 24) |>.alloc (.cells #[.int .i64 K, .slice none 0 0, .slice none 0 0] 24)
  have D1 := (Blk.alloc1 w #[.int .i64 k, .slice po old.length co, .slice pn new.length cn] #[.int .i64 0, .slice none 0 0, .slice none 0 0] 24 24).alloc (.cells #[.int .i64 K, .slice none 0 0, .slice none 0 0] 24)
  have D2 := Blk.alloc1 (w.alloc (.cells #[.int .i64 k, .slice po old.length co, .slice pn new.length cn] 24)) #[.int .i64 0, .slice none 0 0, .slice none 0 0] #[.int .i64 K, .slice none 0 0, .slice none 0 0] 24 24
  rw [World.size_alloc] at D2
  go_enter Tryz.func13, Tryz.ntmps13
  go_wp2_with fail
  generalize (((w.alloc (.cells #[.int .i64 k, .slice po old.length co, .slice pn new.length cn] 24)).alloc (.cells #[.int .i64 0, .slice none 0 0, .slice none 0 0] 24)).alloc (.cells #[.int .i64 K, .slice none 0 0, .slice none 0 0] 24)) = w1 at D0 D1 D2 hb3 ⊢
  obtain ⟨gb, hgb⟩ : ∃ g, w.heap.size + 1 = g := ⟨_, rfl⟩
  obtain ⟨gc, hgc⟩ : ∃ g, gb + 1 = g := ⟨_, rfl⟩
  rw [hgb] at D1 D2
  simp only [hgb, hgc] at D1 D2 ⊢
  have hgl : w.heap.size < gb ∧ gb < gc := by omega
  clear hgb hgc
  refine (copy_own _ old w1 (HO.out w1 hb3) (by omega)).mono ?_
  rintro e w2 ⟨u2, rfl, hown, hb2⟩
  have D02 := D0.grows hb2
  have D12 := D1.grows hb2
  have D22 := D2.grows hb2
  have hgw : gc < w1.heap.size := D2.lt
  have HB2 := Lib.hid (below_two hb3 hb2)
  have HL : Hid (([97] : List Int).length = 1) := Lib.hid rfl
  have hne := HNE.out
  subst hne
  clear HNE
  have hor : orA [] = [97] := rfl
  rw [hor] at HO'
  have hz : ((([] : List Int).length : Nat) : Int) = 0 := rfl
  have hcg : ∀ kk, u2.ownBlock = some kk → w1.heap.size ≤ kk := fun kk h => own_ge hown kk h
  have HA := Lib.hid (And.intro hown (And.intro hcg hb2))
  clear hown hcg hb2
  have hp2 := (own_isY (l := []) (by intro z hz; cases hz) HA.out.1).shape
  obtain ⟨p2, c2', rfl, hc2⟩ := hp2
  have HF : Hid (∀ u9 w9, Grew (w2.alloc (.cells #[.int .u8 97] 5)) w1.heap.size (.slice p2 0 c2') [] [97] u9 w9 → ∃ g cap, u9 = .slice (some ⟨g, 0, none⟩) 1 cap ∧ 1 ≤ cap ∧ w1.heap.size ≤ g ∧ IsY w9 (.slice (some ⟨g, 0, none⟩) ([97] : List Int).length cap) [97] ∧ Below w.heap.size w w9 ∧
      Blk w9 w.heap.size #[.int .i64 k, .slice po 0 co, .slice pn new.length cn] 24 ∧ Blk w9 gb #[.int .i64 0, .slice none 0 0, .slice none 0 0] 24 ∧ Blk w9 gc #[.int .i64 K, .slice none 0 0, .slice none 0 0] 24 ∧ w2.heap.size ≤ w9.heap.size) := Lib.hid (by
    intro u9 w9 G9
    have hb9 : Below w1.heap.size w1 w9 := (HA.out.2.2.alloc HA.out.2.2.size _).grown G9.grown (by have := HA.out.2.2.size; simp; omega) (fun k e => HA.out.2.1 k e)
    rcases own_blk (l := [97]) G9.own with ⟨-, h0⟩ | ⟨g, cap, cur, rfl, hg, hB, hcap, hm, hsz, htk⟩
    · cases h0
    · exact ⟨g, cap, rfl, hcap, hg, own_isY (byt_of rfl) G9.own, below_two hb3 hb9, D0.grows hb9, D1.grows hb9, D2.grows hb9, by have := G9.grown.size; simp at this; omega⟩)
  have HOW : Hid ((w2.alloc (.cells #[.int .u8 97] 5)).ownsRow w1.heap.size 5 1 (.slice p2 0 c2') ([] : List Int).length (([] : List Int).map (Value.int .u8))) := Lib.hid (own_alloc HA.out.1 _)
  have HLY : Hid (IsY (w2.alloc (.cells #[.int .u8 97] 5)) (.slice (some ⟨w2.heap.size, 0, none⟩) ([97] : List Int).length 1) [97]) := Lib.hid (lit_isY (l := [97]) (n := 1) rfl rfl (byt_of rfl) (World.alloc_heap_new w2 (.cells #[.int .u8 97] 5)))
  have HBB : Hid (w1.heap.size ≤ (w2.alloc (.cells #[.int .u8 97] 5)).heap.size) := Lib.hid (by have := HA.out.2.2.size; simp; omega)
  clear D02 D12 D22 D0 D1 D2 hb3 HA
  simp only [List.length_nil]
  have hnn : gb ≠ gc ∧ w.heap.size ≠ gc ∧ w.heap.size ≠ gb := by omega
  rcases HKd.out with hK | rfl | rfl | rfl | rfl
  · have HOn : Hid (OO = []) := Lib.hid (by rw [HO'.out, if_neg (by omega), if_neg (by omega), if_neg (by omega)])
    have HNn : Hid (NN = []) := Lib.hid (by rw [HN'.out, if_neg (by omega)])
    have hK4 : K = 1 ∨ K = 2 ∨ K = 3 ∨ K = 4 := by omega
    clear hK
    rcases hK4 with rfl | rfl | rfl | rfl
    · first | (go_wp2_with (at_builtin; refine app_list rfl _ _ rfl rfl w1.heap.size (.slice p2 0 c2') [] [97] (some ⟨w2.heap.size, 0, none⟩) 1 rfl rfl HOW.out HLY.out (by decide) HBB.out ?_; intro u9 w9 G9; obtain ⟨g, cap, rfl, hcap, hg, hY9, hB9, hD0, hD1, hD2, hww⟩ := HF.out u9 w9 G9; have b1 : w9.cell? ⟨w.heap.size, 1, none⟩ = some (.slice po 0 co) := hD0.cell 1 rfl; have b2 : w9.cell? ⟨w.heap.size, 2, none⟩ = some (.slice pn new.length cn) := hD0.cell 2 rfl; have x0 : w9.cell? ⟨gc, 0, none⟩ = some (.int .i64 1) := hD2.cell 0 rfl; have x1 : w9.cell? ⟨gc, 1, none⟩ = some (.slice none 0 0) := hD2.cell 1 rfl; have x2 : w9.cell? ⟨gc, 2, none⟩ = some (.slice none 0 0) := hD2.cell 2 rfl; have fx0 := hD2.free 0; have fx1 := hD2.free 1; have fx2 := hD2.free 2; have y0 : w9.cell? ⟨gb, 0, none⟩ = some (.int .i64 0) := hD1.cell 0 rfl; have y1 : w9.cell? ⟨gb, 1, none⟩ = some (.slice none 0 0) := hD1.cell 1 rfl; have y2 : w9.cell? ⟨gb, 2, none⟩ = some (.slice none 0 0) := hD1.cell 2 rfl; have fy0 := hD1.free 0; have fy1 := hD1.free 1; have fy2 := hD1.free 2; have HY := Lib.hid hY9; have HB9 := Lib.hid hB9; have HD0 := Lib.hid hD0; have HD1 := Lib.hid hD1; have HD2 := Lib.hid hD2; clear hY9 hB9 hD0 hD1 hD2 G9)) | fail
      refine bodyPost_ret (results_made _ _ gb _ rfl (((HD1.out.set 0 _).set 1 _).set 2 _) rfl) rfl ⟨_, rfl, ?_, ?_⟩
      · rw [HOn.out, HNn.out]; exact ⟨_, _, rfl, IsY.nil _, IsY.nil _⟩
      · exact ((HB9.out.setCell (by show w.heap.size ≤ gb; omega) _).setCell (by show w.heap.size ≤ gb; omega) _).setCell (by show w.heap.size ≤ gb; omega) _
    · first | (go_wp2_with (at_builtin; refine app_list rfl _ _ rfl rfl w1.heap.size (.slice p2 0 c2') [] [97] (some ⟨w2.heap.size, 0, none⟩) 1 rfl rfl HOW.out HLY.out (by decide) HBB.out ?_; intro u9 w9 G9; obtain ⟨g, cap, rfl, hcap, hg, hY9, hB9, hD0, hD1, hD2, hww⟩ := HF.out u9 w9 G9; have b1 : w9.cell? ⟨w.heap.size, 1, none⟩ = some (.slice po 0 co) := hD0.cell 1 rfl; have b2 : w9.cell? ⟨w.heap.size, 2, none⟩ = some (.slice pn new.length cn) := hD0.cell 2 rfl; have x0 : w9.cell? ⟨gc, 0, none⟩ = some (.int .i64 2) := hD2.cell 0 rfl; have x1 : w9.cell? ⟨gc, 1, none⟩ = some (.slice none 0 0) := hD2.cell 1 rfl; have x2 : w9.cell? ⟨gc, 2, none⟩ = some (.slice none 0 0) := hD2.cell 2 rfl; have fx0 := hD2.free 0; have fx1 := hD2.free 1; have fx2 := hD2.free 2; have y0 : w9.cell? ⟨gb, 0, none⟩ = some (.int .i64 0) := hD1.cell 0 rfl; have y1 : w9.cell? ⟨gb, 1, none⟩ = some (.slice none 0 0) := hD1.cell 1 rfl; have y2 : w9.cell? ⟨gb, 2, none⟩ = some (.slice none 0 0) := hD1.cell 2 rfl; have fy0 := hD1.free 0; have fy1 := hD1.free 1; have fy2 := hD1.free 2; have HY := Lib.hid hY9; have HB9 := Lib.hid hB9; have HD0 := Lib.hid hD0; have HD1 := Lib.hid hD1; have HD2 := Lib.hid hD2; clear hY9 hB9 hD0 hD1 hD2 G9)) | fail
      refine bodyPost_ret (results_made _ _ gb _ rfl (((HD1.out.set 0 _).set 1 _).set 2 _) rfl) rfl ⟨_, rfl, ?_, ?_⟩
      · rw [HOn.out, HNn.out]; exact ⟨_, _, rfl, IsY.nil _, IsY.nil _⟩
      · exact ((HB9.out.setCell (by show w.heap.size ≤ gb; omega) _).setCell (by show w.heap.size ≤ gb; omega) _).setCell (by show w.heap.size ≤ gb; omega) _
    · first | (go_wp2_with (at_builtin; refine app_list rfl _ _ rfl rfl w1.heap.size (.slice p2 0 c2') [] [97] (some ⟨w2.heap.size, 0, none⟩) 1 rfl rfl HOW.out HLY.out (by decide) HBB.out ?_; intro u9 w9 G9; obtain ⟨g, cap, rfl, hcap, hg, hY9, hB9, hD0, hD1, hD2, hww⟩ := HF.out u9 w9 G9; have b1 : w9.cell? ⟨w.heap.size, 1, none⟩ = some (.slice po 0 co) := hD0.cell 1 rfl; have b2 : w9.cell? ⟨w.heap.size, 2, none⟩ = some (.slice pn new.length cn) := hD0.cell 2 rfl; have x0 : w9.cell? ⟨gc, 0, none⟩ = some (.int .i64 3) := hD2.cell 0 rfl; have x1 : w9.cell? ⟨gc, 1, none⟩ = some (.slice none 0 0) := hD2.cell 1 rfl; have x2 : w9.cell? ⟨gc, 2, none⟩ = some (.slice none 0 0) := hD2.cell 2 rfl; have fx0 := hD2.free 0; have fx1 := hD2.free 1; have fx2 := hD2.free 2; have y0 : w9.cell? ⟨gb, 0, none⟩ = some (.int .i64 0) := hD1.cell 0 rfl; have y1 : w9.cell? ⟨gb, 1, none⟩ = some (.slice none 0 0) := hD1.cell 1 rfl; have y2 : w9.cell? ⟨gb, 2, none⟩ = some (.slice none 0 0) := hD1.cell 2 rfl; have fy0 := hD1.free 0; have fy1 := hD1.free 1; have fy2 := hD1.free 2; have HY := Lib.hid hY9; have HB9 := Lib.hid hB9; have HD0 := Lib.hid hD0; have HD1 := Lib.hid hD1; have HD2 := Lib.hid hD2; clear hY9 hB9 hD0 hD1 hD2 G9)) | fail
      refine bodyPost_ret (results_made _ _ gb _ rfl (((HD1.out.set 0 _).set 1 _).set 2 _) rfl) rfl ⟨_, rfl, ?_, ?_⟩
      · rw [HOn.out, HNn.out]; exact ⟨_, _, rfl, IsY.nil _, IsY.nil _⟩
      · exact ((HB9.out.setCell (by show w.heap.size ≤ gb; omega) _).setCell (by show w.heap.size ≤ gb; omega) _).setCell (by show w.heap.size ≤ gb; omega) _
    · first | (go_wp2_with (at_builtin; refine app_list rfl _ _ rfl rfl w1.heap.size (.slice p2 0 c2') [] [97] (some ⟨w2.heap.size, 0, none⟩) 1 rfl rfl HOW.out HLY.out (by decide) HBB.out ?_; intro u9 w9 G9; obtain ⟨g, cap, rfl, hcap, hg, hY9, hB9, hD0, hD1, hD2, hww⟩ := HF.out u9 w9 G9; have b1 : w9.cell? ⟨w.heap.size, 1, none⟩ = some (.slice po 0 co) := hD0.cell 1 rfl; have b2 : w9.cell? ⟨w.heap.size, 2, none⟩ = some (.slice pn new.length cn) := hD0.cell 2 rfl; have x0 : w9.cell? ⟨gc, 0, none⟩ = some (.int .i64 4) := hD2.cell 0 rfl; have x1 : w9.cell? ⟨gc, 1, none⟩ = some (.slice none 0 0) := hD2.cell 1 rfl; have x2 : w9.cell? ⟨gc, 2, none⟩ = some (.slice none 0 0) := hD2.cell 2 rfl; have fx0 := hD2.free 0; have fx1 := hD2.free 1; have fx2 := hD2.free 2; have y0 : w9.cell? ⟨gb, 0, none⟩ = some (.int .i64 0) := hD1.cell 0 rfl; have y1 : w9.cell? ⟨gb, 1, none⟩ = some (.slice none 0 0) := hD1.cell 1 rfl; have y2 : w9.cell? ⟨gb, 2, none⟩ = some (.slice none 0 0) := hD1.cell 2 rfl; have fy0 := hD1.free 0; have fy1 := hD1.free 1; have fy2 := hD1.free 2; have HY := Lib.hid hY9; have HB9 := Lib.hid hB9; have HD0 := Lib.hid hD0; have HD1 := Lib.hid hD1; have HD2 := Lib.hid hD2; clear hY9 hB9 hD0 hD1 hD2 G9)) | fail
      refine bodyPost_ret (results_made _ _ gb _ rfl (((HD1.out.set 0 _).set 1 _).set 2 _) rfl) rfl ⟨_, rfl, ?_, ?_⟩
      · rw [HOn.out, HNn.out]; exact ⟨_, _, rfl, IsY.nil _, IsY.nil _⟩
      · exact ((HB9.out.setCell (by show w.heap.size ≤ gb; omega) _).setCell (by show w.heap.size ≤ gb; omega) _).setCell (by show w.heap.size ≤ gb; omega) _
  · have HOn : Hid (OO = ([97] : List Int).take 4) := Lib.hid (by rw [HO'.out, if_pos (by omega)])
    have HNn : Hid (NN = new.take 4) := Lib.hid (by rw [HN'.out, if_pos (by omega)])
    obtain ⟨q, hq⟩ : ∃ q, min 1 4 = q := ⟨_, rfl⟩
    obtain ⟨q2, hq2⟩ : ∃ q, min new.length 4 = q := ⟨_, rfl⟩
    have hmin : min (1 : Int) 4 = (q : Int) := by omega
    have hmin2 : min (new.length : Int) 4 = (q2 : Int) := by omega
    have HCp := Lib.hid (fun W (hW : Below w.heap.size w W) => copy_own (.slice pn q2 cn) (new.take 4) W (by have h := (HN.out W hW).take q2 (by omega); rwa [show new.take q2 = new.take 4 by rw [← hq2, List.take_eq_take_iff]; omega] at h) (by simp only [List.length_take]; omega))
    have hqn : q = 1 ∨ q = 4 ∧ 4 ≤ 1 := by omega
    clear hq hq2
    go_wp2_with (at_builtin; refine app_list rfl _ _ rfl rfl w1.heap.size (.slice p2 0 c2') [] [97] (some ⟨w2.heap.size, 0, none⟩) 1 rfl rfl HOW.out HLY.out (by decide) HBB.out ?_; intro u9 w9 G9; obtain ⟨g, cap, rfl, hcap, hg, hY9, hB9, hD0, hD1, hD2, hww⟩ := HF.out u9 w9 G9; have b1 : w9.cell? ⟨w.heap.size, 1, none⟩ = some (.slice po 0 co) := hD0.cell 1 rfl; have b2 : w9.cell? ⟨w.heap.size, 2, none⟩ = some (.slice pn new.length cn) := hD0.cell 2 rfl; have x0 : w9.cell? ⟨gc, 0, none⟩ = some (.int .i64 5) := hD2.cell 0 rfl; have x1 : w9.cell? ⟨gc, 1, none⟩ = some (.slice none 0 0) := hD2.cell 1 rfl; have x2 : w9.cell? ⟨gc, 2, none⟩ = some (.slice none 0 0) := hD2.cell 2 rfl; have fx0 := hD2.free 0; have fx1 := hD2.free 1; have fx2 := hD2.free 2; have y0 : w9.cell? ⟨gb, 0, none⟩ = some (.int .i64 0) := hD1.cell 0 rfl; have y1 : w9.cell? ⟨gb, 1, none⟩ = some (.slice none 0 0) := hD1.cell 1 rfl; have y2 : w9.cell? ⟨gb, 2, none⟩ = some (.slice none 0 0) := hD1.cell 2 rfl; have fy0 := hD1.free 0; have fy1 := hD1.free 1; have fy2 := hD1.free 2; have HY := Lib.hid hY9; have HB9 := Lib.hid hB9; have HD0 := Lib.hid hD0; have HD1 := Lib.hid hD1; have HD2 := Lib.hid hD2; clear hY9 hB9 hD0 hD1 hD2 G9; have hql : q ≤ cap := by omega)
    have hbX := HB9.out.setCell (p := ⟨gc, 1, none⟩) (by show w.heap.size ≤ gc; omega) (.slice (some ⟨g, 0, none⟩) q cap)
    refine (HCp.out _ hbX).mono ?_
    rintro e w4 ⟨u4, rfl, hown4, hb4⟩
    have HX0 := Lib.hid ((HD0.out.other (by show w.heap.size ≠ gc; omega) (.slice (some ⟨g, 0, none⟩) q cap)).grows hb4)
    have HX1 := Lib.hid ((HD1.out.other (by show gb ≠ gc; omega) (.slice (some ⟨g, 0, none⟩) q cap)).grows hb4)
    have HX2 := Lib.hid ((HD2.out.set 1 (.slice (some ⟨g, 0, none⟩) q cap)).grows hb4)
    have HXY := Lib.hid ((IsY.far (b := gc) (i := 1) (u := .slice (some ⟨g, 0, none⟩) q cap) HY.out (fun a n c e => by cases e; show gc ≠ g; omega)).grows hb4)
    have HBX := Lib.hid (below_two hbX hb4)
    have hU4 := own_isY ((HN.out w (Below.refl _ _)).byt.take 4) hown4
    have hU5 : ∀ a n c, u4 = .slice (some a) n c → w9.heap.size ≤ a.block := by
      intro a n c e
      rcases own_blk hown4 with ⟨e2, -⟩ | ⟨g2, c2, cu2, e2, hg2, -⟩
      · rw [e2] at e; cases e
      · rw [e2] at e; cases e; simpa using hg2
    obtain ⟨p4, c4, rfl, hc4⟩ := hU4.shape
    obtain ⟨n4, hn4⟩ : ∃ n, (new.take 4).length = n := ⟨_, rfl⟩
    rw [hn4] at hU4 hU5 ⊢
    clear hc4 hn4
    have hw12 : gc < w9.heap.size := HD2.out.lt
    have HU4 := Lib.hid hU4
    have HU5 := Lib.hid hU5
    clear hU4 hU5
    have hXs : w9.heap.size ≤ w4.heap.size := by have := hb4.size; simpa using this
    have xx0 : w4.cell? ⟨gc, 0, none⟩ = some (.int .i64 5) := HX2.out.cell 0 rfl
    have xx1 : w4.cell? ⟨gc, 1, none⟩ = some (.slice (some ⟨g, 0, none⟩) q cap) := HX2.out.cell 1 rfl
    have xx2 : w4.cell? ⟨gc, 2, none⟩ = some (.slice none 0 0) := HX2.out.cell 2 rfl
    have fxx2 := HX2.out.free 2
    have yy0 : w4.cell? ⟨gb, 0, none⟩ = some (.int .i64 0) := HX1.out.cell 0 rfl
    have yy1 : w4.cell? ⟨gb, 1, none⟩ = some (.slice none 0 0) := HX1.out.cell 1 rfl
    have yy2 : w4.cell? ⟨gb, 2, none⟩ = some (.slice none 0 0) := HX1.out.cell 2 rfl
    have fyy0 := HX1.out.free 0
    have fyy1 := HX1.out.free 1
    have fyy2 := HX1.out.free 2
    clear b1 b2 x0 x1 x2 fx0 fx1 fx2 y0 y1 y2 fy0 fy1 fy2 hbX hb4 hown4
    go_wp2_with fail
    have hfo : ∀ a n c, Value.slice (some (⟨g, 0, none⟩ : Addr)) q cap = .slice (some a) n c → gb ≠ a.block ∧ gc ≠ a.block := fun a n c e => by cases e; exact ⟨by show gb ≠ g; omega, by show gc ≠ g; omega⟩
    have hfn : ∀ a n c, Value.slice p4 n4 c4 = .slice (some a) n c → gb ≠ a.block ∧ gc ≠ a.block := fun a n c e => by have := HU5.out a n c e; omega
    have hyo := HXY.out.take q (by rw [HL.out]; omega)
    refine bodyPost_ret (results_made _ _ gb _ rfl (Blk.set (Blk.set (Blk.set (Blk.other HX1.out (by show gb ≠ gc; omega) _) 0 _) 1 _) 2 _) rfl) rfl ⟨_, rfl, ?_, ?_⟩
    · rw [HOn.out, HNn.out]
      refine ⟨_, _, rfl, ?_, ?_⟩
      · rw [show ([97] : List Int).take 4 = ([97] : List Int).take q by rw [List.take_eq_take_iff, HL.out]; omega]
        exact IsY.far (IsY.far (IsY.far (IsY.far hyo (fun a n c e => (hfo a n c e).2)) (fun a n c e => (hfo a n c e).1)) (fun a n c e => (hfo a n c e).1)) (fun a n c e => (hfo a n c e).1)
      · exact IsY.far (IsY.far (IsY.far (IsY.far HU4.out (fun a n c e => (hfn a n c e).2)) (fun a n c e => (hfn a n c e).1)) (fun a n c e => (hfn a n c e).1)) (fun a n c e => (hfn a n c e).1)
    · exact (((HBX.out.setCell (by show w.heap.size ≤ gc; omega) _).setCell (by show w.heap.size ≤ gb; omega) _).setCell (by show w.heap.size ≤ gb; omega) _).setCell (by show w.heap.size ≤ gb; omega) _
  · have HOn : Hid (OO = ([97] : List Int).take 4) := Lib.hid (by rw [HO'.out, if_pos (by omega)])
    have HNn : Hid (NN = new.take 4) := Lib.hid (by rw [HN'.out, if_pos (by omega)])
    obtain ⟨q, hq⟩ : ∃ q, min 1 4 = q := ⟨_, rfl⟩
    obtain ⟨q2, hq2⟩ : ∃ q, min new.length 4 = q := ⟨_, rfl⟩
    have hmin : min (1 : Int) 4 = (q : Int) := by omega
    have hmin2 : min (new.length : Int) 4 = (q2 : Int) := by omega
    have HCp := Lib.hid (fun W (hW : Below w.heap.size w W) => copy_own (.slice pn q2 cn) (new.take 4) W (by have h := (HN.out W hW).take q2 (by omega); rwa [show new.take q2 = new.take 4 by rw [← hq2, List.take_eq_take_iff]; omega] at h) (by simp only [List.length_take]; omega))
    have hqn : q = 1 ∨ q = 4 ∧ 4 ≤ 1 := by omega
    clear hq hq2
    go_wp2_with (at_builtin; refine app_list rfl _ _ rfl rfl w1.heap.size (.slice p2 0 c2') [] [97] (some ⟨w2.heap.size, 0, none⟩) 1 rfl rfl HOW.out HLY.out (by decide) HBB.out ?_; intro u9 w9 G9; obtain ⟨g, cap, rfl, hcap, hg, hY9, hB9, hD0, hD1, hD2, hww⟩ := HF.out u9 w9 G9; have b1 : w9.cell? ⟨w.heap.size, 1, none⟩ = some (.slice po 0 co) := hD0.cell 1 rfl; have b2 : w9.cell? ⟨w.heap.size, 2, none⟩ = some (.slice pn new.length cn) := hD0.cell 2 rfl; have x0 : w9.cell? ⟨gc, 0, none⟩ = some (.int .i64 6) := hD2.cell 0 rfl; have x1 : w9.cell? ⟨gc, 1, none⟩ = some (.slice none 0 0) := hD2.cell 1 rfl; have x2 : w9.cell? ⟨gc, 2, none⟩ = some (.slice none 0 0) := hD2.cell 2 rfl; have fx0 := hD2.free 0; have fx1 := hD2.free 1; have fx2 := hD2.free 2; have y0 : w9.cell? ⟨gb, 0, none⟩ = some (.int .i64 0) := hD1.cell 0 rfl; have y1 : w9.cell? ⟨gb, 1, none⟩ = some (.slice none 0 0) := hD1.cell 1 rfl; have y2 : w9.cell? ⟨gb, 2, none⟩ = some (.slice none 0 0) := hD1.cell 2 rfl; have fy0 := hD1.free 0; have fy1 := hD1.free 1; have fy2 := hD1.free 2; have HY := Lib.hid hY9; have HB9 := Lib.hid hB9; have HD0 := Lib.hid hD0; have HD1 := Lib.hid hD1; have HD2 := Lib.hid hD2; clear hY9 hB9 hD0 hD1 hD2 G9; have hql : q ≤ cap := by omega)
    have hbX := HB9.out.setCell (p := ⟨gc, 1, none⟩) (by show w.heap.size ≤ gc; omega) (.slice (some ⟨g, 0, none⟩) q cap)
    refine (HCp.out _ hbX).mono ?_
    rintro e w4 ⟨u4, rfl, hown4, hb4⟩
    have HX0 := Lib.hid ((HD0.out.other (by show w.heap.size ≠ gc; omega) (.slice (some ⟨g, 0, none⟩) q cap)).grows hb4)
    have HX1 := Lib.hid ((HD1.out.other (by show gb ≠ gc; omega) (.slice (some ⟨g, 0, none⟩) q cap)).grows hb4)
    have HX2 := Lib.hid ((HD2.out.set 1 (.slice (some ⟨g, 0, none⟩) q cap)).grows hb4)
    have HXY := Lib.hid ((IsY.far (b := gc) (i := 1) (u := .slice (some ⟨g, 0, none⟩) q cap) HY.out (fun a n c e => by cases e; show gc ≠ g; omega)).grows hb4)
    have HBX := Lib.hid (below_two hbX hb4)
    have hU4 := own_isY ((HN.out w (Below.refl _ _)).byt.take 4) hown4
    have hU5 : ∀ a n c, u4 = .slice (some a) n c → w9.heap.size ≤ a.block := by
      intro a n c e
      rcases own_blk hown4 with ⟨e2, -⟩ | ⟨g2, c2, cu2, e2, hg2, -⟩
      · rw [e2] at e; cases e
      · rw [e2] at e; cases e; simpa using hg2
    obtain ⟨p4, c4, rfl, hc4⟩ := hU4.shape
    obtain ⟨n4, hn4⟩ : ∃ n, (new.take 4).length = n := ⟨_, rfl⟩
    rw [hn4] at hU4 hU5 ⊢
    clear hc4 hn4
    have hw12 : gc < w9.heap.size := HD2.out.lt
    have HU4 := Lib.hid hU4
    have HU5 := Lib.hid hU5
    clear hU4 hU5
    have hXs : w9.heap.size ≤ w4.heap.size := by have := hb4.size; simpa using this
    have xx0 : w4.cell? ⟨gc, 0, none⟩ = some (.int .i64 6) := HX2.out.cell 0 rfl
    have xx1 : w4.cell? ⟨gc, 1, none⟩ = some (.slice (some ⟨g, 0, none⟩) q cap) := HX2.out.cell 1 rfl
    have xx2 : w4.cell? ⟨gc, 2, none⟩ = some (.slice none 0 0) := HX2.out.cell 2 rfl
    have fxx2 := HX2.out.free 2
    have yy0 : w4.cell? ⟨gb, 0, none⟩ = some (.int .i64 0) := HX1.out.cell 0 rfl
    have yy1 : w4.cell? ⟨gb, 1, none⟩ = some (.slice none 0 0) := HX1.out.cell 1 rfl
    have yy2 : w4.cell? ⟨gb, 2, none⟩ = some (.slice none 0 0) := HX1.out.cell 2 rfl
    have fyy0 := HX1.out.free 0
    have fyy1 := HX1.out.free 1
    have fyy2 := HX1.out.free 2
    clear b1 b2 x0 x1 x2 fx0 fx1 fx2 y0 y1 y2 fy0 fy1 fy2 hbX hb4 hown4
    go_wp2_with fail
    have hfo : ∀ a n c, Value.slice (some (⟨g, 0, none⟩ : Addr)) q cap = .slice (some a) n c → gb ≠ a.block ∧ gc ≠ a.block := fun a n c e => by cases e; exact ⟨by show gb ≠ g; omega, by show gc ≠ g; omega⟩
    have hfn : ∀ a n c, Value.slice p4 n4 c4 = .slice (some a) n c → gb ≠ a.block ∧ gc ≠ a.block := fun a n c e => by have := HU5.out a n c e; omega
    have hyo := HXY.out.take q (by rw [HL.out]; omega)
    refine bodyPost_ret (results_made _ _ gb _ rfl (Blk.set (Blk.set (Blk.set (Blk.other HX1.out (by show gb ≠ gc; omega) _) 0 _) 1 _) 2 _) rfl) rfl ⟨_, rfl, ?_, ?_⟩
    · rw [HOn.out, HNn.out]
      refine ⟨_, _, rfl, ?_, ?_⟩
      · rw [show ([97] : List Int).take 4 = ([97] : List Int).take q by rw [List.take_eq_take_iff, HL.out]; omega]
        exact IsY.far (IsY.far (IsY.far (IsY.far hyo (fun a n c e => (hfo a n c e).2)) (fun a n c e => (hfo a n c e).1)) (fun a n c e => (hfo a n c e).1)) (fun a n c e => (hfo a n c e).1)
      · exact IsY.far (IsY.far (IsY.far (IsY.far HU4.out (fun a n c e => (hfn a n c e).2)) (fun a n c e => (hfn a n c e).1)) (fun a n c e => (hfn a n c e).1)) (fun a n c e => (hfn a n c e).1)
    · exact (((HBX.out.setCell (by show w.heap.size ≤ gc; omega) _).setCell (by show w.heap.size ≤ gb; omega) _).setCell (by show w.heap.size ≤ gb; omega) _).setCell (by show w.heap.size ≤ gb; omega) _
  · have HOn : Hid (OO = ([97] : List Int).take 8) := Lib.hid (by rw [HO'.out, if_neg (by omega), if_pos rfl])
    have HNn : Hid (NN = []) := Lib.hid (by rw [HN'.out, if_neg (by omega)])
    obtain ⟨q, hq⟩ : ∃ q, min 1 8 = q := ⟨_, rfl⟩
    have hmin : min (1 : Int) 8 = (q : Int) := by omega
    have hqn : q = 1 ∨ q = 8 ∧ 8 ≤ 1 := by omega
    clear hq
    go_wp2_with (at_builtin; refine app_list rfl _ _ rfl rfl w1.heap.size (.slice p2 0 c2') [] [97] (some ⟨w2.heap.size, 0, none⟩) 1 rfl rfl HOW.out HLY.out (by decide) HBB.out ?_; intro u9 w9 G9; obtain ⟨g, cap, rfl, hcap, hg, hY9, hB9, hD0, hD1, hD2, hww⟩ := HF.out u9 w9 G9; have b1 : w9.cell? ⟨w.heap.size, 1, none⟩ = some (.slice po 0 co) := hD0.cell 1 rfl; have b2 : w9.cell? ⟨w.heap.size, 2, none⟩ = some (.slice pn new.length cn) := hD0.cell 2 rfl; have x0 : w9.cell? ⟨gc, 0, none⟩ = some (.int .i64 7) := hD2.cell 0 rfl; have x1 : w9.cell? ⟨gc, 1, none⟩ = some (.slice none 0 0) := hD2.cell 1 rfl; have x2 : w9.cell? ⟨gc, 2, none⟩ = some (.slice none 0 0) := hD2.cell 2 rfl; have fx0 := hD2.free 0; have fx1 := hD2.free 1; have fx2 := hD2.free 2; have y0 : w9.cell? ⟨gb, 0, none⟩ = some (.int .i64 0) := hD1.cell 0 rfl; have y1 : w9.cell? ⟨gb, 1, none⟩ = some (.slice none 0 0) := hD1.cell 1 rfl; have y2 : w9.cell? ⟨gb, 2, none⟩ = some (.slice none 0 0) := hD1.cell 2 rfl; have fy0 := hD1.free 0; have fy1 := hD1.free 1; have fy2 := hD1.free 2; have HY := Lib.hid hY9; have HB9 := Lib.hid hB9; have HD0 := Lib.hid hD0; have HD1 := Lib.hid hD1; have HD2 := Lib.hid hD2; clear hY9 hB9 hD0 hD1 hD2 G9; have hql : q ≤ cap := by omega)
    have hfo : ∀ a n c, Value.slice (some (⟨g, 0, none⟩ : Addr)) q cap = .slice (some a) n c → gb ≠ a.block ∧ gc ≠ a.block := fun a n c e => by cases e; exact ⟨by show gb ≠ g; omega, by show gc ≠ g; omega⟩
    have hyo := HY.out.take q (by rw [HL.out]; omega)
    refine bodyPost_ret (results_made _ _ gb _ rfl (Blk.set (Blk.set (Blk.set (Blk.other HD1.out (by show gb ≠ gc; omega) _) 0 _) 1 _) 2 _) rfl) rfl ⟨_, rfl, ?_, ?_⟩
    · rw [HOn.out, HNn.out]
      refine ⟨_, _, rfl, ?_, IsY.nil _⟩
      rw [show ([97] : List Int).take 8 = ([97] : List Int).take q by rw [List.take_eq_take_iff, HL.out]; omega]
      exact IsY.far (IsY.far (IsY.far (IsY.far hyo (fun a n c e => (hfo a n c e).2)) (fun a n c e => (hfo a n c e).1)) (fun a n c e => (hfo a n c e).1)) (fun a n c e => (hfo a n c e).1)
    · exact (((HB9.out.setCell (by show w.heap.size ≤ gc; omega) _).setCell (by show w.heap.size ≤ gb; omega) _).setCell (by show w.heap.size ≤ gb; omega) _).setCell (by show w.heap.size ≤ gb; omega) _
  · have HOn : Hid (OO = ([97] : List Int).take 1) := Lib.hid (by rw [HO'.out, if_neg (by omega), if_neg (by omega), if_pos rfl])
    have HNn : Hid (NN = []) := Lib.hid (by rw [HN'.out, if_neg (by omega)])
    go_wp2_with (at_builtin; refine app_list rfl _ _ rfl rfl w1.heap.size (.slice p2 0 c2') [] [97] (some ⟨w2.heap.size, 0, none⟩) 1 rfl rfl HOW.out HLY.out (by decide) HBB.out ?_; intro u9 w9 G9; obtain ⟨g, cap, rfl, hcap, hg, hY9, hB9, hD0, hD1, hD2, hww⟩ := HF.out u9 w9 G9; have b1 : w9.cell? ⟨w.heap.size, 1, none⟩ = some (.slice po 0 co) := hD0.cell 1 rfl; have b2 : w9.cell? ⟨w.heap.size, 2, none⟩ = some (.slice pn new.length cn) := hD0.cell 2 rfl; have x0 : w9.cell? ⟨gc, 0, none⟩ = some (.int .i64 8) := hD2.cell 0 rfl; have x1 : w9.cell? ⟨gc, 1, none⟩ = some (.slice none 0 0) := hD2.cell 1 rfl; have x2 : w9.cell? ⟨gc, 2, none⟩ = some (.slice none 0 0) := hD2.cell 2 rfl; have fx0 := hD2.free 0; have fx1 := hD2.free 1; have fx2 := hD2.free 2; have y0 : w9.cell? ⟨gb, 0, none⟩ = some (.int .i64 0) := hD1.cell 0 rfl; have y1 : w9.cell? ⟨gb, 1, none⟩ = some (.slice none 0 0) := hD1.cell 1 rfl; have y2 : w9.cell? ⟨gb, 2, none⟩ = some (.slice none 0 0) := hD1.cell 2 rfl; have fy0 := hD1.free 0; have fy1 := hD1.free 1; have fy2 := hD1.free 2; have HY := Lib.hid hY9; have HB9 := Lib.hid hB9; have HD0 := Lib.hid hD0; have HD1 := Lib.hid hD1; have HD2 := Lib.hid hD2; clear hY9 hB9 hD0 hD1 hD2 G9; have hql : (1 : Int) ≤ (cap : Int) := by omega)
    have hfo : ∀ a n c, Value.slice (some (⟨g, 0, none⟩ : Addr)) 1 cap = .slice (some a) n c → gb ≠ a.block ∧ gc ≠ a.block := fun a n c e => by cases e; exact ⟨by show gb ≠ g; omega, by show gc ≠ g; omega⟩
    have hyo := HY.out.take 1 (by rw [HL.out]; omega)
    refine bodyPost_ret (results_made _ _ gb _ rfl (Blk.set (Blk.set (Blk.set (Blk.other HD1.out (by show gb ≠ gc; omega) _) 0 _) 1 _) 2 _) rfl) rfl ⟨_, rfl, ?_, ?_⟩
    · rw [HOn.out, HNn.out]
      refine ⟨_, _, rfl, ?_, IsY.nil _⟩
      exact IsY.far (IsY.far (IsY.far (IsY.far hyo (fun a n c e => (hfo a n c e).2)) (fun a n c e => (hfo a n c e).1)) (fun a n c e => (hfo a n c e).1)) (fun a n c e => (hfo a n c e).1)
    · exact (((HB9.out.setCell (by show w.heap.size ≤ gc; omega) _).setCell (by show w.heap.size ≤ gb; omega) _).setCell (by show w.heap.size ≤ gb; omega) _).setCell (by show w.heap.size ≤ gb; omega) _
end Go.Proofs.YtkhphiilnplgjaaGreatDoor

namespace Go.Proofs.YtkhphiilnplgjaaGreatDoor
open Go.RowKit Go.Lib

theorem made_any (v : Value) (k : Int) (old new : List Int) (w : World) (hv : IsOp w v k old new) (ho : old.length ≤ 140737488351232) (hn : new.length ≤ 140737488351232) :
    Calls Tryz.prog 13 #[v] w fun e w' => ∃ u, e = .returned u ∧ IsOp w' u (mkK k) (mkOld k old) (mkNew k new) ∧ Below w.heap.size w w' := by
  by_cases h : old = []
  · exact made_none v k old new w hv ho hn h
  · exact made_full v k old new w hv ho hn h
theorem mkOld_len (k : Int) (old : List Int) : (mkOld k old).length ≤ 8 := by
  unfold mkOld
  split
  · simp only [List.length_take]; omega
  · split
    · simp only [List.length_take]; omega
    · split
      · simp only [List.length_take]; omega
      · simp
theorem mkNew_len (k : Int) (new : List Int) : (mkNew k new).length ≤ 4 := by
  unfold mkNew
  split
  · simp only [List.length_take]; omega
  · simp
set_option maxRecDepth 100000 in
theorem do_all (v u : Value) (k : Int) (old new b : List Int) (w : World) (hv : IsOp w v k old new) (hu : IsY w u b) (ho : old.length ≤ 140737488351232) (hn : new.length ≤ 140737488351232) (hb : b.length ≤ 140737488351232) (hr : (k = 5 ∨ k = 6) → b.length ≤ 4294967280) (hM : MaxOk w) :
    Calls Tryz.prog 14 #[v, u] w (DoRes w (doI k old new b)) := by
  by_cases hk : 1 ≤ k ∧ k ≤ 8
  · have hcases : k = 1 ∨ k = 2 ∨ k = 3 ∨ k = 4 ∨ k = 5 ∨ k = 6 ∨ k = 7 ∨ k = 8 := by omega
    rcases hcases with rfl | rfl | rfl | rfl | rfl | rfl | rfl | rfl
    · rw [← doI_form (x := 0) (y := 0) (z := 0) (r := some (b.map lowI)) ((valI_1 _ _ _ (by omega)).trans len_iff0) rfl]
      refine do_gen 1 0 0 0 87 88 (fun bl _ _ _ _ _ => #[.pointer (some ⟨bl, 0, none⟩)]) (fun bl _ _ _ _ _ => #[.pointer (some ⟨bl, 0, none⟩)]) v u old new b _ w hv hu (by omega) (by omega) (fun _ _ _ _ _ _ => ⟨rfl, rfl, rfl, rfl, rfl⟩) (by omega) (by omega) (by omega) ho hn
        (enters_of Tryz.func87 (by kernel_rfl) rfl) ?_
      intro _ _ _ W v2 bl bu p1 p2 r1 r2 _ hB hv2 hu2
      refine calls_args (by simp) ((letters_any v2 u _ old new _ bl b W hv2 hu2 hB.low (by omega) (fun z hz => by rw [swI_low hz]; exact lowI_byte hz)).mono ?_)
      rintro e w' ⟨r, rfl, h1, h2⟩
      exact ⟨r, rfl, by rw [← map_sw (fun z hz => swI_low hz) hu.byt]; exact h1, h2⟩
    · rw [← doI_form (x := 0) (y := 0) (z := 0) (r := some (b.map upI)) ((valI_1 _ _ _ (by omega)).trans len_iff0) rfl]
      refine do_gen 2 0 0 0 87 88 (fun _ bu _ _ _ _ => #[.pointer (some ⟨bu, 0, none⟩)]) (fun _ bu _ _ _ _ => #[.pointer (some ⟨bu, 0, none⟩)]) v u old new b _ w hv hu (by omega) (by omega) (fun _ _ _ _ _ _ => ⟨rfl, rfl, rfl, rfl, rfl⟩) (by omega) (by omega) (by omega) ho hn
        (enters_of Tryz.func87 (by kernel_rfl) rfl) ?_
      intro _ _ _ W v2 bl bu p1 p2 r1 r2 _ hB hv2 hu2
      refine calls_args (by simp) ((letters_any v2 u _ old new _ bu b W hv2 hu2 hB.up (by omega) (fun z hz => by rw [swI_up hz]; exact upI_byte hz)).mono ?_)
      rintro e w' ⟨r, rfl, h1, h2⟩
      exact ⟨r, rfl, by rw [← map_sw (fun z hz => swI_up hz) hu.byt]; exact h1, h2⟩
    · rw [← doI_form (x := 0) (y := 0) (z := 0) (r := dec false b) ((valI_1 _ _ _ (by omega)).trans len_iff0) rfl]
      refine do_gen 3 0 0 0 96 98 (fun _ _ p1 _ _ _ => #[.pointer (some ⟨p1, 0, none⟩)]) (fun _ _ p1 _ _ _ => #[.pointer (some ⟨p1, 0, none⟩)]) v u old new b _ w hv hu (by omega) (by omega) (fun _ _ _ _ _ _ => ⟨rfl, rfl, rfl, rfl, rfl⟩) (by omega) (by omega) (by omega) ho hn
        (enters_of Tryz.func96 (by kernel_rfl) rfl) ?_
      intro _ _ _ W v2 bl bu p1 p2 r1 r2 _ hB hv2 hu2
      exact calls_args (by simp) (percent1_any v2 u _ old new b false p1 W hv2 hu2 hB.strict (by omega))
    · rw [← doI_form (x := 0) (y := 0) (z := 0) (r := dec true b) ((valI_1 _ _ _ (by omega)).trans len_iff0) rfl]
      refine do_gen 4 0 0 0 96 98 (fun _ _ _ p2 _ _ => #[.pointer (some ⟨p2, 0, none⟩)]) (fun _ _ _ p2 _ _ => #[.pointer (some ⟨p2, 0, none⟩)]) v u old new b _ w hv hu (by omega) (by omega) (fun _ _ _ _ _ _ => ⟨rfl, rfl, rfl, rfl, rfl⟩) (by omega) (by omega) (by omega) ho hn
        (enters_of Tryz.func96 (by kernel_rfl) rfl) ?_
      intro _ _ _ W v2 bl bu p1 p2 r1 r2 _ hB hv2 hu2
      exact calls_args (by simp) (percent1_any v2 u _ old new b true p2 W hv2 hu2 hB.lax (by omega))
    · rw [← doI_form (x := 1) (y := 4) (z := 4) (r := some (rep old new 1 b)) (valI_5 _ _ _ (by omega)) rfl]
      refine do_gen 5 1 4 4 100 102 (fun _ _ _ _ r1 _ => #[.pointer (some ⟨r1, 0, none⟩)]) (fun _ _ _ _ r1 _ => #[.pointer (some ⟨r1, 0, none⟩)]) v u old new b _ w hv hu (by omega) (by omega) (fun _ _ _ _ _ _ => ⟨rfl, rfl, rfl, rfl, rfl⟩) (by omega) (by omega) (by omega) ho hn
        (enters_of Tryz.func100 (by kernel_rfl) rfl) ?_
      intro q1 q2 q3 W v2 bl bu p1 p2 r1 r2 hW hB hv2 hu2
      exact calls_args (by simp) (replacement_any v2 u _ old new b false r1 W hv2 hu2 hB.first (by omega) (by omega) (by omega) (hr (by omega)) (hM.grows hW hM.lt))
    · rw [← doI_form (x := 1) (y := 4) (z := 4) (r := some (rep old new b.length b)) (valI_5 _ _ _ (by omega)) rfl]
      refine do_gen 6 1 4 4 100 102 (fun _ _ _ _ _ r2 => #[.pointer (some ⟨r2, 0, none⟩)]) (fun _ _ _ _ _ r2 => #[.pointer (some ⟨r2, 0, none⟩)]) v u old new b _ w hv hu (by omega) (by omega) (fun _ _ _ _ _ _ => ⟨rfl, rfl, rfl, rfl, rfl⟩) (by omega) (by omega) (by omega) ho hn
        (enters_of Tryz.func100 (by kernel_rfl) rfl) ?_
      intro q1 q2 q3 W v2 bl bu p1 p2 r1 r2 hW hB hv2 hu2
      exact calls_args (by simp) (replacement_any v2 u _ old new b true r2 W hv2 hu2 hB.all (by omega) (by omega) (by omega) (hr (by omega)) (hM.grows hW hM.lt))
    · rw [← doI_form (x := 1) (y := 8) (z := 0) (r := some (b.filter fun z => !old.contains z)) ((valI_7 _ _).trans (decide_eq_decide.2 (by omega))) rfl]
      refine do_gen 7 1 8 0 105 107 (fun _ _ _ _ _ _ => #[]) (fun _ _ _ _ _ _ => #[]) v u old new b _ w hv hu (by omega) (by omega) (fun _ _ _ _ _ _ => ⟨rfl, rfl, rfl, rfl, rfl⟩) (by omega) (by omega) (by omega) ho hn
        (enters_of Tryz.func105 (by kernel_rfl) rfl) ?_
      intro q1 q2 q3 W v2 bl bu p1 p2 r1 r2 hW hB hv2 hu2
      exact calls_args (by simp) (drop_any v2 u _ old new b W hv2 hu2 ho (by omega))
    · rw [← doI_form (x := 1) (y := 1) (z := 0) (r := some (sqz (old.getD 0 0) false b)) ((valI_8 _ _).trans (decide_eq_decide.2 (by omega))) rfl]
      refine do_gen 8 1 1 0 109 110 (fun _ _ _ _ _ _ => #[]) (fun _ _ _ _ _ _ => #[]) v u old new b _ w hv hu (by omega) (by omega) (fun _ _ _ _ _ _ => ⟨rfl, rfl, rfl, rfl, rfl⟩) (by omega) (by omega) (by omega) ho hn
        (enters_of Tryz.func109 (by kernel_rfl) rfl) ?_
      intro q1 q2 q3 W v2 bl bu p1 p2 r1 r2 hW hB hv2 hu2
      have hc : old[0]? = some (old.getD 0 0) := by
        rw [List.getD_eq_getElem?_getD, List.getElem?_eq_getElem (by omega)]; rfl
      exact calls_args (by simp) (squeeze_any v2 u _ _ old new b W hv2 hu2 hc ho (by omega))
  · have : doI k old new b = none := by unfold doI; rw [valI_no k old new hk]; rfl
    rw [this]
    exact do_bad v u k old new w hv hk
end Go.Proofs.YtkhphiilnplgjaaGreatDoor

namespace Go.Proofs.YtkhphiilnplgjaaGreatDoor
open Go.RowKit Go.Lib

set_option maxRecDepth 100000 in
set_option maxHeartbeats 1000000 in
theorem at_in (v u : Value) (old b : List Int) (i : Nat) (w : World) (hv : IsY w v old) (hu : IsY w u b) (ho : i + old.length ≤ b.length) (hl : old.length ≤ 140737488351232) (hb : b.length ≤ 140737488351232) (hi : i ≤ 140737488351232) :
    Calls Tryz.prog 27 #[v, u, .int .i64 (i : Int)] w fun e w' => e = .returned (.bool (atB old b i)) ∧ Below w.heap.size w w' := by
  obtain ⟨p, cp, rfl, hcp⟩ := hv.shape
  obtain ⟨q, cq, rfl, hcq⟩ := hu.shape
  have HV := Lib.hid hv
  have HU := Lib.hid hu
  clear hv hu
  have hd : decide ((b.length : Int) < (i : Int) + (old.length : Int)) = false := by rw [decide_eq_false_iff_not]; omega
  go_enter Tryz.func27, Tryz.ntmps27
  go_wp2
  go_loopw [7] (fun kv wr => ∃ k : Nat, k ≤ old.length ∧ kv = .int .i64 k ∧ AgreeY old b i k ∧ Below w.heap.size w wr) (fun kv _ => old.length - (RowKit.intOf kv).toNat)
  case atStart => exact ⟨0, Nat.zero_le _, rfl, fun j hj => by omega, Below.refl _ _⟩
  case round =>
    obtain ⟨k, hk, rfl, hno, hbw⟩ := hrel
    have HN := Lib.hid hno
    clear hno
    by_cases hlt : k < old.length
    · obtain ⟨x, hx⟩ := get_of_lt hlt
      obtain ⟨y, hy⟩ := get_of_lt (l := b) (k := i + k) (by omega)
      obtain ⟨b1, o1, rfl, c1⟩ := (HV.out.grows hbw).at hx
      obtain ⟨b2, o2, rfl, c2⟩ := (HU.out.grows hbw).at hy
      have hxb := HV.out.byt.at hx
      have hyb := HU.out.byt.at hy
      have w1 : IntKind.i64.wrap ((i : Int) + (k : Int)) = ((i + k : Nat) : Int) := by rw [IntWalk.i64_in _ (by omega)]; omega
      have hdk : decide ((k : Int) < (old.length : Int)) = true := by rw [decide_eq_true_iff]; omega
      have HX := Lib.hid hx
      have HY := Lib.hid hy
      clear hx hy
      by_cases hxy : x = y
      · subst hxy
        go_wp2
        go_quiet (fail)
        go_wp2
        go_roundw
        case rel => exact ⟨k + 1, by omega, by go_num, fun j hj => by
          rcases Nat.lt_or_ge j k with h | h
          · exact HN.out j h
          · obtain rfl : j = k := by omega
            rw [HX.out, HY.out], below_drews hbw _⟩
        case measure => simp [RowKit.intOf]; omega
      · have HF := Lib.hid (show atB old b i = false by
          rw [Bool.eq_false_iff]; intro h
          have := at_iff.1 h k hlt
          rw [HX.out, HY.out, Option.some.injEq] at this
          exact hxy this.symm)
        have hne : (y != x) = true := by rw [bne_iff_ne]; exact fun e => hxy e.symm
        go_wp2
        go_quiet (fail)
        go_wp2
        go_ret
        exact ⟨ret_bool HF.out.symm, below_drews hbw _⟩
    · obtain rfl : k = old.length := by omega
      have HF := Lib.hid (show atB old b i = true from at_iff.2 HN.out)
      go_wp2
      go_ret
      exact ⟨ret_bool HF.out.symm, hbw⟩
set_option maxRecDepth 100000 in
set_option maxHeartbeats 4000000 in
theorem between_any (u v : Value) (c : BitVec 256) (b tt : List Int) (f t : Nat) (w : World) (hu : IsY w u b) (hv : IsY w v tt) (hb : b.length ≤ 1048576) (hT : TrimIs (fun z => mem c z.toNat) b f t) (htt : tt = (b.take t).drop f) :
    Calls Tryz.prog 31 #[.agg #[.int .u64 (wd c 0), .int .u64 (wd c 1), .int .u64 (wd c 2), .int .u64 (wd c 3)], u, v] w fun e w' => e = .returned (.bool true) ∧ Below w.heap.size w w' := by
  obtain ⟨pb, cb, rfl, hcb⟩ := hu.shape
  obtain ⟨pt, ct, rfl, hct⟩ := hv.shape
  have hft := hT.ft
  have htl := hT.tl
  have hlen : tt.length = t - f := by rw [htt, List.length_drop, List.length_take]; omega
  have HU := Lib.hid (fun W (hW : Below w.heap.size w W) => hu.grows hW)
  have HV := Lib.hid (fun W (hW : Below w.heap.size w W) => hv.grows hW)
  have HTm := Lib.hid (And.intro hT htt)
  have HLen := Lib.hid hlen
  clear hu hv hT htt hlen
  go_enter Tryz.func31, Tryz.ntmps31
  have hbw1 : Below w.heap.size w (w.alloc (.cells #[.int .u64 (wd c 0), .int .u64 (wd c 1), .int .u64 (wd c 2), .int .u64 (wd c 3)] 27)) := by go_grown
  have D1 := Blk.new w #[.int .u64 (wd c 0), .int .u64 (wd c 1), .int .u64 (wd c 2), .int .u64 (wd c 3)] 27
  go_wp2_with fail
  generalize (w.alloc (.cells #[.int .u64 (wd c 0), .int .u64 (wd c 1), .int .u64 (wd c 2), .int .u64 (wd c 3)] 27)) = w1 at D1 hbw1 ⊢
  go_loopw [7] (fun iv wr => ∃ i : Nat, i ≤ f ∧ iv = .int .i64 (i : Int) ∧ Blk wr w.heap.size #[.int .u64 (wd c 0), .int .u64 (wd c 1), .int .u64 (wd c 2), .int .u64 (wd c 3)] 27 ∧ Below w.heap.size w wr) (fun iv _ => b.length - (RowKit.intOf iv).toNat)
  case atStart => exact ⟨0, Nat.zero_le _, rfl, D1, hbw1⟩
  case round =>
    clear D1 hbw1
    obtain ⟨i, hif, rfl, C, hbw⟩ := hrel
    have HC := Lib.hid C
    have HW := Lib.hid hbw
    have hsum : i + tt.length ≤ b.length := by have := HLen.out; omega
    have hd : decide ((i : Int) + (tt.length : Int) ≤ (b.length : Int)) = true := by rw [decide_eq_true_iff]; omega
    have HA := Lib.hid (at_in (.slice pt tt.length ct) (.slice pb b.length cb) tt b i wr (HV.out wr HW.out) (HU.out wr HW.out) (by omega) (by omega) (by omega) (by omega))
    clear C hbw
    go_wp2_with fail
    refine HA.out.mono ?_
    rintro e w2 ⟨rfl, hb2⟩
    have HC2 := Lib.hid (HC.out.grows hb2)
    have HW2 := Lib.hid (below_two HW.out hb2)
    clear hb2
    cases ha : atB tt b i with
    | false =>
      have hlt : i < f := by
        rcases Nat.lt_or_ge i f with h | h
        · exact h
        · exfalso
          obtain rfl : i = f := by omega
          have h2 : atB tt b i = true := by
            unfold atB; rw [HTm.out.2, List.isPrefixOf_iff_prefix]
            refine ⟨b.drop t, ?_⟩
            have h3 := HTm.out.1.ft
            rw [← List.drop_append_of_le_length (by rw [List.length_take]; have := HTm.out.1.tl; omega), List.take_append_drop]
          rw [ha] at h2; cases h2
      clear ha
      obtain ⟨x, hx⟩ := get_of_lt (l := b) (k := i) (by omega)
      have hm : mem c x.toNat = true := HTm.out.1.lo i hlt x hx
      have hdl : decide ((i : Int) < (b.length : Int)) = true := by rw [decide_eq_true_iff]; omega
      have hlb : i < b.length := by omega
      have hln : ((i : Int) < (b.length : Int)) := by omega
      go_wp2_with fail
      have hdr : Below w2.heap.size w2 w2.drew := by go_grown
      have hWd := below_two HW2.out hdr
      obtain ⟨bb, oo, hbe, cx⟩ := (HU.out _ hWd).at hx
      cases hbe
      have hx8 := (HU.out _ hWd).byt.at hx
      have Cd := HC2.out.grows hdr
      obtain ⟨a0, a1, a2, a3, -⟩ := Cd.four
      have HS0 : Hid (w2.drew.cell? ⟨w.heap.size, 0, none⟩ = some (.int .u64 (wd c 0)) ∧ w2.drew.cell? ⟨w.heap.size, 1, none⟩ = some (.int .u64 (wd c 1)) ∧ w2.drew.cell? ⟨w.heap.size, 2, none⟩ = some (.int .u64 (wd c 2)) ∧ w2.drew.cell? ⟨w.heap.size, 3, none⟩ = some (.int .u64 (wd c 3)) ∧ w2.drew.cell? ⟨bb, oo + i, none⟩ = some (.int .u8 x)) := Lib.hid ⟨a0, a1, a2, a3, cx⟩
      have HCd := Lib.hid Cd
      have HWd := Lib.hid hWd
      have HX := Lib.hid hx
      clear Cd hdr hWd a0 a1 a2 a3 cx hx
      go_wp2_with fail
      go_region_held3 (fun W => W.cell? ⟨w.heap.size, 0, none⟩ = some (.int .u64 (wd c 0)) ∧ W.cell? ⟨w.heap.size, 1, none⟩ = some (.int .u64 (wd c 1)) ∧ W.cell? ⟨w.heap.size, 2, none⟩ = some (.int .u64 (wd c 2)) ∧ W.cell? ⟨w.heap.size, 3, none⟩ = some (.int .u64 (wd c 3)) ∧ W.cell? ⟨bb, oo + i, none⟩ = some (.int .u8 x))
        (first | (with_reducible exact HS0.out) | (with_reducible exact HS1.out) | fail)
        (first
          | (go_at_call 30; refine (member8_any c x _ hx8.1 hx8.2).mono ?_; rintro e w8 ⟨rfl, hb8⟩; have hWe := below_two HWd.out hb8; have Ce := HCd.out.grows hb8; obtain ⟨bq, oq, hbe, cx⟩ := (HU.out _ hWe).at HX.out; cases hbe; obtain ⟨a0, a1, a2, a3, -⟩ := Ce.four; have HS1 : Hid (w8.cell? ⟨w.heap.size, 0, none⟩ = some (.int .u64 (wd c 0)) ∧ w8.cell? ⟨w.heap.size, 1, none⟩ = some (.int .u64 (wd c 1)) ∧ w8.cell? ⟨w.heap.size, 2, none⟩ = some (.int .u64 (wd c 2)) ∧ w8.cell? ⟨w.heap.size, 3, none⟩ = some (.int .u64 (wd c 3)) ∧ w8.cell? ⟨bb, oo + i, none⟩ = some (.int .u8 x)) := Lib.hid ⟨a0, a1, a2, a3, cx⟩; have HC8 := Lib.hid Ce; have HW8 := Lib.hid hWe; rw [hm]; clear Ce hb8 hWe a0 a1 a2 a3 cx)
          | fail)
      all_goals
        go_wp2
        go_roundw
        case rel => exact ⟨i + 1, by omega, by go_num, HC8.out, HW8.out⟩
        case measure => simp [RowKit.intOf]; omega
    | true =>
      clear ha
      go_wp2_with fail
      go_loopw [8, 9] (fun rv kv wr => ∃ (r : Bool) (k : Nat), i + tt.length ≤ k ∧ k ≤ b.length ∧ rv = .bool r ∧ kv = .int .i64 (k : Int) ∧ (i = f → r = true) ∧ Blk wr w.heap.size #[.int .u64 (wd c 0), .int .u64 (wd c 1), .int .u64 (wd c 2), .int .u64 (wd c 3)] 27 ∧ Below w.heap.size w wr) (fun _ kv _ => b.length - (RowKit.intOf kv).toNat)
      case atStart => exact ⟨true, i + tt.length, by omega, by omega, rfl, by go_num, fun _ => rfl, HC2.out, HW2.out⟩
      case round =>
        obtain ⟨r, k, hk1, hk2, rfl, rfl, hr, C3, hW3⟩ := hrel
        have HC3 := Lib.hid C3
        have HW3 := Lib.hid hW3
        have HR := Lib.hid hr
        clear C3 hW3 hr HC2 HW2
        by_cases hkl : k < b.length
        · have hdk : decide ((k : Int) < (b.length : Int)) = true := by rw [decide_eq_true_iff]; omega
          obtain ⟨x, hx⟩ := get_of_lt hkl
          cases r with
          | false =>
            go_wp2_with fail
            go_quiet (fail)
            go_wp2
            go_roundw
            case rel => exact ⟨false, k + 1, by omega, by omega, rfl, by go_num, HR.out, HC3.out.grows (below_drews (Below.refl _ _) _), below_drews HW3.out _⟩
            case measure => simp [RowKit.intOf]; omega
          | true =>
            have HMm := Lib.hid (show i = f → mem c x.toNat = true from fun h => HTm.out.1.hi k (by have := HLen.out; have := HTm.out.1.ft; omega) x hx)
            go_wp2_with fail
            have hdr : Below wr.heap.size wr wr.drew := by go_grown
            have hWd := below_two HW3.out hdr
            obtain ⟨bb, oo, hbe, cx⟩ := (HU.out _ hWd).at hx
            cases hbe
            have hx8 := (HU.out _ hWd).byt.at hx
            have Cd := HC3.out.grows hdr
            obtain ⟨a0, a1, a2, a3, -⟩ := Cd.four
            have HS0 : Hid (wr.drew.cell? ⟨w.heap.size, 0, none⟩ = some (.int .u64 (wd c 0)) ∧ wr.drew.cell? ⟨w.heap.size, 1, none⟩ = some (.int .u64 (wd c 1)) ∧ wr.drew.cell? ⟨w.heap.size, 2, none⟩ = some (.int .u64 (wd c 2)) ∧ wr.drew.cell? ⟨w.heap.size, 3, none⟩ = some (.int .u64 (wd c 3)) ∧ wr.drew.cell? ⟨bb, oo + k, none⟩ = some (.int .u8 x)) := Lib.hid ⟨a0, a1, a2, a3, cx⟩
            have HCd := Lib.hid Cd
            have HWd := Lib.hid hWd
            have HX := Lib.hid hx
            clear Cd hdr hWd a0 a1 a2 a3 cx hx
            go_wp2_with fail
            go_region_held3 (fun W => W.cell? ⟨w.heap.size, 0, none⟩ = some (.int .u64 (wd c 0)) ∧ W.cell? ⟨w.heap.size, 1, none⟩ = some (.int .u64 (wd c 1)) ∧ W.cell? ⟨w.heap.size, 2, none⟩ = some (.int .u64 (wd c 2)) ∧ W.cell? ⟨w.heap.size, 3, none⟩ = some (.int .u64 (wd c 3)) ∧ W.cell? ⟨bb, oo + k, none⟩ = some (.int .u8 x))
              (first | (with_reducible exact HS0.out) | (with_reducible exact HS1.out) | fail)
              (first
                | (go_at_call 30; refine (member8_any c x _ hx8.1 hx8.2).mono ?_; rintro e w8 ⟨rfl, hb8⟩; have hWe := below_two HWd.out hb8; have Ce := HCd.out.grows hb8; obtain ⟨bq, oq, hbe, cx⟩ := (HU.out _ hWe).at HX.out; cases hbe; obtain ⟨a0, a1, a2, a3, -⟩ := Ce.four; have HS1 : Hid (w8.cell? ⟨w.heap.size, 0, none⟩ = some (.int .u64 (wd c 0)) ∧ w8.cell? ⟨w.heap.size, 1, none⟩ = some (.int .u64 (wd c 1)) ∧ w8.cell? ⟨w.heap.size, 2, none⟩ = some (.int .u64 (wd c 2)) ∧ w8.cell? ⟨w.heap.size, 3, none⟩ = some (.int .u64 (wd c 3)) ∧ w8.cell? ⟨bb, oo + k, none⟩ = some (.int .u8 x)) := Lib.hid ⟨a0, a1, a2, a3, cx⟩; have HC8 := Lib.hid Ce; have HW8 := Lib.hid hWe; generalize mem c x.toNat = m8 at HMm ⊢; clear Ce hb8 hWe a0 a1 a2 a3 cx)
                | fail)
            all_goals
              go_wp2
              go_roundw
              case rel => exact ⟨m8, k + 1, by omega, by omega, rfl, by go_num, HMm.out, HC8.out, HW8.out⟩
              case measure => simp [RowKit.intOf]; omega
        · obtain rfl : k = b.length := by omega
          have hdk : decide ((b.length : Int) < (b.length : Int)) = false := by rw [decide_eq_false_iff_not]; omega
          cases r with
          | true =>
            go_wp2_with fail
            go_ret
            exact ⟨rfl, HW3.out⟩
          | false =>
            have hlt : i < f := by
              rcases Nat.lt_or_ge i f with h | h
              · exact h
              · have h4 := HR.out (by omega); cases h4
            obtain ⟨x, hx⟩ := get_of_lt (l := b) (k := i) (by omega)
            have hm : mem c x.toNat = true := HTm.out.1.lo i hlt x hx
            have hdl : decide ((i : Int) < (b.length : Int)) = true := by rw [decide_eq_true_iff]; omega
            have hlb : i < b.length := by omega
            have hln : ((i : Int) < (b.length : Int)) := by omega
            go_wp2_with fail
            have hdr : Below wr.heap.size wr wr.drew := by go_grown
            have hWd := below_two HW3.out hdr
            obtain ⟨bb, oo, hbe, cx⟩ := (HU.out _ hWd).at hx
            cases hbe
            have hx8 := (HU.out _ hWd).byt.at hx
            have Cd := HC3.out.grows hdr
            obtain ⟨a0, a1, a2, a3, -⟩ := Cd.four
            have HS0 : Hid (wr.drew.cell? ⟨w.heap.size, 0, none⟩ = some (.int .u64 (wd c 0)) ∧ wr.drew.cell? ⟨w.heap.size, 1, none⟩ = some (.int .u64 (wd c 1)) ∧ wr.drew.cell? ⟨w.heap.size, 2, none⟩ = some (.int .u64 (wd c 2)) ∧ wr.drew.cell? ⟨w.heap.size, 3, none⟩ = some (.int .u64 (wd c 3)) ∧ wr.drew.cell? ⟨bb, oo + i, none⟩ = some (.int .u8 x)) := Lib.hid ⟨a0, a1, a2, a3, cx⟩
            have HCd := Lib.hid Cd
            have HWd := Lib.hid hWd
            have HX := Lib.hid hx
            clear Cd hdr hWd a0 a1 a2 a3 cx hx
            go_wp2_with fail
            go_region_held3 (fun W => W.cell? ⟨w.heap.size, 0, none⟩ = some (.int .u64 (wd c 0)) ∧ W.cell? ⟨w.heap.size, 1, none⟩ = some (.int .u64 (wd c 1)) ∧ W.cell? ⟨w.heap.size, 2, none⟩ = some (.int .u64 (wd c 2)) ∧ W.cell? ⟨w.heap.size, 3, none⟩ = some (.int .u64 (wd c 3)) ∧ W.cell? ⟨bb, oo + i, none⟩ = some (.int .u8 x))
              (first | (with_reducible exact HS0.out) | (with_reducible exact HS1.out) | fail)
              (first
                | (go_at_call 30; refine (member8_any c x _ hx8.1 hx8.2).mono ?_; rintro e w8 ⟨rfl, hb8⟩; have hWe := below_two HWd.out hb8; have Ce := HCd.out.grows hb8; obtain ⟨bq, oq, hbe, cx⟩ := (HU.out _ hWe).at HX.out; cases hbe; obtain ⟨a0, a1, a2, a3, -⟩ := Ce.four; have HS1 : Hid (w8.cell? ⟨w.heap.size, 0, none⟩ = some (.int .u64 (wd c 0)) ∧ w8.cell? ⟨w.heap.size, 1, none⟩ = some (.int .u64 (wd c 1)) ∧ w8.cell? ⟨w.heap.size, 2, none⟩ = some (.int .u64 (wd c 2)) ∧ w8.cell? ⟨w.heap.size, 3, none⟩ = some (.int .u64 (wd c 3)) ∧ w8.cell? ⟨bb, oo + i, none⟩ = some (.int .u8 x)) := Lib.hid ⟨a0, a1, a2, a3, cx⟩; have HC8 := Lib.hid Ce; have HW8 := Lib.hid hWe; rw [hm]; clear Ce hb8 hWe a0 a1 a2 a3 cx)
                | fail)
            all_goals
              go_wp2
              go_roundw
              case rel => exact ⟨i + 1, by omega, by go_num, HC8.out, HW8.out⟩
              case measure => simp [RowKit.intOf]; omega
end Go.Proofs.YtkhphiilnplgjaaGreatDoor


namespace Go.Proofs.YtkhphiilnplgjaaGreatDoor
open Go.RowKit Go.Lib

theorem doI_val2 {k : Int} {old new b : List Int} (h : valI k old new = true) : doI k old new b = doK k old new b := if_pos h
theorem filter_snoc {P : Int → Bool} {b : List Int} {i : Nat} {x : Int} (h : b[i]? = some x) : (b.take (i + 1)).filter P = (b.take i).filter P ++ (if P x = true then [x] else []) := by
  rw [List.take_add_one, h, List.filter_append]
  cases hp : P x <;> simp [hp]
set_option maxRecDepth 100000 in
set_option maxHeartbeats 40000000 in
theorem removal_walk (v u : Value) (k : Int) (old new b : List Int) (c : BitVec 256) (w : World) (hv : IsOp w v k old new) (hu : IsY w u b) (hbd : (old.length + new.length) + b.length ≤ 1048576)
    (hM : MaxOk w) (hT : TabAt 0 Lib.deBruijn64tab w) (hg : 0 < w.heap.size) :
    Calls Tryz.prog 9 #[v, u, .agg #[.int .u64 (wd c 0), .int .u64 (wd c 1), .int .u64 (wd c 2), .int .u64 (wd c 3)]] w fun e w' => e = .returned (.bool true) ∧ Below w.heap.size w w' := by
  have HM := Lib.hid (fun W (hW : Below w.heap.size w W) => hM.grows hW hM.lt)
  have HT := Lib.hid (fun W (hW : Below w.heap.size w W) => tab_below hT hW hg)
  have HG := Lib.hid (fun W (hW : Below w.heap.size w W) => Nat.lt_of_lt_of_le hg hW.size)
  have HU := Lib.hid (fun W (hW : Below w.heap.size w W) => hu.grows hW)
  have HBy := Lib.hid hu.byt
  obtain ⟨vo, vn, rfl, hvo, hvn⟩ := hv
  have HO := Lib.hid (fun W (hW : Below w.heap.size w W) => hvo.grows hW)
  have HN := Lib.hid (fun W (hW : Below w.heap.size w W) => hvn.grows hW)
  obtain ⟨po, co, rfl, -⟩ := hvo.shape
  obtain ⟨pn, cn, rfl, -⟩ := hvn.shape
  obtain ⟨pb, cb, rfl, hcb⟩ := hu.shape
  have HBd := Lib.hid hbd
  clear hM hT hg hvo hvn hu hbd
  go_enter Tryz.func9, Tryz.ntmps9
  have hb1 : Below w.heap.size w ((w.alloc (.cells #[.int .i64 k, .slice po old.length co, .slice pn new.length cn] 24)).alloc (.cells #[.int .u64 (wd c 0), .int .u64 (wd c 1), .int .u64 (wd c 2), .int .u64 (wd c 3)] 27)) := by go_grown
  have D1 := (Blk.new w #[.int .i64 k, .slice po old.length co, .slice pn new.length cn] 24).alloc (.cells #[.int .u64 (wd c 0), .int .u64 (wd c 1), .int .u64 (wd c 2), .int .u64 (wd c 3)] 27)
  have E1 := Blk.alloc1 w #[.int .i64 k, .slice po old.length co, .slice pn new.length cn] #[.int .u64 (wd c 0), .int .u64 (wd c 1), .int .u64 (wd c 2), .int .u64 (wd c 3)] 24 27
  go_wp2_with fail
  generalize ((w.alloc (.cells #[.int .i64 k, .slice po old.length co, .slice pn new.length cn] 24)).alloc (.cells #[.int .u64 (wd c 0), .int .u64 (wd c 1), .int .u64 (wd c 2), .int .u64 (wd c 3)] 27)) = w1 at hb1 D1 E1 ⊢
  refine (sanity8_any w1 (HM.out w1 hb1) (HT.out w1 hb1) (HG.out w1 hb1)).mono ?_
  rintro e w2 ⟨rfl, hb2⟩
  have D2 := D1.grows hb2
  have E2 := E1.grows hb2
  have HB2 := Lib.hid (below_two hb1 hb2)
  obtain ⟨d0, d1, d2⟩ := (⟨D2.cell 0 rfl, D2.cell 1 rfl, D2.cell 2 rfl⟩ : _ ∧ _ ∧ _)
  have hD2 := D2.lt
  have f0 := D2.free 0
  have HE2 := Lib.hid E2
  clear D1 E1 D2 E2 hb1 hb2
  go_wp2_with fail
  have hbX : Below w.heap.size w (w2.setCell ⟨w.heap.size, 0, none⟩ (.int .i64 6)) := HB2.out.setCell (Nat.le_refl _) _
  have EX : Blk (w2.setCell ⟨w.heap.size, 0, none⟩ (.int .i64 6)) (w.heap.size + 1) #[.int .u64 (wd c 0), .int .u64 (wd c 1), .int .u64 (wd c 2), .int .u64 (wd c 3)] 27 := HE2.out.other (by show _ ≠ w.heap.size; omega) _
  generalize (w2.setCell ⟨w.heap.size, 0, none⟩ (.int .i64 6)) = X at hbX EX ⊢
  refine (made_any _ 6 old new X ⟨_, _, rfl, HO.out X hbX, HN.out X hbX⟩ (by have := HBd.out; omega) (by have := HBd.out; omega)).mono ?_
  rintro e w3 ⟨u3, rfl, hI3, hb3⟩
  have hval := mk_val 6 old new
  rw [show mkK 6 = 7 by decide] at hI3 hval
  generalize mkOld 6 old = OO at hI3 hval
  generalize mkNew 6 new = NN at hI3 hval
  have hl7 : 1 ≤ OO.length ∧ OO.length ≤ 8 ∧ NN.length = 0 := by
    have h := hval
    unfold valI at h
    simpa using h
  obtain ⟨p3, c3, q3, e3, rfl, hy3, hz3, hc3, he3⟩ := hI3.shape
  obtain rfl : NN = [] := List.length_eq_zero_iff.1 hl7.2.2
  have HOO := Lib.hid (fun W (hW : Below w3.heap.size w3 W) => hy3.grows hW)
  have HNN := Lib.hid (fun W (hW : Below w3.heap.size w3 W) => hz3.grows hW)
  have HB3 := Lib.hid (below_two hbX hb3)
  have HE3 := Lib.hid (EX.grows hb3)
  have HL := Lib.hid hl7
  have HV7 := Lib.hid hval
  clear d0 d1 d2 f0 hI3 hy3 hz3 hb3 hbX hval hl7 EX HE2 HB2
  go_upto_region 4 with fail
  have hb4 : Below w3.heap.size w3 (w3.alloc (.cells #[.int .i64 7, .slice p3 OO.length c3, .slice q3 ([] : List Int).length e3] 24)) := by go_grown
  have P4 := Blk.new w3 #[.int .i64 7, .slice p3 OO.length c3, .slice q3 ([] : List Int).length e3] 24
  generalize (w3.alloc (.cells #[.int .i64 7, .slice p3 OO.length c3, .slice q3 ([] : List Int).length e3] 24)) = w4 at hb4 P4 ⊢
  obtain ⟨g8, hg8⟩ : ∃ g, w3.heap.size = g := ⟨_, rfl⟩
  have HB4 := Lib.hid (below_two HB3.out hb4)
  have HE4 := Lib.hid (HE3.out.grows hb4)
  have HO4 := Lib.hid (HOO.out w4 hb4)
  have HN4 := Lib.hid (HNN.out w4 hb4)
  rw [hg8] at P4
  simp only [hg8]
  have HP4 := Lib.hid P4
  have Hgg := Lib.hid (show g8 < w4.heap.size ∧ w.heap.size + 1 < g8 by have h1 := P4.lt; have h2 := HE3.out.lt; omega)
  clear hb4 P4 hg8 HOO HNN HE3 HB3
  obtain ⟨no, hno⟩ : ∃ n, OO.length = n := ⟨_, rfl⟩
  have hno8 : 1 ≤ no ∧ no ≤ 8 := by have := HL.out; omega
  have HNO := Lib.hid hno
  rw [hno] at hc3 HO4 HP4 ⊢
  have hnil : ([] : List Int).length = 0 := rfl
  simp only [hnil] at HN4 HP4 ⊢
  clear hno hnil
  have t0 := HP4.out.cell 0 rfl
  have t1 := HP4.out.cell 1 rfl
  have t2 := HP4.out.cell 2 rfl
  go_wp2_with fail
  have hdo1 := do_all _ _ 7 OO [] b w4 ⟨_, _, rfl, HO4.out, HN4.out⟩ (HU.out w4 HB4.out) (by have := HL.out; omega) (by simp) (by have := HBd.out; omega) (fun h => by omega) (HM.out w4 HB4.out)
  rw [show doI 7 OO [] b = some (b.filter fun z => !OO.contains z) by rw [doI_val2 HV7.out]; rfl] at hdo1
  refine hdo1.mono ?_
  rintro e w5 ⟨vx, rfl, hx, hb5⟩
  simp only [Option.getD_some, Option.isSome_some] at hx ⊢
  obtain ⟨px, cx, rfl, -⟩ := hx.shape
  obtain ⟨X1, hX1⟩ : ∃ R, (b.filter fun z => !OO.contains z) = R := ⟨_, rfl⟩
  rw [hX1] at hx ⊢
  obtain ⟨n1, hn1⟩ : ∃ n, X1.length = n := ⟨_, rfl⟩
  rw [hn1] at hx ⊢
  have HX1 := Lib.hid (And.intro hX1 hn1)
  have HX := Lib.hid hx
  have HB5 := Lib.hid (below_two HB4.out hb5)
  have HE5 := Lib.hid (HE4.out.grows hb5)
  have HO5 := Lib.hid (HO4.out.grows hb5)
  have HP5 := Lib.hid (HP4.out.grows hb5)
  have Hg5 := Lib.hid (show g8 < w5.heap.size by have h1 := Hgg.out; have h2 := hb5.size; omega)
  clear hdo1 hx hb5 hX1 hn1 t0 t1 t2 HE4 HO4 HP4 HN4 HB4
  go_upto_region 6 with fail
  have hb6 : Below w5.heap.size w5 (w5.alloc (.cells #[] 5)) := by go_grown
  have HOw6 := Lib.hid (own_of_blk (base := w5.heap.size) (Blk.new w5 #[] 5) 0 1 rfl (Nat.zero_le _) (Nat.le_refl _))
  generalize hw6 : w5.alloc (.cells #[] 5) = w6 at hb6 HOw6 ⊢
  have HW6 := Lib.hid hb6
  clear hb6 hw6
  obtain ⟨i0, hi, hz0, hz1, hz2⟩ := info_parts infoU8
  have hbl : b.length ≤ 1048576 := by have := HBd.out; omega
  go_wp2_with fail
  go_loopw [11, 12] (fun u iv wr => ∃ i : Nat, i ≤ b.length ∧ iv = .int .i64 i ∧ wr.ownsRow w5.heap.size 5 1 u ((b.take i).filter fun z => !OO.contains z).length (((b.take i).filter fun z => !OO.contains z).map (Value.int .u8)) ∧ Below w5.heap.size w5 wr) (fun _ iv _ => b.length - (RowKit.intOf iv).toNat)
  case atStart => exact ⟨0, Nat.zero_le _, rfl, HOw6.out, HW6.out⟩
  case round =>
    obtain ⟨i, hil, rfl, hown, hbw⟩ := hrel
    have HW := Lib.hid hbw
    have HPr := Lib.hid (HP5.out.grows hbw)
    have t1 := HPr.out.cell 1 rfl
    by_cases hlt : i < b.length
    · obtain ⟨z, hz⟩ := get_of_lt hlt
      have hzb := HBy.out.at hz
      obtain ⟨b0, o0, rfl, x0⟩ := (HU.out wr (below_two HB5.out hbw)).at hz
      have HS := Lib.hid (filter_snoc (P := fun z => !OO.contains z) hz)
      have hlen : ((b.take i).filter fun z => !OO.contains z).length ≤ 1048576 := Nat.le_trans (List.length_filter_le _ _) (by rw [List.length_take]; omega)
      generalize ((b.take i).filter fun z => !OO.contains z) = F at hown HS hlen
      obtain ⟨nf, hnf⟩ : ∃ n, F.length = n := ⟨_, rfl⟩
      rw [hnf] at hown hlen
      have HNf := Lib.hid hnf
      have HOc := Lib.hid (fun W (hW : Below w5.heap.size w5 W) => occurs_any _ OO z W (HO5.out.grows hW) (by have := HL.out; omega) hzb)
      have HD := Lib.hid hbw.drew
      have HOn := Lib.hid hown
      clear hnf hz hown
      obtain ⟨up, uc, rfl⟩ := own_shape HOn.out
      cases hin : inB OO z with
      | true =>
        have HIn := Lib.hid (show (!OO.contains z) = false by unfold inB at hin; rw [hin]; rfl)
        rw [hin] at HOc
        clear hin
        go_wp2_with fail
        go_region_with (first | ((with_reducible refine (HOc.out _ HD.out).mono ?_); rintro e w7 ⟨rfl, hb7⟩) | fail)
        all_goals (
          have hb8 : Below w5.heap.size w5 w7 := below_two HD.out hb7
          have hr7 : Below wr.heap.size wr w7 := below_two (Below.refl wr.heap.size wr).drew hb7
          go_wp2
          go_roundw
          case rel => exact ⟨i + 1, by omega, by go_num, by rw [HS.out, HIn.out]; exact own_cast (own_below HOn.out hr7) (by simp [HNf.out]) (by simp), hb8⟩
          case measure => simp [RowKit.intOf]; omega)
      | false =>
        have HIn := Lib.hid (show (!OO.contains z) = true by unfold inB at hin; rw [hin]; rfl)
        rw [hin] at HOc
        clear hin
        go_wp2_with fail
        go_region_with (first | ((with_reducible refine (HOc.out _ HD.out).mono ?_); rintro e w7 ⟨rfl, hb7⟩) | fail)
        all_goals (
          have hb8 : Below w5.heap.size w5 w7 := below_two HD.out hb7
          have hr7 : Below wr.heap.size wr w7 := below_two (Below.refl wr.heap.size wr).drew hb7
          have y0 := (hr7.cell (lt_of_cell x0)).trans x0
          go_wp2_with (at_builtin; refine wpList_append_own _ rfl _ _ 22 rfl w5.heap.size 5 i0 (.int .u8 0) 1 1 Tryz.underlying22 hi hz0 hz1 hz2 rfl (by decide) _ _ _ rfl (own_alloc (own_below HOn.out hr7) _) ⟨w7.heap.size, 0, none⟩ 1 1 [.int .u8 z] rfl rfl (cell_one_new _ _ _) (by simp [Value.oneCell']) (by unfold maxLen; omega) (by omega) (by have := hb8.size; simp; omega) ?_; intro v' w8 hown2 hgrow _)
          go_roundw
          case rel =>
            have hg := own_ge HOn.out
            exact ⟨i + 1, by omega, by go_num, by rw [HS.out, HIn.out]; exact own_cast hown2 (by simp [HNf.out]) (by simp), (hb8.alloc hb8.size _).grown hgrow (by have := hb8.size; simp; omega) hg⟩
          case measure => simp [RowKit.intOf]; omega)
    · obtain rfl : i = b.length := by omega
      rw [List.take_length, HX1.out.1] at hown
      have hle := own_isY HX.out.byt hown
      obtain ⟨pl, cl, rfl, -⟩ := hle.shape
      rw [HX1.out.2] at hle
      have HLe := Lib.hid hle
      have HBr := Lib.hid (below_two HB5.out hbw)
      have HXr := Lib.hid (HX.out.grows hbw)
      have HOr := Lib.hid (HO5.out.grows hbw)
      have HEr := Lib.hid (HE5.out.grows hbw)
      have hgr : g8 < wr.heap.size := Nat.lt_of_lt_of_le Hg5.out hbw.size
      have Hgr := Lib.hid hgr
      clear hown hle hbw HOw6 HW6 HW HX HO5 HE5 HP5 HB5 Hg5 hlt hil hi hz0 hz1 hz2
      have hsl := fun W => slice_to p3 no c3 1 (by omega) W
      go_upto_region 12 with (first | (rw [hsl]) | fail)
      have hb7 : Below wr.heap.size wr (wr.alloc (.cells #[.int .i64 8, .slice p3 1 c3, .slice none 0 0] 24)) := by go_grown
      have P7 := Blk.new wr #[.int .i64 8, .slice p3 1 c3, .slice none 0 0] 24
      generalize (wr.alloc (.cells #[.int .i64 8, .slice p3 1 c3, .slice none 0 0] 24)) = w7 at hb7 P7 ⊢
      obtain ⟨h8, hh8⟩ : ∃ g, wr.heap.size = g := ⟨_, rfl⟩
      have hl7 := HLe.out.grows hb7
      have hx7 := HXr.out.grows hb7
      have ho7 := HOr.out.grows hb7
      have he7 := HEr.out.grows hb7
      have hB7 := below_two HBr.out hb7
      have hp7 := HPr.out.grows hb7
      have hh : h8 < w7.heap.size := by have := P7.lt; omega
      rw [hh8] at P7
      simp only [hh8]
      have hq7 : IsY w7 (.slice p3 1 c3) (OO.take 1) := ho7.take 1 (by have := HL.out; omega)
      obtain ⟨z0, hz0⟩ := get_of_lt (show 0 < OO.length by have := HL.out; omega)
      have hq1 : (OO.take 1).length = 1 := by rw [List.length_take]; have := HL.out; omega
      have hq0 : (OO.take 1).getD 0 0 = z0 := by rw [List.getD_eq_getElem?_getD, List.getElem?_take, if_pos (by decide), hz0]; rfl
      have hdoI := fun l => show doI 8 (OO.take 1) [] l = some (sqz z0 false l) by
        rw [doI_val2 (by rw [valI_8, decide_eq_true_iff]; exact ⟨hq1, rfl⟩), ← hq0]; rfl
      have HDo := Lib.hid (fun W (hW : Below w7.heap.size w7 W) (vy : Value) (l : List Int) (hy : IsY W vy l) (hl : l.length ≤ 1048576) => by
        have h := do_all _ vy 8 (OO.take 1) [] l W ⟨_, _, rfl, hq7.grows hW, IsY.nil W⟩ hy (by omega) (by simp) (by omega) (fun h => by omega) (HM.out W (below_two hB7 hW))
        rw [hdoI l] at h
        exact h)
      have HZ := Lib.hid hz0
      have HL7 := Lib.hid hl7
      have HX7 := Lib.hid hx7
      have HO7 := Lib.hid ho7
      have HE7 := Lib.hid he7
      have HP7 := Lib.hid hp7
      have HB7 := Lib.hid hB7
      have HQ7 := Lib.hid P7
      have Hh := Lib.hid (show h8 < w7.heap.size ∧ g8 < w7.heap.size by have := HPr.out.lt; have := hb7.size; omega)
      clear hl7 hx7 ho7 he7 hp7 hB7 P7 hq7 hq1 hq0 hdoI hz0 hb7 hh8 hh HLe HBr HXr HOr HEr HPr Hgr hgr t1
      obtain ⟨t0, t1, t2⟩ := (⟨HQ7.out.cell 0 rfl, HQ7.out.cell 1 rfl, HQ7.out.cell 2 rfl⟩ : _ ∧ _ ∧ _)
      go_wp2_with fail
      refine (HDo.out w7 (Below.refl _ _) _ b (HU.out w7 HB7.out) (by have := HBd.out; omega)).mono ?_
      rintro e w8 ⟨vy, rfl, hy, hb8⟩
      simp only [Option.getD_some, Option.isSome_some] at hy ⊢
      obtain ⟨Y, hY⟩ : ∃ R, sqz z0 false b = R := ⟨_, rfl⟩
      rw [hY] at hy
      have hYl : Y.length ≤ 1048576 := by have h1 := sqz_len z0 b false; have h2 := HBd.out; rw [hY] at h1; omega
      obtain ⟨py, cy, rfl, -⟩ := hy.shape
      have HY := Lib.hid hY
      have HIy := Lib.hid hy
      have HB8 := Lib.hid hb8
      have HYl := Lib.hid hYl
      clear t0 t1 t2 hY hy hb8
      have q8 := HQ7.out.grows HB8.out
      obtain ⟨t0, t1, t2⟩ := (⟨q8.cell 0 rfl, q8.cell 1 rfl, q8.cell 2 rfl⟩ : _ ∧ _ ∧ _)
      clear q8
      go_wp2_with fail
      refine (HDo.out w8 HB8.out _ Y HIy.out HYl.out).mono ?_
      rintro e w9 ⟨va, rfl, ha, hb9⟩
      simp only [Option.getD_some, Option.isSome_some] at ha ⊢
      rw [show sqz z0 false Y = Y by rw [← HY.out]; exact sqz_idem _ _ _] at ha
      obtain ⟨pa, ca, rfl, -⟩ := ha.shape
      have HIa := Lib.hid ha
      have HB9 := Lib.hid (below_two HB8.out hb9)
      have HIy9 := Lib.hid (HIy.out.grows hb9)
      clear t0 t1 t2 ha hb9 HDo HQ7 HB8 HIy hYl hsl
      have HYi := Lib.hid (show ∀ i, Y[i]? = some z0 → Y[i + 1]? ≠ some z0 by rw [← HY.out]; exact sqz_no2 z0 b false)
      clear HY
      go_wp2_with fail
      go_loopw [18] (fun iv wr => ∃ i : Nat, i ≤ Y.length ∧ iv = .int .i64 i ∧ Below w9.heap.size w9 wr) (fun iv _ => Y.length - (RowKit.intOf iv).toNat)
      case atStart => exact ⟨0, Nat.zero_le _, rfl, Below.refl _ _⟩
      case round =>
        obtain ⟨i, hil, rfl, hbw⟩ := hrel
        have HW := Lib.hid hbw
        have hy20 := HYl.out
        have w1 : IntKind.i64.wrap ((i : Int) + 1) = ((i + 1 : Nat) : Int) := by rw [IntWalk.i64_in _ (by omega)]; omega
        by_cases hlt : i + 1 < Y.length
        · have hdk : decide (((i + 1 : Nat) : Int) < (Y.length : Int)) = true := by rw [decide_eq_true_iff]; omega
          obtain ⟨x, hx⟩ := get_of_lt (show i < Y.length by omega)
          obtain ⟨y, hy⟩ := get_of_lt hlt
          have HN2 := Lib.hid (show x = z0 → y ≠ z0 from fun h1 h2 => HYi.out i (h1 ▸ hx) (h2 ▸ hy))
          have hy9 := HIy9.out.grows hbw
          have ho9 := HO7.out.grows (below_two HB9.out hbw)
          obtain ⟨b1, o1, rfl, c1⟩ := hy9.at hx
          obtain ⟨b2, o2, e2, c2⟩ := hy9.at hy
          obtain ⟨b4, o4, rfl, c4⟩ := ho9.at HZ.out
          cases e2
          have c5 : wr.cell? ⟨b4, o4, none⟩ = some (.int .u8 z0) := c4
          have t1 := (HP7.out.grows (below_two HB9.out hbw)).cell 1 rfl
          have hii : i < Y.length := by omega
          have hdi : decide ((i : Int) < (Y.length : Int)) = true := by rw [decide_eq_true_iff]; omega
          obtain ⟨hno1, -⟩ := hno8
          have hd0 : decide ((0 : Int) < (no : Int)) = true := by rw [decide_eq_true_iff]; omega
          have hno2 : 0 < no := by omega
          have hno3 : (0 : Int) < (no : Int) := by omega
          clear hx hy hy9 ho9 hbw HU HIy9 HO7 HIa HL7 HX7
          by_cases hxz : x = z0
          · subst hxz
            have hne : (y == x) = false := by rw [beq_eq_false_iff_ne]; exact HN2.out rfl
            go_wp2_with fail
            go_quiet (fail)
            go_wp2
            go_roundw
            case rel => exact ⟨i + 1, by omega, by go_num, below_drews HW.out _⟩
            case measure => simp [RowKit.intOf]; omega
          · have hne : (x == z0) = false := by rw [beq_eq_false_iff_ne]; exact hxz
            go_wp2_with fail
            go_quiet (fail)
            go_wp2
            go_roundw
            case rel => exact ⟨i + 1, by omega, by go_num, below_drews HW.out _⟩
            case measure => simp [RowKit.intOf]; omega
        · have hdk : decide (((i + 1 : Nat) : Int) < (Y.length : Int)) = false := by rw [decide_eq_false_iff_not]; omega
          have HWr := Lib.hid (below_two HB9.out hbw)
          have E9 := HE7.out.grows HWr.out
          obtain ⟨a0, a1, a2, a3, -⟩ := E9.four
          go_wp2_with fail
          refine (trim_any _ c b wr (HU.out wr (below_two HB7.out HWr.out)) (by have := HBd.out; omega)).mono ?_
          rintro e w10 ⟨f, t, z10, hT, rfl, hz10, hb10⟩
          obtain ⟨T, hTT⟩ : ∃ T, (b.take t).drop f = T := ⟨_, rfl⟩
          rw [hTT] at hz10
          obtain ⟨pt, ct, rfl, -⟩ := hz10.shape
          have HTr := Lib.hid (And.intro hT hTT.symm)
          have HZt := Lib.hid hz10
          have HF := Lib.hid (fun W (hW : Below w10.heap.size w10 W) => below_two (below_two HWr.out hb10) hW)
          have HG9 := Lib.hid (fun W (hW : Below w10.heap.size w10 W) => below_two (below_two HW.out hb10) hW)
          have HXF := Lib.hid (fun W (hW : Below w10.heap.size w10 W) => HX7.out.grows (HF.out W hW))
          have HLF := Lib.hid (fun W (hW : Below w10.heap.size w10 W) => show IsY W (.slice pl X1.length cl) X1 by have h := HL7.out.grows (HF.out W hW); rw [← HX1.out.2] at h; exact h)
          have HAF := Lib.hid (fun W (hW : Below w10.heap.size w10 W) => HIa.out.grows (HG9.out W hW))
          have HYF := Lib.hid (fun W (hW : Below w10.heap.size w10 W) => HIy9.out.grows (HG9.out W hW))
          have HUF := Lib.hid (fun W (hW : Below w10.heap.size w10 W) => HU.out W (below_two HB7.out (HF.out W hW)))
          have HEF := Lib.hid (fun W (hW : Below w10.heap.size w10 W) => HE7.out.grows (HF.out W hW))
          have HBF := Lib.hid (fun W (hW : Below w10.heap.size w10 W) => below_two HB7.out (HF.out W hW))
          have HTl := Lib.hid (show T.length ≤ 1048576 by have h := HBd.out; rw [← hTT, List.length_drop, List.length_take]; omega)
          clear a0 a1 a2 a3 E9 hT hTT hz10 hb10 hbw HW HWr hdk hlt w1 hy20
          obtain ⟨nT, hnT⟩ : ∃ n, T.length = n := ⟨_, rfl⟩
          have HnT := Lib.hid hnT
          rw [hnT] at HZt ⊢
          have HZF := Lib.hid (fun W (hW : Below w10.heap.size w10 W) => HZt.out.grows hW)
          clear HZt hnT
          rcases Nat.eq_zero_or_pos nT with h0 | hpos
          · subst h0
            obtain ⟨a0, a1, a2, a3, -⟩ := (HEF.out _ (Below.refl _ _)).four
            go_wp2_with fail
            go_quiet (fail)
            go_wp2_with fail
            refine (same_any _ _ X1 X1 _ (HXF.out _ (below_drews (Below.refl _ _) _)) (HLF.out _ (below_drews (Below.refl _ _) _))).mono ?_
            rintro e w' ⟨rfl, rfl⟩
            rw [eqY_iff.2 rfl]
            go_wp2_with fail
            refine (same_any _ _ Y Y _ (HAF.out _ (below_drews (Below.refl _ _) _)) (HYF.out _ (below_drews (Below.refl _ _) _))).mono ?_
            rintro e w' ⟨rfl, rfl⟩
            rw [eqY_iff.2 rfl]
            go_wp2_with fail
            refine (trim_any _ c T _ (HZF.out _ (below_drews (Below.refl _ _) _)) (by have := HTl.out; omega)).mono ?_
            rintro e w20 ⟨f', t', z20, hT', rfl, hz20, hb20⟩
            rw [trim_again HTr.out.1 HTr.out.2 hT'] at hz20
            obtain ⟨pz, cz, rfl, -⟩ := hz20.shape
            have hzT := (HZF.out _ (below_drews (Below.refl _ _) _)).grows hb20
            have huT := (HUF.out _ (below_drews (Below.refl _ _) _)).grows hb20
            have E20 := (HEF.out _ (below_drews (Below.refl _ _) _)).grows hb20
            have HBe := Lib.hid (below_two (HBF.out _ (below_drews (Below.refl _ _) _)) hb20)
            obtain ⟨a0, a1, a2, a3, -⟩ := E20.four
            clear hb20
            go_wp2_with fail
            refine (same_any _ _ T T _ hz20 hzT).mono ?_
            rintro e w' ⟨rfl, rfl⟩
            rw [eqY_iff.2 rfl]
            go_wp2_with fail
            refine (between_any _ _ c b T f t _ huT hzT (by have := HBd.out; omega) HTr.out.1 HTr.out.2).mono ?_
            rintro e w21 ⟨rfl, hb21⟩
            go_wp2
            go_ret
            exact ⟨rfl, below_two HBe.out hb21⟩
          · have hdr : Below w10.heap.size w10 w10.drew := by go_grown
            have HZd10 := Lib.hid (HZF.out _ hdr)
            have HEd10 := Lib.hid (HEF.out _ hdr)
            have HBd10 := Lib.hid hdr
            obtain ⟨x, y, hx, px, hy, py⟩ := trim_ends HTr.out.1 HTr.out.2 (by have := HnT.out; omega)
            rw [HnT.out] at hy
            obtain ⟨m, hm⟩ : ∃ m, nT - 1 = m := ⟨_, rfl⟩
            rw [hm] at hy
            have hx8 := HZd10.out.byt.at hx
            have hy8 := HZd10.out.byt.at hy
            have hpx : mem c x.toNat = false := px
            have hpy : mem c y.toNat = false := py
            obtain ⟨b5, o5, rfl, cx⟩ := HZd10.out.at hx
            obtain ⟨b6, o6, e6, cy⟩ := HZd10.out.at hy
            cases e6
            have HXx := Lib.hid hx
            have HXy := Lib.hid hy
            obtain ⟨a0, a1, a2, a3, -⟩ := HEd10.out.four
            have HS10 : Hid (w10.drew.cell? ⟨w.heap.size + 1, 0, none⟩ = some (.int .u64 (wd c 0)) ∧ w10.drew.cell? ⟨w.heap.size + 1, 1, none⟩ = some (.int .u64 (wd c 1)) ∧ w10.drew.cell? ⟨w.heap.size + 1, 2, none⟩ = some (.int .u64 (wd c 2)) ∧ w10.drew.cell? ⟨w.heap.size + 1, 3, none⟩ = some (.int .u64 (wd c 3)) ∧ w10.drew.cell? ⟨b5, o5, none⟩ = some (.int .u8 x) ∧ w10.drew.cell? ⟨b5, o5 + m, none⟩ = some (.int .u8 y)) := Lib.hid ⟨a0, a1, a2, a3, cx, cy⟩
            have hnT20 := HTl.out
            rw [HnT.out] at hnT20
            have w1 : IntKind.i64.wrap ((nT : Int) - 1) = (m : Int) := by rw [IntWalk.i64_in _ (by omega)]; omega
            have hd1 : decide ((m : Int) < (nT : Int)) = true := by rw [decide_eq_true_iff]; omega
            have hm1 : (m : Int) < (nT : Int) := by omega
            have hm2 : m < nT := by omega
            have hm3 : (0 : Int) < (nT : Int) := by omega
            have hd0 : decide ((0 : Int) < (nT : Int)) = true := by rw [decide_eq_true_iff]; omega
            have hd2 : decide ((nT : Int) = 0) = false := by rw [decide_eq_false_iff_not]; omega
            have hd3 : ((nT : Int) == 0) = false := by rw [beq_eq_false_iff_ne]; omega
            clear hx hy px py cx cy a0 a1 a2 a3 hdr
            go_wp2_with fail
            go_region_held3 (fun W => W.cell? ⟨w.heap.size + 1, 0, none⟩ = some (.int .u64 (wd c 0)) ∧ W.cell? ⟨w.heap.size + 1, 1, none⟩ = some (.int .u64 (wd c 1)) ∧ W.cell? ⟨w.heap.size + 1, 2, none⟩ = some (.int .u64 (wd c 2)) ∧ W.cell? ⟨w.heap.size + 1, 3, none⟩ = some (.int .u64 (wd c 3)) ∧ W.cell? ⟨b5, o5, none⟩ = some (.int .u8 x) ∧ W.cell? ⟨b5, o5 + m, none⟩ = some (.int .u8 y))
              (first | (with_reducible exact HS10.out) | (with_reducible exact HS11.out) | (with_reducible exact HS12.out) | fail)
              (first
                | (go_at_call 30; (with_reducible refine (member8_any c x _ hx8.1 hx8.2).mono ?_); rintro e w11 ⟨rfl, hb11⟩; rw [hpx]; have E := HEd10.out.grows hb11; have Z := HZd10.out.grows hb11; have HBd11 := Lib.hid (below_two HBd10.out hb11); obtain ⟨a0, a1, a2, a3, -⟩ := E.four; obtain ⟨b6, o6, e6, cx⟩ := Z.at HXx.out; cases e6; obtain ⟨b6, o6, e6, cy⟩ := Z.at HXy.out; cases e6; have HS11 : Hid (w11.cell? ⟨w.heap.size + 1, 0, none⟩ = some (.int .u64 (wd c 0)) ∧ w11.cell? ⟨w.heap.size + 1, 1, none⟩ = some (.int .u64 (wd c 1)) ∧ w11.cell? ⟨w.heap.size + 1, 2, none⟩ = some (.int .u64 (wd c 2)) ∧ w11.cell? ⟨w.heap.size + 1, 3, none⟩ = some (.int .u64 (wd c 3)) ∧ w11.cell? ⟨b5, o5, none⟩ = some (.int .u8 x) ∧ w11.cell? ⟨b5, o5 + m, none⟩ = some (.int .u8 y)) := Lib.hid ⟨a0, a1, a2, a3, cx, cy⟩; have HEd11 := Lib.hid E; have HZd11 := Lib.hid Z; clear hb11 E Z a0 a1 a2 a3 cx cy)
                | (go_at_call 30; (with_reducible refine (member8_any c y _ hy8.1 hy8.2).mono ?_); rintro e w12 ⟨rfl, hb12⟩; rw [hpy]; have E := HEd11.out.grows hb12; have Z := HZd11.out.grows hb12; have HBd12 := Lib.hid (below_two HBd11.out hb12); obtain ⟨a0, a1, a2, a3, -⟩ := E.four; obtain ⟨b6, o6, e6, cx⟩ := Z.at HXx.out; cases e6; obtain ⟨b6, o6, e6, cy⟩ := Z.at HXy.out; cases e6; have HS12 : Hid (w12.cell? ⟨w.heap.size + 1, 0, none⟩ = some (.int .u64 (wd c 0)) ∧ w12.cell? ⟨w.heap.size + 1, 1, none⟩ = some (.int .u64 (wd c 1)) ∧ w12.cell? ⟨w.heap.size + 1, 2, none⟩ = some (.int .u64 (wd c 2)) ∧ w12.cell? ⟨w.heap.size + 1, 3, none⟩ = some (.int .u64 (wd c 3)) ∧ w12.cell? ⟨b5, o5, none⟩ = some (.int .u8 x) ∧ w12.cell? ⟨b5, o5 + m, none⟩ = some (.int .u8 y)) := Lib.hid ⟨a0, a1, a2, a3, cx, cy⟩; have HEd12 := Lib.hid E; have HZd12 := Lib.hid Z; clear hb12 E Z a0 a1 a2 a3 cx cy)
                | fail)
            all_goals
              go_wp2_with fail
              refine (same_any _ _ X1 X1 _ (HXF.out _ HBd12.out) (HLF.out _ HBd12.out)).mono ?_
              rintro e w' ⟨rfl, rfl⟩
              rw [eqY_iff.2 rfl]
              go_wp2_with fail
              refine (same_any _ _ Y Y _ (HAF.out _ HBd12.out) (HYF.out _ HBd12.out)).mono ?_
              rintro e w' ⟨rfl, rfl⟩
              rw [eqY_iff.2 rfl]
              go_wp2_with fail
              refine (trim_any _ c T _ (HZF.out _ HBd12.out) (by have := HTl.out; omega)).mono ?_
              rintro e w20 ⟨f', t', z20, hT', rfl, hz20, hb20⟩
              rw [trim_again HTr.out.1 HTr.out.2 hT'] at hz20
              obtain ⟨pz, cz, rfl, -⟩ := hz20.shape
              have hzT := (HZF.out _ HBd12.out).grows hb20
              have huT := (HUF.out _ HBd12.out).grows hb20
              have E20 := (HEF.out _ HBd12.out).grows hb20
              have HBe := Lib.hid (below_two (HBF.out _ HBd12.out) hb20)
              obtain ⟨a0, a1, a2, a3, -⟩ := E20.four
              clear hb20
              go_wp2_with fail
              refine (same_any _ _ T T _ hz20 hzT).mono ?_
              rintro e w' ⟨rfl, rfl⟩
              rw [eqY_iff.2 rfl]
              go_wp2_with fail
              refine (between_any _ _ c b T f t _ huT hzT (by have := HBd.out; omega) HTr.out.1 HTr.out.2).mono ?_
              rintro e w21 ⟨rfl, hb21⟩
              go_wp2
              go_ret
              exact ⟨rfl, below_two HBe.out hb21⟩
end Go.Proofs.YtkhphiilnplgjaaGreatDoor
