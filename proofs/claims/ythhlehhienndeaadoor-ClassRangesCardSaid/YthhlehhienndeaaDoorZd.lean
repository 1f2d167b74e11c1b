/-
  Walks: the reference's Cells.
-/
import Derived.Test.YthhlehhienndeaaDoorZc
set_option linter.unusedSimpArgs false
set_option linter.unusedVariables false
namespace Go.Proofs.YthhlehhienndeaaDoor
open Go.RowKit Go.Shelf Go.Lib

/-- the four cells of one class of an owned row may be written. -/
theorem own_ready {w : World} {base g cap : Nat} {e : TypeId} {l : List (BitVec 256)} (h : w.ownsRow base e 4 (.slice (some ⟨g, 0, none⟩) l.length cap) l.length (l.flatMap encC)) (k : Nat) (x : BitVec 256) (hk : l[k]? = some x) (u0 u1 u2 : Value) :
    w.cell? ⟨g, k * 4, none⟩ = some (.int .u64 (wd x 0)) ∧ (w.setCell ⟨g, k * 4, none⟩ u0).cell? ⟨g, k * 4 + 1, none⟩ = some (.int .u64 (wd x 1)) ∧
    ((w.setCell ⟨g, k * 4, none⟩ u0).setCell ⟨g, k * 4 + 1, none⟩ u1).cell? ⟨g, k * 4 + 2, none⟩ = some (.int .u64 (wd x 2)) ∧
    (((w.setCell ⟨g, k * 4, none⟩ u0).setCell ⟨g, k * 4 + 1, none⟩ u1).setCell ⟨g, k * 4 + 2, none⟩ u2).cell? ⟨g, k * 4 + 3, none⟩ = some (.int .u64 (wd x 3)) ∧
    w.frozen? ⟨g, k * 4, none⟩ = false ∧ w.frozen? ⟨g, k * 4 + 1, none⟩ = false ∧ w.frozen? ⟨g, k * 4 + 2, none⟩ = false ∧ w.frozen? ⟨g, k * 4 + 3, none⟩ = false := by
  have hkl : k < l.length := (List.getElem?_eq_some_iff.1 hk).1
  obtain ⟨g', cap', cur, hv, _, hh, _, _, _, _, hr⟩ := own_readC h (by omega)
  simp only [Value.slice.injEq, Option.some.injEq, Addr.mk.injEq, and_true, true_and] at hv
  obtain ⟨rfl, rfl⟩ := hv
  have hb : Blk w g cur e := ⟨hh⟩
  obtain ⟨a0, a1, a2, a3⟩ := hr.four k x hk
  rw [Nat.zero_add] at a0 a1 a2 a3
  have hne (i j : Nat) (h : i ≠ j) : (⟨g, i, none⟩ : Addr) ≠ ⟨g, j, none⟩ := by intro h'; simp only [Addr.mk.injEq] at h'; omega
  have n01 := hne (k * 4) (k * 4 + 1) (by omega)
  have n02 := hne (k * 4) (k * 4 + 2) (by omega)
  have n03 := hne (k * 4) (k * 4 + 3) (by omega)
  have n12 := hne (k * 4 + 1) (k * 4 + 2) (by omega)
  have n13 := hne (k * 4 + 1) (k * 4 + 3) (by omega)
  have n23 := hne (k * 4 + 2) (k * 4 + 3) (by omega)
  refine ⟨a0, ?_, ?_, ?_, hb.free _, hb.free _, hb.free _, hb.free _⟩
  · rw [World.cell?_setCell_other (h := n01)]; exact a1
  · rw [World.cell?_setCell_other (h := n12), World.cell?_setCell_other (h := n02)]; exact a2
  · rw [World.cell?_setCell_other (h := n23), World.cell?_setCell_other (h := n13), World.cell?_setCell_other (h := n03)]; exact a3

theorem flat_zero (l : List (BitVec 256)) : l.flatMap encC ++ [.int .u64 0, .int .u64 0, .int .u64 0, .int .u64 0] = (l ++ [0]).flatMap encC := by
  have h0 : encC (0 : BitVec 256) = [.int .u64 0, .int .u64 0, .int .u64 0, .int .u64 0] := by unfold encC; rw [wd_zero, wd_zero, wd_zero, wd_zero]
  rw [List.flatMap_append, List.flatMap_singleton, h0]
theorem one_zero : ∀ v ∈ [Value.int .u64 0, .int .u64 0, .int .u64 0, .int .u64 0], v.oneCell' = true := by decide
/-- the read of one class of an owned row. -/
theorem own_four {w : World} {base g cap : Nat} {e : TypeId} {l : List (BitVec 256)} (h : w.ownsRow base e 4 (.slice (some ⟨g, 0, none⟩) l.length cap) l.length (l.flatMap encC)) (k : Nat) (x : BitVec 256) (hk : l[k]? = some x) :
    w.cell? ⟨g, k * 4, none⟩ = some (.int .u64 (wd x 0)) ∧ w.cell? ⟨g, k * 4 + 1, none⟩ = some (.int .u64 (wd x 1)) ∧
    w.cell? ⟨g, k * 4 + 2, none⟩ = some (.int .u64 (wd x 2)) ∧ w.cell? ⟨g, k * 4 + 3, none⟩ = some (.int .u64 (wd x 3)) := by
  have hkl : k < l.length := (List.getElem?_eq_some_iff.1 hk).1
  obtain ⟨g', cap', cur, hv, _, hh, _, _, _, _, hr⟩ := own_readC h (by omega)
  simp only [Value.slice.injEq, Option.some.injEq, Addr.mk.injEq, and_true, true_and] at hv
  obtain ⟨rfl, rfl⟩ := hv
  have hh := hr.four k x hk
  rw [Nat.zero_add] at hh
  exact hh

def NoneAlike (l : List (BitVec 256)) (i k : Nat) : Prop := ∀ j, j < k → ∀ r, (reps l i)[j]? = some r → alike l r i = false
theorem own_readB {w : World} {base : Nat} {e : TypeId} {v : Value} {l : List Nat} (h : w.ownsRow base e 1 v l.length (byteVals l)) (h0 : 0 < l.length) :
    ∃ g cap, v = .slice (some ⟨g, 0, none⟩) l.length cap ∧ g < w.heap.size ∧ ∀ (k r : Nat), l[k]? = some r → w.cell? ⟨g, k, none⟩ = some (.int .u8 (r : Int)) := by
  obtain ⟨g, cap, hv, _, hlt, _, hc⟩ := own_read h h0
  exact ⟨g, cap, hv, hlt, fun k r hk => hc k _ (by unfold byteVals; rw [List.getElem?_map, hk]; rfl)⟩

set_option maxRecDepth 100000 in
set_option maxHeartbeats 2000000 in
theorem rcells_any (v : Value) (l : List (BitVec 256)) (w : World) (hv : IsC w v l) (hl : l.length ≤ 1000) :
    Calls Tryd.prog 32 #[v] w fun e w' =>
      ∃ v, e = .returned v ∧ w'.ownsRow w.heap.size 24 4 v (canon l).length ((canon l).flatMap encC) ∧ Below w.heap.size w w' := by
  obtain ⟨i0, hi, hz0, hz1, hz2⟩ := info_parts infoC
  obtain ⟨j0, hj, hy0, hy1, hy2⟩ := info_parts infoByte
  have HV := Lib.hid hv
  clear hv
  go_enter Tryd.func32, Tryd.ntmps32
  go_wp2_with fail
  go_loopw [3, 4, 5] (fun vo vl q wr => ∃ i : Nat, i ≤ 256 ∧ q = .int .i64 i ∧ wr.ownsRow w.heap.size 24 4 vo (outAt l i).length ((outAt l i).flatMap encC) ∧ wr.ownsRow w.heap.size 5 1 vl (reps l i).length (byteVals (reps l i)) ∧ Below w.heap.size w wr) (fun _ _ q _ => 256 - (intOf q).toNat)
  case atStart =>
    refine ⟨0, Nat.zero_le _, rfl, ?_, ?_, ?_⟩
    · exact own_alloc (own_of_blk (Blk.new w _ _) 0 4 rfl (Nat.zero_le _) (Nat.le_refl _)) _
    · exact own_of_blk (Blk.alloc1 w _ _ _ _ _) 0 1 rfl (Nat.zero_le _) (by omega)
    · go_grown
  case round =>
    obtain ⟨i, hi256, rfl, hout, hleast, hbw⟩ := hrel
    obtain ⟨po, co, rfl⟩ := own_shape hout
    obtain ⟨pl, cl, rfl⟩ := own_shape hleast
    by_cases hlt : i < 256
    · have hrl := reps_le l i
      have hol := outAt_len l i
      have HO := Lib.hid hout
      have HL := Lib.hid hleast
      have HLen := Lib.hid hol
      rw [hol]
      clear hout hleast hol
      have hd : decide ((i : Int) < 256) = true := by simp; omega
      go_wp2_with fail
      obtain ⟨wo, rfl⟩ : ∃ wo : World, wo = wr := ⟨_, rfl⟩
      go_loopw [6] (fun q wi => ∃ k : Nat, k ≤ (reps l i).length ∧ q = .int .i64 k ∧ NoneAlike l i k ∧ wi.ownsRow w.heap.size 24 4 (.slice po (reps l i).length co) (outAt l i).length ((outAt l i).flatMap encC) ∧ wi.ownsRow w.heap.size 5 1 (.slice pl (reps l i).length cl) (reps l i).length (byteVals (reps l i)) ∧ Below w.heap.size w wi) (fun q _ => (reps l i).length - (intOf q).toNat)
      case atStart =>
        exact ⟨0, Nat.zero_le _, rfl, fun j hj => by omega, by have h := HO.out; rw [HLen.out] at h ⊢; exact h, HL.out, hbw⟩
      case round =>
        obtain ⟨k, hk, rfl, hno, hout, hleast, hbw⟩ := hrel
        have HN := Lib.hid hno
        clear hno HO HL
        by_cases hkn : k < (reps l i).length
        · obtain ⟨gl, cl2, hvl, hgl, hcl⟩ := own_readB hleast (by omega)
          simp only [Value.slice.injEq, true_and] at hvl
          obtain ⟨rfl, rfl⟩ := hvl
          obtain ⟨r, hr⟩ : ∃ r, (reps l i)[k]? = some r := ⟨_, List.getElem?_eq_getElem hkn⟩
          have hc := hcl k r hr
          have hr256 : r < 256 := by have := ((reps_mem l i r).1 (List.mem_of_getElem? hr)).1; omega
          cases hal : alike l r i
          · have HN2 := Lib.hid (show NoneAlike l i (k + 1) from fun j hj r' hr' => by
              rcases Nat.lt_or_ge j k with h | h
              · exact HN.out j h r' hr'
              · obtain rfl : j = k := by omega
                rw [hr] at hr'; cases hr'; exact hal)
            have HA := Lib.hid (And.intro hout hleast)
            clear hcl hr HN hout hleast
            go_wp2_with (go_at_call 50; refine (ralike_any v l r i (by omega) (by omega) (by omega) (by omega) _ (HV.out.grows (hbw.mono (Nat.le_refl _))) hl).mono ?_; rintro e w1 ⟨rfl, hb1⟩)
            go_roundw
            case measure => simp [intOf]; omega
            case rel => exact ⟨k + 1, by omega, by go_num, HN2.out, own_below HA.out.1 hb1, own_below HA.out.2 hb1, hbw.trans (hb1.mono hbw.size)⟩
          · have HK := Lib.hid (reps_old hr hal)
            have hkl : k < (outAt l i).length := by rw [HLen.out]; exact hkn
            have hout2 := hout
            rw [← HLen.out] at hout2
            obtain ⟨g, cp, cur, hvo, hgb, hh, hcap, hm, hsz, htk, hread⟩ := own_readC hout2 (by omega)
            have hvo2 := hvo
            simp only [Value.slice.injEq] at hvo2
            obtain ⟨rfl, -, rfl⟩ := hvo2
            have HA := Lib.hid (And.intro hout2 (And.intro hleast (And.intro hread HK.out.2.2)))
            have hkne : ((k : Int) == ((reps l i).length : Int)) = false := by simp; omega
            have hd2 : decide ((k : Int) < ((reps l i).length : Int)) = true := by simp; omega
            clear hcl hr HN hout hout2 hleast hread htk hsz hm hh hvo
            go_wp2_with (first | (go_at_call 50; refine (ralike_any v l r i (by omega) (by omega) (by omega) (by omega) _ (HV.out.grows (hbw.mono (Nat.le_refl _))) hl).mono ?_; rintro e w1 ⟨rfl, hb1⟩; obtain ⟨a0, a1, a2, a3⟩ := (HA.out.2.2.1.grows (hb1.mono (Nat.le_refl _))).four k _ HA.out.2.2.2; rw [Nat.zero_add] at a0 a1 a2 a3) | (go_at_call 38; go_loud (refine (rwith_any (sel (fun j => alike l r j) i) i _ (by omega) (by omega)).mono ?_; rintro e w2 ⟨rfl, hb2⟩; obtain ⟨b0, b1, b2, b3, f0, f1, f2, f3⟩ := own_ready (own_below (own_below HA.out.1 hb1) hb2) k _ HA.out.2.2.2 (.int .u64 (wd (sel (fun j => alike l r j) i ||| bit i) 0)) (.int .u64 (wd (sel (fun j => alike l r j) i ||| bit i) 1)) (.int .u64 (wd (sel (fun j => alike l r j) i ||| bit i) 2)))))
            obtain ⟨e1, e2, -⟩ := HK.out
            have h2 := own_store (own_below (own_below HA.out.1 hb1) hb2) k hkl (sel (fun j => alike l r j) i ||| bit i)
            rw [← e2, HLen.out] at h2
            have h3 := own_other4 (g := g) (own_below (own_below HA.out.2.1 hb1) hb2) (own_apart HA.out.1 HA.out.2.1 (by decide) g rfl) (k * 4) (k * 4 + 1) (k * 4 + 2) (k * 4 + 3) (.int .u64 (wd (sel (fun j => alike l r j) i ||| bit i) 0)) (.int .u64 (wd (sel (fun j => alike l r j) i ||| bit i) 1)) (.int .u64 (wd (sel (fun j => alike l r j) i ||| bit i) 2)) (.int .u64 (wd (sel (fun j => alike l r j) i ||| bit i) 3))
            have hb3 := (hbw.trans (hb1.mono hbw.size)).trans (hb2.mono (by have := hbw.size; have := hb1.size; omega))
            exact ⟨⟨i + 1, by omega, by go_num, h2, own_cast h3 (by rw [e1]) (by rw [e1]), (((hb3.setCell hgb _).setCell hgb _).setCell hgb _).setCell hgb _⟩, by simp [intOf]; omega⟩
        · obtain rfl : k = (reps l i).length := by omega
          have HR := Lib.hid (reps_new (i := i) fun r hr => by
            obtain ⟨j, hj⟩ := List.getElem?_of_mem hr
            exact HN.out j (List.getElem?_eq_some_iff.1 hj).1 r hj)
          have hd2 : decide (((reps l i).length : Int) < ((reps l i).length : Int)) = false := by simp
          have hkeq : (((reps l i).length : Int) == ((reps l i).length : Int)) = true := by simp
          have hapart := own_apart hout hleast (by decide)
          have HA := Lib.hid (And.intro (own_cast hout HLen.out rfl) (And.intro hleast hapart))
          clear hout hleast hapart HN
          generalize hn : (reps l i).length = n at HA HLen hd2 hkeq hrl hk hkn ⊢
          have hlen : (outAt l i ++ [0]).length = n + 1 := by rw [List.length_append, HLen.out]; rfl
          have hget : (outAt l i ++ [0])[n]? = some 0 := by rw [List.getElem?_append_right (by rw [HLen.out]; omega), HLen.out]; simp
          have HG := Lib.hid (And.intro hlen hget)
          clear hlen hget
          go_wp2_with (first
            | (at_builtin; refine wpList_append_own _ rfl _ _ 33 rfl w.heap.size 24 i0 _ 4 32 Tryd.underlying33 hi hz0 hz1 hz2 rfl (by decide) _ _ _ rfl (own_alloc HA.out.1 _) ⟨wr.heap.size, 0, none⟩ 1 1 [.int .u64 0, .int .u64 0, .int .u64 0, .int .u64 0] rfl rfl (cells_new4 _ _ _ _ _ _ _ rfl) one_zero (by unfold maxLen; omega) (by omega) (by have := hbw.size; simp; omega) ?_; intro v1 w1 hown1 hgrow1 _
               have hle1 := own_grown (own_alloc HA.out.2.1 _) hgrow1 HA.out.2.2
               have hbw1 := (hbw.alloc hbw.size _).grown hgrow1 (by have := hbw.size; simp; omega) (own_ge HA.out.1)
               have hX := own_cast hown1 HG.out.1.symm (flat_zero (outAt l i))
               obtain ⟨g, cp, cur, hv1, hgb, -⟩ := own_readC hX (by rw [HG.out.1]; omega)
               rw [hv1] at hX
               have HB := Lib.hid (And.intro hX (And.intro hle1 (And.intro (own_apart hle1 hX (by decide)) (And.intro hbw1 hgb))))
               clear hX hle1 hown1 hgrow1 hbw1 hgb
               rw [HG.out.1] at hv1
               subst hv1)
            | (at_builtin; refine wpList_append_own _ rfl _ _ 25 rfl w.heap.size 5 j0 (.int .u8 0) 1 1 Tryd.underlying25 hj hy0 hy1 hy2 rfl (by decide) _ _ _ rfl (own_alloc HB.out.2.1 _) ⟨w1.heap.size, 0, none⟩ 1 1 [.int .u8 i] rfl rfl (cell_one_new _ _ _) (by simp [Value.oneCell']) (by unfold maxLen; omega) (by omega) (by have := HB.out.2.2.2.1.size; simp; omega) ?_; intro v2 w2 hown2 hgrow2 _
               have hX2 := own_grown (own_alloc HB.out.1 _) hgrow2 HB.out.2.2.1
               have hbw2 := (HB.out.2.2.2.1.alloc HB.out.2.2.2.1.size _).grown hgrow2 (by have := HB.out.2.2.2.1.size; simp; omega) (own_ge HB.out.2.1)
               obtain ⟨p2, c2, rfl⟩ := own_shape hown2
               obtain ⟨a0, a1, a2, a3⟩ := own_four hX2 n 0 HG.out.2
               have HC := Lib.hid (And.intro hX2 (And.intro hown2 hbw2))
               clear hX2 hown2 hbw2 hgrow2)
            | (go_at_call 38; refine (rwith_any 0 i _ (by omega) (by omega)).mono ?_; rintro e w3 ⟨rfl, hb3⟩
               obtain ⟨b0, b1, b2, b3, f0, f1, f2, f3⟩ := own_ready (own_below HC.out.1 hb3) n 0 HG.out.2 (.int .u64 (wd (bit i) 0)) (.int .u64 (wd (bit i) 1)) (.int .u64 (wd (bit i) 2))))
          have e0 : (0 : BitVec 256) ||| bit i = bit i := by simp
          obtain ⟨e1, e2⟩ := HR.out
          have es : (outAt l i ++ [0]).set n (bit i) = outAt l i ++ [bit i] := by rw [List.set_append_right _ _ (by rw [HLen.out]; omega), HLen.out]; simp
          have h2 := own_store (own_below HC.out.1 hb3) n (by rw [HG.out.1]; omega) (bit i)
          rw [es, ← e2, HG.out.1] at h2
          have h3 := own_other4 (g := g) (own_below HC.out.2.1 hb3) (own_apart HC.out.1 HC.out.2.1 (by decide) g rfl) (n * 4) (n * 4 + 1) (n * 4 + 2) (n * 4 + 3) (.int .u64 (wd (bit i) 0)) (.int .u64 (wd (bit i) 1)) (.int .u64 (wd (bit i) 2)) (.int .u64 (wd (bit i) 3))
          have hb4 := HC.out.2.2.trans (hb3.mono HC.out.2.2.size)
          have hgb := HB.out.2.2.2.2
          exact ⟨⟨i + 1, by omega, by go_num, h2, own_cast h3 (by rw [e1, List.length_append, hn]; rfl) (by rw [e1]; unfold byteVals; rw [List.map_append]; rfl), (((hb4.setCell hgb _).setCell hgb _).setCell hgb _).setCell hgb _⟩, by simp [intOf]; omega⟩
    · obtain rfl : i = 256 := by omega
      have hd : decide (((256 : Nat) : Int) < 256) = false := by decide
      have HO := Lib.hid hout
      clear hout hleast
      go_wp2
      go_ret
      exact ⟨_, rfl, HO.out, hbw⟩
end Go.Proofs.YthhlehhienndeaaDoor
