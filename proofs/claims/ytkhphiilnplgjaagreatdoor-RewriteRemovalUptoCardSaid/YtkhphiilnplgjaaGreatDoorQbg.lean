/-
  Texts of the proof, one behind another: Yi.
-/
import Derived.Test.YtkhphiilnplgjaaGreatDoorQbf
import Derived.Test.YtkhphiilnplgjaaGreatDoorQbe
set_option linter.unusedSimpArgs false
set_option linter.unusedVariables false
namespace Go.Proofs.YtkhphiilnplgjaaGreatDoor
open Go.RowKit Go.Lib

set_option maxRecDepth 100000 in
set_option maxHeartbeats 1000000 in
theorem clone_any (v : Value) (l : List Int) (w : World) (hv : IsY w v l) (hl : l.length ≤ 140737488351232) : Calls Tryz.prog 40 #[v] w fun e w' =>
    ∃ u, e = .returned u ∧ w'.ownsRow w.heap.size 5 1 u l.length (l.map (Value.int .u8)) ∧ Below w.heap.size w w' := by
  obtain ⟨p, cap, rfl, hc⟩ := hv.shape
  have q22 : ∀ (w : World) (a : Option Addr) (n c n' c' : Nat), (binOp .eql 22 (.slice a n c) (.slice none n' c')).run Tryz.prog w = .ok (.bool a.isNone) w := fun w a n c n' c' => Lib.run_eql_slice_nil w _ _ a n c n' c' Tryz.underlying22
  cases p with
  | none =>
    have hl0 : l = [] := by
      cases l with
      | nil => rfl
      | cons y l => obtain ⟨b, o, e, _⟩ := hv.at (j := 0) (x := y) rfl; cases e
    subst hl0
    clear hv
    go_enter Tryz.func40, Tryz.ntmps40
    go_wp2
    go_ret
    exact ⟨_, rfl, World.ownsRow_nil _ _ _ _, Below.refl _ _⟩
  | some a =>
    have HV := Lib.hid (hv.grows (w' := w.alloc (.cells #[] 5)) (by go_grown))
    have HO := Lib.hid (own_of_blk (base := w.heap.size) (Blk.new w #[] 5) 0 1 rfl (Nat.zero_le _) (Nat.le_refl _))
    have HB : Hid (Below w.heap.size w (w.alloc (.cells #[] 5))) := Lib.hid (by go_grown)
    clear hv
    go_enter Tryz.func40, Tryz.ntmps40
    go_wp2_with (at_builtin; refine app_list rfl _ _ rfl rfl w.heap.size _ [] l (some a) cap rfl rfl HO.out HV.out (by simp; omega) (by simp) ?_; intro u9 w9 G9; obtain ⟨hown2, hgrow, hat⟩ := G9)
    go_ret
    exact ⟨_, rfl, own_cast hown2 (by simp) (by simp), HB.out.grown hgrow HB.out.size (fun k e => own_ge HO.out k e)⟩
/-- what is owned, as a block. -/
theorem own_blk {w : World} {base : Nat} {v : Value} {l : List Int} (h : w.ownsRow base 5 1 v l.length (l.map (Value.int .u8))) :
    (v = .slice none 0 0 ∧ l = []) ∨ ∃ g cap cur, v = .slice (some ⟨g, 0, none⟩) l.length cap ∧ base ≤ g ∧ Blk w g cur 5 ∧ l.length ≤ cap ∧ cap ≤ maxLen ∧ cur.size = cap ∧ cur.toList.take l.length = l.map (Value.int .u8) := by
  rcases h.2 with ⟨rfl, h0⟩ | ⟨g, cap, cur, rfl, hg, hh, hcap, hm, hsz, htk⟩
  · exact .inl ⟨rfl, List.length_eq_zero_iff.1 h0⟩
  · exact .inr ⟨g, cap, cur, rfl, hg, ⟨hh⟩, hcap, hm, by omega, by rw [Nat.mul_one] at htk; exact htk⟩
theorem blk_own {w : World} {base g cap : Nat} {cur : Array Value} {l : List Int} (hg : base ≤ g) (hb : Blk w g cur 5) (hc : l.length ≤ cap) (hm : cap ≤ maxLen) (hs : cur.size = cap) (ht : cur.toList.take l.length = l.map (Value.int .u8)) :
    w.ownsRow base 5 1 (.slice (some ⟨g, 0, none⟩) l.length cap) l.length (l.map (Value.int .u8)) :=
  ⟨by simp, .inr ⟨g, cap, cur, rfl, hg, hb.is, hc, hm, by omega, by rw [Nat.mul_one]; exact ht⟩⟩
/-- a letter in the other case. -/
def swI (c : BitVec 256) (z : Int) : Int := if mem c z.toNat = true then bits .xor .u8 z 32 else z
/-- the first i of them turned. -/
def swL (f : Int → Int) (l : List Int) (i : Nat) : List Int := (l.take i).map f ++ l.drop i
theorem swL_len (f : Int → Int) (l : List Int) (i : Nat) : (swL f l i).length = l.length := by
  unfold swL; rw [List.length_append, List.length_map, List.length_take, List.length_drop]; omega
theorem swL_zero (f : Int → Int) (l : List Int) : swL f l 0 = l := by simp [swL]
theorem swL_all (f : Int → Int) (l : List Int) : swL f l l.length = l.map f := by simp [swL]
theorem swL_at {f : Int → Int} {l : List Int} {i : Nat} {x : Int} (hx : l[i]? = some x) : (swL f l i)[i]? = some x := by
  have hi := (List.getElem?_eq_some_iff.1 hx).1
  unfold swL
  rw [List.getElem?_append_right (by simp; omega), List.length_map, List.length_take, List.getElem?_drop, ← hx]
  congr 1; omega
theorem swL_same {f : Int → Int} {l : List Int} {i : Nat} {x : Int} (hx : l[i]? = some x) (h : f x = x) : swL f l (i + 1) = swL f l i := by
  unfold swL
  rw [map_step hx, drop_cons hx, h]; simp
theorem swL_set {f : Int → Int} {l : List Int} {i : Nat} {x : Int} (hx : l[i]? = some x) : swL f l (i + 1) = (swL f l i).set i (f x) := by
  have hi := (List.getElem?_eq_some_iff.1 hx).1
  unfold swL
  rw [map_step hx, drop_cons hx, List.set_append_right _ _ (by simp; omega)]
  simp only [List.length_map, List.length_take]
  rw [show i - min i l.length = 0 by omega]
  simp
theorem take_set {cur : Array Value} {L : List Int} {i : Nat} {y : Int} (ht : cur.toList.take L.length = L.map (Value.int .u8)) (hi : i < L.length) :
    (cur.setIfInBounds i (.int .u8 y)).toList.take L.length = (L.set i y).map (Value.int .u8) := by
  rw [Array.toList_setIfInBounds, List.map_set, ← ht, List.take_set]
theorem blk_at {w : World} {g : Nat} {cur : Array Value} {L : List Int} {i : Nat} {x : Int} (hb : Blk w g cur 5) (ht : cur.toList.take L.length = L.map (Value.int .u8)) (hx : L[i]? = some x) : w.cell? ⟨g, i, none⟩ = some (.int .u8 x) := by
  refine hb.cell i ?_
  have hi := (List.getElem?_eq_some_iff.1 hx).1
  have h2 := congrArg (fun q => q[i]?) ht
  rw [List.getElem?_take_of_lt hi, List.getElem?_map, hx] at h2
  simpa using h2
set_option maxRecDepth 100000 in
set_option maxHeartbeats 4000000 in
theorem letters_any (v u : Value) (k : Int) (old new : List Int) (c : BitVec 256) (cb : Nat) (l : List Int) (w : World) (hv : IsOp w v k old new) (hu : IsY w u l) (hC : Blk w cb #[.int .u64 (wd c 0), .int .u64 (wd c 1), .int .u64 (wd c 2), .int .u64 (wd c 3)] 27) (hl : l.length ≤ 140737488351232) (hf : ∀ z, 0 ≤ z ∧ z < 256 → 0 ≤ swI c z ∧ swI c z < 256) :
    Calls Tryz.prog 87 #[v, u, .pointer (some ⟨cb, 0, none⟩)] w fun e w' => ∃ r, e = .returned (.tuple #[r, .bool true]) ∧ IsY w' r (l.map (swI c)) ∧ Below w.heap.size w w' := by
  obtain ⟨po, co, pn, cn, rfl, h1, h2, c1, c2⟩ := hv.shape
  obtain ⟨pb, cb', rfl, c3⟩ := hu.shape
  have hbw1 : Below w.heap.size w (w.alloc (.cells #[.int .i64 k, .slice po old.length co, .slice pn new.length cn] 24)) := by go_grown
  have HB1 := Lib.hid (clone_any _ l _ (hu.grows hbw1) hl)
  have HC1 := Lib.hid (hC.grows hbw1)
  have HY := Lib.hid (And.intro hu.byt hf)
  have hcb := hC.lt
  clear hv hu h1 h2 hC hf
  go_enter Tryz.func87, Tryz.ntmps87
  go_wp2_with fail
  generalize (w.alloc (.cells #[.int .i64 k, .slice po old.length co, .slice pn new.length cn] 24)) = w1 at HB1 HC1 hbw1 ⊢
  refine HB1.out.mono ?_
  rintro e w2 ⟨r, rfl, hown, hb2⟩
  have HC2 := Lib.hid (HC1.out.grows hb2)
  have hbw2 := below_two hbw1 hb2
  clear HB1 HC1
  rcases own_blk hown with ⟨rfl, rfl⟩ | ⟨g, cap, cur, rfl, hg, hB, hcap, hm, hsz, htk⟩
  · clear hown hb2
    go_wp2_with fail
    refine wp_loop_rounds 1 ?_
    rw [rounds_succ]
    go_wp2
    go_ret2
    exact ⟨_, rfl, IsY.nil _, hbw2⟩
  · have hcg : cb < g := by have := hbw1.size; omega
    have hgw : w.heap.size ≤ g := by have := hbw1.size; omega
    have HK := Lib.hid (And.intro hB (And.intro hsz htk))
    have HM := Lib.hid hm
    clear hown hb2 hB hsz htk hbw1 hg hm
    go_wp2_with fail
    go_loopw [14] (fun iv wr => ∃ (i : Nat) (cu : Array Value), i ≤ l.length ∧ iv = .int .i64 (i : Int) ∧ Blk wr g cu 5 ∧ cu.size = cap ∧ cu.toList.take (swL (swI c) l i).length = (swL (swI c) l i).map (Value.int .u8) ∧ Blk wr cb #[.int .u64 (wd c 0), .int .u64 (wd c 1), .int .u64 (wd c 2), .int .u64 (wd c 3)] 27 ∧ Below w.heap.size w wr) (fun iv _ => l.length - (RowKit.intOf iv).toNat)
    case atStart => exact ⟨0, cur, Nat.zero_le _, rfl, HK.out.1, HK.out.2.1, by rw [swL_zero]; exact HK.out.2.2, HC2.out, hbw2⟩
    case round =>
      clear hbw2
      obtain ⟨i, cu, hil, rfl, hB, hsz, htk, hCr, hbw⟩ := hrel
      by_cases hlt : i < l.length
      · obtain ⟨x, hx⟩ := get_of_lt hlt
        have hx8 := HY.out.1.at hx
        have cx := blk_at hB htk (swL_at (f := swI c) hx)
        have fx := hB.free i
        obtain ⟨k0, k1, k2, k3, -⟩ := hCr.four
        have HT := Lib.hid htk
        have HX := Lib.hid hx
        have HB := Lib.hid hB
        have HC := Lib.hid hCr
        have HW := Lib.hid hbw
        have hd : decide ((i : Int) < (l.length : Int)) = true := by rw [decide_eq_true_iff]; omega
        have HH := Lib.hid (has_any c x wr hx8.1 hx8.2)
        cases hmem : mem c x.toNat
        · rw [hmem] at HH
          have hsw : swI c x = x := by unfold swI; rw [if_neg (by rw [hmem]; decide)]
          have HS := Lib.hid (swL_same hx hsw)
          clear hmem hsw hx htk hB hCr
          go_wp2_with fail
          refine HH.out.mono ?_
          rintro e w4 ⟨rfl, hb4⟩
          have HR := Lib.hid (And.intro (HB.out.grows hb4) (And.intro (HC.out.grows hb4) (below_two hbw hb4)))
          clear hb4 cx fx k0 k1 k2 k3 hbw
          go_wp2
          go_roundw
          case rel => exact ⟨i + 1, cu, by omega, by go_num, HR.out.1, hsz, by rw [HS.out]; exact HT.out, HR.out.2.1, HR.out.2.2⟩
          case measure => simp [RowKit.intOf]; omega
        · rw [hmem] at HH
          have hsw : swI c x = bits .xor .u8 x 32 := by unfold swI; rw [if_pos hmem]
          have HS := Lib.hid (swL_set (f := swI c) hx)
          rw [hsw] at HS
          have hsl : i < (swL (swI c) l i).length := by rw [swL_len]; exact hlt
          have HQ := Lib.hid (take_set (y := bits .xor .u8 x 32) htk hsl)
          clear hmem hsw hx htk hB hCr hsl
          go_wp2_with fail
          refine HH.out.mono ?_
          rintro e w4 ⟨rfl, hb4⟩
          have HR := Lib.hid (And.intro (HB.out.grows hb4) (And.intro (HC.out.grows hb4) (below_two hbw hb4)))
          replace cx := (hb4.cell (lt_of_cell cx)).trans cx
          have fx4 := HR.out.1.free i
          clear hb4 fx k0 k1 k2 k3 hbw
          go_wp2
          go_roundw
          case rel => exact ⟨i + 1, _, by omega, by go_num, HR.out.1.set i _, by rw [Array.size_setIfInBounds]; exact hsz, by rw [HS.out, List.length_set]; exact HQ.out, HR.out.2.1.other (by show cb ≠ g; omega) _, HR.out.2.2.setCell (by show w.heap.size ≤ g; omega) _⟩
          case measure => simp [RowKit.intOf]; omega
      · obtain rfl : i = l.length := by omega
        rw [swL_all] at htk
        have HF := Lib.hid (blk_own (base := g) (Nat.le_refl _) hB (by rw [List.length_map]; exact hcap) HM.out hsz htk)
        have HW := Lib.hid hbw
        clear htk hB
        go_wp2
        go_ret2
        refine ⟨_, rfl, own_isY (base := g) (e := 5) (fun z hz => ?_) ?_, HW.out⟩
        · obtain ⟨y, hy, rfl⟩ := List.mem_map.1 hz
          exact HY.out.2 y (HY.out.1 y hy)
        · have h := HF.out
          rw [List.length_map] at h ⊢
          exact h
end Go.Proofs.YtkhphiilnplgjaaGreatDoor
