/-
  Walks: the laws' sanity test.
-/
import Derived.Test.YtepncbbegpeilaaDoorOf
import Derived.Test.YtepncbbegpeilaaDoorCma
import Derived.Test.YtepncbbegpeilaaDoorCmo
import Derived.Test.YtepncbbegpeilaaDoorSm
import Derived.Test.YtepncbbegpeilaaDoorRs
import Derived.Test.YtepncbbegpeilaaDoorLe
import Derived.Test.YtepncbbegpeilaaDoorCk
set_option linter.unusedSimpArgs false
set_option linter.unusedVariables false
namespace Go.Proofs.YtepncbbegpeilaaDoor
open Go.RowKit Go.Lib

theorem isB_blk {W : World} {b : Nat} {vs : Array Value} {t : TypeId} (h : Blk W b vs t) (l : List Bool) (n : Nat) (hn : n = l.length) (hv : vs = (l.map Value.bool).toArray) : IsB W (.slice (some ⟨b, 0, none⟩) n n) l := by
  subst hn; subst hv
  refine .inr ⟨b, 0, l.length, rfl, Nat.le_refl _, fun j hj => ?_⟩
  rw [Nat.zero_add]
  refine h.cell j ?_
  rw [List.getElem?_toArray, List.getElem?_map, get_getD hj]; rfl
theorem isB_nil (W : World) : IsB W (.slice none 0 0) [] := .inl ⟨rfl, none, 0, rfl, fun _ => rfl⟩
/-- a world with further blocks. -/
def al (w : World) (os : List Obj) : World := os.foldl World.alloc w
theorem al_size : ∀ (os : List Obj) (w : World), (al w os).heap.size = w.heap.size + os.length
  | [], w => rfl
  | o :: os, w => by
    show (al (w.alloc o) os).heap.size = _
    rw [al_size os]; simp; omega
theorem al_below : ∀ (os : List Obj) (w : World), Below w.heap.size w (al w os)
  | [], w => Below.refl _ w
  | o :: os, w => ((Below.refl _ w).alloc (Nat.le_refl _) o).trans ((al_below os (w.alloc o)).mono (by simp))
theorem al_obj : ∀ (os : List Obj) (w : World) (k : Nat) (o : Obj), os[k]? = some o → (al w os).heap[w.heap.size + k]? = some o
  | [], w, k, o, h => by cases h
  | p :: os, w, 0, o, h => by
    cases h
    show (al (w.alloc p) os).heap[w.heap.size]? = _
    rw [(al_below os (w.alloc p)).block w.heap.size (by simp)]
    show (w.heap.push p)[w.heap.size]? = _; simp
  | p :: os, w, k + 1, o, h => by
    have := al_obj os (w.alloc p) k o h
    show (al (w.alloc p) os).heap[w.heap.size + (k + 1)]? = _
    rw [← this]; congr 1; simp; omega
theorem al_blk (w : World) (os : List Obj) (k : Nat) {vs : Array Value} {t : TypeId} (h : os[k]? = some (.cells vs t)) : Blk (al w os) (w.heap.size + k) vs t := ⟨al_obj os w k _ h⟩
theorem Blk.al {w : World} {b : Nat} {vs : Array Value} {t : TypeId} (h : Blk w b vs t) (os : List Obj) : Blk (Go.Proofs.YtepncbbegpeilaaDoor.al w os) b vs t := h.grows (al_below os w)
theorem IsSet.al {w : World} {v : Value} {h c : List Bool} (a : IsSet w v h c) (os : List Obj) : IsSet (Go.Proofs.YtepncbbegpeilaaDoor.al w os) v h c := a.grows (al_below os w)
/-- a result that is known. -/
theorem opres_is {B : Nat} {f : Nat → Bool} {W : World} {e : Ending} {h c : List Bool} {n m : Nat} (r : OpRes B true f W e) (hc : IsCanon f h c) (hn : h.length = n) (hm : c.length = m) (hl : n + m ≤ 512) :
    ∃ hp hk cp ck, e = .returned (.tuple #[.agg #[.slice hp n hk, .slice cp m ck], .int .i64 0]) ∧ IsSet W (.agg #[.slice hp n hk, .slice cp m ck]) h c := by
  rcases r with ⟨h0, _⟩ | ⟨_, h', c', h1, h2⟩
  · cases h0
  · obtain ⟨rfl, rfl⟩ := h1.unique hc fun _ => rfl
    subst hn; subst hm
    rcases h2 with ⟨_, v, rfl, hown⟩ | ⟨h3, _⟩
    · obtain ⟨hp, hk, cp, ck, rfl, a1, a2⟩ := hown.isSet.shape
      exact ⟨hp, hk, cp, ck, rfl, _, _, rfl, a1, a2⟩
    · omega
theorem same_yes (v u : Value) (h c : List Bool) (W : World) (hv : IsSet W v h c) (hu : IsSet W u h c) (h1 : h.length ≤ 1000) (h2 : c.length ≤ 1000) :
    Calls Tryd.prog 8 #[v, u] W fun e w' => e = .returned (.bool true) ∧ Below W.heap.size W w' := by
  have h0 := same_any v u h c h c W hv hu (by omega) (by omega) (by omega) (by omega)
  rwa [(sameS_iff h c h c).2 ⟨rfl, rfl⟩] at h0
theorem least_is (v : Value) (h c : List Bool) (n r : Int) (W : World) (hv : IsSet W v h c) (hr : leastS h c n = r) (h1 : h.length ≤ 1000) (h2 : c.length ≤ 1000) (hn : (-9223372036854775808 : Int) ≤ n) :
    Calls Tryd.prog 13 #[v, .int .i64 n] W fun e w' => e = .returned (.int .i64 r) ∧ Below W.heap.size W w' := hr ▸ least_any v h c n W hv (by omega) (by omega) hn
theorem has_is (v : Value) (h c : List Bool) (n : Int) (r : Bool) (W : World) (hv : IsSet W v h c) (hr : hasB h c n = r) (h1 : h.length ≤ 1000) (h2 : c.length ≤ 1000) (hn : n ≤ 9223372036854775807) :
    Calls Tryd.prog 14 #[v, .int .i64 n] W fun e w' => e = .returned (.bool r) ∧ Below W.heap.size W w' := hr ▸ has_any v h c n W hv (by omega) (by omega) hn
theorem ex_canon : IsCanon (atL [true, false, true, false] [true, false]) [] [true, false] := chk_canon (H := 4) (P := 2) (by decide) (atL_from _ _ (by decide)) (by kernel_rfl)
theorem ex_sum : IsCanon (sumB (atL [] [true, false]) (atL [false, false, false, true] [false])) [false, false] [false, true] :=
  chk_canon (H := 6) (P := 2) (by decide) (sumB_from _ _ 2 0 4 (atL_from [] [true, false] (by decide)) (lcm_from (atL_from [false, false, false, true] [false] (by decide)) 2 ⟨2, rfl⟩)) (by kernel_rfl)
theorem ex_and : IsCanon (fun n => atL [] [true, false] n && atL [] [true, false, false] n) [] [true, false, false, false, false, false] :=
  chk_canon (H := 0) (P := 6) (by decide) (both_from (fun x y => x && y) (lcm_from (atL_from [] [true, false] (by decide)) 6 ⟨3, rfl⟩) (lcm_from (atL_from [] [true, false, false] (by decide)) 6 ⟨2, rfl⟩)) (by kernel_rfl)
theorem ex_or : IsCanon (fun n => atL [] [false, false] n || atL [false] [false] n) [] [false] :=
  chk_canon (H := 1) (P := 2) (by decide) (both_from (fun x y => x || y) (lcm_from (atL_from [] [false, false] (by decide)) 2 ⟨1, rfl⟩) (lcm_from (atL_from [false] [false] (by decide)) 2 ⟨2, rfl⟩)) (by kernel_rfl)
theorem ex_of : IsCanon (accN ([[1], [0]].map rowBits) (accBits [false, true] [[(1 : Int)], [0]].length)) [] [false, true] :=
  chk_canon (H := 0) (P := 2) (by decide) (accN_from (i := 2) (H := 0) (by kernel_rfl) (by decide)) (by kernel_rfl)
theorem ex_odd : validD [BitVec.allOnes 256] [[1], [0]] [false, true] = true := by kernel_rfl
theorem ones_wd (i : Nat) (hi : i < 4) : wd (BitVec.allOnes 256) i = 18446744073709551615 := by
  have h : i = 0 ∨ i = 1 ∨ i = 2 ∨ i = 3 := by omega
  rcases h with rfl | rfl | rfl | rfl <;> decide +kernel
theorem odd_is {W : World} {b0 b1 b2 b3 b4 : Nat} {t0 t1 t2 t3 t4 : TypeId} (h0 : Blk W b0 #[.int .u64 18446744073709551615, .int .u64 18446744073709551615, .int .u64 18446744073709551615, .int .u64 18446744073709551615] t0)
    (h1 : Blk W b1 #[.int .i64 1] t1) (h2 : Blk W b2 #[.int .i64 0] t2) (h3 : Blk W b3 #[.slice (some ⟨b1, 0, none⟩) 1 1, .slice (some ⟨b2, 0, none⟩) 1 1] t3) (h4 : Blk W b4 #[.bool false, .bool true] t4) :
    IsD W (.agg #[.slice (some ⟨b0, 0, none⟩) 1 1, .slice (some ⟨b3, 0, none⟩) 2 2, .slice (some ⟨b4, 0, none⟩) 2 2]) [BitVec.allOnes 256] [[1], [0]] [false, true] := by
  refine ⟨_, _, _, rfl, .inr ⟨b0, 0, 1, rfl, fun j x hj i v hi => ?_⟩, .inr ⟨b3, 0, 2, rfl, fun j r hj => ?_⟩, isB_blk h4 _ _ rfl rfl⟩
  · match j, hj with
    | 0, hj =>
      cases hj
      have e0 := ones_wd 0 (by decide)
      have e1 := ones_wd 1 (by decide)
      have e2 := ones_wd 2 (by decide)
      have e3 := ones_wd 3 (by decide)
      rw [Nat.zero_mul, Nat.zero_add]
      refine h0.cell i ?_
      unfold encC at hi
      rw [e0, e1, e2, e3] at hi
      rw [← hi]; simp
  · match j, hj with
    | 0, hj =>
      cases hj
      exact ⟨_, _, h3.cell 0 rfl, .inr ⟨b1, 0, 1, rfl, fun i x hi => by match i, hi with | 0, hi => cases hi; exact h1.cell 0 rfl⟩⟩
    | 1, hj =>
      cases hj
      exact ⟨_, _, h3.cell 1 rfl, .inr ⟨b2, 0, 1, rfl, fun i x hi => by match i, hi with | 0, hi => cases hi; exact h2.cell 0 rfl⟩⟩
set_option maxRecDepth 100000 in
set_option maxHeartbeats 8000000 in
theorem sanity_any (w : World) (hT : TabAt 0 Lib.deBruijn64tab w) (hg : 0 < w.heap.size) :
    Calls Tryd.prog 4 #[] w fun e w' => e = .returned (.bool true) ∧ Below w.heap.size w w' := by
  have HT := Lib.hid (fun W (hW : Below w.heap.size w W) => And.intro (tab_below hT hW hg) (Nat.lt_of_lt_of_le hg hW.size))
  clear hT hg
  go_enter Tryd.func4, Tryd.ntmps4
  go_wp2_with fail
  show Calls Tryd.prog _ _ (al w [(Obj.cells #[.bool true, .bool false] 4), (Obj.cells #[.slice none 0 0, .slice (some ⟨w.heap.size, 0, none⟩) 2 2] 31), (Obj.cells #[.bool false, .bool false, .bool false, .bool true] 4), (Obj.cells #[.bool false] 4), (Obj.cells #[.slice (some ⟨w.heap.size + 1 + 1, 0, none⟩) 4 4, .slice (some ⟨w.heap.size + 1 + 1 + 1, 0, none⟩) 1 1] 31), (Obj.cells #[.bool true, .bool false, .bool false] 4), (Obj.cells #[.slice none 0 0, .slice (some ⟨w.heap.size + 1 + 1 + 1 + 1 + 1, 0, none⟩) 3 3] 31), (Obj.cells #[.bool true, .bool false, .bool true, .bool false] 4), (Obj.cells #[.bool true, .bool false] 4)]) _
  obtain ⟨OS, hOS⟩ : ∃ OS, OS = [(Obj.cells #[.bool true, .bool false] 4), (Obj.cells #[.slice none 0 0, .slice (some ⟨w.heap.size, 0, none⟩) 2 2] 31), (Obj.cells #[.bool false, .bool false, .bool false, .bool true] 4), (Obj.cells #[.bool false] 4), (Obj.cells #[.slice (some ⟨w.heap.size + 1 + 1, 0, none⟩) 4 4, .slice (some ⟨w.heap.size + 1 + 1 + 1, 0, none⟩) 1 1] 31), (Obj.cells #[.bool true, .bool false, .bool false] 4), (Obj.cells #[.slice none 0 0, .slice (some ⟨w.heap.size + 1 + 1 + 1 + 1 + 1, 0, none⟩) 3 3] 31), (Obj.cells #[.bool true, .bool false, .bool true, .bool false] 4), (Obj.cells #[.bool true, .bool false] 4)] := ⟨_, rfl⟩
  rw [← hOS]
  have HB := Lib.hid (al_below OS w)
  have BE0 : Blk (al w OS) (w.heap.size + 1) #[.slice none 0 0, .slice (some ⟨w.heap.size, 0, none⟩) 2 2] 31 := by rw [hOS]; exact al_blk w _ 1 rfl
  have E0 : IsSet (al w OS) (.agg #[.slice none 0 0, .slice (some ⟨w.heap.size, 0, none⟩) 2 2]) [] [true, false] := by rw [hOS]; exact ⟨_, _, rfl, isB_nil _, isB_blk (al_blk w _ 0 rfl) _ _ rfl rfl⟩
  have BT0 : Blk (al w OS) (w.heap.size + 1 + 1 + 1 + 1) #[.slice (some ⟨w.heap.size + 1 + 1, 0, none⟩) 4 4, .slice (some ⟨w.heap.size + 1 + 1 + 1, 0, none⟩) 1 1] 31 := by rw [hOS]; exact al_blk w _ 4 rfl
  have T0 : IsSet (al w OS) (.agg #[.slice (some ⟨w.heap.size + 1 + 1, 0, none⟩) 4 4, .slice (some ⟨w.heap.size + 1 + 1 + 1, 0, none⟩) 1 1]) [false, false, false, true] [false] := by rw [hOS]; exact ⟨_, _, rfl, isB_blk (al_blk w _ 2 rfl) _ _ rfl rfl, isB_blk (al_blk w _ 3 rfl) _ _ rfl rfl⟩
  have BH0 : Blk (al w OS) (w.heap.size + 1 + 1 + 1 + 1 + 1 + 1) #[.slice none 0 0, .slice (some ⟨w.heap.size + 1 + 1 + 1 + 1 + 1, 0, none⟩) 3 3] 31 := by rw [hOS]; exact al_blk w _ 6 rfl
  have H0 : IsSet (al w OS) (.agg #[.slice none 0 0, .slice (some ⟨w.heap.size + 1 + 1 + 1 + 1 + 1, 0, none⟩) 3 3]) [] [true, false, false] := by rw [hOS]; exact ⟨_, _, rfl, isB_nil _, isB_blk (al_blk w _ 5 rfl) _ _ rfl rfl⟩
  have X0 : IsSet (al w OS) (.agg #[.slice (some ⟨w.heap.size + 1 + 1 + 1 + 1 + 1 + 1 + 1, 0, none⟩) 4 4, .slice (some ⟨w.heap.size + 1 + 1 + 1 + 1 + 1 + 1 + 1 + 1, 0, none⟩) 2 2]) [true, false, true, false] [true, false] := by rw [hOS]; exact ⟨_, _, rfl, isB_blk (al_blk w _ 7 rfl) _ _ rfl rfl, isB_blk (al_blk w _ 8 rfl) _ _ rfl rfl⟩
  have BE := Lib.hid BE0
  have E := Lib.hid E0
  have BT := Lib.hid BT0
  have T := Lib.hid T0
  have BH := Lib.hid BH0
  have H := Lib.hid H0
  have X := Lib.hid X0
  clear BE0 E0 BT0 T0 BH0 H0 X0
  clear hOS
  generalize al w OS = W0 at BE E BT T BH H X HB ⊢
  refine (canon_any _ [true, false, true, false] [true, false] W0 X.out (by decide) (by decide)).mono ?_
  rintro e w1 ⟨hr, hb⟩
  obtain ⟨hpC, hkC, cpC, ckC, rfl, C0⟩ := opres_is hr ex_canon (n := 0) (m := 2) rfl rfl (by decide)
  replace BE := Lib.hid (BE.out.grows hb)
  replace E := Lib.hid (E.out.grows hb)
  replace BT := Lib.hid (BT.out.grows hb)
  replace T := Lib.hid (T.out.grows hb)
  replace BH := Lib.hid (BH.out.grows hb)
  replace H := Lib.hid (H.out.grows hb)
  replace X := Lib.hid (X.out.grows hb)
  replace HB := Lib.hid (HB.out.trans (hb.mono HB.out.size))
  have C := Lib.hid C0
  clear C0 hr
  clear hb
  clear X
  have BE_0 := BE.out.cell 0 rfl
  have BE_1 := BE.out.cell 1 rfl
  have BE_l := BE.out.lt
  have BT_0 := BT.out.cell 0 rfl
  have BT_1 := BT.out.cell 1 rfl
  have BT_l := BT.out.lt
  go_wp2_with fail
  clear BE_0 BE_1 BE_l BT_0 BT_1 BT_l
  show Calls Tryd.prog _ _ (al w1 [(Obj.cells #[.slice hpC 0 hkC, .slice cpC 2 ckC] 31)]) _
  obtain ⟨OS, hOS⟩ : ∃ OS, OS = [(Obj.cells #[.slice hpC 0 hkC, .slice cpC 2 ckC] 31)] := ⟨_, rfl⟩
  rw [← hOS]
  replace BE := Lib.hid (BE.out.al OS)
  replace E := Lib.hid (E.out.al OS)
  replace BT := Lib.hid (BT.out.al OS)
  replace T := Lib.hid (T.out.al OS)
  replace BH := Lib.hid (BH.out.al OS)
  replace H := Lib.hid (H.out.al OS)
  replace C := Lib.hid (C.out.al OS)
  replace HB := Lib.hid (HB.out.trans ((al_below OS w1).mono HB.out.size))
  have BC0 : Blk (al w1 OS) (w1.heap.size) #[.slice hpC 0 hkC, .slice cpC 2 ckC] 31 := by rw [hOS]; exact al_blk w1 _ 0 rfl
  have BC := Lib.hid BC0
  clear BC0
  clear hOS
  generalize al w1 OS = W1 at BE E BT T BH H C BC HB ⊢
  refine (sum_any _ _ [] [true, false] [false, false, false, true] [false] W1 E.out T.out (by decide) (by decide) (by decide) (by decide)).mono ?_
  rintro e w2 ⟨hr, hb⟩
  obtain ⟨hpS, hkS, cpS, ckS, rfl, S0⟩ := opres_is hr ex_sum (n := 2) (m := 2) rfl rfl (by decide)
  replace BE := Lib.hid (BE.out.grows hb)
  replace E := Lib.hid (E.out.grows hb)
  replace BT := Lib.hid (BT.out.grows hb)
  replace T := Lib.hid (T.out.grows hb)
  replace BH := Lib.hid (BH.out.grows hb)
  replace H := Lib.hid (H.out.grows hb)
  replace C := Lib.hid (C.out.grows hb)
  replace BC := Lib.hid (BC.out.grows hb)
  replace HB := Lib.hid (HB.out.trans (hb.mono HB.out.size))
  have S := Lib.hid S0
  clear S0 hr
  clear hb
  clear T BT
  have BE_0 := BE.out.cell 0 rfl
  have BE_1 := BE.out.cell 1 rfl
  have BE_l := BE.out.lt
  have BH_0 := BH.out.cell 0 rfl
  have BH_1 := BH.out.cell 1 rfl
  have BH_l := BH.out.lt
  go_wp2_with fail
  clear BE_0 BE_1 BE_l BH_0 BH_1 BH_l
  show Calls Tryd.prog _ _ (al w2 [(Obj.cells #[.slice hpS 2 hkS, .slice cpS 2 ckS] 31)]) _
  obtain ⟨OS, hOS⟩ : ∃ OS, OS = [(Obj.cells #[.slice hpS 2 hkS, .slice cpS 2 ckS] 31)] := ⟨_, rfl⟩
  rw [← hOS]
  replace BE := Lib.hid (BE.out.al OS)
  replace E := Lib.hid (E.out.al OS)
  replace BH := Lib.hid (BH.out.al OS)
  replace H := Lib.hid (H.out.al OS)
  replace C := Lib.hid (C.out.al OS)
  replace BC := Lib.hid (BC.out.al OS)
  replace S := Lib.hid (S.out.al OS)
  replace HB := Lib.hid (HB.out.trans ((al_below OS w2).mono HB.out.size))
  have BS0 : Blk (al w2 OS) (w2.heap.size) #[.slice hpS 2 hkS, .slice cpS 2 ckS] 31 := by rw [hOS]; exact al_blk w2 _ 0 rfl
  have BS := Lib.hid BS0
  clear BS0
  clear hOS
  generalize al w2 OS = W2 at BE E BH H C BC S BS HB ⊢
  refine (and_any _ _ [] [true, false] [] [true, false, false] W2 E.out H.out (by decide) (by decide) (by decide) (by decide)).mono ?_
  rintro e w3 ⟨hr, hb⟩
  obtain ⟨hpA, hkA, cpA, ckA, rfl, A0⟩ := opres_is hr ex_and (n := 0) (m := 6) rfl rfl (by decide)
  replace BE := Lib.hid (BE.out.grows hb)
  replace E := Lib.hid (E.out.grows hb)
  replace BH := Lib.hid (BH.out.grows hb)
  replace H := Lib.hid (H.out.grows hb)
  replace C := Lib.hid (C.out.grows hb)
  replace BC := Lib.hid (BC.out.grows hb)
  replace S := Lib.hid (S.out.grows hb)
  replace BS := Lib.hid (BS.out.grows hb)
  replace HB := Lib.hid (HB.out.trans (hb.mono HB.out.size))
  have A := Lib.hid A0
  clear A0 hr
  clear hb
  clear H BH
  go_wp2_with fail
  show Calls Tryd.prog _ _ (al w3 [(Obj.cells #[.slice hpA 0 hkA, .slice cpA 6 ckA] 31), (Obj.cells #[.bool false, .bool false] 4), (Obj.cells #[.bool false] 4), (Obj.cells #[.bool false] 4)]) _
  obtain ⟨OS, hOS⟩ : ∃ OS, OS = [(Obj.cells #[.slice hpA 0 hkA, .slice cpA 6 ckA] 31), (Obj.cells #[.bool false, .bool false] 4), (Obj.cells #[.bool false] 4), (Obj.cells #[.bool false] 4)] := ⟨_, rfl⟩
  rw [← hOS]
  replace BE := Lib.hid (BE.out.al OS)
  replace E := Lib.hid (E.out.al OS)
  replace C := Lib.hid (C.out.al OS)
  replace BC := Lib.hid (BC.out.al OS)
  replace S := Lib.hid (S.out.al OS)
  replace BS := Lib.hid (BS.out.al OS)
  replace A := Lib.hid (A.out.al OS)
  replace HB := Lib.hid (HB.out.trans ((al_below OS w3).mono HB.out.size))
  have BA0 : Blk (al w3 OS) (w3.heap.size) #[.slice hpA 0 hkA, .slice cpA 6 ckA] 31 := by rw [hOS]; exact al_blk w3 _ 0 rfl
  have P0 : IsSet (al w3 OS) (.agg #[.slice none 0 0, .slice (some ⟨w3.heap.size + 1, 0, none⟩) 2 2]) [] [false, false] := by rw [hOS]; exact ⟨_, _, rfl, isB_nil _, isB_blk (al_blk w3 _ 1 rfl) _ _ rfl rfl⟩
  have Q0 : IsSet (al w3 OS) (.agg #[.slice (some ⟨w3.heap.size + 1 + 1, 0, none⟩) 1 1, .slice (some ⟨w3.heap.size + 1 + 1 + 1, 0, none⟩) 1 1]) [false] [false] := by rw [hOS]; exact ⟨_, _, rfl, isB_blk (al_blk w3 _ 2 rfl) _ _ rfl rfl, isB_blk (al_blk w3 _ 3 rfl) _ _ rfl rfl⟩
  have BA := Lib.hid BA0
  have P := Lib.hid P0
  have Q := Lib.hid Q0
  clear BA0 P0 Q0
  clear hOS
  generalize al w3 OS = W3 at BE E C BC S BS A BA P Q HB ⊢
  refine (or_any _ _ [] [false, false] [false] [false] W3 P.out Q.out (by decide) (by decide) (by decide) (by decide)).mono ?_
  rintro e w4 ⟨hr, hb⟩
  obtain ⟨hpO, hkO, cpO, ckO, rfl, O0⟩ := opres_is hr ex_or (n := 0) (m := 1) rfl rfl (by decide)
  replace BE := Lib.hid (BE.out.grows hb)
  replace E := Lib.hid (E.out.grows hb)
  replace C := Lib.hid (C.out.grows hb)
  replace BC := Lib.hid (BC.out.grows hb)
  replace S := Lib.hid (S.out.grows hb)
  replace BS := Lib.hid (BS.out.grows hb)
  replace A := Lib.hid (A.out.grows hb)
  replace BA := Lib.hid (BA.out.grows hb)
  replace P := Lib.hid (P.out.grows hb)
  replace Q := Lib.hid (Q.out.grows hb)
  replace HB := Lib.hid (HB.out.trans (hb.mono HB.out.size))
  have O := Lib.hid O0
  clear O0 hr
  clear hb
  clear P Q
  go_wp2_with fail
  show Calls Tryd.prog _ _ (al w4 [(Obj.cells #[.slice hpO 0 hkO, .slice cpO 1 ckO] 31), (Obj.cells #[.int .u64 18446744073709551615, .int .u64 18446744073709551615, .int .u64 18446744073709551615, .int .u64 18446744073709551615] 41), (Obj.cells #[.int .i64 1] 3), (Obj.cells #[.int .i64 0] 3), (Obj.cells #[.slice (some ⟨w4.heap.size + 1 + 1, 0, none⟩) 1 1, .slice (some ⟨w4.heap.size + 1 + 1 + 1, 0, none⟩) 1 1] 42), (Obj.cells #[.bool false, .bool true] 4), (Obj.cells #[.slice (some ⟨w4.heap.size + 1, 0, none⟩) 1 1, .slice (some ⟨w4.heap.size + 1 + 1 + 1 + 1, 0, none⟩) 2 2, .slice (some ⟨w4.heap.size + 1 + 1 + 1 + 1 + 1, 0, none⟩) 2 2] 28)]) _
  obtain ⟨OS, hOS⟩ : ∃ OS, OS = [(Obj.cells #[.slice hpO 0 hkO, .slice cpO 1 ckO] 31), (Obj.cells #[.int .u64 18446744073709551615, .int .u64 18446744073709551615, .int .u64 18446744073709551615, .int .u64 18446744073709551615] 41), (Obj.cells #[.int .i64 1] 3), (Obj.cells #[.int .i64 0] 3), (Obj.cells #[.slice (some ⟨w4.heap.size + 1 + 1, 0, none⟩) 1 1, .slice (some ⟨w4.heap.size + 1 + 1 + 1, 0, none⟩) 1 1] 42), (Obj.cells #[.bool false, .bool true] 4), (Obj.cells #[.slice (some ⟨w4.heap.size + 1, 0, none⟩) 1 1, .slice (some ⟨w4.heap.size + 1 + 1 + 1 + 1, 0, none⟩) 2 2, .slice (some ⟨w4.heap.size + 1 + 1 + 1 + 1 + 1, 0, none⟩) 2 2] 28)] := ⟨_, rfl⟩
  rw [← hOS]
  replace BE := Lib.hid (BE.out.al OS)
  replace E := Lib.hid (E.out.al OS)
  replace C := Lib.hid (C.out.al OS)
  replace BC := Lib.hid (BC.out.al OS)
  replace S := Lib.hid (S.out.al OS)
  replace BS := Lib.hid (BS.out.al OS)
  replace A := Lib.hid (A.out.al OS)
  replace BA := Lib.hid (BA.out.al OS)
  replace O := Lib.hid (O.out.al OS)
  replace HB := Lib.hid (HB.out.trans ((al_below OS w4).mono HB.out.size))
  have BO0 : Blk (al w4 OS) (w4.heap.size) #[.slice hpO 0 hkO, .slice cpO 1 ckO] 31 := by rw [hOS]; exact al_blk w4 _ 0 rfl
  have D0 : IsD (al w4 OS) (.agg #[.slice (some ⟨w4.heap.size + 1, 0, none⟩) 1 1, .slice (some ⟨w4.heap.size + 1 + 1 + 1 + 1, 0, none⟩) 2 2, .slice (some ⟨w4.heap.size + 1 + 1 + 1 + 1 + 1, 0, none⟩) 2 2]) [BitVec.allOnes 256] [[1], [0]] [false, true] := by rw [hOS]; exact odd_is (al_blk w4 _ 1 rfl) (al_blk w4 _ 2 rfl) (al_blk w4 _ 3 rfl) (al_blk w4 _ 4 rfl) (al_blk w4 _ 5 rfl)
  have BO := Lib.hid BO0
  have D := Lib.hid D0
  clear BO0 D0
  clear hOS
  generalize al w4 OS = W4 at BE E C BC S BS A BA O BO D HB ⊢
  have HOf := of_any _ [BitVec.allOnes 256] [[1], [0]] [false, true] W4 D.out (by decide) (by decide) (by decide) (by decide) (by decide) (HT.out _ HB.out).1 (HT.out _ HB.out).2
  rw [ex_odd] at HOf
  clear D
  refine (HOf).mono ?_
  rintro e w5 ⟨hr, hb⟩
  obtain ⟨hpR, hkR, cpR, ckR, rfl, R0⟩ := opres_is hr ex_of (n := 0) (m := 2) rfl rfl (by decide)
  replace BE := Lib.hid (BE.out.grows hb)
  replace E := Lib.hid (E.out.grows hb)
  replace C := Lib.hid (C.out.grows hb)
  replace BC := Lib.hid (BC.out.grows hb)
  replace S := Lib.hid (S.out.grows hb)
  replace BS := Lib.hid (BS.out.grows hb)
  replace A := Lib.hid (A.out.grows hb)
  replace BA := Lib.hid (BA.out.grows hb)
  replace O := Lib.hid (O.out.grows hb)
  replace BO := Lib.hid (BO.out.grows hb)
  replace HB := Lib.hid (HB.out.trans (hb.mono HB.out.size))
  have R := Lib.hid R0
  clear R0 hr
  clear hb
  have BC_0 := BC.out.cell 0 rfl
  have BC_1 := BC.out.cell 1 rfl
  have BC_l := BC.out.lt
  have BE_0 := BE.out.cell 0 rfl
  have BE_1 := BE.out.cell 1 rfl
  have BE_l := BE.out.lt
  clear HOf
  go_wp2_with fail
  clear BC_0 BC_1 BC_l BE_0 BE_1 BE_l
  show Calls Tryd.prog _ _ (al w5 [(Obj.cells #[.slice hpR 0 hkR, .slice cpR 2 ckR] 31)]) _
  obtain ⟨OS, hOS⟩ : ∃ OS, OS = [(Obj.cells #[.slice hpR 0 hkR, .slice cpR 2 ckR] 31)] := ⟨_, rfl⟩
  rw [← hOS]
  replace BE := Lib.hid (BE.out.al OS)
  replace E := Lib.hid (E.out.al OS)
  replace C := Lib.hid (C.out.al OS)
  replace BC := Lib.hid (BC.out.al OS)
  replace S := Lib.hid (S.out.al OS)
  replace BS := Lib.hid (BS.out.al OS)
  replace A := Lib.hid (A.out.al OS)
  replace BA := Lib.hid (BA.out.al OS)
  replace O := Lib.hid (O.out.al OS)
  replace BO := Lib.hid (BO.out.al OS)
  replace R := Lib.hid (R.out.al OS)
  replace HB := Lib.hid (HB.out.trans ((al_below OS w5).mono HB.out.size))
  have BR0 : Blk (al w5 OS) (w5.heap.size) #[.slice hpR 0 hkR, .slice cpR 2 ckR] 31 := by rw [hOS]; exact al_blk w5 _ 0 rfl
  have BR := Lib.hid BR0
  clear BR0
  clear hOS
  generalize al w5 OS = W5 at BE E C BC S BS A BA O BO R BR HB ⊢
  refine (same_yes _ _ [] [true, false] W5 C.out E.out (by decide) (by decide)).mono ?_
  rintro e w6 ⟨rfl, hb⟩
  replace BE := Lib.hid (BE.out.grows hb)
  replace E := Lib.hid (E.out.grows hb)
  replace C := Lib.hid (C.out.grows hb)
  replace BC := Lib.hid (BC.out.grows hb)
  replace S := Lib.hid (S.out.grows hb)
  replace BS := Lib.hid (BS.out.grows hb)
  replace A := Lib.hid (A.out.grows hb)
  replace BA := Lib.hid (BA.out.grows hb)
  replace O := Lib.hid (O.out.grows hb)
  replace BO := Lib.hid (BO.out.grows hb)
  replace R := Lib.hid (R.out.grows hb)
  replace BR := Lib.hid (BR.out.grows hb)
  replace HB := Lib.hid (HB.out.trans (hb.mono HB.out.size))
  clear hb
  have BS_0 := BS.out.cell 0 rfl
  have BS_1 := BS.out.cell 1 rfl
  have BS_l := BS.out.lt
  go_wp2_with fail
  clear BS_0 BS_1 BS_l
  show Calls Tryd.prog _ _ (al w6 [(Obj.cells #[.bool false, .bool false] 4), (Obj.cells #[.bool false, .bool true] 4)]) _
  obtain ⟨OS, hOS⟩ : ∃ OS, OS = [(Obj.cells #[.bool false, .bool false] 4), (Obj.cells #[.bool false, .bool true] 4)] := ⟨_, rfl⟩
  rw [← hOS]
  replace BE := Lib.hid (BE.out.al OS)
  replace E := Lib.hid (E.out.al OS)
  replace C := Lib.hid (C.out.al OS)
  replace BC := Lib.hid (BC.out.al OS)
  replace S := Lib.hid (S.out.al OS)
  replace BS := Lib.hid (BS.out.al OS)
  replace A := Lib.hid (A.out.al OS)
  replace BA := Lib.hid (BA.out.al OS)
  replace O := Lib.hid (O.out.al OS)
  replace BO := Lib.hid (BO.out.al OS)
  replace R := Lib.hid (R.out.al OS)
  replace BR := Lib.hid (BR.out.al OS)
  replace HB := Lib.hid (HB.out.trans ((al_below OS w6).mono HB.out.size))
  have P0 : IsSet (al w6 OS) (.agg #[.slice (some ⟨w6.heap.size, 0, none⟩) 2 2, .slice (some ⟨w6.heap.size + 1, 0, none⟩) 2 2]) [false, false] [false, true] := by rw [hOS]; exact ⟨_, _, rfl, isB_blk (al_blk w6 _ 0 rfl) _ _ rfl rfl, isB_blk (al_blk w6 _ 1 rfl) _ _ rfl rfl⟩
  have P := Lib.hid P0
  clear P0
  clear hOS
  generalize al w6 OS = W6 at BE E C BC S BS A BA O BO R BR P HB ⊢
  refine (same_yes _ _ [false, false] [false, true] W6 S.out P.out (by decide) (by decide)).mono ?_
  rintro e w7 ⟨rfl, hb⟩
  replace BE := Lib.hid (BE.out.grows hb)
  replace E := Lib.hid (E.out.grows hb)
  replace C := Lib.hid (C.out.grows hb)
  replace BC := Lib.hid (BC.out.grows hb)
  replace S := Lib.hid (S.out.grows hb)
  replace BS := Lib.hid (BS.out.grows hb)
  replace A := Lib.hid (A.out.grows hb)
  replace BA := Lib.hid (BA.out.grows hb)
  replace O := Lib.hid (O.out.grows hb)
  replace BO := Lib.hid (BO.out.grows hb)
  replace R := Lib.hid (R.out.grows hb)
  replace BR := Lib.hid (BR.out.grows hb)
  replace P := Lib.hid (P.out.grows hb)
  replace HB := Lib.hid (HB.out.trans (hb.mono HB.out.size))
  clear hb
  have BA_0 := BA.out.cell 0 rfl
  have BA_1 := BA.out.cell 1 rfl
  have BA_l := BA.out.lt
  go_wp2_with fail
  clear BA_0 BA_1 BA_l
  show Calls Tryd.prog _ _ (al w7 [(Obj.cells #[.bool true, .bool false, .bool false, .bool false, .bool false, .bool false] 4)]) _
  obtain ⟨OS, hOS⟩ : ∃ OS, OS = [(Obj.cells #[.bool true, .bool false, .bool false, .bool false, .bool false, .bool false] 4)] := ⟨_, rfl⟩
  rw [← hOS]
  replace BE := Lib.hid (BE.out.al OS)
  replace E := Lib.hid (E.out.al OS)
  replace C := Lib.hid (C.out.al OS)
  replace BC := Lib.hid (BC.out.al OS)
  replace S := Lib.hid (S.out.al OS)
  replace BS := Lib.hid (BS.out.al OS)
  replace A := Lib.hid (A.out.al OS)
  replace BA := Lib.hid (BA.out.al OS)
  replace O := Lib.hid (O.out.al OS)
  replace BO := Lib.hid (BO.out.al OS)
  replace R := Lib.hid (R.out.al OS)
  replace BR := Lib.hid (BR.out.al OS)
  replace P := Lib.hid (P.out.al OS)
  replace HB := Lib.hid (HB.out.trans ((al_below OS w7).mono HB.out.size))
  have Q0 : IsSet (al w7 OS) (.agg #[.slice none 0 0, .slice (some ⟨w7.heap.size, 0, none⟩) 6 6]) [] [true, false, false, false, false, false] := by rw [hOS]; exact ⟨_, _, rfl, isB_nil _, isB_blk (al_blk w7 _ 0 rfl) _ _ rfl rfl⟩
  have Q := Lib.hid Q0
  clear Q0
  clear hOS
  generalize al w7 OS = W7 at BE E C BC S BS A BA O BO R BR P Q HB ⊢
  refine (same_yes _ _ [] [true, false, false, false, false, false] W7 A.out Q.out (by decide) (by decide)).mono ?_
  rintro e w8 ⟨rfl, hb⟩
  replace BE := Lib.hid (BE.out.grows hb)
  replace E := Lib.hid (E.out.grows hb)
  replace C := Lib.hid (C.out.grows hb)
  replace BC := Lib.hid (BC.out.grows hb)
  replace S := Lib.hid (S.out.grows hb)
  replace BS := Lib.hid (BS.out.grows hb)
  replace A := Lib.hid (A.out.grows hb)
  replace BA := Lib.hid (BA.out.grows hb)
  replace O := Lib.hid (O.out.grows hb)
  replace BO := Lib.hid (BO.out.grows hb)
  replace R := Lib.hid (R.out.grows hb)
  replace BR := Lib.hid (BR.out.grows hb)
  replace P := Lib.hid (P.out.grows hb)
  replace Q := Lib.hid (Q.out.grows hb)
  replace HB := Lib.hid (HB.out.trans (hb.mono HB.out.size))
  clear hb
  have BO_0 := BO.out.cell 0 rfl
  have BO_1 := BO.out.cell 1 rfl
  have BO_l := BO.out.lt
  go_wp2_with fail
  clear BO_0 BO_1 BO_l
  show Calls Tryd.prog _ _ (al w8 [(Obj.cells #[.bool false] 4)]) _
  obtain ⟨OS, hOS⟩ : ∃ OS, OS = [(Obj.cells #[.bool false] 4)] := ⟨_, rfl⟩
  rw [← hOS]
  replace BE := Lib.hid (BE.out.al OS)
  replace E := Lib.hid (E.out.al OS)
  replace C := Lib.hid (C.out.al OS)
  replace BC := Lib.hid (BC.out.al OS)
  replace S := Lib.hid (S.out.al OS)
  replace BS := Lib.hid (BS.out.al OS)
  replace A := Lib.hid (A.out.al OS)
  replace BA := Lib.hid (BA.out.al OS)
  replace O := Lib.hid (O.out.al OS)
  replace BO := Lib.hid (BO.out.al OS)
  replace R := Lib.hid (R.out.al OS)
  replace BR := Lib.hid (BR.out.al OS)
  replace P := Lib.hid (P.out.al OS)
  replace Q := Lib.hid (Q.out.al OS)
  replace HB := Lib.hid (HB.out.trans ((al_below OS w8).mono HB.out.size))
  have U0 : IsSet (al w8 OS) (.agg #[.slice none 0 0, .slice (some ⟨w8.heap.size, 0, none⟩) 1 1]) [] [false] := by rw [hOS]; exact ⟨_, _, rfl, isB_nil _, isB_blk (al_blk w8 _ 0 rfl) _ _ rfl rfl⟩
  have U := Lib.hid U0
  clear U0
  clear hOS
  generalize al w8 OS = W8 at BE E C BC S BS A BA O BO R BR P Q U HB ⊢
  refine (same_yes _ _ [] [false] W8 O.out U.out (by decide) (by decide)).mono ?_
  rintro e w9 ⟨rfl, hb⟩
  replace BE := Lib.hid (BE.out.grows hb)
  replace E := Lib.hid (E.out.grows hb)
  replace C := Lib.hid (C.out.grows hb)
  replace BC := Lib.hid (BC.out.grows hb)
  replace S := Lib.hid (S.out.grows hb)
  replace BS := Lib.hid (BS.out.grows hb)
  replace A := Lib.hid (A.out.grows hb)
  replace BA := Lib.hid (BA.out.grows hb)
  replace O := Lib.hid (O.out.grows hb)
  replace BO := Lib.hid (BO.out.grows hb)
  replace R := Lib.hid (R.out.grows hb)
  replace BR := Lib.hid (BR.out.grows hb)
  replace P := Lib.hid (P.out.grows hb)
  replace Q := Lib.hid (Q.out.grows hb)
  replace U := Lib.hid (U.out.grows hb)
  replace HB := Lib.hid (HB.out.trans (hb.mono HB.out.size))
  clear hb
  have BR_0 := BR.out.cell 0 rfl
  have BR_1 := BR.out.cell 1 rfl
  have BR_l := BR.out.lt
  go_wp2_with fail
  clear BR_0 BR_1 BR_l
  show Calls Tryd.prog _ _ (al w9 [(Obj.cells #[.bool false, .bool true] 4)]) _
  obtain ⟨OS, hOS⟩ : ∃ OS, OS = [(Obj.cells #[.bool false, .bool true] 4)] := ⟨_, rfl⟩
  rw [← hOS]
  replace BE := Lib.hid (BE.out.al OS)
  replace E := Lib.hid (E.out.al OS)
  replace C := Lib.hid (C.out.al OS)
  replace BC := Lib.hid (BC.out.al OS)
  replace S := Lib.hid (S.out.al OS)
  replace BS := Lib.hid (BS.out.al OS)
  replace A := Lib.hid (A.out.al OS)
  replace BA := Lib.hid (BA.out.al OS)
  replace O := Lib.hid (O.out.al OS)
  replace BO := Lib.hid (BO.out.al OS)
  replace R := Lib.hid (R.out.al OS)
  replace BR := Lib.hid (BR.out.al OS)
  replace P := Lib.hid (P.out.al OS)
  replace Q := Lib.hid (Q.out.al OS)
  replace U := Lib.hid (U.out.al OS)
  replace HB := Lib.hid (HB.out.trans ((al_below OS w9).mono HB.out.size))
  have V0 : IsSet (al w9 OS) (.agg #[.slice none 0 0, .slice (some ⟨w9.heap.size, 0, none⟩) 2 2]) [] [false, true] := by rw [hOS]; exact ⟨_, _, rfl, isB_nil _, isB_blk (al_blk w9 _ 0 rfl) _ _ rfl rfl⟩
  have V := Lib.hid V0
  clear V0
  clear hOS
  generalize al w9 OS = W9 at BE E C BC S BS A BA O BO R BR P Q U V HB ⊢
  refine (same_yes _ _ [] [false, true] W9 R.out V.out (by decide) (by decide)).mono ?_
  rintro e w10 ⟨rfl, hb⟩
  replace BE := Lib.hid (BE.out.grows hb)
  replace E := Lib.hid (E.out.grows hb)
  replace C := Lib.hid (C.out.grows hb)
  replace BC := Lib.hid (BC.out.grows hb)
  replace S := Lib.hid (S.out.grows hb)
  replace BS := Lib.hid (BS.out.grows hb)
  replace A := Lib.hid (A.out.grows hb)
  replace BA := Lib.hid (BA.out.grows hb)
  replace O := Lib.hid (O.out.grows hb)
  replace BO := Lib.hid (BO.out.grows hb)
  replace R := Lib.hid (R.out.grows hb)
  replace BR := Lib.hid (BR.out.grows hb)
  replace P := Lib.hid (P.out.grows hb)
  replace Q := Lib.hid (Q.out.grows hb)
  replace U := Lib.hid (U.out.grows hb)
  replace V := Lib.hid (V.out.grows hb)
  replace HB := Lib.hid (HB.out.trans (hb.mono HB.out.size))
  clear hb
  have BS_0 := BS.out.cell 0 rfl
  have BS_1 := BS.out.cell 1 rfl
  have BS_l := BS.out.lt
  go_wp2_with fail
  clear BS_0 BS_1 BS_l
  refine (least_is _ [false, false] [false, true] 4 5 w10 S.out (by kernel_rfl) (by decide) (by decide) (by decide)).mono ?_
  rintro e w11 ⟨rfl, hb⟩
  replace BE := Lib.hid (BE.out.grows hb)
  replace E := Lib.hid (E.out.grows hb)
  replace C := Lib.hid (C.out.grows hb)
  replace BC := Lib.hid (BC.out.grows hb)
  replace S := Lib.hid (S.out.grows hb)
  replace BS := Lib.hid (BS.out.grows hb)
  replace A := Lib.hid (A.out.grows hb)
  replace BA := Lib.hid (BA.out.grows hb)
  replace O := Lib.hid (O.out.grows hb)
  replace BO := Lib.hid (BO.out.grows hb)
  replace R := Lib.hid (R.out.grows hb)
  replace BR := Lib.hid (BR.out.grows hb)
  replace P := Lib.hid (P.out.grows hb)
  replace Q := Lib.hid (Q.out.grows hb)
  replace U := Lib.hid (U.out.grows hb)
  replace V := Lib.hid (V.out.grows hb)
  replace HB := Lib.hid (HB.out.trans (hb.mono HB.out.size))
  clear hb
  have BO_0 := BO.out.cell 0 rfl
  have BO_1 := BO.out.cell 1 rfl
  have BO_l := BO.out.lt
  go_wp2_with fail
  clear BO_0 BO_1 BO_l
  refine (least_is _ [] [false] 0 (-1) w11 O.out (by kernel_rfl) (by decide) (by decide) (by decide)).mono ?_
  rintro e w12 ⟨rfl, hb⟩
  replace BE := Lib.hid (BE.out.grows hb)
  replace E := Lib.hid (E.out.grows hb)
  replace C := Lib.hid (C.out.grows hb)
  replace BC := Lib.hid (BC.out.grows hb)
  replace S := Lib.hid (S.out.grows hb)
  replace BS := Lib.hid (BS.out.grows hb)
  replace A := Lib.hid (A.out.grows hb)
  replace BA := Lib.hid (BA.out.grows hb)
  replace O := Lib.hid (O.out.grows hb)
  replace BO := Lib.hid (BO.out.grows hb)
  replace R := Lib.hid (R.out.grows hb)
  replace BR := Lib.hid (BR.out.grows hb)
  replace P := Lib.hid (P.out.grows hb)
  replace Q := Lib.hid (Q.out.grows hb)
  replace U := Lib.hid (U.out.grows hb)
  replace V := Lib.hid (V.out.grows hb)
  replace HB := Lib.hid (HB.out.trans (hb.mono HB.out.size))
  clear hb
  have BS_0 := BS.out.cell 0 rfl
  have BS_1 := BS.out.cell 1 rfl
  have BS_l := BS.out.lt
  go_wp2_with fail
  clear BS_0 BS_1 BS_l
  refine (has_is _ [false, false] [false, true] 3 true w12 S.out (by kernel_rfl) (by decide) (by decide) (by decide)).mono ?_
  rintro e w13 ⟨rfl, hb⟩
  replace BE := Lib.hid (BE.out.grows hb)
  replace E := Lib.hid (E.out.grows hb)
  replace C := Lib.hid (C.out.grows hb)
  replace BC := Lib.hid (BC.out.grows hb)
  replace S := Lib.hid (S.out.grows hb)
  replace BS := Lib.hid (BS.out.grows hb)
  replace A := Lib.hid (A.out.grows hb)
  replace BA := Lib.hid (BA.out.grows hb)
  replace O := Lib.hid (O.out.grows hb)
  replace BO := Lib.hid (BO.out.grows hb)
  replace R := Lib.hid (R.out.grows hb)
  replace BR := Lib.hid (BR.out.grows hb)
  replace P := Lib.hid (P.out.grows hb)
  replace Q := Lib.hid (Q.out.grows hb)
  replace U := Lib.hid (U.out.grows hb)
  replace V := Lib.hid (V.out.grows hb)
  replace HB := Lib.hid (HB.out.trans (hb.mono HB.out.size))
  clear hb
  have BS_0 := BS.out.cell 0 rfl
  have BS_1 := BS.out.cell 1 rfl
  have BS_l := BS.out.lt
  go_wp2_with fail
  clear BS_0 BS_1 BS_l
  refine (has_is _ [false, false] [false, true] 2 false w13 S.out (by kernel_rfl) (by decide) (by decide) (by decide)).mono ?_
  rintro e w14 ⟨rfl, hb⟩
  replace BE := Lib.hid (BE.out.grows hb)
  replace E := Lib.hid (E.out.grows hb)
  replace C := Lib.hid (C.out.grows hb)
  replace BC := Lib.hid (BC.out.grows hb)
  replace S := Lib.hid (S.out.grows hb)
  replace BS := Lib.hid (BS.out.grows hb)
  replace A := Lib.hid (A.out.grows hb)
  replace BA := Lib.hid (BA.out.grows hb)
  replace O := Lib.hid (O.out.grows hb)
  replace BO := Lib.hid (BO.out.grows hb)
  replace R := Lib.hid (R.out.grows hb)
  replace BR := Lib.hid (BR.out.grows hb)
  replace P := Lib.hid (P.out.grows hb)
  replace Q := Lib.hid (Q.out.grows hb)
  replace U := Lib.hid (U.out.grows hb)
  replace V := Lib.hid (V.out.grows hb)
  replace HB := Lib.hid (HB.out.trans (hb.mono HB.out.size))
  clear hb
  have BE_0 := BE.out.cell 0 rfl
  have BE_1 := BE.out.cell 1 rfl
  have BE_l := BE.out.lt
  go_wp2_with fail
  clear BE_0 BE_1 BE_l
  refine (has_is _ [] [true, false] (-2) false w14 E.out (by kernel_rfl) (by decide) (by decide) (by decide)).mono ?_
  rintro e w15 ⟨rfl, hb⟩
  replace BE := Lib.hid (BE.out.grows hb)
  replace E := Lib.hid (E.out.grows hb)
  replace C := Lib.hid (C.out.grows hb)
  replace BC := Lib.hid (BC.out.grows hb)
  replace S := Lib.hid (S.out.grows hb)
  replace BS := Lib.hid (BS.out.grows hb)
  replace A := Lib.hid (A.out.grows hb)
  replace BA := Lib.hid (BA.out.grows hb)
  replace O := Lib.hid (O.out.grows hb)
  replace BO := Lib.hid (BO.out.grows hb)
  replace R := Lib.hid (R.out.grows hb)
  replace BR := Lib.hid (BR.out.grows hb)
  replace P := Lib.hid (P.out.grows hb)
  replace Q := Lib.hid (Q.out.grows hb)
  replace U := Lib.hid (U.out.grows hb)
  replace V := Lib.hid (V.out.grows hb)
  replace HB := Lib.hid (HB.out.trans (hb.mono HB.out.size))
  clear hb
  go_wp2_with fail
  go_ret
  exact ⟨rfl, HB.out⟩
end Go.Proofs.YtepncbbegpeilaaDoor
