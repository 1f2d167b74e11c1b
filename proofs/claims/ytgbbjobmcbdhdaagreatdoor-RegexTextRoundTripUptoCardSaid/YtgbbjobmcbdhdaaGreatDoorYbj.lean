/-
  Texts of the proof, one behind another: Vd, Ve.
-/
import Derived.Test.YtgbbjobmcbdhdaaGreatDoorYbh
import Derived.Deep.OwnRows
import Derived.OwnWalk
set_option linter.unusedSimpArgs false
set_option linter.unusedVariables false
/-
  Walks: whether every node but the last one is an operand once.
-/
namespace Go.Proofs.YtgbbjobmcbdhdaaGreatDoor
open Go.RowKit

/-- these nodes stand one behind the other from there on. -/
def ReadsN (w : World) (blk off : Nat) (l : List Nd) : Prop := ∀ j x, l[j]? = some x → ∀ i v, (encN x)[i]? = some v → w.cell? ⟨blk, off + j * 9 + i, none⟩ = some v
/-- the value is a slice that reads as these nodes. -/
def IsX (w : World) (v : Value) (l : List Nd) : Prop :=
  (l = [] ∧ ∃ p cap, v = .slice p 0 cap) ∨ ∃ blk off cap, v = .slice (some ⟨blk, off, none⟩) l.length cap ∧ ReadsN w blk off l
theorem ReadsN.grows {w w' : World} {blk off : Nat} {l : List Nd} (h : ReadsN w blk off l) (hb : Below w.heap.size w w') : ReadsN w' blk off l :=
  fun j x hj i v hi => (hb.cell (lt_of_cell (h j x hj i v hi))).trans (h j x hj i v hi)
theorem IsX.grows {w w' : World} {v : Value} {l : List Nd} (h : IsX w v l) (hb : Below w.heap.size w w') : IsX w' v l := by
  rcases h with h | ⟨blk, off, cap, rfl, h⟩
  · exact .inl h
  · exact .inr ⟨blk, off, cap, rfl, h.grows hb⟩
theorem ReadsN.nine {w : World} {blk off : Nat} {l : List Nd} (h : ReadsN w blk off l) (j : Nat) (x : Nd) (hj : l[j]? = some x) :
    w.cell? ⟨blk, off + j * 9, none⟩ = some (.int .i64 x.k) ∧ w.cell? ⟨blk, off + j * 9 + 1, none⟩ = some (.int .u64 (wd x.c 0)) ∧ w.cell? ⟨blk, off + j * 9 + 2, none⟩ = some (.int .u64 (wd x.c 1)) ∧
    w.cell? ⟨blk, off + j * 9 + 3, none⟩ = some (.int .u64 (wd x.c 2)) ∧ w.cell? ⟨blk, off + j * 9 + 4, none⟩ = some (.int .u64 (wd x.c 3)) ∧ w.cell? ⟨blk, off + j * 9 + 5, none⟩ = some (.int .i64 x.l) ∧
    w.cell? ⟨blk, off + j * 9 + 6, none⟩ = some (.int .i64 x.r) ∧ w.cell? ⟨blk, off + j * 9 + 7, none⟩ = some (.int .i64 x.mn) ∧ w.cell? ⟨blk, off + j * 9 + 8, none⟩ = some (.int .i64 x.mx) :=
  ⟨h j x hj 0 _ rfl, h j x hj 1 _ rfl, h j x hj 2 _ rfl, h j x hj 3 _ rfl, h j x hj 4 _ rfl, h j x hj 5 _ rfl, h j x hj 6 _ rfl, h j x hj 7 _ rfl, h j x hj 8 _ rfl⟩
/-- how often each index below n occurs. -/
def cArr (O : List Int) (n : Nat) : Array Value := ((List.range n).map fun (i : Nat) => Value.int .i64 ((O.count (i : Int) : Nat) : Int)).toArray
theorem cArr_get (O : List Int) (n i : Nat) (h : i < n) : (cArr O n)[i]? = some (.int .i64 ((O.count (i : Int) : Nat) : Int)) := by
  unfold cArr; simp [h]
theorem cArr_zero (n : Nat) : madeCells #[.int .i64 0] n = cArr [] n := by
  apply Array.ext_getElem?
  intro k
  by_cases hk : k < n
  · rw [cArr_get _ _ _ hk]
    simp [madeCells, hk, Nat.mod_one]
  · have h1 : (cArr [] n)[k]? = none := by simp [cArr]; omega
    have h2 : (madeCells #[.int .i64 0] n)[k]? = none := by simp [madeCells]; omega
    rw [h1, h2]
theorem cArr_set (O : List Int) (n i : Nat) (h : i < n) : (cArr O n).setIfInBounds i (.int .i64 (((O.count (i : Int) : Nat) : Int) + 1)) = cArr (O ++ [(i : Int)]) n := by
  apply Array.ext_getElem?
  intro k
  by_cases hk : k < n
  · rw [cArr_get _ _ _ hk, Array.getElem?_setIfInBounds]
    by_cases e : i = k
    · subst e
      rw [if_pos rfl, if_pos (by simp [cArr, h])]
      simp
    · rw [if_neg e, cArr_get _ _ _ hk]
      have : ¬ (i : Int) = (k : Int) := by omega
      simp [List.count_append, List.count_cons, this]
  · have h1 : (cArr (O ++ [(i : Int)]) n)[k]? = none := by simp [cArr]; omega
    have h2 : (cArr O n)[k]? = none := by simp [cArr]; omega
    rw [h1, Array.getElem?_setIfInBounds, if_neg (by omega), h2]
theorem flat_len : ∀ ys : List Nd, (ys.flatMap opsN).length ≤ 2 * ys.length
  | [] => by simp
  | y :: ys => by
    have ih := flat_len ys
    have := opsN_len y
    rw [List.flatMap_cons, List.length_append, List.length_cons]; omega
theorem flat_len2 (xs : List Nd) (k : Nat) : ((xs.take k).flatMap opsN).length ≤ 2 * k :=
  Nat.le_trans (flat_len _) (by rw [List.length_take]; omega)
def treeB (xs : List Nd) : Bool := (List.range (xs.length - 1)).all fun (i : Nat) => decide ((xs.flatMap opsN).count (i : Int) = 1)
theorem infoI : (Tryz.prog.info? 3).map (fun i => (i.zero, i.size, i.bytes)) = some (some (.int .i64 0), 1, 8) := by kernel_rfl

set_option maxRecDepth 100000 in
set_option maxHeartbeats 4000000 in
theorem isTree_any (blk off cap : Nat) (xs : List Nd) (W : World) (hx : ReadsN W blk off xs) (h0 : 0 < xs.length) (hl : xs.length ≤ 200) (ho : ∀ n ∈ xs, ∀ j ∈ opsN n, 0 ≤ j ∧ j < xs.length) :
    Calls Tryz.prog 37 #[.slice (some ⟨blk, off, none⟩) xs.length cap] W fun e W' => e = .returned (.bool (treeB xs)) ∧ Below W.heap.size W W' := by
  obtain ⟨i0, hi, hz0, hz1, hz2⟩ := info_parts infoI
  have HO := Lib.hid ho
  have HX := Lib.hid hx
  clear ho hx
  have HM := Lib.hid (cArr_zero xs.length)
  go_enter Tryz.func37, Tryz.ntmps37
  go_wp2_with (at_make; refine wpList_make_row _ rfl _ _ 57 rfl 3 i0 _ Tryz.underlying57 hi hz0 hz1 rfl _ _ xs.length rfl rfl (by rw [hz2]; omega) (by omega) ?_; rw [HM.out])
  go_loopw [15] (fun i wr => ∃ k : Nat, k ≤ xs.length ∧ i = .int .i64 k ∧ Blk wr W.heap.size (cArr ((xs.take k).flatMap opsN) xs.length) 3 ∧ Below W.heap.size W wr) (fun i _ => xs.length - (intOf i).toNat)
  case atStart => exact ⟨0, Nat.zero_le _, rfl, Blk.new W _ _, by go_grown⟩
  case round =>
    obtain ⟨k, hk, rfl, hP, hbw⟩ := hrel
    have hsz := hP.lt
    by_cases hlt : k < xs.length
    · obtain ⟨y, hy⟩ : ∃ y, xs[k]? = some y := ⟨_, List.getElem?_eq_getElem hlt⟩
      have hcs := HX.out.nine k y hy
      have hlb : blk < W.heap.size := lt_of_cell hcs.1
      have mv : ∀ {o : Nat} {v : Value}, W.cell? ⟨blk, o, none⟩ = some v → wr.cell? ⟨blk, o, none⟩ = some v := fun h => (hbw.cell (p := ⟨blk, _, none⟩) hlb).trans h
      obtain ⟨a0, a1, a2, a3, a4, a5, a6, a7, a8⟩ := hcs
      have a0 := mv a0
      have a1 := mv a1
      have a2 := mv a2
      have a3 := mv a3
      have a4 := mv a4
      have a5 := mv a5
      have a6 := mv a6
      have a7 := mv a7
      have a8 := mv a8
      clear mv
      have hmem : ∀ j ∈ opsN y, 0 ≤ j ∧ j < xs.length := HO.out y (List.mem_of_getElem? hy)
      have htk : (xs.take (k + 1)).flatMap opsN = (xs.take k).flatMap opsN ++ opsN y := by rw [List.take_add_one, hy]; simp
      have hln : ((xs.take k).flatMap opsN).length ≤ 2 * k := flat_len2 xs k
      have hl2 := opsN_len y
      have HT := Lib.hid htk
      have HMm := Lib.hid hmem
      have HOP := Lib.hid (fun W => operands_any y W)
      clear htk hmem hy
      generalize hOO : (xs.take k).flatMap opsN = O at hP hln HT
      generalize opsN y = l at HT HMm HOP hl2
      clear hOO
      go_wp2_with (go_at_call 57; refine (HOP.out _).mono ?_; rintro e W1 ⟨⟨v, rfl, hv, hnew⟩, hb1⟩; obtain ⟨p, c1, rfl⟩ := hv.shape)
      have hP1 := (hP.alloc (.cells #[.int .i64 y.k, .int .u64 (wd y.c 0), .int .u64 (wd y.c 1), .int .u64 (wd y.c 2), .int .u64 (wd y.c 3), .int .i64 y.l, .int .i64 y.r, .int .i64 y.mn, .int .i64 y.mx] 45)).grows hb1
      have hbw1 : Below W.heap.size W W1 := (hbw.alloc (by omega) _).trans (hb1.mono (by simp; omega))
      clear a0 a1 a2 a3 a4 a5 a6 a7 a8 hb1 HOP
      have HV := Lib.hid hv
      have HNew := Lib.hid (fun a (h : Value.slice p l.length c1 = .slice (some a) l.length c1) => hnew a _ _ h)
      clear hv hnew
      obtain ⟨wo, rfl⟩ : ∃ wo : World, wo = wr := ⟨_, rfl⟩
      go_loopw [22] (fun i wr => ∃ m : Nat, m ≤ l.length ∧ i = .int .i64 m ∧ Blk wr W.heap.size (cArr (O ++ l.take m) xs.length) 3 ∧ IsI wr (.slice p l.length c1) l ∧ Below W.heap.size W wr) (fun i _ => l.length - (intOf i).toNat)
      case atStart => exact ⟨0, Nat.zero_le _, rfl, by simpa using hP1, HV.out, hbw1⟩
      case round =>
        clear hP hP1 hbw1 hbw HV
        obtain ⟨m, hm, rfl, hP, hv, hbw⟩ := hrel
        by_cases hlm : m < l.length
        · obtain ⟨j, hj⟩ : ∃ j, l[m]? = some j := ⟨_, List.getElem?_eq_getElem hlm⟩
          have hjr := HMm.out j (List.mem_of_getElem? hj)
          obtain ⟨jn, rfl⟩ := Int.eq_ofNat_of_zero_le hjr.1
          have hjn : jn < xs.length := by have := hjr.2; omega
          clear hjr
          obtain ⟨b2, o2, rfl, hc⟩ := hv.at hj
          have hnb : W.heap.size < b2 := by have := HNew.out ⟨b2, o2, none⟩ rfl; simp at this; omega
          have htm : O ++ l.take (m + 1) = (O ++ l.take m) ++ [(jn : Int)] := by rw [List.take_add_one, hj]; simp
          have HTm := Lib.hid htm
          have hcnt : (O ++ l.take m).count (jn : Int) ≤ 500 := by
            refine Nat.le_trans List.count_le_length ?_
            rw [List.length_append, List.length_take]; omega
          have hset := Lib.hid (cArr_set (O ++ l.take m) xs.length jn hjn)
          have hget := hP.cell jn (cArr_get _ _ _ hjn)
          have hfr := hP.free jn
          clear htm hj
          have HV := Lib.hid hv
          have HP := Lib.hid hP
          clear hv hP
          generalize (O ++ l.take m).count (jn : Int) = cc at hcnt hset hget
          go_wp2
          go_roundw
          case rel =>
            refine ⟨m + 1, by omega, by go_num, ?_, ?_, hbw.setCell (Nat.le_refl _) _⟩
            · rw [HTm.out, ← hset.out]; exact HP.out.set jn _
            · rcases HV.out with ⟨h, _⟩ | ⟨b3, o3, c3, he, h3⟩
              · subst h; simp at hlm
              · refine .inr ⟨b3, o3, c3, he, fun q z hq => ?_⟩
                cases he
                exact (World.cell?_of_block (Below.heap_setCell _ _ _ _ (by simp; omega))).trans (h3 q z hq)
          case measure => simp [intOf]; omega
        · obtain rfl : m = l.length := by omega
          rw [List.take_length] at hP
          go_wp2
          go_roundw
          case rel => exact ⟨k + 1, by omega, by go_num, by rw [HT.out]; exact hP, hbw⟩
          case measure => simp [intOf]; omega
    · obtain rfl : k = xs.length := by omega
      rw [List.take_length] at hP
      have HP := Lib.hid hP
      have w1 : IntKind.i64.wrap ((xs.length : Int) - 1) = ((xs.length - 1 : Nat) : Int) := by rw [IntWalk.i64_in _ (by omega)]; omega
      clear hP
      have hN : xs.length - 1 < xs.length := by omega
      have HB := Lib.hid hbw
      clear hbw hlt
      generalize hX : xs.length - 1 = N at w1 hN
      have HXN := Lib.hid hX
      clear hX
      go_wp2
      go_loop [40] (fun i => ∃ k : Nat, k ≤ N ∧ i = .int .i64 k ∧ ∀ j, j < k → (xs.flatMap opsN).count (j : Int) = 1) (fun i => N - (intOf i).toNat)
      case atStart => exact ⟨0, Nat.zero_le _, rfl, fun j hj => absurd hj (Nat.not_lt_zero j)⟩
      case round =>
        obtain ⟨k, hkN, rfl, hall⟩ := hrel
        have HA := Lib.hid hall
        clear hall
        by_cases hlt : k < N
        · have hget := HP.out.cell k (cArr_get (xs.flatMap opsN) xs.length k (by omega))
          by_cases h1 : (xs.flatMap opsN).count (k : Int) = 1
          · have HA1 := Lib.hid h1
            rw [h1] at hget
            clear h1
            go_wp2
            go_round
            case rel =>
              refine ⟨k + 1, by omega, by go_num, fun j hj => ?_⟩
              rcases Nat.lt_or_ge j k with h | h
              · exact HA.out j h
              · obtain rfl : j = k := by omega
                exact HA1.out
            case measure => simp [intOf]; omega
          · have hf : treeB xs = false := by
              unfold treeB
              rw [Bool.eq_false_iff]
              intro hall
              rw [List.all_eq_true] at hall
              have := hall k (by rw [List.mem_range, HXN.out]; exact hlt)
              exact h1 (of_decide_eq_true this)
            have HF := Lib.hid hf
            have hne : ((((xs.flatMap opsN).count (k : Int) : Nat) : Int) != 1) = true := by rw [bne_iff_ne]; omega
            generalize (xs.flatMap opsN).count (k : Int) = cc at hget hne
            clear h1 hf
            go_wp2
            go_ret
            exact ⟨ret_bool HF.out.symm, HB.out⟩
        · have ht : treeB xs = true := by
            unfold treeB
            rw [List.all_eq_true]
            intro j hj
            rw [List.mem_range, HXN.out] at hj
            exact decide_eq_true (HA.out j (by omega))
          have HF := Lib.hid ht
          clear ht
          obtain rfl : k = N := by omega
          go_wp2
          go_ret
          exact ⟨ret_bool HF.out.symm, HB.out⟩
end Go.Proofs.YtgbbjobmcbdhdaaGreatDoor

/-
  Walks: Valid.
-/
namespace Go.Proofs.YtgbbjobmcbdhdaaGreatDoor
open Go.RowKit

def firstE : Nat → List Nd → Int
  | _, [] => 0
  | i, n :: l => if chkN n i = 0 then firstE (i + 1) l else chkN n i
def vRes (e : Int) (t : Bool) : Int := if e = 0 then (if t then 0 else 1) else e
def validE (xs : List Nd) : Int := if 200 < xs.length then 2 else if xs.length = 0 then 1 else vRes (firstE 0 xs) (treeB xs)
theorem firstE_drop {xs : List Nd} {k : Nat} {n : Nd} (h : xs[k]? = some n) : firstE k (xs.drop k) = if chkN n k = 0 then firstE (k + 1) (xs.drop (k + 1)) else chkN n k := by
  obtain ⟨hk, he⟩ := List.getElem?_eq_some_iff.1 h
  rw [List.drop_eq_getElem_cons hk, he, firstE]
theorem chk_zero {n : Nd} {i : Int} (h : chkN n i = 0) : ∀ j ∈ opsN n, 0 ≤ j ∧ j < i := by
  intro j hj
  unfold chkN at h
  split at h
  · cases h
  · unfold chkR at h
    split at h
    · cases h
    · rename_i hany
      have : badOp i j = false := by
        rw [Bool.eq_false_iff]; intro hb; exact hany (List.any_eq_true.2 ⟨j, hj, hb⟩)
      unfold badOp at this
      simp at this
      omega
theorem firstE_ops : ∀ (l : List Nd) (i : Nat), firstE i l = 0 → ∀ n ∈ l, ∀ j ∈ opsN n, 0 ≤ j ∧ j < (i + l.length : Nat)
  | [], _, _ => by simp
  | m :: l, i, h => by
    rw [firstE] at h
    split at h
    · rename_i h0
      intro n hn j hj
      rcases List.mem_cons.1 hn with rfl | hn
      · have := chk_zero h0 j hj; simp; omega
      · have := firstE_ops l (i + 1) h n hn j hj; simp at this ⊢; omega
    · rename_i h0; exact absurd h h0

set_option maxRecDepth 100000 in
set_option maxHeartbeats 4000000 in
theorem valid_any (v : Value) (xs : List Nd) (W : World) (hv : IsX W v xs) (hm : xs.length ≤ maxLen) :
    Calls Tryz.prog 17 #[v] W fun e W' => e = .returned (.int .i64 (validE xs)) ∧ Below W.heap.size W W' := by
  unfold maxLen at hm
  unfold validE
  by_cases h200 : 200 < xs.length
  · rw [if_pos h200]
    have t1 : decide ((200 : Int) < (xs.length : Int)) = true := by simp; omega
    obtain ⟨p, cap, rfl⟩ : ∃ p cap, v = .slice p xs.length cap := by
      rcases hv with ⟨rfl, p, cap, rfl⟩ | ⟨b, o, c, rfl, _⟩
      · exact ⟨_, _, rfl⟩
      · exact ⟨_, _, rfl⟩
    clear hv
    go_enter Tryz.func17, Tryz.ntmps17
    go_wp2
    go_ret
    exact ⟨rfl, Below.refl _ _⟩
  rw [if_neg h200]
  have t1 : decide ((200 : Int) < (xs.length : Int)) = false := by simp; omega
  rcases hv with ⟨rfl, p, cap, rfl⟩ | ⟨blk, off, cap, rfl, hx⟩
  · clear h200 t1
    go_enter Tryz.func17, Tryz.ntmps17
    go_wp2
    go_ret
    exact ⟨rfl, Below.refl _ _⟩
  by_cases h0 : xs.length = 0
  · rw [if_pos h0]
    have t2 : ((xs.length : Int) == 0) = true := by simp [h0]
    have H0 := Lib.hid h0
    clear h0
    go_enter Tryz.func17, Tryz.ntmps17
    go_wp2
    go_ret
    exact ⟨rfl, Below.refl _ _⟩
  rw [if_neg h0]
  have t2 : ((xs.length : Int) == 0) = false := by simp; intro e; exact h0 (by simp [e])
  have hpos : 0 < xs.length := by omega
  have HX := Lib.hid hx
  clear hx h0
  generalize hR : vRes (firstE 0 xs) (treeB xs) = R
  have HR := Lib.hid hR
  clear hR
  go_enter Tryz.func17, Tryz.ntmps17
  go_wp2
  go_loopw [14] (fun i wr => ∃ k : Nat, k ≤ xs.length ∧ i = .int .i64 k ∧ firstE k (xs.drop k) = firstE 0 xs ∧ Below W.heap.size W wr) (fun i _ => xs.length - (intOf i).toNat)
  case atStart => exact ⟨0, Nat.zero_le _, rfl, rfl, Below.refl _ _⟩
  case round =>
    obtain ⟨k, hk, rfl, hfe, hbw⟩ := hrel
    by_cases hlt : k < xs.length
    · obtain ⟨y, hy⟩ : ∃ y, xs[k]? = some y := ⟨_, List.getElem?_eq_getElem hlt⟩
      have hcs := HX.out.nine k y hy
      have hlb : blk < W.heap.size := lt_of_cell hcs.1
      have mv : ∀ {o : Nat} {v : Value}, W.cell? ⟨blk, o, none⟩ = some v → wr.cell? ⟨blk, o, none⟩ = some v := fun h => (hbw.cell (p := ⟨blk, _, none⟩) hlb).trans h
      obtain ⟨a0, a1, a2, a3, a4, a5, a6, a7, a8⟩ := hcs
      have a0 := mv a0
      have a1 := mv a1
      have a2 := mv a2
      have a3 := mv a3
      have a4 := mv a4
      have a5 := mv a5
      have a6 := mv a6
      have a7 := mv a7
      have a8 := mv a8
      clear mv
      rw [firstE_drop hy] at hfe
      clear hy
      have hal : Below W.heap.size W (wr.alloc (.cells #[.int .i64 y.k, .int .u64 (wd y.c 0), .int .u64 (wd y.c 1), .int .u64 (wd y.c 2), .int .u64 (wd y.c 3), .int .i64 y.l, .int .i64 y.r, .int .i64 y.mn, .int .i64 y.mx] 45)) := hbw.alloc hbw.size _
      have HAL := Lib.hid hal
      clear hal
      by_cases hc : chkN y (k : Int) = 0
      · rw [if_pos hc] at hfe
        have HF := Lib.hid hfe
        have HC := Lib.hid (fun W => hc ▸ check_any y (k : Int) W)
        have tz : ((0 : Int) != 0) = false := rfl
        clear hfe hc
        go_wp2_with (go_at_call 36; refine (HC.out _).mono ?_; rintro e W1 ⟨rfl, hb1⟩)
        go_roundw
        case rel => exact ⟨k + 1, by omega, by go_num, HF.out, HAL.out.trans (hb1.mono HAL.out.size)⟩
        case measure => simp [intOf]; omega
      · rw [if_neg hc] at hfe
        have HF := Lib.hid (show R = chkN y (k : Int) by rw [← HR.out, ← hfe]; unfold vRes; rw [if_neg hc])
        have HC := Lib.hid (fun W => check_any y (k : Int) W)
        have tz : (chkN y (k : Int) != 0) = true := by rw [bne_iff_ne]; exact hc
        clear hfe hc
        generalize chkN y (k : Int) = er at HF HC tz
        go_wp2_with (go_at_call 36; refine (HC.out _).mono ?_; rintro e W1 ⟨rfl, hb1⟩)
        go_ret
        exact ⟨ret_int HF.out.symm, HAL.out.trans (hb1.mono HAL.out.size)⟩
    · obtain rfl : k = xs.length := by omega
      rw [List.drop_eq_nil_of_le (Nat.le_refl _)] at hfe
      have hops := firstE_ops xs 0 hfe.symm
      have HT := Lib.hid (fun (w : World) (hb : Below W.heap.size W w) => isTree_any blk off cap xs w (fun j x hj i u hi => (hb.cell (lt_of_cell (HX.out j x hj i u hi))).trans (HX.out j x hj i u hi)) hpos (by omega) (fun n hn j hj => by have := hops n hn j hj; simp at this; omega))
      have HF := Lib.hid (show R = if treeB xs then 0 else 1 by rw [← HR.out, ← hfe]; rfl)
      clear hfe hops
      cases hb : treeB xs with
      | true =>
        rw [hb] at HF HT
        go_wp2_with (go_at_call 37; refine (HT.out _ hbw).mono ?_; rintro e W1 ⟨rfl, hb1⟩)
        go_ret
        exact ⟨ret_int HF.out.symm, hbw.trans (hb1.mono hbw.size)⟩
      | false =>
        rw [hb] at HF HT
        go_wp2_with (go_at_call 37; refine (HT.out _ hbw).mono ?_; rintro e W1 ⟨rfl, hb1⟩)
        go_ret
        exact ⟨ret_int HF.out.symm, hbw.trans (hb1.mono hbw.size)⟩
end Go.Proofs.YtgbbjobmcbdhdaaGreatDoor
