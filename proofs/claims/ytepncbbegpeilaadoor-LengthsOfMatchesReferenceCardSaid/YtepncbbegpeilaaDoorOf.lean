/-
  Walks: the lengths of the words of an automaton.
-/
import Derived.Test.YtepncbbegpeilaaDoorDv
import Derived.Test.YtepncbbegpeilaaDoorPa
import Derived.Test.YtepncbbegpeilaaDoorBi
import Derived.Test.YtepncbbegpeilaaDoorMp
import Derived.Test.YtepncbbegpeilaaDoorCb
import Derived.RegionTactic
import Derived.WalkMore
set_option linter.unusedSimpArgs false
set_option linter.unusedVariables false
namespace Go.Proofs.YtepncbbegpeilaaDoor
open Go.RowKit Go.Lib
open Go.Deep

/-- n numbers of 64 bits. -/
def rowU (n : Nat) (f : Nat → Nat) : Array Value := ((List.range n).map fun j => Value.int .u64 (f j : Int)).toArray
theorem rowU_size (n : Nat) (f : Nat → Nat) : (rowU n f).size = n := by simp [rowU]
theorem rowU_get (n : Nat) (f : Nat → Nat) (j : Nat) (hj : j < n) : (rowU n f)[j]? = some (.int .u64 (f j : Int)) := by simp [rowU, hj]
theorem rowU_put (n : Nat) (f : Nat → Nat) (p x : Nat) : (rowU n f).setIfInBounds p (.int .u64 (x : Int)) = rowU n (fun j => if j = p then x else f j) := by
  apply Array.ext_getElem?
  intro j
  rw [Array.getElem?_setIfInBounds]
  by_cases hj : j < n
  · rw [rowU_get _ _ _ hj, rowU_get _ _ _ hj, rowU_size]
    by_cases e : p = j
    · subst e; simp [hj]
    · rw [if_neg e, if_neg (fun h => e h.symm)]
  · rw [Array.getElem?_eq_none (by rw [rowU_size]; omega), Array.getElem?_eq_none (by rw [rowU_size]; omega)]
    by_cases e : p = j
    · subst e; simp [rowU_size]; omega
    · rw [if_neg e]
theorem rowU_congr {n : Nat} {f g : Nat → Nat} (h : ∀ j, j < n → f j = g j) : rowU n f = rowU n g := by
  apply Array.ext_getElem?
  intro j
  by_cases hj : j < n
  · rw [rowU_get _ _ _ hj, rowU_get _ _ _ hj, h j hj]
  · rw [Array.getElem?_eq_none (by rw [rowU_size]; omega), Array.getElem?_eq_none (by rw [rowU_size]; omega)]
theorem rowU_zero (n : Nat) : madeCells #[.int .u64 0] n = rowU n (fun _ => 0) := by
  apply Array.ext_getElem?
  intro j
  by_cases hj : j < n
  · rw [rowU_get _ _ _ hj]
    simp [madeCells, hj, Nat.mod_one]
  · rw [Array.getElem?_eq_none (by simp [madeCells]; omega), Array.getElem?_eq_none (by rw [rowU_size]; omega)]
/-- the table behind q rows and a part of the next one. -/
def tbl (tb : List Nat) (q x j : Nat) : Nat := if j < q then tb.getD j 0 else if j = q then x else 0
theorem tbl_put (tb : List Nat) (q x y j : Nat) : (if j = q then y else tbl tb q x j) = tbl tb q y j := by
  unfold tbl
  by_cases e : j = q
  · subst e; simp
  · rw [if_neg e, if_neg e, if_neg e]
theorem tbl_next (tb : List Nat) (q j : Nat) : tbl tb q (tb.getD q 0) j = tbl tb (q + 1) 0 j := by
  unfold tbl
  by_cases h : j < q
  · rw [if_pos h, if_pos (by omega)]
  · rw [if_neg h]
    by_cases e : j = q
    · subst e; rw [if_pos rfl, if_pos (by omega)]
    · rw [if_neg e, if_neg (by omega)]; split <;> rfl
theorem infoU : (Tryd.prog.info? 39).map (fun i => (i.zero, i.size, i.bytes)) = some (some (.int .u64 0), 1, 8) := by kernel_rfl
theorem or_pow (u t : Nat) (hu : u < 2 ^ 64) (ht : t < 64) : bits .or .u64 (u : Int) (IntKind.u64.wrap (2 ^ t)) = ((u ||| 2 ^ t : Nat) : Int) := by
  have e : ((2 : Int) ^ t) = ((2 ^ t : Nat) : Int) := by norm_cast
  have h : 2 ^ t < 2 ^ 64 := Nat.pow_lt_pow_right (by decide) ht
  rw [e, wrap_u64_nat _ h]
  exact u64_or_nat u (2 ^ t) hu h
def sliceLen : Value → Nat
  | .slice _ n _ => n
  | _ => 0
theorem map_getD {α : Type} (f : α → Nat) (l : List α) (j : Nat) (x : α) (h : l[j]? = some x) : (l.map f).getD j 0 = f x := by
  rw [List.getD_eq_getElem?_getD, List.getElem?_map, h]; rfl
set_option maxRecDepth 100000 in
set_option maxHeartbeats 4000000 in
theorem of_any (v : Value) (cls : List (BitVec 256)) (next : List (List Int)) (acc : List Bool) (w : World) (hv : IsD w v cls next acc) (hc : cls.length ≤ 1152921504606846976) (hn : next.length ≤ 1152921504606846976) (ha : acc.length ≤ 1152921504606846976) (hr : ∀ r ∈ next, r.length ≤ 1152921504606846976)
    (hsmall : next.length ≤ 16) (hT : TabAt 0 Lib.deBruijn64tab w) (hg : 0 < w.heap.size) :
    Calls Tryd.prog 6 #[v] w fun e w' => OpRes w.heap.size (validD cls next acc) (accN (next.map rowBits) (accBits acc next.length)) w' e ∧ Below w.heap.size w w' := by
  obtain ⟨pc, kc, pn, kn, pa, ka, rfl, h1, h2, h3⟩ := hv.shape
  obtain ⟨i0, hi, hz0, hz1, hz2⟩ := info_parts infoU
  have HV := Lib.hid (fun W (hW : Below w.heap.size w W) => dfa_valid_any _ cls next acc W (hv.grows hW) hc hn ha hr)
  have X0 := (Blk.new w #[.slice pc cls.length kc, .slice pn next.length kn, .slice pa acc.length ka] 28).alloc (.cells #[.slice none 0 0, .slice none 0 0] 31)
  have R0 := Blk.alloc1 w #[.slice pc cls.length kc, .slice pn next.length kn, .slice pa acc.length ka] #[.slice none 0 0, .slice none 0 0] 28 31
  have hbw0 : Below w.heap.size w ((w.alloc (.cells #[.slice pc cls.length kc, .slice pn next.length kn, .slice pa acc.length ka] 28)).alloc (.cells #[.slice none 0 0, .slice none 0 0] 31)) := by go_grown
  cases hval : validD cls next acc
  · rw [hval] at HV
    clear hval hv h1 h2 h3
    go_enter Tryd.func6, Tryd.ntmps6
    go_wp2_with fail
    go_step3
    go_wp2_with (go_at_call 15; refine (HV.out _ hbw0).mono ?_; rintro e w1 ⟨rfl, hb1⟩; have R1 := R0.grows hb1; have r0 := R1.cell 0 rfl; have r1 := R1.cell 1 rfl; have z0 := R1.free 0; have z1 := R1.free 1)
    have q0 : (w1.setCell ⟨w.heap.size + 1, 0, none⟩ (.slice none 0 0)).cell? ⟨w.heap.size + 1, 0, none⟩ = some (.slice none 0 0) := (R1.set 0 _).cell 0 rfl
    have q1 : ((w1.setCell ⟨w.heap.size + 1, 0, none⟩ (.slice none 0 0)).setCell ⟨w.heap.size + 1, 1, none⟩ (.slice none 0 0)).cell? ⟨w.heap.size + 1, 1, none⟩ = some (.slice none 0 0) := ((R1.set 0 _).set 1 _).cell 1 rfl
    try rw [Exit.noGoto_ret]
    refine bodyPost_ret (v := .tuple #[.agg #[.slice none 0 0, .slice none 0 0], .int .i64 1]) (by simp [results, Tryd.results6, go_sem, q0, q1]) rfl ⟨.inl ⟨rfl, rfl⟩, ((below_two hbw0 hb1).setCell (Nat.le_add_right _ 1) _).setCell (Nat.le_add_right _ 1) _⟩
  · rw [hval] at HV
    obtain ⟨-, hn1, -, hal, hrows⟩ := validD_iff.1 hval
    have HM := Lib.hid (fun k r (hk : next[k]? = some r) => h2.at hk)
    have HB := Lib.hid (fun W (hW : Below w.heap.size w W) k (hk : k < acc.length) => (h3.grows hW).at hk)
    have HRo := Lib.hid hrows
    have HRl := Lib.hid hr
    have HT := Lib.hid (fun W (hW : Below w.heap.size w W) => tab_below hT hW hg)
    have HAl := Lib.hid hal
    have HMk := Lib.hid ((rowU_zero next.length).trans (rowU_congr (g := tbl (next.map rowBits) 0 0) fun j _ => by unfold tbl; rw [if_neg (by omega)]; split <;> rfl))
    obtain ⟨tb, htb⟩ : ∃ tb, tb = next.map rowBits := ⟨_, rfl⟩
    have HTb := Lib.hid (fun (q : Nat) r (hq : next[q]? = some r) => (show tb.getD q 0 = rowBits r by rw [htb]; exact map_getD rowBits next q r hq))
    have HTl := Lib.hid (show tb.length = next.length by rw [htb, List.length_map])
    rw [← htb] at HMk ⊢
    clear hval hv h1 h2 h3 hrows hr hT hg hal htb
    go_enter Tryd.func6, Tryd.ntmps6
    go_wp2_with fail
    go_step3
    go_wp2_with (first
      | (go_at_call 15; refine (HV.out _ hbw0).mono ?_; rintro e w1 ⟨rfl, hb1⟩; have X1 := X0.grows hb1; have R1 := R0.grows hb1; have hbw1 := below_two hbw0 hb1; have x0 := X1.cell 0 rfl; have x1 := X1.cell 1 rfl; have x2 := X1.cell 2 rfl)
      | (at_make; refine wpList_make_row _ rfl _ _ 46 rfl 39 i0 _ Tryd.underlying46 hi hz0 hz1 rfl _ _ next.length rfl rfl (by rw [hz2]; omega) (by omega) ?_; rw [HMk.out]; have X2 := X1.alloc (.cells (rowU next.length (tbl tb 0 0)) 39); have R2 := R1.alloc (.cells (rowU next.length (tbl tb 0 0)) 39); have G2 := Blk.new w1 (rowU next.length (tbl tb 0 0)) 39; have hbw2 := hbw1.alloc hbw1.size (.cells (rowU next.length (tbl tb 0 0)) 39); have x3 := X2.cell 0 rfl; have x4 := X2.cell 1 rfl; have x5 := X2.cell 2 rfl))
    have hgs : w.heap.size + 1 < w1.heap.size := R1.lt
    clear X0 R0 hbw0 hb1 X1 R1 hbw1 x0 x1 x2 x3 x4 x5
    generalize (w1.alloc (.cells (rowU next.length (tbl tb 0 0)) 39)) = w2 at X2 R2 G2 hbw2 ⊢
    generalize w1.heap.size = g at G2 hgs ⊢
    clear HMk
    go_loopw [5, 28] (fun u i wr => ∃ q : Nat, i = .int .i64 q ∧ u = .int .u64 ((accBits acc q : Nat) : Int) ∧ q ≤ next.length ∧ Blk wr g (rowU next.length (tbl tb q 0)) 39 ∧ Blk wr w.heap.size #[.slice pc cls.length kc, .slice pn next.length kn, .slice pa acc.length ka] 28 ∧ Blk wr (w.heap.size + 1) #[.slice none 0 0, .slice none 0 0] 31 ∧ Below w.heap.size w wr) (fun _ i _ => next.length - (RowKit.intOf i).toNat)
    case atStart => exact ⟨0, rfl, rfl, Nat.zero_le _, G2, X2, R2, hbw2⟩
    case round =>
      clear G2 X2 R2 hbw2
      obtain ⟨q, rfl, rfl, hq, G, X, R, hbw⟩ := hrel
      by_cases hlt : q < next.length
      · obtain ⟨r, hr⟩ := get_of_lt hlt
        obtain ⟨blk, off, rq, rc, rfl, hcell, hI⟩ := HM.out q r hr
        have hcell := (hbw.cell (p := ⟨blk, off + q, none⟩) (lt_of_cell hcell)).trans hcell
        have hmem := List.mem_of_getElem? hr
        have HRr := Lib.hid (HRo.out r hmem)
        have hrl := HRl.out r hmem
        have HTq := Lib.hid (HTb.out q r hr)
        have HI := Lib.hid (fun W (hW : Below w.heap.size w W) j x (hj : r[j]? = some x) => (hI.grows hW).at hj)
        clear hI hr
        go_wp2
        go_loopw [35] (fun i wi => ∃ j : Nat, i = .int .i64 j ∧ j ≤ r.length ∧ Blk wi g (rowU next.length (tbl tb q (rowBits (r.take j)))) 39 ∧ Blk wi w.heap.size #[.slice pc cls.length kc, .slice (some ⟨blk, off, none⟩) next.length kn, .slice pa acc.length ka] 28 ∧ Blk wi (w.heap.size + 1) #[.slice none 0 0, .slice none 0 0] 31 ∧ Below w.heap.size w wi) (fun i _ => r.length - (RowKit.intOf i).toNat)
        case atStart => exact ⟨0, rfl, Nat.zero_le _, G.cast (by rw [List.take_zero]; rfl), X, R, hbw⟩
        case round =>
          clear G X R hbw hcell
          obtain ⟨j, rfl, hj, G, X, R, hbw⟩ := hrel
          by_cases hjl : j < r.length
          · obtain ⟨x, hx⟩ := get_of_lt hjl
            obtain ⟨blk', off', rfl, hcx⟩ := HI.out _ hbw j x hx
            have hxm := HRr.out.2 x (List.mem_of_getElem? hx)
            obtain ⟨t, rfl⟩ := Int.eq_ofNat_of_zero_le hxm.1
            have htn : t < next.length := by have := hxm.2; omega
            have hlow : rowBits (r.take j) < 2 ^ 64 := Nat.lt_of_lt_of_le (rowBits_lt (n := next.length) fun y hy => by have := HRr.out.2 y (List.mem_of_mem_take hy); have h1 := this.1; have h2 := this.2; omega) (Nat.pow_le_pow_right (by decide) (by omega))
            have HPut := Lib.hid (show (rowU next.length (tbl tb q (rowBits (r.take j)))).setIfInBounds q (.int .u64 ((rowBits (r.take j) ||| 2 ^ t : Nat) : Int)) = rowU next.length (tbl tb q (rowBits (r.take (j + 1)))) by
              rw [rowU_put, rowBits_take hx]; exact rowU_congr fun i _ => tbl_put _ _ _ _ _)
            have c0 := G.cell q (rowU_get _ _ _ hlt)
            have hct : tbl tb q (rowBits (r.take j)) q = rowBits (r.take j) := by unfold tbl; rw [if_neg (by omega), if_pos rfl]
            rw [hct] at c0
            have f0 := G.free q
            clear hct hx hxm
            generalize rowBits (r.take j) = u at c0 hlow HPut G
            have hor := or_pow u t hlow (by omega)
            generalize u ||| 2 ^ t = u2 at hor HPut
            go_wp2_with fail
            go_region
            go_wp2
            go_roundw
            case rel => exact ⟨j + 1, by go_num, by omega, ((G.set q _).cast HPut.out).drew, (X.other (by show w.heap.size ≠ g; omega) _).drew, (R.other (by show w.heap.size + 1 ≠ g; omega) _).drew, (hbw.setCell (by show w.heap.size ≤ g; omega) _).drew⟩
            case measure => simp [RowKit.intOf]; omega
          · obtain rfl : j = r.length := by omega
            rw [List.take_length, ← HTq.out] at G
            have G := G.cast (show _ = rowU next.length (tbl tb (q + 1) 0) from rowU_congr fun i _ => tbl_next tb q i)
            have hqa : q < acc.length := by rw [HAl.out]; exact hlt
            obtain ⟨blk', off', rfl, hca⟩ := HB.out _ hbw q hqa
            have x2 := X.cell 2 rfl
            have hacc : accBits acc (q + 1) = if acc.getD q false = true then accBits acc q ||| 2 ^ q else accBits acc q := rfl
            have hal64 : accBits acc q < 2 ^ 64 := Nat.lt_of_lt_of_le (accBits_lt acc next.length q (by omega)) (Nat.pow_le_pow_right (by decide) (by omega))
            have hor := or_pow (accBits acc q) q hal64 (by omega)
            cases hb : acc.getD q false
            · rw [hb] at hca hacc
              rw [if_neg (by simp)] at hacc
              have HAc := Lib.hid hacc
              clear hacc hb hor
              go_wp2
              go_roundw
              case rel => exact ⟨q + 1, by go_num, by rw [HAc.out], by omega, G, X, R, hbw⟩
              case measure => simp [RowKit.intOf]; omega
            · rw [hb] at hca hacc
              rw [if_pos rfl] at hacc
              have HAc := Lib.hid hacc
              clear hacc hb
              go_wp2
              go_roundw
              case rel => exact ⟨q + 1, by go_num, by first | rw [HAc.out] | (rw [HAc.out, ← hor]), by omega, G, X, R, hbw⟩
              case measure => simp [RowKit.intOf]; omega
      · obtain rfl : q = next.length := by omega
        have G := G.cast (show _ = rowU next.length (fun j => tb.getD j 0) from rowU_congr fun j hj => by unfold tbl; rw [if_pos hj])
        have hmm := @run_makeMap Tryd.prog
        have hAlt : accBits acc next.length < 2 ^ 64 := Nat.lt_of_lt_of_le (accBits_lt acc next.length _ (Nat.le_refl _)) (Nat.pow_le_pow_right (by decide) (by omega))
        generalize hA : accBits acc next.length = A at hAlt ⊢
        have HA := Lib.hid hA
        clear hA
        have hbw1 : Below w.heap.size w (wr.alloc (Obj.map #[] 0)) := hbw.alloc hbw.size _
        have K1 : KeysF (wr.alloc (Obj.map #[] 0)) wr.heap.size [] := ⟨#[], 0, by show (wr.heap.push _)[wr.heap.size]? = _; simp, rfl, rfl⟩
        have G1 := G.alloc (Obj.map #[] 0)
        have R1 := R.alloc (Obj.map #[] 0)
        have hgm : g < wr.heap.size := G.lt
        have hB1 : wr.heap.size + 1 ≤ (wr.alloc (Obj.map #[] 0)).heap.size := by simp
        have O1 := World.ownsRow_nil (wr.alloc (Obj.map #[] 0)) (wr.heap.size + 1) 4 1
        go_wp2
        go_step3
        clear G X R hbw hmm
        generalize wr.alloc (Obj.map #[] 0) = w3 at hbw1 K1 G1 R1 hB1 O1 ⊢
        generalize wr.heap.size = mb at K1 hgm hB1 O1 ⊢
        go_wp2
        have hn16 : 2 ^ next.length ≤ 65536 := Nat.pow_le_pow_right (by decide) hsmall
        have HTbl := Lib.hid (show ∀ q, q < tb.length → tb.getD q 0 < 2 ^ next.length from fun q hq => by
          rw [HTl.out] at hq
          obtain ⟨r, hr⟩ := get_of_lt hq
          rw [HTb.out q r hr]
          exact rowBits_lt fun t ht => by have := (HRo.out r (List.mem_of_getElem? hr)).2 t ht; have h1 := this.1; have h2 := this.2; omega)
        have HSq := Lib.hid (seqBits_lt (tb := tb) (n := next.length) (by omega) HTbl.out)
        go_loopw [10, 12] (fun u x wr => ∃ i : Nat, x = .int .u64 ((seqBits tb i : Nat) : Int) ∧ ((List.range i).map (seqBits tb)).Nodup ∧ KeysF wr mb ((List.range i).map (seqBits tb)) ∧ wr.ownsRow (mb + 1) 4 1 u i (((List.range i).map (accN tb A)).map Value.bool) ∧
            Blk wr g (rowU next.length (fun j => tb.getD j 0)) 39 ∧ Blk wr (w.heap.size + 1) #[.slice none 0 0, .slice none 0 0] 31 ∧ mb + 1 ≤ wr.heap.size ∧ Below w.heap.size w wr) (fun u _ _ => 65537 - sliceLen u)
        case atStart => exact ⟨0, rfl, by simp, K1, own_cast O1 rfl rfl, G1, R1, hB1, hbw1⟩
        case round =>
          clear K1 O1 G1 R1 hB1 hbw1
          obtain ⟨i, rfl, hnd, K, O, G, R, hB, hbw⟩ := hrel
          have hrl : ((List.range i).map (seqBits tb)).length = i := by simp
          have hi16 : i ≤ 65536 := by
            have := distinct_le hnd (m := 2 ^ next.length) (fun x hx => by obtain ⟨j, _, rfl⟩ := List.mem_map.1 hx; exact HSq.out j)
            omega
          obtain ⟨lp, lk, rfl⟩ := own_shape O
          by_cases hin : seqBits tb i ∈ (List.range i).map (seqBits tb)
          · obtain ⟨H, hH⟩ := List.mem_iff_getElem?.1 hin
            obtain ⟨hlook, hlook2⟩ := lookF_yes K hnd (seqBits tb i) H hH
            have hHi : H < i := by have := (List.getElem?_eq_some_iff.1 hH).1; rwa [hrl] at this
            have hHs : seqBits tb i = seqBits tb H := by
              rw [List.getElem?_map, List.getElem?_range hHi, Option.map_some] at hH
              exact (Option.some.inj hH).symm
            obtain ⟨gl, cap, he, -, hcap, hm, hrd⟩ := own_some (l := (List.range i).map (accN tb A)) (own_cast O (by simp) rfl) (by simp; omega)
            simp only [Value.slice.injEq] at he
            obtain ⟨rfl, -, rfl⟩ := he
            have HRep := Lib.hid (rep_of_fun (accN tb A) H (i - H) (by omega) (accN_from hHs (by omega)) ((List.range i).map (accN tb A)) (by simp; omega) (fun n hn => range_getD i _ n (by omega)))
            have hlen : ((List.range i).map (accN tb A)).length = i := by simp
            rw [hlen] at hcap
            have hlr : w.heap.size + 1 < wr.heap.size := R.lt
            clear O hin hH hHs hnd K G hrl
            go_wp2_with (go_at_call 17; ((with_reducible refine (canonical_at gl lk i ((List.range i).map (accN tb A)) H (accN tb A) wr hrd HRep.out hlen hcap (by omega) hm).mono ?_)); rintro e w5 ⟨hres, hb5⟩; obtain ⟨rp, rl, rk, sp, sl, sk, en, rfl⟩ := hres.shape; have R5 := R.grows hb5; have s0 := R5.cell 0 rfl; have s1 := R5.cell 1 rfl; have z0 := R5.free 0; have z1 := R5.free 1)
            have q0 : (w5.setCell ⟨w.heap.size + 1, 0, none⟩ (.slice rp rl rk)).cell? ⟨w.heap.size + 1, 0, none⟩ = some (.slice rp rl rk) := (R5.set 0 _).cell 0 rfl
            have q1 : ((w5.setCell ⟨w.heap.size + 1, 0, none⟩ (.slice rp rl rk)).setCell ⟨w.heap.size + 1, 1, none⟩ (.slice sp sl sk)).cell? ⟨w.heap.size + 1, 1, none⟩ = some (.slice sp sl sk) := ((R5.set 0 _).set 1 _).cell 1 rfl
            try rw [Exit.noGoto_ret]
            refine bodyPost_ret (v := .tuple #[.agg #[.slice rp rl rk, .slice sp sl sk], .int .i64 en]) (by simp [results, Tryd.results6, go_sem, q0, q1]) rfl ⟨by rw [HA.out]; exact ((hres.set (p := ⟨w.heap.size + 1, 0, none⟩) hlr _).set (p := ⟨w.heap.size + 1, 1, none⟩) hlr _).mono (by omega), ((below_two hbw hb5).setCell (Nat.le_add_right _ 1) _).setCell (Nat.le_add_right _ 1) _⟩
          · have hlook := lookF_no K (seqBits tb i) hin
            obtain ⟨o, ho, hupd, K2⟩ := updF K (seqBits tb i) hin
            rw [hrl] at hupd
            have hgp := Go.grownBy_putObj' wr mb o
            have G2 := G.grownBy hgp (fun k e => by cases e; omega)
            have R2 := R.grownBy hgp (fun k e => by cases e; omega)
            have O2 := own_grown O hgp (fun k e1 e2 => by cases e1; have := own_ge O _ e2; omega)
            have hbw2 : Below w.heap.size w (wr.putObj mb o) := hbw.grown hgp (by have := hbw.size; omega) (fun k e => by cases e; omega)
            have hB2 : mb + 1 ≤ (wr.putObj mb o).heap.size := by simpa using hB
            have hge := own_ge O2
            have hR64 : seqBits tb i < 2 ^ 64 := Nat.lt_of_lt_of_le (HSq.out i) (Nat.pow_le_pow_right (by decide) (by omega))
            have hacc : (bits BinOp.and .u64 ((seqBits tb i : Nat) : Int) (A : Int) != 0) = accN tb A i := by
              rw [u64_and_nat (seqBits tb i) A hR64 hAlt]
              unfold accN
              by_cases hz : seqBits tb i &&& A = 0
              · rw [hz]; rfl
              · rw [decide_eq_true hz, bne_iff_ne]; omega
            have hRn := HSq.out i
            have HSt := Lib.hid (show seqBits tb (i + 1) = stepBits tb (seqBits tb i) from rfl)
            have HNd := Lib.hid (show ((List.range (i + 1)).map (seqBits tb)).Nodup by
              rw [List.range_succ, List.map_append, List.nodup_append]
              exact ⟨hnd, by simp, fun a ha b hb e => hin (by simp at hb; subst hb; subst e; exact ha)⟩)
            have HKe := Lib.hid (show (List.range i).map (seqBits tb) ++ [seqBits tb i] = (List.range (i + 1)).map (seqBits tb) by rw [List.range_succ, List.map_append]; rfl)
            have HOe := Lib.hid (show ((List.range i).map (accN tb A)).map Value.bool ++ [Value.bool (accN tb A i)] = ((List.range (i + 1)).map (accN tb A)).map Value.bool by rw [List.range_succ, List.map_append, List.map_append]; rfl)
            rw [HKe.out] at K2
            clear K G R O hbw hgp hnd hin hrl ho
            generalize wr.putObj mb o = w4 at hupd K2 G2 R2 O2 hbw2 hB2
            have HO := Lib.hid O2
            clear O2
            generalize accN tb A i = b at hacc HOe
            generalize seqBits tb i = S at hlook hupd hacc HSt hR64 hRn
            obtain ⟨i0b, hib, hz0b, hz1b, hz2b⟩ := info_parts infoBool
            go_wp2_with (at_builtin; refine wpList_append_own_at _ rfl _ _ 26 rfl (mb + 1) 4 i0b _ 1 1 Tryd.underlying26 hib hz0b hz1b hz2b rfl (by decide) _ _ _ rfl (own_alloc HO.out _) ⟨w4.heap.size, 0, none⟩ 1 1 [.bool b] rfl rfl (cells_new1 _ _ _) (by intro u hu; simp at hu; subst hu; rfl) (by unfold maxLen; omega) (by omega) (by simp; omega) ?_; intro v' w6 hown2 hgrow _ hat; obtain ⟨p6, k6, rfl⟩ := own_shape hown2)
            have G6 := (G2.alloc (.cells #[.bool b] 4)).grownBy hgrow (fun k e => by have := hge k e; omega)
            have R6 := (R2.alloc (.cells #[.bool b] 4)).grownBy hgrow (fun k e => by have := hge k e; omega)
            have K6 := (K2.below ((Below.refl _ w4).alloc (Nat.le_refl _) (.cells #[.bool b] 4))).grown hgrow (fun k e => by have := hge k e; omega)
            have HO6 := Lib.hid (own_cast hown2 rfl HOe.out)
            have hbw6 := (hbw2.alloc hbw2.size (.cells #[.bool b] 4)).grown hgrow (by have h8 := hbw2.size; simp; omega) (fun k e => by have := hge k e; omega)
            have hB6 : mb + 1 ≤ w6.heap.size := by have h7 := hgrow.size; simp at h7; omega
            have hT6 := HT.out _ hbw6
            clear hlook hupd hacc HOe HKe hown2 hgrow hat K2 G2 R2 hbw2 hB2 HO hge
            go_loop [15, 16] (fun t x => ∃ to s : Nat, t = .int .u64 (to : Int) ∧ x = .int .u64 (s : Int) ∧ s < 2 ^ 64 ∧ to < 2 ^ 64 ∧ (∀ j, s.testBit j = true → S.testBit j = true) ∧
                (∀ t, to.testBit t = (List.range tb.length).any fun q => (S.testBit q && !s.testBit q) && (tb.getD q 0).testBit t)) (fun _ x => (RowKit.intOf x).toNat)
            case atStart => exact ⟨0, S, rfl, rfl, hR64, by decide, fun j hj => hj, step_start tb S⟩
            case round =>
              obtain ⟨to, s, rfl, rfl, hs64, hto64, hsub, hto⟩ := hrel
              have HTo := Lib.hid hto
              have HSub := Lib.hid hsub
              clear hto hsub
              by_cases hz : s = 0
              · subst hz
                have HD := Lib.hid (HSt.out.trans (step_done HTo.out).symm)
                go_wp2
                go_roundw
                case rel => exact ⟨i + 1, by rw [HD.out], HNd.out, K6, HO6.out, G6, R6, hB6, hbw6⟩
                case measure => simp only [sliceLen]; omega
              · have HB := Lib.hid (step_bit hz hs64 HSub.out (fun j hj => by rw [HTl.out]; exact bit_lt hRn hj) HTo.out)
                have hcl : Lib.ctz 64 s < next.length := by rw [← HTl.out]; exact HB.out.1
                have HTz := Lib.hid (fun W (hW : TabAt 0 Lib.deBruijn64tab W) => tz_any s hs64 W hW)
                have c0 := G6.cell (Lib.ctz 64 s) (rowU_get _ _ _ hcl)
                have htl : tb.getD (Lib.ctz 64 s) 0 < 2 ^ 64 := Nat.lt_of_lt_of_le (HTbl.out _ HB.out.1) (Nat.pow_le_pow_right (by decide) (by omega))
                have HLt := Lib.hid (and_pred_lt s hz)
                have hand := u64_and_nat s (s - 1) hs64 (by omega)
                have hor := u64_or_nat to (tb.getD (Lib.ctz 64 s) 0) hto64 htl
                have hw1 : IntKind.u64.wrap ((s : Int) - 1) = ((s - 1 : Nat) : Int) := by
                  rw [show (s : Int) - 1 = ((s - 1 : Nat) : Int) by omega]; exact wrap_u64_nat _ (by omega)
                have hzi : ((s : Int) != 0) = true := by rw [bne_iff_ne]; omega
                have hto2 : to ||| tb.getD (Lib.ctz 64 s) 0 < 2 ^ 64 := or_lt hto64 htl
                generalize tb.getD (Lib.ctz 64 s) 0 = v at c0 hor htl HB hto2
                generalize to ||| v = to2 at hor HB hto2
                generalize Lib.ctz 64 s = cz at c0 HTz hcl
                go_wp2_with (go_at_call 16; with_reducible refine (HTz.out _ hT6).mono ?_; rintro e w7 ⟨rfl, rfl⟩)
                exact ⟨⟨to2, s &&& (s - 1), rfl, rfl, Nat.lt_trans HLt.out hs64, hto2, HB.out.2.1, HB.out.2.2⟩, by have := HLt.out; simp only [RowKit.intOf]; omega⟩
end Go.Proofs.YtepncbbegpeilaaDoor
