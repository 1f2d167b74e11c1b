/-
  Walks: the two parts of a set.
-/
import Derived.Test.YtepncbbegpeilaaDoorCb
import Derived.RegionTactic
import Derived.Maps.AppendAt
set_option linter.unusedSimpArgs false
set_option linter.unusedVariables false
namespace Go.Proofs.YtepncbbegpeilaaDoor
open Go.RowKit Go.Lib
open Go.Sort hiding Below

/-- a number's cell. -/
def encN (x : Nat) : Value := .int .i64 (x : Int)
/-- these numbers stand one behind the other from there on. -/
def ReadsN (w : World) (blk off : Nat) (l : List Nat) : Prop := ∀ (j x : Nat), l[j]? = some x → w.cell? ⟨blk, off + j, none⟩ = some (.int .i64 (x : Int))
/-- the value is a slice that reads as these numbers. -/
def IsN (w : World) (v : Value) (l : List Nat) : Prop :=
  (l = [] ∧ ∃ p cap, v = .slice p 0 cap) ∨ ∃ blk off cap, v = .slice (some ⟨blk, off, none⟩) l.length cap ∧ ReadsN w blk off l
theorem IsN.kept {w w' : World} {v : Value} {l : List Nat} (h : IsN w v l) (hk : ∀ a u, w.cell? a = some u → w'.cell? a = some u) : IsN w' v l := by
  rcases h with h | ⟨blk, off, cap, rfl, h⟩
  · exact .inl h
  · exact .inr ⟨blk, off, cap, rfl, fun j x hj => hk _ _ (h j x hj)⟩
theorem IsN.grows {w w' : World} {v : Value} {l : List Nat} (h : IsN w v l) (hb : Below w.heap.size w w') : IsN w' v l :=
  h.kept fun _ _ hc => (hb.cell (lt_of_cell hc)).trans hc
theorem IsN.shape {w : World} {v : Value} {l : List Nat} (h : IsN w v l) : ∃ p cap, v = .slice p l.length cap := by
  rcases h with ⟨rfl, p, cap, rfl⟩ | ⟨blk, off, cap, rfl, _⟩
  · exact ⟨p, cap, rfl⟩
  · exact ⟨_, _, rfl⟩
theorem IsN.at {w : World} {p : Option Addr} {n cap : Nat} {l : List Nat} (h : IsN w (.slice p n cap) l) {k x : Nat} (hk : l[k]? = some x) :
    ∃ blk off, p = .some ⟨blk, off, none⟩ ∧ w.cell? ⟨blk, off + k, none⟩ = .some (.int .i64 (x : Int)) := by
  rcases h with ⟨rfl, _⟩ | ⟨blk, off, cap, he, hc⟩
  · cases hk
  · simp only [Value.slice.injEq] at he
    exact ⟨blk, off, he.1, hc k x hk⟩
theorem own_isN {w : World} {base : Nat} {e : TypeId} {v : Value} {l : List Nat} (h : w.ownsRow base e 1 v l.length (l.map encN)) : IsN w v l := by
  obtain ⟨hl, ⟨rfl, hn⟩ | ⟨g, cap, cur, rfl, hg, hh, hcap, hm, hsz, htk⟩⟩ := h
  · exact .inl ⟨List.length_eq_zero_iff.1 hn, none, 0, rfl⟩
  · refine .inr ⟨g, 0, cap, rfl, fun j x hj => ?_⟩
    rw [Nat.zero_add]
    refine Blk.cell (vs := cur) (t := e) ⟨hh⟩ j ?_
    have hjl : j < l.length := (List.getElem?_eq_some_iff.1 hj).1
    have h2 := congrArg (fun q => q[j]?) htk
    rw [List.getElem?_take_of_lt (by omega), List.getElem?_map, hj] at h2
    simpa [encN] using h2
theorem mem2_succ (h c : List Bool) (m k : Nat) : mem2 h c m (k + 1) = mem2 h c m k ++ (if m ≤ k ∧ atL h c k = true then [k] else []) := by
  unfold mem2
  rw [List.range_succ, List.filter_append]
  congr 1
  by_cases h1 : m ≤ k <;> cases h2 : atL h c k <;> simp [h1, h2]
theorem mem2_len (h c : List Bool) (m k : Nat) : (mem2 h c m k).length ≤ k := Nat.le_trans (List.length_filter_le _ _) (by simp)
theorem mem2_low (h c : List Bool) (m k : Nat) (hk : k ≤ m) : mem2 h c m k = [] := by
  unfold mem2
  rw [List.filter_eq_nil_iff]
  intro j hj
  rw [List.mem_range] at hj
  simp; omega
theorem mem2_no (h c : List Bool) (m k : Nat) (hb : atL h c k = false) : mem2 h c m (k + 1) = mem2 h c m k := by rw [mem2_succ, hb]; simp
theorem mem2_yes (h c : List Bool) (m k : Nat) (hb : atL h c k = true) (hm : m ≤ k) : mem2 h c m (k + 1) = mem2 h c m k ++ [k] := by rw [mem2_succ, hb]; simp [hm]
theorem mem2_skip (h c : List Bool) (m k n : Nat) (hb : atL h c k = false) : mem2 h c m (min (k + 1) n) = mem2 h c m (min k n) := by
  rcases Nat.lt_or_ge k n with h1 | h1
  · rw [Nat.min_eq_left (by omega), Nat.min_eq_left (by omega), mem2_no h c m k hb]
  · rw [Nat.min_eq_right (by omega), Nat.min_eq_right (by omega)]
/-- the rows of two slices are not one. -/
def Apart (u v : Value) : Prop := ∀ g, u.ownBlock = some g → v.ownBlock = some g → False
theorem apart_nil (p : Value) : Apart (.slice none 0 0) p := fun g hg => by simp [Value.ownBlock] at hg
theorem Apart.symm {u v : Value} (h : Apart u v) : Apart v u := fun g h1 h2 => h g h2 h1
theorem own_lt {w : World} {base : Nat} {e : TypeId} {size : Nat} {v : Value} {n : Nat} {xs : List Value} (h : w.ownsRow base e size v n xs) : ∀ g, v.ownBlock = some g → g < w.heap.size := by
  intro g hg
  rcases h.2 with ⟨rfl, _⟩ | ⟨g', cap, cur, rfl, _, hh, _⟩
  · cases hg
  · cases hg; exact Blk.lt (vs := cur) (t := e) ⟨hh⟩
theorem own_grown {w w' : World} {base : Nat} {e : TypeId} {size : Nat} {v : Value} {n : Nat} {xs : List Value} {row : Option Nat} (h : w.ownsRow base e size v n xs) (hg : w.grownBy w' row) (hne : ∀ g, row = some g → v.ownBlock = some g → False) : w'.ownsRow base e size v n xs := by
  have hlt := own_lt h
  refine ⟨h.1, ?_⟩
  rcases h.2 with h2 | ⟨g, cap, cur, hv, hgb, hh, r⟩
  · exact .inl h2
  · refine .inr ⟨g, cap, cur, hv, hgb, ?_, r⟩
    subst hv
    rw [hg.block g (hlt g rfl) (fun e => hne g e.symm rfl)]; exact hh
theorem apart_new {W : World} {o : Obj} {base : Nat} {e : TypeId} {size n : Nat} {xs : List Value} {u u' v : Value} (h : Apart u v) (hat : u'.ownBlock = u.ownBlock ∨ u'.ownBlock = some (W.alloc o).heap.size) (hv : W.ownsRow base e size v n xs) : Apart u' v := by
  intro g h1 h2
  rcases hat with hat | hat
  · exact h g (hat ▸ h1) h2
  · rw [hat] at h1
    have h3 := own_lt hv g h2
    have h4 : (W.alloc o).heap.size = W.heap.size + 1 := by simp
    have h5 := Option.some.inj h1
    omega
theorem cells_new1 (W : World) (a : Value) (t : TypeId) : ∀ j u, [a][j]? = some u → (W.alloc (.cells #[a] t)).cell? ((⟨W.heap.size, 0, none⟩ : Addr).add j) = some u := by
  intro j u hu
  have hb := Blk.new W #[a] t
  have hadd : (⟨W.heap.size, 0, none⟩ : Addr).add j = ⟨W.heap.size, j, none⟩ := by unfold Addr.add; split <;> simp_all
  rw [hadd]
  exact hb.cell j (by simpa using hu)
theorem encN_one (k : Nat) : ∀ u ∈ [encN k], u.oneCell' = true := by
  intro u hu; simp at hu; subst hu; rfl
theorem infoInt : (Tryd.prog.info? 3).map (fun i => (i.zero, i.size, i.bytes)) = some (some (.int .i64 0), 1, 8) := by kernel_rfl
set_option maxRecDepth 100000 in
set_option maxHeartbeats 1000000 in
theorem parts_any (v : Value) (h c : List Bool) (w : World) (hv : IsSet w v h c) (hc : 0 < c.length) (hs : h.length + c.length ≤ 512) :
    Calls Tryd.prog 27 #[v] w fun e w' =>
      (∃ u0 u1, e = .returned (.agg #[u0, .int .i64 0, u1, .int .i64 (c.length : Int)]) ∧ w'.ownsRow w.heap.size 3 1 u0 (mem2 h c 0 h.length).length ((mem2 h c 0 h.length).map encN) ∧
        w'.ownsRow w.heap.size 3 1 u1 (mem2 h c h.length (h.length + c.length)).length ((mem2 h c h.length (h.length + c.length)).map encN)) ∧ Below w.heap.size w w' := by
  obtain ⟨hp, hk, cp, ck, rfl, a1, a2⟩ := hv.shape
  obtain ⟨i0, hi, hz0, hz1, hz2⟩ := info_parts infoInt
  have HA := Lib.hid (fun (k : Nat) (hk : k ≤ 9223372036854775807) W (hW : Below w.heap.size w W) => member_any _ h c k W (hv.grows hW) hc (by omega) (by omega) hk)
  clear hv a1 a2
  have x0 := ((Blk.new w #[.slice hp h.length hk, .slice cp c.length ck] 31)).cell 0 rfl
  have x1 := ((Blk.new w #[.slice hp h.length hk, .slice cp c.length ck] 31)).cell 1 rfl
  go_enter Tryd.func27, Tryd.ntmps27
  go_wp2_with fail
  go_region
  · have X := ((((Blk.new w #[.slice hp h.length hk, .slice cp c.length ck] 31).alloc (.cells #[.slice none 0 0, .int .i64 0, .slice none 0 0, .int .i64 0] 60)).alloc (.cells #[.slice none 0 0, .int .i64 0] 59)).alloc (.cells #[.slice none 0 0, .int .i64 (c.length : Int)] 59)).drew
    have R := (((Blk.alloc1 w #[.slice hp h.length hk, .slice cp c.length ck] #[.slice none 0 0, .int .i64 0, .slice none 0 0, .int .i64 0] 31 60).alloc (.cells #[.slice none 0 0, .int .i64 0] 59)).alloc (.cells #[.slice none 0 0, .int .i64 (c.length : Int)] 59)).drew
    have P2 := ((Blk.alloc2 w (.cells #[.slice hp h.length hk, .slice cp c.length ck] 31) (.cells #[.slice none 0 0, .int .i64 0, .slice none 0 0, .int .i64 0] 60) #[.slice none 0 0, .int .i64 0] 59).alloc (.cells #[.slice none 0 0, .int .i64 (c.length : Int)] 59)).drew
    have P3 := (Blk.alloc3 w (.cells #[.slice hp h.length hk, .slice cp c.length ck] 31) (.cells #[.slice none 0 0, .int .i64 0, .slice none 0 0, .int .i64 0] 60) (.cells #[.slice none 0 0, .int .i64 0] 59) #[.slice none 0 0, .int .i64 (c.length : Int)] 59).drew
    have hbw : Below w.heap.size w ((((w.alloc (.cells #[.slice hp h.length hk, .slice cp c.length ck] 31)).alloc (.cells #[.slice none 0 0, .int .i64 0, .slice none 0 0, .int .i64 0] 60)).alloc (.cells #[.slice none 0 0, .int .i64 0] 59)).alloc (.cells #[.slice none 0 0, .int .i64 (c.length : Int)] 59)).drew := Below.drew (by go_grown)
    obtain ⟨B, hB⟩ : ∃ B, B = w.heap.size + 4 := ⟨_, rfl⟩
    have hBw : B ≤ ((((w.alloc (.cells #[.slice hp h.length hk, .slice cp c.length ck] 31)).alloc (.cells #[.slice none 0 0, .int .i64 0, .slice none 0 0, .int .i64 0] 60)).alloc (.cells #[.slice none 0 0, .int .i64 0] 59)).alloc (.cells #[.slice none 0 0, .int .i64 (c.length : Int)] 59)).drew.heap.size := by simp; omega
    have h2 : w.heap.size + 1 < w.heap.size + 1 + 1 := by omega
    have h3 : w.heap.size + 1 < w.heap.size + 1 + 1 + 1 := by omega
    have h4 : w.heap.size + 1 + 1 < B := by omega
    have h5 : w.heap.size + 1 + 1 + 1 < B := by omega
    have h6 : w.heap.size + 1 + 1 ≠ w.heap.size + 1 + 1 + 1 := by omega
    generalize ((((w.alloc (.cells #[.slice hp h.length hk, .slice cp c.length ck] 31)).alloc (.cells #[.slice none 0 0, .int .i64 0, .slice none 0 0, .int .i64 0] 60)).alloc (.cells #[.slice none 0 0, .int .i64 0] 59)).alloc (.cells #[.slice none 0 0, .int .i64 (c.length : Int)] 59)).drew = w4 at X R P2 P3 hbw hBw ⊢
    have P2 : Blk w4 (w.heap.size + 1 + 1) _ _ := P2
    have P3 : Blk w4 (w.heap.size + 1 + 1 + 1) _ _ := P3
    generalize w.heap.size + 1 + 1 + 1 = q3 at P3 h3 h5 h6 ⊢
    generalize w.heap.size + 1 + 1 = q2 at P2 h2 h4 h6 ⊢
    clear x0 x1 hB
    have x0 := X.cell 0 rfl
    have x1 := X.cell 1 rfl
    have OA := World.ownsRow_nil w4 B 3 1
    have OB := World.ownsRow_nil w4 B 3 1
    go_wp2_with fail
    go_loopw [18] (fun i wr => ∃ (k : Nat) (u0 u1 : Value), i = .int .i64 k ∧ k ≤ h.length + c.length ∧ Blk wr w.heap.size #[.slice hp h.length hk, .slice cp c.length ck] 31 ∧ Blk wr (w.heap.size + 1) #[.slice none 0 0, .int .i64 0, .slice none 0 0, .int .i64 0] 60 ∧ Blk wr q2 #[u0, .int .i64 0] 59 ∧ Blk wr q3 #[u1, .int .i64 (c.length : Int)] 59 ∧
        wr.ownsRow B 3 1 u0 (mem2 h c 0 (min k h.length)).length ((mem2 h c 0 (min k h.length)).map encN) ∧ wr.ownsRow B 3 1 u1 (mem2 h c h.length k).length ((mem2 h c h.length k).map encN) ∧ Apart u0 u1 ∧ B ≤ wr.heap.size ∧ Below w.heap.size w wr) (fun i _ => h.length + c.length - (RowKit.intOf i).toNat)
    case atStart => exact ⟨0, _, _, rfl, Nat.zero_le _, X, R, P2, P3, own_cast OA (by rw [Nat.zero_min]; rfl) (by rw [Nat.zero_min]; rfl), own_cast OB rfl rfl, apart_nil _, hBw, hbw⟩
    case round =>
      clear x0 x1 X R P2 P3 OA OB hBw hbw
      obtain ⟨k, u0, u1, rfl, hkn, X, R, PH, PC, OA, OB, hap, hBw, hbw⟩ := hrel
      obtain ⟨p0, k0, rfl⟩ := own_shape OA
      obtain ⟨p1, k1, rfl⟩ := own_shape OB
      have x0 := X.cell 0 rfl
      have x1 := X.cell 1 rfl
      by_cases hlt : k < h.length + c.length
      · have HAk := Lib.hid (HA.out k (by omega))
        cases hb : atL h c k
        · rw [hb] at HAk
          have HOA := Lib.hid (own_cast OA (m := (mem2 h c 0 (min (k + 1) h.length)).length) (ys := (mem2 h c 0 (min (k + 1) h.length)).map encN) (by rw [mem2_skip h c 0 k h.length hb]) (by rw [mem2_skip h c 0 k h.length hb]))
          have HOB := Lib.hid (own_cast OB (m := (mem2 h c h.length (k + 1)).length) (ys := (mem2 h c h.length (k + 1)).map encN) (by rw [mem2_no h c h.length k hb]) (by rw [mem2_no h c h.length k hb]))
          clear OA OB hb
          go_wp2_with (go_at_call 32; ((with_reducible refine (HAk.out _ hbw).mono ?_)); rintro e w5 ⟨rfl, hb5⟩)
          go_roundw
          case rel => exact ⟨k + 1, _, _, by go_num, by omega, X.grows hb5, R.grows hb5, PH.grows hb5, PC.grows hb5, own_below HOA.out hb5, own_below HOB.out hb5, hap, Nat.le_trans hBw hb5.size, below_two hbw hb5⟩
          case measure => simp [RowKit.intOf]; omega
        · rw [hb] at HAk
          by_cases hlh : k < h.length
          · have hmin : min (k + 1) h.length = k + 1 := by omega
            have hmin0 : min k h.length = k := by omega
            have HM := Lib.hid (mem2_yes h c 0 k hb (Nat.zero_le _))
            have hml : (mem2 h c 0 k).length ≤ 512 := Nat.le_trans (mem2_len h c 0 k) (by omega)
            have HB2 := Lib.hid (mem2_low h c h.length (k + 1) (by omega))
            have HB1 := Lib.hid (mem2_low h c h.length k (by omega))
            rw [hmin0] at OA PH hap
            generalize mem2 h c 0 k = xs at OA HM hml PH hap
            have HOA := Lib.hid OA
            have HOB := Lib.hid OB
            clear OA OB hb hmin0
            go_wp2_with (first
              | (go_at_call 32; ((with_reducible refine (HAk.out _ hbw).mono ?_)); rintro e w5 ⟨rfl, hb5⟩; have PH5 := PH.grows hb5; have a0 := PH5.cell 0 rfl; have a1 := PH5.cell 1 rfl; have X5 := X.grows hb5; have x2 := X5.cell 0 rfl; have x3 := X5.cell 1 rfl)
              | (at_builtin; refine wpList_append_own_at _ rfl _ _ 42 rfl B 3 i0 _ 1 8 Tryd.underlying42 hi hz0 hz1 hz2 rfl (by decide) _ _ _ rfl (own_alloc (own_below HOA.out hb5) _) ⟨w5.heap.size, 0, none⟩ 1 1 [encN k] rfl rfl (cells_new1 _ _ _) (encN_one k) (by unfold maxLen; omega) (by omega) (by have := hb5.size; simp; omega) ?_; intro v' w6 hown2 hgrow _ hat; obtain ⟨p2, k2, rfl⟩ := own_shape hown2; have PH6 := (PH5.alloc (.cells #[encN k] 3)).grownBy hgrow (fun g e => by have := own_ge HOA.out g e; omega); have b0 := PH6.cell 0 rfl; have f0 := PH6.free 0))
            have hne : ∀ q, q < B → ∀ g, Value.ownBlock (.slice p0 xs.length k0) = some g → g ≠ q := fun q hq g e => by have := own_ge HOA.out g e; omega
            have hsB : w.heap.size + 1 < B := Nat.lt_trans h2 h4
            go_roundw
            case rel => exact ⟨k + 1, _, _, by go_num, by omega,
              ((X5.alloc _).grownBy hgrow (hne _ (by omega))).other (by show w.heap.size ≠ q2; omega) _,
              (((R.grows hb5).alloc _).grownBy hgrow (hne _ hsB)).other (by show w.heap.size + 1 ≠ q2; omega) _,
              PH6.set 0 _,
              (((PC.grows hb5).alloc _).grownBy hgrow (hne _ h5)).other (by show q3 ≠ q2; omega) _,
              by rw [hmin, HM.out]; exact own_cast (own_set (p := ⟨q2, 0, none⟩) hown2 h4 _) (by simp) (by simp),
              own_cast (own_set (p := ⟨q2, 0, none⟩) (own_grown (own_alloc (own_below HOB.out hb5) _) hgrow hap) h4 _) (by rw [HB1.out, HB2.out]) (by rw [HB1.out, HB2.out]),
              apart_new hap hat (own_below HOB.out hb5),
              by have h7 := hgrow.size; have h8 := hb5.size; simp at h7 ⊢; omega,
              (((below_two hbw hb5).alloc (below_two hbw hb5).size _).grown hgrow (by have h8 := (below_two hbw hb5).size; simp; omega) (fun g e => by have := own_ge HOA.out g e; omega)).setCell (by show w.heap.size ≤ q2; omega) _⟩
            case measure => simp [RowKit.intOf]; omega
          · have hmin : min (k + 1) h.length = h.length := by omega
            have hmin0 : min k h.length = h.length := by omega
            have HM := Lib.hid (mem2_yes h c h.length k hb (by omega))
            have hml : (mem2 h c h.length k).length ≤ 512 := Nat.le_trans (mem2_len h c h.length k) (by omega)
            rw [hmin0] at OA PH hap
            generalize mem2 h c h.length k = xs at OB HM hml PC hap
            have HOA := Lib.hid OA
            have HOB := Lib.hid OB
            clear OA OB hb hmin0
            go_wp2_with (first
              | (go_at_call 32; ((with_reducible refine (HAk.out _ hbw).mono ?_)); rintro e w5 ⟨rfl, hb5⟩; have PC5 := PC.grows hb5; have a0 := PC5.cell 0 rfl; have a1 := PC5.cell 1 rfl; have X5 := X.grows hb5; have x2 := X5.cell 0 rfl; have x3 := X5.cell 1 rfl)
              | (at_builtin; refine wpList_append_own_at _ rfl _ _ 42 rfl B 3 i0 _ 1 8 Tryd.underlying42 hi hz0 hz1 hz2 rfl (by decide) _ _ _ rfl (own_alloc (own_below HOB.out hb5) _) ⟨w5.heap.size, 0, none⟩ 1 1 [encN k] rfl rfl (cells_new1 _ _ _) (encN_one k) (by unfold maxLen; omega) (by omega) (by have := hb5.size; simp; omega) ?_; intro v' w6 hown2 hgrow _ hat; obtain ⟨p2, k2, rfl⟩ := own_shape hown2; have PC6 := (PC5.alloc (.cells #[encN k] 3)).grownBy hgrow (fun g e => by have := own_ge HOB.out g e; omega); have b0 := PC6.cell 0 rfl; have f0 := PC6.free 0))
            have hne : ∀ q, q < B → ∀ g, Value.ownBlock (.slice p1 xs.length k1) = some g → g ≠ q := fun q hq g e => by have := own_ge HOB.out g e; omega
            have hsB : w.heap.size + 1 < B := Nat.lt_trans h3 h5
            go_roundw
            case rel => exact ⟨k + 1, _, _, by go_num, by omega,
              ((X5.alloc _).grownBy hgrow (hne _ (by omega))).other (by show w.heap.size ≠ q3; omega) _,
              (((R.grows hb5).alloc _).grownBy hgrow (hne _ hsB)).other (by show w.heap.size + 1 ≠ q3; omega) _,
              (((PH.grows hb5).alloc _).grownBy hgrow (hne _ h4)).other (by show q2 ≠ q3; omega) _,
              PC6.set 0 _,
              by rw [hmin]; exact own_set (p := ⟨q3, 0, none⟩) (own_grown (own_alloc (own_below HOA.out hb5) _) hgrow hap.symm) h5 _,
              by rw [HM.out]; exact own_cast (own_set (p := ⟨q3, 0, none⟩) hown2 h5 _) (by simp) (by simp),
              (apart_new hap.symm hat (own_below HOA.out hb5)).symm,
              by have h7 := hgrow.size; have h8 := hb5.size; simp at h7 ⊢; omega,
              (((below_two hbw hb5).alloc (below_two hbw hb5).size _).grown hgrow (by have h8 := (below_two hbw hb5).size; simp; omega) (fun g e => by have := own_ge HOB.out g e; omega)).setCell (by show w.heap.size ≤ q3; omega) _⟩
            case measure => simp [RowKit.intOf]; omega
      · obtain rfl : k = h.length + c.length := by omega
        have hmin : min (h.length + c.length) h.length = h.length := by omega
        rw [hmin] at OA PH hap
        have a0 := PH.cell 0 rfl
        have a1 := PH.cell 1 rfl
        have b0 := PC.cell 0 rfl
        have b1 := PC.cell 1 rfl
        have r0 := R.cell 0 rfl
        have r1 := R.cell 1 rfl
        have r2 := R.cell 2 rfl
        have r3 := R.cell 3 rfl
        have f0 := R.free 0
        have f1 := R.free 1
        have f2 := R.free 2
        have f3 := R.free 3
        have HO := Lib.hid (And.intro OA OB)
        have hsB : w.heap.size + 1 < B := Nat.lt_trans h2 h4
        clear OA OB
        go_wp2
        obtain ⟨v0, hv0⟩ : ∃ v, v = Value.slice p0 (mem2 h c 0 h.length).length k0 := ⟨_, rfl⟩
        obtain ⟨v1, hv1⟩ : ∃ v, v = Value.slice p1 (mem2 h c h.length (h.length + c.length)).length k1 := ⟨_, rfl⟩
        rw [← hv0, ← hv1]
        have q0 : (wr.setCell ⟨w.heap.size + 1, 0, none⟩ v0).cell? ⟨w.heap.size + 1, 0, none⟩ = some v0 := (R.set 0 _).cell 0 rfl
        have q1 : ((wr.setCell ⟨w.heap.size + 1, 0, none⟩ v0).setCell ⟨w.heap.size + 1, 1, none⟩ (.int .i64 0)).cell? ⟨w.heap.size + 1, 1, none⟩ = some (.int .i64 0) := ((R.set 0 _).set 1 _).cell 1 rfl
        have q2' : (((wr.setCell ⟨w.heap.size + 1, 0, none⟩ v0).setCell ⟨w.heap.size + 1, 1, none⟩ (.int .i64 0)).setCell ⟨w.heap.size + 1, 2, none⟩ v1).cell? ⟨w.heap.size + 1, 2, none⟩ = some v1 := (((R.set 0 _).set 1 _).set 2 _).cell 2 rfl
        have q3' : ((((wr.setCell ⟨w.heap.size + 1, 0, none⟩ v0).setCell ⟨w.heap.size + 1, 1, none⟩ (.int .i64 0)).setCell ⟨w.heap.size + 1, 2, none⟩ v1).setCell ⟨w.heap.size + 1, 3, none⟩ (.int .i64 (c.length : Int))).cell? ⟨w.heap.size + 1, 3, none⟩ = some (.int .i64 (c.length : Int)) := ((((R.set 0 _).set 1 _).set 2 _).set 3 _).cell 3 rfl
        have HO2 := HO.out
        rw [← hv0, ← hv1] at HO2
        refine bodyPost_ret (v := .agg #[v0, .int .i64 0, v1, .int .i64 (c.length : Int)]) (by simp [results, Tryd.results27, go_sem, q0, q1, q2', q3']) rfl ⟨⟨v0, v1, rfl, own_mono (own_set (own_set (own_set (own_set HO2.1 hsB _) hsB _) hsB _) hsB _) (by omega), own_mono (own_set (own_set (own_set (own_set HO2.2 hsB _) hsB _) hsB _) hsB _) (by omega)⟩,
          (((hbw.setCell (Nat.le_add_right _ 1) _).setCell (Nat.le_add_right _ 1) _).setCell (Nat.le_add_right _ 1) _).setCell (Nat.le_add_right _ 1) _⟩
  · have X := ((((Blk.new w #[.slice hp h.length hk, .slice cp c.length ck] 31).alloc (.cells #[.slice none 0 0, .int .i64 0, .slice none 0 0, .int .i64 0] 60)).alloc (.cells #[.slice none 0 0, .int .i64 (c.length : Int)] 59)).alloc (.cells #[.slice none 0 0, .int .i64 0] 59)).drew
    have R := (((Blk.alloc1 w #[.slice hp h.length hk, .slice cp c.length ck] #[.slice none 0 0, .int .i64 0, .slice none 0 0, .int .i64 0] 31 60).alloc (.cells #[.slice none 0 0, .int .i64 (c.length : Int)] 59)).alloc (.cells #[.slice none 0 0, .int .i64 0] 59)).drew
    have P2 := ((Blk.alloc2 w (.cells #[.slice hp h.length hk, .slice cp c.length ck] 31) (.cells #[.slice none 0 0, .int .i64 0, .slice none 0 0, .int .i64 0] 60) #[.slice none 0 0, .int .i64 (c.length : Int)] 59).alloc (.cells #[.slice none 0 0, .int .i64 0] 59)).drew
    have P3 := (Blk.alloc3 w (.cells #[.slice hp h.length hk, .slice cp c.length ck] 31) (.cells #[.slice none 0 0, .int .i64 0, .slice none 0 0, .int .i64 0] 60) (.cells #[.slice none 0 0, .int .i64 (c.length : Int)] 59) #[.slice none 0 0, .int .i64 0] 59).drew
    have hbw : Below w.heap.size w ((((w.alloc (.cells #[.slice hp h.length hk, .slice cp c.length ck] 31)).alloc (.cells #[.slice none 0 0, .int .i64 0, .slice none 0 0, .int .i64 0] 60)).alloc (.cells #[.slice none 0 0, .int .i64 (c.length : Int)] 59)).alloc (.cells #[.slice none 0 0, .int .i64 0] 59)).drew := Below.drew (by go_grown)
    obtain ⟨B, hB⟩ : ∃ B, B = w.heap.size + 4 := ⟨_, rfl⟩
    have hBw : B ≤ ((((w.alloc (.cells #[.slice hp h.length hk, .slice cp c.length ck] 31)).alloc (.cells #[.slice none 0 0, .int .i64 0, .slice none 0 0, .int .i64 0] 60)).alloc (.cells #[.slice none 0 0, .int .i64 (c.length : Int)] 59)).alloc (.cells #[.slice none 0 0, .int .i64 0] 59)).drew.heap.size := by simp; omega
    have h2 : w.heap.size + 1 < w.heap.size + 1 + 1 := by omega
    have h3 : w.heap.size + 1 < w.heap.size + 1 + 1 + 1 := by omega
    have h4 : w.heap.size + 1 + 1 < B := by omega
    have h5 : w.heap.size + 1 + 1 + 1 < B := by omega
    have h6 : w.heap.size + 1 + 1 ≠ w.heap.size + 1 + 1 + 1 := by omega
    generalize ((((w.alloc (.cells #[.slice hp h.length hk, .slice cp c.length ck] 31)).alloc (.cells #[.slice none 0 0, .int .i64 0, .slice none 0 0, .int .i64 0] 60)).alloc (.cells #[.slice none 0 0, .int .i64 (c.length : Int)] 59)).alloc (.cells #[.slice none 0 0, .int .i64 0] 59)).drew = w4 at X R P2 P3 hbw hBw ⊢
    have P2 : Blk w4 (w.heap.size + 1 + 1) _ _ := P2
    have P3 : Blk w4 (w.heap.size + 1 + 1 + 1) _ _ := P3
    generalize w.heap.size + 1 + 1 + 1 = q3 at P3 h3 h5 h6 ⊢
    generalize w.heap.size + 1 + 1 = q2 at P2 h2 h4 h6 ⊢
    clear x0 x1 hB
    have x0 := X.cell 0 rfl
    have x1 := X.cell 1 rfl
    have OA := World.ownsRow_nil w4 B 3 1
    have OB := World.ownsRow_nil w4 B 3 1
    go_wp2_with fail
    go_loopw [18] (fun i wr => ∃ (k : Nat) (u0 u1 : Value), i = .int .i64 k ∧ k ≤ h.length + c.length ∧ Blk wr w.heap.size #[.slice hp h.length hk, .slice cp c.length ck] 31 ∧ Blk wr (w.heap.size + 1) #[.slice none 0 0, .int .i64 0, .slice none 0 0, .int .i64 0] 60 ∧ Blk wr q3 #[u0, .int .i64 0] 59 ∧ Blk wr q2 #[u1, .int .i64 (c.length : Int)] 59 ∧
        wr.ownsRow B 3 1 u0 (mem2 h c 0 (min k h.length)).length ((mem2 h c 0 (min k h.length)).map encN) ∧ wr.ownsRow B 3 1 u1 (mem2 h c h.length k).length ((mem2 h c h.length k).map encN) ∧ Apart u0 u1 ∧ B ≤ wr.heap.size ∧ Below w.heap.size w wr) (fun i _ => h.length + c.length - (RowKit.intOf i).toNat)
    case atStart => exact ⟨0, _, _, rfl, Nat.zero_le _, X, R, P3, P2, own_cast OA (by rw [Nat.zero_min]; rfl) (by rw [Nat.zero_min]; rfl), own_cast OB rfl rfl, apart_nil _, hBw, hbw⟩
    case round =>
      clear x0 x1 X R P2 P3 OA OB hBw hbw
      obtain ⟨k, u0, u1, rfl, hkn, X, R, PH, PC, OA, OB, hap, hBw, hbw⟩ := hrel
      obtain ⟨p0, k0, rfl⟩ := own_shape OA
      obtain ⟨p1, k1, rfl⟩ := own_shape OB
      have x0 := X.cell 0 rfl
      have x1 := X.cell 1 rfl
      by_cases hlt : k < h.length + c.length
      · have HAk := Lib.hid (HA.out k (by omega))
        cases hb : atL h c k
        · rw [hb] at HAk
          have HOA := Lib.hid (own_cast OA (m := (mem2 h c 0 (min (k + 1) h.length)).length) (ys := (mem2 h c 0 (min (k + 1) h.length)).map encN) (by rw [mem2_skip h c 0 k h.length hb]) (by rw [mem2_skip h c 0 k h.length hb]))
          have HOB := Lib.hid (own_cast OB (m := (mem2 h c h.length (k + 1)).length) (ys := (mem2 h c h.length (k + 1)).map encN) (by rw [mem2_no h c h.length k hb]) (by rw [mem2_no h c h.length k hb]))
          clear OA OB hb
          go_wp2_with (go_at_call 32; ((with_reducible refine (HAk.out _ hbw).mono ?_)); rintro e w5 ⟨rfl, hb5⟩)
          go_roundw
          case rel => exact ⟨k + 1, _, _, by go_num, by omega, X.grows hb5, R.grows hb5, PH.grows hb5, PC.grows hb5, own_below HOA.out hb5, own_below HOB.out hb5, hap, Nat.le_trans hBw hb5.size, below_two hbw hb5⟩
          case measure => simp [RowKit.intOf]; omega
        · rw [hb] at HAk
          by_cases hlh : k < h.length
          · have hmin : min (k + 1) h.length = k + 1 := by omega
            have hmin0 : min k h.length = k := by omega
            have HM := Lib.hid (mem2_yes h c 0 k hb (Nat.zero_le _))
            have hml : (mem2 h c 0 k).length ≤ 512 := Nat.le_trans (mem2_len h c 0 k) (by omega)
            have HB2 := Lib.hid (mem2_low h c h.length (k + 1) (by omega))
            have HB1 := Lib.hid (mem2_low h c h.length k (by omega))
            rw [hmin0] at OA PH hap
            generalize mem2 h c 0 k = xs at OA HM hml PH hap
            have HOA := Lib.hid OA
            have HOB := Lib.hid OB
            clear OA OB hb hmin0
            go_wp2_with (first
              | (go_at_call 32; ((with_reducible refine (HAk.out _ hbw).mono ?_)); rintro e w5 ⟨rfl, hb5⟩; have PH5 := PH.grows hb5; have a0 := PH5.cell 0 rfl; have a1 := PH5.cell 1 rfl; have X5 := X.grows hb5; have x2 := X5.cell 0 rfl; have x3 := X5.cell 1 rfl)
              | (at_builtin; refine wpList_append_own_at _ rfl _ _ 42 rfl B 3 i0 _ 1 8 Tryd.underlying42 hi hz0 hz1 hz2 rfl (by decide) _ _ _ rfl (own_alloc (own_below HOA.out hb5) _) ⟨w5.heap.size, 0, none⟩ 1 1 [encN k] rfl rfl (cells_new1 _ _ _) (encN_one k) (by unfold maxLen; omega) (by omega) (by have := hb5.size; simp; omega) ?_; intro v' w6 hown2 hgrow _ hat; obtain ⟨p2, k2, rfl⟩ := own_shape hown2; have PH6 := (PH5.alloc (.cells #[encN k] 3)).grownBy hgrow (fun g e => by have := own_ge HOA.out g e; omega); have b0 := PH6.cell 0 rfl; have f0 := PH6.free 0))
            have hne : ∀ q, q < B → ∀ g, Value.ownBlock (.slice p0 xs.length k0) = some g → g ≠ q := fun q hq g e => by have := own_ge HOA.out g e; omega
            have hsB : w.heap.size + 1 < B := Nat.lt_trans h3 h5
            go_roundw
            case rel => exact ⟨k + 1, _, _, by go_num, by omega,
              ((X5.alloc _).grownBy hgrow (hne _ (by omega))).other (by show w.heap.size ≠ q3; omega) _,
              (((R.grows hb5).alloc _).grownBy hgrow (hne _ hsB)).other (by show w.heap.size + 1 ≠ q3; omega) _,
              PH6.set 0 _,
              (((PC.grows hb5).alloc _).grownBy hgrow (hne _ h4)).other (by show q2 ≠ q3; omega) _,
              by rw [hmin, HM.out]; exact own_cast (own_set (p := ⟨q3, 0, none⟩) hown2 h5 _) (by simp) (by simp),
              own_cast (own_set (p := ⟨q3, 0, none⟩) (own_grown (own_alloc (own_below HOB.out hb5) _) hgrow hap) h5 _) (by rw [HB1.out, HB2.out]) (by rw [HB1.out, HB2.out]),
              apart_new hap hat (own_below HOB.out hb5),
              by have h7 := hgrow.size; have h8 := hb5.size; simp at h7 ⊢; omega,
              (((below_two hbw hb5).alloc (below_two hbw hb5).size _).grown hgrow (by have h8 := (below_two hbw hb5).size; simp; omega) (fun g e => by have := own_ge HOA.out g e; omega)).setCell (by show w.heap.size ≤ q3; omega) _⟩
            case measure => simp [RowKit.intOf]; omega
          · have hmin : min (k + 1) h.length = h.length := by omega
            have hmin0 : min k h.length = h.length := by omega
            have HM := Lib.hid (mem2_yes h c h.length k hb (by omega))
            have hml : (mem2 h c h.length k).length ≤ 512 := Nat.le_trans (mem2_len h c h.length k) (by omega)
            rw [hmin0] at OA PH hap
            generalize mem2 h c h.length k = xs at OB HM hml PC hap
            have HOA := Lib.hid OA
            have HOB := Lib.hid OB
            clear OA OB hb hmin0
            go_wp2_with (first
              | (go_at_call 32; ((with_reducible refine (HAk.out _ hbw).mono ?_)); rintro e w5 ⟨rfl, hb5⟩; have PC5 := PC.grows hb5; have a0 := PC5.cell 0 rfl; have a1 := PC5.cell 1 rfl; have X5 := X.grows hb5; have x2 := X5.cell 0 rfl; have x3 := X5.cell 1 rfl)
              | (at_builtin; refine wpList_append_own_at _ rfl _ _ 42 rfl B 3 i0 _ 1 8 Tryd.underlying42 hi hz0 hz1 hz2 rfl (by decide) _ _ _ rfl (own_alloc (own_below HOB.out hb5) _) ⟨w5.heap.size, 0, none⟩ 1 1 [encN k] rfl rfl (cells_new1 _ _ _) (encN_one k) (by unfold maxLen; omega) (by omega) (by have := hb5.size; simp; omega) ?_; intro v' w6 hown2 hgrow _ hat; obtain ⟨p2, k2, rfl⟩ := own_shape hown2; have PC6 := (PC5.alloc (.cells #[encN k] 3)).grownBy hgrow (fun g e => by have := own_ge HOB.out g e; omega); have b0 := PC6.cell 0 rfl; have f0 := PC6.free 0))
            have hne : ∀ q, q < B → ∀ g, Value.ownBlock (.slice p1 xs.length k1) = some g → g ≠ q := fun q hq g e => by have := own_ge HOB.out g e; omega
            have hsB : w.heap.size + 1 < B := Nat.lt_trans h2 h4
            go_roundw
            case rel => exact ⟨k + 1, _, _, by go_num, by omega,
              ((X5.alloc _).grownBy hgrow (hne _ (by omega))).other (by show w.heap.size ≠ q2; omega) _,
              (((R.grows hb5).alloc _).grownBy hgrow (hne _ hsB)).other (by show w.heap.size + 1 ≠ q2; omega) _,
              (((PH.grows hb5).alloc _).grownBy hgrow (hne _ h5)).other (by show q3 ≠ q2; omega) _,
              PC6.set 0 _,
              by rw [hmin]; exact own_set (p := ⟨q2, 0, none⟩) (own_grown (own_alloc (own_below HOA.out hb5) _) hgrow hap.symm) h4 _,
              by rw [HM.out]; exact own_cast (own_set (p := ⟨q2, 0, none⟩) hown2 h4 _) (by simp) (by simp),
              (apart_new hap.symm hat (own_below HOA.out hb5)).symm,
              by have h7 := hgrow.size; have h8 := hb5.size; simp at h7 ⊢; omega,
              (((below_two hbw hb5).alloc (below_two hbw hb5).size _).grown hgrow (by have h8 := (below_two hbw hb5).size; simp; omega) (fun g e => by have := own_ge HOB.out g e; omega)).setCell (by show w.heap.size ≤ q2; omega) _⟩
            case measure => simp [RowKit.intOf]; omega
      · obtain rfl : k = h.length + c.length := by omega
        have hmin : min (h.length + c.length) h.length = h.length := by omega
        rw [hmin] at OA PH hap
        have a0 := PH.cell 0 rfl
        have a1 := PH.cell 1 rfl
        have b0 := PC.cell 0 rfl
        have b1 := PC.cell 1 rfl
        have r0 := R.cell 0 rfl
        have r1 := R.cell 1 rfl
        have r2 := R.cell 2 rfl
        have r3 := R.cell 3 rfl
        have f0 := R.free 0
        have f1 := R.free 1
        have f2 := R.free 2
        have f3 := R.free 3
        have HO := Lib.hid (And.intro OA OB)
        have hsB : w.heap.size + 1 < B := Nat.lt_trans h3 h5
        clear OA OB
        go_wp2
        obtain ⟨v0, hv0⟩ : ∃ v, v = Value.slice p0 (mem2 h c 0 h.length).length k0 := ⟨_, rfl⟩
        obtain ⟨v1, hv1⟩ : ∃ v, v = Value.slice p1 (mem2 h c h.length (h.length + c.length)).length k1 := ⟨_, rfl⟩
        rw [← hv0, ← hv1]
        have q0 : (wr.setCell ⟨w.heap.size + 1, 0, none⟩ v0).cell? ⟨w.heap.size + 1, 0, none⟩ = some v0 := (R.set 0 _).cell 0 rfl
        have q1 : ((wr.setCell ⟨w.heap.size + 1, 0, none⟩ v0).setCell ⟨w.heap.size + 1, 1, none⟩ (.int .i64 0)).cell? ⟨w.heap.size + 1, 1, none⟩ = some (.int .i64 0) := ((R.set 0 _).set 1 _).cell 1 rfl
        have q2' : (((wr.setCell ⟨w.heap.size + 1, 0, none⟩ v0).setCell ⟨w.heap.size + 1, 1, none⟩ (.int .i64 0)).setCell ⟨w.heap.size + 1, 2, none⟩ v1).cell? ⟨w.heap.size + 1, 2, none⟩ = some v1 := (((R.set 0 _).set 1 _).set 2 _).cell 2 rfl
        have q3' : ((((wr.setCell ⟨w.heap.size + 1, 0, none⟩ v0).setCell ⟨w.heap.size + 1, 1, none⟩ (.int .i64 0)).setCell ⟨w.heap.size + 1, 2, none⟩ v1).setCell ⟨w.heap.size + 1, 3, none⟩ (.int .i64 (c.length : Int))).cell? ⟨w.heap.size + 1, 3, none⟩ = some (.int .i64 (c.length : Int)) := ((((R.set 0 _).set 1 _).set 2 _).set 3 _).cell 3 rfl
        have HO2 := HO.out
        rw [← hv0, ← hv1] at HO2
        refine bodyPost_ret (v := .agg #[v0, .int .i64 0, v1, .int .i64 (c.length : Int)]) (by simp [results, Tryd.results27, go_sem, q0, q1, q2', q3']) rfl ⟨⟨v0, v1, rfl, own_mono (own_set (own_set (own_set (own_set HO2.1 hsB _) hsB _) hsB _) hsB _) (by omega), own_mono (own_set (own_set (own_set (own_set HO2.2 hsB _) hsB _) hsB _) hsB _) (by omega)⟩,
          (((hbw.setCell (Nat.le_add_right _ 1) _).setCell (Nat.le_add_right _ 1) _).setCell (Nat.le_add_right _ 1) _).setCell (Nat.le_add_right _ 1) _⟩
end Go.Proofs.YtepncbbegpeilaaDoor
