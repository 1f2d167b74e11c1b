/-
  Walks: the sums of two parts below a number.
-/
import Derived.Test.YtepncbbegpeilaaDoorPa
set_option linter.unusedSimpArgs false
set_option linter.unusedVariables false
namespace Go.Proofs.YtepncbbegpeilaaDoor
open Go.RowKit Go.Lib
open Go.Deep
open Go.Sort hiding Below

theorem rowB_put (n : Nat) (F : Nat → Bool) (p : Nat) (b : Bool) : (rowB n n F).setIfInBounds p (.bool b) = rowB n n (fun j => if j = p then b else F j) := by
  apply Array.ext_getElem?
  intro j
  rw [Array.getElem?_setIfInBounds]
  by_cases hj : j < n
  · rw [rowB_get _ _ _ _ hj, rowB_get _ _ _ _ hj, rowB_size]
    by_cases e : p = j
    · subst e; simp [hj]
    · rw [if_neg e, if_neg (fun h => e h.symm)]
  · rw [Array.getElem?_eq_none (by rw [rowB_size]; omega), Array.getElem?_eq_none (by rw [rowB_size]; omega)]
    by_cases e : p = j
    · subst e; simp [rowB_size]; omega
    · rw [if_neg e]
theorem rowB_congr {n : Nat} {F G : Nat → Bool} (h : ∀ j, j < n → F j = G j) : rowB n n F = rowB n n G := by
  apply Array.ext_getElem?
  intro j
  by_cases hj : j < n
  · rw [rowB_get _ _ _ _ hj, rowB_get _ _ _ _ hj, h j hj]
  · rw [Array.getElem?_eq_none (by rw [rowB_size]; omega), Array.getElem?_eq_none (by rw [rowB_size]; omega)]
theorem rowB_start (n : Nat) (F : Nat → Bool) : rowB n 0 F = rowB n n (fun _ => false) := by
  apply Array.ext_getElem?
  intro j
  by_cases hj : j < n
  · rw [rowB_get _ _ _ _ hj, rowB_get _ _ _ _ hj]; simp
  · rw [Array.getElem?_eq_none (by rw [rowB_size]; omega), Array.getElem?_eq_none (by rw [rowB_size]; omega)]
theorem rowB_full (n : Nat) (F : Nat → Bool) (j : Nat) (hj : j < n) : (rowB n n F)[j]? = some (.bool (F j)) := by
  rw [rowB_get _ _ _ _ hj]; simp [hj]
/-- is the number a sum of one of xs and one of ys? -/
def baseB (xs ys : List Nat) (j : Nat) : Bool := xs.any fun i => ys.any fun y => j == i + y
/-- the sums of x and those of ys besides. -/
def rowS (xs ys : List Nat) (x : Nat) (zs : List Nat) (j : Nat) : Bool := baseB xs ys j || zs.any fun y => j == x + y
theorem baseB_iff (xs ys : List Nat) (j : Nat) : baseB xs ys j = true ↔ ∃ i ∈ xs, ∃ y ∈ ys, j = i + y := by
  unfold baseB
  simp only [List.any_eq_true, beq_iff_eq]
theorem any_snoc {l : List Nat} {k x : Nat} (h : l[k]? = some x) (f : Nat → Bool) : (l.take (k + 1)).any f = ((l.take k).any f || f x) := by
  rw [List.take_add_one, h]; simp [List.any_append]
theorem baseB_snoc {xs ys : List Nat} {a x : Nat} (h : xs[a]? = some x) (j : Nat) : baseB (xs.take (a + 1)) ys j = rowS (xs.take a) ys x ys j := by
  unfold rowS baseB
  rw [any_snoc h]
theorem rowS_snoc {xs ys zs : List Nat} {x b y : Nat} (h : zs[b]? = some y) (j : Nat) : rowS xs ys x (zs.take (b + 1)) j = (if j = x + y then true else rowS xs ys x (zs.take b) j) := by
  unfold rowS
  rw [any_snoc h]
  by_cases e : j = x + y
  · simp [e]
  · have e2 : (j == x + y) = false := by simpa using e
    rw [if_neg e, e2, Bool.or_false]
/-- the row behind k numbers. -/
def rowT (S G : Nat → Bool) (k j : Nat) : Bool := if j < k then S j else G j
theorem rowT_put (S G : Nat → Bool) (k : Nat) (b : Bool) (hb : S k = b) (j : Nat) : (if j = k then b else rowT S G k j) = rowT S G (k + 1) j := by
  unfold rowT
  by_cases e : j = k
  · subst e; rw [if_pos rfl, if_pos (by omega), hb]
  · rw [if_neg e]
    by_cases h : j < k
    · rw [if_pos h, if_pos (by omega)]
    · rw [if_neg h, if_neg (by omega)]
/-- what the round finds. -/
theorem sums_round {xs ys : List Nat} {s t : Nat} {S : Nat → Bool} (hS : ∀ j, S j = true ↔ sumsTo xs ys s t j) (k : Nat) :
    S k = (baseB xs ys k || (decide (s ≤ k) && rowT S (baseB xs ys) k (k - s)) || (decide (t ≤ k) && rowT S (baseB xs ys) k (k - t))) := by
  rw [Bool.eq_iff_iff, hS, sumsTo_step]
  simp only [Bool.or_eq_true, Bool.and_eq_true, decide_eq_true_eq, baseB_iff]
  have key : ∀ r, (0 < r ∧ r ≤ k ∧ sumsTo xs ys s t (k - r)) ∨ (∃ i ∈ xs, ∃ j ∈ ys, k = i + j) ↔ (r ≤ k ∧ rowT S (baseB xs ys) k (k - r) = true) ∨ (∃ i ∈ xs, ∃ j ∈ ys, k = i + j) := by
    intro r
    rcases Nat.eq_zero_or_pos r with rfl | hr
    · simp only [Nat.lt_irrefl, false_and, false_or, Nat.zero_le, true_and, Nat.sub_zero, rowT, if_false, baseB_iff, or_self]
    · constructor
      · rintro (⟨_, h1, h2⟩ | h)
        · refine .inl ⟨h1, ?_⟩
          unfold rowT; rw [if_pos (by omega)]; exact (hS _).2 h2
        · exact .inr h
      · rintro (⟨h1, h2⟩ | h)
        · refine .inl ⟨hr, h1, ?_⟩
          unfold rowT at h2; rw [if_pos (by omega)] at h2; exact (hS _).1 h2
        · exact .inr h
  have k1 := key s
  have k2 := key t
  constructor
  · rintro (h | h | h)
    · exact .inl (.inl h)
    · rcases k1.1 (.inl h) with h | h
      · exact .inl (.inr h)
      · exact .inl (.inl h)
    · rcases k2.1 (.inl h) with h | h
      · exact .inr h
      · exact .inl (.inl h)
  · rintro ((h | h) | h)
    · exact .inl h
    · rcases k1.2 (.inl h) with h | h
      · exact .inr (.inl h)
      · exact .inl h
    · rcases k2.2 (.inl h) with h | h
      · exact .inr (.inr h)
      · exact .inl h
set_option maxRecDepth 100000 in
set_option maxHeartbeats 2000000 in
theorem sums_any (p0 p1 : Option Addr) (k0 k1 s t n : Nat) (xs ys : List Nat) (S : Nat → Bool) (w : World) (hx : IsN w (.slice p0 xs.length k0) xs) (hy : IsN w (.slice p1 ys.length k1) ys) (hS : ∀ j, S j = true ↔ sumsTo xs ys s t j)
    (hxl : xs.length ≤ 1048576) (hyl : ys.length ≤ 1048576) (hn : n ≤ 1048576) (hlt : ∀ x ∈ xs, ∀ y ∈ ys, x + y < n) (hs : s ≤ 1048576) (ht : t ≤ 1048576) :
    Calls Tryd.prog 28 #[.agg #[.slice p0 xs.length k0, .int .i64 (s : Int)], .agg #[.slice p1 ys.length k1, .int .i64 (t : Int)], .int .i64 (n : Int)] w fun e w' =>
      (∃ g, e = .returned (.slice (some ⟨g, 0, none⟩) n n) ∧ w.heap.size ≤ g ∧ Blk w' g (rowB n n S) 4) ∧ Below w.heap.size w w' := by
  obtain ⟨i0, hi, hz0, hz1, hz2⟩ := info_parts infoBool
  have HX := Lib.hid (fun W (hW : Below w.heap.size w W) k x (hk : xs[k]? = some x) => (hx.grows hW).at hk)
  have HY := Lib.hid (fun W (hW : Below w.heap.size w W) k x (hk : ys[k]? = some x) => (hy.grows hW).at hk)
  have HL := Lib.hid hlt
  have HR := Lib.hid (fun k => sums_round hS k)
  have HM := Lib.hid ((rowB_zero n S).trans (rowB_start n S))
  clear hx hy hlt hS
  have X0 := (Blk.new w #[.slice p0 xs.length k0, .int .i64 (s : Int)] 59).alloc (.cells #[.slice p1 ys.length k1, .int .i64 (t : Int)] 59)
  have Y0 := Blk.alloc1 w #[.slice p0 xs.length k0, .int .i64 (s : Int)] #[.slice p1 ys.length k1, .int .i64 (t : Int)] 59 59
  go_enter Tryd.func28, Tryd.ntmps28
  go_wp2_with (at_make; refine wpList_make_row _ rfl _ _ 26 rfl 4 i0 _ Tryd.underlying26 hi hz0 hz1 rfl _ _ n rfl rfl (by rw [hz2]; omega) (by omega) ?_; rw [HM.out])
  have X1 := X0.alloc (.cells (rowB n n fun _ => false) 4)
  have Y1 := Y0.alloc (.cells (rowB n n fun _ => false) 4)
  have G1 := Blk.alloc2 w (.cells #[.slice p0 xs.length k0, .int .i64 (s : Int)] 59) (.cells #[.slice p1 ys.length k1, .int .i64 (t : Int)] 59) (rowB n n fun _ => false) 4
  have hbw1 : Below w.heap.size w (((w.alloc (.cells #[.slice p0 xs.length k0, .int .i64 (s : Int)] 59)).alloc (.cells #[.slice p1 ys.length k1, .int .i64 (t : Int)] 59)).alloc (.cells (rowB n n fun _ => false) 4)) := by go_grown
  clear X0 Y0
  have hsz2 : w.heap.size + 2 = w.heap.size + 2 := rfl
  have G1 := G1.cast (show _ = rowB n n (baseB (xs.take 0) ys) from rowB_congr fun j _ => rfl)
  go_loopw [18] (fun i wr => ∃ a : Nat, i = .int .i64 a ∧ a ≤ xs.length ∧ Blk wr (w.heap.size + 2) (rowB n n (baseB (xs.take a) ys)) 4 ∧ Blk wr w.heap.size #[.slice p0 xs.length k0, .int .i64 (s : Int)] 59 ∧ Blk wr (w.heap.size + 1) #[.slice p1 ys.length k1, .int .i64 (t : Int)] 59 ∧ Below w.heap.size w wr) (fun i _ => xs.length - (RowKit.intOf i).toNat)
  case atStart => exact ⟨0, rfl, Nat.zero_le _, G1, X1, Y1, hbw1⟩
  case round =>
    clear G1 X1 Y1 hbw1 hsz2
    obtain ⟨a, rfl, ha, G, X, Y, hbw⟩ := hrel
    by_cases hal : a < xs.length
    · obtain ⟨x, hx⟩ := get_of_lt hal
      obtain ⟨blk, off, rfl, hcx⟩ := HX.out _ hbw a x hx
      have hmx := List.mem_of_getElem? hx
      have HSn := Lib.hid (fun j => baseB_snoc (ys := ys) hx j)
      have y0 := Y.cell 0 rfl
      have y1 := Y.cell 1 rfl
      clear hx
      go_wp2
      go_loopw [25] (fun i wi => ∃ b : Nat, i = .int .i64 b ∧ b ≤ ys.length ∧ Blk wi (w.heap.size + 2) (rowB n n (rowS (xs.take a) ys x (ys.take b))) 4 ∧ Blk wi w.heap.size #[.slice (some ⟨blk, off, none⟩) xs.length k0, .int .i64 (s : Int)] 59 ∧ Blk wi (w.heap.size + 1) #[.slice p1 ys.length k1, .int .i64 (t : Int)] 59 ∧ Below w.heap.size w wi) (fun i _ => ys.length - (RowKit.intOf i).toNat)
      case atStart => exact ⟨0, rfl, Nat.zero_le _, G.cast (rowB_congr fun j _ => by unfold rowS; simp), X, Y, hbw⟩
      case round =>
        clear G X Y hbw y0 y1 hcx
        obtain ⟨b, rfl, hb, G, X, Y, hbw⟩ := hrel
        by_cases hbl : b < ys.length
        · obtain ⟨y, hy⟩ := get_of_lt hbl
          obtain ⟨blk', off', rfl, hcy⟩ := HY.out _ hbw b y hy
          have hxy := HL.out x hmx y (List.mem_of_getElem? hy)
          have HPut := Lib.hid ((rowB_put n (rowS (xs.take a) ys x (ys.take b)) (x + y) true).trans (rowB_congr fun j _ => (rowS_snoc hy j).symm))
          have s0 := G.cell (x + y) (rowB_full _ _ _ hxy)
          have f0 := G.free (x + y)
          clear hy
          go_wp2
          go_roundw
          case rel => exact ⟨b + 1, by go_num, by omega, (G.set (x + y) (.bool true)).cast HPut.out, X.other (by simp <;> omega) _, Y.other (by simp <;> omega) _, hbw.setCell (Nat.le_add_right _ 2) _⟩
          case measure => simp [RowKit.intOf]; omega
        · obtain rfl : b = ys.length := by omega
          rw [List.take_length] at G
          have G := G.cast (show _ = rowB n n (baseB (xs.take (a + 1)) ys) from rowB_congr fun j _ => (HSn.out j).symm)
          go_wp2
          go_roundw
          case rel => exact ⟨a + 1, by go_num, by omega, G, X, Y, hbw⟩
          case measure => simp [RowKit.intOf]; omega
    · obtain rfl : a = xs.length := by omega
      rw [List.take_length] at G
      have G := G.cast (show _ = rowB n n (rowT S (baseB xs ys) 0) from rowB_congr fun j _ => by unfold rowT; rw [if_neg (by omega)])
      go_wp2
      go_loopw [38] (fun i wi => ∃ k : Nat, i = .int .i64 k ∧ k ≤ n ∧ Blk wi (w.heap.size + 2) (rowB n n (rowT S (baseB xs ys) k)) 4 ∧ Blk wi w.heap.size #[.slice p0 xs.length k0, .int .i64 (s : Int)] 59 ∧ Blk wi (w.heap.size + 1) #[.slice p1 ys.length k1, .int .i64 (t : Int)] 59 ∧ Below w.heap.size w wi) (fun i _ => n - (RowKit.intOf i).toNat)
      case atStart => exact ⟨0, rfl, Nat.zero_le _, G, X, Y, hbw⟩
      case round =>
        clear G X Y hbw
        obtain ⟨k, rfl, hk, G, X, Y, hbw⟩ := hrel
        by_cases hkn : k < n
        · have hR := HR.out k
          have c0 := G.cell k (rowB_full _ _ _ hkn)
          have c1 : s ≤ k → _ := fun h => G.cell (k - s) (rowB_full n (rowT S (baseB xs ys) k) (k - s) (by omega))
          have c2 : t ≤ k → _ := fun h => G.cell (k - t) (rowB_full n (rowT S (baseB xs ys) k) (k - t) (by omega))
          have hc0 : rowT S (baseB xs ys) k k = baseB xs ys k := by unfold rowT; rw [if_neg (by omega)]
          rw [hc0] at c0
          have x1 := X.cell 1 rfl
          have y1 := Y.cell 1 rfl
          have f0 := G.free k
          have HPut := Lib.hid (fun b (hb : S k = b) => (rowB_put n (rowT S (baseB xs ys) k) k b).trans (rowB_congr fun j _ => rowT_put S (baseB xs ys) k b hb j))
          have HG := Lib.hid G
          clear hc0 G
          generalize rowT S (baseB xs ys) k (k - s) = b1 at hR c1
          generalize rowT S (baseB xs ys) k (k - t) = b2 at hR c2
          have hcase : (baseB xs ys k = true ∧ S k = true) ∨ (baseB xs ys k = false ∧ ((s ≤ k ∧ b1 = true ∧ S k = true) ∨ ((¬ s ≤ k ∨ b1 = false) ∧ ((t ≤ k ∧ S k = b2) ∨ (¬ t ≤ k ∧ S k = false))))) := by
            cases h0 : baseB xs ys k
            · rw [h0] at hR
              refine .inr ⟨rfl, ?_⟩
              by_cases h1 : s ≤ k <;> by_cases h2 : t ≤ k <;> cases b1 <;> simp [h1, h2] at hR ⊢ <;> exact hR
            · rw [h0] at hR
              exact .inl ⟨rfl, by rw [hR]; simp⟩
          clear hR
          rcases hcase with ⟨h0, hv⟩ | ⟨h0, ⟨h1, rfl, hv⟩ | ⟨h1, h2⟩⟩
          · rw [h0] at c0
            have HP := Lib.hid (HPut.out _ hv)
            clear hv h0 c1 c2 HPut
            go_wp2
            go_roundw
            case rel => exact ⟨k + 1, by go_num, by omega, (HG.out.set k _).cast HP.out, X.other (by simp <;> omega) _, Y.other (by simp <;> omega) _, hbw.setCell (Nat.le_add_right _ 2) _⟩
            case measure => simp [RowKit.intOf]; omega
          · rw [h0] at c0
            have c1 := c1 h1
            have HP := Lib.hid (HPut.out _ hv)
            clear hv h0 c2 HPut
            go_wp2
            go_roundw
            case rel => exact ⟨k + 1, by go_num, by omega, (HG.out.set k _).cast HP.out, X.other (by simp <;> omega) _, Y.other (by simp <;> omega) _, hbw.setCell (Nat.le_add_right _ 2) _⟩
            case measure => simp [RowKit.intOf]; omega
          · rw [h0] at c0
            clear h0
            have hA : (s ≤ k ∧ b1 = false) ∨ k < s := by
              by_cases h : s ≤ k
              · exact .inl ⟨h, h1.resolve_left (fun h3 => h3 h)⟩
              · exact .inr (by omega)
            clear h1
            rcases hA with ⟨h1, rfl⟩ | h1
            case' inl => have c1 := c1 h1
            case' inr => clear c1
            all_goals
              rcases h2 with ⟨h2, hv⟩ | ⟨h2, hv⟩
              · have c2 := c2 h2
                have HP := Lib.hid (HPut.out _ hv)
                clear hv HPut
                go_wp2
                go_roundw
                case rel => exact ⟨k + 1, by go_num, by omega, (HG.out.set k _).cast HP.out, X.other (by simp <;> omega) _, Y.other (by simp <;> omega) _, hbw.setCell (Nat.le_add_right _ 2) _⟩
                case measure => simp [RowKit.intOf]; omega
              · have h3 : k < t := by omega
                have HP := Lib.hid (HPut.out _ hv)
                clear hv HPut c2 h2
                go_wp2
                go_roundw
                case rel => exact ⟨k + 1, by go_num, by omega, (HG.out.set k _).cast HP.out, X.other (by simp <;> omega) _, Y.other (by simp <;> omega) _, hbw.setCell (Nat.le_add_right _ 2) _⟩
                case measure => simp [RowKit.intOf]; omega
        · obtain rfl : k = n := by omega
          have HG := Lib.hid (G.cast (show _ = rowB k k S from rowB_congr fun j hj => by unfold rowT; rw [if_pos hj]))
          clear G
          go_wp2
          go_ret
          exact ⟨⟨_, rfl, by omega, HG.out⟩, hbw⟩
end Go.Proofs.YtepncbbegpeilaaDoor
