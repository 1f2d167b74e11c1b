/-
  Texts of the proof, one behind another: Km.
-/
import Derived.Laws.Entries
import Derived.Laws.BitsAllLaws
set_option linter.unusedSimpArgs false
set_option linter.unusedVariables false
namespace Go.Proofs.YtkhphiilnplgjaaGreatDoor

/-- word i of a class. -/
def wv (x : BitVec 256) (i : Nat) : BitVec 64 := x.extractLsb' (64 * i) 64
def wd (x : BitVec 256) (i : Nat) : Int := ((wv x i).toNat : Int)
def bit (b : Nat) : BitVec 256 := BitVec.twoPow 256 b

theorem wd_nonneg (x : BitVec 256) (i : Nat) : 0 ≤ wd x i := Int.natCast_nonneg _
theorem wd_lt (x : BitVec 256) (i : Nat) : wd x i < 18446744073709551616 := by
  unfold wd; have := (wv x i).isLt; omega
theorem wv_bit (x : BitVec 256) (i j : Nat) (hj : j < 64) : (wv x i).getLsbD j = x.getLsbD (64 * i + j) := by
  simp [wv, BitVec.getLsbD_extractLsb', hj]
theorem ofInt_nat (v : BitVec 64) : BitVec.ofInt 64 (v.toNat : Int) = v := by
  apply BitVec.eq_of_toNat_eq; rw [BitVec.ofInt_natCast]; simp
theorem wrap_u64_nat (n : Nat) (h : n < 18446744073709551616) : IntKind.u64.wrap (n : Int) = n := by
  rw [IntKind.wrap_u64]; omega
theorem bits_u64 (op : BinOp) (v u : BitVec 64) : bits op .u64 (v.toNat : Int) (u.toNat : Int) = ((match op with
    | .and => v &&& u
    | .or => v ||| u
    | .xor => v ^^^ u
    | _ => v &&& ~~~u).toNat : Int) := by
  have hv : BitVec.ofInt IntKind.u64.bits (v.toNat : Int) = v := ofInt_nat v
  have hu : BitVec.ofInt IntKind.u64.bits (u.toNat : Int) = u := ofInt_nat u
  unfold bits
  simp only [hv, hu]
  cases op <;> exact wrap_u64_nat _ (show _ < 2 ^ 64 from BitVec.isLt _)
theorem wv_or (x y : BitVec 256) (i : Nat) : wv (x ||| y) i = wv x i ||| wv y i := by
  apply BitVec.eq_of_getLsbD_eq; intro j hj; simp only [BitVec.getLsbD_or, wv_bit _ _ _ hj]
theorem wv_and (x y : BitVec 256) (i : Nat) : wv (x &&& y) i = wv x i &&& wv y i := by
  apply BitVec.eq_of_getLsbD_eq; intro j hj; simp only [BitVec.getLsbD_and, wv_bit _ _ _ hj]
theorem wv_andNot (x y : BitVec 256) (i : Nat) (hi : i < 4) : wv (x &&& ~~~y) i = wv x i &&& ~~~wv y i := by
  apply BitVec.eq_of_getLsbD_eq; intro j hj
  have : 64 * i + j < 256 := by omega
  simp only [BitVec.getLsbD_and, BitVec.getLsbD_not, wv_bit _ _ _ hj, hj, this, decide_true]
theorem wd_or (x y : BitVec 256) (i : Nat) : bits .or .u64 (wd x i) (wd y i) = wd (x ||| y) i := by
  unfold wd; rw [bits_u64, wv_or]
theorem wd_and (x y : BitVec 256) (i : Nat) : bits .and .u64 (wd x i) (wd y i) = wd (x &&& y) i := by
  unfold wd; rw [bits_u64, wv_and]
theorem wd_andNot (x y : BitVec 256) (i : Nat) (hi : i < 4) : bits .andNot .u64 (wd x i) (wd y i) = wd (x &&& ~~~y) i := by
  unfold wd; rw [bits_u64, wv_andNot _ _ _ hi]
theorem wd_zero (i : Nat) : wd 0 i = 0 := by
  unfold wd wv; simp
theorem wd_ext {x y : BitVec 256} (h : ∀ i, i < 4 → wd x i = wd y i) : x = y := by
  apply BitVec.eq_of_getLsbD_eq; intro j hj
  have h1 : wv x (j / 64) = wv y (j / 64) := by
    apply BitVec.eq_of_toNat_eq; have := h (j / 64) (by omega); unfold wd at this; omega
  have h2 := congrArg (fun v => v.getLsbD (j % 64)) h1
  simp only [wv_bit _ _ _ (Nat.mod_lt j (by decide : 64 > 0))] at h2
  rwa [show 64 * (j / 64) + j % 64 = j by omega] at h2
theorem wd_ext4 {x y : BitVec 256} (h0 : wd x 0 = wd y 0) (h1 : wd x 1 = wd y 1) (h2 : wd x 2 = wd y 2) (h3 : wd x 3 = wd y 3) : x = y :=
  wd_ext fun i hi => by
    match i, hi with
    | 0, _ => exact h0
    | 1, _ => exact h1
    | 2, _ => exact h2
    | 3, _ => exact h3
/-- the class of four words. -/
def mk4 (a b c d : BitVec 64) : BitVec 256 := a.setWidth 256 ||| (b.setWidth 256 <<< 64) ||| (c.setWidth 256 <<< 128) ||| (d.setWidth 256 <<< 192)
theorem high (a : BitVec 64) (j : Nat) (h : 64 ≤ j) : a.getLsbD j = false := BitVec.getLsbD_of_ge a j h
theorem mk4_bit (a b c d : BitVec 64) (j : Nat) (hj : j < 256) : (mk4 a b c d).getLsbD j =
    (a.getLsbD j || (decide (64 ≤ j) && b.getLsbD (j - 64)) || (decide (128 ≤ j) && c.getLsbD (j - 128)) || (decide (192 ≤ j) && d.getLsbD (j - 192))) := by
  unfold mk4
  have h1 : j - 64 < 256 := by omega
  have h2 : j - 128 < 256 := by omega
  have h3 : j - 192 < 256 := by omega
  simp only [BitVec.getLsbD_or, BitVec.getLsbD_shiftLeft, BitVec.getLsbD_setWidth, hj, h1, h2, h3, decide_true, Bool.true_and]
  have e1 : decide (64 ≤ j) = !decide (j < 64) := by by_cases h : j < 64 <;> simp [h, Nat.not_le.2, Nat.le_of_not_lt]
  have e2 : decide (128 ≤ j) = !decide (j < 128) := by by_cases h : j < 128 <;> simp [h, Nat.not_le.2, Nat.le_of_not_lt]
  have e3 : decide (192 ≤ j) = !decide (j < 192) := by by_cases h : j < 192 <;> simp [h, Nat.not_le.2, Nat.le_of_not_lt]
  simp only [e1, e2, e3]
theorem wv_mk4 (a b c d : BitVec 64) : wv (mk4 a b c d) 0 = a ∧ wv (mk4 a b c d) 1 = b ∧ wv (mk4 a b c d) 2 = c ∧ wv (mk4 a b c d) 3 = d := by
  refine ⟨?_, ?_, ?_, ?_⟩ <;> (apply BitVec.eq_of_getLsbD_eq; intro j hj; rw [wv_bit _ _ _ hj, mk4_bit _ _ _ _ _ (by omega)])
  · have h1 : ¬ 64 ≤ 64 * 0 + j := by omega
    have h2 : ¬ 128 ≤ 64 * 0 + j := by omega
    have h3 : ¬ 192 ≤ 64 * 0 + j := by omega
    simp only [h1, h2, h3, decide_false, Bool.false_and, Bool.or_false]
    congr 1; omega
  · have h1 : 64 ≤ 64 * 1 + j := by omega
    have h2 : ¬ 128 ≤ 64 * 1 + j := by omega
    have h3 : ¬ 192 ≤ 64 * 1 + j := by omega
    rw [high a _ h1]; simp [h1, h2, h3]
  · have h1 : 64 ≤ 64 * 2 + j := by omega
    have h2 : 128 ≤ 64 * 2 + j := by omega
    have h3 : ¬ 192 ≤ 64 * 2 + j := by omega
    rw [high a _ h1, high b _ (by omega)]; simp [h1, h2, h3]
  · have h1 : 64 ≤ 64 * 3 + j := by omega
    have h2 : 128 ≤ 64 * 3 + j := by omega
    have h3 : 192 ≤ 64 * 3 + j := by omega
    rw [high a _ h1, high b _ (by omega), high c _ (by omega)]; simp [h1, h2, h3]
theorem ofWords (a b c d : Int) (ha : 0 ≤ a ∧ a < 18446744073709551616) (hb : 0 ≤ b ∧ b < 18446744073709551616) (hc : 0 ≤ c ∧ c < 18446744073709551616) (hd : 0 ≤ d ∧ d < 18446744073709551616) :
    ∃ x, wd x 0 = a ∧ wd x 1 = b ∧ wd x 2 = c ∧ wd x 3 = d := by
  obtain ⟨h0, h1, h2, h3⟩ := wv_mk4 (BitVec.ofNat 64 a.toNat) (BitVec.ofNat 64 b.toNat) (BitVec.ofNat 64 c.toNat) (BitVec.ofNat 64 d.toNat)
  refine ⟨mk4 (BitVec.ofNat 64 a.toNat) (BitVec.ofNat 64 b.toNat) (BitVec.ofNat 64 c.toNat) (BitVec.ofNat 64 d.toNat), ?_, ?_, ?_, ?_⟩ <;> unfold wd
  · rw [h0, BitVec.toNat_ofNat]; omega
  · rw [h1, BitVec.toNat_ofNat]; omega
  · rw [h2, BitVec.toNat_ofNat]; omega
  · rw [h3, BitVec.toNat_ofNat]; omega
theorem bit_getLsbD (b j : Nat) (hb : b < 256) : (bit b).getLsbD j = decide (b = j) := by
  unfold bit; simp [BitVec.getLsbD_twoPow, hb]
theorem wv_bit_other (b i : Nat) (hb : b < 256) (h : b / 64 ≠ i) : wv (bit b) i = 0 := by
  apply BitVec.eq_of_getLsbD_eq; intro j hj
  rw [wv_bit _ _ _ hj, bit_getLsbD _ _ hb]; simp; omega
theorem wv_bit_same (b : Nat) (hb : b < 256) : wv (bit b) (b / 64) = BitVec.twoPow 64 (b % 64) := by
  apply BitVec.eq_of_getLsbD_eq; intro j hj
  rw [wv_bit _ _ _ hj, bit_getLsbD _ _ hb, BitVec.getLsbD_twoPow]
  have : b % 64 < 64 := Nat.mod_lt _ (by decide)
  simp [this]; omega
theorem pow_wrap (r : Nat) (hr : r < 64) : IntKind.u64.wrap (2 ^ r) = ((BitVec.twoPow 64 r).toNat : Int) := by
  have h : 2 ^ r < 2 ^ 64 := Nat.pow_lt_pow_right (by decide) hr
  have e : ((2 : Int) ^ r) = ((2 ^ r : Nat) : Int) := by norm_cast
  rw [BitVec.toNat_twoPow, Nat.mod_eq_of_lt h, e]
  exact wrap_u64_nat _ h
/-- what 'c[b/64] |= 1 << (b % 64)' does to the words. -/
theorem wd_with_same (x : BitVec 256) (b : Nat) (hb : b < 256) (q : Nat) (hq : b / 64 = q) :
    bits .or .u64 (wd x q) (IntKind.u64.wrap (2 ^ (b % 64))) = wd (x ||| bit b) q := by
  subst hq
  rw [pow_wrap _ (Nat.mod_lt _ (by decide))]
  unfold wd; rw [bits_u64, wv_or, wv_bit_same _ hb]
theorem wd_with_other (x : BitVec 256) (b : Nat) (hb : b < 256) (q : Nat) (hq : b / 64 ≠ q) : wd (x ||| bit b) q = wd x q := by
  unfold wd; rw [wv_or, wv_bit_other _ _ hb hq]; simp
theorem wd_div (x : BitVec 256) (b : Nat) : wd x (b / 64) / 2 ^ (b % 64) = ((wv x (b / 64) >>> (b % 64)).toNat : Int) := by
  unfold wd; rw [BitVec.toNat_ushiftRight, Nat.shiftRight_eq_div_pow]; norm_cast
theorem shr_bit (x : BitVec 256) (b : Nat) : ((wv x (b / 64) >>> (b % 64)).getLsbD 0) = x.getLsbD b := by
  have : b % 64 < 64 := Nat.mod_lt _ (by decide)
  rw [BitVec.getLsbD_ushiftRight, wv_bit _ _ _ (by omega)]; congr 1; omega
theorem odd_bit (v : BitVec 64) : v.toNat % 2 = (v.getLsbD 0).toNat := by
  rw [BitVec.getLsbD, Nat.testBit_zero]; have := Nat.mod_two_eq_zero_or_one v.toNat; rcases this with h | h <;> simp [h]
/-- the reference's test. -/
theorem has_mod (x : BitVec 256) (b : Nat) : (wd x (b / 64) / 2 ^ (b % 64) % 2 == 1) = x.getLsbD b := by
  rw [wd_div, ← shr_bit]
  have := odd_bit (wv x (b / 64) >>> (b % 64))
  have e : (((wv x (b / 64) >>> (b % 64)).toNat : Int) % 2) = (((wv x (b / 64) >>> (b % 64)).toNat % 2 : Nat) : Int) := by norm_cast
  rw [e, this]; cases ((wv x (b / 64) >>> (b % 64)).getLsbD 0) <;> rfl
/-- the code's test. -/
theorem has_and (x : BitVec 256) (b : Nat) : (bits .and .u64 (wd x (b / 64) / 2 ^ (b % 64)) 1 == 1) = x.getLsbD b := by
  rw [wd_div, ← shr_bit]
  have h1 : (1 : Int) = ((1#64).toNat : Int) := rfl
  rw [h1, bits_u64]
  have e : ((wv x (b / 64) >>> (b % 64)) &&& 1#64).toNat = (wv x (b / 64) >>> (b % 64)).toNat % 2 := by
    rw [BitVec.toNat_and]; exact Nat.and_two_pow_sub_one_eq_mod _ 1
  simp only [e, odd_bit]
  cases ((wv x (b / 64) >>> (b % 64)).getLsbD 0) <;> rfl

/-- is b a member? (a name of its own, so that no walk's simplifier turns it) -/
def mem (x : BitVec 256) (b : Nat) : Bool := x.getLsbD b

/-- the bytes below k at which p holds. -/
def sel (p : Nat → Bool) (k : Nat) : BitVec 256 := (List.range k).foldl (fun c i => if p i then c ||| bit i else c) 0
theorem sel_zero (p : Nat → Bool) : sel p 0 = 0 := rfl
theorem sel_succ (p : Nat → Bool) (k : Nat) : sel p (k + 1) = if p k then sel p k ||| bit k else sel p k := by
  unfold sel; rw [List.range_succ, List.foldl_append]; rfl
theorem sel_yes (p : Nat → Bool) (k : Nat) (h : p k = true) : sel p (k + 1) = sel p k ||| bit k := by rw [sel_succ, if_pos h]
theorem sel_no (p : Nat → Bool) (k : Nat) (h : p k = false) : sel p (k + 1) = sel p k := by rw [sel_succ, if_neg (by simp [h])]
theorem sel_bit (p : Nat → Bool) (j : Nat) : ∀ k, k ≤ 256 → (sel p k).getLsbD j = (decide (j < k) && p j)
  | 0, _ => by rw [sel_zero]; simp
  | k + 1, hk => by
    have ih := sel_bit p j k (by omega)
    cases hp : p k with
    | true =>
      rw [sel_yes p k hp, BitVec.getLsbD_or, ih, bit_getLsbD k j (by omega)]
      by_cases e : k = j
      · subst e; simp [hp]
      · have : (j < k) = (j < k + 1) := by apply propext; omega
        simp only [e, decide_false, Bool.or_false, this]
    | false =>
      rw [sel_no p k hp, ih]
      by_cases e : k = j
      · subst e; simp [hp]
      · have : (j < k) = (j < k + 1) := by apply propext; omega
        simp only [this]
theorem sel_eq (p : Nat → Bool) (x : BitVec 256) (h : ∀ j, j < 256 → x.getLsbD j = p j) : sel p 256 = x := by
  apply BitVec.eq_of_getLsbD_eq; intro j hj
  rw [sel_bit p j 256 (Nat.le_refl _), h j hj]; simp [hj]

/-- the members below k, in order. -/
def mems (x : BitVec 256) (k : Nat) : List Int := ((List.range k).filter (mem x)).map fun (j : Nat) => (j : Int)
theorem mems_yes (x : BitVec 256) (k : Nat) (h : mem x k = true) : mems x (k + 1) = mems x k ++ [(k : Int)] := by
  unfold mems; rw [List.range_succ, List.filter_append, List.map_append]; simp [h]
theorem mems_no (x : BitVec 256) (k : Nat) (h : mem x k = false) : mems x (k + 1) = mems x k := by
  unfold mems; rw [List.range_succ, List.filter_append, List.map_append]; simp [h]
theorem mems_len (x : BitVec 256) (k : Nat) : (mems x k).length ≤ k := by
  unfold mems; rw [List.length_map]; exact Nat.le_trans (List.length_filter_le _ _) (by simp)
theorem mems_byte (x : BitVec 256) (k : Nat) (hk : k ≤ 256) : ∀ z ∈ mems x k, 0 ≤ z ∧ z < 256 := by
  intro z hz; unfold mems at hz; simp only [List.mem_map, List.mem_filter, List.mem_range] at hz
  obtain ⟨j, ⟨hj, _⟩, rfl⟩ := hz; omega
end Go.Proofs.YtkhphiilnplgjaaGreatDoor
