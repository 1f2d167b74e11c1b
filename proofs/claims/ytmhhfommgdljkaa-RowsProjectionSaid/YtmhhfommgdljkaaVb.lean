/-
  Walks: within, small, Less, Same, fold.
-/
import Derived.Test.YtmhhfommgdljkaaVa
set_option linter.unusedSimpArgs false
set_option linter.unusedVariables false
namespace Go.Proofs.Ytmhhfommgdljkaa
open Go.RowKit Go.Lib

theorem all_snoc {l : List Int} {f : Int → Bool} {k : Nat} {x : Int} (h : ∀ (j : Nat) (y : Int), j < k → l[j]? = some y → f y = true) (hx : l[k]? = some x) (hf : f x = true) : ∀ (j : Nat) (y : Int), j < k + 1 → l[j]? = some y → f y = true := by
  intro j y hj hy
  rcases Nat.lt_or_ge j k with h1 | h1
  · exact h j y h1 hy
  · obtain rfl : j = k := by omega
    rw [hx] at hy; cases hy; exact hf
theorem all_of_get {l : List Int} {f : Int → Bool} {k : Nat} (hk : k = l.length) (h : ∀ (j : Nat) (y : Int), j < k → l[j]? = some y → f y = true) : l.all f = true := by
  rw [List.all_eq_true]
  intro y hy
  obtain ⟨j, hj, rfl⟩ := List.mem_iff_getElem.1 hy
  exact h j _ (by omega) (List.getElem?_eq_getElem hj)
theorem all_no {l : List Int} {f : Int → Bool} {k : Nat} {x : Int} (hx : l[k]? = some x) (hf : f x = false) : l.all f = false := by
  rw [List.all_eq_false]
  exact ⟨x, List.mem_of_getElem? hx, by simp [hf]⟩
set_option maxRecDepth 100000 in
set_option maxHeartbeats 1000000 in
theorem within_any (u : Value) (r : Rw) (m : Int) (w : World) (hu : IsI w u r.A) (hl : r.A.length ≤ 140737488351232) (hm : 0 ≤ m ∧ m ≤ 1099511627776) :
    Calls Try.prog 25 #[.agg #[u, .int .i64 r.C], .int .i64 m] w fun e w' => e = .returned (.bool (withinB r m)) ∧ Below w.heap.size w w' := by
  obtain ⟨p, cp, rfl, hcp⟩ := hu.shape
  have HU := Lib.hid (fun W (hW : Below w.heap.size w W) => hu.grows hW)
  clear hu
  obtain ⟨hm0, hm1⟩ := hm
  go_enter Try.func25, Try.ntmps25
  go_wp2
  have hbw1 : Below w.heap.size w (w.alloc (.cells #[.slice p r.A.length cp, .int .i64 r.C] 37)) := by go_grown
  have D1 := Blk.new w #[.slice p r.A.length cp, .int .i64 r.C] 37
  generalize (w.alloc (.cells #[.slice p r.A.length cp, .int .i64 r.C] 37)) = w1 at D1 hbw1 ⊢
  have c1 := D1.cell 1 rfl
  have HW := Lib.hid hbw1
  clear D1 hbw1
  go_loop [10] (fun kv => ∃ k : Nat, k ≤ r.A.length ∧ kv = .int .i64 k ∧ ∀ (j : Nat) (y : Int), j < k → r.A[j]? = some y → inside m y = true) (fun kv => r.A.length - (RowKit.intOf kv).toNat)
  case atStart => exact ⟨0, Nat.zero_le _, rfl, fun j y hj => by omega⟩
  case round =>
    obtain ⟨k, hk, rfl, hno⟩ := hrel
    have HN := Lib.hid hno
    clear hno
    by_cases hlt : k < r.A.length
    · obtain ⟨x, hx⟩ := get_of_lt hlt
      obtain ⟨b1, o1, rfl, cx⟩ := (HU.out _ HW.out).at hx
      have HX := Lib.hid hx
      clear hx
      by_cases h1 : x < -m
      · have HF := Lib.hid (show withinB r m = false by unfold withinB; rw [all_no HX.out (by unfold inside; simp; omega)]; rfl)
        go_wp2
        go_ret
        exact ⟨ret_bool HF.out.symm, HW.out⟩
      · by_cases h2 : m < x
        · have HF := Lib.hid (show withinB r m = false by unfold withinB; rw [all_no HX.out (by unfold inside; simp; omega)]; rfl)
          go_wp2
          go_ret
          exact ⟨ret_bool HF.out.symm, HW.out⟩
        · go_wp2
          go_round
          case rel => exact ⟨k + 1, by omega, by go_num, all_snoc HN.out HX.out (by unfold inside; simp; omega)⟩
          case measure => simp [RowKit.intOf]; omega
    · have HE := Lib.hid (show withinB r m = inside m r.C by unfold withinB; rw [all_of_get (by omega) HN.out]; rfl)
      generalize r.C = C at *
      obtain rfl : k = r.A.length := by omega
      by_cases h1 : C < -m
      · have HF := Lib.hid (show inside m C = false by unfold inside; simp; omega)
        go_wp2
        go_ret
        exact ⟨ret_bool (HE.out.trans HF.out).symm, HW.out⟩
      · by_cases h2 : m < C
        · have HF := Lib.hid (show inside m C = false by unfold inside; simp; omega)
          have hd : decide (C ≤ m) = false := by rw [decide_eq_false_iff_not]; omega
          go_wp2
          go_ret
          exact ⟨ret_bool (HE.out.trans HF.out).symm, HW.out⟩
        · have HF := Lib.hid (show inside m C = true by unfold inside; simp; omega)
          go_wp2
          go_ret
          exact ⟨ret_bool (HE.out.trans HF.out).symm, HW.out⟩

theorem pts_append : ∀ (l m : List Int), pts (l ++ m) = pts l * pts m
  | [], m => by simp [pts]
  | t :: l, m => by simp only [List.cons_append, pts, pts_append l m, Int.mul_assoc]
theorem pts_pos : ∀ {l : List Int}, (∀ t ∈ l, 0 ≤ t ∧ t ≤ 64) → 1 ≤ pts l
  | [], _ => by simp [pts]
  | t :: l, h => by
    have h1 := h t (by simp)
    have h2 := pts_pos (l := l) fun u hu => h u (by simp [hu])
    simp only [pts]
    have := Int.mul_le_mul (show (1 : Int) ≤ t + 1 by omega) h2 (by omega) (by omega)
    omega
theorem take_snoc {α : Type} {l : List α} {k : Nat} {x : α} (h : l[k]? = some x) : l.take (k + 1) = l.take k ++ [x] := by rw [List.take_add_one, h]; rfl
theorem pts_big {l : List Int} (h : ∀ t ∈ l, 0 ≤ t ∧ t ≤ 64) (k : Nat) (hk : 16384 < pts (l.take k)) : 16384 < pts l := by
  have e : pts l = pts (l.take k) * pts (l.drop k) := by rw [← pts_append, List.take_append_drop]
  have h2 := pts_pos (l := l.drop k) fun t ht => h t (List.mem_of_mem_drop ht)
  have := Int.mul_le_mul (Int.le_refl (pts (l.take k))) h2 (by omega) (by omega)
  omega
def smallB (T : List Int) : Bool := decide (pts T ≤ 16384)
set_option maxRecDepth 100000 in
set_option maxHeartbeats 1000000 in
theorem small_any (v : Value) (s : Sy) (w : World) (hv : IsS w v s) (hl : s.T.length ≤ 140737488351232) (hT : ∀ t ∈ s.T, 0 ≤ t ∧ t ≤ 64) :
    Calls Try.prog 21 #[v] w fun e w' => e = .returned (.bool (smallB s.T)) ∧ Below w.heap.size w w' := by
  obtain ⟨tp, tc, rp, rc, rfl, htc, hrc, h1, h2⟩ := hv.shape
  have HU := Lib.hid (fun W (hW : Below w.heap.size w W) => h1.grows hW)
  clear hv h1 h2
  have HT := Lib.hid hT
  clear hT
  go_enter Try.func21, Try.ntmps21
  go_wp2
  have hbw1 : Below w.heap.size w (w.alloc (.cells #[.slice tp s.T.length tc, .slice rp s.R.length rc] 25)) := by go_grown
  generalize (w.alloc (.cells #[.slice tp s.T.length tc, .slice rp s.R.length rc] 25)) = w1 at hbw1 ⊢
  have HW := Lib.hid hbw1
  clear hbw1
  go_loop [3, 9] (fun pv kv => ∃ k : Nat, k ≤ s.T.length ∧ kv = .int .i64 k ∧ pv = .int .i64 (pts (s.T.take k)) ∧ pts (s.T.take k) ≤ 16384) (fun _ kv => s.T.length - (RowKit.intOf kv).toNat)
  case atStart => exact ⟨0, Nat.zero_le _, rfl, rfl, by simp [pts]⟩
  case round =>
    obtain ⟨k, hk, rfl, rfl, hno⟩ := hrel
    have hpos : 1 ≤ pts (s.T.take k) := pts_pos fun t ht => HT.out t (List.mem_of_mem_take ht)
    by_cases hlt : k < s.T.length
    · obtain ⟨x, hx⟩ := get_of_lt hlt
      obtain ⟨b1, o1, rfl, cx⟩ := (HU.out _ HW.out).at hx
      have hx1 := HT.out x (List.mem_of_getElem? hx)
      have HS := Lib.hid (show pts (s.T.take (k + 1)) = pts (s.T.take k) * (x + 1) by rw [take_snoc hx, pts_append]; simp [pts])
      have HB := Lib.hid (pts_big HT.out (k + 1))
      clear hx
      generalize pts (s.T.take k) = P at hno hpos HS ⊢
      have hb0 : 0 ≤ P * (x + 1) := Int.mul_nonneg (by omega) (by omega)
      have hb1 : P * (x + 1) ≤ 16384 * 65 := Int.mul_le_mul hno (by omega) (by omega) (by omega)
      have hx2 : 0 ≤ x := hx1.1
      have hx3 : x ≤ 64 := hx1.2
      clear hx1
      have hwr : IntKind.i64.wrap (P * (x + 1)) = P * (x + 1) := IntWalk.i64_in _ (by omega)
      by_cases hbig : 16384 < P * (x + 1)
      · have HF := Lib.hid (show smallB s.T = false by have := HB.out; rw [HS.out] at this; unfold smallB; rw [decide_eq_false_iff_not]; have := this hbig; omega)
        go_wp2
        go_ret
        exact ⟨ret_bool HF.out.symm, HW.out⟩
      · go_wp2
        go_round
        case rel => exact ⟨k + 1, by omega, by go_num, by rw [HS.out], by rw [HS.out]; omega⟩
        case measure => simp [RowKit.intOf]; omega
    · obtain rfl : k = s.T.length := by omega
      have HF := Lib.hid (show smallB s.T = true by unfold smallB; rw [decide_eq_true_iff]; rw [List.take_length] at hno; exact hno)
      go_wp2
      go_ret
      exact ⟨ret_bool HF.out.symm, HW.out⟩
/-- a number folded into a range. -/
def foldS (n lo hi : Int) : Int := lo + n % (hi - lo + 1)
theorem tmod_neg {n d : Int} (hd : 0 < d) (h : n.tmod d < 0) : n.tmod d + d = n % d := by
  rw [Int.tmod_eq_emod] at h ⊢
  have := Int.emod_nonneg n (show d ≠ 0 by omega)
  split at h
  · omega
  · rename_i hc; rw [if_neg hc] ; omega
theorem tmod_pos {n d : Int} (hd : 0 < d) (h : ¬ n.tmod d < 0) : n.tmod d = n % d := by
  rw [Int.tmod_eq_emod] at h ⊢
  have := Int.emod_lt_of_pos n hd
  split at h
  · rename_i hc; rw [if_pos hc]; omega
  · omega
theorem tmod_bound {n d : Int} (hd : 0 < d) : -d < n.tmod d ∧ n.tmod d < d := by
  rw [Int.tmod_eq_emod]
  have h1 := Int.emod_nonneg n (show d ≠ 0 by omega)
  have h2 := Int.emod_lt_of_pos n hd
  have h3 : (d.natAbs : Int) = d := Int.natAbs_of_nonneg (by omega)
  split
  · omega
  · rename_i hc
    have h4 : n % d ≠ 0 := fun e => hc (.inr (Int.dvd_of_emod_eq_zero e))
    omega
set_option maxRecDepth 100000 in
set_option maxHeartbeats 1000000 in
theorem fold_any (n lo hi : Int) (w : World) (h1 : -1000 ≤ lo) (h2 : lo ≤ hi) (h3 : hi ≤ 1000) :
    Calls Try.prog 20 #[.int .i64 n, .int .i64 lo, .int .i64 hi] w fun e w' => e = .returned (.int .i64 (foldS n lo hi)) ∧ w = w' := by
  obtain ⟨b1, b2⟩ := tmod_bound (n := n) (d := hi - lo + 1) (by omega)
  have b3 : -2001 < n.tmod (hi - lo + 1) := by omega
  have b4 : n.tmod (hi - lo + 1) < 2002 := by omega
  have HN := Lib.hid (tmod_neg (n := n) (d := hi - lo + 1) (by omega))
  have HP := Lib.hid (tmod_pos (n := n) (d := hi - lo + 1) (by omega))
  go_enter Try.func20, Try.ntmps20
  by_cases hs : n.tmod (hi - lo + 1) < 0
  · go_wp2
    go_ret
    exact ⟨ret_int (by have := HN.out hs; unfold foldS; omega), rfl⟩
  · go_wp2
    go_ret
    exact ⟨ret_int (by have := HP.out hs; unfold foldS; omega), rfl⟩
theorem fold_in (n : Int) {lo hi : Int} (h : lo ≤ hi) : lo ≤ foldS n lo hi ∧ foldS n lo hi ≤ hi := by
  have h1 := Int.emod_nonneg n (show hi - lo + 1 ≠ 0 by omega)
  have h2 := Int.emod_lt_of_pos n (show 0 < hi - lo + 1 by omega)
  unfold foldS; omega
/-- equal from 0 on. -/
def EqTo (l m : List Int) (k : Nat) : Prop := ∀ (j : Nat) (x y : Int), j < k → l[j]? = some x → m[j]? = some y → x = y
theorem eqTo_snoc {l m : List Int} {k : Nat} {x : Int} (h : EqTo l m k) (h1 : l[k]? = some x) (h2 : m[k]? = some x) : EqTo l m (k + 1) := fun j a b hj ha hb => by
  rcases Nat.lt_or_ge j k with hq | hq
  · exact h j a b hq ha hb
  · obtain rfl : j = k := by omega
    rw [h1] at ha; rw [h2] at hb; cases ha; cases hb; rfl
theorem eqTo_all {l m : List Int} (hl : l.length = m.length) (h : EqTo l m l.length) : l = m := by
  refine List.ext_getElem hl fun j h1 h2 => ?_
  exact h j _ _ h1 (List.getElem?_eq_getElem h1) (List.getElem?_eq_getElem h2)
def sameB (l m : List Int) : Bool := decide (l = m)
set_option maxRecDepth 100000 in
set_option maxHeartbeats 1000000 in
theorem same_any (u v : Value) (l m : List Int) (w : World) (hu : IsI w u l) (hv : IsI w v m) (hl : l.length ≤ 140737488351232) (hm : m.length ≤ 140737488351232) :
    Calls Try.prog 17 #[u, v] w fun e w' => e = .returned (.bool (sameB l m)) ∧ Below w.heap.size w w' := by
  obtain ⟨p, cp, rfl, hcp⟩ := hu.shape
  obtain ⟨q, cq, rfl, hcq⟩ := hv.shape
  have HU := Lib.hid (fun W (hW : Below w.heap.size w W) => hu.grows hW)
  have HV := Lib.hid (fun W (hW : Below w.heap.size w W) => hv.grows hW)
  clear hu hv
  by_cases hlen : l.length = m.length
  · have hd : (((l.length : Nat) : Int) != (m.length : Int)) = false := by rw [hlen]; simp
    have HL := Lib.hid hlen
    clear hlen
    go_enter Try.func17, Try.ntmps17
    go_wp2
    go_loopw [5] (fun kv wr => ∃ k : Nat, k ≤ l.length ∧ kv = .int .i64 k ∧ EqTo l m k ∧ Below w.heap.size w wr) (fun kv _ => l.length - (RowKit.intOf kv).toNat)
    case atStart => exact ⟨0, Nat.zero_le _, rfl, fun j x y hj => by omega, Below.refl _ _⟩
    case round =>
      obtain ⟨k, hk, rfl, hno, hbw⟩ := hrel
      have HN := Lib.hid hno
      clear hno
      by_cases hlt : k < l.length
      · have hlt2 : k < m.length := by have := HL.out; omega
        obtain ⟨x, hx⟩ := get_of_lt hlt
        obtain ⟨y, hy⟩ := get_of_lt hlt2
        obtain ⟨b1, o1, rfl, c1⟩ := (HU.out _ hbw).at hx
        obtain ⟨b2, o2, rfl, c2⟩ := (HV.out _ hbw).at hy
        have HX := Lib.hid hx
        have HY := Lib.hid hy
        clear hx hy
        by_cases hxy : x = y
        · subst hxy
          go_wp2
          go_quiet (fail)
          go_wp2
          go_roundw
          case rel => exact ⟨k + 1, by omega, by go_num, eqTo_snoc HN.out HX.out HY.out, below_drews hbw _⟩
          case measure => simp [RowKit.intOf]; omega
        · have HF := Lib.hid (show sameB l m = false by
            unfold sameB; rw [decide_eq_false_iff_not]; rintro rfl
            have := HX.out; rw [HY.out] at this; cases this; exact hxy rfl)
          have hne : (x != y) = true := by rw [bne_iff_ne]; exact hxy
          go_wp2
          go_quiet (fail)
          go_wp2
          go_ret
          exact ⟨ret_bool HF.out.symm, below_drews hbw _⟩
      · obtain rfl : k = l.length := by omega
        have HF := Lib.hid (show sameB l m = true by unfold sameB; rw [decide_eq_true_iff]; exact eqTo_all HL.out HN.out)
        go_wp2
        go_ret
        exact ⟨ret_bool HF.out.symm, hbw⟩
  · have hd : (((l.length : Nat) : Int) != (m.length : Int)) = true := by rw [bne_iff_ne]; omega
    have HF := Lib.hid (show sameB l m = false by unfold sameB; rw [decide_eq_false_iff_not]; rintro rfl; exact hlen rfl)
    go_enter Try.func17, Try.ntmps17
    go_wp2
    go_ret
    exact ⟨ret_bool HF.out.symm, Below.refl _ _⟩
theorem lessB_same : ∀ {l m : List Int} {k : Nat} {x y : Int}, EqTo l m k → l[k]? = some x → m[k]? = some y → x ≠ y → lessB l m = decide (x < y)
  | [], _, _, _, _, _, h, _, _ => by simp at h
  | _ :: _, [], _, _, _, _, _, h, _ => by simp at h
  | a :: l, b :: m, 0, x, y, _, h1, h2, hne => by
    simp at h1 h2; subst h1; subst h2; simp [lessB, hne]
  | a :: l, b :: m, k + 1, x, y, h, h1, h2, hne => by
    have e := h 0 a b (by omega) rfl rfl
    subst e
    simp only [lessB, if_true]
    exact lessB_same (k := k) (fun j p q hj hp hq => h (j + 1) p q (by omega) (by simpa using hp) (by simpa using hq)) (by simpa using h1) (by simpa using h2) hne
theorem lessB_end : ∀ {l m : List Int} {k : Nat}, EqTo l m k → ¬ (k < l.length ∧ k < m.length) → lessB l m = false
  | [], _, _, _, _ => by simp [lessB]
  | _ :: _, [], _, _, _ => by simp [lessB]
  | a :: l, b :: m, 0, _, h => by simp at h
  | a :: l, b :: m, k + 1, h, hk => by
    have e := h 0 a b (by omega) rfl rfl
    subst e
    simp only [lessB, if_true]
    exact lessB_end (k := k) (fun j p q hj hp hq => h (j + 1) p q (by omega) (by simpa using hp) (by simpa using hq)) (fun hc => hk (by simp only [List.length_cons]; omega))
set_option maxRecDepth 100000 in
set_option maxHeartbeats 1000000 in
theorem less_any (u v : Value) (l m : List Int) (w : World) (hu : IsI w u l) (hv : IsI w v m) (hl : l.length ≤ 140737488351232) (hm : m.length ≤ 140737488351232) :
    Calls Try.prog 15 #[u, v] w fun e w' => e = .returned (.bool (lessB l m)) ∧ Below w.heap.size w w' := by
  obtain ⟨p, cp, rfl, hcp⟩ := hu.shape
  obtain ⟨q, cq, rfl, hcq⟩ := hv.shape
  have HU := Lib.hid (fun W (hW : Below w.heap.size w W) => hu.grows hW)
  have HV := Lib.hid (fun W (hW : Below w.heap.size w W) => hv.grows hW)
  clear hu hv
  go_enter Try.func15, Try.ntmps15
  go_wp2
  go_loopw [5] (fun kv wr => ∃ k : Nat, k ≤ l.length ∧ kv = .int .i64 k ∧ EqTo l m k ∧ Below w.heap.size w wr) (fun kv _ => l.length - (RowKit.intOf kv).toNat)
  case atStart => exact ⟨0, Nat.zero_le _, rfl, fun j x y hj => by omega, Below.refl _ _⟩
  case round =>
    obtain ⟨k, hk, rfl, hno, hbw⟩ := hrel
    have HN := Lib.hid hno
    clear hno
    by_cases hlt : k < l.length
    · by_cases hlt2 : k < m.length
      · obtain ⟨x, hx⟩ := get_of_lt hlt
        obtain ⟨y, hy⟩ := get_of_lt hlt2
        obtain ⟨b1, o1, rfl, c1⟩ := (HU.out _ hbw).at hx
        obtain ⟨b2, o2, rfl, c2⟩ := (HV.out _ hbw).at hy
        have HX := Lib.hid hx
        have HY := Lib.hid hy
        clear hx hy
        by_cases hxy : x = y
        · subst hxy
          go_wp2
          go_quiet (fail)
          go_wp2
          go_roundw
          case rel => exact ⟨k + 1, by omega, by go_num, eqTo_snoc HN.out HX.out HY.out, below_drews hbw _⟩
          case measure => simp [RowKit.intOf]; omega
        · have HF := Lib.hid (lessB_same HN.out HX.out HY.out hxy)
          have hne : (x != y) = true := by rw [bne_iff_ne]; exact hxy
          go_wp2
          go_quiet (fail)
          go_wp2
          go_quiet (fail)
          go_wp2
          go_ret
          exact ⟨ret_bool HF.out.symm, below_drews (below_drews hbw _) _⟩
      · have HF := Lib.hid (lessB_end HN.out (by omega))
        have hdk : decide ((k : Int) < (m.length : Int)) = false := by rw [decide_eq_false_iff_not]; omega
        go_wp2
        go_ret
        exact ⟨ret_bool HF.out.symm, hbw⟩
    · have HF := Lib.hid (lessB_end HN.out (by omega))
      have hdk : decide ((k : Int) < (l.length : Int)) = false := by rw [decide_eq_false_iff_not]; omega
      go_wp2
      go_ret
      exact ⟨ret_bool HF.out.symm, hbw⟩
end Go.Proofs.Ytmhhfommgdljkaa
