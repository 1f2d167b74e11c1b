/-
  Texts of the proof, one behind another: Yb, Yc, Yd.
-/
import Derived.Test.YtkhphiilnplgjaaGreatDoorQbb
import Derived.Deep.QuietTactic
import Derived.BigQuiet
import Derived.Test.YtkhphiilnplgjaaGreatDoorQag
set_option linter.unusedSimpArgs false
set_option linter.unusedVariables false
namespace Go.Proofs.YtkhphiilnplgjaaGreatDoor
open Go.RowKit Go.Lib

set_option maxRecDepth 100000 in
set_option maxHeartbeats 1000000 in
theorem join_any (v u : Value) (l m : List Int) (w : World) (hv : IsY w v l) (hu : IsY w u m) (hl : l.length + m.length ≤ 140737488351232) : Calls Tryz.prog 28 #[v, u] w fun e w' =>
    ∃ r, e = .returned r ∧ IsY w' r (l ++ m) ∧ Below w.heap.size w w' := by
  obtain ⟨i0, hi, hz0, hz1, hz2⟩ := info_parts infoU8
  obtain ⟨p, cap, rfl, hc⟩ := hu.shape
  have hC := copy_own v l w hv (by omega)
  have HB := Lib.hid hv.byt
  have HV := Lib.hid hu
  clear hv hu
  go_enter Tryz.func28, Tryz.ntmps28
  go_wp2_with fail
  refine hC.mono ?_
  rintro e w1 ⟨r, rfl, hown, hb1⟩
  clear hC
  go_wp2_with fail
  go_loopw [5, 6] (fun u i wr => ∃ k : Nat, k ≤ m.length ∧ i = .int .i64 k ∧ wr.ownsRow w.heap.size 5 1 u (l ++ m.take k).length ((l ++ m.take k).map (Value.int .u8)) ∧ Below w.heap.size w wr) (fun _ i _ => m.length - (RowKit.intOf i).toNat)
  case atStart =>
    exact ⟨0, Nat.zero_le _, rfl, own_cast hown (by simp) (by simp), hb1⟩
  case round =>
    clear hown hb1
    obtain ⟨k, hk, rfl, hown, hbw⟩ := hrel
    by_cases hlt : k < m.length
    · obtain ⟨x, hx⟩ := get_of_lt hlt
      obtain ⟨b, o, rfl, hcell⟩ := (HV.out.grows hbw).at hx
      have HS := Lib.hid (show l ++ m.take (k + 1) = (l ++ m.take k) ++ [x] by rw [List.take_add_one, hx, List.append_assoc]; rfl)
      have hlen : (l ++ m.take k).length = l.length + k := by rw [List.length_append, List.length_take]; omega
      rw [hlen] at hown
      have HL := Lib.hid hlen
      clear hx hlen
      generalize l ++ m.take k = m1 at hown HS HL
      generalize hn : l.length + k = n at hown HL
      have HN := Lib.hid hn
      have hn2 : n ≤ 140737488351232 := by omega
      clear hn
      go_wp2_with (at_builtin; refine wpList_append_own _ rfl _ _ 22 rfl w.heap.size 5 i0 (.int .u8 0) 1 1 Tryz.underlying22 hi hz0 hz1 hz2 rfl (by decide) _ _ _ rfl (own_alloc hown _) ⟨wr.heap.size, 0, none⟩ 1 1 [.int .u8 x] rfl rfl (cell_one_new _ _ _) (by simp [Value.oneCell']) (by unfold maxLen; omega) (by omega) (by have := hbw.size; simp; omega) ?_; intro v' w2 hown2 hgrow _)
      go_roundw
      case rel =>
        have hg := own_ge hown
        exact ⟨k + 1, by omega, by go_num, by rw [HS.out]; exact own_cast hown2 (by simp [HL.out]) (by simp), (hbw.alloc hbw.size _).grown hgrow (by have := hbw.size; simp; omega) hg⟩
      case measure => simp [RowKit.intOf]; omega
    · obtain rfl : k = m.length := by omega
      rw [List.take_length] at hown
      go_wp2
      go_ret
      exact ⟨_, rfl, own_isY (HB.out.append HV.out.byt) hown, hbw⟩

def eqY (l m : List Int) : Bool := decide (l = m)
theorem eqY_iff {l m : List Int} : eqY l m = true ↔ l = m := by unfold eqY; exact decide_eq_true_iff
theorem same_str {l m : List Int} (hl : Byt l) (hm : Byt m) : ((strOfNums l).toList == (strOfNums m).toList) = eqY l m := by
  unfold eqY
  rw [ByteArray.toList_eq, ByteArray.toList_eq]
  by_cases h : l = m
  · subst h; simp
  · rw [decide_eq_false h, beq_eq_false_iff_ne]
    exact fun e => h (str_inj hl hm (ByteArray.ext (Array.toList_inj.1 e)))
set_option maxHeartbeats 400000 in
theorem same_any (v u : Value) (l m : List Int) (w : World) (hv : IsY w v l) (hu : IsY w u m) : Calls Tryz.prog 18 #[v, u] w fun e w' => e = .returned (.bool (eqY l m)) ∧ w = w' := by
  have k1 := isY_str hv
  have k2 := isY_str hu
  have HS := Lib.hid (same_str hv.byt hu.byt)
  clear hv hu
  go_enter Tryz.func18, Tryz.ntmps18
  go_wp2
  go_ret
  exact ⟨ret_bool HS.out, rfl⟩

theorem addr_add0 (a : Addr) : a.add 0 = a := by cases a; unfold Addr.add; split <;> simp_all
theorem slice_to (p : Option Addr) (n cap k : Nat) (hk : k ≤ cap) (w : World) : (Instr.slice 22 (.slice p n cap) none (some (.int .i64 (k : Int))) none).run Tryz.prog w = .ok (.slice p k cap) w := by
  have ht' : Tryz.prog.underlying 22 = some (.slice (Tryz.prog.elem 22)) := by kernel_rfl
  have he : Tryz.prog.elem 22 = 5 := by kernel_rfl
  rw [run_slice_h w 22 _ _ _ ht' .i64 _ (by omega) (by omega), he, size_u8]
  simp only [Result.andThen, sliced, Nat.zero_mul, Int.toNat_natCast, Nat.sub_zero]
  cases p with
  | none => simp
  | some a => simp [addr_add0]
theorem slice_from (p : Option Addr) (n cap k : Nat) (hk : k ≤ n) (w : World) : (Instr.slice 22 (.slice p n cap) (some (.int .i64 (k : Int))) none none).run Tryz.prog w = .ok (.slice (tailA p cap k) (n - k) (cap - k)) w := by
  have ht' : Tryz.prog.underlying 22 = some (.slice (Tryz.prog.elem 22)) := by kernel_rfl
  have he : Tryz.prog.elem 22 = 5 := by kernel_rfl
  rw [run_slice_l w 22 _ _ _ ht' .i64 _ (by omega) (by omega), he, size_u8]
  simp only [Result.andThen, sliced, tailA, Nat.mul_one, Int.toNat_natCast]
theorem slice_lh (p : Option Addr) (n cap k h : Nat) (hk : k ≤ h) (hh : h ≤ cap) (w : World) : (Instr.slice 22 (.slice p n cap) (some (.int .i64 (k : Int))) (some (.int .i64 (h : Int))) none).run Tryz.prog w = .ok (.slice (tailA p cap k) (h - k) (cap - k)) w := by
  have ht' : Tryz.prog.underlying 22 = some (.slice (Tryz.prog.elem 22)) := by kernel_rfl
  have he : Tryz.prog.elem 22 = 5 := by kernel_rfl
  rw [run_slice_lh w 22 _ _ _ ht' .i64 .i64 _ _ (by omega) (by omega) (by omega), he, size_u8]
  simp only [Result.andThen, sliced, tailA, Nat.mul_one, Int.toNat_natCast]
theorem IsY.mid {w : World} {p : Option Addr} {n cap : Nat} {l : List Int} (h : IsY w (.slice p n cap) l) (k m : Nat) (hk : k ≤ m) (hm : m ≤ l.length) : IsY w (.slice (tailA p cap k) (m - k) (cap - k)) ((l.take m).drop k) :=
  (h.take m hm).drop k (by rw [List.length_take]; omega)
set_option maxHeartbeats 400000 in
theorem small_any (p : Option Addr) (cap n : Nat) (l : List Int) (w : World) (hv : IsY w (.slice p l.length cap) l) (hn : n ≤ 1000000) (hl : l.length ≤ 140737488351232) : Calls Tryz.prog 21 #[.slice p l.length cap, .int .i64 (n : Int)] w fun e w' =>
    e = .returned (.slice p (min l.length n) cap) ∧ w = w' := by
  obtain ⟨p', cap', e, hc⟩ := hv.shape
  simp only [Value.slice.injEq] at e
  obtain ⟨rfl, -, rfl⟩ := e
  clear hv
  by_cases h : l.length ≤ n
  · have hm : min (l.length : Int) (n : Int) = (l.length : Int) := by omega
    have hm2 : min l.length n = l.length := by omega
    have hsl := slice_to p l.length cap l.length hc
    rw [hm2]
    go_enter Tryz.func21, Tryz.ntmps21
    go_wp2
    go_ret
    exact ⟨rfl, rfl⟩
  · have hm : min (l.length : Int) (n : Int) = (n : Int) := by omega
    have hm2 : min l.length n = n := by omega
    have hsl := slice_to p l.length cap n (by omega)
    rw [hm2]
    go_enter Tryz.func21, Tryz.ntmps21
    go_wp2
    go_ret
    exact ⟨rfl, rfl⟩
end Go.Proofs.YtkhphiilnplgjaaGreatDoor

namespace Go.Proofs.YtkhphiilnplgjaaGreatDoor
open Go.RowKit Go.Lib

theorem at_iff {old b : List Int} {i : Nat} : old.isPrefixOf (b.drop i) = true ↔ ∀ k, k < old.length → b[i + k]? = old[k]? := by
  rw [List.isPrefixOf_iff_prefix, List.prefix_iff_eq_take]
  constructor
  · intro h k hk
    have h2 := congrArg (fun q => q[k]?) h
    simp only [List.getElem?_take, List.getElem?_drop] at h2
    rw [if_pos hk] at h2
    exact h2.symm
  · intro h
    apply List.ext_getElem?
    intro k
    rw [List.getElem?_take, List.getElem?_drop]
    split
    · rename_i hk; exact (h k hk).symm
    · rename_i hk; exact List.getElem?_eq_none (by omega)
theorem at_no {old b : List Int} {i : Nat} (h : b.length < i + old.length) (h0 : 0 < old.length) : old.isPrefixOf (b.drop i) = false := by
  rw [Bool.eq_false_iff]
  intro h2
  have h3 := at_iff.1 h2 (old.length - 1) (by omega)
  rw [List.getElem?_eq_none (by omega), List.getElem?_eq_getElem (by omega)] at h3
  cases h3
/-- the word stands at this index. -/
def atB (old b : List Int) (i : Nat) : Bool := old.isPrefixOf (b.drop i)
def AgreeY (old b : List Int) (i k : Nat) : Prop := ∀ j, j < k → b[i + j]? = old[j]?
set_option maxRecDepth 100000 in
set_option maxHeartbeats 1000000 in
theorem at_any (v u : Value) (old b : List Int) (i : Nat) (w : World) (hv : IsY w v old) (hu : IsY w u b) (ho : 0 < old.length) (hl : old.length ≤ 140737488351232) (hb : b.length ≤ 140737488351232) (hi : i ≤ 140737488351232) :
    Calls Tryz.prog 27 #[v, u, .int .i64 (i : Int)] w fun e w' => e = .returned (.bool (atB old b i)) ∧ Below w.heap.size w w' := by
  obtain ⟨p, cp, rfl, hcp⟩ := hv.shape
  obtain ⟨q, cq, rfl, hcq⟩ := hu.shape
  have HV := Lib.hid hv
  have HU := Lib.hid hu
  clear hv hu
  by_cases hlen : b.length < i + old.length
  · have hno : atB old b i = false := at_no hlen ho
    rw [hno]
    have hd : decide ((b.length : Int) < (i : Int) + (old.length : Int)) = true := by rw [decide_eq_true_iff]; omega
    clear hno
    go_enter Tryz.func27, Tryz.ntmps27
    go_wp2
    go_ret
    exact ⟨rfl, Below.refl _ _⟩
  · have hd : decide ((b.length : Int) < (i : Int) + (old.length : Int)) = false := by rw [decide_eq_false_iff_not]; omega
    go_enter Tryz.func27, Tryz.ntmps27
    go_wp2
    go_loopw [7] (fun kv wr => ∃ k : Nat, k ≤ old.length ∧ kv = .int .i64 k ∧ AgreeY old b i k ∧ Below w.heap.size w wr) (fun kv _ => old.length - (RowKit.intOf kv).toNat)
    case atStart => exact ⟨0, Nat.zero_le _, rfl, fun j hj => by omega, Below.refl _ _⟩
    case round =>
      obtain ⟨k, hk, rfl, hno, hbw⟩ := hrel
      have HN := Lib.hid hno
      clear hno
      by_cases hlt : k < old.length
      · obtain ⟨x, hx⟩ := get_of_lt hlt
        obtain ⟨y, hy⟩ := get_of_lt (l := b) (k := i + k) (by omega)
        obtain ⟨b1, o1, rfl, c1⟩ := (HV.out.grows hbw).at hx
        obtain ⟨b2, o2, rfl, c2⟩ := (HU.out.grows hbw).at hy
        have hxb := HV.out.byt.at hx
        have hyb := HU.out.byt.at hy
        have w1 : IntKind.i64.wrap ((i : Int) + (k : Int)) = ((i + k : Nat) : Int) := by rw [IntWalk.i64_in _ (by omega)]; omega
        have hdk : decide ((k : Int) < (old.length : Int)) = true := by rw [decide_eq_true_iff]; omega
        have HX := Lib.hid hx
        have HY := Lib.hid hy
        clear hx hy
        by_cases hxy : x = y
        · subst hxy
          go_wp2
          go_quiet (fail)
          go_wp2
          go_roundw
          case rel => exact ⟨k + 1, by omega, by go_num, fun j hj => by
            rcases Nat.lt_or_ge j k with h | h
            · exact HN.out j h
            · obtain rfl : j = k := by omega
              rw [HX.out, HY.out], below_drews hbw _⟩
          case measure => simp [RowKit.intOf]; omega
        · have HF := Lib.hid (show atB old b i = false by
            rw [Bool.eq_false_iff]; intro h
            have := at_iff.1 h k hlt
            rw [HX.out, HY.out, Option.some.injEq] at this
            exact hxy this.symm)
          have hne : (y != x) = true := by rw [bne_iff_ne]; exact fun e => hxy e.symm
          go_wp2
          go_quiet (fail)
          go_wp2
          go_ret
          exact ⟨ret_bool HF.out.symm, below_drews hbw _⟩
      · obtain rfl : k = old.length := by omega
        have HF := Lib.hid (show atB old b i = true from at_iff.2 HN.out)
        go_wp2
        go_ret
        exact ⟨ret_bool HF.out.symm, hbw⟩
def inB (l : List Int) (x : Int) : Bool := l.contains x
theorem in_no {l : List Int} {x : Int} (h : ∀ j, j < l.length → l[j]? ≠ some x) : inB l x = false := by
  unfold inB
  rw [Bool.eq_false_iff]
  intro h2
  rw [List.contains_iff_mem] at h2
  obtain ⟨j, hj, he⟩ := List.getElem_of_mem h2
  exact h j hj (by rw [List.getElem?_eq_getElem hj, he])
theorem in_yes {l : List Int} {x : Int} {j : Nat} (h : l[j]? = some x) : inB l x = true := by
  unfold inB
  rw [List.contains_iff_mem]
  exact List.mem_of_getElem? h
set_option maxRecDepth 100000 in
set_option maxHeartbeats 1000000 in
theorem in_any (v : Value) (l : List Int) (x : Int) (w : World) (hv : IsY w v l) (hl : l.length ≤ 140737488351232) (hx0 : 0 ≤ x ∧ x < 256) :
    Calls Tryz.prog 37 #[v, .int .u8 x] w fun e w' => e = .returned (.bool (inB l x)) ∧ Below w.heap.size w w' := by
  obtain ⟨p, cp, rfl, hcp⟩ := hv.shape
  have HV := Lib.hid hv
  clear hv
  go_enter Tryz.func37, Tryz.ntmps37
  go_wp2
  go_loopw [5] (fun kv wr => ∃ k : Nat, k ≤ l.length ∧ kv = .int .i64 k ∧ (∀ j, j < k → l[j]? ≠ some x) ∧ Below w.heap.size w wr) (fun kv _ => l.length - (RowKit.intOf kv).toNat)
  case atStart => exact ⟨0, Nat.zero_le _, rfl, fun j hj => by omega, Below.refl _ _⟩
  case round =>
    obtain ⟨k, hk, rfl, hno, hbw⟩ := hrel
    have HN := Lib.hid hno
    clear hno
    by_cases hlt : k < l.length
    · obtain ⟨y, hy⟩ := get_of_lt hlt
      obtain ⟨b1, o1, rfl, c1⟩ := (HV.out.grows hbw).at hy
      have HY := Lib.hid hy
      clear hy
      by_cases hxy : y = x
      · subst hxy
        have HF := Lib.hid (in_yes HY.out)
        go_wp2
        go_ret
        exact ⟨ret_bool HF.out.symm, hbw⟩
      · have hne : (y == x) = false := by rw [beq_eq_false_iff_ne]; exact hxy
        go_wp2
        go_roundw
        case rel => exact ⟨k + 1, by omega, by go_num, fun j hj => by
          rcases Nat.lt_or_ge j k with h | h
          · exact HN.out j h
          · obtain rfl : j = k := by omega
            rw [HY.out]
            simpa using hxy, hbw⟩
        case measure => simp [RowKit.intOf]; omega
    · obtain rfl : k = l.length := by omega
      have HF := Lib.hid (in_no HN.out)
      go_wp2
      go_ret
      exact ⟨ret_bool HF.out.symm, hbw⟩
set_option maxRecDepth 100000 in
set_option maxHeartbeats 1000000 in
theorem occurs_any (v : Value) (l : List Int) (x : Int) (w : World) (hv : IsY w v l) (hl : l.length ≤ 140737488351232) (hx0 : 0 ≤ x ∧ x < 256) :
    Calls Tryz.prog 29 #[v, .int .u8 x] w fun e w' => e = .returned (.bool (inB l x)) ∧ Below w.heap.size w w' := by
  obtain ⟨p, cp, rfl, hcp⟩ := hv.shape
  have HV := Lib.hid hv
  clear hv
  go_enter Tryz.func29, Tryz.ntmps29
  go_wp2
  go_loopw [5] (fun kv wr => ∃ k : Nat, k ≤ l.length ∧ kv = .int .i64 k ∧ (∀ j, j < k → l[j]? ≠ some x) ∧ Below w.heap.size w wr) (fun kv _ => l.length - (RowKit.intOf kv).toNat)
  case atStart => exact ⟨0, Nat.zero_le _, rfl, fun j hj => by omega, Below.refl _ _⟩
  case round =>
    obtain ⟨k, hk, rfl, hno, hbw⟩ := hrel
    have HN := Lib.hid hno
    clear hno
    by_cases hlt : k < l.length
    · obtain ⟨y, hy⟩ := get_of_lt hlt
      obtain ⟨b1, o1, rfl, c1⟩ := (HV.out.grows hbw).at hy
      have HY := Lib.hid hy
      clear hy
      by_cases hxy : y = x
      · subst hxy
        have HF := Lib.hid (in_yes HY.out)
        go_wp2
        go_ret
        exact ⟨ret_bool HF.out.symm, hbw⟩
      · have hne : (y == x) = false := by rw [beq_eq_false_iff_ne]; exact hxy
        go_wp2
        go_roundw
        case rel => exact ⟨k + 1, by omega, by go_num, fun j hj => by
          rcases Nat.lt_or_ge j k with h | h
          · exact HN.out j h
          · obtain rfl : j = k := by omega
            rw [HY.out]
            simpa using hxy, hbw⟩
        case measure => simp [RowKit.intOf]; omega
    · obtain rfl : k = l.length := by omega
      have HF := Lib.hid (in_no HN.out)
      go_wp2
      go_ret
      exact ⟨ret_bool HF.out.symm, hbw⟩
set_option maxHeartbeats 400000 in
theorem rhas8_any (x : BitVec 256) (b : Int) (w : World) (h0 : 0 ≤ b) (h1 : b < 256) :
    Calls Tryz.prog 41 #[.agg #[.int .u64 (wd x 0), .int .u64 (wd x 1), .int .u64 (wd x 2), .int .u64 (wd x 3)], .int .u8 b] w fun e w' => e = .returned (.bool (mem x b.toNat)) ∧ Below w.heap.size w w' := by
  have hq : b / 64 = 0 ∨ b / 64 = 1 ∨ b / 64 = 2 ∨ b / 64 = 3 := by omega
  rcases hq with hq | hq | hq | hq
  all_goals
    go_enter Tryz.func41, Tryz.ntmps41
    go_wp2
    go_returns
    refine ⟨ret_bool (has_and' x b h0 _ hq), ?_⟩
    go_grown
set_option maxHeartbeats 400000 in
theorem member8_any (x : BitVec 256) (b : Int) (w : World) (h0 : 0 ≤ b) (h1 : b < 256) :
    Calls Tryz.prog 30 #[.agg #[.int .u64 (wd x 0), .int .u64 (wd x 1), .int .u64 (wd x 2), .int .u64 (wd x 3)], .int .u8 b] w fun e w' => e = .returned (.bool (mem x b.toNat)) ∧ Below w.heap.size w w' := by
  have hq : b / 64 = 0 ∨ b / 64 = 1 ∨ b / 64 = 2 ∨ b / 64 = 3 := by omega
  rcases hq with hq | hq | hq | hq
  all_goals
    go_enter Tryz.func30, Tryz.ntmps30
    go_wp2
    go_returns
    refine ⟨ret_bool (has_and' x b h0 _ hq), ?_⟩
    go_grown
theorem hexI_spec (z : Int) : (48 ≤ z ∧ z ≤ 57 ∧ hexI z = z - 48) ∨ (97 ≤ z ∧ z ≤ 102 ∧ hexI z = z - 97 + 10) ∨ (65 ≤ z ∧ z ≤ 70 ∧ hexI z = z - 65 + 10) ∨ (¬ (48 ≤ z ∧ z ≤ 57) ∧ ¬ (97 ≤ z ∧ z ≤ 102) ∧ ¬ (65 ≤ z ∧ z ≤ 70) ∧ hexI z = -1) := by
  unfold hexI
  repeat' split <;> omega
set_option maxHeartbeats 1000000 in
theorem digit_any (z : Int) (w : World) (h0 : 0 ≤ z) (h1 : z < 256) :
    Calls Tryz.prog 52 #[.int .u8 z] w fun e w' => e = .returned (.int .i64 (hexI z)) ∧ w = w' := by
  rcases hexI_spec z with ⟨a1, a2, hr⟩ | ⟨a1, a2, hr⟩ | ⟨a1, a2, hr⟩ | ⟨a1, a2, a3, hr⟩
  · have HR := Lib.hid hr
    clear hr
    go_enter Tryz.func52, Tryz.ntmps52
    go_wp2
    go_ret
    exact ⟨ret_int HR.out.symm, rfl⟩
  · have HR := Lib.hid hr
    clear hr
    have d1 : decide (z ≤ 57) = false := by rw [decide_eq_false_iff_not]; omega
    go_enter Tryz.func52, Tryz.ntmps52
    go_wp2
    go_ret
    exact ⟨ret_int HR.out.symm, rfl⟩
  · have HR := Lib.hid hr
    clear hr
    have d1 : decide (z ≤ 57) = false := by rw [decide_eq_false_iff_not]; omega
    have d2 : decide (97 ≤ z) = false := by rw [decide_eq_false_iff_not]; omega
    go_enter Tryz.func52, Tryz.ntmps52
    go_wp2
    go_ret
    exact ⟨ret_int HR.out.symm, rfl⟩
  · have HR := Lib.hid hr
    clear hr
    go_enter Tryz.func52, Tryz.ntmps52
    go_wp2
    all_goals first | (exfalso; omega) | (go_ret; exact ⟨ret_int HR.out.symm, rfl⟩)
set_option maxHeartbeats 1000000 in
theorem letter_low (z : Int) (w : World) (h0 : 0 ≤ z) (h1 : z < 256) :
    Calls Tryz.prog 38 #[.int .u8 z, .int .u8 65, .int .u8 97] w fun e w' => e = .returned (.int .u8 (lowI z)) ∧ w = w' := by
  by_cases a : 65 ≤ z ∧ z ≤ 90
  · have HR := Lib.hid (show lowI z = z + 32 by unfold lowI; rw [if_pos a])
    obtain ⟨a1, a2⟩ := a
    go_enter Tryz.func38, Tryz.ntmps38
    go_wp2
    go_ret
    exact ⟨ret_int (by rw [HR.out]; omega), rfl⟩
  · have HR := Lib.hid (show lowI z = z by unfold lowI; rw [if_neg a])
    go_enter Tryz.func38, Tryz.ntmps38
    go_wp2
    all_goals first | (exfalso; omega) | (go_ret; exact ⟨ret_int HR.out.symm, rfl⟩)
set_option maxHeartbeats 1000000 in
theorem letter_up (z : Int) (w : World) (h0 : 0 ≤ z) (h1 : z < 256) :
    Calls Tryz.prog 38 #[.int .u8 z, .int .u8 97, .int .u8 65] w fun e w' => e = .returned (.int .u8 (upI z)) ∧ w = w' := by
  by_cases a : 97 ≤ z ∧ z ≤ 122
  · have HR := Lib.hid (show upI z = z - 32 by unfold upI; rw [if_pos a])
    obtain ⟨a1, a2⟩ := a
    go_enter Tryz.func38, Tryz.ntmps38
    go_wp2
    go_ret
    exact ⟨ret_int (by rw [HR.out]; omega), rfl⟩
  · have HR := Lib.hid (show upI z = z by unfold upI; rw [if_neg a])
    go_enter Tryz.func38, Tryz.ntmps38
    go_wp2
    all_goals first | (exfalso; omega) | (go_ret; exact ⟨ret_int HR.out.symm, rfl⟩)
end Go.Proofs.YtkhphiilnplgjaaGreatDoor

namespace Go.Proofs.YtkhphiilnplgjaaGreatDoor
open Go.RowKit Go.Lib

/-- the value is an operation with this kind and these bytes. -/
def IsOp (w : World) (v : Value) (k : Int) (old new : List Int) : Prop := ∃ vo vn, v = .agg #[.int .i64 k, vo, vn] ∧ IsY w vo old ∧ IsY w vn new
theorem IsOp.grows {w w' : World} {v : Value} {k : Int} {old new : List Int} (h : IsOp w v k old new) (hb : Below w.heap.size w w') : IsOp w' v k old new := by
  obtain ⟨vo, vn, rfl, h1, h2⟩ := h
  exact ⟨vo, vn, rfl, h1.grows hb, h2.grows hb⟩
theorem IsOp.shape {w : World} {v : Value} {k : Int} {old new : List Int} (h : IsOp w v k old new) :
    ∃ po co pn cn, v = .agg #[.int .i64 k, .slice po old.length co, .slice pn new.length cn] ∧ IsY w (.slice po old.length co) old ∧ IsY w (.slice pn new.length cn) new ∧ old.length ≤ co ∧ new.length ≤ cn := by
  obtain ⟨vo, vn, rfl, h1, h2⟩ := h
  obtain ⟨po, co, rfl, c1⟩ := h1.shape
  obtain ⟨pn, cn, rfl, c2⟩ := h2.shape
  exact ⟨po, co, pn, cn, rfl, h1, h2, c1, c2⟩
def errI (b : Bool) : Int := if b then 0 else 1
theorem valI_1 (k : Int) (old new : List Int) (h : k = 1 ∨ k = 2 ∨ k = 3 ∨ k = 4) : valI k old new = decide (old.length = 0 ∧ new.length = 0) := by unfold valI; rw [if_pos h]
theorem valI_5 (k : Int) (old new : List Int) (h : k = 5 ∨ k = 6) : valI k old new = decide (1 ≤ old.length ∧ old.length ≤ 4 ∧ new.length ≤ 4) := by unfold valI; rw [if_neg (by omega), if_pos h]
theorem valI_7 (old new : List Int) : valI 7 old new = decide (1 ≤ old.length ∧ old.length ≤ 8 ∧ new.length = 0) := by unfold valI; rw [if_neg (by omega), if_neg (by omega), if_pos rfl]
theorem valI_8 (old new : List Int) : valI 8 old new = decide (old.length = 1 ∧ new.length = 0) := by unfold valI; rw [if_neg (by omega), if_neg (by omega), if_neg (by omega), if_pos rfl]
theorem valI_no (k : Int) (old new : List Int) (h : ¬ (1 ≤ k ∧ k ≤ 8)) : valI k old new = false := by unfold valI; rw [if_neg (by omega), if_neg (by omega), if_neg (by omega), if_neg (by omega)]
theorem err_yes {b : Bool} (h : b = true) : (0 : Int) = errI b := by rw [h]; rfl
theorem err_no {b : Bool} (h : b = false) : (1 : Int) = errI b := by rw [h]; rfl
set_option maxRecDepth 100000 in
set_option maxHeartbeats 4000000 in
theorem rvalid_any (v : Value) (k : Int) (old new : List Int) (w : World) (hv : IsOp w v k old new) (ho : old.length ≤ 140737488351232) (hn : new.length ≤ 140737488351232) :
    Calls Tryz.prog 17 #[v] w fun e w' => e = .returned (.int .i64 (errI (valI k old new))) ∧ Below w.heap.size w w' := by
  obtain ⟨po, co, pn, cn, rfl, h1, h2, c1, c2⟩ := hv.shape
  clear hv h1 h2
  by_cases hk : 1 ≤ k ∧ k ≤ 8
  · have hks : (k = 1 ∨ k = 2 ∨ k = 3 ∨ k = 4) ∨ (k = 5 ∨ k = 6) ∨ k = 7 ∨ k = 8 := by omega
    clear hk
    rcases hks with h | h | rfl | rfl
    · have hV := valI_1 k old new h
      generalize old.length = a at hV ho c1 ⊢
      generalize new.length = b at hV hn c2 ⊢
      have HV := Lib.hid hV
      clear hV
      rcases h with rfl | rfl | rfl | rfl
      all_goals
        go_enter Tryz.func17, Tryz.ntmps17
        go_wp2
        all_goals
          go_ret
          refine ⟨ret_int ?_, by go_grown⟩
          first | (refine err_no ?_; rw [HV.out, decide_eq_false_iff_not]; omega) | (refine err_yes ?_; rw [HV.out, decide_eq_true_iff]; omega)
    · have hV := valI_5 k old new h
      generalize old.length = a at hV ho c1 ⊢
      generalize new.length = b at hV hn c2 ⊢
      have HV := Lib.hid hV
      clear hV
      rcases h with rfl | rfl
      all_goals
        go_enter Tryz.func17, Tryz.ntmps17
        go_wp2
        all_goals
          go_ret
          refine ⟨ret_int ?_, by go_grown⟩
          first | (refine err_no ?_; rw [HV.out, decide_eq_false_iff_not]; omega) | (refine err_yes ?_; rw [HV.out, decide_eq_true_iff]; omega)
    · have hV := valI_7 old new
      generalize old.length = a at hV ho c1 ⊢
      generalize new.length = b at hV hn c2 ⊢
      have HV := Lib.hid hV
      clear hV
      go_enter Tryz.func17, Tryz.ntmps17
      go_wp2
      all_goals
        go_ret
        refine ⟨ret_int ?_, by go_grown⟩
        first | (refine err_no ?_; rw [HV.out, decide_eq_false_iff_not]; omega) | (refine err_yes ?_; rw [HV.out, decide_eq_true_iff]; omega)
    · have hV := valI_8 old new
      generalize old.length = a at hV ho c1 ⊢
      generalize new.length = b at hV hn c2 ⊢
      have HV := Lib.hid hV
      clear hV
      go_enter Tryz.func17, Tryz.ntmps17
      go_wp2
      all_goals
        go_ret
        refine ⟨ret_int ?_, by go_grown⟩
        first | (refine err_no ?_; rw [HV.out, decide_eq_false_iff_not]; omega) | (refine err_yes ?_; rw [HV.out, decide_eq_true_iff]; omega)
  · have HV := Lib.hid (valI_no k old new hk)
    have e1 : (k == 1) = false := by rw [beq_eq_false_iff_ne]; omega
    have e2 : (k == 2) = false := by rw [beq_eq_false_iff_ne]; omega
    have e3 : (k == 3) = false := by rw [beq_eq_false_iff_ne]; omega
    have e4 : (k == 4) = false := by rw [beq_eq_false_iff_ne]; omega
    have e5 : (k == 5) = false := by rw [beq_eq_false_iff_ne]; omega
    have e6 : (k == 6) = false := by rw [beq_eq_false_iff_ne]; omega
    have e7 : (k == 7) = false := by rw [beq_eq_false_iff_ne]; omega
    have e8 : (k == 8) = false := by rw [beq_eq_false_iff_ne]; omega
    go_enter Tryz.func17, Tryz.ntmps17
    go_wp2
    go_ret
    exact ⟨ret_int (err_no HV.out), by go_grown⟩
end Go.Proofs.YtkhphiilnplgjaaGreatDoor
