/-
  Boxes: twelve intervals as 48 cells.
-/
import Derived.Test.YtmhhfommgdljkaaVd
import Derived.Laws.Rows
set_option linter.unusedSimpArgs false
set_option linter.unusedVariables false
namespace Go.Proofs.Ytmhhfommgdljkaa
open Go.RowKit Go.Lib

def ivC (v : Iv) : List Value := [.int .i64 v.lo, .int .i64 v.hi, .int .i64 v.lr, .int .i64 v.hr]
def boxL : List Iv → List Value
  | [] => []
  | v :: B => .int .i64 v.lo :: .int .i64 v.hi :: .int .i64 v.lr :: .int .i64 v.hr :: boxL B
def boxA (B : List Iv) : Array Value := (boxL B).toArray
theorem boxL_length : ∀ B : List Iv, (boxL B).length = 4 * B.length
  | [] => rfl
  | v :: B => by simp only [boxL, List.length_cons, boxL_length B]; omega
theorem boxA_size (B : List Iv) : (boxA B).size = 4 * B.length := by simp [boxA, boxL_length]
theorem boxL_at : ∀ {B : List Iv} {i : Nat} {v : Iv}, B[i]? = some v → (boxL B)[i * 4]? = some (.int .i64 v.lo) ∧ (boxL B)[i * 4 + 1]? = some (.int .i64 v.hi) ∧ (boxL B)[i * 4 + 2]? = some (.int .i64 v.lr) ∧ (boxL B)[i * 4 + 3]? = some (.int .i64 v.hr)
  | [], _, _, h => by simp at h
  | u :: B, 0, v, h => by simp at h; subst h; simp [boxL]
  | u :: B, i + 1, v, h => by
    have ih := boxL_at (B := B) (i := i) (v := v) (by simpa using h)
    have e : (i + 1) * 4 = i * 4 + 1 + 1 + 1 + 1 := by omega
    rw [e]
    simp only [boxL, List.getElem?_cons_succ, show i * 4 + 1 + 1 + 1 + 1 + 1 = (i * 4 + 1) + 1 + 1 + 1 + 1 from rfl, show i * 4 + 1 + 1 + 1 + 1 + 2 = (i * 4 + 2) + 1 + 1 + 1 + 1 from rfl, show i * 4 + 1 + 1 + 1 + 1 + 3 = (i * 4 + 3) + 1 + 1 + 1 + 1 from rfl]
    exact ih
theorem boxL_set : ∀ {B : List Iv} {i : Nat} {v : Iv} (x : Int), B[i]? = some v →
    (boxL B).set (i * 4) (.int .i64 x) = boxL (B.set i { v with lo := x }) ∧ (boxL B).set (i * 4 + 1) (.int .i64 x) = boxL (B.set i { v with hi := x }) ∧ (boxL B).set (i * 4 + 2) (.int .i64 x) = boxL (B.set i { v with lr := x }) ∧ (boxL B).set (i * 4 + 3) (.int .i64 x) = boxL (B.set i { v with hr := x })
  | [], _, _, _, h => by simp at h
  | u :: B, 0, v, x, h => by simp at h; subst h; simp [boxL]
  | u :: B, i + 1, v, x, h => by
    have ih := boxL_set (B := B) (i := i) (v := v) x (by simpa using h)
    have e : (i + 1) * 4 = i * 4 + 1 + 1 + 1 + 1 := by omega
    rw [e]
    simp only [boxL, List.set_cons_succ, show i * 4 + 1 + 1 + 1 + 1 + 1 = (i * 4 + 1) + 1 + 1 + 1 + 1 from rfl, show i * 4 + 1 + 1 + 1 + 1 + 2 = (i * 4 + 2) + 1 + 1 + 1 + 1 from rfl, show i * 4 + 1 + 1 + 1 + 1 + 3 = (i * 4 + 3) + 1 + 1 + 1 + 1 from rfl, List.cons.injEq, true_and]
    exact ih
theorem boxA_get {B : List Iv} {i : Nat} {v : Iv} (h : B[i]? = some v) : (boxA B)[i * 4]? = some (.int .i64 v.lo) ∧ (boxA B)[i * 4 + 1]? = some (.int .i64 v.hi) ∧ (boxA B)[i * 4 + 2]? = some (.int .i64 v.lr) ∧ (boxA B)[i * 4 + 3]? = some (.int .i64 v.hr) := by
  simpa [boxA] using boxL_at h
theorem boxA_set {B : List Iv} {i : Nat} {v : Iv} (x : Int) (h : B[i]? = some v) : (boxA B).setIfInBounds (i * 4) (.int .i64 x) = boxA (B.set i { v with lo := x }) ∧ (boxA B).setIfInBounds (i * 4 + 1) (.int .i64 x) = boxA (B.set i { v with hi := x }) ∧ (boxA B).setIfInBounds (i * 4 + 2) (.int .i64 x) = boxA (B.set i { v with lr := x }) ∧ (boxA B).setIfInBounds (i * 4 + 3) (.int .i64 x) = boxA (B.set i { v with hr := x }) := by
  have := boxL_set x h
  simp only [boxA, List.setIfInBounds_toArray]
  exact ⟨by rw [this.1], by rw [this.2.1], by rw [this.2.2.1], by rw [this.2.2.2]⟩
/-- the block of a box. -/
def BxAt (w : World) (g : Nat) (B : List Iv) : Prop := Blk w g (boxA B) 58 ∧ B.length = 12
theorem BxAt.cells {w : World} {g : Nat} {B : List Iv} (h : BxAt w g B) {i : Nat} {v : Iv} (hv : B[i]? = some v) :
    w.cell? ⟨g, i * 4, none⟩ = some (.int .i64 v.lo) ∧ w.cell? ⟨g, i * 4 + 1, none⟩ = some (.int .i64 v.hi) ∧ w.cell? ⟨g, i * 4 + 2, none⟩ = some (.int .i64 v.lr) ∧ w.cell? ⟨g, i * 4 + 3, none⟩ = some (.int .i64 v.hr) := by
  have := boxA_get hv
  exact ⟨h.1.cell _ this.1, h.1.cell _ this.2.1, h.1.cell _ this.2.2.1, h.1.cell _ this.2.2.2⟩
theorem BxAt.grows {w w' : World} {g : Nat} {B : List Iv} (h : BxAt w g B) (hb : Below w.heap.size w w') : BxAt w' g B := ⟨h.1.grows hb, h.2⟩
theorem BxAt.load {w : World} {g : Nat} {B : List Iv} (h : BxAt w g B) : (loadVar 58 ⟨g, 0, none⟩).run Try.prog w = .ok (.agg (boxA B)) w :=
  run_loadVar_row w g _ _ _ _ _ h.1.is Try.underlying58 rfl (by rw [boxA_size, h.2]; kernel_rfl)
theorem slice12 (g n : Nat) (hn : n ≤ 12) (w : World) : (Instr.sliceAt 58 (.pointer (some ⟨g, 0, none⟩)) none (some (.int .i64 (n : Int))) none).run Try.prog w = .ok (.slice (some ⟨g, 0, none⟩) n 12) w := by
  have hl : Try.prog.arrayLen 58 = 12 := by kernel_rfl
  have hs : (Go.sizeOf (Try.prog.elem 58)).run Try.prog w = .ok 4 w := by kernel_rfl
  rw [run_sliceAt_array_h w 58 ⟨g, 0, none⟩ (by kernel_rfl) .i64 (n : Int) (by omega) (by rw [hl]; omega), hs, hl]
  simp only [Result.andThen_ok, slicedAt, Int.toNat_natCast]
  simp [Addr.add]
set_option maxRecDepth 100000 in
set_option maxHeartbeats 2000000 in
theorem open_any (B : List Iv) (n : Nat) (w : World) (hB : B.length = 12) (hn : n ≤ 12) :
    Calls Try.prog 34 #[.agg (boxA B), .int .i64 n] w fun e w' => e = .returned (.int .i64 ((openK (B.take n) : Nat) : Int)) ∧ Below w.heap.size w w' := by
  have hs := slice12 w.heap.size n hn
  have hbw1 : Below w.heap.size w (w.alloc (.cells (boxA B) 58)) := by go_grown
  have D1 : BxAt (w.alloc (.cells (boxA B) 58)) w.heap.size B := ⟨Blk.new w (boxA B) 58, hB⟩
  have HD := Lib.hid D1
  have HW := Lib.hid hbw1
  clear D1 hbw1
  go_enter Try.func34, Try.ntmps34
  go_wp2
  go_loopw [10] (fun kv wr => ∃ k : Nat, k ≤ n ∧ kv = .int .i64 k ∧ (∀ (j : Nat) (q : Iv), j < k → (B.take n)[j]? = some q → q.hi ≤ q.lo) ∧ Below (w.alloc (.cells (boxA B) 58)).heap.size (w.alloc (.cells (boxA B) 58)) wr) (fun kv _ => n - (RowKit.intOf kv).toNat)
  case atStart => exact ⟨0, Nat.zero_le _, rfl, fun j y hj => by omega, Below.refl _ _⟩
  case round =>
    obtain ⟨k, hk, rfl, hno, hbw⟩ := hrel
    have HN := Lib.hid hno
    have HW2 := Lib.hid hbw
    clear hno hs
    by_cases hlt : k < n
    · obtain ⟨v, hv⟩ := get_of_lt (l := B) (k := k) (by omega)
      obtain ⟨x0, x1, x2, x3⟩ := (HD.out.grows hbw).cells hv
      have HV := Lib.hid (show (B.take n)[k]? = some v by rw [List.getElem?_take_of_lt hlt]; exact hv)
      clear hv hbw
      by_cases ho : v.lo < v.hi
      · have HF := Lib.hid (openK_eq HV.out ho HN.out)
        go_wp2
        go_ret
        exact ⟨ret_int (by rw [HF.out]), (HW.out.trans (HW2.out.mono (by simp))).alloc (HW.out.trans (HW2.out.mono (by simp))).size _⟩
      · go_wp2
        go_roundw
        case rel => exact ⟨k + 1, by omega, by go_num, fun j q hj hq => by
          rcases Nat.lt_or_ge j k with h | h
          · exact HN.out j q h hq
          · obtain rfl : j = k := by omega
            have := HV.out; rw [hq] at this; cases this; omega, HW2.out.alloc HW2.out.size _⟩
        case measure => simp [RowKit.intOf]; omega
    · obtain rfl : k = n := by omega
      have HF := Lib.hid (show openK (B.take k) = k by
        rw [openK_none (b := B.take k) (fun j q hq => HN.out j q (by have := lt_of_get hq; rw [List.length_take] at this; omega) hq), List.length_take]; omega)
      go_wp2
      go_ret
      exact ⟨ret_int (by rw [HF.out]), HW.out.trans (HW2.out.mono (by simp))⟩
end Go.Proofs.Ytmhhfommgdljkaa
