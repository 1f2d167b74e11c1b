/-
  Walk: failing.
-/
import Derived.Test.YtmhhfommgdljkaaBx
set_option linter.unusedSimpArgs false
set_option linter.unusedVariables false
namespace Go.Proofs.Ytmhhfommgdljkaa
open Go.RowKit Go.Lib

theorem grd_take : ∀ {A : List Int} {b : List Iv} {k : Nat} {a : Int} {v : Iv}, A[k]? = some a → b[k]? = some v → grd (A.take (k + 1)) b = grd (A.take k) b + max (a * v.lo) (a * v.hi)
  | [], _, _, _, _, h, _ => by simp at h
  | _ :: _, [], _, _, _, _, h => by simp at h
  | b :: A, z :: x, 0, a, y, h1, h2 => by simp at h1 h2; subst h1; subst h2; simp [grd]
  | b :: A, z :: x, k + 1, a, y, h1, h2 => by
    simp only [List.take_succ_cons, grd]
    rw [grd_take (by simpa using h1) (by simpa using h2)]; omega
theorem grd_cut : ∀ {A : List Int} {b : List Iv} {n : Nat}, A.length ≤ n → grd A (b.take n) = grd A b
  | [], _, _, _ => by simp [grd]
  | _ :: _, [], _, _ => by simp [grd]
  | a :: A, v :: b, 0, h => by simp at h
  | a :: A, v :: b, n + 1, h => by simp only [List.take_succ_cons, grd]; rw [grd_cut (by simpa using h)]
theorem mul_bd {a y : Int} (h : -1000 ≤ a ∧ a ≤ 1000) (k : 0 ≤ y ∧ y ≤ 64) : -64000 ≤ a * y ∧ a * y ≤ 64000 := by
  rcases Int.le_total 0 a with h0 | h0
  · have h1 := Int.mul_le_mul_of_nonneg_left k.2 h0
    have h2 := Int.mul_le_mul_of_nonneg_left k.1 h0
    omega
  · have h1 := Int.mul_le_mul_of_nonpos_left h0 k.2
    have h2 := Int.mul_le_mul_of_nonpos_left h0 k.1
    omega
theorem grd_bound : ∀ {A : List Int} {b : List Iv} {k : Nat}, (∀ a ∈ A, -1000 ≤ a ∧ a ≤ 1000) → Full b → -(64000 * (k : Int)) ≤ grd (A.take k) b ∧ grd (A.take k) b ≤ 64000 * (k : Int)
  | [], _, _, _, _ => by simp [grd]; omega
  | _ :: _, [], _, _, _ => by simp [grd]; omega
  | b :: A, z :: x, 0, _, _ => by simp [grd]
  | b :: A, z :: x, k + 1, h1, h2 => by
    simp only [List.take_succ_cons, grd]
    have hz := h2 z (by simp)
    have q1 := mul_bd (h1 b (by simp)) (show 0 ≤ z.lo ∧ z.lo ≤ 64 by omega)
    have q2 := mul_bd (h1 b (by simp)) (show 0 ≤ z.hi ∧ z.hi ≤ 64 by omega)
    have ih := grd_bound (A := A) (b := x) (k := k) (fun a ha => h1 a (by simp [ha])) (fun y hy => h2 y (by simp [hy]))
    push_cast
    omega
/-- failing's answer. -/
def failI (rs : List Rw) (b : List Iv) : Int := if failK rs b < rs.length then (failK rs b : Int) else -1
set_option maxRecDepth 100000 in
set_option maxHeartbeats 2000000 in
theorem failing_any (v : Value) (rs : List Rw) (B : List Iv) (n : Nat) (w : World) (hv : IsRs w v rs) (hB : B.length = 12) (hn : n ≤ 12) (hF : Full (B.take n)) (hl : rs.length ≤ 1000) (hr : ∀ r ∈ rs, okRow n r = true) :
    Calls Try.prog 32 #[v, .agg (boxA B)] w fun e w' => e = .returned (.int .i64 (failI rs (B.take n))) ∧ Below w.heap.size w w' := by
  obtain ⟨p, cp, rfl, hcp⟩ := hv.shape
  have HR := Lib.hid (fun W (hW : Below w.heap.size w W) => hv.grows hW)
  clear hv
  have HO := Lib.hid hr
  have HF := Lib.hid hF
  clear hr hF
  have hbw1 : Below w.heap.size w (w.alloc (.cells (boxA B) 58)) := by go_grown
  have D1 : BxAt (w.alloc (.cells (boxA B) 58)) w.heap.size B := ⟨Blk.new w (boxA B) 58, hB⟩
  have HD := Lib.hid D1
  have HW := Lib.hid hbw1
  clear D1 hbw1
  go_enter Try.func32, Try.ntmps32
  go_wp2
  generalize (w.alloc (.cells (boxA B) 58)) = w1 at HD HW ⊢
  go_loopw [12] (fun kv wr => ∃ k : Nat, k ≤ rs.length ∧ kv = .int .i64 k ∧ (∀ (j : Nat) (q : Rw), j < k → rs[j]? = some q → 0 ≤ gr q (B.take n)) ∧ Below w1.heap.size w1 wr) (fun kv _ => rs.length - (RowKit.intOf kv).toNat)
  case atStart => exact ⟨0, Nat.zero_le _, rfl, fun j y hj => by omega, Below.refl _ _⟩
  case round =>
    obtain ⟨k, hk, rfl, hno, hbw⟩ := hrel
    have HN := Lib.hid hno
    have HW2 := Lib.hid hbw
    clear hno
    by_cases hlt : k < rs.length
    · obtain ⟨r, hx⟩ := get_of_lt hlt
      obtain ⟨b2, o2, u, rfl, cx, cy, hu⟩ := (HR.out _ (below_two HW.out hbw)).at hx
      have hok := okRow_iff.1 (HO.out r (List.mem_of_getElem? hx))
      have hwi := within_iff.1 hok.2
      obtain ⟨pu, cu, rfl, hcu⟩ := hu.shape
      have HX := Lib.hid hx
      have HA := Lib.hid hwi.1
      obtain ⟨hC1, hC2⟩ := hwi.2
      have hlen : r.A.length ≤ 12 := by rw [hok.1]; exact hn
      have HLen := Lib.hid hok.1
      have hbw3 : Below wr.heap.size wr (wr.alloc (.cells #[.slice pu r.A.length cu, .int .i64 r.C] 37)) := by go_grown
      have HU3 := Lib.hid (hu.grows hbw3)
      have HD3 := Lib.hid ((HD.out.grows hbw).grows hbw3)
      have HW3 := Lib.hid (below_two hbw hbw3)
      have HWW := Lib.hid (below_two HW.out (below_two hbw hbw3))
      clear hx hwi hok hu hbw3 hbw
      go_wp2
      generalize (wr.alloc (.cells #[.slice pu r.A.length cu, .int .i64 r.C] 37)) = w3 at HU3 HD3 HW3 HWW ⊢
      clear HW2
      obtain ⟨wo, rfl⟩ : ∃ wo : World, wo = wr := ⟨_, rfl⟩
      go_loopw [7, 22] (fun sv iv wr => ∃ i : Nat, i ≤ r.A.length ∧ iv = .int .i64 i ∧ sv = .int .i64 (r.C + grd (r.A.take i) (B.take n)) ∧ ∃ q, wr = w3.drewN q) (fun _ iv _ => r.A.length - (RowKit.intOf iv).toNat)
      case atStart => exact ⟨0, Nat.zero_le _, rfl, by simp [grd], 0, rfl⟩
      case round =>
        obtain ⟨i, hi, rfl, rfl, q, rfl⟩ := hrel
        have hgb := grd_bound (k := i) HA.out HF.out
        obtain ⟨hgb1, hgb2⟩ := hgb
        have hlen2 := HLen.out
        by_cases hil : i < r.A.length
        · obtain ⟨a, ha⟩ := get_of_lt hil
          obtain ⟨b5, o5, rfl, ca⟩ := HU3.out.at ha
          obtain ⟨iv, hiv⟩ := get_of_lt (l := B) (k := i) (by omega)
          obtain ⟨x0, x1, x2, x3⟩ := HD3.out.cells hiv
          have hivt : (B.take n)[i]? = some iv := by rw [List.getElem?_take_of_lt (by omega)]; exact hiv
          have hivf := HF.out iv (List.mem_of_getElem? hivt)
          have HS := Lib.hid (grd_take ha hivt)
          have q1 := mul_bd (HA.out a (List.mem_of_getElem? ha)) (show 0 ≤ iv.lo ∧ iv.lo ≤ 64 by omega)
          have q2 := mul_bd (HA.out a (List.mem_of_getElem? ha)) (show 0 ≤ iv.hi ∧ iv.hi ≤ 64 by omega)
          obtain ⟨q11, q12⟩ := q1
          obtain ⟨q21, q22⟩ := q2
          clear ha hiv hivt hivf hlen2 HLen
          generalize grd (r.A.take i) (B.take n) = S at hgb1 hgb2 HS ⊢
          have hi12 : i ≤ 12 := by omega
          have i12 : i < 12 := by omega
          have i12' : (i : Int) < 12 := by omega
          have hw1 : IntKind.i64.wrap (a * iv.lo) = a * iv.lo := IntWalk.i64_in _ (by omega)
          have hw2 : IntKind.i64.wrap (a * iv.hi) = a * iv.hi := IntWalk.i64_in _ (by omega)
          have hw3 : IntKind.i64.wrap (r.C + S + max (a * iv.lo) (a * iv.hi)) = r.C + S + max (a * iv.lo) (a * iv.hi) := IntWalk.i64_in _ (by omega)
          go_wp2
          go_quiet (fail)
          go_wp2
          go_roundw
          case rel =>
            have em : (if a * iv.lo < a * iv.hi then a * iv.hi else a * iv.lo) = max (a * iv.lo) (a * iv.hi) := by split <;> omega
            exact ⟨i + 1, by omega, by go_num, by rw [HS.out, em]; go_num, _, rfl⟩
          case measure => simp [RowKit.intOf]; omega
        · have HG := Lib.hid (show gr r (B.take n) = r.C + grd (r.A.take i) (B.take n) by unfold gr; rw [show r.A.take i = r.A from List.take_of_length_le (by omega)])
          generalize grd (r.A.take i) (B.take n) = S at hgb1 hgb2 HG ⊢
          have i12 : i ≤ 12 := by omega
          obtain rfl : i = r.A.length := by omega
          by_cases hneg : r.C + S < 0
          · have HI := Lib.hid (show failI rs (B.take n) = (k : Int) by
              have e := failK_eq HX.out (by rw [HG.out]; exact hneg) HN.out
              unfold failI; rw [e, if_pos hlt])
            clear hgb1 hgb2 hlen2
            go_wp2
            go_ret
            exact ⟨ret_int (by rw [HI.out]), below_drews HWW.out _⟩
          · clear hlen2
            go_wp2
            go_roundw
            case rel => exact ⟨k + 1, by omega, by go_num, fun j q hj hq => by
              rcases Nat.lt_or_ge j k with h | h
              · exact HN.out j q h hq
              · obtain rfl : j = k := by omega
                have := HX.out; rw [hq] at this; cases this; rw [HG.out]; omega, below_drews HW3.out _⟩
            case measure => simp [RowKit.intOf]; omega
    · have HI := Lib.hid (show failI rs (B.take n) = -1 by
        have e := failK_none (b := B.take n) (fun j q hq => HN.out j q (by have := lt_of_get hq; omega) hq)
        unfold failI; rw [e, if_neg (by omega)])
      obtain rfl : k = rs.length := by omega
      go_wp2
      go_ret
      exact ⟨ret_int (by rw [HI.out]), below_two HW.out HW2.out⟩
end Go.Proofs.Ytmhhfommgdljkaa
