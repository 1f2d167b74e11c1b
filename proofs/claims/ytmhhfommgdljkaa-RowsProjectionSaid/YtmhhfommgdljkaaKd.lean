/-
  Walks: sum and its closure.
-/
import Derived.Test.YtmhhfommgdljkaaKc
set_option linter.unusedSimpArgs false
set_option linter.unusedVariables false
namespace Go.Proofs.Ytmhhfommgdljkaa
open Go.RowKit Go.Lib

theorem addS_get {m : Int} {r acc : Rw} {i : Nat} {x a : Int} (hx : acc.A[i]? = some x) (ha : r.A[i]? = some a) : (addS m r acc).A[i]? = some (x + m * a) := by
  unfold addS
  simp only
  rw [List.getElem?_zipWith, hx, ha]
theorem cur_set {l L : List Int} {i : Nat} {y : Int} (hl : L.length = l.length) (hy : L[i]? = some y) : (L.take i ++ l.drop i).set i y = L.take (i + 1) ++ l.drop (i + 1) := by
  have hi := lt_of_get hy
  have e : (L.take i).length = i := by rw [List.length_take]; omega
  rw [take_snoc hy, List.set_append_right _ _ (by omega), e, Nat.sub_self]
  have : l.drop i = l[i]'(by omega) :: l.drop (i + 1) := List.drop_eq_getElem_cons (by omega)
  rw [this, List.set_cons_zero, List.append_assoc]; rfl
theorem cur_get {l L : List Int} {i : Nat} {x : Int} (hl : L.length = l.length) (hx : l[i]? = some x) : (L.take i ++ l.drop i)[i]? = some x := by
  have hi := lt_of_get hx
  have e : (L.take i).length = i := by rw [List.length_take]; omega
  rw [List.getElem?_append_right (by omega), e, Nat.sub_self, List.getElem?_drop]
  exact hx
theorem mul_in {m a : Int} (h : 0 ≤ m ∧ m ≤ 1000) (k : -1099511627776 ≤ a ∧ a ≤ 1099511627776) : -1099511627776000 ≤ m * a ∧ m * a ≤ 1099511627776000 := by
  have h1 : m * a ≤ m * 1099511627776 := Int.mul_le_mul_of_nonneg_left k.2 h.1
  have h2 : m * (-1099511627776) ≤ m * a := Int.mul_le_mul_of_nonneg_left k.1 h.1
  omega
/-- the running total. -/
structure Tot (w : World) (ta tb : Nat) (n : Nat) (acc : Rw) : Prop where
  row : Blk w tb #[.slice (some ⟨ta, 0, none⟩) n n, .int .i64 acc.C] 37
  ints : Blk w ta (intsA acc.A) 3
  len : acc.A.length = n
  ok : withinB acc big = true
theorem Tot.grows {w w' : World} {ta tb n : Nat} {acc : Rw} (h : Tot w ta tb n acc) (hb : Below w.heap.size w w') : Tot w' ta tb n acc := ⟨h.row.grows hb, h.ints.grows hb, h.len, h.ok⟩
set_option maxRecDepth 100000 in
set_option maxHeartbeats 2000000 in
theorem add_any (u : Value) (r acc : Rw) (m : Int) (n ta tb B : Nat) (w : World) (hT : Tot w ta tb n acc) (hU : ∀ W, Below B w W → IsI W u r.A) (hr : r.A.length = n) (hw : withinB r big = true) (hm : 0 ≤ m ∧ m ≤ 1000) (hn : n ≤ 1000) (hBa : B ≤ ta) (hBb : B ≤ tb) :
    Calls Try.prog 43 #[.agg #[u, .int .i64 r.C], .int .i64 m, .pointer (some ⟨tb, 0, none⟩)] w fun e w' =>
      e = .returned (.tuple #[]) ∧ Blk w' tb #[.slice (some ⟨ta, 0, none⟩) n n, .int .i64 (addS m r acc).C] 37 ∧ Blk w' ta (intsA (addS m r acc).A) 3 ∧ Below B w w' := by
  obtain ⟨p, cp, rfl, hcp⟩ := (hU w (Below.refl _ _)).shape
  obtain ⟨hrow, hints, hlen, hok⟩ := hT
  obtain ⟨hwa, hwc1, hwc2⟩ := within_iff.1 hw
  obtain ⟨haa, hac1, hac2⟩ := within_iff.1 hok
  unfold big at hwc1 hwc2 hac1 hac2
  obtain ⟨hm1, hm2⟩ := hm
  have hne : ta ≠ tb := fun e => by
    subst e
    have := hrow.is
    rw [hints.is] at this
    simp only [Option.some.injEq, Obj.cells.injEq] at this
    exact absurd this.2.1 (by decide)
  have hLl : (addS m r acc).A.length = acc.A.length := by simp [addS, hr, hlen]
  obtain ⟨hcm1, hcm2⟩ := mul_in ⟨hm1, hm2⟩ ⟨hwc1, hwc2⟩
  have HU := Lib.hid hU
  have HWa := Lib.hid hwa
  have HAa := Lib.hid haa
  have HLen := Lib.hid hlen
  have HR := Lib.hid hr
  have HLl := Lib.hid hLl
  have HRow := Lib.hid hrow
  have HIn := Lib.hid hints
  have HNe := Lib.hid hne
  have hrl : r.A.length ≤ 1000 := by omega
  have hb1 : Below w.heap.size w (w.alloc (.cells #[.slice p r.A.length cp, .int .i64 r.C] 37)) := by go_grown
  have D1 := Blk.new w #[.slice p r.A.length cp, .int .i64 r.C] 37
  have hwl := hrow.lt
  have hwl2 := hints.lt
  clear hwa haa hlen hr hLl hrow hints hne hw hok hcp
  go_enter Try.func43, Try.ntmps43
  go_wp2
  generalize (w.alloc (.cells #[.slice p r.A.length cp, .int .i64 r.C] 37)) = w1 at hb1 D1 ⊢
  have HD := Lib.hid D1
  have HB1 := Lib.hid (hb1.mono (show B ≤ w.heap.size by omega))
  have HR1 := Lib.hid (HRow.out.grows hb1)
  have HI1 := Lib.hid (HIn.out.grows hb1)
  clear hb1 D1
  go_loopw [10] (fun iv wr => ∃ i : Nat, i ≤ r.A.length ∧ iv = .int .i64 i ∧ Blk wr tb #[.slice (some ⟨ta, 0, none⟩) n n, .int .i64 acc.C] 37 ∧ Blk wr ta (intsA ((addS m r acc).A.take i ++ acc.A.drop i)) 3 ∧ Blk wr w.heap.size #[.slice p r.A.length cp, .int .i64 r.C] 37 ∧ Below B w wr) (fun iv _ => r.A.length - (RowKit.intOf iv).toNat)
  case atStart => exact ⟨0, Nat.zero_le _, rfl, HR1.out, by simpa using HI1.out, HD.out, HB1.out⟩
  case round =>
    obtain ⟨i, hi, rfl, hR, hI, hD, hb⟩ := hrel
    have hin : r.A.length = n := HR.out
    by_cases hlt : i < r.A.length
    · obtain ⟨a, ha⟩ := get_of_lt hlt
      obtain ⟨x, hx⟩ := get_of_lt (l := acc.A) (k := i) (by have := HLen.out; omega)
      obtain ⟨ab, ao, hpe, ca⟩ := (HU.out _ hb).at ha
      subst hpe
      have hxa := HAa.out x (List.mem_of_getElem? hx)
      have haw := HWa.out a (List.mem_of_getElem? ha)
      unfold big at hxa haw
      obtain ⟨x1, x2⟩ := hxa
      obtain ⟨ma1, ma2⟩ := mul_in (m := m) (a := a) ⟨hm1, hm2⟩ haw
      have HS := Lib.hid (cur_set HLl.out (addS_get (m := m) hx ha))
      have cx := hI.cell i (intsA_get (cur_get HLl.out hx))
      have gx := hI.free i
      have lx := hI.lt
      have r0 := hR.cell 0 rfl
      have HR2 := Lib.hid hR
      have HI2 := Lib.hid hI
      have HD2 := Lib.hid hD
      have HB2 := Lib.hid hb
      have hin2 : i < n := by omega
      have hw1 : IntKind.i64.wrap (m * a) = m * a := IntWalk.i64_in _ (by omega)
      clear hx ha hR hI hD hb haw hin
      go_wp2
      go_roundw
      case rel => exact ⟨i + 1, by omega, by go_num, HR2.out.other (by show _ ≠ ta; exact Ne.symm HNe.out) _, by rw [← HS.out, ← intsA_set]; exact HI2.out.set i _, HD2.out.other (by show _ ≠ ta; omega) _, HB2.out.setCell (p := ⟨ta, i, none⟩) hBa _⟩
      case measure => simp [RowKit.intOf]; omega
    · have HE := Lib.hid (show (addS m r acc).A.take i ++ acc.A.drop i = (addS m r acc).A by
        rw [List.drop_eq_nil_of_le (by have := HLen.out; omega), List.append_nil, List.take_of_length_le (by have := HLl.out; have := HLen.out; omega)])
      rw [HE.out] at hI
      have r1 := hR.cell 1 rfl
      have g1 := hR.free 1
      have l1 := hR.lt
      have d1 := hD.cell 1 rfl
      have HR2 := Lib.hid hR
      have HI2 := Lib.hid hI
      have HB2 := Lib.hid hb
      have hw1 : IntKind.i64.wrap (m * r.C) = m * r.C := IntWalk.i64_in _ (by omega)
      clear hR hI hD hb hin
      go_wp2
      go_end0
      exact ⟨rfl, HR2.out.set 1 _, HI2.out.other (by show _ ≠ tb; exact HNe.out) _, HB2.out.setCell (p := ⟨tb, 1, none⟩) hBb _⟩
end Go.Proofs.Ytmhhfommgdljkaa
