/-
  Walks: rows of booleans compared, copied, joined.
-/
import Derived.Test.YtepncbbegpeilaaDoorVa
import Derived.Laws.AppendOwnNone
set_option linter.unusedSimpArgs false
set_option linter.unusedVariables false
namespace Go.Proofs.YtepncbbegpeilaaDoor
open Go.RowKit

def AgreeB (l m : List Bool) (k : Nat) : Prop := ∀ j, j < k → l.getD j false = m.getD j false
theorem eq_of_agreeB {l m : List Bool} (hl : l.length = m.length) (h : AgreeB l m l.length) : l = m := by
  apply List.ext_getElem hl
  intro j h1 h2
  have := h j h1
  simp only [List.getD_eq_getElem?_getD, List.getElem?_eq_getElem h1, List.getElem?_eq_getElem h2, Option.getD_some] at this
  exact this
/-- are the two equal? -/
def sameB (l m : List Bool) : Bool := decide (l = m)
theorem sameB_no {l m : List Bool} {k : Nat} (h : l.getD k false ≠ m.getD k false) : sameB l m = false := decide_eq_false fun e => h (by rw [e])
set_option maxRecDepth 100000 in
set_option maxHeartbeats 1000000 in
theorem equal_any (v u : Value) (l m : List Bool) (w : World) (hv : IsB w v l) (hu : IsB w u m) (hl : l.length ≤ 1152921504606846976) (hm : m.length ≤ 1152921504606846976) :
    Calls Tryd.prog 43 #[v, u] w fun e w' => e = .returned (.bool (sameB l m)) ∧ Below w.heap.size w w' := by
  obtain ⟨p, cap, rfl⟩ := hv.shape
  obtain ⟨p', cap', rfl⟩ := hu.shape
  by_cases hlen : l.length = m.length
  · have HV := Lib.hid (fun k (hk : k < l.length) => hv.at hk)
    have HU := Lib.hid (fun k (hk : k < m.length) => hu.at hk)
    have HL := Lib.hid hlen
    rw [← hlen]
    clear hv hu hlen
    go_enter Tryd.func43, Tryd.ntmps43
    go_wp2
    go_loopw [13] (fun i wr => ∃ k : Nat, i = .int .i64 k ∧ k ≤ l.length ∧ AgreeB l m k ∧ Below w.heap.size w wr) (fun i _ => l.length - (RowKit.intOf i).toNat)
    case atStart => exact ⟨0, rfl, Nat.zero_le _, fun j hj => by omega, Below.refl _ _⟩
    case round =>
      obtain ⟨k, rfl, hk, hag, hb⟩ := hrel
      have HA := Lib.hid hag
      clear hag
      by_cases hlt : k < l.length
      · obtain ⟨blk, off, rfl, hc⟩ := HV.out k hlt
        obtain ⟨blk', off', rfl, hc'⟩ := HU.out k (by rw [← HL.out]; exact hlt)
        have hc := (hb.cell (p := ⟨blk, off + k, none⟩) (lt_of_cell hc)).trans hc
        have hc' := (hb.cell (p := ⟨blk', off' + k, none⟩) (lt_of_cell hc')).trans hc'
        by_cases he : l.getD k false = m.getD k false
        · have HN := Lib.hid (show AgreeB l m (k + 1) from fun j hj => by
            rcases Nat.lt_or_ge j k with h | h
            · exact HA.out j h
            · obtain rfl : j = k := by omega
              exact he)
          rw [← he] at hc'
          clear he HA
          generalize l.getD k false = b at hc hc'
          go_wp2_with fail
          go_quiet (fail)
          go_wp2
          go_roundw
          case rel => exact ⟨k + 1, by go_num, by omega, HN.out, below_drews hb _⟩
          case measure => simp [RowKit.intOf]; omega
        · have HN := Lib.hid (sameB_no he)
          clear HA
          generalize l.getD k false = b at hc he
          generalize m.getD k false = b' at hc' he
          have hbb : b' = !b := by cases b <;> cases b' <;> simp_all
          subst hbb
          clear he
          go_wp2_with fail
          go_quiet (fail)
          go_wp2
          go_ret
          exact ⟨ret_bool HN.out.symm, below_drews hb _⟩
      · obtain rfl : k = l.length := by omega
        have HI := Lib.hid (show sameB l m = true from decide_eq_true (eq_of_agreeB HL.out HA.out))
        clear HA
        go_wp2
        go_ret
        exact ⟨ret_bool HI.out.symm, hb⟩
  · have HI := Lib.hid (show sameB l m = false from decide_eq_false (fun h => hlen (by rw [h])))
    clear hv hu
    go_enter Tryd.func43, Tryd.ntmps43
    go_wp2
    go_ret
    exact ⟨ret_bool HI.out.symm, Below.refl _ _⟩
end Go.Proofs.YtepncbbegpeilaaDoor
