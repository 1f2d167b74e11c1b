/-
  Walks: the reference's Same.
-/
import Derived.Test.YthhlehhienndeaaDoorZa
import Derived.Deep.QuietTactic
import Derived.BigQuiet
set_option linter.unusedSimpArgs false
set_option linter.unusedVariables false
namespace Go.Proofs.YthhlehhienndeaaDoor
open Go.RowKit Go.Shelf Go.Lib

theorem below_drews {B : Nat} {a w : World} (h : Below B a w) (n : Nat) : Below B a (w.drewN n) := ⟨h.os, h.tape, h.output, h.size, h.block⟩
def Agree (l m : List (BitVec 256)) (k : Nat) : Prop := ∀ j, j < k → l[j]? = m[j]?
theorem eq_of_agree {l m : List (BitVec 256)} (hl : l.length = m.length) (h : Agree l m l.length) : l = m := by
  apply List.ext_getElem?; intro j
  rcases Nat.lt_or_ge j l.length with h1 | h1
  · exact h j h1
  · rw [List.getElem?_eq_none h1, List.getElem?_eq_none (by omega)]
def sameL (l m : List (BitVec 256)) : Bool := decide (l = m)

set_option maxRecDepth 100000 in
set_option maxHeartbeats 1000000 in
theorem same_any (v u : Value) (l m : List (BitVec 256)) (w : World) (hv : IsC w v l) (hu : IsC w u m) (hl : l.length ≤ 1000) (hm : m.length ≤ 1000) :
    Calls Tryd.prog 30 #[v, u] w fun e w' => e = .returned (.bool (sameL l m)) ∧ Below w.heap.size w w' := by
  by_cases hlen : l.length = m.length
  · by_cases hz : l = []
    · subst hz
      have hm0 : m = [] := List.length_eq_zero_iff.1 (by rw [← hlen]; rfl)
      subst hm0
      obtain ⟨p, cap, rfl⟩ := hv.shape
      obtain ⟨p', cap', rfl⟩ := hu.shape
      clear hv hu hlen
      simp only [List.length_nil]
      go_enter Tryd.func30, Tryd.ntmps30
      go_wp2_with fail
      refine wp_loop_rounds 1 ?_
      rw [rounds_succ]
      go_wp2_with fail
      go_ret
      exact ⟨rfl, Below.refl _ _⟩
    · have hmz : m ≠ [] := by rintro rfl; exact hz (List.length_eq_zero_iff.1 hlen)
      obtain ⟨blk, off, cap, rfl, hR⟩ := hv.some hz
      obtain ⟨blk', off', cap', rfl, hR'⟩ := hu.some hmz
      have HR := Lib.hid hR
      have HR' := Lib.hid hR'
      have HL := Lib.hid hlen
      rw [← hlen]
      clear hR hR' hv hu hz hmz hlen
      go_enter Tryd.func30, Tryd.ntmps30
      go_wp2_with fail
      go_loopw [5] (fun i wr => ∃ k : Nat, k ≤ l.length ∧ i = .int .i64 k ∧ Agree l m k ∧ Below w.heap.size w wr) (fun i _ => l.length - (intOf i).toNat)
      case atStart => exact ⟨0, Nat.zero_le _, rfl, fun j hj => by omega, Below.refl _ _⟩
      case round =>
        obtain ⟨k, hk, rfl, hno, hbw⟩ := hrel
        have HN := Lib.hid hno
        clear hno
        by_cases hlt : k < l.length
        · obtain ⟨c, hc⟩ := get_of_lt hlt
          obtain ⟨d, hd⟩ := get_of_lt (l := m) (k := k) (by rw [← HL.out]; exact hlt)
          obtain ⟨a0, a1, a2, a3⟩ := HR.out.four k c hc
          obtain ⟨b0, b1, b2, b3⟩ := HR'.out.four k d hd
          have hlk := lt_of_cell a0
          have hlk' := lt_of_cell b0
          have a0 := (hbw.cell (p := ⟨blk, off + k * 4, none⟩) hlk).trans a0
          have a1 := (hbw.cell (p := ⟨blk, off + k * 4 + 1, none⟩) hlk).trans a1
          have a2 := (hbw.cell (p := ⟨blk, off + k * 4 + 2, none⟩) hlk).trans a2
          have a3 := (hbw.cell (p := ⟨blk, off + k * 4 + 3, none⟩) hlk).trans a3
          have b0 := (hbw.cell (p := ⟨blk', off' + k * 4, none⟩) hlk').trans b0
          have b1 := (hbw.cell (p := ⟨blk', off' + k * 4 + 1, none⟩) hlk').trans b1
          have b2 := (hbw.cell (p := ⟨blk', off' + k * 4 + 2, none⟩) hlk').trans b2
          have b3 := (hbw.cell (p := ⟨blk', off' + k * 4 + 3, none⟩) hlk').trans b3
          by_cases hcd : c = d
          · subst hcd
            have heq : ∀ W, (Op.equalIn 10000 24 (.agg #[.int .u64 (wd c 0), .int .u64 (wd c 1), .int .u64 (wd c 2), .int .u64 (wd c 3)]) (.agg #[.int .u64 (wd c 0), .int .u64 (wd c 1), .int .u64 (wd c 2), .int .u64 (wd c 3)])).run Tryd.prog W = .ok true W := fun W => by rw [eq_cls]; simp
            have HN2 := Lib.hid (show Agree l m (k + 1) from fun j hj => by
              rcases Nat.lt_or_ge j k with h | h
              · exact HN.out j h
              · obtain rfl : j = k := by omega
                rw [hc, hd])
            clear hc hd HN
            go_wp2_with fail
            go_quiet (fail)
            go_wp2
            exact ⟨⟨k + 1, by omega, by go_num, HN2.out, below_drews hbw _⟩, by simp [intOf]; omega⟩
          · have heq : ∀ W, (Op.equalIn 10000 24 (.agg #[.int .u64 (wd c 0), .int .u64 (wd c 1), .int .u64 (wd c 2), .int .u64 (wd c 3)]) (.agg #[.int .u64 (wd d 0), .int .u64 (wd d 1), .int .u64 (wd d 2), .int .u64 (wd d 3)])).run Tryd.prog W = .ok false W := fun W => by rw [eq_cls, decide_eq_false hcd]
            have HI := Lib.hid (show sameL l m = false from decide_eq_false (fun h => by subst h; rw [hc] at hd; cases hd; exact hcd rfl))
            clear hc hd HN hcd
            go_wp2_with fail
            go_quiet (fail)
            go_wp2
            go_ret
            exact ⟨ret_bool HI.out.symm, below_drews hbw _⟩
        · have HI := Lib.hid (show sameL l m = true from decide_eq_true (eq_of_agree HL.out fun j hj => HN.out j (by omega)))
          clear HN
          go_wp2
          go_ret
          exact ⟨ret_bool HI.out.symm, hbw⟩
  · obtain ⟨p, cap, rfl⟩ := hv.shape
    obtain ⟨p', cap', rfl⟩ := hu.shape
    have HI := Lib.hid (show sameL l m = false from decide_eq_false (fun h => hlen (by rw [h])))
    have hne : ((l.length : Int) == (m.length : Int)) = false := by rw [beq_eq_false_iff_ne]; omega
    clear hv hu hlen
    go_enter Tryd.func30, Tryd.ntmps30
    go_wp2
    go_ret
    exact ⟨ret_bool HI.out.symm, Below.refl _ _⟩
end Go.Proofs.YthhlehhienndeaaDoor
