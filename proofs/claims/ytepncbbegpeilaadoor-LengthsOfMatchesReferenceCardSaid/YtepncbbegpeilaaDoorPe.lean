/-
  Walks: the least period of a cycle.
-/
import Derived.Test.YtepncbbegpeilaaDoorEq
import Derived.Lib.QuietBelow
set_option linter.unusedSimpArgs false
set_option linter.unusedVariables false
namespace Go.Proofs.YtepncbbegpeilaaDoor
open Go.RowKit Go.Lib
open Go.Sort hiding Below

theorem drop_take_iff (c : List Bool) (p : Nat) (hp : p ≤ c.length) : c.drop p = c.take (c.length - p) ↔ ∀ i, i + p < c.length → c.getD (i + p) false = c.getD i false := by
  constructor
  · intro h i hi
    have := congrArg (fun l : List Bool => l.getD i false) h
    rw [getD_drop, getD_take _ _ _ (by omega)] at this
    rw [Nat.add_comm]; exact this
  · intro h
    apply eq_of_agreeB (by simp)
    intro i hi
    rw [List.length_drop] at hi
    rw [getD_drop, getD_take _ _ _ (by omega), Nat.add_comm]
    exact h i (by omega)
set_option maxRecDepth 100000 in
set_option maxHeartbeats 1000000 in
theorem period_any (blk off cap : Nat) (c : List Bool) (w : World) (hR : ReadsB w blk off c) (hcap : c.length ≤ cap) (hc : 0 < c.length) (hl : c.length ≤ 4294967296) (hcp : cap ≤ 9223372036854775807) :
    Calls Tryd.prog 34 #[.slice (some ⟨blk, off, none⟩) c.length cap] w fun e w' => (∃ p, e = .returned (.int .i64 ((p : Nat) : Int)) ∧ IsPer c p) ∧ Below w.heap.size w w' := by
  go_enter Tryd.func34, Tryd.ntmps34
  go_wp2
  go_loopw [3] (fun i wr => ∃ k : Nat, i = .int .i64 k ∧ 0 < k ∧ k ≤ c.length ∧ (∀ q, 0 < q → q < k → ¬ Good c q) ∧ Below w.heap.size w wr) (fun i _ => c.length - (RowKit.intOf i).toNat)
  case atStart => exact ⟨1, rfl, by omega, by omega, fun q h1 h2 => by omega, Below.refl _ _⟩
  case round =>
    obtain ⟨k, rfl, hk0, hk, hno, hb⟩ := hrel
    have HN := Lib.hid hno
    clear hno
    by_cases hlt : k < c.length
    · by_cases hm : c.length % k = 0
      · have hd : (((c.length : Int) % (k : Int)) == 0) = true := by rw [← Int.natCast_emod, hm]; rfl
        have hrd : ∀ d os, ReadsB (Go.Sort.grow (redrawn wr d) os) blk off c := fun d os j hj => cell_regrown ((hb.cell (lt_of_cell (hR j hj))).trans (hR j hj)) d os
        have HQ := Lib.hid (fun d os => Calls.regrown_of (equal_any (.slice (some ⟨blk, off + k, none⟩) (c.length - k) (cap - k)) (.slice (some ⟨blk, off, none⟩) (c.length - k) cap) (c.drop k) (c.take (c.length - k)) (Go.Sort.grow (redrawn wr d) os)
          (.inr ⟨blk, off + k, cap - k, by rw [List.length_drop], by rw [List.length_drop]; omega, (hrd d os).drop k⟩) (.inr ⟨blk, off, cap, by rw [List.length_take, Nat.min_eq_left (by omega)], by rw [List.length_take]; omega, (hrd d os).take _⟩) (by rw [List.length_drop]; omega) (by rw [List.length_take]; omega)))
        have HG := Lib.hid (show sameB (c.drop k) (c.take (c.length - k)) = true ↔ Good c k by
          unfold sameB; rw [decide_eq_true_eq, drop_take_iff c k (by omega)]; exact ⟨fun h => ⟨hm, h⟩, fun h => h.2⟩)
        generalize sameB (c.drop k) (c.take (c.length - k)) = b at HQ HG
        clear hrd hm
        cases b
        · have HN2 := Lib.hid (show ∀ q, 0 < q → q < k + 1 → ¬ Good c q from fun q h1 h2 => by
            rcases Nat.lt_or_ge q k with h | h
            · exact HN.out q h1 h
            · obtain rfl : q = k := by omega
              exact fun hg => by have := HG.out.2 hg; cases this)
          clear HG HN
          go_wp2_with fail
          refine wp_region_quiet_below (by kernel_rfl) (by kernel_rfl) ?_
          repeat (go_big_quiet_step (first | with_reducible exact HQ.out _ _))
          refine wpQuiet_nil ?_
          intro _ hw'
          obtain ⟨⟨dq, osq⟩, hw''⟩ := hw'
          subst hw''
          go_wp2
          go_roundw
          case rel => exact ⟨k + 1, by go_num, by omega, by omega, HN2.out, below_two hb (below_regrown wr dq osq)⟩
          case measure => simp [RowKit.intOf]; omega
        · have HP := Lib.hid (show IsPer c k from ⟨hk0, by omega, HG.out.1 rfl, HN.out⟩)
          clear HG HN
          go_wp2_with fail
          refine wp_region_quiet_below (by kernel_rfl) (by kernel_rfl) ?_
          repeat (go_big_quiet_step (first | with_reducible exact HQ.out _ _))
          refine wpQuiet_nil ?_
          intro _ hw'
          obtain ⟨⟨dq, osq⟩, hw''⟩ := hw'
          subst hw''
          go_wp2
          go_ret
          exact ⟨⟨k, rfl, HP.out⟩, below_two hb (below_regrown wr dq osq)⟩
      · have hd : (((c.length : Int) % (k : Int)) == 0) = false := by rw [← Int.natCast_emod, beq_eq_false_iff_ne]; omega
        have HN2 := Lib.hid (show ∀ q, 0 < q → q < k + 1 → ¬ Good c q from fun q h1 h2 => by
          rcases Nat.lt_or_ge q k with h | h
          · exact HN.out q h1 h
          · obtain rfl : q = k := by omega
            exact fun hg => hm hg.1)
        clear HN
        go_wp2_with fail
        go_quiet (fail)
        go_wp2
        go_roundw
        case rel => exact ⟨k + 1, by go_num, by omega, by omega, HN2.out, below_drews hb _⟩
        case measure => simp [RowKit.intOf]; omega
    · obtain rfl : k = c.length := by omega
      have HP := Lib.hid (show IsPer c c.length from ⟨hc, Nat.le_refl _, ⟨Nat.mod_self _, fun i hi => by omega⟩, HN.out⟩)
      clear HN
      go_wp2
      go_ret
      exact ⟨⟨_, rfl, HP.out⟩, hb⟩
end Go.Proofs.YtepncbbegpeilaaDoor
