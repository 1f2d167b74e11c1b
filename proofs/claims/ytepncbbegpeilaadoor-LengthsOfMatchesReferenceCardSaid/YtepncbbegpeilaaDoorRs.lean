/-
  Walks: the reference's comparison of sets.
-/
import Derived.Test.YtepncbbegpeilaaDoorEq
set_option linter.unusedSimpArgs false
set_option linter.unusedVariables false
namespace Go.Proofs.YtepncbbegpeilaaDoor
open Go.RowKit

set_option maxRecDepth 100000 in
set_option maxHeartbeats 1000000 in
theorem requal_any (v u : Value) (l m : List Bool) (w : World) (hv : IsB w v l) (hu : IsB w u m) (hlen : l.length = m.length) (hl : l.length ≤ 1152921504606846976) :
    Calls Tryd.prog 19 #[v, u] w fun e w' => e = .returned (.bool (sameB l m)) ∧ Below w.heap.size w w' := by
  obtain ⟨p, cap, rfl⟩ := hv.shape
  obtain ⟨p', cap', rfl⟩ := hu.shape
  have HV := Lib.hid (fun k (hk : k < l.length) => hv.at hk)
  have HU := Lib.hid (fun k (hk : k < m.length) => hu.at hk)
  have HL := Lib.hid hlen
  rw [← hlen]
  clear hv hu hlen
  go_enter Tryd.func19, Tryd.ntmps19
  go_wp2
  go_loopw [5] (fun i wr => ∃ k : Nat, i = .int .i64 k ∧ k ≤ l.length ∧ AgreeB l m k ∧ Below w.heap.size w wr) (fun i _ => l.length - (RowKit.intOf i).toNat)
  case atStart => exact ⟨0, rfl, Nat.zero_le _, fun j hj => by omega, Below.refl _ _⟩
  case round =>
    obtain ⟨k, rfl, hk, hag, hb⟩ := hrel
    have HA := Lib.hid hag
    clear hag
    by_cases hlt : k < l.length
    · obtain ⟨blk, off, rfl, hc⟩ := HV.out k hlt
      obtain ⟨blk', off', rfl, hc'⟩ := HU.out k (by rw [← HL.out]; exact hlt)
      have hc := (hb.cell (p := ⟨blk, off + k, none⟩) (lt_of_cell hc)).trans hc
      have hc' := (hb.cell (p := ⟨blk', off' + k, none⟩) (lt_of_cell hc')).trans hc'
      by_cases he : l.getD k false = m.getD k false
      · have HN := Lib.hid (show AgreeB l m (k + 1) from fun j hj => by
          rcases Nat.lt_or_ge j k with h | h
          · exact HA.out j h
          · obtain rfl : j = k := by omega
            exact he)
        rw [← he] at hc'
        clear he HA
        generalize l.getD k false = b at hc hc'
        go_wp2_with fail
        go_quiet (fail)
        go_wp2
        go_roundw
        case rel => exact ⟨k + 1, by go_num, by omega, HN.out, below_drews hb _⟩
        case measure => simp [RowKit.intOf]; omega
      · have HN := Lib.hid (sameB_no he)
        clear HA
        generalize l.getD k false = b at hc he
        generalize m.getD k false = b' at hc' he
        have hbb : b' = !b := by cases b <;> cases b' <;> simp_all
        subst hbb
        clear he
        go_wp2_with fail
        go_quiet (fail)
        go_wp2
        go_ret
        exact ⟨ret_bool HN.out.symm, below_drews hb _⟩
    · obtain rfl : k = l.length := by omega
      have HI := Lib.hid (show sameB l m = true from decide_eq_true (eq_of_agreeB HL.out HA.out))
      clear HA
      go_wp2
      go_ret
      exact ⟨ret_bool HI.out.symm, hb⟩
set_option maxRecDepth 100000 in
set_option maxHeartbeats 1000000 in
theorem bools_any (v u : Value) (l m : List Bool) (w : World) (hv : IsB w v l) (hu : IsB w u m) (hl : l.length ≤ 1152921504606846976) (hm : m.length ≤ 1152921504606846976) :
    Calls Tryd.prog 23 #[v, u] w fun e w' => e = .returned (.bool (sameB l m)) ∧ Below w.heap.size w w' := by
  obtain ⟨p, cap, rfl⟩ := hv.shape
  obtain ⟨p', cap', rfl⟩ := hu.shape
  by_cases hlen : l.length = m.length
  · have HR := Lib.hid (requal_any _ _ l m w hv hu hlen hl)
    have hd : ((l.length : Int) == (m.length : Int)) = true := by rw [beq_iff_eq]; omega
    clear hv hu hlen
    go_enter Tryd.func23, Tryd.ntmps23
    go_wp2_with (go_at_call 19; refine HR.out.mono ?_; rintro e w1 ⟨rfl, hb1⟩)
    go_ret
    exact ⟨rfl, hb1⟩
  · have HI := Lib.hid (show false = sameB l m from (decide_eq_false (fun h => hlen (by rw [h]))).symm)
    have hd : ((l.length : Int) == (m.length : Int)) = false := by rw [beq_eq_false_iff_ne]; omega
    clear hv hu hlen
    go_enter Tryd.func23, Tryd.ntmps23
    go_wp2
    go_ret
    exact ⟨ret_bool HI.out, Below.refl _ _⟩
/-- are the two sets written alike? -/
def sameS (h c h' c' : List Bool) : Bool := sameB h h' && sameB c c'
theorem sameS_iff (h c h' c' : List Bool) : sameS h c h' c' = true ↔ h = h' ∧ c = c' := by
  unfold sameS sameB; rw [Bool.and_eq_true, decide_eq_true_iff, decide_eq_true_iff]
set_option maxRecDepth 100000 in
set_option maxHeartbeats 1000000 in
theorem same_any (v u : Value) (h c h' c' : List Bool) (w : World) (hv : IsSet w v h c) (hu : IsSet w u h' c') (h1 : h.length ≤ 1152921504606846976) (h2 : c.length ≤ 1152921504606846976) (h3 : h'.length ≤ 1152921504606846976) (h4 : c'.length ≤ 1152921504606846976) :
    Calls Tryd.prog 8 #[v, u] w fun e w' => e = .returned (.bool (sameS h c h' c')) ∧ Below w.heap.size w w' := by
  obtain ⟨hp, hk, cp, ck, rfl, a1, a2⟩ := hv.shape
  obtain ⟨hp', hk', cp', ck', rfl, b1, b2⟩ := hu.shape
  have H0 := Lib.hid (fun W (hW : Below w.heap.size w W) => bools_any _ _ h h' W (a1.grows hW) (b1.grows hW) h1 h3)
  have H1 := Lib.hid (fun W (hW : Below w.heap.size w W) => bools_any _ _ c c' W (a2.grows hW) (b2.grows hW) h2 h4)
  have X0 := (Blk.new w #[.slice hp h.length hk, .slice cp c.length ck] 31).alloc (.cells #[.slice hp' h'.length hk', .slice cp' c'.length ck'] 31)
  have Y0 := Blk.alloc1 w #[.slice hp h.length hk, .slice cp c.length ck] #[.slice hp' h'.length hk', .slice cp' c'.length ck'] 31 31
  have hbw0 : Below w.heap.size w ((w.alloc (.cells #[.slice hp h.length hk, .slice cp c.length ck] 31)).alloc (.cells #[.slice hp' h'.length hk', .slice cp' c'.length ck'] 31)) := by go_grown
  clear hv hu a1 a2 b1 b2
  have HE := Lib.hid (show sameS h c h' c' = (sameB h h' && sameB c c') from rfl)
  generalize sameS h c h' c' = s at HE ⊢
  generalize sameB h h' = s0 at H0 HE
  generalize sameB c c' = s1 at H1 HE
  cases s0
  · go_enter Tryd.func8, Tryd.ntmps8
    go_wp2_with (go_at_call 23; with_reducible refine (H0.out _ hbw0).mono ?_; rintro e w1 ⟨rfl, hb1⟩)
    go_ret
    exact ⟨ret_bool (by rw [HE.out]; rfl), below_two hbw0 hb1⟩
  · go_enter Tryd.func8, Tryd.ntmps8
    go_wp2_with (first
      | (go_at_call 23; with_reducible refine (H0.out _ hbw0).mono ?_; rintro e w1 ⟨rfl, hb1⟩; have hbw1 := below_two hbw0 hb1; have X1 := X0.grows hb1; have Y1 := Y0.grows hb1; have x1 := X1.cell 1 rfl; have y1 := Y1.cell 1 rfl)
      | (go_at_call 23; with_reducible refine (H1.out _ hbw1).mono ?_; rintro e w2 ⟨rfl, hb2⟩))
    go_ret
    exact ⟨ret_bool (by rw [HE.out]; rfl), below_two hbw1 hb2⟩
end Go.Proofs.YtepncbbegpeilaaDoor
