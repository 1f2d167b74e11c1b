/-
  Walks: the reference's repeats.
-/
import Derived.Test.YtepncbbegpeilaaDoorRv
import Derived.Test.YtepncbbegpeilaaDoorCk
set_option linter.unusedSimpArgs false
set_option linter.unusedVariables false
namespace Go.Proofs.YtepncbbegpeilaaDoor
open Go.RowKit Go.Lib

theorem good_mod {c : List Bool} {p : Nat} (hg : Good c p) (hp : 0 < p) : ∀ i, i < c.length → c.getD i false = c.getD (i % p) false := by
  intro i
  induction i using Nat.strongRecOn with
  | _ i ih =>
    intro hi
    rcases Nat.lt_or_ge i p with h | h
    · rw [Nat.mod_eq_of_lt h]
    · have h1 := hg.2 (i - p) (by omega)
      rw [show i - p + p = i by omega] at h1
      rw [h1, ih (i - p) (by omega) (by omega), ← Nat.mod_eq_sub_mod h]
theorem good_of_mod {c : List Bool} {p : Nat} (hd : c.length % p = 0) (h : ∀ i, i < c.length → c.getD i false = c.getD (i % p) false) : Good c p :=
  ⟨hd, fun i hi => by rw [h (i + p) hi, Nat.add_mod_right, ← h i (by omega)]⟩
theorem good_len (c : List Bool) : Good c c.length := ⟨Nat.mod_self _, fun i hi => by omega⟩
theorem goodB_no {c : List Bool} {p : Nat} (h : ¬ Good c p) : goodB c p = false := by
  cases hg : goodB c p
  · rfl
  · exact absurd ((goodB_iff c p).1 hg) h
set_option maxRecDepth 100000 in
set_option maxHeartbeats 2000000 in
theorem repeats_any (v : Value) (c : List Bool) (p : Nat) (w : World) (hv : IsB w v c) (hp : 0 < p) (hl : c.length ≤ 1152921504606846976) (hp2 : p ≤ 1152921504606846976) :
    Calls Tryd.prog 45 #[v, .int .i64 (p : Int)] w fun e w' => e = .returned (.bool (goodB c p)) ∧ Below w.heap.size w w' := by
  obtain ⟨q, k, rfl⟩ := hv.shape
  have hpz : (p : Int) ≠ 0 := by omega
  by_cases hd : c.length % p = 0
  · have hdi : (c.length : Int) % (p : Int) = 0 := by rw [← Int.natCast_emod, hd]; rfl
    have HV := Lib.hid (fun W (hW : Below w.heap.size w W) k (hk : k < c.length) => (hv.grows hW).at hk)
    have HD := Lib.hid hd
    clear hv hd
    go_enter Tryd.func45, Tryd.ntmps45
    go_wp2_with fail
    go_loopw [5] (fun i wr => ∃ j : Nat, i = .int .i64 (j : Int) ∧ j ≤ c.length ∧ (∀ i, i < j → c.getD i false = c.getD (i % p) false) ∧ Below w.heap.size w wr) (fun i _ => c.length - (RowKit.intOf i).toNat)
    case atStart => exact ⟨0, rfl, Nat.zero_le _, fun i hi => by omega, Below.refl _ _⟩
    case round =>
      obtain ⟨j, rfl, hj, hag, hbw⟩ := hrel
      have HA := Lib.hid hag
      clear hag
      by_cases hlt : j < c.length
      · have hm : j % p < c.length := Nat.lt_of_le_of_lt (Nat.mod_le _ _) hlt
        obtain ⟨blk, off, rfl, hc0⟩ := HV.out _ hbw j hlt
        obtain ⟨blk', off', he, hc1⟩ := HV.out _ hbw (j % p) hm
        simp only [Option.some.injEq, Addr.mk.injEq, and_true] at he
        obtain ⟨rfl, rfl⟩ := he
        have hmi : (j : Int) % (p : Int) = ((j % p : Nat) : Int) := (Int.natCast_emod j p).symm
        by_cases he : c.getD j false = c.getD (j % p) false
        · have HN := Lib.hid (show ∀ i, i < j + 1 → c.getD i false = c.getD (i % p) false from fun i hi => by
            rcases Nat.lt_or_ge i j with h | h
            · exact HA.out i h
            · obtain rfl : i = j := by omega
              exact he)
          rw [← he] at hc1
          clear he HA
          generalize c.getD j false = b at hc0 hc1
          generalize j % p = m at hc1 hmi hm
          go_wp2_with fail
          go_quiet (fail)
          go_wp2
          go_roundw
          case rel => exact ⟨j + 1, by go_num, by omega, HN.out, below_drews hbw _⟩
          case measure => simp [RowKit.intOf]; omega
        · have HN := Lib.hid (goodB_no (c := c) (p := p) fun hg => he (good_mod hg hp j hlt))
          clear HA
          generalize c.getD j false = b at hc0 he
          generalize c.getD (j % p) false = b' at hc1 he
          have hbb : b' = !b := by cases b <;> cases b' <;> simp_all
          subst hbb
          clear he
          generalize j % p = m at hc1 hmi hm
          go_wp2_with fail
          go_quiet (fail)
          go_wp2
          go_ret
          exact ⟨ret_bool HN.out.symm, below_drews hbw _⟩
      · obtain rfl : j = c.length := by omega
        have HI := Lib.hid ((goodB_iff c p).2 (good_of_mod HD.out HA.out))
        clear HA
        go_wp2
        go_ret
        exact ⟨ret_bool HI.out.symm, hbw⟩
  · have HI := Lib.hid (goodB_no (c := c) (p := p) fun hg => hd hg.1)
    have hmi : (c.length : Int) % (p : Int) = ((c.length % p : Nat) : Int) := (Int.natCast_emod _ p).symm
    generalize c.length % p = m at hmi hd
    have hmz : ((m : Int) != 0) = true := by rw [bne_iff_ne]; omega
    clear hv
    go_enter Tryd.func45, Tryd.ntmps45
    go_wp2
    go_ret
    exact ⟨ret_bool HI.out.symm, Below.refl _ _⟩
end Go.Proofs.YtepncbbegpeilaaDoor
