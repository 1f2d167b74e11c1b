/-
  Texts of the proof, one behind another: Sa.
-/
import Derived.Test.YtgbbjobmcbdhdaaGreatDoorYbj
import Derived.Test.YtgbbjobmcbdhdaaGreatDoorYbf
import Derived.Test.YtgbbjobmcbdhdaaGreatDoorYcj
import Derived.Deep.QuietTactic
import Derived.BigQuiet
set_option linter.unusedSimpArgs false
set_option linter.unusedVariables false
/-
  Walks: the reference's Add, Has and Same.
-/
namespace Go.Proofs.YtgbbjobmcbdhdaaGreatDoor
open Go.RowKit Go.Shelf Go.Lib

set_option maxHeartbeats 400000 in
theorem radd_any (x : BitVec 256) (b : Int) (w : World) (h0 : 0 ≤ b) (h1 : b < 256) :
    Calls Tryz.prog 32 #[.agg #[.int .u64 (wd x 0), .int .u64 (wd x 1), .int .u64 (wd x 2), .int .u64 (wd x 3)], .int .u8 b] w fun e w' => e = .returned (.agg #[.int .u64 (wd (x ||| bit b.toNat) 0), .int .u64 (wd (x ||| bit b.toNat) 1), .int .u64 (wd (x ||| bit b.toNat) 2), .int .u64 (wd (x ||| bit b.toNat) 3)]) ∧ Below w.heap.size w w' := by
  have hq : b / 64 = 0 ∨ b / 64 = 1 ∨ b / 64 = 2 ∨ b / 64 = 3 := by omega
  rcases hq with hq | hq | hq | hq
  all_goals
    go_enter Tryz.func32, Tryz.ntmps32
    go_wp2
    go_returns
    refine ⟨agg4 ?_ ?_ ?_ ?_, ?_⟩
  all_goals first | exact same_of x b h0 h1 _ hq | (refine other_of x b h0 h1 _ ?_; omega) | go_grown

set_option maxHeartbeats 400000 in
theorem rhas_any (x : BitVec 256) (b : Int) (w : World) (h0 : 0 ≤ b) (h1 : b < 256) :
    Calls Tryz.prog 30 #[.agg #[.int .u64 (wd x 0), .int .u64 (wd x 1), .int .u64 (wd x 2), .int .u64 (wd x 3)], .int .u8 b] w fun e w' => e = .returned (.bool (mem x b.toNat)) ∧ Below w.heap.size w w' := by
  have hq : b / 64 = 0 ∨ b / 64 = 1 ∨ b / 64 = 2 ∨ b / 64 = 3 := by omega
  rcases hq with hq | hq | hq | hq
  all_goals
    go_enter Tryz.func30, Tryz.ntmps30
    go_wp2
    go_returns
    refine ⟨ret_bool (has_and' x b h0 _ hq), ?_⟩
    go_grown

theorem below_drews {B : Nat} {a w : World} (h : Below B a w) (n : Nat) : Below B a (w.drewN n) := ⟨h.os, h.tape, h.output, h.size, h.block⟩
theorem IsX.some {w : World} {v : Value} {l : List Nd} (h : IsX w v l) (hz : l ≠ []) : ∃ blk off cap, v = .slice (some ⟨blk, off, none⟩) l.length cap ∧ ReadsN w blk off l := by
  rcases h with ⟨rfl, _⟩ | h
  · exact absurd rfl hz
  · exact h
theorem get_of_lt {α : Type} {l : List α} {k : Nat} (h : k < l.length) : ∃ c, l[k]? = Option.some c := ⟨_, List.getElem?_eq_getElem h⟩
def AgreeN (l m : List (Nd)) (k : Nat) : Prop := ∀ j, j < k → l[j]? = m[j]?
theorem eq_of_agreeN {l m : List (Nd)} (hl : l.length = m.length) (h : AgreeN l m l.length) : l = m := by
  apply List.ext_getElem?; intro j
  rcases Nat.lt_or_ge j l.length with h1 | h1
  · exact h j h1
  · rw [List.getElem?_eq_none h1, List.getElem?_eq_none (by omega)]
def sameN (l m : List (Nd)) : Bool := decide (l = m)

set_option maxRecDepth 100000 in
set_option maxHeartbeats 4000000 in
theorem rsame_any (v u : Value) (l m : List (Nd)) (w : World) (hv : IsX w v l) (hu : IsX w u m) (hl : l.length ≤ 1099511627776) (hm : m.length ≤ 1099511627776) :
    Calls Tryz.prog 25 #[v, u] w fun e w' => e = .returned (.bool (sameN l m)) ∧ Below w.heap.size w w' := by
  by_cases hlen : l.length = m.length
  · by_cases hz : l = []
    · subst hz
      have hm0 : m = [] := List.length_eq_zero_iff.1 (by rw [← hlen]; rfl)
      subst hm0
      obtain ⟨p, cap, rfl⟩ := hv.shape
      obtain ⟨p', cap', rfl⟩ := hu.shape
      clear hv hu hlen
      simp only [List.length_nil]
      go_enter Tryz.func25, Tryz.ntmps25
      go_wp2_with fail
      refine wp_loop_rounds 1 ?_
      rw [rounds_succ]
      go_wp2_with fail
      go_ret
      exact ⟨rfl, Below.refl _ _⟩
    · have hmz : m ≠ [] := by rintro rfl; exact hz (List.length_eq_zero_iff.1 hlen)
      obtain ⟨blk, off, cap, rfl, hR⟩ := hv.some hz
      obtain ⟨blk', off', cap', rfl, hR'⟩ := hu.some hmz
      have HR := Lib.hid hR
      have HR' := Lib.hid hR'
      have HL := Lib.hid hlen
      rw [← hlen]
      clear hR hR' hv hu hz hmz hlen
      go_enter Tryz.func25, Tryz.ntmps25
      go_wp2_with fail
      go_loopw [5] (fun i wr => ∃ k : Nat, k ≤ l.length ∧ i = .int .i64 k ∧ AgreeN l m k ∧ Below w.heap.size w wr) (fun i _ => l.length - (RowKit.intOf i).toNat)
      case atStart => exact ⟨0, Nat.zero_le _, rfl, fun j hj => by omega, Below.refl _ _⟩
      case round =>
        obtain ⟨k, hk, rfl, hno, hbw⟩ := hrel
        have HN := Lib.hid hno
        clear hno
        by_cases hlt : k < l.length
        · obtain ⟨c, hc⟩ := get_of_lt hlt
          obtain ⟨d, hd⟩ := get_of_lt (l := m) (k := k) (by rw [← HL.out]; exact hlt)
          obtain ⟨a0, a1, a2, a3, a4, a5, a6, a7, a8⟩ := HR.out.nine k c hc
          obtain ⟨b0, b1, b2, b3, b4, b5, b6, b7, b8⟩ := HR'.out.nine k d hd
          have hlk := lt_of_cell a0
          have hlk' := lt_of_cell b0
          have a0 := (hbw.cell (p := ⟨blk, off + k * 9, none⟩) hlk).trans a0
          have a1 := (hbw.cell (p := ⟨blk, off + k * 9 + 1, none⟩) hlk).trans a1
          have a2 := (hbw.cell (p := ⟨blk, off + k * 9 + 2, none⟩) hlk).trans a2
          have a3 := (hbw.cell (p := ⟨blk, off + k * 9 + 3, none⟩) hlk).trans a3
          have a4 := (hbw.cell (p := ⟨blk, off + k * 9 + 4, none⟩) hlk).trans a4
          have a5 := (hbw.cell (p := ⟨blk, off + k * 9 + 5, none⟩) hlk).trans a5
          have a6 := (hbw.cell (p := ⟨blk, off + k * 9 + 6, none⟩) hlk).trans a6
          have a7 := (hbw.cell (p := ⟨blk, off + k * 9 + 7, none⟩) hlk).trans a7
          have a8 := (hbw.cell (p := ⟨blk, off + k * 9 + 8, none⟩) hlk).trans a8
          have b0 := (hbw.cell (p := ⟨blk', off' + k * 9, none⟩) hlk').trans b0
          have b1 := (hbw.cell (p := ⟨blk', off' + k * 9 + 1, none⟩) hlk').trans b1
          have b2 := (hbw.cell (p := ⟨blk', off' + k * 9 + 2, none⟩) hlk').trans b2
          have b3 := (hbw.cell (p := ⟨blk', off' + k * 9 + 3, none⟩) hlk').trans b3
          have b4 := (hbw.cell (p := ⟨blk', off' + k * 9 + 4, none⟩) hlk').trans b4
          have b5 := (hbw.cell (p := ⟨blk', off' + k * 9 + 5, none⟩) hlk').trans b5
          have b6 := (hbw.cell (p := ⟨blk', off' + k * 9 + 6, none⟩) hlk').trans b6
          have b7 := (hbw.cell (p := ⟨blk', off' + k * 9 + 7, none⟩) hlk').trans b7
          have b8 := (hbw.cell (p := ⟨blk', off' + k * 9 + 8, none⟩) hlk').trans b8
          obtain ⟨ck, cc, cl, cr, cn, cx⟩ := c
          obtain ⟨dk, dc, dl, dr, dn, dx⟩ := d
          dsimp only at a0 a1 a2 a3 a4 a5 a6 a7 a8 b0 b1 b2 b3 b4 b5 b6 b7 b8
          by_cases hcd : (⟨ck, cc, cl, cr, cn, cx⟩ : Nd) = ⟨dk, dc, dl, dr, dn, dx⟩
          · skip
            have heq : ∀ W, (Op.equalIn 10000 45 (.agg #[.int .i64 ck, .int .u64 (wd cc 0), .int .u64 (wd cc 1), .int .u64 (wd cc 2), .int .u64 (wd cc 3), .int .i64 cl, .int .i64 cr, .int .i64 cn, .int .i64 cx]) (.agg #[.int .i64 dk, .int .u64 (wd dc 0), .int .u64 (wd dc 1), .int .u64 (wd dc 2), .int .u64 (wd dc 3), .int .i64 dl, .int .i64 dr, .int .i64 dn, .int .i64 dx])).run Tryz.prog W = .ok true W := fun W => (eq_nd ⟨ck, cc, cl, cr, cn, cx⟩ ⟨dk, dc, dl, dr, dn, dx⟩ W).trans (by rw [decide_eq_true hcd])
            have HN2 := Lib.hid (show AgreeN l m (k + 1) from fun j hj => by
              rcases Nat.lt_or_ge j k with h | h
              · exact HN.out j h
              · obtain rfl : j = k := by omega
                rw [hc, hd, hcd])
            clear hc hd HN hcd
            have ka0 := cell_regrown a0
            have ka1 := cell_regrown a1
            have ka2 := cell_regrown a2
            have ka3 := cell_regrown a3
            have ka4 := cell_regrown a4
            have ka5 := cell_regrown a5
            have ka6 := cell_regrown a6
            have ka7 := cell_regrown a7
            have ka8 := cell_regrown a8
            have kb0 := cell_regrown b0
            have kb1 := cell_regrown b1
            have kb2 := cell_regrown b2
            have kb3 := cell_regrown b3
            have kb4 := cell_regrown b4
            have kb5 := cell_regrown b5
            have kb6 := cell_regrown b6
            have kb7 := cell_regrown b7
            have kb8 := cell_regrown b8
            clear a0 a1 a2 a3 a4 a5 a6 a7 a8 b0 b1 b2 b3 b4 b5 b6 b7 b8
            go_wp2_with fail
            refine wp_region_quiet_below (by kernel_rfl) (by kernel_rfl) ?_
            repeat (go_big_quiet_step (fail))
            refine wpQuiet_nil ?_
            intro _ hw'
            obtain ⟨⟨dq, osq⟩, hw''⟩ := hw'
            subst hw''
            go_wp2
            exact ⟨⟨k + 1, by omega, by go_num, HN2.out, hbw.trans ((below_regrown _ dq osq).mono hbw.size)⟩, by simp [RowKit.intOf]; omega⟩
          · have heq : ∀ W, (Op.equalIn 10000 45 (.agg #[.int .i64 ck, .int .u64 (wd cc 0), .int .u64 (wd cc 1), .int .u64 (wd cc 2), .int .u64 (wd cc 3), .int .i64 cl, .int .i64 cr, .int .i64 cn, .int .i64 cx]) (.agg #[.int .i64 dk, .int .u64 (wd dc 0), .int .u64 (wd dc 1), .int .u64 (wd dc 2), .int .u64 (wd dc 3), .int .i64 dl, .int .i64 dr, .int .i64 dn, .int .i64 dx])).run Tryz.prog W = .ok false W := fun W => (eq_nd ⟨ck, cc, cl, cr, cn, cx⟩ ⟨dk, dc, dl, dr, dn, dx⟩ W).trans (by rw [decide_eq_false hcd])
            have HI := Lib.hid (show sameN l m = false from decide_eq_false (fun h => by subst h; rw [hc] at hd; cases hd; exact hcd rfl))
            clear hc hd HN hcd
            have ka0 := cell_regrown a0
            have ka1 := cell_regrown a1
            have ka2 := cell_regrown a2
            have ka3 := cell_regrown a3
            have ka4 := cell_regrown a4
            have ka5 := cell_regrown a5
            have ka6 := cell_regrown a6
            have ka7 := cell_regrown a7
            have ka8 := cell_regrown a8
            have kb0 := cell_regrown b0
            have kb1 := cell_regrown b1
            have kb2 := cell_regrown b2
            have kb3 := cell_regrown b3
            have kb4 := cell_regrown b4
            have kb5 := cell_regrown b5
            have kb6 := cell_regrown b6
            have kb7 := cell_regrown b7
            have kb8 := cell_regrown b8
            clear a0 a1 a2 a3 a4 a5 a6 a7 a8 b0 b1 b2 b3 b4 b5 b6 b7 b8
            go_wp2_with fail
            refine wp_region_quiet_below (by kernel_rfl) (by kernel_rfl) ?_
            repeat (go_big_quiet_step (fail))
            refine wpQuiet_nil ?_
            intro _ hw'
            obtain ⟨⟨dq, osq⟩, hw''⟩ := hw'
            subst hw''
            go_wp2
            go_ret
            exact ⟨ret_bool HI.out.symm, hbw.trans ((below_regrown _ dq osq).mono hbw.size)⟩
        · have HI := Lib.hid (show sameN l m = true from decide_eq_true (eq_of_agreeN HL.out fun j hj => HN.out j (by omega)))
          clear HN
          go_wp2
          go_ret
          exact ⟨ret_bool HI.out.symm, hbw⟩
  · obtain ⟨p, cap, rfl⟩ := hv.shape
    obtain ⟨p', cap', rfl⟩ := hu.shape
    have HI := Lib.hid (show sameN l m = false from decide_eq_false (fun h => hlen (by rw [h])))
    have hne : ((l.length : Int) == (m.length : Int)) = false := by rw [beq_eq_false_iff_ne]; omega
    clear hv hu hlen
    go_enter Tryz.func25, Tryz.ntmps25
    go_wp2
    go_ret
    exact ⟨ret_bool HI.out.symm, Below.refl _ _⟩
end Go.Proofs.YtgbbjobmcbdhdaaGreatDoor
