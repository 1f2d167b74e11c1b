/-
  Walks: Index, the reference's Index, Same and Alike.
-/
import Derived.Test.YthhlehhienndeaaDoorY
set_option linter.unusedSimpArgs false
set_option linter.unusedVariables false
namespace Go.Proofs.YthhlehhienndeaaDoor
open Go.RowKit Go.Shelf Go.Lib

/-- the place of the first class that has b, or -1. -/
def ix (l : List (BitVec 256)) (b : Nat) : Int := Lib.idxBy (fun _ y => mem y b) l (default : BitVec 256)

theorem eg_ix : ∀ args w, (callFunc 52 args).run Tryd.prog w = .ok (.enter 52 args) w := enters_of Tryd.func52 (by kernel_rfl) rfl
theorem ix_clo (b : Int) (h0 : 0 ≤ b) (h1 : b < 256) (B : Nat) (w : World) (hB : Blk w B #[.int .u8 b] 5) :
    PredBelow Tryd.prog 52 #[.pointer (some ⟨B, 0, none⟩)] (fun x => .agg (encC x).toArray) (fun x => mem x b.toNat) w := fun W x hb => by
  have hc := (hB.grows hb).cell 0 rfl
  have hBW : B < W.heap.size := (hB.grows hb).lt
  have hne : B ≠ W.heap.size := by omega
  show Calls Tryd.prog 52 #[.agg #[.int .u64 (wd x 0), .int .u64 (wd x 1), .int .u64 (wd x 2), .int .u64 (wd x 3)], .pointer (some ⟨B, 0, none⟩)] W _
  go_enter Tryd.func52, Tryd.ntmps52
  go_wp2_with (go_at_call 35; refine (has_any x b _ h0 h1).mono ?_; rintro e w1 ⟨rfl, hb1⟩)
  go_ret
  exact ⟨rfl, (hb.alloc hb.size _).trans (hb1.mono (by have := hb.size; simp; omega))⟩

theorem indexFunc_none (p : Option Addr) (cap : Nat) (fv : Value) (w : World) :
    Calls Tryd.prog 51 #[.slice p 0 cap, fv] w fun e w' => e = .returned (.int .i64 (-1)) ∧ w = w' := by
  go_enter Tryd.func51, Tryd.ntmps51
  go_wp2_with fail
  refine wp_loop_rounds 1 ?_
  rw [rounds_succ]
  go_wp2_with fail
  go_ret
  exact ⟨rfl, rfl⟩

theorem index_any (v : Value) (l : List (BitVec 256)) (b : Int) (h0 : 0 ≤ b) (h1 : b < 256) (w : World) (hv : IsC w v l) (hl : l.length ≤ 1000) :
    Calls Tryd.prog 33 #[v, .int .u8 b] w fun e w' => e = .returned (.int .i64 (ix l b.toNat)) ∧ Below w.heap.size w w' := by
  by_cases hz : l = []
  · subst hz
    have hvs : ∃ p cap, v = .slice p 0 cap := by
      rcases hv with ⟨_, p, cap, rfl⟩ | ⟨blk, off, cap, rfl, _⟩
      · exact ⟨_, _, rfl⟩
      · exact ⟨_, _, rfl⟩
    obtain ⟨p, cap, rfl⟩ := hvs
    go_enter Tryd.func33, Tryd.ntmps33
    go_wp2_with (go_at_call 51; refine (indexFunc_none p cap _ _).mono ?_; rintro e w1 ⟨rfl, rfl⟩)
    go_ret
    exact ⟨rfl, by go_grown⟩
  · rcases hv with ⟨h, _⟩ | ⟨blk, off, cap, rfl, hR⟩
    · exact (hz h).elim
    · have hpos : 0 < l.length := by cases l with | nil => exact (hz rfl).elim | cons => simp
      have hblk : blk < w.heap.size := by
        obtain ⟨x, hx⟩ : ∃ x, l[0]? = some x := ⟨_, List.getElem?_eq_getElem hpos⟩
        exact lt_of_cell (hR 0 x hx 0 _ rfl)
      have hc := AnyQ.slices_IndexFunc Tryd.idxL 4 isAggC sizeOfC encC encC_len (fun x => mem x b.toNat) 52 #[.pointer (some ⟨w.heap.size, 0, none⟩)] eg_ix blk off l.length cap l (w.alloc (.cells #[.int .u8 b] 5))
        (ix_clo b h0 h1 _ _ (Blk.new w _ _)) (Nat.le_refl _) (by omega) (by simp; omega) (fun j hj i v hi => by
          have h2 := hR j (l[j]) (List.getElem?_eq_getElem hj) i v (by rw [getElem!_pos l j hj] at hi; exact hi)
          exact cell_lay h2 _)
      rw [List.take_length] at hc
      have hc' : Calls Tryd.prog 51 #[.slice (some ⟨blk, off, none⟩) l.length cap, .func (.func 52) #[] #[.pointer (some ⟨w.heap.size, 0, none⟩)]] (w.alloc (.cells #[.int .u8 b] 5)) fun e w' => e = .returned (.int .i64 (ix l b.toNat)) ∧ Below (w.alloc (.cells #[.int .u8 b] 5)).heap.size (w.alloc (.cells #[.int .u8 b] 5)) w' := hc
      have HC := Lib.hid hc'
      clear hc hc' hR
      generalize ix l b.toNat = r at HC ⊢
      go_enter Tryd.func33, Tryd.ntmps33
      go_wp2_with (go_at_call 51; refine HC.out.mono ?_; rintro e w1 ⟨rfl, hb1⟩)
      go_ret
      exact ⟨rfl, Below.trans (by go_grown) (hb1.mono (by simp))⟩
end Go.Proofs.YthhlehhienndeaaDoor
