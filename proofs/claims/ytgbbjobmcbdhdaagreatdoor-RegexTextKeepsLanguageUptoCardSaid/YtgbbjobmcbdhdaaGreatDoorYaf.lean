/-
  Texts of the proof, one behind another: C.
-/
import Derived.Test.YtgbbjobmcbdhdaaGreatDoorYab
import Derived.Test.YtgbbjobmcbdhdaaGreatDoorYac
import Derived.Lib.Hide
set_option linter.unusedSimpArgs false
set_option linter.unusedVariables false
/-
  Walks: a class out of bytes: the code's Of and the reference's.
-/
namespace Go.Proofs.YtgbbjobmcbdhdaaGreatDoor
open Go.RowKit

/-- the class of a list of bytes. -/
def ofL (l : List Int) : BitVec 256 := l.foldl (fun c b => c ||| bit b.toNat) 0
theorem ofL_nil : ofL [] = 0 := rfl
theorem ofL_snoc (l : List Int) (b : Int) : ofL (l ++ [b]) = ofL l ||| bit b.toNat := by unfold ofL; rw [List.foldl_append]; rfl
theorem ofL_take (zs : List Int) (k : Nat) (h : k < zs.length) : ofL (zs.take (k + 1)) = ofL (zs.take k) ||| bit (zs.getD k 0).toNat := by
  rw [List.take_succ_eq_append_getElem h, ofL_snoc, List.getD_eq_getElem?_getD, List.getElem?_eq_getElem h]; rfl

theorem clsSize : (Tryz.prog.info? 43).map (·.size) = some 4 := by kernel_rfl

set_option maxHeartbeats 400000 in
theorem of_any (blk off len cap : Nat) (zs : List Int) (w : World) (hlen : len ≤ zs.length) (hm : zs.length ≤ 9223372036854775807) (hblk : blk < w.heap.size)
    (hc : ∀ k, k < zs.length → w.cell? ⟨blk, off + k, none⟩ = some (.int .u8 (zs.getD k 0))) (hb : ∀ k, k < zs.length → 0 ≤ zs.getD k 0 ∧ zs.getD k 0 < 256) :
    Calls Tryz.prog 153 #[.slice (some ⟨blk, off, none⟩) len cap] w fun e w' => e = .returned (.agg #[.int .u64 (wd (ofL (zs.take len)) 0), .int .u64 (wd (ofL (zs.take len)) 1), .int .u64 (wd (ofL (zs.take len)) 2), .int .u64 (wd (ofL (zs.take len)) 3)]) ∧ Below w.heap.size w w' := by
  go_enter Tryz.func153, Tryz.ntmps153
  go_wp2
  go_loopw [8] (fun i wr => ∃ k : Nat, k ≤ len ∧ i = .int .i64 k ∧ Blk wr (w.heap.size + 1) #[.int .u64 (wd (ofL (zs.take k)) 0), .int .u64 (wd (ofL (zs.take k)) 1), .int .u64 (wd (ofL (zs.take k)) 2), .int .u64 (wd (ofL (zs.take k)) 3)] 43 ∧ Blk wr w.heap.size #[.int .u64 0, .int .u64 0, .int .u64 0, .int .u64 0] 43 ∧ Below w.heap.size w wr) (fun i _ => len - (intOf i).toNat)
  case atStart =>
    refine ⟨0, Nat.zero_le _, rfl, ?_, ?_, ?_⟩
    · simp only [List.take_zero, ofL_nil, wd_zero]; exact Blk.alloc1 w _ _ _ _ _
    · exact (Blk.new w _ _).alloc _
    · go_grown
  case round =>
    obtain ⟨k, hk, rfl, hB1, hB0, hbw⟩ := hrel
    obtain ⟨c0, c1, c2, c3, f0, f1, f2, f3⟩ := hB1.four
    obtain ⟨d0, d1, d2, d3, g0, g1, g2, g3⟩ := hB0.four
    by_cases hlt : k < len
    · have hcell : wr.cell? ⟨blk, off + k, none⟩ = some (.int .u8 (zs.getD k 0)) := (hbw.cell (p := ⟨blk, off + k, none⟩) hblk).trans (hc k (by omega))
      obtain ⟨z0, z1⟩ := hb k (by omega)
      have hs := ofL_take zs k (by omega)
      have HS := Lib.hid hs
      clear hs hc hb
      generalize zs.getD k 0 = z at hcell z0 z1 HS
      generalize ofL (zs.take k) = x at c0 c1 c2 c3 HS hB1
      go_wp2_with (go_at_call 175; refine (with_any x z _ z0 z1).mono ?_; rintro e w1 ⟨rfl, hb1⟩; obtain ⟨c0, c1, c2, c3, f0, f1, f2, f3⟩ := (hB1.grows hb1).four)
      go_roundw
      case rel => 
        exact ⟨k + 1, by omega, by go_num, by rw [HS.out]; exact (hB1.grows hb1).set4 _ _ _ _, (hB0.grows hb1).other4 (by omega) _ _ _ _, below_set4 (hbw.trans (hb1.mono hbw.size)) (by omega) _ _ _ _⟩
      case measure => simp [intOf]; omega
    · obtain rfl : k = len := by omega
      go_wp2
      refine bodyPost_ret (results_cell_row rfl _ _ w.heap.size 43 _ (0, 0) _ rfl (hB0.set4 _ _ _ _).is Tryz.underlying43 rfl clsSize) rfl ⟨rfl, below_set4 hbw (Nat.le_refl _) _ _ _ _⟩
end Go.Proofs.YtgbbjobmcbdhdaaGreatDoor
