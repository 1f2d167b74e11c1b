/-
  Walks: Cells.
-/
import Derived.Test.YthhlehhienndeaaDoorX
set_option linter.unusedSimpArgs false
set_option linter.unusedVariables false
namespace Go.Proofs.YthhlehhienndeaaDoor
open Go.RowKit Go.Shelf Go.Lib
open Go.Sort hiding Below

theorem mem_ofL_snoc (l : List Int) (b : Int) (h0 : 0 ≤ b) (h1 : b < 256) (j : Nat) : mem (ofL (l ++ [b])) j = (mem (ofL l) j || decide (b.toNat = j)) := by
  rw [ofL_snoc, mem_or, mem_bit _ _ (by omega)]
theorem mem_rng (lo : Int) (h0 : 0 ≤ lo) (j : Nat) : ∀ k : Nat, lo + (k : Int) ≤ 256 → mem (rng lo k) j = (decide (lo ≤ (j : Int)) && decide ((j : Int) < lo + (k : Int)))
  | 0, _ => by
    rw [rng_zero, mem_zero]
    by_cases h : lo ≤ (j : Int)
    · have : ¬ (j : Int) < lo + ((0 : Nat) : Int) := by omega
      simp only [this, decide_false, Bool.and_false]
    · simp only [h, decide_false, Bool.false_and]
  | k + 1, hk => by
    rw [rng_succ, mem_or, mem_rng lo h0 j k (by omega), mem_bit _ _ (by omega)]
    by_cases h : lo ≤ (j : Int)
    · by_cases h2 : (j : Int) < lo + (k : Int)
      · have h3 : (j : Int) < lo + ((k + 1 : Nat) : Int) := by omega
        simp only [h, h2, h3, decide_true, Bool.and_self, Bool.true_or]
      · by_cases h4 : (j : Int) = lo + (k : Int)
        · have h3 : (j : Int) < lo + ((k + 1 : Nat) : Int) := by omega
          have h5 : (lo + (k : Int)).toNat = j := by omega
          simp only [h, h2, h3, h5, decide_true, Bool.or_true, Bool.and_self]
        · have h3 : ¬ (j : Int) < lo + ((k + 1 : Nat) : Int) := by omega
          have h5 : ¬ (lo + (k : Int)).toNat = j := by omega
          simp only [h2, h3, h5, decide_false, Bool.and_false, Bool.or_self]
    · have h5 : ¬ (lo + (k : Int)).toNat = j := by omega
      simp only [h, h5, decide_false, Bool.false_and, Bool.or_self]
theorem mem_all (j : Nat) (hj : j < 256) : mem (rng 0 256) j = true := by
  rw [mem_rng 0 (by omega) j 256 (by omega)]
  have h1 : (0 : Int) ≤ (j : Int) := by omega
  have h2 : (j : Int) < 0 + ((256 : Nat) : Int) := by omega
  simp only [h1, h2, decide_true, Bool.and_self]
theorem rng_all : rng 0 256 = ~~~(0 : BitVec 256) := mem_ext fun j hj => by rw [mem_all j hj, mem_not _ _ hj, mem_zero]; rfl

/-- the cells before they are sorted. -/
def raw (l : List (BitVec 256)) : List (BitVec 256) := l.foldl (fun a c => splitL c a) [rng 0 256]
theorem raw_snoc (l : List (BitVec 256)) (c : BitVec 256) : raw (l ++ [c]) = splitL c (raw l) := by unfold raw; rw [List.foldl_append]; rfl
theorem raw_take (l : List (BitVec 256)) (k : Nat) (c : BitVec 256) (hc : l[k]? = some c) : raw (l.take (k + 1)) = splitL c (raw (l.take k)) := by
  rw [List.take_add_one, hc]; exact raw_snoc _ _
theorem inv_nil : Inv [] [rng 0 256] where
  cover j hj := ⟨_, by simp, mem_all j hj⟩
  ne p hp := by obtain rfl : p = rng 0 256 := by simpa using hp
                exact ne_zero_of_mem (mem_all 0 (by omega))
  same p hp i j hj _ := by obtain rfl : p = rng 0 256 := by simpa using hp
                           rw [mem_all j hj]; rfl
  apart := List.pairwise_singleton _ _
theorem inv_raw (l : List (BitVec 256)) : ∀ k, Inv (l.take k) (raw (l.take k))
  | 0 => inv_nil
  | k + 1 => by
    have ih := inv_raw l k
    cases hc : l[k]? with
    | none => rw [List.take_add_one, hc]; simpa using ih
    | some c => rw [raw_take l k c hc, List.take_add_one, hc]; exact ih.split c
theorem raw_pos (l : List (BitVec 256)) (k : Nat) : 0 < (raw (l.take k)).length := by
  obtain ⟨p, hp, _⟩ := (inv_raw l k).cover 0 (by omega)
  exact List.length_pos_of_mem hp

set_option maxRecDepth 100000 in
set_option maxHeartbeats 1000000 in
theorem cells_some (blk off cap : Nat) (l : List (BitVec 256)) (w : World) (hR : ReadsC w blk off l) (hl : l.length ≤ 1000) (hT : TabAt 0 Lib.deBruijn64tab w) (hg0 : 0 < w.heap.size) :
    Calls Tryd.prog 31 #[.slice (some ⟨blk, off, none⟩) l.length cap] w fun e w' =>
      ∃ v, e = .returned v ∧ w'.ownsRow w.heap.size 24 4 v (canon l).length ((canon l).flatMap encC) ∧ Below w.heap.size w w' := by
  have HT := Lib.hid hT
  clear hT
  go_enter Tryd.func31, Tryd.ntmps31
  go_wp2_with (go_at_call 36; refine (range_any 0 255 _ (by omega) (by omega) (by omega) (by omega)).mono ?_; rintro e w1 ⟨rfl, hb1⟩)
  go_loopw [3, 10] (fun v i wr => ∃ k : Nat, k ≤ l.length ∧ i = .int .i64 k ∧ wr.ownsRow w.heap.size 24 4 v (raw (l.take k)).length ((raw (l.take k)).flatMap encC) ∧ Below w.heap.size w wr) (fun _ i _ => l.length - (intOf i).toNat)
  case atStart =>
    refine ⟨0, Nat.zero_le _, rfl, ?_, hb1.alloc hb1.size _⟩
    exact own_of_blk (Blk.new w1 #[.int .u64 (wd (rng 0 256) 0), .int .u64 (wd (rng 0 256) 1), .int .u64 (wd (rng 0 256) 2), .int .u64 (wd (rng 0 256) 3)] 24) 1 4 rfl (by unfold maxLen; omega) hb1.size
  case round =>
    obtain ⟨k, hk, rfl, hown, hbw⟩ := hrel
    have hpos := raw_pos l k
    have hlen := (inv_raw l k).len
    by_cases hlt : k < l.length
    · obtain ⟨c, hc⟩ : ∃ c, l[k]? = some c := ⟨_, List.getElem?_eq_getElem hlt⟩
      obtain ⟨a0, a1, a2, a3⟩ := hR.four k c hc
      have hlk := lt_of_cell a0
      have a0 := (hbw.cell (p := ⟨blk, off + k * 4, none⟩) hlk).trans a0
      have a1 := (hbw.cell (p := ⟨blk, off + k * 4 + 1, none⟩) hlk).trans a1
      have a2 := (hbw.cell (p := ⟨blk, off + k * 4 + 2, none⟩) hlk).trans a2
      have a3 := (hbw.cell (p := ⟨blk, off + k * 4 + 3, none⟩) hlk).trans a3
      have HK := Lib.hid (raw_take l k c hc)
      have HR := Lib.hid hR
      clear hc hR
      obtain ⟨g, cp, cur, rfl, hgb, hh, hcap, hm, hsz, htk, hread⟩ := own_readC hown hpos
      generalize raw (l.take k) = L at *
      have HC := Lib.hid (split_any g 0 cp L c (wr.alloc (.cells #[.int .u64 (wd c 0), .int .u64 (wd c 1), .int .u64 (wd c 2), .int .u64 (wd c 3)] 24)) (hread.grows ((Below.refl _ wr).alloc (Nat.le_refl _) _)) (by omega))
      clear hread htk hsz hm hcap hh hown
      go_wp2_with (go_at_call 46; refine HC.out.mono ?_; rintro e w2 ⟨v, rfl, hown2, hb2⟩)
      go_roundw
      case rel => exact ⟨k + 1, by omega, by go_num, by rw [HK.out]; exact own_mono hown2 (by have := hbw.size; simp; omega), (hbw.alloc hbw.size _).trans (hb2.mono (by have := hbw.size; simp; omega))⟩
      case measure => simp [intOf]; omega
    · have hinv := inv_raw l k
      have ht : l.take k = l := List.take_of_length_le (by omega)
      rw [ht] at hinv hpos hlen hown
      obtain ⟨g, cp, cur, rfl, hgb, hh, hcap, hm, hsz, htk, hread⟩ := own_readC hown hpos
      have HS := Lib.hid (sort_any g cp (raw l) wr (tab_below HT.out hbw hg0) (by have := hbw.size; omega) (by omega) (holds_of_own hh hcap hsz htk) (Blk.lt (vs := cur) (t := 24) ⟨hh⟩) hlen)
      have HI := Lib.hid hinv
      have HD := Lib.hid (And.intro hh (And.intro hcap (And.intro hm hsz)))
      clear hR hread htk hown hinv hh hcap hm hsz ht
      generalize raw l = L at *
      go_wp2_with (go_at_call 47; refine HS.out.mono ?_; rintro e w2 ⟨rfl, m, q, os, hp, hs, hw2⟩)
      go_ret
      obtain ⟨hh, hcap, hm, hsz⟩ := HD.out
      have hcn := (HI.out.perm hp).eq_canon ((HI.out.perm hp).incr_of_le hs)
      subst hcn
      refine ⟨_, rfl, ?_, ?_⟩
      · exact sorted_own hgb hh hcap hm hsz hp.length_eq.symm
      · exact sorted_below hbw hgb hbw.size

set_option maxRecDepth 100000 in
set_option maxHeartbeats 1000000 in
theorem cells_nil (p : Option Addr) (cap0 : Nat) (w : World) (hT : TabAt 0 Lib.deBruijn64tab w) (hg0 : 0 < w.heap.size) :
    Calls Tryd.prog 31 #[.slice p 0 cap0] w fun e w' =>
      ∃ v, e = .returned v ∧ w'.ownsRow w.heap.size 24 4 v (canon []).length ((canon []).flatMap encC) ∧ Below w.heap.size w w' := by
  have HT := Lib.hid hT
  clear hT
  go_enter Tryd.func31, Tryd.ntmps31
  go_wp2_with (go_at_call 36; refine (range_any 0 255 _ (by omega) (by omega) (by omega) (by omega)).mono ?_; rintro e w1 ⟨rfl, hb1⟩)
  have hbw := hb1.alloc hb1.size (.cells #[.int .u64 (wd (rng 0 256) 0), .int .u64 (wd (rng 0 256) 1), .int .u64 (wd (rng 0 256) 2), .int .u64 (wd (rng 0 256) 3)] 24)
  have hown : (w1.alloc (.cells #[.int .u64 (wd (rng 0 256) 0), .int .u64 (wd (rng 0 256) 1), .int .u64 (wd (rng 0 256) 2), .int .u64 (wd (rng 0 256) 3)] 24)).ownsRow w.heap.size 24 4 (.slice (some ⟨w1.heap.size, 0, none⟩) 1 1) [rng 0 256].length ([rng 0 256].flatMap encC) :=
    own_of_blk (Blk.new w1 #[.int .u64 (wd (rng 0 256) 0), .int .u64 (wd (rng 0 256) 1), .int .u64 (wd (rng 0 256) 2), .int .u64 (wd (rng 0 256) 3)] 24) 1 4 rfl (by unfold maxLen; omega) hb1.size
  obtain ⟨g, cp, cur, hv, hgb, hh, hcap, hm, hsz, htk, hread⟩ := own_readC hown (by simp)
  simp only [Value.slice.injEq, Option.some.injEq, Addr.mk.injEq, and_true, true_and, List.length_cons, List.length_nil, Nat.zero_add] at hv
  obtain ⟨rfl, rfl⟩ := hv
  have HS := Lib.hid (sort_any w1.heap.size 1 [rng 0 256] _ (tab_below HT.out hbw hg0) (by have := hbw.size; omega) (by have := hb1.size; omega) (holds_of_own hh hcap hsz htk) (Blk.lt (vs := cur) (t := 24) ⟨hh⟩) (by simp))
  have HD := Lib.hid (And.intro hh (And.intro hcap (And.intro hm (And.intro hsz hbw))))
  clear hread htk hown hh hcap hm hsz hbw
  refine wp_loop_rounds 1 ?_
  rw [rounds_succ]
  go_wp2_with (go_at_call 47; refine HS.out.mono ?_; rintro e w2 ⟨rfl, m, q, os, hp, hs, hw2⟩)
  go_ret
  obtain ⟨hh, hcap, hm, hsz, hbw⟩ := HD.out
  have hcn := (inv_nil.perm hp).eq_canon ((inv_nil.perm hp).incr_of_le hs)
  subst hcn
  refine ⟨_, rfl, ?_, ?_⟩
  · exact sorted_own hgb hh hcap hm hsz hp.length_eq.symm
  · exact sorted_below hbw hgb hbw.size

/-- Cells at whatever slice reads as a list. -/
theorem cells_any (v : Value) (l : List (BitVec 256)) (w : World) (hv : IsC w v l) (hl : l.length ≤ 1000) (hT : TabAt 0 Lib.deBruijn64tab w) (hg0 : 0 < w.heap.size) :
    Calls Tryd.prog 31 #[v] w fun e w' =>
      ∃ v, e = .returned v ∧ w'.ownsRow w.heap.size 24 4 v (canon l).length ((canon l).flatMap encC) ∧ Below w.heap.size w w' := by
  rcases hv with ⟨rfl, p, cap, rfl⟩ | ⟨blk, off, cap, rfl, hR⟩
  · exact cells_nil p cap w hT hg0
  · exact cells_some blk off cap l w hR hl hT hg0
end Go.Proofs.YthhlehhienndeaaDoor
