/-
  Walks: the reference's Index, Same and Alike.
-/
import Derived.Test.YthhlehhienndeaaDoorZ
set_option linter.unusedSimpArgs false
set_option linter.unusedVariables false
namespace Go.Proofs.YthhlehhienndeaaDoor
open Go.RowKit Go.Shelf Go.Lib

/-- whatever the slice, its shape. -/
theorem IsC.shape {w : World} {v : Value} {l : List (BitVec 256)} (h : IsC w v l) : ∃ p cap, v = .slice p l.length cap := by
  rcases h with ⟨rfl, p, cap, rfl⟩ | ⟨blk, off, cap, rfl, _⟩
  · exact ⟨p, cap, rfl⟩
  · exact ⟨_, _, rfl⟩
theorem IsC.some {w : World} {v : Value} {l : List (BitVec 256)} (h : IsC w v l) (h0 : l ≠ []) : ∃ blk off cap, v = .slice (some ⟨blk, off, none⟩) l.length cap ∧ ReadsC w blk off l := by
  rcases h with ⟨h, _⟩ | h
  · exact (h0 h).elim
  · exact h
theorem get_of_lt {l : List (BitVec 256)} {k : Nat} (h : k < l.length) : ∃ x, l[k]? = some x := ⟨_, List.getElem?_eq_getElem h⟩
theorem get_bang {l : List (BitVec 256)} {k : Nat} {x : BitVec 256} (h : l[k]? = some x) : l[k]! = x := by
  obtain ⟨h1, h2⟩ := List.getElem?_eq_some_iff.1 h
  rw [getElem!_pos l k h1]; exact h2
theorem ix_hit {l : List (BitVec 256)} {b k : Nat} {x : BitVec 256} (hx : l[k]? = some x) (hm : mem x b = true) (hn : ∀ j, j < k → ∀ y, l[j]? = some y → mem y b = false) : ix l b = k := by
  have hk : k < l.length := (List.getElem?_eq_some_iff.1 hx).1
  have h := idxBy_hit (fun _ y => mem y b) l l.length k (default : BitVec 256) hk (Nat.le_refl _) (by rw [get_bang hx]; exact hm) (fun j hj => by
    obtain ⟨y, hy⟩ := get_of_lt (Nat.lt_trans hj hk); rw [get_bang hy]; exact hn j hj y hy)
  rw [List.take_length] at h; exact h
theorem ix_miss {l : List (BitVec 256)} {b : Nat} (hn : ∀ j, j < l.length → ∀ y, l[j]? = some y → mem y b = false) : ix l b = -1 := by
  have h := idxBy_miss (fun _ y => mem y b) l l.length (default : BitVec 256) (fun j hj => by
    obtain ⟨y, hy⟩ := get_of_lt hj; rw [get_bang hy]; exact hn j hj y hy)
  rw [List.take_length] at h; exact h

def NoneHas (l : List (BitVec 256)) (b k : Nat) : Prop := ∀ j, j < k → ∀ y, l[j]? = some y → mem y b = false

set_option maxRecDepth 100000 in
set_option maxHeartbeats 1000000 in
theorem rindex_any (v : Value) (l : List (BitVec 256)) (b : Int) (h0 : 0 ≤ b) (h1 : b < 256) (w : World) (hv : IsC w v l) (hl : l.length ≤ 1000) :
    Calls Tryd.prog 34 #[v, .int .u8 b] w fun e w' => e = .returned (.int .i64 (ix l b.toNat)) ∧ Below w.heap.size w w' := by
  by_cases hz : l = []
  · subst hz
    obtain ⟨p, cap, rfl⟩ := hv.shape
    have HI := Lib.hid (show ix [] b.toNat = -1 from rfl)
    simp only [List.length_nil]
    go_enter Tryd.func34, Tryd.ntmps34
    go_wp2_with fail
    refine wp_loop_rounds 1 ?_
    rw [rounds_succ]
    go_wp2_with fail
    go_ret
    exact ⟨ret_int HI.out.symm, Below.refl _ _⟩
  · obtain ⟨blk, off, cap, rfl, hR⟩ := hv.some hz
    have HR := Lib.hid hR
    clear hR hv
    go_enter Tryd.func34, Tryd.ntmps34
    go_wp2_with fail
    go_loopw [5] (fun i wr => ∃ k : Nat, k ≤ l.length ∧ i = .int .i64 k ∧ NoneHas l b.toNat k ∧ Below w.heap.size w wr) (fun i _ => l.length - (intOf i).toNat)
    case atStart => exact ⟨0, Nat.zero_le _, rfl, fun j hj => by omega, Below.refl _ _⟩
    case round =>
      obtain ⟨k, hk, rfl, hno, hbw⟩ := hrel
      have HN := Lib.hid hno
      clear hno
      by_cases hlt : k < l.length
      · obtain ⟨c, hc⟩ := get_of_lt hlt
        obtain ⟨a0, a1, a2, a3⟩ := HR.out.four k c hc
        have hlk := lt_of_cell a0
        have a0 := (hbw.cell (p := ⟨blk, off + k * 4, none⟩) hlk).trans a0
        have a1 := (hbw.cell (p := ⟨blk, off + k * 4 + 1, none⟩) hlk).trans a1
        have a2 := (hbw.cell (p := ⟨blk, off + k * 4 + 2, none⟩) hlk).trans a2
        have a3 := (hbw.cell (p := ⟨blk, off + k * 4 + 3, none⟩) hlk).trans a3
        cases hm : mem c b.toNat
        · have HN2 := Lib.hid (show NoneHas l b.toNat (k + 1) from fun j hj y hy => by
            rcases Nat.lt_or_ge j k with h | h
            · exact HN.out j h y hy
            · obtain rfl : j = k := by omega
              rw [hc] at hy; cases hy; exact hm)
          clear hc hz HN
          go_wp2_with (go_at_call 41; refine (rhas_any c b _ h0 h1).mono ?_; rintro e w1 ⟨rfl, hb1⟩)
          go_roundw
          case rel => exact ⟨k + 1, by omega, by go_num, HN2.out, hbw.trans (hb1.mono hbw.size)⟩
          case measure => simp [intOf]; omega
        · have HI := Lib.hid (ix_hit hc hm HN.out)
          clear hc hz HN
          go_wp2_with (go_at_call 41; refine (rhas_any c b _ h0 h1).mono ?_; rintro e w1 ⟨rfl, hb1⟩)
          go_ret
          exact ⟨ret_int HI.out.symm, hbw.trans (hb1.mono hbw.size)⟩
      · have HI := Lib.hid (ix_miss (l := l) (b := b.toNat) fun j hj y hy => HN.out j (by omega) y hy)
        clear hz HN
        go_wp2
        go_ret
        exact ⟨ret_int HI.out.symm, hbw⟩

theorem alike_nil (i j : Nat) : alike [] i j = true := rfl
def AllAlike (l : List (BitVec 256)) (a b k : Nat) : Prop := ∀ j, j < k → ∀ y, l[j]? = some y → mem y a = mem y b
theorem alike_of_all {l : List (BitVec 256)} {a b : Nat} (h : AllAlike l a b l.length) : alike l a b = true := by
  rw [alike_iff]; intro c hc
  obtain ⟨j, hj, rfl⟩ := List.mem_iff_getElem.1 hc
  exact h j hj _ (List.getElem?_eq_getElem hj)
theorem alike_not {l : List (BitVec 256)} {a b k : Nat} {c : BitVec 256} (hc : l[k]? = some c) (h : mem c a ≠ mem c b) : alike l a b = false := by
  cases ha : alike l a b with
  | false => rfl
  | true => exact (h ((alike_iff l a b).1 ha c (List.mem_of_getElem? hc))).elim

set_option maxRecDepth 100000 in
set_option maxHeartbeats 1000000 in
theorem ralike_any (v : Value) (l : List (BitVec 256)) (a b : Int) (ha0 : 0 ≤ a) (ha1 : a < 256) (h0 : 0 ≤ b) (h1 : b < 256) (w : World) (hv : IsC w v l) (hl : l.length ≤ 1000) :
    Calls Tryd.prog 50 #[v, .int .u8 a, .int .u8 b] w fun e w' => e = .returned (.bool (alike l a.toNat b.toNat)) ∧ Below w.heap.size w w' := by
  by_cases hz : l = []
  · subst hz
    obtain ⟨p, cap, rfl⟩ := hv.shape
    have HI := Lib.hid (alike_nil a.toNat b.toNat)
    simp only [List.length_nil]
    go_enter Tryd.func50, Tryd.ntmps50
    go_wp2_with fail
    refine wp_loop_rounds 1 ?_
    rw [rounds_succ]
    go_wp2_with fail
    go_ret
    exact ⟨ret_bool HI.out.symm, Below.refl _ _⟩
  · obtain ⟨blk, off, cap, rfl, hR⟩ := hv.some hz
    have HR := Lib.hid hR
    clear hR hv
    go_enter Tryd.func50, Tryd.ntmps50
    go_wp2_with fail
    go_loopw [7] (fun i wr => ∃ k : Nat, k ≤ l.length ∧ i = .int .i64 k ∧ AllAlike l a.toNat b.toNat k ∧ Below w.heap.size w wr) (fun i _ => l.length - (intOf i).toNat)
    case atStart => exact ⟨0, Nat.zero_le _, rfl, fun j hj => by omega, Below.refl _ _⟩
    case round =>
      obtain ⟨k, hk, rfl, hno, hbw⟩ := hrel
      have HN := Lib.hid hno
      clear hno
      by_cases hlt : k < l.length
      · obtain ⟨c, hc⟩ := get_of_lt hlt
        obtain ⟨a0, a1, a2, a3⟩ := (HR.out.grows (hbw.mono (Nat.le_refl _))).four k c hc
        have hlk := lt_of_cell a0
        have HA := Lib.hid (And.intro a0 (And.intro a1 (And.intro a2 a3)))
        have HB := Lib.hid (And.intro hc HN.out)
        have hlk2 : blk < w.heap.size := by
          obtain ⟨x, hx⟩ := get_of_lt hlt; exact lt_of_cell (HR.out k x hx 0 _ rfl)
        by_cases hab : mem c a.toNat = mem c b.toNat
        · have hne : (mem c a.toNat == mem c b.toNat) = true := by rw [hab]; simp
          have HN2 := Lib.hid (show AllAlike l a.toNat b.toNat (k + 1) from fun j hj y hy => by
            rcases Nat.lt_or_ge j k with h | h
            · exact HN.out j h y hy
            · obtain rfl : j = k := by omega
              rw [hc] at hy; cases hy; exact hab)
          clear hc hz HN hab HB
          go_wp2_with fail
          go_region_held3 (fun W => W.cell? ⟨blk, off + k * 4, none⟩ = some (.int .u64 (wd c 0)) ∧ W.cell? ⟨blk, off + k * 4 + 1, none⟩ = some (.int .u64 (wd c 1)) ∧ W.cell? ⟨blk, off + k * 4 + 2, none⟩ = some (.int .u64 (wd c 2)) ∧ W.cell? ⟨blk, off + k * 4 + 3, none⟩ = some (.int .u64 (wd c 3)))
            (first | exact HA.out | exact HA1.out | exact HA2.out)
            (first
              | (go_at_call_of 41 (Value.int IntKind.u8 a); refine (rhas_any c a _ ha0 ha1).mono ?_; rintro e w1 ⟨rfl, hb1⟩; have HA1 := Lib.hid (And.intro ((hb1.cell (p := ⟨blk, off + k * 4, none⟩) hlk).trans HA.out.1) (And.intro ((hb1.cell (p := ⟨blk, off + k * 4 + 1, none⟩) hlk).trans HA.out.2.1) (And.intro ((hb1.cell (p := ⟨blk, off + k * 4 + 2, none⟩) hlk).trans HA.out.2.2.1) ((hb1.cell (p := ⟨blk, off + k * 4 + 3, none⟩) hlk).trans HA.out.2.2.2)))))
              | (go_at_call_of 41 (Value.int IntKind.u8 b); refine (rhas_any c b _ h0 h1).mono ?_; rintro e w2 ⟨rfl, hb2⟩; have hlk2 : blk < w1.heap.size := Nat.lt_of_lt_of_le hlk hb1.size; have HA2 := Lib.hid (And.intro ((hb2.cell (p := ⟨blk, off + k * 4, none⟩) hlk2).trans HA1.out.1) (And.intro ((hb2.cell (p := ⟨blk, off + k * 4 + 1, none⟩) hlk2).trans HA1.out.2.1) (And.intro ((hb2.cell (p := ⟨blk, off + k * 4 + 2, none⟩) hlk2).trans HA1.out.2.2.1) ((hb2.cell (p := ⟨blk, off + k * 4 + 3, none⟩) hlk2).trans HA1.out.2.2.2))))))
          go_wp2
          exact ⟨⟨k + 1, by omega, by go_num, HN2.out, (hbw.drew.trans (hb1.mono hbw.size)).trans (hb2.mono (by have h3 := hbw.size; have h4 := hb1.size; simp at h4; omega))⟩, by simp [intOf]; omega⟩
        · have hne : (mem c a.toNat == mem c b.toNat) = false := by rw [beq_eq_false_iff_ne]; exact hab
          have HI := Lib.hid (alike_not hc hab)
          clear hc hz HN hab HB
          go_wp2_with fail
          go_region_held3 (fun W => W.cell? ⟨blk, off + k * 4, none⟩ = some (.int .u64 (wd c 0)) ∧ W.cell? ⟨blk, off + k * 4 + 1, none⟩ = some (.int .u64 (wd c 1)) ∧ W.cell? ⟨blk, off + k * 4 + 2, none⟩ = some (.int .u64 (wd c 2)) ∧ W.cell? ⟨blk, off + k * 4 + 3, none⟩ = some (.int .u64 (wd c 3)))
            (first | exact HA.out | exact HA1.out | exact HA2.out)
            (first
              | (go_at_call_of 41 (Value.int IntKind.u8 a); refine (rhas_any c a _ ha0 ha1).mono ?_; rintro e w1 ⟨rfl, hb1⟩; have HA1 := Lib.hid (And.intro ((hb1.cell (p := ⟨blk, off + k * 4, none⟩) hlk).trans HA.out.1) (And.intro ((hb1.cell (p := ⟨blk, off + k * 4 + 1, none⟩) hlk).trans HA.out.2.1) (And.intro ((hb1.cell (p := ⟨blk, off + k * 4 + 2, none⟩) hlk).trans HA.out.2.2.1) ((hb1.cell (p := ⟨blk, off + k * 4 + 3, none⟩) hlk).trans HA.out.2.2.2)))))
              | (go_at_call_of 41 (Value.int IntKind.u8 b); refine (rhas_any c b _ h0 h1).mono ?_; rintro e w2 ⟨rfl, hb2⟩; have hlk2 : blk < w1.heap.size := Nat.lt_of_lt_of_le hlk hb1.size; have HA2 := Lib.hid (And.intro ((hb2.cell (p := ⟨blk, off + k * 4, none⟩) hlk2).trans HA1.out.1) (And.intro ((hb2.cell (p := ⟨blk, off + k * 4 + 1, none⟩) hlk2).trans HA1.out.2.1) (And.intro ((hb2.cell (p := ⟨blk, off + k * 4 + 2, none⟩) hlk2).trans HA1.out.2.2.1) ((hb2.cell (p := ⟨blk, off + k * 4 + 3, none⟩) hlk2).trans HA1.out.2.2.2))))))
          go_wp2
          go_ret
          exact ⟨ret_bool HI.out.symm, (hbw.drew.trans (hb1.mono hbw.size)).trans (hb2.mono (by have h3 := hbw.size; have h4 := hb1.size; simp at h4; omega))⟩
      · have HI := Lib.hid (alike_of_all (l := l) (a := a.toNat) (b := b.toNat) fun j hj y hy => HN.out j (by omega) y hy)
        clear hz HN
        go_wp2
        go_ret
        exact ⟨ret_bool HI.out.symm, hbw⟩
end Go.Proofs.YthhlehhienndeaaDoor
