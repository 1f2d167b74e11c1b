/-
  Texts of the proof, one behind another: Bo, Ka, Kc, Ca, Cd, Kx.
-/
import Derived.Test.YtkhphiilnplgjaaGreatDoorQag
import Derived.Test.YtkhphiilnplgjaaGreatDoorQaa
import Derived.WalkSpells
import Derived.WalkLawsBesides
import Derived.Handy
import Derived.Lib.Hide
import Derived.Test.YtkhphiilnplgjaaGreatDoorQab
import Derived.WalkKit
import Derived.Laws.Tables
import Derived.Laws.Cover2
set_option linter.unusedSimpArgs false
set_option linter.unusedVariables false
namespace Go.Proofs.YtkhphiilnplgjaaGreatDoor
open Go.RowKit Go.Lib

theorem ret_bool {a b : Bool} (h : a = b) : Ending.returned (.bool a) = .returned (.bool b) := by rw [h]
theorem ret_int {k : IntKind} {a b : Int} (h : a = b) : Ending.returned (.int k a) = .returned (.int k b) := by rw [h]
theorem lt_of_cell {w : World} {a : Addr} {v : Value} (h : w.cell? a = some v) : a.block < w.heap.size := by
  rcases Nat.lt_or_ge a.block w.heap.size with hlt | hge
  · exact hlt
  · unfold World.cell? at h; rw [Array.getElem?_eq_none hge] at h; cases h
theorem below_drews {B : Nat} {a w : World} (h : Below B a w) (n : Nat) : Below B a (w.drewN n) := ⟨h.os, h.tape, h.output, h.size, h.block⟩
theorem below_one {w w1 : World} {o : Obj} (hb : Below (w.alloc o).heap.size (w.alloc o) w1) : Below w.heap.size w w1 := ((Below.refl _ w).alloc (Nat.le_refl _) o).trans (hb.mono (by simp))
theorem below_two {w w1 w2 : World} (h : Below w.heap.size w w1) (hb : Below w1.heap.size w1 w2) : Below w.heap.size w w2 := h.trans (hb.mono h.size)
theorem get_of_lt {α : Type} {l : List α} {k : Nat} (h : k < l.length) : ∃ c, l[k]? = Option.some c := ⟨_, List.getElem?_eq_getElem h⟩
theorem getD_of {l : List Bool} {k : Nat} {b : Bool} (h : l[k]? = some b) : l.getD k false = b := by rw [List.getD_eq_getElem?_getD, h]; rfl
theorem get_getD {l : List Bool} {k : Nat} (h : k < l.length) : l[k]? = some (l.getD k false) := by rw [List.getD_eq_getElem?_getD, List.getElem?_eq_getElem h]; rfl

/-- these booleans stand one behind the other from there on. -/
def ReadsB (w : World) (blk off : Nat) (l : List Bool) : Prop := ∀ j, j < l.length → w.cell? ⟨blk, off + j, none⟩ = some (.bool (l.getD j false))
/-- the value is a slice that reads as these booleans. -/
def IsB (w : World) (v : Value) (l : List Bool) : Prop :=
  (l = [] ∧ ∃ p cap, v = .slice p 0 cap ∧ (p = none → cap = 0)) ∨ ∃ blk off cap, v = .slice (some ⟨blk, off, none⟩) l.length cap ∧ l.length ≤ cap ∧ ReadsB w blk off l
theorem IsB.shape {w : World} {v : Value} {l : List Bool} (h : IsB w v l) : ∃ p cap, v = .slice p l.length cap := by
  rcases h with ⟨rfl, p, cap, rfl, _⟩ | ⟨blk, off, cap, rfl, _⟩
  · exact ⟨p, cap, rfl⟩
  · exact ⟨_, _, rfl⟩
theorem IsB.kept {w w' : World} {v : Value} {l : List Bool} (h : IsB w v l) (hk : ∀ a u, w.cell? a = some u → w'.cell? a = some u) : IsB w' v l := by
  rcases h with h | ⟨blk, off, cap, rfl, hc, h⟩
  · exact .inl h
  · exact .inr ⟨blk, off, cap, rfl, hc, fun j hj => hk _ _ (h j hj)⟩
theorem IsB.grows {w w' : World} {v : Value} {l : List Bool} (h : IsB w v l) (hb : Below w.heap.size w w') : IsB w' v l :=
  h.kept fun _ _ hc => (hb.cell (lt_of_cell hc)).trans hc
theorem IsB.below {w w' : World} {v : Value} {l : List Bool} {B : Nat} (h : IsB w v l) (hb : Below B w w') (hB : w.heap.size ≤ B) : IsB w' v l := h.grows (hb.mono hB)
theorem IsB.some {w : World} {v : Value} {l : List Bool} (h : IsB w v l) (hz : 0 < l.length) : ∃ blk off cap, v = .slice (some ⟨blk, off, none⟩) l.length cap ∧ l.length ≤ cap ∧ ReadsB w blk off l := by
  rcases h with ⟨rfl, _⟩ | h
  · simp at hz
  · exact h
theorem IsB.at {w : World} {p : Option Addr} {n cap : Nat} {l : List Bool} (h : IsB w (.slice p n cap) l) {k : Nat} (hk : k < l.length) :
    ∃ blk off, p = .some ⟨blk, off, none⟩ ∧ w.cell? ⟨blk, off + k, none⟩ = .some (.bool (l.getD k false)) := by
  rcases h with ⟨rfl, _⟩ | ⟨blk, off, cap, he, _, hc⟩
  · simp at hk
  · simp only [Value.slice.injEq] at he
    exact ⟨blk, off, he.1, hc k hk⟩
theorem ReadsB.drop {w : World} {blk off : Nat} {l : List Bool} (h : ReadsB w blk off l) (k : Nat) : ReadsB w blk (off + k) (l.drop k) := by
  intro j hj
  rw [List.length_drop] at hj
  have := h (k + j) (by omega)
  rw [getD_drop, Nat.add_assoc]; exact this
theorem ReadsB.take {w : World} {blk off : Nat} {l : List Bool} (h : ReadsB w blk off l) (k : Nat) : ReadsB w blk off (l.take k) := by
  intro j hj
  rw [List.length_take] at hj
  rw [getD_take _ _ _ (by omega)]; exact h j (by omega)

/-- what is owned reads. -/
theorem own_isB {w : World} {base : Nat} {e : TypeId} {v : Value} {l : List Bool} (h : w.ownsRow base e 1 v l.length (l.map Value.bool)) : IsB w v l := by
  obtain ⟨hl, ⟨rfl, hn⟩ | ⟨g, cap, cur, rfl, hg, hh, hcap, hm, hsz, htk⟩⟩ := h
  · exact .inl ⟨List.length_eq_zero_iff.1 hn, none, 0, rfl, fun _ => rfl⟩
  · refine .inr ⟨g, 0, cap, rfl, hcap, fun j hj => ?_⟩
    rw [Nat.zero_add]
    refine Blk.cell (vs := cur) (t := e) ⟨hh⟩ j ?_
    have h2 := congrArg (fun q => q[j]?) htk
    rw [List.getElem?_take_of_lt (by omega), List.getElem?_map, get_getD hj] at h2
    simpa using h2
theorem own_shape {w : World} {base : Nat} {e : TypeId} {size : Nat} {v : Value} {n : Nat} {xs : List Value} (h : w.ownsRow base e size v n xs) : ∃ p cap, v = .slice p n cap := by
  rcases h.2 with ⟨rfl, rfl⟩ | ⟨g, cap, cur, rfl, _⟩
  · exact ⟨_, _, rfl⟩
  · exact ⟨_, _, rfl⟩
/-- the element type's table. -/
theorem infoBool : (Tryz.prog.info? 4).map (fun i => (i.zero, i.size, i.bytes)) = some (some (.bool false), 1, 1) := by kernel_rfl
theorem info_parts {T : TypeId} {z : Value} {s b : Nat} (h : (Tryz.prog.info? T).map (fun i => (i.zero, i.size, i.bytes)) = some (some z, s, b)) : ∃ i0, Tryz.prog.info? T = some i0 ∧ i0.zero = some z ∧ i0.size = s ∧ i0.bytes = b := by
  cases hi : Tryz.prog.info? T with
  | none => rw [hi] at h; cases h
  | some i => rw [hi] at h; simp only [Option.map_some, Option.some.injEq, Prod.mk.injEq] at h; exact ⟨i, rfl, h.1, h.2.1, h.2.2⟩
/-- the value is a set with this head and cycle. -/
def IsSet (w : World) (v : Value) (h c : List Bool) : Prop := ∃ vh vc, v = .agg #[vh, vc] ∧ IsB w vh h ∧ IsB w vc c
theorem IsSet.kept {w w' : World} {v : Value} {h c : List Bool} (a : IsSet w v h c) (hk : ∀ a u, w.cell? a = some u → w'.cell? a = some u) : IsSet w' v h c := by
  obtain ⟨vh, vc, rfl, a1, a2⟩ := a
  exact ⟨vh, vc, rfl, a1.kept hk, a2.kept hk⟩
theorem IsSet.grows {w w' : World} {v : Value} {h c : List Bool} (a : IsSet w v h c) (hb : Below w.heap.size w w') : IsSet w' v h c :=
  a.kept fun _ _ hc => (hb.cell (lt_of_cell hc)).trans hc
theorem IsSet.shape {w : World} {v : Value} {h c : List Bool} (a : IsSet w v h c) : ∃ hp hk cp ck, v = .agg #[.slice hp h.length hk, .slice cp c.length ck] ∧ IsB w (.slice hp h.length hk) h ∧ IsB w (.slice cp c.length ck) c := by
  obtain ⟨vh, vc, rfl, a1, a2⟩ := a
  obtain ⟨hp, hk, rfl⟩ := a1.shape
  obtain ⟨cp, ck, rfl⟩ := a2.shape
  exact ⟨hp, hk, cp, ck, rfl, a1, a2⟩
end Go.Proofs.YtkhphiilnplgjaaGreatDoor

namespace Go.Proofs.YtkhphiilnplgjaaGreatDoor
open Go.RowKit

theorem agg4 {a b c d a' b' c' d' : Int} (h0 : a = a') (h1 : b = b') (h2 : c = c') (h3 : d = d') :
    Ending.returned (.agg #[.int .u64 a, .int .u64 b, .int .u64 c, .int .u64 d]) = .returned (.agg #[.int .u64 a', .int .u64 b', .int .u64 c', .int .u64 d']) := by
  rw [h0, h1, h2, h3]
theorem byte_mod (b : Int) (h0 : 0 ≤ b) : (b % 64).toNat = b.toNat % 64 := by omega
theorem has_and' (x : BitVec 256) (b : Int) (h0 : 0 ≤ b) (q : Nat) (hq : b / 64 = q) : (bits .and .u64 (wd x q / 2 ^ (b % 64).toNat) 1 == 1) = x.getLsbD b.toNat := by
  rw [byte_mod b h0, ← has_and x b.toNat, show b.toNat / 64 = q by omega]
theorem has_mod' (x : BitVec 256) (b : Int) (h0 : 0 ≤ b) (q : Nat) (hq : b / 64 = q) : ((wd x q / 2 ^ (b % 64).toNat).tmod 2 == 1) = x.getLsbD b.toNat := by
  rw [Int.tmod_eq_emod_of_nonneg (Int.ediv_nonneg (wd_nonneg x q) (Int.pow_nonneg (by decide))), byte_mod b h0, ← has_mod x b.toNat, show b.toNat / 64 = q by omega]
theorem byte_div (b : Int) (h0 : 0 ≤ b) {q : Int} (hq : b / 64 = q) : b.toNat / 64 = q.toNat := by omega
theorem same_of (x : BitVec 256) (b : Int) (h0 : 0 ≤ b) (h1 : b < 256) (q : Nat) (hq : b / 64 = q) :
    bits .or .u64 (wd x q) (IntKind.u64.wrap (2 ^ (b % 64).toNat)) = wd (x ||| bit b.toNat) q := by
  rw [byte_mod b h0]; exact wd_with_same x b.toNat (by omega) q (by omega)
theorem other_of (x : BitVec 256) (b : Int) (h0 : 0 ≤ b) (h1 : b < 256) (q : Nat) (hq : b / 64 ≠ q) : wd x q = wd (x ||| bit b.toNat) q :=
  (wd_with_other x b.toNat (by omega) q (by omega)).symm

end Go.Proofs.YtkhphiilnplgjaaGreatDoor

namespace Go.Proofs.YtkhphiilnplgjaaGreatDoor
open Go.RowKit

/-- the class of a list of bytes. -/
def ofL (l : List Int) : BitVec 256 := l.foldl (fun c b => c ||| bit b.toNat) 0
theorem ofL_nil : ofL [] = 0 := rfl
theorem ofL_snoc (l : List Int) (b : Int) : ofL (l ++ [b]) = ofL l ||| bit b.toNat := by unfold ofL; rw [List.foldl_append]; rfl
theorem ofL_take (zs : List Int) (k : Nat) (h : k < zs.length) : ofL (zs.take (k + 1)) = ofL (zs.take k) ||| bit (zs.getD k 0).toNat := by
  rw [List.take_succ_eq_append_getElem h, ofL_snoc, List.getD_eq_getElem?_getD, List.getElem?_eq_getElem h]; rfl

theorem clsSize : (Tryz.prog.info? 27).map (·.size) = some 4 := by kernel_rfl

end Go.Proofs.YtkhphiilnplgjaaGreatDoor

namespace Go.Proofs.YtkhphiilnplgjaaGreatDoor
open Go.RowKit

set_option maxHeartbeats 400000 in
theorem with_any (x : BitVec 256) (b : Int) (w : World) (h0 : 0 ≤ b) (h1 : b < 256) :
    Calls Tryz.prog 58 #[.agg #[.int .u64 (wd x 0), .int .u64 (wd x 1), .int .u64 (wd x 2), .int .u64 (wd x 3)], .int .u8 b] w fun e w' => e = .returned (.agg #[.int .u64 (wd (x ||| bit b.toNat) 0), .int .u64 (wd (x ||| bit b.toNat) 1), .int .u64 (wd (x ||| bit b.toNat) 2), .int .u64 (wd (x ||| bit b.toNat) 3)]) ∧ Below w.heap.size w w' := by
  have hq : b / 64 = 0 ∨ b / 64 = 1 ∨ b / 64 = 2 ∨ b / 64 = 3 := by omega
  rcases hq with hq | hq | hq | hq
  all_goals
    go_enter Tryz.func58, Tryz.ntmps58
    go_wp2
    go_returns
    refine ⟨agg4 ?_ ?_ ?_ ?_, ?_⟩
  all_goals first | exact same_of x b h0 h1 _ hq | (refine other_of x b h0 h1 _ ?_; omega) | go_grown

set_option maxHeartbeats 400000 in
theorem has_any (x : BitVec 256) (b : Int) (w : World) (h0 : 0 ≤ b) (h1 : b < 256) :
    Calls Tryz.prog 39 #[.agg #[.int .u64 (wd x 0), .int .u64 (wd x 1), .int .u64 (wd x 2), .int .u64 (wd x 3)], .int .u8 b] w fun e w' => e = .returned (.bool (mem x b.toNat)) ∧ Below w.heap.size w w' := by
  have hq : b / 64 = 0 ∨ b / 64 = 1 ∨ b / 64 = 2 ∨ b / 64 = 3 := by omega
  rcases hq with hq | hq | hq | hq
  all_goals
    go_enter Tryz.func39, Tryz.ntmps39
    go_wp2
    go_returns
    refine ⟨ret_bool (has_and' x b h0 _ hq), ?_⟩
    go_grown

end Go.Proofs.YtkhphiilnplgjaaGreatDoor

namespace Go.Proofs.YtkhphiilnplgjaaGreatDoor
open Go.RowKit

set_option maxHeartbeats 400000 in
theorem of_any (blk off len cap : Nat) (zs : List Int) (w : World) (hlen : len ≤ zs.length) (hm : zs.length ≤ 9223372036854775807) (hblk : blk < w.heap.size)
    (hc : ∀ k, k < zs.length → w.cell? ⟨blk, off + k, none⟩ = some (.int .u8 (zs.getD k 0))) (hb : ∀ k, k < zs.length → 0 ≤ zs.getD k 0 ∧ zs.getD k 0 < 256) :
    Calls Tryz.prog 106 #[.slice (some ⟨blk, off, none⟩) len cap] w fun e w' => e = .returned (.agg #[.int .u64 (wd (ofL (zs.take len)) 0), .int .u64 (wd (ofL (zs.take len)) 1), .int .u64 (wd (ofL (zs.take len)) 2), .int .u64 (wd (ofL (zs.take len)) 3)]) ∧ Below w.heap.size w w' := by
  go_enter Tryz.func106, Tryz.ntmps106
  go_wp2
  go_loopw [8] (fun i wr => ∃ k : Nat, k ≤ len ∧ i = .int .i64 k ∧ Blk wr (w.heap.size + 1) #[.int .u64 (wd (ofL (zs.take k)) 0), .int .u64 (wd (ofL (zs.take k)) 1), .int .u64 (wd (ofL (zs.take k)) 2), .int .u64 (wd (ofL (zs.take k)) 3)] 27 ∧ Blk wr w.heap.size #[.int .u64 0, .int .u64 0, .int .u64 0, .int .u64 0] 27 ∧ Below w.heap.size w wr) (fun i _ => len - (intOf i).toNat)
  case atStart =>
    refine ⟨0, Nat.zero_le _, rfl, ?_, ?_, ?_⟩
    · simp only [List.take_zero, ofL_nil, wd_zero]; exact Blk.alloc1 w _ _ _ _ _
    · exact (Blk.new w _ _).alloc _
    · go_grown
  case round =>
    obtain ⟨k, hk, rfl, hB1, hB0, hbw⟩ := hrel
    obtain ⟨c0, c1, c2, c3, f0, f1, f2, f3⟩ := hB1.four
    obtain ⟨d0, d1, d2, d3, g0, g1, g2, g3⟩ := hB0.four
    by_cases hlt : k < len
    · have hcell : wr.cell? ⟨blk, off + k, none⟩ = some (.int .u8 (zs.getD k 0)) := (hbw.cell (p := ⟨blk, off + k, none⟩) hblk).trans (hc k (by omega))
      obtain ⟨z0, z1⟩ := hb k (by omega)
      have hs := ofL_take zs k (by omega)
      have HS := Lib.hid hs
      clear hs hc hb
      generalize zs.getD k 0 = z at hcell z0 z1 HS
      generalize ofL (zs.take k) = x at c0 c1 c2 c3 HS hB1
      go_wp2_with (go_at_call 58; refine (with_any x z _ z0 z1).mono ?_; rintro e w1 ⟨rfl, hb1⟩; obtain ⟨c0, c1, c2, c3, f0, f1, f2, f3⟩ := (hB1.grows hb1).four)
      go_roundw
      case rel => 
        exact ⟨k + 1, by omega, by go_num, by rw [HS.out]; exact (hB1.grows hb1).set4 _ _ _ _, (hB0.grows hb1).other4 (by omega) _ _ _ _, below_set4 (hbw.trans (hb1.mono hbw.size)) (by omega) _ _ _ _⟩
      case measure => simp [intOf]; omega
    · obtain rfl : k = len := by omega
      go_wp2
      refine bodyPost_ret (results_cell_row rfl _ _ w.heap.size 27 _ (0, 0) _ rfl (hB0.set4 _ _ _ _).is Tryz.underlying27 rfl clsSize) rfl ⟨rfl, below_set4 hbw (Nat.le_refl _) _ _ _ _⟩
end Go.Proofs.YtkhphiilnplgjaaGreatDoor

namespace Go.Proofs.YtkhphiilnplgjaaGreatDoor
open Go.RowKit

theorem eq_arr (a0 a1 a2 a3 b0 b1 b2 b3 : Int) (w : World) :
    (Op.equalIn 10000 27 (.agg #[.int .u64 a0, .int .u64 a1, .int .u64 a2, .int .u64 a3]) (.agg #[.int .u64 b0, .int .u64 b1, .int .u64 b2, .int .u64 b3])).run Tryz.prog w =
      .ok (a0 == b0 && (a1 == b1 && (a2 == b2 && a3 == b3))) w := by
  have ut := Tryz.underlying27
  have ue := Tryz.underlying25
  have ae := Tryz.isAgg25
  have ze := Tryz.sizeOf25
  rw [show (10000 : Nat) = 9999 + 1 from rfl, Op.equalIn]
  simp only [Sem.run_bind, run_underlying ut, Result.andThen_ok]
  simp only [Std.Legacy.Range.forIn_eq_forIn_range', Std.Legacy.Range.size, Nat.sub_zero, Nat.add_sub_cancel, Nat.div_one, List.range'_succ, List.range'_zero, List.forIn_cons, List.forIn_nil]
  go_simp
  by_cases h0 : a0 = b0 <;> by_cases h1 : a1 = b1 <;> by_cases h2 : a2 = b2 <;> by_cases h3 : a3 = b3 <;> simp [h0, h1, h2, h3]
/-- .. as classes. -/
theorem eq_cls (x y : BitVec 256) (w : World) : (Op.equalIn 10000 27 (.agg #[.int .u64 (wd x 0), .int .u64 (wd x 1), .int .u64 (wd x 2), .int .u64 (wd x 3)]) (.agg #[.int .u64 (wd y 0), .int .u64 (wd y 1), .int .u64 (wd y 2), .int .u64 (wd y 3)])).run Tryz.prog w = .ok (decide (x = y)) w := by
  rw [eq_arr]
  congr 1
  by_cases h : x = y
  · subst h; simp
  · have hn : ¬ (wd x 0 = wd y 0 ∧ wd x 1 = wd y 1 ∧ wd x 2 = wd y 2 ∧ wd x 3 = wd y 3) := fun ⟨h0, h1, h2, h3⟩ => h (wd_ext4 h0 h1 h2 h3)
    rw [decide_eq_false h]
    simp only [Bool.and_eq_false_iff, beq_eq_false_iff_ne, ne_eq]
    omega
theorem eq_cls0 (x : BitVec 256) (w : World) : (Op.equalIn 10000 27 (.agg #[.int .u64 (wd x 0), .int .u64 (wd x 1), .int .u64 (wd x 2), .int .u64 (wd x 3)]) (.agg #[.int .u64 0, .int .u64 0, .int .u64 0, .int .u64 0])).run Tryz.prog w = .ok (decide (x = 0)) w := by
  have h := eq_cls x 0 w
  simp only [wd_zero] at h
  exact h
end Go.Proofs.YtkhphiilnplgjaaGreatDoor
