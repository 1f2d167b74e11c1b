/-
  Texts of the proof, one behind another: Ph, Va.
-/
import Derived.Test.YtgbbjobmcbdhdaaGreatDoorYbd
import Derived.Deep.RegionLaw
import Derived.Deep.AppendLies
import Derived.Maps.AppendAt
set_option linter.unusedSimpArgs false
set_option linter.unusedVariables false
/-
  Walks: a node added.
-/
namespace Go.Proofs.YtgbbjobmcbdhdaaGreatDoor
open Go.RowKit

/-- how a reader of a part with nodes ends. -/
def PostN (B : Nat) (s : ByteArray) (W : World) : PR → Ending → World → Prop
  | .ok l q ys, e, W' => e = .returned (.int .i64 (l : Int)) ∧ q ≤ s.size ∧ (∃ v', PS W' B s q v' ys) ∧ KP B W W'
  | .bad q er, e, W' => e = Bad q er ∧ KP B W W'
  | .out, _, _ => False
theorem infoN : (Tryz.prog.info? 45).map (fun i => (i.zero, i.size, i.bytes)) = some (some (.agg #[.int .i64 0, .int .u64 0, .int .u64 0, .int .u64 0, .int .u64 0, .int .i64 0, .int .i64 0, .int .i64 0, .int .i64 0]), 9, 72) := by kernel_rfl
theorem cells_new9 (W : World) (n : Nd) (t : TypeId) (m : Nat) (hm : m = W.heap.size) : ∀ j u, (encN n)[j]? = some u → (W.alloc (.cells #[.int .i64 n.k, .int .u64 (wd n.c 0), .int .u64 (wd n.c 1), .int .u64 (wd n.c 2), .int .u64 (wd n.c 3), .int .i64 n.l, .int .i64 n.r, .int .i64 n.mn, .int .i64 n.mx] t)).cell? ((⟨m, 0, none⟩ : Addr).add j) = some u := by
  intro j u hu
  subst hm
  have hb := Blk.new W #[.int .i64 n.k, .int .u64 (wd n.c 0), .int .u64 (wd n.c 1), .int .u64 (wd n.c 2), .int .u64 (wd n.c 3), .int .i64 n.l, .int .i64 n.r, .int .i64 n.mn, .int .i64 n.mx] t
  have hadd : (⟨W.heap.size, 0, none⟩ : Addr).add j = ⟨W.heap.size, j, none⟩ := by unfold Addr.add; split <;> simp_all
  rw [hadd]
  exact hb.cell j (by rw [← hu]; simp [encN])
theorem encN_one (n : Nd) : ∀ u ∈ encN n, u.oneCell' = true := by intro u hu; simp [encN] at hu; rcases hu with rfl | rfl | rfl | rfl | rfl | rfl | rfl | rfl | rfl <;> rfl
theorem Blk.nine {w : World} {b : Nat} {v0 v1 v2 v3 v4 v5 v6 v7 v8 : Value} {t : TypeId} (h : Blk w b #[v0, v1, v2, v3, v4, v5, v6, v7, v8] t) :
    w.cell? ⟨b, 0, none⟩ = some v0 ∧ w.cell? ⟨b, 1, none⟩ = some v1 ∧ w.cell? ⟨b, 2, none⟩ = some v2 ∧ w.cell? ⟨b, 3, none⟩ = some v3 ∧ w.cell? ⟨b, 4, none⟩ = some v4 ∧
    w.cell? ⟨b, 5, none⟩ = some v5 ∧ w.cell? ⟨b, 6, none⟩ = some v6 ∧ w.cell? ⟨b, 7, none⟩ = some v7 ∧ w.cell? ⟨b, 8, none⟩ = some v8 :=
  ⟨h.cell 0 rfl, h.cell 1 rfl, h.cell 2 rfl, h.cell 3 rfl, h.cell 4 rfl, h.cell 5 rfl, h.cell 6 rfl, h.cell 7 rfl, h.cell 8 rfl⟩

theorem own_isN {w : World} {base : Nat} {e : TypeId} {size : Nat} {v : Value} {n : Nat} {xs : List Value} (h : w.ownsRow base e size v n xs) (k : Nat) (hk : v.ownBlock = some k) : ∃ cur m, w.heap[k]? = some (.cells cur e m) := by
  rcases h.2 with ⟨rfl, rfl⟩ | ⟨g, cap, cur, rfl, _, hg, _⟩
  · cases hk
  · cases hk; exact ⟨_, _, hg⟩
set_option maxRecDepth 100000 in
set_option maxHeartbeats 2000000 in
theorem add_any {s : ByteArray} {p B : Nat} {v : Value} {xs : List Nd} {W : World} (n : Nd) (h : PS W B s p v xs) (hle : p ≤ s.size) (hlen : xs.length < 1000000) :
    Calls Tryz.prog 94 #[.pointer (some ⟨B, 0, none⟩), valN n] W (PostN B s W (.ok xs.length p (xs ++ [n]))) := by
  obtain ⟨i0, hi, hz0, hz1, hz2⟩ := info_parts infoN
  have hB : B < W.heap.size := h.is.lt
  obtain ⟨vp, vc, rfl⟩ := own_shape h.own
  have hbox := Blk.new W #[.int .i64 n.k, .int .u64 (wd n.c 0), .int .u64 (wd n.c 1), .int .u64 (wd n.c 2), .int .u64 (wd n.c 3), .int .i64 n.l, .int .i64 n.r, .int .i64 n.mn, .int .i64 n.mx] 45
  have hbd := hbox.drew
  have h1 := (h.alloc (.cells #[.int .i64 n.k, .int .u64 (wd n.c 0), .int .u64 (wd n.c 1), .int .u64 (wd n.c 2), .int .u64 (wd n.c 3), .int .i64 n.l, .int .i64 n.r, .int .i64 n.mn, .int .i64 n.mx] 45)).drew
  obtain ⟨c0, c1, c2, f0, f1, f2⟩ := h.to_cells
  have HO := Lib.hid h1.own
  have HB := Lib.hid (fun w2 (hg : World.grownBy (World.alloc _ _) w2 _) => (h1.alloc (.cells #[.int .i64 n.k, .int .u64 (wd n.c 0), .int .u64 (wd n.c 1), .int .u64 (wd n.c 2), .int .u64 (wd n.c 3), .int .i64 n.l, .int .i64 n.r, .int .i64 n.mn, .int .i64 n.mx] 45)).is.grownBy hg (fun k hk e => by have := own_ge h1.own k hk; omega))
  go_enter Tryz.func94, Tryz.ntmps94
  go_wp2
  go_region_law (first | (refine step_append_lies _ rfl _ _ 23 rfl (B + 1) 45 i0 _ 9 72 Tryz.underlying23 hi hz0 hz1 hz2 rfl (by decide) _ _ _ rfl (own_alloc HO.out _) ⟨W.heap.size + 1, 0, none⟩ 1 1 (encN n) rfl rfl (cells_new9 _ _ _ _ (by simp)) (encN_one n) (by decide) (by unfold maxLen; omega) (by omega) (by simp; omega) _ rfl ?_; intro g cap w2 hown hgrow hat hlt; have hB2 := HB.out w2 hgrow; obtain ⟨c0, c1, c2, f0, f1, f2⟩ := hB2.three))
  all_goals
    go_wp2
    go_ret
    have hk2 : KP B W w2 := ((((KP.refl B W).alloc _).drew).alloc _).trans (KP.of_grown hgrow (fun k hk _ => ⟨by have := own_ge HO.out k hk; omega, own_isN (own_alloc HO.out _) k hk⟩))
    exact ⟨rfl, hle, ⟨_, hB2.set 2 _, own_other_set (own_cast hown (by simp) (by simp)) 2 _⟩, hk2.set 2 _⟩
end Go.Proofs.YtgbbjobmcbdhdaaGreatDoor

/-
  Walks: the validity of a node: its kind, its used fields, its operands.
-/
namespace Go.Proofs.YtgbbjobmcbdhdaaGreatDoor
open Go.RowKit

def knownB (k : Int) : Bool := decide (1 ≤ k) && decide (k ≤ 8)
theorem known_any (k : Int) (W : World) : Calls Tryz.prog 55 #[.int .i64 k] W fun e W' => e = .returned (.bool (knownB k)) ∧ W' = W := by
  unfold knownB
  by_cases h1 : 1 ≤ k
  · have e1 : decide ((1 : Int) ≤ k) = true := by simp [h1]
    by_cases h2 : k ≤ 8
    · have e2 : decide (k ≤ (8 : Int)) = true := by simp [h2]
      rw [e1, e2]
      go_enter Tryz.func55, Tryz.ntmps55
      go_wp2
      go_ret
      exact ⟨rfl, rfl⟩
    · have e2 : decide (k ≤ (8 : Int)) = false := by simp; omega
      rw [e1, e2]
      go_enter Tryz.func55, Tryz.ntmps55
      go_wp2
      go_ret
      exact ⟨rfl, rfl⟩
  · have e1 : decide ((1 : Int) ≤ k) = false := by simp; omega
    rw [e1]
    go_enter Tryz.func55, Tryz.ntmps55
    go_wp2
    go_ret
    exact ⟨rfl, rfl⟩
def usedN (n : Nd) : Nd :=
  if n.k = 3 then ⟨3, n.c, 0, 0, 0, 0⟩
  else if n.k = 4 ∨ n.k = 5 ∨ n.k = 6 then ⟨n.k, 0, n.l, n.r, 0, 0⟩
  else if n.k = 7 then ⟨7, 0, n.l, 0, 0, 0⟩
  else if n.k = 8 then ⟨8, 0, n.l, 0, n.mn, n.mx⟩
  else ⟨n.k, 0, 0, 0, 0, 0⟩
theorem ndSize : (Tryz.prog.info? 45).map (·.size) = some 9 := by kernel_rfl
set_option maxRecDepth 100000 in
set_option maxHeartbeats 1000000 in
theorem used_any (n : Nd) (W : World) : Calls Tryz.prog 56 #[valN n] W fun e W' => e = .returned (valN (usedN n)) ∧ Below W.heap.size W W' := by
  obtain ⟨k, c, l, r, mn, mx⟩ := n
  have wz : ∀ i, wd (0#256) i = 0 := wd_zero
  by_cases h3 : k = 3
  · subst h3
    go_enter Tryz.func56, Tryz.ntmps56
    go_wp2
    go_returns
    (refine ⟨congrArg Ending.returned ?_, by go_grown⟩; simp [usedN, wz])
  by_cases h4 : k = 4
  · subst h4
    go_enter Tryz.func56, Tryz.ntmps56
    go_wp2
    go_region
    all_goals go_wp2
    all_goals (go_returns; (refine ⟨congrArg Ending.returned ?_, by go_grown⟩; simp [usedN, wz]))
  by_cases h5 : k = 5
  · subst h5
    go_enter Tryz.func56, Tryz.ntmps56
    go_wp2
    go_region
    all_goals go_wp2
    all_goals (go_returns; (refine ⟨congrArg Ending.returned ?_, by go_grown⟩; simp [usedN, wz]))
  by_cases h6 : k = 6
  · subst h6
    go_enter Tryz.func56, Tryz.ntmps56
    go_wp2
    go_region
    all_goals go_wp2
    all_goals (go_returns; (refine ⟨congrArg Ending.returned ?_, by go_grown⟩; simp [usedN, wz]))
  by_cases h7 : k = 7
  · subst h7
    go_enter Tryz.func56, Tryz.ntmps56
    go_wp2
    go_returns
    (refine ⟨congrArg Ending.returned ?_, by go_grown⟩; simp [usedN, wz])
  by_cases h8 : k = 8
  · subst h8
    go_enter Tryz.func56, Tryz.ntmps56
    go_wp2
    go_region
    all_goals go_wp2
    all_goals (go_returns; (refine ⟨congrArg Ending.returned ?_, by go_grown⟩; simp [usedN, wz]))
  have e3 : (k == 3) = false := by simp [h3]
  have e4 : (k == 4) = false := by simp [h4]
  have e5 : (k == 5) = false := by simp [h5]
  have e6 : (k == 6) = false := by simp [h6]
  have e7 : (k == 7) = false := by simp [h7]
  have e8 : (k == 8) = false := by simp [h8]
  have hu : usedN ⟨k, c, l, r, mn, mx⟩ = ⟨k, 0, 0, 0, 0, 0⟩ := by simp [usedN, h3, h4, h5, h6, h7, h8]
  rw [hu]
  clear hu h3 h4 h5 h6 h7 h8
  go_enter Tryz.func56, Tryz.ntmps56
  go_wp2
  go_returns
  (refine ⟨congrArg Ending.returned ?_, by go_grown⟩; simp [usedN, wz])
end Go.Proofs.YtgbbjobmcbdhdaaGreatDoor
