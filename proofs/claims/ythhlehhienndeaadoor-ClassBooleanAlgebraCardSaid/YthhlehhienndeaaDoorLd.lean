/-
  The operations under names of their own, and what Boolean algebra and counting say of them.
-/
import Derived.Test.YthhlehhienndeaaDoorZe
set_option linter.unusedSimpArgs false
set_option linter.unusedVariables false
namespace Go.Proofs.YthhlehhienndeaaDoor
open Go.RowKit

def uni (x y : BitVec 256) : BitVec 256 := x ||| y
def itr (x y : BitVec 256) : BitVec 256 := x &&& y
def sbt (x y : BitVec 256) : BitVec 256 := x &&& ~~~y
def cpl (x : BitVec 256) : BitVec 256 := rng 0 256 &&& ~~~x
theorem union_u (x y : BitVec 256) (W : World) : Calls Tryd.prog 16 #[.agg #[.int .u64 (wd x 0), .int .u64 (wd x 1), .int .u64 (wd x 2), .int .u64 (wd x 3)], .agg #[.int .u64 (wd y 0), .int .u64 (wd y 1), .int .u64 (wd y 2), .int .u64 (wd y 3)]] W fun e w' => e = .returned (.agg #[.int .u64 (wd (uni x y) 0), .int .u64 (wd (uni x y) 1), .int .u64 (wd (uni x y) 2), .int .u64 (wd (uni x y) 3)]) ∧ Below W.heap.size W w' := union_any x y W
theorem inter_u (x y : BitVec 256) (W : World) : Calls Tryd.prog 18 #[.agg #[.int .u64 (wd x 0), .int .u64 (wd x 1), .int .u64 (wd x 2), .int .u64 (wd x 3)], .agg #[.int .u64 (wd y 0), .int .u64 (wd y 1), .int .u64 (wd y 2), .int .u64 (wd y 3)]] W fun e w' => e = .returned (.agg #[.int .u64 (wd (itr x y) 0), .int .u64 (wd (itr x y) 1), .int .u64 (wd (itr x y) 2), .int .u64 (wd (itr x y) 3)]) ∧ Below W.heap.size W w' := intersect_any x y W
theorem minus_u (x y : BitVec 256) (W : World) : Calls Tryd.prog 20 #[.agg #[.int .u64 (wd x 0), .int .u64 (wd x 1), .int .u64 (wd x 2), .int .u64 (wd x 3)], .agg #[.int .u64 (wd y 0), .int .u64 (wd y 1), .int .u64 (wd y 2), .int .u64 (wd y 3)]] W fun e w' => e = .returned (.agg #[.int .u64 (wd (sbt x y) 0), .int .u64 (wd (sbt x y) 1), .int .u64 (wd (sbt x y) 2), .int .u64 (wd (sbt x y) 3)]) ∧ Below W.heap.size W w' := minus_any x y W
theorem not_u (x : BitVec 256) (W : World) : Calls Tryd.prog 22 #[.agg #[.int .u64 (wd x 0), .int .u64 (wd x 1), .int .u64 (wd x 2), .int .u64 (wd x 3)]] W fun e w' => e = .returned (.agg #[.int .u64 (wd (cpl x) 0), .int .u64 (wd (cpl x) 1), .int .u64 (wd (cpl x) 2), .int .u64 (wd (cpl x) 3)]) ∧ Below W.heap.size W w' := not_any x W
theorem runion_u (x y : BitVec 256) (W : World) : Calls Tryd.prog 17 #[.agg #[.int .u64 (wd x 0), .int .u64 (wd x 1), .int .u64 (wd x 2), .int .u64 (wd x 3)], .agg #[.int .u64 (wd y 0), .int .u64 (wd y 1), .int .u64 (wd y 2), .int .u64 (wd y 3)]] W fun e w' => e = .returned (.agg #[.int .u64 (wd (uni x y) 0), .int .u64 (wd (uni x y) 1), .int .u64 (wd (uni x y) 2), .int .u64 (wd (uni x y) 3)]) ∧ Below W.heap.size W w' := runion_any x y W
theorem rinter_u (x y : BitVec 256) (W : World) : Calls Tryd.prog 19 #[.agg #[.int .u64 (wd x 0), .int .u64 (wd x 1), .int .u64 (wd x 2), .int .u64 (wd x 3)], .agg #[.int .u64 (wd y 0), .int .u64 (wd y 1), .int .u64 (wd y 2), .int .u64 (wd y 3)]] W fun e w' => e = .returned (.agg #[.int .u64 (wd (itr x y) 0), .int .u64 (wd (itr x y) 1), .int .u64 (wd (itr x y) 2), .int .u64 (wd (itr x y) 3)]) ∧ Below W.heap.size W w' := rintersect_any x y W
theorem rminus_u (x y : BitVec 256) (W : World) : Calls Tryd.prog 21 #[.agg #[.int .u64 (wd x 0), .int .u64 (wd x 1), .int .u64 (wd x 2), .int .u64 (wd x 3)], .agg #[.int .u64 (wd y 0), .int .u64 (wd y 1), .int .u64 (wd y 2), .int .u64 (wd y 3)]] W fun e w' => e = .returned (.agg #[.int .u64 (wd (sbt x y) 0), .int .u64 (wd (sbt x y) 1), .int .u64 (wd (sbt x y) 2), .int .u64 (wd (sbt x y) 3)]) ∧ Below W.heap.size W w' := rminus_any x y W
theorem none_u : (Value.agg #[.int .u64 0, .int .u64 0, .int .u64 0, .int .u64 0]) = .agg #[.int .u64 (wd 0 0), .int .u64 (wd 0 1), .int .u64 (wd 0 2), .int .u64 (wd 0 3)] := by simp only [wd_zero]
theorem cpl_eq (x : BitVec 256) : cpl x = ~~~x := mem_ext fun j hj => by unfold cpl; rw [mem_and, mem_all j hj]; rfl
theorem mem_uni (x y : BitVec 256) (j : Nat) : mem (uni x y) j = (mem x j || mem y j) := mem_or x y j
theorem mem_itr (x y : BitVec 256) (j : Nat) : mem (itr x y) j = (mem x j && mem y j) := mem_and x y j
theorem mem_cpl (x : BitVec 256) (j : Nat) (hj : j < 256) : mem (cpl x) j = !mem x j := by rw [cpl_eq, mem_not x j hj]
theorem mem_sbt (x y : BitVec 256) (j : Nat) (hj : j < 256) : mem (sbt x y) j = (mem x j && !mem y j) := by unfold sbt; rw [mem_and, mem_not y j hj]

theorem b_union (x y : BitVec 256) : uni x y = uni y x := mem_ext fun j hj => by simp only [mem_uni]; cases mem x j <;> cases mem y j <;> rfl
theorem b_inter (x y : BitVec 256) : itr x y = itr y x := mem_ext fun j hj => by simp only [mem_itr]; cases mem x j <;> cases mem y j <;> rfl
theorem b_uu (x : BitVec 256) : uni x x = x := mem_ext fun j hj => by simp only [mem_uni]; cases mem x j <;> rfl
theorem b_ii (x : BitVec 256) : itr x x = x := mem_ext fun j hj => by simp only [mem_itr]; cases mem x j <;> rfl
theorem b_uassoc (x y z : BitVec 256) : uni (uni x y) z = uni x (uni y z) := mem_ext fun j hj => by simp only [mem_uni]; cases mem x j <;> cases mem y j <;> rfl
theorem b_iassoc (x y z : BitVec 256) : itr (itr x y) z = itr x (itr y z) := mem_ext fun j hj => by simp only [mem_itr]; cases mem x j <;> cases mem y j <;> rfl
theorem b_iu (x y z : BitVec 256) : itr x (uni y z) = uni (itr x y) (itr x z) := mem_ext fun j hj => by simp only [mem_itr, mem_uni]; cases mem x j <;> cases mem y j <;> rfl
theorem b_ui (x y z : BitVec 256) : uni x (itr y z) = itr (uni x y) (uni x z) := mem_ext fun j hj => by simp only [mem_itr, mem_uni]; cases mem x j <;> cases mem y j <;> rfl
theorem b_dm (x y : BitVec 256) : cpl (uni x y) = itr (cpl x) (cpl y) := mem_ext fun j hj => by simp only [mem_itr, mem_uni, mem_cpl _ _ hj]; cases mem x j <;> cases mem y j <;> rfl
theorem b_cc (x : BitVec 256) : cpl (cpl x) = x := mem_ext fun j hj => by simp only [mem_cpl _ _ hj]; cases mem x j <;> rfl
theorem b_top (x : BitVec 256) : uni x (cpl x) = rg 0 255 := by
  rw [← e_eq2]
  exact mem_ext fun j hj => by simp only [mem_uni, mem_cpl _ _ hj, mem_and, mem_all j hj, mem_not _ _ hj, mem_zero]; cases mem x j <;> rfl
theorem b_bot (x : BitVec 256) : itr x (cpl x) = 0 := mem_ext fun j hj => by simp only [mem_itr, mem_cpl _ _ hj, mem_zero]; cases mem x j <;> rfl
theorem b_minus (x y : BitVec 256) : sbt x y = itr x (cpl y) := mem_ext fun j hj => by simp only [mem_itr, mem_cpl _ _ hj, mem_sbt _ _ _ hj]
theorem b_u0 (x : BitVec 256) : uni x 0 = x := mem_ext fun j hj => by simp only [mem_uni, mem_zero]; cases mem x j <;> rfl
theorem b_i1 (x : BitVec 256) : itr x (rg 0 255) = x := by
  rw [← e_eq2]
  exact mem_ext fun j hj => by simp only [mem_itr, mem_and, mem_all j hj, mem_not _ _ hj, mem_zero]; cases mem x j <;> rfl

theorem size_mems (x : BitVec 256) : sizeI x = (((List.range 256).filter (mem x)).length : Int) := by unfold sizeI mems; rw [List.length_map]
theorem two_filters (p q : Nat → Bool) : ∀ l : List Nat, (l.filter fun j => p j || q j).length + (l.filter fun j => p j && q j).length = (l.filter p).length + (l.filter q).length
  | [] => rfl
  | a :: l => by
    have ih := two_filters p q l
    simp only [List.filter_cons]
    cases p a <;> cases q a <;> simp <;> omega
theorem not_filter (p : Nat → Bool) : ∀ l : List Nat, (l.filter p).length + (l.filter fun j => !p j).length = l.length
  | [] => rfl
  | a :: l => by
    have ih := not_filter p l
    simp only [List.filter_cons]
    cases p a <;> simp <;> omega
theorem sub_filter (p q : Nat → Bool) : ∀ l : List Nat, (l.filter fun j => p j && !q j).length + (l.filter fun j => p j && q j).length = (l.filter p).length
  | [] => rfl
  | a :: l => by
    have ih := sub_filter p q l
    simp only [List.filter_cons]
    cases p a <;> cases q a <;> simp <;> omega
theorem filter_ext {p q : Nat → Bool} (h : ∀ j, j < 256 → p j = q j) : (List.range 256).filter p = (List.range 256).filter q := List.filter_congr fun j hj => h j (List.mem_range.1 hj)
theorem size_two (x y : BitVec 256) : sizeI (uni x y) + sizeI (itr x y) = sizeI x + sizeI y := by
  simp only [size_mems]
  rw [filter_ext (fun j _ => mem_uni x y j), filter_ext (fun j _ => mem_itr x y j)]
  have := two_filters (mem x) (mem y) (List.range 256)
  omega
theorem size_not (x : BitVec 256) : sizeI x + sizeI (cpl x) = 256 := by
  simp only [size_mems]
  rw [filter_ext (fun j hj => mem_cpl x j hj)]
  have := not_filter (mem x) (List.range 256)
  rw [List.length_range] at this
  omega
theorem size_sbt (x y : BitVec 256) : sizeI (sbt x y) = sizeI x - sizeI (itr x y) := by
  simp only [size_mems]
  rw [filter_ext (fun j hj => mem_sbt x y j hj), filter_ext (fun j _ => mem_itr x y j)]
  have := sub_filter (mem x) (mem y) (List.range 256)
  omega
theorem size_nat (x : BitVec 256) : 0 ≤ sizeI x ∧ sizeI x ≤ 256 := by
  rw [size_mems]
  have := List.length_filter_le (mem x) (List.range 256)
  rw [List.length_range] at this
  omega
end Go.Proofs.YthhlehhienndeaaDoor
