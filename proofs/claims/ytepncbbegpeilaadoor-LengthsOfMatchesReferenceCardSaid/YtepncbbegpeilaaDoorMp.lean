/-
  A map of sets to the places at which they were first met.
-/
import Derived.MapKept
import Derived.MapFrom
import Derived.Laws.Closers25b
import Derived.Test.YtepncbbegpeilaaDoorBo
import Derived.WalkKit
import Derived.RangeFuncOwn
set_option linter.unusedSimpArgs false
set_option linter.unusedVariables false
namespace Go.Proofs.YtepncbbegpeilaaDoor
open Go.RowKit Go.MapKept

/-- the map at mb has these keys, each with its place. -/
def KeysF (W : World) (mb : Nat) (rs : List Nat) : Prop :=
  ∃ es clock, W.heap[mb]? = some (.map es clock) ∧ es.toList.map (·.key) = rs.map (fun n : Nat => Value.int .u64 (n : Int)) ∧ es.toList.map (·.val) = (List.range rs.length).map (fun n : Nat => Value.int .i64 (n : Int))
theorem KeysF.lt {W : World} {mb : Nat} {rs : List Nat} (h : KeysF W mb rs) : mb < W.heap.size := by
  obtain ⟨es, clock, hb, _⟩ := h
  exact (Array.getElem?_eq_some_iff.1 hb).1
theorem KeysF.grown {W W' : World} {mb : Nat} {rs : List Nat} {row : Option Nat} (h : KeysF W mb rs) (hg : W.grownBy W' row) (hne : ∀ k, row = some k → k ≠ mb) : KeysF W' mb rs := by
  have hlt := h.lt
  obtain ⟨es, clock, hb, h1⟩ := h
  exact ⟨es, clock, (hg.block mb hlt (fun e => hne mb e.symm rfl)).trans hb, h1⟩
theorem KeysF.below {W W' : World} {mb : Nat} {rs : List Nat} (h : KeysF W mb rs) (hb : Below W.heap.size W W') : KeysF W' mb rs := by
  have hlt := h.lt
  obtain ⟨es, clock, hb2, h1⟩ := h
  exact ⟨es, clock, (hb.block mb hlt).trans hb2, h1⟩
theorem keys_are {es : Array MapEntry} {rs : List Nat} (hk : es.toList.map (·.key) = rs.map (fun n : Nat => Value.int .u64 (n : Int))) : ∀ x ∈ es.toList, IsKey (.int .u64) x.key := by
  intro x hx
  have hm : x.key ∈ es.toList.map (·.key) := List.mem_map.2 ⟨x, hx, rfl⟩
  rw [hk] at hm
  obtain ⟨n, _, e⟩ := List.mem_map.1 hm
  rw [← e]; rfl
theorem key_at {es : Array MapEntry} {rs : List Nat} {j : Nat} {e : MapEntry} {p : Nat} (hk : es.toList.map (·.key) = rs.map (fun n : Nat => Value.int .u64 (n : Int))) (hv : es.toList.map (·.val) = (List.range rs.length).map (fun n : Nat => Value.int .i64 (n : Int)))
    (h2 : es.toList[j]? = some e) (h3 : e.key = .int .u64 (p : Int)) : rs[j]? = some p ∧ e.val = .int .i64 (j : Int) := by
  have hkj := congrArg (fun l => l[j]?) hk
  have hvj := congrArg (fun l => l[j]?) hv
  simp only [List.getElem?_map, h2, Option.map_some] at hkj hvj
  obtain ⟨q, hq, hqe⟩ := Option.map_eq_some_iff.1 hkj.symm
  have hqp : q = p := by
    rw [h3] at hqe
    simp only [Value.int.injEq, true_and] at hqe
    omega
  subst hqp
  refine ⟨hq, ?_⟩
  have hlt : j < rs.length := (List.getElem?_eq_some_iff.1 hq).1
  rw [List.getElem?_range hlt, Option.map_some] at hvj
  exact Option.some.inj hvj
theorem key_none {es : Array MapEntry} {rs : List Nat} {p : Nat} (hk : es.toList.map (·.key) = rs.map (fun n : Nat => Value.int .u64 (n : Int))) (h2 : ∀ e ∈ es.toList, e.key ≠ .int .u64 (p : Int)) : p ∉ rs := by
  intro hp
  have hm : Value.int .u64 (p : Int) ∈ es.toList.map (·.key) := by rw [hk]; exact List.mem_map.2 ⟨p, hp, rfl⟩
  obtain ⟨x, hx, e⟩ := List.mem_map.1 hm
  exact h2 x hx e
/-- asked with 'ok': a key that is there. -/
theorem lookF_yes {W : World} {mb : Nat} {rs : List Nat} (h : KeysF W mb rs) (hd : rs.Nodup) (p i : Nat) (hi : rs[i]? = some p) :
    (Instr.lookup 47 (.map (some mb)) (.int .u64 (p : Int)) true).run Tryd.prog W = .ok (.tuple #[.int .i64 (i : Int), .bool true]) W ∧
    (Instr.lookup 47 (.map (some mb)) (.int .u64 (p : Int)) false).run Tryd.prog W = .ok (.int .i64 (i : Int)) W := by
  obtain ⟨es, clock, hb, hk, hv⟩ := h
  have um := Tryd.underlying47
  have ui := Tryd.underlying39
  have hkey : IsKey (.int .u64) (.int .u64 (p : Int)) := rfl
  rcases findNow_spec hkey es.toList 0 (keys_are hk) with ⟨h1, h2⟩ | ⟨j, e, h1, h2, h3⟩
  · exact absurd (List.mem_of_getElem? hi) (key_none hk h2)
  · obtain ⟨h4, h5⟩ := key_at hk hv h2 h3
    have hji : j = i := by
      obtain ⟨hj1, hj2⟩ := List.getElem?_eq_some_iff.1 h4
      obtain ⟨hi1, hi2⟩ := List.getElem?_eq_some_iff.1 hi
      exact (List.getElem_inj hd).1 (hj2.trans hi2.symm)
    subst hji
    constructor <;> simp [Instr.lookup, run_underlying um, MapKept.run_getObj_map hb, MapKept.run_checkKey ui hkey, MapKept.run_findKey ui h1, Result.andThen, h5]
/-- asked with 'ok': a key that isn't. -/
theorem lookF_no {W : World} {mb : Nat} {rs : List Nat} (h : KeysF W mb rs) (p : Nat) (hp : p ∉ rs) :
    (Instr.lookup 47 (.map (some mb)) (.int .u64 (p : Int)) true).run Tryd.prog W = .ok (.tuple #[.int .i64 0, .bool false]) W := by
  obtain ⟨es, clock, hb, hk, hv⟩ := h
  have um := Tryd.underlying47
  have ui := Tryd.underlying39
  have hkey : IsKey (.int .u64) (.int .u64 (p : Int)) := rfl
  rcases findNow_spec hkey es.toList 0 (keys_are hk) with ⟨h1, h2⟩ | ⟨j, e, h1, h2, h3⟩
  · have hz : (zeroValue 3).run Tryd.prog W = .ok (.int .i64 0) W := by go_simp
    simp [Instr.lookup, run_underlying um, MapKept.run_getObj_map hb, MapKept.run_checkKey ui hkey, MapKept.run_findKey ui h1, Result.andThen, hz]
  · exact absurd (List.mem_of_getElem? (key_at hk hv h2 h3).1) hp
theorem updF {W : World} {mb : Nat} {rs : List Nat} (h : KeysF W mb rs) (p : Nat) (hp : p ∉ rs) :
    ∃ o : Obj, o.isCells = false ∧ (Instr.mapUpdate 47 (.map (some mb)) (.int .u64 (p : Int)) (.int .i64 (rs.length : Int))).run Tryd.prog W = .ok () (W.putObj mb o) ∧ KeysF (W.putObj mb o) mb (rs ++ [p]) := by
  have hlt := h.lt
  obtain ⟨es, clock, hb, hk, hv⟩ := h
  have um := Tryd.underlying47
  have ui := Tryd.underlying39
  have hkey : IsKey (.int .u64) (.int .u64 (p : Int)) := rfl
  rcases findNow_spec hkey es.toList 0 (keys_are hk) with ⟨h1, h2⟩ | ⟨j, e, h1, h2, h3⟩
  · refine ⟨.map (es.push { key := .int .u64 (p : Int), val := .int .i64 (rs.length : Int), born := clock }) (clock + 1), rfl, ?_, ?_⟩
    · simp [Instr.mapUpdate, run_underlying um, MapKept.run_getObj_map hb, MapKept.run_checkKey ui hkey, MapKept.run_findKey ui h1, Result.andThen, MapKept.run_setObj_map _ hb, World.putObj]
    · refine ⟨_, _, World.putObj_heap_same hlt, ?_, ?_⟩
      · simp [hk]
      · simp [hv, List.range_succ]
  · exact absurd (List.mem_of_getElem? (key_at hk hv h2 h3).1) hp
end Go.Proofs.YtepncbbegpeilaaDoor
