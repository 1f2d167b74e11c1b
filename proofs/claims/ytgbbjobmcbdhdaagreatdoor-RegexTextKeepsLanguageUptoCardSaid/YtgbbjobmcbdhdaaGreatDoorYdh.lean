/-
  Texts of the proof, one behind another: Ks, Ke, M7, Kp, Kq, Kl.
-/
import Derived.Maps.Own
import Derived.Maps.Range
import Derived.Lib.SlKeysI
import Derived.Shelf.SlIterI.Nil
import Derived.Shelf.SortM.Plain
import Derived.Shelf.SortM.SortNone
import Derived.Test.YtgbbjobmcbdhdaaGreatDoorYcf
import Derived.Shelf.SlicesQ.Equal
import Derived.Deep.RegionHeld3
import Derived.RangeFuncNested
import Derived.RangeFuncWrites
set_option linter.unusedSimpArgs false
set_option linter.unusedVariables false
/-
  Maps of integers to true: their keys, sorted.
-/
namespace Go.Proofs.YtgbbjobmcbdhdaaGreatDoor
open Go.RowKit Go.MapKept Go.Maps Go.Shelf

/-- the map at mb has these keys, each once; all its values are true. -/
def KeysC (W : World) (mb : Nat) (ks : List Nat) : Prop :=
  ∃ es clock, W.heap[mb]? = some (.map es clock) ∧ es.toList.map (·.key) = ks.map (fun n : Nat => Value.int .i64 (n : Int)) ∧ (∀ e ∈ es.toList, e.val = .bool true) ∧ Stamped es clock
theorem KeysC.toB {W : World} {mb : Nat} {ks : List Nat} (h : KeysC W mb ks) : KeysB W mb ks := by
  obtain ⟨es, clock, h1, h2, h3, _⟩ := h
  exact ⟨es, clock, h1, h2, h3⟩
theorem KeysC.lt {W : World} {mb : Nat} {ks : List Nat} (h : KeysC W mb ks) : mb < W.heap.size := by
  obtain ⟨es, clock, h1, _⟩ := h
  exact heap_lt h1
theorem KeysC.block {W W' : World} {mb : Nat} {ks : List Nat} (h : KeysC W mb ks) (hb : W'.heap[mb]? = W.heap[mb]?) : KeysC W' mb ks := by
  obtain ⟨es, clock, h1, h2⟩ := h
  exact ⟨es, clock, hb.trans h1, h2⟩
theorem keysC_made (W : World) : KeysC (W.alloc (.map #[] 0)) W.heap.size [] :=
  ⟨#[], 0, (MapKept.heap_alloc W _).1, rfl, fun e he => by simp at he, stamped_empty 0⟩
theorem updC {W : World} {mb : Nat} {ks : List Nat} (h : KeysC W mb ks) (p : Nat) (hp : p ∉ ks) :
    ∃ o : Obj, o.isCells = false ∧ (Instr.mapUpdate 135 (.map (some mb)) (.int .i64 (p : Int)) (.bool true)).run Tryz.prog W = .ok () (W.putObj mb o) ∧ KeysC (W.putObj mb o) mb (ks ++ [p]) := by
  obtain ⟨es, clock, hb, hk, hv, hst⟩ := h
  have um := Tryz.underlying135
  have ui := Tryz.underlying3
  have hkey : IsKey (.int .i64) (.int .i64 (p : Int)) := rfl
  have hkeys : ∀ x ∈ es.toList, IsKey (.int .i64) x.key := by
    intro x hx
    have hm : x.key ∈ es.toList.map (·.key) := List.mem_map.2 ⟨x, hx, rfl⟩
    rw [hk] at hm
    obtain ⟨n, _, e⟩ := List.mem_map.1 hm
    rw [← e]; rfl
  have hlt : mb < W.heap.size := (Array.getElem?_eq_some_iff.1 hb).1
  rcases findNow_spec hkey es.toList 0 hkeys with ⟨h1, h2⟩ | ⟨j, e, h1, h2, h3⟩
  · refine ⟨.map (es.push { key := .int .i64 (p : Int), val := .bool true, born := clock }) (clock + 1), rfl, ?_, ?_⟩
    · simp [Instr.mapUpdate, run_underlying um, MapKept.run_getObj_map hb, MapKept.run_checkKey ui hkey, MapKept.run_findKey ui h1, Result.andThen, MapKept.run_setObj_map _ hb, World.putObj]
    · refine ⟨_, _, World.putObj_heap_same hlt, ?_, ?_, stamped_push hst h2⟩
      · simp [hk]
      · intro x hx
        simp only [Array.toList_push, List.mem_append, List.mem_singleton] at hx
        rcases hx with hx | rfl
        · exact hv x hx
        · rfl
  · have hx : e ∈ es.toList := List.mem_of_getElem? h2
    have hm : e.key ∈ es.toList.map (·.key) := List.mem_map.2 ⟨e, hx, rfl⟩
    rw [hk, h3] at hm
    obtain ⟨n, hn, e⟩ := List.mem_map.1 hm
    simp only [Value.int.injEq, true_and] at e
    have : n = p := by omega
    exact absurd (this ▸ hn) hp
theorem keysC_own {W : World} {mb : Nat} {ks : List Nat} (h : KeysC W mb ks) (hl : ks.length ≤ maxLen) (hb : ∀ k ∈ ks, k < 9223372036854775808) :
    ∃ D : DataW Unit, W.ownsMap Tryz.prog 3 (plainElem Tryz.prog 4) mb ks.length D ∧ (intKeys D).Perm (ks.map fun n : Nat => (n : Int)) ∧ Maps.size D ≤ ks.length := by
  obtain ⟨es, clock, hm, hk, hv, hst⟩ := h
  have hlen : es.size = ks.length := by
    have := congrArg List.length hk
    simpa using this
  have hrd : ∀ x ∈ es.toList, ∃ n : Nat, n ∈ ks ∧ WideElems.rd Tryz.prog 3 (plainElem (H := Unit) Tryz.prog 4) x = some (.int .i64 (n : Int), .lit (.bool true)) ∧ x.key = .int .i64 (n : Int) := by
    intro x hx
    have hmm : x.key ∈ es.toList.map (·.key) := List.mem_map.2 ⟨x, hx, rfl⟩
    rw [hk] at hmm
    obtain ⟨n, hn, e⟩ := List.mem_map.1 hmm
    have hw : (Lit.int .i64 (n : Int)).wf = true := by
      have := hb n hn
      simp [Lit.wf, IntKind.min, IntKind.max, IntKind.signed, IntKind.bits]; omega
    have hkey : keyOf Tryz.prog 3 x.key = some (.int .i64 (n : Int)) := by rw [← e]; exact Maps.keyOf_int_mk Tryz.underlying3 hw
    have hval : plainElem (H := Unit) Tryz.prog 4 x.val = some (.lit (.bool true), []) := by rw [hv x hx]; exact plainElem_bool Tryz.underlying4 true
    refine ⟨n, hn, ?_, e.symm⟩
    unfold WideElems.rd
    rw [hkey, hval]; rfl
  have hF : WideElems.Fit Tryz.prog 3 (plainElem (H := Unit) Tryz.prog 4) es clock := ⟨by omega, hst, fun x hx => let ⟨n, _, h, _⟩ := hrd x hx; ⟨_, h⟩⟩
  refine ⟨_, ⟨es, clock, hm, hF, by omega, rfl⟩, ?_, ?_⟩
  · have h1 : ((es.toList.map (WideElems.rg Tryz.prog 3 (plainElem (H := Unit) Tryz.prog 4))).map fun p => _root_.Go.intOf p.1) = ks.map fun n : Nat => (n : Int) := by
      have h2 : (es.toList.map (·.key)).map (fun v => match v with | .int _ a => a | _ => 0) = ks.map fun n : Nat => (n : Int) := by
        rw [hk, List.map_map]; rfl
      rw [← h2, List.map_map, List.map_map]
      refine List.map_congr_left fun x hx => ?_
      obtain ⟨n, _, hr, hkx⟩ := hrd x hx
      simp only [Function.comp, WideElems.rg_of hr, hkx, _root_.Go.intOf]
    rw [← h1]
    exact (WideShapes.sorted_perm _).map _
  · rw [← hlen]
    simp [Maps.size, length_sorted]
/-- a list of numbers, sorted. -/
theorem sortN_spec {ks : List Nat} (hnd : ks.Nodup) {ss : List Int} (hp : ss.Perm (ks.map fun n : Nat => (n : Int))) :
    ∃ qs : List Nat, (ss.mergeSort fun x y => decide (x ≤ y)) = qs.map (fun n : Nat => (n : Int)) ∧ qs.Pairwise (· < ·) ∧ (∀ x, x ∈ qs ↔ x ∈ ks) ∧ qs.length = ks.length := by
  have tr : ∀ a b c : Int, leI a b = true → leI b c = true → leI a c = true := fun a b c h1 h2 => by simp only [leI, decide_eq_true_eq] at *; exact Int.le_trans h1 h2
  have to : ∀ a b : Int, (leI a b || leI b a) = true := fun a b => by simp only [leI, Bool.or_eq_true, decide_eq_true_eq]; exact Int.le_total a b
  have hpm : (ss.mergeSort leI).Perm (ks.map fun n : Nat => (n : Int)) := (List.mergeSort_perm ss leI).trans hp
  have hsort := List.pairwise_mergeSort tr to ss
  have hnn : ∀ x ∈ ss.mergeSort leI, 0 ≤ x := fun x hx => by
    obtain ⟨n, _, rfl⟩ := List.mem_map.1 (hpm.mem_iff.1 hx)
    exact Int.natCast_nonneg n
  have hnd2 : (ss.mergeSort leI).Nodup := hpm.nodup_iff.2 (List.pairwise_map.2 (hnd.imp fun h e => h (by omega)))
  have hmap : (ss.mergeSort leI) = ((ss.mergeSort leI).map Int.toNat).map (fun n : Nat => (n : Int)) := by
    rw [List.map_map]
    conv => lhs; rw [← List.map_id (ss.mergeSort leI)]
    refine List.map_congr_left fun x hx => ?_
    have := hnn x hx
    simp only [id, Function.comp]; omega
  refine ⟨(ss.mergeSort leI).map Int.toNat, hmap, ?_, fun x => ?_, ?_⟩
  · rw [List.pairwise_map]
    refine (hsort.imp₂ (S := (· ≠ ·)) (fun {a b} h1 h2 => (⟨h1, h2⟩ : leI a b = true ∧ a ≠ b)) hnd2).imp_of_mem fun {a b} ha hb h => ?_
    obtain ⟨h1, h2⟩ := h
    simp only [leI, decide_eq_true_eq] at h1
    have := hnn a ha
    have := hnn b hb
    omega
  · rw [List.mem_map]
    constructor
    · rintro ⟨y, hy, rfl⟩
      obtain ⟨n, hn, rfl⟩ := List.mem_map.1 (hpm.mem_iff.1 hy)
      simpa using hn
    · intro hx
      exact ⟨(x : Int), hpm.mem_iff.2 (List.mem_map.2 ⟨x, hx, rfl⟩), by simp⟩
  · rw [List.length_map, hpm.length_eq, List.length_map]
theorem sorts_in (m : Nat) : AnyZI.SortsIn Tryz.prog Tryz.sortedL_ren Fence.wide m :=
  ⟨fun blk off cap ss W hH hblk hsz => callsIn_wide.2 (AnyM.slices_Sort_int Tryz.sortI blk off cap ss W hH hblk hsz),
   fun p cap W => callsIn_wide.2 (AnyM.slices_Sort_int_none Tryz.sortI p cap W)⟩
theorem keys_in (n : Nat) (mb : Option Nat) (W : World) : CallsIn Fence.wide n Tryz.prog 111 #[.map mb] W fun e w' => e = .returned (.func (.func 132) #[] #[.pointer (some ⟨W.heap.size, 0, none⟩)]) ∧ w' = W.alloc (.cells #[.map mb] 135) :=
  AnyZI.keys_in Tryz.keysL Fence.wide n trivial rfl mb W
theorem sorted_any (n : Nat) (hn : 4 ≤ n) (Bm mr : Nat) (ks : List Nat) (W : World) (hB : Blk W Bm #[.map (some mr)] 135) (hk : KeysC W mr ks) (hl : ks.length ≤ 1099511627776) (hb : ∀ k ∈ ks, k < 9223372036854775808) (hnd : ks.Nodup) :
    CallsIn Fence.wide n Tryz.prog 110 #[.func (.func 132) #[] #[.pointer (some ⟨Bm, 0, none⟩)]] W fun e w' =>
      (∃ (v : Value) (qs : List Nat), e = .returned v ∧ w'.ownsRow W.heap.size 3 1 v qs.length (qs.map fun q : Nat => Value.int .i64 (q : Int)) ∧ qs.Pairwise (· < ·) ∧ (∀ x, x ∈ qs ↔ x ∈ ks) ∧ qs.length = ks.length) ∧ Below W.heap.size W w' := by
  obtain ⟨D, hown, hperm, hsz⟩ := keysC_own hk (by unfold maxLen; omega) hb
  have hseq : SeqGives Fence.wide (n - 1 - 1 - 1) Tryz.prog 132 #[.pointer (some ⟨Bm, 0, none⟩)] encZ (fun ss => ss.Perm (intKeys D)) (Maps.size D) W :=
    AnyZI.keys_gives (ρ := Tryz.keysL_ren) { Tryz.keysL with } Fence.wide _ trivial rfl (by omega) Bm mr ks.length D W hB.lt (hB.cell 0 rfl) hown
  have cS := AnyZI.sorted_in Tryz.sortedL Fence.wide n trivial trivial trivial trivial rfl hn (sorts_in _) (enters_of Tryz.func131 (by kernel_rfl) rfl) 132 #[.pointer (some ⟨Bm, 0, none⟩)] trivial (enters_of Tryz.func132 (by kernel_rfl) rfl) _ _ (by unfold maxLen; omega) (by omega) _ hseq
  change CallsIn _ _ Tryz.prog 110 _ _ _ at cS
  refine cS.mono ?_
  rintro e w' ⟨v, ss, rfl, hS, hrow, _, hbw⟩
  obtain ⟨qs, hq, h1, h2, h3⟩ := sortN_spec hnd (hS.trans hperm)
  have hss : ss.length = qs.length := by rw [h3, (hS.trans hperm).length_eq, List.length_map]
  rw [hq, hss, List.map_map] at hrow
  exact ⟨⟨v, qs, rfl, hrow, h1, h2, h3⟩, hbw⟩
end Go.Proofs.YtgbbjobmcbdhdaaGreatDoor

/-
  Walks: equality of two sets.
-/
namespace Go.Proofs.YtgbbjobmcbdhdaaGreatDoor
open Go.RowKit Go.Shelf

set_option maxRecDepth 100000 in
theorem eq_span (a b c d : Int) (w : World) : (Op.equalIn 10000 66 (.agg #[.int .i64 a, .int .i64 b]) (.agg #[.int .i64 c, .int .i64 d])).run Tryz.prog w = .ok (decide (a = c ∧ b = d)) w := by
  have ut := Tryz.underlying66
  have ui := Tryz.underlying3
  have hf : Tryz.prog.underlying 66 = some (.struct (Tryz.prog.fieldsOf 66)) := by unfold Program.fieldsOf; rw [ut]
  rw [show (10000 : Nat) = 9999 + 1 from rfl, run_equalIn_struct w 9999 66 _ _ hf (by kernel_rfl)]
  unfold Program.fieldsOf
  rw [ut]
  simp only [Op.eqFields]
  go_simp
  by_cases h1 : a = c <;> by_cases h2 : b = d <;> simp [h1, h2]
theorem neq_span : NeqAt Tryz.prog 66 (fun x => .agg (encS x).toArray) (fun x y => decide (x = y)) := by
  refine ⟨fun x y w => ?_, GuardAt.agg _ (by kernel_rfl)⟩
  have h := eq_span (x.1 : Int) (x.2 : Int) (y.1 : Int) (y.2 : Int) w
  have hd : decide ((x.1 : Int) = (y.1 : Int) ∧ (x.2 : Int) = (y.2 : Int)) = decide (x = y) := by
    rw [decide_eq_decide]
    exact ⟨fun ⟨a, b⟩ => Prod.ext (by omega) (by omega), fun e => by rw [e]; exact ⟨rfl, rfl⟩⟩
  rw [hd] at h
  simp [binOp, encS, Op.equal, Op.maxDepth, h, Result.andThen]
theorem allEq_eq : ∀ (l m : List (Nat × Nat)), Lib.allEq (fun x y => decide (x = y)) l m = decide (l = m)
  | [], [] => rfl
  | [], _ :: _ => by simp [Lib.allEq]
  | _ :: _, [] => by simp [Lib.allEq]
  | x :: l, y :: m => by
    have := allEq_eq l m
    simp [Lib.allEq, this]
theorem readS_get {w : World} {blk off : Nat} {l : List (Nat × Nat)} (h : ReadsS w blk off l) : ∀ j, j < l.length → ∀ i v, (encS l[j]!)[i]? = some v → w.cell? ⟨blk, off + j * 2 + i, none⟩ = some v := by
  intro j hj i v hi
  refine h j l[j]! ?_ i v hi
  rw [List.getElem!_eq_getElem?_getD, List.getElem?_eq_getElem hj]; rfl
set_option maxRecDepth 100000 in
theorem equalS_any (v v' : Value) (l l' : List (Nat × Nat)) (W : World) (hv : IsS W v l) (hv' : IsS W v' l') (hl : l.length ≤ 1099511627776) (hl' : l'.length ≤ 1099511627776) :
    Calls Tryz.prog 109 #[v, v'] W fun e W' => e = .returned (.bool (decide (l = l'))) ∧ Below W.heap.size W W' := by
  have short : l.length ≠ l'.length → Calls Tryz.prog 109 #[v, v'] W fun e W' => e = .returned (.bool (decide (l = l'))) ∧ Below W.heap.size W W' := fun hne => by
    obtain ⟨p, c, rfl⟩ := hv.shape
    obtain ⟨q, d, rfl⟩ := hv'.shape
    rw [decide_eq_false (fun e => hne (by rw [e]))]
    have t1 : ((l.length : Int) != (l'.length : Int)) = true := by rw [bne_iff_ne]; omega
    have t2 : ¬ (l.length : Int) = (l'.length : Int) := by omega
    clear hv hv'
    go_enter Tryz.func109, Tryz.ntmps109
    go_wp2
    go_ret
    exact ⟨rfl, Below.refl _ _⟩
  rcases hv with ⟨rfl, p, c, rfl, _⟩ | ⟨b1, o1, c1, rfl, h1⟩
  · by_cases h0 : l' = []
    · subst h0
      obtain ⟨q, d, rfl⟩ := hv'.shape
      clear short hv'
      go_enter Tryz.func109, Tryz.ntmps109
      go_wp2
      refine wp_loop_rounds 1 ?_
      rw [rounds_succ]
      go_wp2
      go_ret
      exact ⟨rfl, Below.refl _ _⟩
    · exact short (by have := List.length_pos_iff.2 h0; simp; omega)
  rcases hv' with ⟨rfl, q, d, rfl, _⟩ | ⟨b2, o2, c2, rfl, h2⟩
  · by_cases h0 : l = []
    · subst h0
      clear short
      go_enter Tryz.func109, Tryz.ntmps109
      go_wp2
      refine wp_loop_rounds 1 ?_
      rw [rounds_succ]
      go_wp2
      go_ret
      exact ⟨rfl, Below.refl _ _⟩
    · exact short (by have := List.length_pos_iff.2 h0; simp; omega)
  have h := AnyQ.slices_Equal Tryz.equalL 2 isAggS sizeOfS encS encS_len (fun x y => decide (x = y)) neq_span b1 o1 l.length c1 b2 o2 l'.length c2 l l' W (Nat.le_refl _) (Nat.le_refl _) (by omega) (by omega) (readS_get h1) (readS_get h2)
  refine h.mono ?_
  rintro e W' ⟨rfl, q, rfl⟩
  rw [List.take_length, List.take_length, allEq_eq]
  exact ⟨rfl, below_drewN (Below.refl _ _) q⟩
end Go.Proofs.YtgbbjobmcbdhdaaGreatDoor

/-
  Walks: the matcher's memo: intersections.
-/
namespace Go.Proofs.YtgbbjobmcbdhdaaGreatDoor
open Go.RowKit

set_option maxRecDepth 100000 in
set_option maxHeartbeats 4000000 in
theorem memoized_6 (Bm mb : Nat) (xs : List Nd) (b : List Int) (xb xo xc : Nat) (bv : Value) (i : Nat) (n : Nd) (hX : OkX xs) (hi : xs[i]? = some n) (hb : b.length ≤ 1048576) (hE : ∀ j, j < i → EndsC Bm mb xs b xb xo xc bv j)
    (v : Value) (l : List (Nat × Nat)) (W : World) (hM : Mw W Bm mb xs b xb xo xc bv) (htab : Lib.TabBelow Tryz.prog W.heap.size W "internal/strconv.uint64pow10" .u64 Lib.pow10Tab) (hv : IsS W v l) (hl : Good l) (hlb : ∀ q, On l q → q ≤ b.length)
    (hk : n.k = 6 ∧ ∃ p, l = [(p, p + 1)]) :
    Calls Tryz.prog 60 #[.pointer (some ⟨Bm, 0, none⟩), .int .i64 (i : Int), v] W fun e W' =>
      (∃ v' m, e = .returned v' ∧ IsS W' v' m ∧ SetOf b (tr xs i) l m) ∧ W.grownBy W' (some mb) ∧ MemoOk W' mb xs b := by
  obtain ⟨bp, bc, rfl⟩ := hM.word.shape
  obtain ⟨sp, sc, rfl⟩ := hv.shape
  have hlen : l.length ≤ 1099511627776 := by have := len_pts hl; have := pts_len hl hlb; omega
  have hends := good_ends hl hlb
  have HK := Lib.hid (key_any _ l W hv hlen (fun s hs => by have := hends s hs; omega) htab)
  have HMw := Lib.hid hM
  have HV := Lib.hid hv
  have HT := Lib.hid htab
  have HX := Lib.hid hX
  have HI := Lib.hid hi
  have HL := Lib.hid hl
  have HLb := Lib.hid hlb
  have HEnds := Lib.hid hends
  clear hM hv htab hX hi hl hlb hends
  go_enter Tryz.func60, Tryz.ntmps60
  go_wp2_with (go_at_call 88; refine HK.out.mono ?_; rintro e W1 ⟨rfl, hb1⟩)
  have hb2 : Below W.heap.size W (W1.alloc (.cells #[.int .i64 (i : Int), .string ⟨(keyS l).toArray⟩] 121)) := hb1.alloc hb1.size _
  have hV2 := Blk.new W1 #[.int .i64 (i : Int), .string ⟨(keyS l).toArray⟩] 121
  have hlt1 := hb1.size
  generalize hW2 : W1.alloc (.cells #[.int .i64 (i : Int), .string ⟨(keyS l).toArray⟩] 121) = W2 at hb2 hV2 ⊢
  generalize W1.heap.size = B1 at hV2 hlt1 ⊢
  clear hW2 hb1
  have hM2 := HMw.out.grows hb2
  have v0 := hV2.cell 0 rfl
  have v1 := hV2.cell 1 rfl
  have m0 := hM2.m.cell 0 rfl
  have m2 := hM2.m.cell 2 rfl
  have HM2 := Lib.hid hM2
  have HB2 := Lib.hid hb2
  have HV2 := Lib.hid hV2
  have hmd : MemoOk W2.drew mb xs b := Memo.mono (Memo.block hM2.memo rfl) fun _ _ _ h => h
  clear hM2 hb2 hV2
  have hfacts := HM2.out.x.nine i n HI.out
  have hilt : i < xs.length := (List.getElem?_eq_some_iff.1 HI.out).1
  rcases memo_get hmd i l with hg | ⟨v', m, hg, hm1, hm2⟩
  · unfold vkey at hg
    obtain ⟨k, c, nl, nr, mn, mx⟩ := n
    obtain ⟨x0, x1, x2, x3, x4, x5, x6, x7, x8⟩ := hfacts
    dsimp only at hk x0 x1 x2 x3 x4 x5 x6 x7 x8
    clear hmd
    obtain ⟨rfl, p, rfl⟩ := hk
    have hop := HX.out.two HI.out (.inr (.inr rfl))
    dsimp only at hop
    rw [show ([(p, p + 1)] : List (Nat × Nat)).length = 1 from rfl]
    obtain ⟨sb, so, rfl, s0, s1⟩ := (HV.out.grows HB2.out).at (k := 0) (y := (p, p + 1)) rfl
    rw [Nat.zero_mul, Nat.add_zero] at s0
    have hpb : p ≤ b.length := HLb.out p (((only_good p).2 p).2 rfl)
    have hb5 : Below W2.heap.size W2 (W2.alloc (.cells #[.int .i64 6, .int .u64 (wd c 0), .int .u64 (wd c 1), .int .u64 (wd c 2), .int .u64 (wd c 3), .int .i64 nl, .int .i64 nr, .int .i64 mn, .int .i64 mx] 45)).drew := ((Below.refl _ W2).alloc (Nat.le_refl _) _).trans ((below_dr _).mono (by simp))
    have hn5 := (Blk.new W2 #[.int .i64 6, .int .u64 (wd c 0), .int .u64 (wd c 1), .int .u64 (wd c 2), .int .u64 (wd c 3), .int .i64 nl, .int .i64 nr, .int .i64 mn, .int .i64 mx] 45).drew
    have s5 := (hb5.cell (lt_of_cell s0)).trans s0
    go_region
    go_wp2
    generalize hW5 : (W2.alloc (.cells #[.int .i64 6, .int .u64 (wd c 0), .int .u64 (wd c 1), .int .u64 (wd c 2), .int .u64 (wd c 3), .int .i64 nl, .int .i64 nr, .int .i64 mn, .int .i64 mx] 45)).drew = W5 at hb5 hn5 s5 ⊢
    clear hW5
    have n5 := hn5.cell 5 rfl
    have n6 := hn5.cell 6 rfl
    have HM5 := Lib.hid (HM2.out.grows hb5)
    have T5 := tab_step (tab_step HT.out HMw.out.memo (grownBy_of_below HB2.out _)) HM2.out.memo (grownBy_of_below hb5 _)
    have V5 := (HV.out.grows HB2.out).grows hb5
    have HE3 : Hid (∀ w, W5.grownBy w (some mb) → MemoOk w mb xs b → ∀ j : Int, 0 ≤ j → j < (i : Int) → Calls Tryz.prog 40 #[.pointer (some ⟨Bm, 0, none⟩), .int .i64 j, .slice (some ⟨sb, so, none⟩) 1 sc] w fun e W' =>
        (∃ v' m, e = .returned v' ∧ IsS W' v' m ∧ SetOf b (tr xs j.toNat) [(p, p + 1)] m) ∧ w.grownBy W' (some mb) ∧ MemoOk W' mb xs b) := Lib.hid fun w hg hm j hj0 hj => by
      have h := hE j.toNat (by omega) _ [(p, p + 1)] w (HM5.out.step hg hm) (tab_step T5 HM5.out.memo hg) (V5.kept (keptM hg HM5.out.memo)) HL.out HLb.out
      rw [show ((j.toNat : Nat) : Int) = j by omega] at h
      exact h
    have v0 := (hb5.cell (lt_of_cell v0)).trans v0
    have v1 := (hb5.cell (lt_of_cell v1)).trans v1
    have m2 := (hb5.cell (lt_of_cell m2)).trans m2
    have HB5 := Lib.hid (HB2.out.trans (hb5.mono HB2.out.size))
    have HN5 := Lib.hid hn5
    have hcur := And.intro (grownBy_of_below (below_dr W5) (some mb)) (memo_drew HM5.out.memo)
    have n5 : W5.drew.cell? ⟨W2.heap.size, 5, none⟩ = some (.int .i64 nl) := n5
    have n6 : W5.drew.cell? ⟨W2.heap.size, 6, none⟩ = some (.int .i64 nr) := n6
    clear hb5 hn5 s0 s1 s5 T5 V5
    go_region_held3 (fun W => W.cell? ⟨W2.heap.size, 5, none⟩ = some (.int .i64 nl) ∧ W.cell? ⟨W2.heap.size, 6, none⟩ = some (.int .i64 nr)) (first | exact ⟨n5, n6⟩ | exact ⟨cell_al n5, cell_al n6⟩) (first
      | (go_at_call 40; ((with_reducible refine (HE3.out _ hcur.1 hcur.2 nl hop.1.1 hop.1.2).mono ?_)); rintro e wn ⟨⟨va, ma, rfl, hvn, hsa⟩, hgw, hmn⟩; obtain ⟨pva, cva, rfl⟩ := hvn.shape; have n5 := keptM hgw hcur.2 _ _ n5; have n6 := keptM hgw hcur.2 _ _ n6; (try have hva := hva.kept (keptM hgw hcur.2)); (try have hvb := hvb.kept (keptM hgw hcur.2)); (try have hvc := hvc.kept (keptM hgw hcur.2)); (try have hvd := hvd.kept (keptM hgw hcur.2)); (try have hve := hve.kept (keptM hgw hcur.2)); have hva := hvn; have hcur := And.intro (hcur.1.trans hgw) hmn)
      | (go_at_call 40; ((with_reducible refine (HE3.out _ hcur.1 hcur.2 nr hop.2.1 hop.2.2).mono ?_)); rintro e wn ⟨⟨vc, mc, rfl, hvn, hsc⟩, hgw, hmn⟩; obtain ⟨pvc, cvc, rfl⟩ := hvn.shape; have n5 := keptM hgw hcur.2 _ _ n5; have n6 := keptM hgw hcur.2 _ _ n6; (try have hva := hva.kept (keptM hgw hcur.2)); (try have hvb := hvb.kept (keptM hgw hcur.2)); (try have hvc := hvc.kept (keptM hgw hcur.2)); (try have hvd := hvd.kept (keptM hgw hcur.2)); (try have hve := hve.kept (keptM hgw hcur.2)); have hvc := hvn; have hcur := And.intro (hcur.1.trans hgw) hmn)
      | (go_at_call 90; ((with_reducible refine (others_any Bm _ _ bp b.length bc p _ ma _ (HM5.out.step hcur.1 hcur.2).m hva (by have := len_pts hsa.good; have := pts_len hsa.good hsa.le; omega) (by omega) (by omega) (fun s hs => by have := good_ends hsa.good hsa.le s hs; omega)).mono ?_)); rintro e wn ⟨⟨vb, rfl, hownn⟩, hbn⟩; have hvn := own_isS hownn; obtain ⟨pvb, cvb, rfl⟩ := own_shape hownn; have hgw := grownBy_of_below hbn (some mb); have hmn := MemoOk.grows hcur.2 hbn; have n5 := keptM hgw hcur.2 _ _ n5; have n6 := keptM hgw hcur.2 _ _ n6; (try have hva := hva.kept (keptM hgw hcur.2)); (try have hvb := hvb.kept (keptM hgw hcur.2)); (try have hvc := hvc.kept (keptM hgw hcur.2)); (try have hvd := hvd.kept (keptM hgw hcur.2)); (try have hve := hve.kept (keptM hgw hcur.2)); have hvb := hvn; have hcur := And.intro (hcur.1.trans hgw) hmn)
      | (go_at_call 90; ((with_reducible refine (others_any Bm _ _ bp b.length bc p _ mc _ (HM5.out.step hcur.1 hcur.2).m hvc (by have := len_pts hsc.good; have := pts_len hsc.good hsc.le; omega) (by omega) (by omega) (fun s hs => by have := good_ends hsc.good hsc.le s hs; omega)).mono ?_)); rintro e wn ⟨⟨vd, rfl, hownn⟩, hbn⟩; have hvn := own_isS hownn; obtain ⟨pvd, cvd, rfl⟩ := own_shape hownn; have hgw := grownBy_of_below hbn (some mb); have hmn := MemoOk.grows hcur.2 hbn; have n5 := keptM hgw hcur.2 _ _ n5; have n6 := keptM hgw hcur.2 _ _ n6; (try have hva := hva.kept (keptM hgw hcur.2)); (try have hvb := hvb.kept (keptM hgw hcur.2)); (try have hvc := hvc.kept (keptM hgw hcur.2)); (try have hvd := hvd.kept (keptM hgw hcur.2)); (try have hve := hve.kept (keptM hgw hcur.2)); have hvd := hvn; have hcur := And.intro (hcur.1.trans hgw) hmn)
      | (go_at_call 59; ((with_reducible refine (union_sets _ [gaps p b.length ma, gaps p b.length mc] (b.length + 1) _ (isL_two hvb hvd) (flat_two (set_not hsa hpb) (set_not hsc hpb) hb) (by simp) (by omega) (ends_two (set_not hsa hpb) (set_not hsc hpb))).mono ?_)); rintro e wn ⟨⟨vu, mu, rfl, hownn, hgu, hleu, honu⟩, hbn⟩; have hbn := (((Below.refl _ _).alloc (Nat.le_refl _) _).trans (hbn.mono (by simp))); have hvn := own_isS hownn; obtain ⟨pvu, cvu, rfl⟩ := own_shape hownn; have hgw := grownBy_of_below hbn (some mb); have hmn := MemoOk.grows hcur.2 hbn; have n5 := keptM hgw hcur.2 _ _ n5; have n6 := keptM hgw hcur.2 _ _ n6; (try have hva := hva.kept (keptM hgw hcur.2)); (try have hvb := hvb.kept (keptM hgw hcur.2)); (try have hvc := hvc.kept (keptM hgw hcur.2)); (try have hvd := hvd.kept (keptM hgw hcur.2)); (try have hve := hve.kept (keptM hgw hcur.2)); have hve := hvn; have hcur := And.intro (hcur.1.trans hgw) hmn)
      | (go_at_call 90; ((with_reducible refine (others_any Bm _ _ bp b.length bc p _ mu _ (HM5.out.step hcur.1 hcur.2).m hve (len_of_ends hgu hleu hb) (by omega) (by omega) (fun s hs => by have := hgu.mem s hs; have := hleu s hs; omega)).mono ?_)); rintro e wn ⟨⟨vz, rfl, hownn⟩, hbn⟩; have hvn := own_isS hownn; obtain ⟨pvz, cvz, rfl⟩ := own_shape hownn; have hgw := grownBy_of_below hbn (some mb); have hmn := MemoOk.grows hcur.2 hbn; have n5 := keptM hgw hcur.2 _ _ n5; have n6 := keptM hgw hcur.2 _ _ n6; have hcur := And.intro (hcur.1.trans hgw) hmn))
    all_goals
      go_wp2
      have hs3 := set_and hsa hsc hpb hgu (fun q => by rw [honu q]; simp)
      rw [← tr_and HX.out HI.out rfl] at hs3
      have v0' := keptM hcur.1 HM5.out.memo _ _ v0
      have v1' := keptM hcur.1 HM5.out.memo _ _ v1
      have m2' := keptM hcur.1 HM5.out.memo _ _ m2
      obtain ⟨W9, hrun, hm9, hg9⟩ := memo_put (memo_drew hcur.2) i _ _ _ (hvn.grows (below_dr _)) hs3
      unfold vkey at hrun
      have HG3 := Lib.hid hcur.1
      have HG4 := Lib.hid hg9
      have HV3 := Lib.hid hvn
      have HM3 := Lib.hid hcur.2
      have HM4 := Lib.hid hm9
      have HS3 := Lib.hid hs3
      clear hcur hg9 hvn hm9 hs3 n5 n6
      go_region
      all_goals go_wp2
      all_goals go_ret
      all_goals exact ⟨⟨_, _, rfl, (HV3.out.grows (below_dr _)).kept (keptM HG4.out (memo_drew HM3.out)), HS3.out⟩, (((grownBy_of_below HB5.out _).trans HG3.out).trans (grownBy_of_below (below_dr _) _)).trans HG4.out, HM4.out⟩
  · unfold vkey at hg
    clear hfacts
    obtain ⟨vp, vc, rfl⟩ := hm1.shape
    go_region
    go_wp2
    go_ret
    exact ⟨⟨_, m, rfl, hm1, hm2⟩, (grownBy_of_below HB2.out _).trans (grownBy_of_below (below_dr _) _), hmd⟩
end Go.Proofs.YtgbbjobmcbdhdaaGreatDoor

/-
  Walks: the iterator over the positions of a set, for rounds that want a bound on each.
-/
namespace Go.Proofs.YtgbbjobmcbdhdaaGreatDoor
open Go.RowKit Go.Shelf
attribute [local go_sem] Oper.semAt_some

/-- a position that is at most M. -/
abbrev Pm (M : Nat) : Type := { p : Nat // p ≤ M }
def toPm (M : Nat) : List Nat → List (Pm M)
  | [] => []
  | p :: l => if h : p ≤ M then ⟨p, h⟩ :: toPm M l else toPm M l
theorem toPm_append (M : Nat) : ∀ a b : List Nat, toPm M (a ++ b) = toPm M a ++ toPm M b
  | [], _ => rfl
  | p :: a, b => by
    rw [List.cons_append, toPm, toPm]
    split
    · rw [toPm_append M a b]; rfl
    · exact toPm_append M a b
theorem toPm_one {M p : Nat} (h : p ≤ M) : toPm M [p] = [⟨p, h⟩] := by rw [toPm, dif_pos h]; rfl
theorem toPm_len (M : Nat) : ∀ a : List Nat, (toPm M a).length ≤ a.length
  | [] => Nat.le_refl _
  | p :: a => by
    have := toPm_len M a
    rw [toPm]
    split
    · simp only [List.length_cons]; omega
    · simp only [List.length_cons]; omega
theorem toPm_prefix (M : Nat) {a b : List Nat} (h : a <+: b) : toPm M a <+: toPm M b := by
  obtain ⟨c, rfl⟩ := h
  exact ⟨toPm M c, (toPm_append M a c).symm⟩
theorem toPm_val {M : Nat} : ∀ {a : List Nat}, (∀ p ∈ a, p ≤ M) → (toPm M a).map (·.1) = a
  | [], _ => rfl
  | p :: a, h => by
    rw [toPm, dif_pos (h p (by simp)), List.map_cons, toPm_val fun q hq => h q (by simp [hq])]

set_option maxRecDepth 100000 in
set_option maxHeartbeats 2000000 in
theorem positions2_in (M n : Nat) (hn : 2 ≤ n) (ly Bn eb : Nat) (X : Nat → Prop) (w : World) (v : Value) (l : List (Nat × Nat)) (hM : ∀ s ∈ l, s.2 ≤ M + 1) (J Jx : List (Pm M) → World → Prop)
    (hY : ∀ pre (y : Pm M) W, J pre W → pre.length < (pts l).length → YieldAt Fence.wide (n - 1) Tryz.prog ly #[.int .i64 (y.1 : Int)] W fun e W' =>
      (e = .returned (.bool true) ∧ J (pre ++ [y]) W' ∧ KpR eb X W W') ∨ (e = .returned (.bool false) ∧ Jx (pre ++ [y]) W'))
    (W : World) (hBn : Blk W Bn #[v] 62) (hread : ∀ W', KpR eb X w W' → IsS W' v l) (hW : KpR eb X w W) (heb : eb < w.heap.size) (hX : ∀ k, X k → k < w.heap.size) (hlow : ∀ r, rowOf w eb = some r → r < w.heap.size)
    (hl : l.length ≤ 1099511627776) (hls : ∀ s ∈ l, s.1 < s.2 ∧ s.2 ≤ 4611686018427387904)
    (hJa : ∀ pre W o, J pre W → J pre (W.alloc o)) (hJ : J [] W) :
    CallsIn Fence.wide n Tryz.prog 91 #[.func (.yield ly) #[] #[], .pointer (some ⟨Bn, 0, none⟩)] W fun e W' => (∃ v, e = .returned v) ∧
      ((∃ ys, ys = toPm M (pts l) ∧ J ys W') ∨ (∃ pre, pre <+: toPm M (pts l) ∧ Jx pre W')) := by
  obtain ⟨sp, sc, rfl⟩ := (hread _ hW).shape
  have c0 := hBn.cell 0 rfl
  have HR := Lib.hid (fun W' (h : KpR eb X w W') k s (hk : l[k]? = some s) => (hread W' h).at hk)
  have HT := Lib.hid (pts_take l)
  have HPre := Lib.hid (pts_pre l)
  have HL := Lib.hid hls
  have HMb := Lib.hid hM
  have HJa := Lib.hid hJa
  have HX := Lib.hid hX
  have HLow := Lib.hid hlow
  clear hread hls hJa hX hBn hlow hM
  have hfn : ∀ k, Fence.wide.fn k := fun _ => trivial
  have hn1 : 1 ≤ n := by omega
  refine callsIn_of_wp Tryz.func91 rfl trivial ?_ rfl
  simp only [Tryz.ntmps91, List.size_toArray, List.length_cons, List.length_nil, Nat.reduceAdd, Nat.reduceSub, Array.replicate_succ, Array.replicate_zero, List.push_toArray, List.append_toArray, List.nil_append, List.cons_append]
  gi_wp2
  gi_loopw [8] (fun q wr => ∃ (k : Nat), k ≤ l.length ∧ q = .int .i64 k ∧ J (toPm M (pts (l.take k))) wr ∧ KpR eb X w wr)
    (fun q _ => l.length - (intOf q).toNat)
  case atStart => exact ⟨0, Nat.zero_le _, rfl, hJ, hW⟩
  case round =>
    clear c0 hJ hW
    obtain ⟨k, hk, rfl, hJr, hKr⟩ := hrel
    by_cases hlt : k < l.length
    · obtain ⟨s, hs⟩ : ∃ s, l[k]? = some s := ⟨_, List.getElem?_eq_getElem hlt⟩
      obtain ⟨blk, off, rfl, a0, a1⟩ := HR.out wr hKr k s hs
      obtain ⟨hs1, hs2⟩ := HL.out s (List.mem_of_getElem? hs)
      have hsM := HMb.out s (List.mem_of_getElem? hs)
      have HTk := Lib.hid (HT.out k s hs)
      have hpl := (HPre.out (k + 1)).length_le
      rw [HTk.out, List.length_append, List.length_range'] at hpl
      have hlow0 := hKr.low HLow.out
      have hd : decide ((k : Int) < (l.length : Int)) = true := by rw [decide_eq_true_iff]; omega
      have hK1 : KpR eb X w (wr.alloc (.cells #[.int .i64 (s.1 : Int), .int .i64 (s.2 : Int)] 66)) := hKr.trans (KpR.of_below ((Below.refl _ _).alloc (Nat.le_refl _) _) (Nat.lt_of_lt_of_le heb hKr.size))
      have hr1 : rowOf (wr.alloc (.cells #[.int .i64 (s.1 : Int), .int .i64 (s.2 : Int)] 66)) eb ≠ some wr.heap.size := by
        intro e
        rw [rowOf_of_block (Below.heap_alloc _ _ _ (Nat.lt_of_lt_of_le heb hKr.size))] at e
        have := hlow0 _ e
        omega
      have hsz := hKr.size
      have hB0 := Blk.new wr #[.int .i64 (s.1 : Int), .int .i64 (s.2 : Int)] 66
      have HJ1 := Lib.hid (HJa.out _ _ (.cells #[.int .i64 (s.1 : Int), .int .i64 (s.2 : Int)] 66) hJr)
      clear hs hKr hlow0 hJr
      gi_wp2
      obtain ⟨wo, rfl⟩ : ∃ wo : World, wo = wr := ⟨_, rfl⟩
      gi_loopw [5] (fun q wr => ∃ p : Nat, s.1 ≤ p ∧ p ≤ s.2 ∧ q = .int .i64 (p : Int) ∧ J (toPm M (pts (l.take k) ++ List.range' s.1 (p - s.1))) wr ∧ KpR eb X w wr ∧ Blk wr wo.heap.size #[.int .i64 (s.1 : Int), .int .i64 (s.2 : Int)] 66 ∧ rowOf wr eb ≠ some wo.heap.size) (fun q _ => s.2 - (intOf q).toNat)
      case atStart => exact ⟨s.1, Nat.le_refl _, Nat.le_of_lt hs1, rfl, by simpa using HJ1.out, hK1, hB0, hr1⟩
      case round =>
        clear HJ1 hK1 hB0 hr1
        obtain ⟨p, hp1, hp2, rfl, hJ2, hK2, hB2, hr2⟩ := hrel
        have b1 := hB2.cell 1 rfl
        by_cases hps : p < s.2
        · have t1 : decide ((p : Int) < (s.2 : Int)) = true := by rw [decide_eq_true_iff]; omega
          have hlen : (toPm M (pts (l.take k) ++ List.range' s.1 (p - s.1))).length < (pts l).length := by
            refine Nat.lt_of_le_of_lt (toPm_len M _) ?_
            rw [List.length_append, List.length_range']; omega
          have hstep : pts (l.take k) ++ List.range' s.1 (p + 1 - s.1) = (pts (l.take k) ++ List.range' s.1 (p - s.1)) ++ [p] := by
            rw [show p + 1 - s.1 = (p - s.1) + 1 by omega, List.range'_concat, List.append_assoc, show s.1 + 1 * (p - s.1) = p by omega]
          have hpM : p ≤ M := by omega
          have HS0 := Lib.hid hstep
          have HS := Lib.hid (show toPm M (pts (l.take k) ++ List.range' s.1 (p + 1 - s.1)) = toPm M (pts (l.take k) ++ List.range' s.1 (p - s.1)) ++ [⟨p, hpM⟩] by rw [hstep, toPm_append, toPm_one hpM])
          clear hstep
          obtain ⟨fn, tmps, assign, body, hy, hR⟩ := hY _ ⟨p, hpM⟩ _ hJ2 hlen
          have hYo := Lib.hid hY
          clear hlen hY
          gi_wp2
          refine hR.mono ?_
          rintro e W3 (⟨rfl, hJ3, hk3⟩ | ⟨rfl, hJx3⟩)
          · have hne1 : wo.heap.size ≠ eb := by omega
            have hne2 : ¬ X wo.heap.size := fun h => by have := HX.out _ h; omega
            have hB3 : Blk W3 wo.heap.size #[.int .i64 (s.1 : Int), .int .i64 (s.2 : Int)] 66 := ⟨hk3.cell _ _ _ _ hB2.is hne1 hne2 (fun e => hr2 e.symm)⟩
            have hlt2 := hB2.lt
            have hr3 : rowOf W3 eb ≠ some wo.heap.size := by
              rcases hk3.row with h | h
              · rw [h]; exact hr2
              · intro e; have := h _ e; omega
            gi_wp2
            go_roundw
            case rel => exact ⟨p + 1, by omega, by omega, by go_num, by rw [HS.out]; exact hJ3, hK2.trans hk3, hB3, hr3⟩
            case measure => simp [intOf]; omega
          · gi_wp2
            refine bodyPost_ret (results_none rfl _ _ _) rfl ?_
            refine ⟨⟨_, rfl⟩, .inr ⟨_, ?_, hJx3⟩⟩
            refine List.IsPrefix.trans ?_ (toPm_prefix M (HPre.out (k + 1)))
            rw [HTk.out, ← HS.out]
            refine toPm_prefix M ⟨List.range' (p + 1) (s.2 - (p + 1)), ?_⟩
            rw [List.append_assoc]
            congr 1
            have := List.range'_append (s := s.1) (m := p + 1 - s.1) (n := s.2 - (p + 1)) (step := 1)
            rw [show s.1 + 1 * (p + 1 - s.1) = p + 1 by omega, show p + 1 - s.1 + (s.2 - (p + 1)) = s.2 - s.1 by omega] at this
            exact this
        · obtain rfl : p = s.2 := by omega
          have t1 : decide ((s.2 : Int) < (s.2 : Int)) = false := by simp
          rw [← HTk.out] at hJ2
          gi_wp2
          go_roundw
          case rel => exact ⟨k + 1, by omega, by go_num, hJ2, hK2⟩
          case measure => simp [intOf]; omega
    · obtain rfl : k = l.length := by omega
      have hd : decide ((l.length : Int) < (l.length : Int)) = false := by simp
      rw [List.take_length] at hJr
      gi_wp2
      refine bodyPost_end (results_none rfl _ _ _) rfl ?_
      exact ⟨⟨_, rfl⟩, .inl ⟨_, rfl, hJr⟩⟩
theorem positions_stopsM (M n : Nat) (hn : 2 ≤ n) (Bn eb : Nat) (X : Nat → Prop) (w : World) (v : Value) (l : List (Nat × Nat)) (hBn : Blk w Bn #[v] 62) (hread : ∀ W', KpR eb X w W' → IsS W' v l) (heb : eb < w.heap.size) (hX : ∀ k, X k → k < w.heap.size) (hlow : ∀ r, rowOf w eb = some r → r < w.heap.size)
    (hl : l.length ≤ 1099511627776) (hls : ∀ s ∈ l, s.1 < s.2 ∧ s.2 ≤ 4611686018427387904) (hM : ∀ s ∈ l, s.2 ≤ M + 1) :
    SeqStopsK Fence.wide n Tryz.prog 91 #[.pointer (some ⟨Bn, 0, none⟩)] (fun y : Pm M => #[Value.int .i64 (y.1 : Int)]) (KpR eb X) (fun ys => ys = toPm M (pts l)) (fun pre => pre <+: toPm M (pts l)) (pts l).length w :=
  fun ly J Jx W hW hJa _ hY hJ => positions2_in M n hn ly Bn eb X w v l hM J Jx hY W (hBn.grows hW) hread (KpR.of_below hW heb) heb hX hlow hl hls
    (fun pre W1 o h => hJa pre W1 _ none h (World.grownBy_alloc W1 o none) (fun r e => by cases e)) hJ
end Go.Proofs.YtgbbjobmcbdhdaaGreatDoor

/-
  The search of a repetition: what is fresh; the marks of ranges over functions; what a loop of searches leaves.
-/
namespace Go.Proofs.YtgbbjobmcbdhdaaGreatDoor
open Go.RowKit Go.Shelf

/-! ## What is fresh -/
def frP (ks : List Nat) {M : Nat} (pre : List (Pm M)) : List Nat := pre.foldl (fun acc y => if y.1 ∈ ks ++ acc then acc else acc ++ [y.1]) []
theorem frP_snoc (ks : List Nat) {M : Nat} (pre : List (Pm M)) (y : Pm M) : frP ks (pre ++ [y]) = if y.1 ∈ ks ++ frP ks pre then frP ks pre else frP ks pre ++ [y.1] := by
  unfold frP; rw [List.foldl_append]; rfl
theorem snoc_ind {α : Type} {P : List α → Prop} (h0 : P []) (h1 : ∀ l x, P l → P (l ++ [x])) : ∀ l, P l := by
  intro l
  have : ∀ m : List α, P m.reverse := by
    intro m
    induction m with
    | nil => exact h0
    | cons x m ih => rw [List.reverse_cons]; exact h1 _ _ ih
  have h := this l.reverse
  rwa [List.reverse_reverse] at h
theorem frP_facts (ks : List Nat) (hks : ks.Nodup) {M : Nat} (pre : List (Pm M)) : (∀ p ∈ frP ks pre, p ≤ M) ∧ (ks ++ frP ks pre).Nodup ∧ (frP ks pre).length ≤ pre.length := by
  refine snoc_ind (P := fun pre => (∀ p ∈ frP ks pre, p ≤ M) ∧ (ks ++ frP ks pre).Nodup ∧ (frP ks pre).length ≤ pre.length) ?_ ?_ pre
  · exact ⟨fun p hp => (by cases hp), by rw [show frP ks ([] : List (Pm M)) = [] from rfl, List.append_nil]; exact hks, Nat.le_refl _⟩
  · rintro pre y ⟨h1, h2, h3⟩
    rw [frP_snoc]
    split
    · exact ⟨h1, h2, by simp only [List.length_append, List.length_singleton]; omega⟩
    · rename_i hy
      refine ⟨fun p hp => ?_, ?_, by simp only [List.length_append, List.length_singleton]; omega⟩
      · rcases List.mem_append.1 hp with hp | hp
        · exact h1 p hp
        · obtain rfl : p = y.1 := by simpa using hp
          exact y.2
      · rw [← List.append_assoc]
        refine List.nodup_append.2 ⟨h2, by simp, fun a ha b hb => ?_⟩
        obtain rfl : b = y.1 := by simpa using hb
        exact fun e => hy (e ▸ ha)
theorem frP_all (ks : List Nat) {M : Nat} : ∀ (L acc : List Nat), (∀ p ∈ L, p ≤ M) → (acc ++ L).Nodup →
    (toPm M L).foldl (fun acc y => if y.1 ∈ ks ++ acc then acc else acc ++ [y.1]) acc = acc ++ L.filter (fun p => decide (p ∉ ks))
  | [], acc, _, _ => by simp [toPm]
  | p :: L, acc, h, hn => by
    have hp := h p (by simp)
    have hnp : p ∉ acc := fun hm => by
      have := (List.nodup_append.1 hn).2.2 p hm p (by simp)
      exact this rfl
    have hn2 : (acc ++ L).Nodup := by
      have h1 := List.nodup_append.1 hn
      exact List.nodup_append.2 ⟨h1.1, (List.nodup_cons.1 h1.2.1).2, fun a ha b hb => h1.2.2 a ha b (by simp [hb])⟩
    have hn3 : (acc ++ [p] ++ L).Nodup := by rw [List.append_assoc]; exact hn
    have h' : ∀ q ∈ L, q ≤ M := fun q hq => h q (by simp [hq])
    rw [toPm, dif_pos hp, List.foldl_cons]
    by_cases hk : p ∈ ks
    · rw [if_pos (by simp [hk]), frP_all ks L acc h' hn2, List.filter_cons_of_neg (by simpa using hk)]
    · rw [if_neg (by simp [hk, hnp]), frP_all ks L _ h' hn3, List.filter_cons_of_pos (by simpa using hk), List.append_assoc, List.singleton_append]
theorem nodup_of_incr {l : List Nat} (h : l.Pairwise (· < ·)) : l.Nodup := h.imp fun hab e => by omega
theorem frP_pts (ks : List Nat) {M : Nat} {A : List (Nat × Nat)} (hA : Good A) (hM : ∀ q, On A q → q ≤ M) :
    frP ks (toPm M (pts A)) = (pts A).filter (fun p => decide (p ∉ ks)) := by
  have := frP_all ks (M := M) (pts A) [] (fun p hp => hM p (mem_pts.1 hp)) (by rw [List.nil_append]; exact nodup_of_incr (pts_incr hA))
  rwa [List.nil_append] at this
theorem fresh_good (ks : List Nat) {M : Nat} {A : List (Nat × Nat)} (hA : Good A) (hM : ∀ q, On A q → q ≤ M) :
    Good (ofPts (frP ks (toPm M (pts A)))) ∧ (∀ q, On (ofPts (frP ks (toPm M (pts A)))) q ↔ On A q ∧ q ∉ ks) ∧ ∀ q, q ∈ frP ks (toPm M (pts A)) ↔ On A q ∧ q ∉ ks := by
  rw [frP_pts ks hA hM]
  obtain ⟨g1, g2⟩ := ofPts_good (l := (pts A).filter (fun p => decide (p ∉ ks))) (List.Pairwise.filter _ (pts_incr hA))
  have hm : ∀ q, q ∈ (pts A).filter (fun p => decide (p ∉ ks)) ↔ On A q ∧ q ∉ ks := fun q => by rw [List.mem_filter, mem_pts]; simp
  exact ⟨g1, fun q => (g2 q).trans (hm q), hm⟩
theorem ofPts_len (l : List Nat) : (ofPts l).length ≤ l.length := by
  have := addAll_len (l.map fun p => (p, p + 1)) []
  simpa [ofPts] using this
theorem ofPts_ends {l : List Nat} {M : Nat} (h : ∀ p ∈ l, p ≤ M) : ∀ s ∈ ofPts l, s.2 ≤ M + 1 :=
  addAll_ends (fun s hs => by cases hs) fun s hs => by
    obtain ⟨p, hp, rfl⟩ := List.mem_map.1 hs
    have := h p hp
    show p + 1 ≤ M + 1
    omega
theorem ofPts_nil {l : List Nat} (h : ofPts l = []) : l = [] := by
  rcases List.eq_nil_or_concat l with rfl | ⟨m, p, rfl⟩
  · rfl
  · rw [List.concat_eq_append, ofPts_snoc] at h
    exact absurd h (addS_ne _ _ _)
theorem nodup_len {N : Nat} {l : List Nat} (h : l.Nodup) (hb : ∀ k ∈ l, k ≤ N) : l.length ≤ N + 1 := by
  have h1 : l ⊆ List.range (N + 1) := fun k hk => List.mem_range.2 (by have := hb k hk; omega)
  have := h.length_le_of_subset h1
  rwa [List.length_range] at this

/-! ## The search -/
/-- between two rounds: the next starts A, the keys of what was reached. -/
structure Srch (R : Nat → Nat → Prop) (T : Nat → Prop) (M c : Nat) (A : List (Nat × Nat)) (ks : List Nat) : Prop where
  good : Good A
  le : ∀ q, On A q → q ≤ M
  nodup : ks.Nodup
  kle : ∀ k ∈ ks, k ≤ M
  mem : ∀ q, q ∈ ks ↔ upto R T c q
  next : ∀ q, upto R T (c + 1) q ↔ upto R T c q ∨ On A q
  cnt : c ≤ ks.length
theorem Srch.start {R : Nat → Nat → Prop} {T : Nat → Prop} {M : Nat} {A : List (Nat × Nat)} (hA : Good A) (hM : ∀ q, On A q → q ≤ M) (hT : ∀ q, On A q ↔ T q) : Srch R T M 0 A [] :=
  ⟨hA, hM, List.nodup_nil, fun k hk => (by cases hk), fun q => ⟨fun h => (by cases h), fun h => absurd h (upto_zero R T q)⟩, fun q => ⟨fun h => .inr ((hT q).2 ((upto_one R T q).1 h)), fun h => (upto_one R T q).2 ((hT q).1 (h.resolve_left (upto_zero R T q)))⟩, Nat.le_refl _⟩
/-- what was reached behind a round. -/
theorem Srch.reached {R : Nat → Nat → Prop} {T : Nat → Prop} {M c : Nat} {A : List (Nat × Nat)} {ks : List Nat} (h : Srch R T M c A ks) (q : Nat) : q ∈ ks ++ frP ks (toPm M (pts A)) ↔ upto R T (c + 1) q := by
  rw [List.mem_append, (fresh_good ks h.good h.le).2.2 q, h.next q, ← h.mem q]
  constructor
  · rintro (h1 | ⟨h1, _⟩)
    · exact .inl h1
    · exact .inr h1
  · rintro (h1 | h1)
    · exact .inl h1
    · by_cases hq : q ∈ ks
      · exact .inl hq
      · exact .inr ⟨h1, hq⟩
theorem Srch.round {R : Nat → Nat → Prop} {T : Nat → Prop} {M c : Nat} {A B : List (Nat × Nat)} {ks : List Nat} (h : Srch R T M c A ks) (hne : ofPts (frP ks (toPm M (pts A))) ≠ [])
    (hB : Good B) (hBM : ∀ q, On B q → q ≤ M) (hBq : ∀ q, On B q ↔ img R (On (ofPts (frP ks (toPm M (pts A))))) q) : Srch R T M (c + 1) B (ks ++ frP ks (toPm M (pts A))) := by
  obtain ⟨f1, f2, f3⟩ := frP_facts ks h.nodup (toPm M (pts A))
  have hg := fresh_good ks h.good h.le
  refine ⟨hB, hBM, f2, fun k hk => ?_, h.reached, fun q => ?_, ?_⟩
  · rcases List.mem_append.1 hk with hk | hk
    · exact h.kle k hk
    · exact f1 k hk
  · rw [search_step (F := On (ofPts (frP ks (toPm M (pts A))))) h.next (fun q => by rw [hg.2.1 q, h.mem q]) q, hBq q]
  · have : frP ks (toPm M (pts A)) ≠ [] := fun e => hne (by rw [e]; rfl)
    have := List.length_pos_iff.2 this
    have := h.cnt
    rw [List.length_append]; omega
/-- where the search ends: nothing is fresh, or no repetition is left. -/
theorem Srch.done {R : Nat → Nat → Prop} {T : Nat → Prop} {M c lo : Nat} {hi : Option Nat} {A : List (Nat × Nat)} {ks : List Nat} (h : Srch R T M c A ks) (hc : ∀ m, hi = some m → lo + c ≤ m)
    (he : ofPts (frP ks (toPm M (pts A))) = [] ∨ hi = some (lo + c)) (q : Nat) : q ∈ ks ++ frP ks (toPm M (pts A)) ↔ ∃ j, (∀ m, hi = some m → lo + j ≤ m) ∧ imgN R T j q := by
  rw [h.reached q]
  rcases he with he | he
  · have hstay : ∀ p, upto R T (c + 1) p → upto R T c p := fun p hp => by
      have h1 := (h.reached p).2 hp
      rw [ofPts_nil he, List.append_nil] at h1
      exact (h.mem p).1 h1
    constructor
    · intro hq
      obtain ⟨j, hj, hq⟩ := hstay q hq
      exact ⟨j, fun m hm => by have := hc m hm; omega, hq⟩
    · rintro ⟨j, _, hq⟩
      have := upto_stays hstay (j + 1) q ⟨j, by omega, hq⟩
      exact upto_mono (by omega) this
  · constructor
    · rintro ⟨j, hj, hq⟩
      exact ⟨j, fun m hm => by rw [he] at hm; cases hm; omega, hq⟩
    · rintro ⟨j, hj, hq⟩
      have := hj _ he
      exact ⟨j, by omega, hq⟩

/-! ## Marks -/
/-- the marks of these blocks. -/
def marks (Ds : List Nat) : List Deferred := Ds.map fun D => { target := .collected D, args := #[] }
structure MarksOk (base : Nat) (Ds : List Nat) (W : World) : Prop where
  nodup : Ds.Nodup
  is : ∀ D ∈ Ds, base ≤ D ∧ W.heap[D]? = some (.deferred (some []))
theorem MarksOk.nil (base : Nat) (W : World) : MarksOk base [] W := ⟨List.nodup_nil, fun D h => by cases h⟩
theorem MarksOk.kept {base : Nat} {Ds : List Nat} {W W' : World} (h : MarksOk base Ds W) (hk : ∀ D, base ≤ D → W.heap[D]? = some (.deferred (some [])) → W'.heap[D]? = W.heap[D]?) : MarksOk base Ds W' :=
  ⟨h.nodup, fun D hD => ⟨(h.is D hD).1, (hk D (h.is D hD).1 (h.is D hD).2).trans (h.is D hD).2⟩⟩
/-- leaving with marks: each is taken, one after the other. -/
theorem leaves_marks {F : Fence} {n : Nat} {P : Program} {fn : Func} {tmps : Array Value} {R : Ending → World → Prop} {base : Nat} (Inv : World → Prop)
    (hInv : ∀ W D, base ≤ D → W.heap[D]? = some (.deferred (some [])) → Inv W → Inv (W.putObj D (.deferred none))) (hend : ∀ W, Inv W → ∃ v, (results fn tmps).run P W = .ok v W ∧ R (.returned v) W) :
    ∀ (Ds : List Nat) (W : World), MarksOk base Ds W → Inv W → LeavesInM F n P fn tmps R (marks Ds) .returning W
  | [], W, _, h => hend W h
  | D :: Ds, W, hm, h => by
    obtain ⟨h1, h2⟩ := hm.is D (by simp)
    have hnd := List.nodup_cons.1 hm.nodup
    refine ⟨by simp, .inl ⟨D, _, rfl, run_takeDeferred h2, leaves_marks Inv hInv hend Ds _ ⟨hnd.2, fun D' hD' => ?_⟩ (hInv W D h1 h2 h)⟩⟩
    obtain ⟨g1, g2⟩ := hm.is D' (by simp [hD'])
    exact ⟨g1, (World.putObj_heap_other (show D' ≠ D from fun e => hnd.1 (by subst e; exact hD'))).trans g2⟩
end Go.Proofs.YtgbbjobmcbdhdaaGreatDoor

/-
  Frames of a search: a map of its own is written, and the memo.
-/
namespace Go.Proofs.YtgbbjobmcbdhdaaGreatDoor
open Go.RowKit Go.Shelf

def NoCells (W : World) (r : Nat) : Prop := ∀ cs t m, W.heap[r]? ≠ some (.cells cs t m)
theorem KeysC.noCells {W : World} {mr : Nat} {ks : List Nat} (h : KeysC W mr ks) : NoCells W mr := by
  obtain ⟨es, clock, hb, _⟩ := h
  intro cs t m e
  rw [hb] at e; cases e
theorem noCells_deferred {W : World} {D : Nat} {o : Option (List Deferred)} (h : W.heap[D]? = some (.deferred o)) : NoCells W D := by
  intro cs t m e
  rw [h] at e; cases e
theorem kept_row {W W' : World} {r : Nat} (hg : W.grownBy W' (some r)) (hr : NoCells W r) : ∀ a u, W.cell? a = some u → W'.cell? a = some u := by
  intro a u ha
  have hne : a.block ≠ r := fun e => by
    obtain ⟨cs, t, m, hc⟩ := cells_of_cell ha
    rw [e] at hc
    exact hr cs t m hc
  rw [World.cell?_of_block (hg.block a.block (lt_of_cell ha) (by simpa using hne))]; exact ha
theorem grown_more {A B C : World} {row : Option Nat} {k : Nat} (h : A.grownBy B row) (h2 : B.grownBy C (some k)) (hk : A.heap.size ≤ k) : A.grownBy C row :=
  ⟨h2.os.trans h.os, h2.tape.trans h.tape, h2.output.trans h.output, Nat.le_trans h.size h2.size, fun i hi hne => (h2.block i (Nat.lt_of_lt_of_le hi h.size) (by simp; omega)).trans (h.block i hi hne)⟩
theorem MemoOk.row {W W' : World} {mb r : Nat} {xs : List Nd} {b : List Int} (h : MemoOk W mb xs b) (hg : W.grownBy W' (some r)) (hr : NoCells W r) (hne : mb ≠ r) : MemoOk W' mb xs b :=
  (Memo.block h (hg.block mb h.lt (by simpa using hne))).mono fun _ _ _ ⟨m, h1, h2⟩ => ⟨m, h1.kept (kept_row hg hr), h2⟩
theorem ownFrom_grown {β : Type} {B mr : Nat} {w₀ : World} (hB : w₀.heap.size ≤ B) : OwnFrom B (fun (_ : β) W => w₀.grownBy W (some mr)) := by
  intro s W W' row hs hg hr
  refine ⟨hg.os.trans hs.os, hg.tape.trans hs.tape, hg.output.trans hs.output, Nat.le_trans hs.size hg.size, fun k hk hne => ?_⟩
  refine (hg.block k (Nat.lt_of_lt_of_le hk hs.size) (fun e => ?_)).trans (hs.block k hk hne)
  have := (hr k e.symm).1
  omega
theorem ownFrom_keys {β : Type} {B mr : Nat} (f : β → List Nat) (hm : mr < B) : OwnFrom B (fun s W => KeysC W mr (f s)) := by
  intro s W W' row hs hg hr
  refine hs.block (hg.block mr hs.lt (fun e => ?_))
  have := (hr mr e.symm).1
  omega
theorem MarksOk.grown {base mr : Nat} {Ds : List Nat} {W W' : World} (h : MarksOk base Ds W) (hg : W.grownBy W' (some mr)) (hm : mr < base) : MarksOk base Ds W' :=
  h.kept fun D hD hd => hg.block D (heap_lt hd) (by simp; omega)
theorem MarksOk.cons {base D : Nat} {Ds : List Nat} {W wx : World} (h : MarksOk base Ds W) (hx : MarksOk base Ds wx) (hD : base ≤ D) (hn : wx.heap.size ≤ D) (hk : W.heap[D]? = some (.deferred (some []))) : MarksOk base (D :: Ds) W := by
  refine ⟨List.nodup_cons.2 ⟨fun hm => ?_, h.nodup⟩, fun D' hD' => ?_⟩
  · have := heap_lt (hx.is D hm).2
    omega
  · rcases List.mem_cons.1 hD' with rfl | hD'
    · exact ⟨hD, hk⟩
    · exact h.is D' hD'
theorem kpR_map {eb r : Nat} {X : Nat → Prop} {W : World} {o : Obj} (he : eb ≠ r) (hr : NoCells W r) : KpR eb X W (W.putObj r o) := by
  have hg := grownBy_putObj' W r o
  have hrow : rowOf (W.putObj r o) eb = rowOf W eb := rowOf_of_block (World.putObj_heap_other he)
  refine ⟨hg.size, fun k cs t m hk _ _ _ => ?_, .inl hrow, fun h0 q h1 => ?_⟩
  · have hne : k ≠ r := fun e => by subst e; exact hr cs t m hk
    rw [World.putObj_heap_other hne]; exact hk
  · rw [hrow] at h1
    exact Nat.lt_of_lt_of_le (h0 q h1) hg.size
theorem grown_below {A B C : World} {row : Option Nat} (h : A.grownBy B row) (hb : Below A.heap.size B C) (hs : B.heap.size ≤ C.heap.size) : A.grownBy C row :=
  ⟨hb.os.trans h.os, hb.tape.trans h.tape, hb.output.trans h.output, Nat.le_trans h.size hs, fun k hk hne => (hb.block k hk).trans (h.block k hk hne)⟩
theorem row_not_map {W : World} {base mr : Nat} {e : TypeId} {size n : Nat} {v : Value} {xs : List Value} (hr : W.ownsRow base e size v n xs) (hm : NoCells W mr) : ∀ g, v.ownBlock = some g → mr ≠ g := by
  rintro g hg rfl
  rcases hr.2 with ⟨rfl, _⟩ | ⟨g, cap, cur, rfl, _, hgb, _⟩
  · simp [Value.ownBlock] at hg
  · obtain rfl : g = mr := by simpa [Value.ownBlock] using hg
    exact hm _ _ _ hgb
theorem below_size {n : Nat} {A B : World} (h : KeepsOthers A B) : A.heap.size ≤ B.heap.size := h.size
/-- the loop of searches: what holds at its head. -/
def Rel2 (mb : Nat) (xs : List Nd) (b : List Int) (t : Rx) (l : List (Nat × Nat)) (mn : Nat) (mx : Int) (wr : World) (B mr : Nat) (v q : Value) (ds : List Deferred) (wx : World) : Prop :=
  ∃ (c : Nat) (A : List (Nat × Nat)) (ks Ds : List Nat), Srch (Go.Proofs.YtgbbjobmcbdhdaaGreatDoor.sp b t) (imgN (Go.Proofs.YtgbbjobmcbdhdaaGreatDoor.sp b t) (On l) mn) b.length c A ks ∧ (mx = -1 ∨ ((mn + c : Nat) : Int) ≤ mx) ∧ q = .int .i64 ((mn + c : Nat) : Int) ∧ IsS wx v A ∧
    Blk wx B #[.map (some mr)] 135 ∧ KeysC wx mr ks ∧ ds = marks Ds ∧ MarksOk (B + 1) Ds wx ∧ wr.grownBy wx (some mb) ∧ MemoOk wx mb xs b
/-- what it leaves. -/
def Rel3 (mb : Nat) (xs : List Nd) (b : List Int) (t : Rx) (l : List (Nat × Nat)) (mn : Nat) (mx : Int) (wr : World) (B mr : Nat) (ds : List Deferred) (wx : World) : Prop :=
  ∃ (ks Ds : List Nat), ks.Nodup ∧ (∀ k ∈ ks, k ≤ b.length) ∧ (∀ q, q ∈ ks ↔ ∃ j : Nat, (∀ m, (if mx = -1 then none else some mx.toNat) = some m → mn + j ≤ m) ∧ imgN (Go.Proofs.YtgbbjobmcbdhdaaGreatDoor.sp b t) (imgN (Go.Proofs.YtgbbjobmcbdhdaaGreatDoor.sp b t) (On l) mn) j q) ∧
    Blk wx B #[.map (some mr)] 135 ∧ KeysC wx mr ks ∧ ds = marks Ds ∧ MarksOk (B + 1) Ds wx ∧ wr.grownBy wx (some mb) ∧ MemoOk wx mb xs b
end Go.Proofs.YtgbbjobmcbdhdaaGreatDoor
