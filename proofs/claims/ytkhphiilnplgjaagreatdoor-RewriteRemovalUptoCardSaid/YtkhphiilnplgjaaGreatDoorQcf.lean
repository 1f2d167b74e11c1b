/-
  Texts of the proof, one behind another: Ys, Yw, Yx, Yy, Yz, Za, Zb, Zc, Zd, Ze, Zf, Zg, Zh, Yt, Yu, Zi, Zj, Zk, Zl.
-/
import Derived.Test.YtkhphiilnplgjaaGreatDoorQcc
import Derived.Test.YtkhphiilnplgjaaGreatDoorQae
import Derived.Lib.IndexMore
import Derived.RangeFuncNested
import Derived.RangeFuncBound
import Derived.RangeFuncCalls
import Derived.RangeFuncLeaves
import Derived.Shelf.Abstract
import Derived.Shelf.RegionOpen
import Derived.OwnWalkIn
import Derived.TacticsInMore
import Derived.LoopNIn
import Derived.LoopIn
import Derived.RangeFuncBox
import Derived.Lib.QuietBelowIn
import Derived.Sort.BigQuietIn
import Derived.Test.YtkhphiilnplgjaaGreatDoorQbf
import Derived.Test.YtkhphiilnplgjaaGreatDoorQai
import Derived.Deep.QuietTactic
import Derived.BigQuiet
import Derived.Test.YtkhphiilnplgjaaGreatDoorQce
import Derived.Test.YtkhphiilnplgjaaGreatDoorQba
import Derived.Test.YtkhphiilnplgjaaGreatDoorQbg
import Derived.Test.YtkhphiilnplgjaaGreatDoorQcd
import Derived.Test.YtkhphiilnplgjaaGreatDoorQbj
import Derived.Laws.IdiomStrings
set_option linter.unusedSimpArgs false
set_option linter.unusedVariables false
namespace Go.Proofs.YtkhphiilnplgjaaGreatDoor
open Go.RowKit Go.Lib Go.Shelf
attribute [local go_sem] Oper.semAt_some

theorem prefix_bytes : ∀ {l m : List Int}, Byt l → Byt m → (bytesOf l).isPrefixOf (bytesOf m) = l.isPrefixOf m
  | [], m, _, _ => by simp [bytesOf]
  | x :: l, [], _, _ => by simp [bytesOf]
  | x :: l, y :: m, hl, hm => by
    have ih := prefix_bytes (l := l) (m := m) (fun z hz => hl z (by simp [hz])) (fun z hz => hm z (by simp [hz]))
    have hx := hl x (by simp)
    have hy := hm y (by simp)
    unfold bytesOf at ih ⊢
    simp only [List.map_cons, List.isPrefixOf_cons_cons, ih]
    congr 1
    rw [Bool.eq_iff_iff, beq_iff_eq, beq_iff_eq]
    exact ⟨ofNat_inj hx hy, fun h => by rw [h]⟩
theorem bytes_drop (b : List Int) (k : Nat) : bytesOf (b.drop k) = (bytesOf b).drop k := by unfold bytesOf; rw [List.map_drop]
theorem bytes_len (b : List Int) : (bytesOf b).length = b.length := by unfold bytesOf; rw [List.length_map]
def idxI (f : Nat) : Option Nat → Int
  | none => -1
  | some i => ((i - f : Nat) : Int)
theorem index_next {old b : List Int} {f : Nat} (ho : Byt old) (hb : Byt b) (h0 : 0 < old.length) (hf : f ≤ b.length) :
    ∃ r, NextO old b f r ∧ Lib.index (bytesOf (b.drop f)) (bytesOf old) = idxI f r := by
  have hat : ∀ j, Lib.occAt (bytesOf (b.drop f)) (bytesOf old) j = old.isPrefixOf (b.drop (f + j)) := fun j => by
    unfold Lib.occAt
    rw [← bytes_drop, List.drop_drop, prefix_bytes ho (hb.drop _)]
  have hlen : (bytesOf (b.drop f)).length = b.length - f := by rw [bytes_len, List.length_drop]
  rcases Lib.index_spec (bytesOf (b.drop f)) (bytesOf old) with ⟨h1, h2⟩ | ⟨i, h1, h2, h3, h4⟩
  · refine ⟨none, fun j hj hjl => ?_, h1⟩
    have := h2 (j - f) (by omega)
    rw [hat, show f + (j - f) = j by omega] at this
    exact this
  · rw [hat] at h3
    have hr := hit_room h3 h0
    refine ⟨some (f + i), ⟨by omega, by omega, h3, fun j hj hjl => ?_⟩, ?_⟩
    · have := h4 (j - f) (by omega)
      rw [hat, show f + (j - f) = j by omega] at this
      exact this
    · rw [h1]; show (i : Int) = ((f + i - f : Nat) : Int); omega
/-- the library's own variable holds a number. -/
def MaxOk (w : World) : Prop := ∃ m, w.cell? ⟨1, 0, none⟩ = some (.int .i64 m)
theorem MaxOk.grows {w w' : World} {B : Nat} (h : MaxOk w) (hb : Below B w w') (hB : 1 < B) : MaxOk w' := by
  obtain ⟨m, hm⟩ := h
  exact ⟨m, (hb.cell (p := ⟨1, 0, none⟩) hB).trans hm⟩
theorem MaxOk.lt {w : World} (h : MaxOk w) : 1 < w.heap.size := by
  obtain ⟨m, hm⟩ := h
  exact lt_of_cell hm
theorem cells_at {w : World} {b o cap : Nat} {l : List Int} (h : IsY w (.slice (some ⟨b, o, none⟩) l.length cap) l) : ∀ i, i < l.length → w.cell? ((⟨b, o, none⟩ : Addr).add i) = some (.int .u8 (l.getD i 0)) := fun i hi => by
  obtain ⟨x, hx⟩ := get_of_lt hi
  obtain ⟨b', o', e, hc⟩ := h.at hx
  simp only [Option.some.injEq, Addr.mk.injEq, and_true] at e
  obtain ⟨rfl, rfl⟩ := e
  rw [addr_add, hc, List.getD_eq_getElem?_getD, hx]; rfl
theorem index_isY (v u : Value) (b old : List Int) (w : World) (hv : IsY w v b) (hu : IsY w u old) (h0 : 0 < old.length) (h4 : old.length ≤ 8) (hb : b.length ≤ 4294967280) (hM : MaxOk w) :
    Calls Tryz.prog 130 #[v, u] w fun e w' => e = .returned (.int .i64 (Lib.index (bytesOf b) (bytesOf old))) ∧ ∃ q, w' = w.drewN q := by
  obtain ⟨p, c, rfl, hc⟩ := hv.shape
  obtain ⟨q, d, rfl, hd⟩ := hu.shape
  obtain ⟨m, hm⟩ := hM
  obtain ⟨y, hy⟩ := get_of_lt h0
  obtain ⟨b2, o2, rfl, hc2⟩ := hu.at hy
  cases p with
  | none =>
    obtain rfl := hv.nl _ _ _ rfl rfl
    have hb0 : b = [] := List.length_eq_zero_iff.1 (by omega)
    subst hb0
    have h := Tryz.bytes_Index_nil (some ⟨b2, o2, none⟩) old.length d w (by omega) (fun h1 => ⟨b2, o2, y, rfl, by rw [Nat.add_zero] at hc2; exact hc2⟩)
    refine h.mono fun e w' ⟨he, hw⟩ => ⟨?_, 0, hw⟩
    rw [he, if_neg (by omega)]
    have : old ≠ [] := fun e => by rw [e] at h0; simp at h0
    cases old with
    | nil => exact absurd rfl this
    | cons x l => rfl
  | some a =>
    cases b with
    | nil => exact Tryz.bytes_Index_at a ⟨b2, o2, none⟩ 0 c old.length d [] old m w rfl rfl (fun x hx => by cases hx) hu.byt (fun i hi => by omega) (cells_at hu) (by omega) (by omega) (by omega) hm
    | cons x l =>
      obtain ⟨b1, o1, e1, _⟩ := hv.at (j := 0) (x := x) rfl
      simp only [Option.some.injEq] at e1
      subst e1
      exact Tryz.bytes_Index_at ⟨b1, o1, none⟩ ⟨b2, o2, none⟩ (x :: l).length c old.length d (x :: l) old m w rfl rfl hv.byt hu.byt (cells_at hv) (cells_at hu) hc (by omega) (by omega) hm
theorem grownBy_of_below {W W' : World} (hb : Below W.heap.size W W') (row : Option Nat) : W.grownBy W' row := ⟨hb.os, hb.tape, hb.output, hb.size, fun k hk _ => hb.block k hk⟩
/-- what the iterator reads. -/
structure OccSt (Bo Bb : Nat) (po : Option Addr) (co : Nat) (pb : Option Addr) (cb : Nat) (old b : List Int) (W : World) : Prop where
  bo : W.cell? ⟨Bo, 0, none⟩ = some (.slice po old.length co)
  bb : W.cell? ⟨Bb, 0, none⟩ = some (.slice pb b.length cb)
  old_ : IsY W (.slice po old.length co) old
  b_ : IsY W (.slice pb b.length cb) b
  max : MaxOk W
theorem OccSt.grows {Bo Bb : Nat} {po : Option Addr} {co : Nat} {pb : Option Addr} {cb : Nat} {old b : List Int} {W W' : World} (h : OccSt Bo Bb po co pb cb old b W) (hb : Below W.heap.size W W') : OccSt Bo Bb po co pb cb old b W' :=
  ⟨(hb.cell (lt_of_cell h.bo)).trans h.bo, (hb.cell (lt_of_cell h.bb)).trans h.bb, h.old_.grows hb, h.b_.grows hb, h.max.grows hb h.max.lt⟩
def occV (old b : List Int) (f x f' : Nat) : Prop := NextO old b f (some x) ∧ f' = x + old.length
def encO (x : Nat) : Array Value := #[.int .i64 (x : Int)]
set_option maxRecDepth 100000 in
set_option maxHeartbeats 2000000 in
theorem occ_seq (n : Nat) (hn : 2 ≤ n) (Kp : World → World → Prop) (Bo Bb : Nat) (po : Option Addr) (co : Nat) (pb : Option Addr) (cb : Nat) (old b : List Int) (w : World) (hS : OccSt Bo Bb po co pb cb old b w)
    (hKp : ∀ W W', OccSt Bo Bb po co pb cb old b W → Kp W W' → OccSt Bo Bb po co pb cb old b W') (h0 : 0 < old.length) (h4 : old.length ≤ 8) (hb : b.length ≤ 4294967280) :
    SeqSt n Tryz.prog 129 #[.pointer (some ⟨Bo, 0, none⟩), .pointer (some ⟨Bb, 0, none⟩)] encO (occV old b) (fun f => NextO old b f none) 0 Kp w := by
  intro l J Jx W hW hJ hJx hY hJ0
  have HS0 := Lib.hid (hS.grows hW)
  have HJ := Lib.hid (fun f W1 W2 (h : J f W1) (hb : Below W1.heap.size W1 W2) => hJ f W1 W2 none h (grownBy_of_below hb none) (fun r e => by cases e))
  have HY := Lib.hid hY
  have HK := Lib.hid hKp
  clear hS hW hJ hJx hY hKp
  have hn1 : 1 ≤ n := by omega
  refine callsIn_of_wp Tryz.func129 rfl trivial ?_ rfl
  simp only [Tryz.ntmps129, List.size_toArray, List.length_cons, List.length_nil, Nat.reduceAdd, Nat.reduceSub, Array.replicate_succ, Array.replicate_zero, List.push_toArray, List.append_toArray, List.nil_append, List.cons_append]
  have hfn : ∀ k, Fence.wide.fn k := fun _ => trivial
  gi_wp2
  gi_loopw [4] (fun fv wr => ∃ f : Nat, f ≤ b.length ∧ fv = .int .i64 (f : Int) ∧ J f wr ∧ OccSt Bo Bb po co pb cb old b wr) (fun fv _ => b.length + 1 - (RowKit.intOf fv).toNat)
  case atStart => exact ⟨0, Nat.zero_le _, rfl, hJ0, HS0.out⟩
  case round =>
    clear HS0 hJ0
    obtain ⟨f, hf, rfl, hJr, hSr⟩ := hrel
    have HSr := Lib.hid hSr
    have HJr := Lib.hid hJr
    have k1 := cell_regrown hSr.bo
    have k2 := cell_regrown hSr.bb
    have hsl := slice_from pb b.length cb f hf
    obtain ⟨r, hr, hidx⟩ := index_next hSr.old_.byt hSr.b_.byt h0 hf
    have HI := Lib.hid (fun d os => CallsIn.regrown_of (F := Fence.wide) (r := n - 1) (callsIn_wide.2 ((index_isY (.slice (tailA pb cb f) (b.length - f) (cb - f)) (.slice po old.length co) (b.drop f) old (Go.Sort.grow (redrawn wr d) os) ((hSr.grows (below_regrown wr d os)).b_.drop f hf) (hSr.grows (below_regrown wr d os)).old_ h0 h4 (by rw [List.length_drop]; omega) (hSr.grows (below_regrown wr d os)).max).mono (fun e w' ⟨he, q, hq⟩ => (⟨he, by rw [hq]; exact below_drews (Below.refl _ _) _⟩ : e = _ ∧ Below (Go.Sort.grow (redrawn wr d) os).heap.size (Go.Sort.grow (redrawn wr d) os) w')))))
    rw [hidx] at HI
    clear hSr hJr hidx
    gi_wp2
    refine wpIn_region_quiet_below rfl (by kernel_rfl) (by kernel_rfl) ?_
    repeat (gi_big_quiet_step (with_reducible exact HI.out _ _))
    refine wpQuietIn_nil ?_
    intro _ hw'
    obtain ⟨⟨dq, osq⟩, hw''⟩ := hw'
    subst hw''
    have HS4 := Lib.hid (HSr.out.grows (below_regrown wr dq osq))
    have HJ4 := Lib.hid (HJ.out f _ _ HJr.out (below_regrown wr dq osq))
    clear k1 k2 HI HSr HJr hsl
    generalize Go.Sort.grow (redrawn wr dq) osq = w4 at HS4 HJ4 ⊢
    clear dq osq
    cases r with
    | none =>
      have HR := Lib.hid hr
      clear hr
      have hid : idxI f none = -1 := rfl
      rw [hid]
      clear hid
      gi_wp2
      refine bodyPost_ret (results_none rfl _ _ _) rfl ?_
      exact ⟨⟨_, rfl⟩, .inl ⟨f, HR.out, HJ4.out⟩⟩
    | some i =>
      obtain ⟨d, rfl⟩ : ∃ d, i = f + d := ⟨i - f, by have := hr.1; omega⟩
      have hroom := hit_room hr.2.2.1 h0
      have HR := Lib.hid hr
      clear hr
      rw [show idxI f (some (f + d)) = (d : Int) by show ((f + d - f : Nat) : Int) = (d : Int); omega]
      have hd : decide ((d : Int) < 0) = false := by rw [decide_eq_false_iff_not]; omega
      obtain ⟨fn, tmps, assign, body, hy, hRd⟩ := HY.out f (f + d) (f + d + old.length) w4 ⟨HR.out, rfl⟩ HJ4.out
      unfold encO at hy
      simp only [Int.natCast_add] at hy
      gi_wp2
      refine hRd.mono ?_
      rintro e w5 (⟨rfl, hJ5, hk5⟩ | ⟨rfl, hx5⟩)
      · have HS5 := Lib.hid (HK.out w4 w5 HS4.out hk5)
        have HJ5 := Lib.hid hJ5
        have c1 := HS5.out.bo
        clear hJ5 hk5 hRd hy
        gi_wp2
        go_roundw
        case rel => exact ⟨f + d + old.length, by omega, by go_num, HJ5.out, HS5.out⟩
        case measure => simp [RowKit.intOf]; omega
      · have HX5 := Lib.hid hx5
        clear hx5 hRd hy
        gi_wp2
        refine bodyPost_ret (results_none rfl _ _ _) rfl ?_
        exact ⟨⟨_, rfl⟩, .inr ⟨_, HX5.out⟩⟩
theorem occurrences_in (n : Nat) (v u : Value) (w : World) (hv : ∃ p k c, v = .slice p k c) (hu : ∃ p k c, u = .slice p k c) :
    CallsIn Fence.wide n Tryz.prog 101 #[v, u] w fun e w' => e = .returned (.func (.func 129) #[] #[.pointer (some ⟨w.heap.size, 0, none⟩), .pointer (some ⟨w.heap.size + 1, 0, none⟩)]) ∧ w' = (w.alloc (.cells #[v] 22)).alloc (.cells #[u] 22) := by
  obtain ⟨p, k, c, rfl⟩ := hv
  obtain ⟨q, m, d, rfl⟩ := hu
  have hmf : ∀ (fn : Fn) (first cap : Array Value) (w : World), (Instr.makeFunc fn first cap).run Tryz.prog w = .ok (.func fn first cap) w := fun _ _ _ _ => rfl
  refine callsIn_of_wp Tryz.func101 rfl trivial ?_ rfl
  simp only [Tryz.ntmps101, List.size_toArray, List.length_cons, List.length_nil, Nat.reduceAdd, Nat.reduceSub, Array.replicate_succ, Array.replicate_zero, List.push_toArray, List.append_toArray, List.nil_append, List.cons_append]
  gi_wp2
  go_ret
  exact ⟨rfl, rfl⟩
end Go.Proofs.YtkhphiilnplgjaaGreatDoor

namespace Go.Proofs.YtkhphiilnplgjaaGreatDoor
open Go.RowKit Go.Lib
set_option maxRecDepth 100000 in
set_option maxHeartbeats 1000000 in
theorem sclone_any (v : Value) (l : List Int) (w : World) (hv : IsY w v l) (hl : l.length ≤ 140737488351232) : Calls Tryz.prog 132 #[v] w fun e w' =>
    ∃ u, e = .returned u ∧ w'.ownsRow w.heap.size 5 1 u l.length (l.map (Value.int .u8)) ∧ Below w.heap.size w w' := by
  obtain ⟨p, cap, rfl, hc⟩ := hv.shape
  have q22 : ∀ (w : World) (a : Option Addr) (n c n' c' : Nat), (binOp .eql 22 (.slice a n c) (.slice none n' c')).run Tryz.prog w = .ok (.bool a.isNone) w := fun w a n c n' c' => Lib.run_eql_slice_nil w _ _ a n c n' c' Tryz.underlying22
  cases p with
  | none =>
    have hl0 : l = [] := by
      cases l with
      | nil => rfl
      | cons y l => obtain ⟨b, o, e, _⟩ := hv.at (j := 0) (x := y) rfl; cases e
    subst hl0
    clear hv
    go_enter Tryz.func132, Tryz.ntmps132
    go_wp2
    go_ret
    exact ⟨_, rfl, World.ownsRow_nil _ _ _ _, Below.refl _ _⟩
  | some a =>
    have HV := Lib.hid (hv.grows (w' := w.alloc (.cells #[] 5)) (by go_grown))
    have HO := Lib.hid (own_of_blk (base := w.heap.size) (Blk.new w #[] 5) 0 1 rfl (Nat.zero_le _) (Nat.le_refl _))
    have HB : Hid (Below w.heap.size w (w.alloc (.cells #[] 5))) := Lib.hid (by go_grown)
    clear hv
    go_enter Tryz.func132, Tryz.ntmps132
    go_wp2_with (at_builtin; refine app_list rfl _ _ rfl rfl w.heap.size _ [] l (some a) cap rfl rfl HO.out HV.out (by simp; omega) (by simp) ?_; intro u9 w9 G9; obtain ⟨hown2, hgrow, hat⟩ := G9)
    go_ret
    exact ⟨_, rfl, own_cast hown2 (by simp) (by simp), HB.out.grown hgrow HB.out.size (fun k e => own_ge HO.out k e)⟩
theorem isY_in {w : World} {p : Option Addr} {c : Nat} {l : List Int} (h : IsY w (.slice p l.length c) l) : Lib.BytesIn w p l.length l := fun h0 => by
  obtain ⟨x, hx⟩ := get_of_lt h0
  obtain ⟨b, o, rfl, _⟩ := h.at hx
  exact ⟨b, o, rfl, fun i hi => by have := cells_at h i hi; rwa [addr_add] at this⟩
theorem bytes_same {l m : List Int} (hl : Byt l) (hm : Byt m) : (bytesOf l == bytesOf m) = decide (l = m) := by
  rw [Bool.eq_iff_iff, beq_iff_eq, decide_eq_true_iff]
  exact ⟨fun h => map_ofNat_inj hl hm h, fun h => by rw [h]⟩
theorem equal_isY (v u : Value) (l m : List Int) (w : World) (hv : IsY w v l) (hu : IsY w u m) : Calls Tryz.prog 133 #[v, u] w fun e w' => e = .returned (.bool (decide (l = m))) ∧ w' = w := by
  obtain ⟨p, c, rfl, _⟩ := hv.shape
  obtain ⟨q, d, rfl, _⟩ := hu.shape
  rw [← bytes_same hv.byt hu.byt]
  exact Tryz.bytes_Equal_all p q l.length c m.length d l m w rfl rfl (isY_in hv) (isY_in hu)
theorem prefix_isY (v u : Value) (l m : List Int) (w : World) (hv : IsY w v l) (hu : IsY w u m) : Calls Tryz.prog 134 #[v, u] w fun e w' => e = .returned (.bool (m.isPrefixOf l)) ∧ w' = w := by
  obtain ⟨p, c, rfl, hc⟩ := hv.shape
  obtain ⟨q, d, rfl, _⟩ := hu.shape
  have h := Tryz.bytes_HasPrefix_all p q l.length c m.length d l m w rfl rfl hc (isY_in hv) (isY_in hu)
  unfold Lib.hasPrefix at h
  rwa [prefix_bytes hu.byt hv.byt] at h
/-- how many bytes are free: no occurrence can begin with them. -/
def freeS (old : List Int) : List Int → Nat
  | [] => 0
  | x :: l => if (x :: l).isPrefixOf old = true then 0 else freeS old l + 1
theorem free_le (old : List Int) : ∀ l, freeS old l ≤ l.length
  | [] => Nat.le_refl _
  | x :: l => by
    have := free_le old l
    simp only [freeS, List.length_cons]
    split <;> omega
theorem free_stop {old l : List Int} (h : l.isPrefixOf old = true) : freeS old l = 0 := by
  cases l with
  | nil => rfl
  | cons x l => simp only [freeS]; rw [if_pos h]
theorem free_go {old r : List Int} {f : Nat} (hf : f < r.length) (h : (r.drop f).isPrefixOf old = false) : freeS old (r.drop f) = freeS old (r.drop (f + 1)) + 1 := by
  obtain ⟨x, hx⟩ := get_of_lt hf
  rw [drop_cons hx] at h ⊢
  simp only [freeS]
  rw [if_neg (by rw [h]; simp)]
/-- what a state that holds back this many bytes does with a byte. -/
def srchS (old new : List Int) (held behind : Nat) (x : Int) : Int × Pcs :=
  if old.take held ++ [x] = old then ((behind : Int), wrS new)
  else if freeS old (old.take held ++ [x]) = (old.take held ++ [x]).length then (0, wrS ((old.take held ++ [x]).take held) ++ [(true, 0)])
  else ((((old.take held ++ [x]).length - freeS old (old.take held ++ [x]) : Nat) : Int), wrS ((old.take held ++ [x]).take (freeS old (old.take held ++ [x]))))
theorem wp_held (z : Nat) {P : Program} {id : Nat} {Q : Exit → Act → World → Prop} {a : Act} {w : World} {l : List Oper} (S : World → Prop) (hm : P.follows .mixedOrders = true) (hS : S w.drew)
    (h : S w.drew → wpAnyZ z P .any l.toArray Q S l.toArray.size (Array.replicate l.toArray.size false) a w.drew) : (Code.region id l.toArray true).wp P Q a w :=
  wp_region_any hm (wpAny_of_z _ _ _ _ (h hS))
set_option maxRecDepth 100000 in
set_option maxHeartbeats 4000000 in
theorem search1_any (x : Int) (ob hb bb held behind : Nat) (k : Int) (po pn : Option Addr) (co cn : Nat) (old new : List Int) (w : World) (hx : 0 ≤ x ∧ x < 256)
    (hO : Blk w ob #[.int .i64 k, .slice po old.length co, .slice pn new.length cn] 24) (hH : Blk w hb #[.int .i64 (held : Int)] 3) (hB : Blk w bb #[.int .i64 (behind : Int)] 3)
    (h1 : IsY w (.slice po old.length co) old) (h2 : IsY w (.slice pn new.length cn) new) (c1 : old.length ≤ co) (hl : old.length ≤ 1000) (hn : new.length ≤ 1000) (hh : held ≤ old.length) :
    Calls Tryz.prog 131 #[.int .u8 x, .pointer (some ⟨ob, 0, none⟩), .pointer (some ⟨hb, 0, none⟩), .pointer (some ⟨bb, 0, none⟩)] w fun e w' =>
      ∃ u, e = .returned u ∧ MvAt w.heap.size w' u (srchS old new held behind x).1 (srchS old new held behind x).2 ∧ Below w.heap.size w w' := by
  obtain ⟨i0, hi, hz0, hz1, hz2⟩ := info_parts infoU8
  have hbw : Below w.heap.size w (w.alloc (.cells #[.int .i64 0, .slice none 0 0] 82)) := by go_grown
  have D0 := Blk.new w #[.int .i64 0, .slice none 0 0] 82
  have hsz : (w.alloc (.cells #[.int .i64 0, .slice none 0 0] 82)).heap.size = w.heap.size + 1 := by simp
  have q1 := (hO.grows hbw).cell 1 rfl
  have q2 := (hO.grows hbw).cell 2 rfl
  have q3 := (hH.grows hbw).cell 0 rfl
  have q4 := (hB.grows hbw).cell 0 rfl
  have Y1 := Lib.hid (h1.grows hbw)
  have Y2 := Lib.hid (h2.grows hbw)
  have hsl := fun w => slice_to po old.length co held (by omega) w
  clear hO hH hB h1 h2
  go_enter Tryz.func131, Tryz.ntmps131
  go_wp2_with fail
  generalize (w.alloc (.cells #[.int .i64 0, .slice none 0 0] 82)) = w1 at D0 hbw hsz q1 q2 q3 q4 Y1 Y2 ⊢
  have HC := Lib.hid (sclone_any _ (old.take held) w1 (Y1.out.take held hh) (by rw [List.length_take]; omega))
  refine HC.out.mono ?_
  rintro e w2 ⟨u2, rfl, ho2, hb2⟩
  have htl : (old.take held).length = held := by rw [List.length_take]; omega
  have hbw2 := hbw.trans (hb2.mono (by omega))
  have D2 := D0.grows hb2
  have hz2' := hb2.size
  rw [hsz, htl] at ho2
  have D3 := D2.alloc (.cells #[.int .u8 x] 5)
  have r1 := lt_of_cell q1
  have r3 := lt_of_cell q3
  have r4 := lt_of_cell q4
  go_wp2_with (at_builtin; go_loud (refine wpList_append_own_at _ rfl _ _ 22 rfl (w.heap.size + 1) 5 i0 _ 1 1 Tryz.underlying22 hi hz0 hz1 hz2 rfl (by decide) _ _ _ rfl (own_alloc ho2 _) ⟨w2.heap.size, 0, none⟩ 1 1 [.int .u8 x] rfl rfl (cell_one_new _ _ _) (by simp [Value.oneCell']) (by unfold maxLen; omega) (by omega) (by simp; omega) ?_); intro v' w3 hown3 hgrow _ _; obtain ⟨p3, c3, rfl⟩ := own_shape hown3
               have D4 := D3.grownBy hgrow (fun k e => by have := own_ge ho2 k e; omega)
               have hb4 : Below w1.heap.size w1 w3 := (hb2.alloc (by omega) _).grown hgrow (by simp; omega) (fun k e => by have := own_ge ho2 k e; omega)
               have hbw4 := hbw.trans (hb4.mono (by omega))
               have s1 := (hb4.cell r1).trans q1
               have s2 := (hb4.cell r1).trans q2
               have s3 := (hb4.cell r3).trans q3
               have s4 := (hb4.cell r4).trans q4
               have Z1 := Lib.hid (Y1.out.grows hb4)
               have Z2 := Lib.hid (Y2.out.grows hb4)
               have hrl : (old.take held ++ [x]).length = held + 1 := by simp [htl]
               have hown4 : w3.ownsRow (w.heap.size + 1) 5 1 (.slice p3 (held + 1) c3) (old.take held ++ [x]).length ((old.take held ++ [x]).map (Value.int .u8)) := own_cast hown3 (by rw [hrl]) (by simp)
               have Z3 := Lib.hid (own_isY ((Y1.out.byt.take held).append (Byt.one hx)) hown4)
               have c3h : held + 1 ≤ c3 := by
                 obtain ⟨_, _, e, hc⟩ := Z3.out.shape
                 rw [hrl] at e hc
                 cases e; exact hc
               have hs4 := hb4.size
               have HR := Lib.hid hrl
               have HB4 := Lib.hid hb4
               have HW4 := Lib.hid hbw4
               clear hown4 hown3 hgrow D3 D2 D0 ho2 hb2 hbw2 q1 q2 q3 q4 r1 r3 r4 Y1 Y2 HC hbw hz2' hrl hb4 hbw4)
  obtain ⟨sr, hsr⟩ : ∃ sr, srchS old new held behind x = sr := ⟨_, rfl⟩
  have HE := Lib.hid hsr
  unfold srchS at hsr
  generalize hrd : old.take held ++ [x] = rd at Z3 HR hsr
  have HQ := Lib.hid hsr
  clear hsr
  have Z4 : Hid (IsY w3 (.slice p3 rd.length c3) rd) := by rw [HR.out]; exact Z3
  refine (equal_isY _ _ rd old w3 Z3.out Z1.out).mono ?_
  rintro e w4 ⟨rfl, rfl⟩
  by_cases heq : rd = old
  · have hd : decide (rd = old) = true := decide_eq_true heq
    have HQ2 := Lib.hid (show sr = ((behind : Int), wrS new) by rw [← HQ.out, if_pos heq])
    clear heq HQ
    go_wp2
    refine wp_held 5 (fun W' => W'.cell? ⟨bb, 0, none⟩ = some (.int .i64 (behind : Int)) ∧ W'.cell? ⟨ob, 2, none⟩ = some (.slice pn new.length cn)) (by kernel_rfl) ⟨s4, s2⟩ (fun hHeld => ?_)
    refine wpAnyZ_take (i := 0) (v := .int .i64 (behind : Int)) rfl (by kernel_rfl) (by decide) (by kernel_rfl) (fun _ _ _ h => h) _ _ _ _ (by kernel_rfl) (by kernel_rfl) (Or.inl ⟨by rfl, by intro w hSw; obtain ⟨s1, s2⟩ := hSw; go_simp⟩) hHeld ?_
    simp only [Act.put, List.setIfInBounds_toArray, List.set_cons_zero, List.set_cons_succ]
    refine wpAnyZ_take (i := 1) (v := .pointer (some ⟨ob, 2, none⟩)) rfl (by kernel_rfl) (by decide) (by kernel_rfl) (fun _ _ _ h => h) _ _ _ _ (by kernel_rfl) (by kernel_rfl) (Or.inl ⟨by rfl, by intro w hSw; obtain ⟨s1, s2⟩ := hSw; go_simp⟩) hHeld ?_
    simp only [Act.put, List.setIfInBounds_toArray, List.set_cons_zero, List.set_cons_succ]
    refine wpAnyZ_take (i := 2) (v := .slice pn new.length cn) rfl (by kernel_rfl) (by decide) (by kernel_rfl) (fun _ _ _ h => h) _ _ _ _ (by kernel_rfl) (by kernel_rfl) (Or.inl ⟨by rfl, by intro w hSw; obtain ⟨s1, s2⟩ := hSw; go_simp⟩) hHeld ?_
    simp only [Act.put, List.setIfInBounds_toArray, List.set_cons_zero, List.set_cons_succ]
    obtain ⟨t4, t2⟩ := hHeld
    have HWr := Lib.hid (written_any _ new _ (Z2.out.grows (Below.refl w4.heap.size w4).drew) (by omega))
    refine wpAnyZ_one (j := 3) (by kernel_rfl) rfl (fun K hK => ?_)
    go_simp
    go_wp2_with (go_at_call 91; refine HWr.out.mono ?_; rintro e w5 ⟨u5, rfl, ho5, hb5⟩; obtain ⟨p5, c5, rfl⟩ := own_shape ho5)
    have D5 := D4.drew.grows hb5
    refine hK.out _ _ (.inr ⟨(hb5.cell (lt_of_cell t4)).trans t4, (hb5.cell (lt_of_cell t2)).trans t2⟩) ?_
    clear hK K
    have hb35 := (Below.refl w4.heap.size w4).drew.trans hb5
    have e4 := (hb5.cell (lt_of_cell t4)).trans t4
    have e2 := (hb5.cell (lt_of_cell t2)).trans t2
    have HO5 := Lib.hid ho5
    have HB5 := Lib.hid hb35
    clear ho5 hb5 hb35
    try simp only [Act.put, List.setIfInBounds_toArray, List.set_cons_zero, List.set_cons_succ]
    refine wpAnyZ_one (j := 4) (by kernel_rfl) rfl (fun K hK => ?_)
    go_simp
    go_wp2_with (go_at_call 90; refine (to_any _ _ _ _ w5).mono ?_; rintro e w6 ⟨rfl, hb6⟩)
    have D6 := D5.grows hb6
    refine hK.out _ _ (.inr ⟨(hb6.cell (lt_of_cell e4)).trans e4, (hb6.cell (lt_of_cell e2)).trans e2⟩) ?_
    clear hK K
    have HO6 := Lib.hid (own_mono (own_below HO5.out hb6) (base' := w.heap.size + 1) (by show w.heap.size + 1 ≤ w4.heap.size; omega))
    have hbw6 := HW4.out.trans ((HB5.out.mono (Nat.le_of_lt (by omega))).trans (hb6.mono (by have := HB5.out.size; omega)))
    have HB6 := Lib.hid hbw6
    clear hb6 hbw6 e4 e2 t4 t2 D5
    have f0 := D6.free 0
    have f1 := D6.free 1
    have g0 := D6.cell 0 rfl
    have g1 := D6.cell 1 rfl
    try simp only [Act.put, List.setIfInBounds_toArray, List.set_cons_zero, List.set_cons_succ]
    refine wpAnyZ_one (j := 5) (by kernel_rfl) rfl (fun K hK => ?_)
    go_simp
    refine hK.out _ _ (.inl rfl) ?_
    clear hK K
    refine wpAnyZ_done (by kernel_rfl) ?_
    try simp only [Act.put, List.setIfInBounds_toArray, List.set_cons_zero, List.set_cons_succ]
    go_wp2
    have hq := own_mono (own_set (own_set HO6.out (p := ⟨w.heap.size, 0, none⟩) (Nat.lt_succ_self _) (.int .i64 (behind : Int))) (p := ⟨w.heap.size, 1, none⟩) (Nat.lt_succ_self _) (.slice p5 (wrS new).length c5)) (base' := w.heap.size) (by omega)
    refine bodyPost_ret (results_cell_row rfl _ _ w.heap.size 82 _ (0, 0) _ rfl ((D6.set 0 _).set 1 _).is Tryz.underlying82 rfl mvSize) rfl ⟨_, rfl, ?_, (HB6.out.setCell (p := ⟨w.heap.size, 0, none⟩) (Nat.le_refl _) _).setCell (p := ⟨w.heap.size, 1, none⟩) (Nat.le_refl _) _⟩
    rw [HE.out, HQ2.out]
    exact ⟨_, rfl, hq⟩
  · have hd : decide (rd = old) = false := decide_eq_false heq
    have HQ2 := Lib.hid (show sr = if freeS old rd = rd.length then (0, wrS (rd.take held) ++ [(true, 0)]) else (((rd.length - freeS old rd : Nat) : Int), wrS (rd.take (freeS old rd))) by rw [← HQ.out, if_neg heq])
    clear heq HQ
    go_wp2
    go_loopw [7] (fun kv wr => ∃ f : Nat, kv = .int .i64 (f : Int) ∧ f ≤ rd.length ∧ f + freeS old (rd.drop f) = freeS old rd ∧ Below w4.heap.size w4 wr) (fun kv _ => rd.length - (RowKit.intOf kv).toNat)
    case atStart =>
      exact ⟨0, rfl, Nat.zero_le _, by simp, Below.refl _ _⟩
    case round =>
      obtain ⟨f, rfl, hf, hfr, hbr⟩ := hrel
      have e1 := (hbr.cell (lt_of_cell s1)).trans s1
      have e3 := (hbr.cell (lt_of_cell s3)).trans s3
      have hf2 : f ≤ held + 1 := by have := HR.out; omega
      have hsf := fun w => slice_from p3 (held + 1) c3 f hf2 w
      have HP := Lib.hid (fun (W : World) (hk : ∀ a u, wr.cell? a = some u → W.cell? a = some u) => prefix_isY _ _ old (rd.drop f) W ((Z1.out.grows hbr).kept hk) ((((Z3.out.grows hbr).drop f hf)).kept hk))
      have HBR := Lib.hid hbr
      have HFR := Lib.hid hfr
      have HX : ∃ q, (rd.drop f).isPrefixOf old = q := ⟨_, rfl⟩
      obtain ⟨q, hq⟩ := HX
      have HQq := Lib.hid hq
      rw [hq] at HP
      clear hbr hfr hq
      go_wp2
      go_quiet ((go_at_call 134; exact Calls.quiet_of_same (HP.out _ (fun _ _ h => h))))
      have HBD := Lib.hid (HBR.out.drew)
      cases q with
      | false =>
        have hlt : f < rd.length := by
          rcases Nat.lt_or_ge f rd.length with h | h
          · exact h
          · have := HQq.out; rw [List.drop_eq_nil_of_le h] at this; simp at this
        go_wp2
        go_roundw
        case rel =>
          refine ⟨f + 1, by go_num, by omega, ?_, below_drews HBR.out _⟩
          have h1 := free_go hlt HQq.out
          have h2 := HFR.out
          omega
        case measure => simp [RowKit.intOf]; omega
      | true =>
        have hff : f = freeS old rd := by
          have h1 := free_stop HQq.out
          have h2 := HFR.out
          omega
        have HF := Lib.hid hff
        clear hff
        have HB9 := Lib.hid (below_drews HBR.out nq)
        have hst := fun w => slice_to p3 (held + 1) c3 held (by omega) w
        have hstf := fun w => slice_to p3 (held + 1) c3 f (by omega) w
        by_cases hfe : f = held + 1
        · subst hfe
          have hde : decide (((held + 1 : Nat) : Int) = ((held + 1 : Nat) : Int)) = true := by simp
          go_wp2_with fail
          refine (pass_any 0 _ (rd.take held) _ ((Z3.out.grows HB9.out).take held (by have := HR.out; omega)) (by rw [List.length_take]; omega)).mono ?_
          rintro e w6 ⟨u6, rfl, ⟨o6, rfl, ho6⟩, hb6⟩
          obtain ⟨p6, c6, rfl⟩ := own_shape ho6
          have D6 := (D4.grows HB9.out).grows hb6
          have hsr := HB9.out.size
          have HO6 := Lib.hid (own_mono ho6 (base' := w.heap.size + 1) (by omega))
          have HB6 := Lib.hid (HW4.out.trans ((HB9.out.mono (by omega)).trans (hb6.mono (by omega))))
          clear ho6 hb6
          have f0 := D6.free 0
          have f1 := D6.free 1
          have g0 := D6.cell 0 rfl
          have g1 := D6.cell 1 rfl
          go_wp2
          have hq := fun u => own_mono (own_set (own_set HO6.out (p := ⟨w.heap.size, 0, none⟩) (Nat.lt_succ_self _) (.int .i64 0)) (p := ⟨w.heap.size, 1, none⟩) (Nat.lt_succ_self _) u) (base' := w.heap.size) (by omega)
          refine bodyPost_ret (results_cell_row rfl _ _ w.heap.size 82 _ (0, 0) _ rfl ((D6.set 0 _).set 1 _).is Tryz.underlying82 rfl mvSize) rfl ⟨_, rfl, ?_, (HB6.out.setCell (p := ⟨w.heap.size, 0, none⟩) (Nat.le_refl _) _).setCell (p := ⟨w.heap.size, 1, none⟩) (Nat.le_refl _) _⟩
          rw [HE.out, HQ2.out, if_pos (by have := HR.out; have := HF.out; omega)]
          exact ⟨_, rfl, by simpa [PcAt] using hq (.slice p6 ((wrS (rd.take held)).length + 1) c6)⟩
        · have hde : decide ((f : Int) = ((held : Int) + 1)) = false := by rw [decide_eq_false_iff_not]; omega
          go_wp2_with fail
          refine (written_any _ (rd.take f) _ ((Z3.out.grows HB9.out).take f hf) (by rw [List.length_take]; have := HR.out; omega)).mono ?_
          rintro e w5 ⟨u5, rfl, ho5, hb5⟩
          obtain ⟨p5, c5, rfl⟩ := own_shape ho5
          have D5 := (D4.grows HB9.out).grows hb5
          have hsr := HB9.out.size
          have hsr5 := hb5.size
          have HO5 := Lib.hid (own_mono ho5 (base' := w.heap.size + 1) (by omega))
          have HB5 := Lib.hid (HW4.out.trans ((HB9.out.mono (by omega)).trans (hb5.mono (by omega))))
          clear ho5 hb5
          go_wp2_with fail
          refine (to_any _ _ _ _ w5).mono ?_
          rintro e w6 ⟨rfl, hb6⟩
          have D6 := D5.grows hb6
          have HO6 := Lib.hid (own_below HO5.out hb6)
          have HB6 := Lib.hid (HB5.out.trans (hb6.mono (by omega)))
          clear hb6
          have f0 := D6.free 0
          have f1 := D6.free 1
          have g0 := D6.cell 0 rfl
          have g1 := D6.cell 1 rfl
          go_wp2
          have hq := fun u => own_mono (own_set (own_set HO6.out (p := ⟨w.heap.size, 0, none⟩) (Nat.lt_succ_self _) (.int .i64 ((held : Int) + 1 - (f : Int)))) (p := ⟨w.heap.size, 1, none⟩) (Nat.lt_succ_self _) u) (base' := w.heap.size) (by omega)
          refine bodyPost_ret (results_cell_row rfl _ _ w.heap.size 82 _ (0, 0) _ rfl ((D6.set 0 _).set 1 _).is Tryz.underlying82 rfl mvSize) rfl ⟨_, rfl, ?_, (HB6.out.setCell (p := ⟨w.heap.size, 0, none⟩) (Nat.le_refl _) _).setCell (p := ⟨w.heap.size, 1, none⟩) (Nat.le_refl _) _⟩
          rw [HE.out, HQ2.out, if_neg (by have := HR.out; have := HF.out; omega)]
          have hcast : (((rd.length - freeS old rd : Nat) : Int)) = (held : Int) + 1 - (f : Int) := by have := HR.out; have := HF.out; omega
          rw [hcast, ← HF.out]
          exact ⟨_, rfl, hq _⟩
end Go.Proofs.YtkhphiilnplgjaaGreatDoor

namespace Go.Proofs.YtkhphiilnplgjaaGreatDoor
open Go.RowKit Go.Lib

set_option maxRecDepth 100000 in
set_option maxHeartbeats 1000000 in
theorem searching_any (k : Int) (po pn : Option Addr) (co cn : Nat) (old new : List Int) (held : Nat) (all : Bool) (w : World) :
    Calls Tryz.prog 103 #[.agg #[.int .i64 k, .slice po old.length co, .slice pn new.length cn], .int .i64 (held : Int), .bool all] w fun e w' =>
      e = .returned (.func (.func 131) #[] #[.pointer (some ⟨w.heap.size, 0, none⟩), .pointer (some ⟨w.heap.size + 1, 0, none⟩), .pointer (some ⟨w.heap.size + 2, 0, none⟩)]) ∧
      Blk w' w.heap.size #[.int .i64 k, .slice po old.length co, .slice pn new.length cn] 24 ∧ Blk w' (w.heap.size + 1) #[.int .i64 (held : Int)] 3 ∧ Blk w' (w.heap.size + 2) #[.int .i64 (((if all then 0 else old.length) : Nat) : Int)] 3 ∧ Below w.heap.size w w' := by
  have A1 := ((Blk.new w #[.int .i64 k, .slice po old.length co, .slice pn new.length cn] 24).alloc (.cells #[.int .i64 (held : Int)] 3)).cell 1 rfl
  cases all with
  | true =>
    go_enter Tryz.func103, Tryz.ntmps103
    go_wp2
    go_ret
    refine ⟨rfl, ((Blk.new w _ _).alloc _).alloc _, ?_, ?_, by go_grown⟩
    · exact (Blk.alloc1 w _ _ _ _).alloc _
    · exact Blk.alloc2 w _ _ _ _
  | false =>
    go_enter Tryz.func103, Tryz.ntmps103
    go_wp2
    go_ret
    refine ⟨rfl, ((Blk.new w _ _).alloc _).alloc _, ?_, ?_, by go_grown⟩
    · exact (Blk.alloc1 w _ _ _ _).alloc _
    · exact Blk.alloc2 w _ _ _ _
theorem of_one (x : Int) (hx : 0 ≤ x ∧ x < 256) (W : World) : Calls Tryz.prog 106 #[.slice (some ⟨W.heap.size, 0, none⟩) 1 1] (W.alloc (.cells #[.int .u8 x] 5)) fun e w' => e = .returned (.agg #[.int .u64 (wd ((ofL [x])) 0), .int .u64 (wd ((ofL [x])) 1), .int .u64 (wd ((ofL [x])) 2), .int .u64 (wd ((ofL [x])) 3)]) ∧ Below (W.heap.size + 1) (W.alloc (.cells #[.int .u8 x] 5)) w' := by
  have h := of_any W.heap.size 0 1 1 [x] (W.alloc (.cells #[.int .u8 x] 5)) (by simp) (by simp) (by simp)
    (fun j hj => by
      have hj0 : j = 0 := by simp at hj; omega
      subst hj0
      exact (Blk.new W _ _).cell 0 rfl)
    (fun j hj => by
      have hj0 : j = 0 := by simp at hj; omega
      subst hj0
      exact hx)
  refine h.mono fun e w' h2 => ?_
  rw [World.size_alloc] at h2
  exact h2
def sgS (l : List Int) : List (BitVec 256) := l.map fun x => ofL [x]
theorem sgS_len (l : List Int) : (sgS l).length = l.length := List.length_map _
set_option maxRecDepth 100000 in
set_option maxHeartbeats 1000000 in
theorem singles_any (v : Value) (l : List Int) (w : World) (hv : IsY w v l) (hl : l.length ≤ 1000000) : Calls Tryz.prog 94 #[v] w fun e w' =>
    ∃ u, e = .returned u ∧ w'.ownsRow w.heap.size 27 4 u (sgS l).length ((sgS l).flatMap encC) ∧ Below w.heap.size w w' := by
  obtain ⟨i0, hi, hz0, hz1, hz2⟩ := info_parts infoC
  obtain ⟨p, cap, rfl, hc⟩ := hv.shape
  have HV := Lib.hid hv
  clear hv
  go_enter Tryz.func94, Tryz.ntmps94
  go_wp2
  go_loopw [3, 5, 8] (fun u _ i wr => ∃ k : Nat, k ≤ l.length ∧ i = .int .i64 k ∧ wr.ownsRow w.heap.size 27 4 u (sgS (l.take k)).length ((sgS (l.take k)).flatMap encC) ∧ Below w.heap.size w wr) (fun _ _ i _ => l.length - (RowKit.intOf i).toNat)
  case atStart =>
    exact ⟨0, Nat.zero_le _, rfl, World.ownsRow_nil _ _ _ _, Below.refl _ _⟩
  case round =>
    obtain ⟨k, hk, rfl, hown, hbw⟩ := hrel
    by_cases hlt : k < l.length
    · obtain ⟨x, hx⟩ := get_of_lt hlt
      obtain ⟨b, o, rfl, hcell⟩ := (HV.out.grows hbw).at hx
      have hxb := HV.out.byt.at hx
      have HS := Lib.hid (show sgS (l.take (k + 1)) = sgS (l.take k) ++ [ofL [x]] by rw [List.take_add_one, hx]; simp [sgS])
      have hlen : (sgS (l.take k)).length = k := by rw [sgS_len, List.length_take]; omega
      have hwr := hbw.size
      rw [hlen] at hown
      have HL := Lib.hid hlen
      clear hx hlen
      generalize sgS (l.take k) = m at hown HS HL
      go_wp2_with (first | (at_builtin; refine wpList_append_own_at _ rfl _ _ 38 rfl w.heap.size 27 i0 _ 4 32 Tryz.underlying38 hi hz0 hz1 hz2 rfl (by decide) _ _ _ rfl (own_alloc HOw.out _) ⟨w2.heap.size, 0, none⟩ 1 1 (encC (ofL [x])) rfl rfl (cells_new4 _ _ _ _ _ _ _ rfl) (encC_one _) (by unfold maxLen; omega) (by omega) (by simp; omega) ?_; intro v' w3 hown3 hgrow _ _; have hbw3 := (HBw.out.alloc (by omega) (.cells #[.int .u64 (wd ((ofL [x])) 0), .int .u64 (wd ((ofL [x])) 1), .int .u64 (wd ((ofL [x])) 2), .int .u64 (wd ((ofL [x])) 3)] 27)).grown hgrow (by simp; omega) (own_ge HOw.out)) | (go_at_call 106; refine (of_one x hxb wr).mono ?_; rintro e w2 ⟨rfl, hb2⟩; have HOw := Lib.hid (own_below (own_alloc hown (.cells #[.int .u8 x] 5)) (hb2.mono (by simp))); have HBw := Lib.hid ((hbw.alloc hbw.size (.cells #[.int .u8 x] 5)).trans (hb2.mono (by omega))); have hsz2 := hb2.size; simp at hsz2; clear hb2))
      go_roundw
      case rel =>
        refine ⟨k + 1, by omega, by go_num, ?_, hbw3⟩
        rw [HS.out]; exact own_cast hown3 (by simp [HL.out]) (by simp)
      case measure => simp [RowKit.intOf]; omega
    · obtain rfl : k = l.length := by omega
      rw [List.take_length] at hown
      go_wp2
      go_ret
      exact ⟨_, rfl, hown, hbw⟩
end Go.Proofs.YtkhphiilnplgjaaGreatDoor


namespace Go.Proofs.YtkhphiilnplgjaaGreatDoor
open Go.RowKit Go.Lib

theorem least_in {l : List (BitVec 256)} {c : BitVec 256} (h : c ∈ canon l) : 0 ≤ leastI c ∧ leastI c < 256 := by
  obtain ⟨i, h1, _, _, h4⟩ := least_spec c ((canon_inv l).ne c h)
  rw [leastI_eq, h4]; omega
/-- the blocks of cells of these types are kept. -/
def KeptTy (S : TypeId → Prop) (W W' : World) : Prop := ∀ (b : Nat) (cs : Array Value) (t : TypeId), S t → W.heap[b]? = some (.cells cs t (0, 0)) → W'.heap[b]? = some (.cells cs t (0, 0))
theorem KeptTy.trans {S : TypeId → Prop} {A B C : World} (h : KeptTy S A B) (k : KeptTy S B C) : KeptTy S A C := fun b cs t hs hb => k b cs t hs (h b cs t hs hb)
theorem KeptTy.below {S : TypeId → Prop} {W W' : World} (h : Below W.heap.size W W') : KeptTy S W W' := fun b _ _ _ hb => (h.block b (Array.getElem?_eq_some_iff.1 hb).1).trans hb
theorem KeptTy.grown {S : TypeId → Prop} {W W' : World} {base n size : Nat} {e : TypeId} {v : Value} {xs : List Value} (hg : W.grownBy W' v.ownBlock) (hv : W.ownsRow base e size v n xs) (hS : ¬ S e) : KeptTy S W W' := fun b cs t hs hb =>
  (hg.block b (Array.getElem?_eq_some_iff.1 hb).1 (fun he => by
    rcases hv.2 with ⟨rfl, _⟩ | ⟨g, cap, cur, rfl, _, hh, _⟩
    · cases he
    · simp only [Value.ownBlock, Option.some.injEq] at he
      subst he
      rw [hh] at hb
      simp only [Option.some.injEq, Obj.cells.injEq] at hb
      exact hS (hb.2.1 ▸ hs))).trans hb
theorem KeptTy.set {S : TypeId → Prop} {W : World} {p : Addr} {vs : Array Value} {t : TypeId} (hp : Blk W p.block vs t) (hS : ¬ S t) (v : Value) : KeptTy S W (W.setCell p v) := fun b cs t' hs hb => by
  have hne : b ≠ p.block := fun e => by
    subst e
    rw [hp.is] at hb
    simp only [Option.some.injEq, Obj.cells.injEq] at hb
    exact hS (hb.2.1 ▸ hs)
  rw [Below.heap_setCell _ _ _ _ hne]; exact hb
theorem own_keep {S : TypeId → Prop} {W W' : World} {base : Nat} {e : TypeId} {size : Nat} {v : Value} {n : Nat} {xs : List Value} (h : W.ownsRow base e size v n xs) (hk : KeptTy S W W') (he : S e) : W'.ownsRow base e size v n xs := by
  refine ⟨h.1, ?_⟩
  rcases h.2 with h2 | ⟨g, cap, cur, hv, hb, hh, r⟩
  · exact .inl h2
  · exact .inr ⟨g, cap, cur, hv, hb, hk _ _ _ he hh, r⟩
theorem PcAt.keep {S : TypeId → Prop} {base : Nat} {W W' : World} {v : Value} {l : Pcs} (h : PcAt base W v l) (hk : KeptTy S W W') (h1 : S 95) : PcAt base W' v l := own_keep h hk h1
/-- a row of moves. -/
def RowAt (base : Nat) (w : World) (v : Value) (ms : List (Int × Pcs)) : Prop :=
  ∃ L : List (Int × Value × Pcs), L.map (fun t => (t.1, t.2.2)) = ms ∧ w.ownsRow base 82 2 v L.length (L.flatMap fun t => [.int .i64 t.1, t.2.1]) ∧ ∀ t ∈ L, PcAt base w t.2.1 t.2.2
theorem RowAt.nil (base : Nat) (w : World) : RowAt base w (.slice none 0 0) [] := ⟨[], rfl, World.ownsRow_nil _ _ _ _, fun _ h => by cases h⟩
theorem RowAt.keep {S : TypeId → Prop} {base : Nat} {W W' : World} {v : Value} {ms : List (Int × Pcs)} (h : RowAt base W v ms) (hk : KeptTy S W W') (h1 : S 95) (h2 : S 82) : RowAt base W' v ms := by
  obtain ⟨L, hL, ho, hp⟩ := h
  exact ⟨L, hL, own_keep ho hk h2, fun t ht => (hp t ht).keep hk h1⟩
theorem RowAt.own {base : Nat} {W : World} {v : Value} {ms : List (Int × Pcs)} (h : RowAt base W v ms) : ∃ xs, W.ownsRow base 82 2 v ms.length xs := by
  obtain ⟨L, rfl, ho, _⟩ := h
  rw [List.length_map]; exact ⟨_, ho⟩
/-- rows of moves. -/
def RowsAt (base : Nat) (w : World) (v : Value) (rs : List (List (Int × Pcs))) : Prop :=
  ∃ L : List (Value × List (Int × Pcs)), L.map (·.2) = rs ∧ w.ownsRow base 79 1 v L.length (L.map (·.1)) ∧ ∀ t ∈ L, RowAt base w t.1 t.2
theorem RowsAt.nil (base : Nat) (w : World) : RowsAt base w (.slice none 0 0) [] := ⟨[], rfl, World.ownsRow_nil _ _ _ _, fun _ h => by cases h⟩
theorem RowsAt.keep {S : TypeId → Prop} {base : Nat} {W W' : World} {v : Value} {rs : List (List (Int × Pcs))} (h : RowsAt base W v rs) (hk : KeptTy S W W') (h1 : S 95) (h2 : S 82) (h3 : S 79) : RowsAt base W' v rs := by
  obtain ⟨L, hL, ho, hp⟩ := h
  exact ⟨L, hL, own_keep ho hk h3, fun t ht => (hp t ht).keep hk h1 h2⟩
/-- words, one for each state. -/
def EndsAt (base : Nat) (w : World) (v : Value) (es : List (List Int)) : Prop :=
  ∃ L : List (Value × List Int), L.map (·.2) = es ∧ w.ownsRow base 22 1 v L.length (L.map (·.1)) ∧ ∀ t ∈ L, w.ownsRow base 5 1 t.1 t.2.length (t.2.map (Value.int .u8)) ∧ Byt t.2
theorem EndsAt.nil (base : Nat) (w : World) : EndsAt base w (.slice none 0 0) [] := ⟨[], rfl, World.ownsRow_nil _ _ _ _, fun _ h => by cases h⟩
theorem EndsAt.keep {S : TypeId → Prop} {base : Nat} {W W' : World} {v : Value} {es : List (List Int)} (h : EndsAt base W v es) (hk : KeptTy S W W') (h1 : S 5) (h2 : S 22) : EndsAt base W' v es := by
  obtain ⟨L, hL, ho, hp⟩ := h
  exact ⟨L, hL, own_keep ho hk h2, fun t ht => ⟨own_keep (hp t ht).1 hk h1, (hp t ht).2⟩⟩
theorem grow_step {ops : Array Oper} {o : Oper} {a : Act} {w : World} {K : Act → World → Prop} {Q : Exit → Act → World → Prop} {E : Prop} (hgd : o.guard = none) (s x : Operand) (t : TypeId)
    (ho : o.op = .call { callee := .builtin .append, args := #[s, x], argTypes := #[t, t] }) (hty : o.type = t)
    (base : Nat) (e : TypeId) (i : TypeInfo) (z : Value) (size bytes : Nat) (ht : Tryz.prog.underlying t = some (.slice e)) (hi : Tryz.prog.info? e = some i) (hz : i.zero = some z)
    (hsize : i.size = size) (hby : i.bytes = bytes) (hzs : z.cells.size = size) (hsz : 0 < size)
    (v : Value) (n : Nat) (xs : List Value) (hs : a.eval s = v) (hown : w.ownsRow base e size v n xs)
    (ad : Addr) (m c : Nat) (news : List Value) (hx : a.eval x = .slice (some ad) m c) (hl : news.length = m * size) (hnews : ∀ j u, news[j]? = some u → w.cell? (ad.add j) = some u) (h1 : ∀ u ∈ news, u.oneCell' = true)
    (h63 : n + m ≤ maxLen) (hbytes : (n + m) * bytes ≤ 140737488355328) (hbase : base ≤ w.heap.size)
    (h : ∀ v' w', w'.ownsRow base e size v' (n + m) (xs ++ news) → w.grownBy w' v.ownBlock → K (a.put o.dst v') w') :
    if Region.wanted o (yielded ops a.tmps) = true then Oper.wp Tryz.prog o a w K Q else E := by
  rw [if_pos (by simp [Region.wanted, hgd])]
  obtain ⟨v', w', hrun, h2, h3, _⟩ := run_append_own_at (P := Tryz.prog) w base t t e i z size bytes ht hi hz hsize hby hzs hsz v n xs hown ad m c news hl hnews h1 h63 hbytes hbase
  unfold Oper.wp execOp
  simp only [ho, hty, resolve, invoke, builtin, Sem.run_bind, Sem.run_pure, Result.andThen_ok, List.map_toArray, List.map_cons, List.map_nil, hs, hx, hrun]
  exact h v' w' h2 h3
end Go.Proofs.YtkhphiilnplgjaaGreatDoor

namespace Go.Proofs.YtkhphiilnplgjaaGreatDoor
open Go.RowKit Go.Lib

/-- a state: its moves' closure, is it final, what it writes at the end. -/
structure St where
  F : Nat
  caps : Array Value
  fin : Bool
  endV : Value
  endL : List Int
  mv : Int → Int × Pcs
def IsSts (w : World) (v : Value) (sts : List St) : Prop := ∃ p cap, v = .slice p sts.length cap ∧ ∀ i s, sts[i]? = some s → ∃ b o, p = some ⟨b, o, none⟩ ∧ w.cell? ⟨b, o + i * 3, none⟩ = some (.func (.func s.F) #[] s.caps) ∧ w.cell? ⟨b, o + i * 3 + 1, none⟩ = some (.bool s.fin) ∧ w.cell? ⟨b, o + i * 3 + 2, none⟩ = some s.endV
structure OkSt (w : World) (s : St) : Prop where
  end_ : IsY w s.endV s.endL
  small : s.endL.length ≤ 1000
  enter : ∀ args w, (callFunc s.F args).run Tryz.prog w = .ok (.enter s.F args) w
  move : ∀ W, Below w.heap.size w W → ∀ x, 0 ≤ x ∧ x < 256 → Calls Tryz.prog s.F (#[.int .u8 x] ++ s.caps) W fun e w' => ∃ u, e = .returned u ∧ MvAt W.heap.size w' u (s.mv x).1 (s.mv x).2 ∧ Below W.heap.size W w'
def rowS (cs : List (BitVec 256)) (s : St) : List (Int × Pcs) := cs.map fun c => s.mv (leastI c)
/-- a transducer of one's own. -/
structure TrAt (base : Nat) (w : World) (v : Value) (cs : List (BitVec 256)) (rows : List (List (Int × Pcs))) (fins : List Bool) (ends : List (List Int)) : Prop where
  is : ∃ vc vm vf ve, v = .agg #[vc, vm, vf, ve] ∧ w.ownsRow base 27 4 vc cs.length (cs.flatMap encC) ∧ RowsAt base w vm rows ∧ w.ownsRow base 4 1 vf fins.length (fins.map Value.bool) ∧ EndsAt base w ve ends
def kpR (t : TypeId) : Prop := t = 27 ∨ t = 95 ∨ t = 82 ∨ t = 5
theorem infoMv : (Tryz.prog.info? 82).map (fun i => (i.zero, i.size, i.bytes)) = some (some (.agg #[.int .i64 0, .slice none 0 0]), 2, 32) := by kernel_rfl
theorem move_one (t : Int) (p : Option Addr) (n c : Nat) : ∀ u ∈ [Value.int .i64 t, .slice p n c], u.oneCell' = true := by
  intro u hu
  simp at hu
  rcases hu with rfl | rfl <;> rfl
theorem infoRm : (Tryz.prog.info? 79).map (fun i => (i.zero, i.size, i.bytes)) = some (some (.slice none 0 0), 1, 24) := by kernel_rfl
theorem infoRy : (Tryz.prog.info? 22).map (fun i => (i.zero, i.size, i.bytes)) = some (some (.slice none 0 0), 1, 24) := by kernel_rfl
theorem KeptTy.mono {S S' : TypeId → Prop} {W W' : World} (h : KeptTy S W W') (hs : ∀ t, S' t → S t) : KeptTy S' W W' := fun b cs t ht hb => h b cs t (hs t ht) hb
theorem cells_one (W : World) (a : Value) (t : TypeId) (m : Nat) (hm : m = W.heap.size) : ∀ j u, [a][j]? = some u → (W.alloc (.cells #[a] t)).cell? ((⟨m, 0, none⟩ : Addr).add j) = some u := by
  subst hm; exact cell_one_new W a t
theorem RowAt.mono {base base' : Nat} {W : World} {v : Value} {ms : List (Int × Pcs)} (h : RowAt base W v ms) (hb : base' ≤ base) : RowAt base' W v ms := by
  obtain ⟨L, hL, ho, hp⟩ := h
  exact ⟨L, hL, own_mono ho hb, fun t ht => own_mono (hp t ht) hb⟩
theorem trSize : (Tryz.prog.info? 43).map (·.size) = some 4 := by kernel_rfl
set_option maxRecDepth 100000 in
set_option maxHeartbeats 4000000 in
theorem assemble_any (vc vs : Value) (l : List (BitVec 256)) (sts : List St) (w : World) (hc : IsC w vc l) (hs : IsSts w vs sts) (hok : ∀ s ∈ sts, OkSt w s) (hl : l.length ≤ 1000) (hn : sts.length ≤ 100)
    (hT : TabAt 0 Lib.deBruijn64tab w) (hg : 0 < w.heap.size) :
    Calls Tryz.prog 93 #[vc, vs] w fun e w' => ∃ u, e = .returned u ∧ TrAt w.heap.size w' u (canon l) (sts.map (rowS (canon l))) (sts.map (·.fin)) (sts.map (·.endL)) ∧ Below w.heap.size w w' := by
  obtain ⟨ib, hib, hb0, hb1, hb2⟩ := info_parts infoBool
  obtain ⟨im, him, hm0, hm1, hm2⟩ := info_parts infoMv
  obtain ⟨ir, hir, hr0, hr1, hr2⟩ := info_parts infoRm
  obtain ⟨ie, hie, he0, he1, he2⟩ := info_parts infoRy
  obtain ⟨p, cap, rfl, hcells⟩ := hs
  have D0 := Blk.new w #[.slice none 0 0, .slice none 0 0, .slice none 0 0, .slice none 0 0] 43
  have hbw : Below w.heap.size w (w.alloc (.cells #[.slice none 0 0, .slice none 0 0, .slice none 0 0, .slice none 0 0] 43)) := by go_grown
  have hsz : (w.alloc (.cells #[.slice none 0 0, .slice none 0 0, .slice none 0 0, .slice none 0 0] 43)).heap.size = w.heap.size + 1 := by simp
  have HC := Lib.hid (cells_any vc l _ (hc.grows hbw) hl (tab_below hT hbw hg) (by omega))
  have HS := Lib.hid hcells
  have HK := Lib.hid hok
  have HT := Lib.hid hT
  have HG := Lib.hid hg
  clear hc hcells hok hT hg
  go_enter Tryz.func93, Tryz.ntmps93
  go_wp2_with fail
  generalize (w.alloc (.cells #[.slice none 0 0, .slice none 0 0, .slice none 0 0, .slice none 0 0] 43)) = w1 at D0 hbw hsz HC ⊢
  refine HC.out.mono ?_
  rintro e w2 ⟨u2, rfl, ho2, hb2⟩
  obtain ⟨p2, k2, rfl⟩ := own_shape ho2
  have D2 := D0.grows hb2
  have hbw2 := hbw.trans (hb2.mono (by omega))
  have hz2 := hb2.size
  have ho2' := own_mono ho2 (base' := w.heap.size) (by omega)
  have hcl := canon_len l
  have HLI := Lib.hid (fun c (hc : c ∈ canon l) => least_in hc)
  clear hb2 HC ho2
  generalize hcs : canon l = cs at ho2' hcl HLI ⊢
  have HCS := Lib.hid hcs
  clear hcs
  go_wp2_with fail
  have B2 := (Blk.new w2 #[.slice p2 cs.length k2, .slice none 0 0, .slice none 0 0, .slice none 0 0] 43)
  have hb3 : Below w2.heap.size w2 (w2.alloc (.cells #[.slice p2 cs.length k2, .slice none 0 0, .slice none 0 0, .slice none 0 0] 43)) := by go_grown
  have hz3 : (w2.alloc (.cells #[.slice p2 cs.length k2, .slice none 0 0, .slice none 0 0, .slice none 0 0] 43)).heap.size = w2.heap.size + 1 := by simp
  generalize (w2.alloc (.cells #[.slice p2 cs.length k2, .slice none 0 0, .slice none 0 0, .slice none 0 0] 43)) = w3 at B2 hb3 hz3 ⊢
  have D3 := D2.grows hb3
  have C3 := own_below ho2' hb3
  have hbw3 := hbw2.trans (hb3.mono (by omega))
  generalize hT2 : w2.heap.size = T at B2 hz3 hz2 ⊢
  clear D0 D2 hb3 ho2' hbw2 hbw
  go_loopw [16] (fun iv wr => ∃ (i : Nat) (vm vf ve : Value), iv = .int .i64 (i : Int) ∧ i ≤ sts.length ∧ Blk wr T #[.slice p2 cs.length k2, vm, vf, ve] 43 ∧ RowsAt w.heap.size wr vm ((sts.take i).map (rowS cs)) ∧ wr.ownsRow w.heap.size 4 1 vf i ((sts.take i).map fun s => .bool s.fin) ∧ EndsAt w.heap.size wr ve ((sts.take i).map (·.endL)) ∧ wr.ownsRow w.heap.size 27 4 (.slice p2 cs.length k2) cs.length (cs.flatMap encC) ∧ Blk wr w.heap.size #[.slice none 0 0, .slice none 0 0, .slice none 0 0, .slice none 0 0] 43 ∧ Below w.heap.size w wr ∧ T + 1 ≤ wr.heap.size) (fun iv _ => sts.length - (RowKit.intOf iv).toNat)
  case atStart =>
    exact ⟨0, _, _, _, rfl, Nat.zero_le _, B2, RowsAt.nil _ _, World.ownsRow_nil _ _ _ _, EndsAt.nil _ _, C3, D3, hbw3, by omega⟩
  case round =>
    obtain ⟨i, vm, vf, ve, rfl, hi, hB, hR, hF, hE, hC, hD, hb, hT1⟩ := hrel
    by_cases hlt : i < sts.length
    · obtain ⟨s, hs⟩ : ∃ s, sts[i]? = some s := ⟨_, List.getElem?_eq_getElem hlt⟩
      obtain ⟨b, o, rfl, k0, k1, k2'⟩ := HS.out i s hs
      have j0 := (hb.cell (lt_of_cell k0)).trans k0
      have j1 := (hb.cell (lt_of_cell k1)).trans k1
      have j2 := (hb.cell (lt_of_cell k2')).trans k2'
      have hsm := HK.out s (List.mem_of_getElem? hs)
      obtain ⟨pe, ce, hev, hce⟩ := hsm.end_.shape
      rw [hev] at j2
      have hBa := hB.alloc (.cells #[.func (.func s.F) #[] s.caps, .bool s.fin, .slice pe s.endL.length ce] 153)
      have g0 := hBa.cell 0 rfl
      have hba : Below wr.heap.size wr (wr.alloc (.cells #[.func (.func s.F) #[] s.caps, .bool s.fin, .slice pe s.endL.length ce] 153)) := by go_grown
      have hS := Blk.new wr #[.func (.func s.F) #[] s.caps, .bool s.fin, .slice pe s.endL.length ce] 153
      have hza : (wr.alloc (.cells #[.func (.func s.F) #[] s.caps, .bool s.fin, .slice pe s.endL.length ce] 153)).heap.size = wr.heap.size + 1 := by simp
      have HB := Lib.hid hBa
      have HR := Lib.hid (hR.keep (S := fun _ => True) (KeptTy.below hba) trivial trivial trivial)
      have HF := Lib.hid (own_below hF hba)
      have HE := Lib.hid (hE.keep (S := fun _ => True) (KeptTy.below hba) trivial trivial)
      have HCc := Lib.hid (own_below hC hba)
      have HD := Lib.hid (hD.grows hba)
      have hwr := hb.size
      have Hb := Lib.hid (hb.trans (hba.mono hwr))
      have HSt := Lib.hid hS
      have Hsm := Lib.hid hsm
      have Hs := Lib.hid hs
      have HEV := Lib.hid hev
      clear hB hR hF hE hC hD hb hsm k0 k1 k2' hs hev hBa hba hS
      go_wp2_with fail
      generalize (wr.alloc (.cells #[.func (.func s.F) #[] s.caps, .bool s.fin, .slice pe s.endL.length ce] 153)) = ws at HB HR HF HE HCc HD Hb HSt hza g0 ⊢
      generalize hSz : wr.heap.size = sb at HSt hza hT1 hwr ⊢
      clear j0 j1 j2 g0
      go_loopw [8, 23] (fun rv jv wq => ∃ j : Nat, jv = .int .i64 (j : Int) ∧ j ≤ cs.length ∧ RowAt (sb + 1) wq rv ((cs.take j).map fun c => s.mv (leastI c)) ∧ Below (sb + 1) ws wq ∧ Below w.heap.size w wq ∧ sb + 1 ≤ wq.heap.size) (fun _ jv _ => cs.length - (RowKit.intOf jv).toNat)
      case atStart =>
        exact ⟨0, rfl, Nat.zero_le _, RowAt.nil _ _, Below.refl _ _, Hb.out, by omega⟩
      case round =>
        obtain ⟨j, rfl, hj, hrow, hbs, hbq, hsq⟩ := hrel
        have hkt : KeptTy (fun _ => True) ws wr := KeptTy.below (hza ▸ hbs)
        by_cases hjl : j < cs.length
        · obtain ⟨c, hc⟩ : ∃ c, cs[j]? = some c := ⟨_, List.getElem?_eq_getElem hjl⟩
          have hcq := own_isC (own_keep HCc.out hkt (by decide))
          obtain ⟨gb, go, rfl, x0, x1, x2, x3⟩ := hcq.at hc
          have hSt := HSt.out
          have hSq : Blk wr sb #[.func (.func s.F) #[] s.caps, .bool s.fin, .slice pe s.endL.length ce] 153 := ⟨hkt _ _ _ (by decide) hSt.is⟩
          have hent := Hsm.out.enter
          have hrl : ((cs.take j).map fun c => s.mv (leastI c)).length = j := by rw [List.length_map, List.length_take]; omega
          have Hrow := Lib.hid hrow
          have Hkt := Lib.hid hbs
          have Hbq := Lib.hid hbq
          have HSq := Lib.hid hSq
          have Hc := Lib.hid hc
          have Hrl := Lib.hid hrl
          have hz := HLI.out c (List.mem_of_getElem? hc)
          have Hq := Lib.hid (show (cs.take (j + 1)).map (fun c => s.mv (leastI c)) = (cs.take j).map (fun c => s.mv (leastI c)) ++ [s.mv (leastI c)] by rw [List.take_add_one, hc]; simp)
          clear hcq hSt hSq hrow hkt hbq hc hrl hbs
          go_wp2_with fail
          have hbc : Below wr.heap.size wr (wr.alloc (.cells #[.int .u64 (wd c 0), .int .u64 (wd c 1), .int .u64 (wd c 2), .int .u64 (wd c 3)] 27)) := by go_grown
          have hCb := Blk.new wr #[.int .u64 (wd c 0), .int .u64 (wd c 1), .int .u64 (wd c 2), .int .u64 (wd c 3)] 27
          have hSc := HSq.out.alloc (.cells #[.int .u64 (wd c 0), .int .u64 (wd c 1), .int .u64 (wd c 2), .int .u64 (wd c 3)] 27)
          have hzc : (wr.alloc (.cells #[.int .u64 (wd c 0), .int .u64 (wd c 1), .int .u64 (wd c 2), .int .u64 (wd c 3)] 27)).heap.size = wr.heap.size + 1 := by simp
          generalize (wr.alloc (.cells #[.int .u64 (wd c 0), .int .u64 (wd c 1), .int .u64 (wd c 2), .int .u64 (wd c 3)] 27)) = wc at hbc hCb hSc hzc ⊢
          generalize hcb : wr.heap.size = cb at hbc hCb hzc hsq ⊢
          refine wp_held 9 (fun W' => W'.cell? ⟨sb, 0, none⟩ = some (.func (.func s.F) #[] s.caps) ∧ W'.cell? ⟨cb, 0, none⟩ = some (.int .u64 (wd c 0)) ∧ W'.cell? ⟨cb, 1, none⟩ = some (.int .u64 (wd c 1)) ∧ W'.cell? ⟨cb, 2, none⟩ = some (.int .u64 (wd c 2)) ∧ W'.cell? ⟨cb, 3, none⟩ = some (.int .u64 (wd c 3))) (by kernel_rfl) ⟨hSc.cell 0 rfl, hCb.cell 0 rfl, hCb.cell 1 rfl, hCb.cell 2 rfl, hCb.cell 3 rfl⟩ (fun hHeld => ?_)
          refine wpAnyZ_take (i := 0) (v := u8) rfl (by kernel_rfl) (by decide) (by kernel_rfl) (fun _ _ _ h => h) _ _ _ _ (by kernel_rfl) (by kernel_rfl) (Or.inl ⟨by rfl, by intro w hSw; obtain ⟨s1, s2, s3, s4, s5⟩ := hSw; go_simp⟩) hHeld ?_
          simp only [Act.put, List.setIfInBounds_toArray, List.set_cons_zero, List.set_cons_succ]
          refine wpAnyZ_take (i := 1) (v := .pointer (some ⟨sb, 0, none⟩)) rfl (by kernel_rfl) (by decide) (by kernel_rfl) (fun _ _ _ h => h) _ _ _ _ (by kernel_rfl) (by kernel_rfl) (Or.inl ⟨by rfl, by intro w hSw; obtain ⟨s1, s2, s3, s4, s5⟩ := hSw; go_simp⟩) hHeld ?_
          simp only [Act.put, List.setIfInBounds_toArray, List.set_cons_zero, List.set_cons_succ]
          refine wpAnyZ_take (i := 2) (v := .func (.func s.F) #[] s.caps) rfl (by kernel_rfl) (by decide) (by kernel_rfl) (fun _ _ _ h => h) _ _ _ _ (by kernel_rfl) (by kernel_rfl) (Or.inl ⟨by rfl, by intro w hSw; obtain ⟨s1, s2, s3, s4, s5⟩ := hSw; go_simp⟩) hHeld ?_
          simp only [Act.put, List.setIfInBounds_toArray, List.set_cons_zero, List.set_cons_succ]
          refine wpAnyZ_take (i := 3) (v := .agg #[.int .u64 (wd c 0), .int .u64 (wd c 1), .int .u64 (wd c 2), .int .u64 (wd c 3)]) rfl (by kernel_rfl) (by decide) (by kernel_rfl) (fun _ _ _ h => h) _ _ _ _ (by kernel_rfl) (by kernel_rfl) (Or.inl ⟨by rfl, by intro w hSw; obtain ⟨s1, s2, s3, s4, s5⟩ := hSw; go_simp⟩) hHeld ?_
          simp only [Act.put, List.setIfInBounds_toArray, List.set_cons_zero, List.set_cons_succ]
          obtain ⟨t0, t1, t2, t3, t4⟩ := hHeld
          have hbc2 := Hbq.out.trans (hbc.mono (by have := Hbq.out.size; omega)) |>.drew
          have HL := Lib.hid (least_any c wc.drew (tab_below HT.out hbc2 HG.out) (Nat.lt_of_lt_of_le HG.out hbc2.size))
          refine wpAnyZ_one (j := 4) (by kernel_rfl) rfl (fun K hK => ?_)
          go_simp
          go_wp2_with (go_at_call 63; refine HL.out.mono ?_; rintro e w4 ⟨rfl, hb4⟩)
          have y0 := (hb4.cell (lt_of_cell t0)).trans t0
          have y1 := (hb4.cell (lt_of_cell t1)).trans t1
          have y2 := (hb4.cell (lt_of_cell t2)).trans t2
          have y3 := (hb4.cell (lt_of_cell t3)).trans t3
          have y4 := (hb4.cell (lt_of_cell t4)).trans t4
          refine hK.out _ _ (.inr ⟨y0, y1, y2, y3, y4⟩) ?_
          clear hK K t0 t1 t2 t3 t4
          generalize hzz : leastI c = z at hz Hq ⊢
          have Hzz := Lib.hid hzz
          clear hzz
          have hb04 := hbc2.trans (hb4.mono (Nat.le_trans hbc2.size (Nat.le_refl _)))
          try simp only [Act.put, List.setIfInBounds_toArray, List.set_cons_zero, List.set_cons_succ]
          refine wpAnyZ_one (j := 5) (by kernel_rfl) rfl (fun K hK => ?_)
          have hwz : IntKind.u8.wrap z = z := by unfold IntKind.wrap; simp [IntKind.bits, IntKind.signed]; omega
          go_simp
          refine hK.out _ _ (.inr ⟨y0, y1, y2, y3, y4⟩) ?_
          clear hK K
          have HM := Lib.hid (Hsm.out.move w4 hb04 z hz)
          have Hb04 := Lib.hid hb04
          clear hb04
          try simp only [Act.put, List.setIfInBounds_toArray, List.set_cons_zero, List.set_cons_succ]
          refine wpAnyZ_one (j := 6) (by kernel_rfl) rfl (fun K hK => ?_)
          go_simp
          refine HM.out.mono ?_
          rintro e w6 ⟨u6, rfl, ⟨o6, rfl, ho6⟩, hb6⟩
          obtain ⟨p6, k6, rfl⟩ := own_shape ho6
          have hb46 := Hb04.out.size
          have hb4s := hb4.size
          have hbr6 : Below cb wr w6 := (hbc.drew.trans (hb4.mono (by show cb ≤ wc.heap.size; omega))).trans (hb6.mono (by have : wc.heap.size ≤ w4.heap.size := hb4s; omega))
          have hS6 := ((hSc.drew.grows hb4).grows hb6)
          have hC6 := ((hCb.drew.grows hb4).grows hb6)
          refine hK.out _ _ (.inr ⟨hS6.cell 0 rfl, hC6.cell 0 rfl, hC6.cell 1 rfl, hC6.cell 2 rfl, hC6.cell 3 rfl⟩) ?_
          clear hK K y0 y1 y2 y3 y4
          have ho6' := own_mono ho6 (base' := sb + 1) (by have h9 : wc.heap.size ≤ w4.heap.size := hb4s; omega)
          obtain ⟨L, hL, hoL, hpL⟩ := Hrow.out
          have hLj : L.length = j := by have := Hrl.out; rw [← hL, List.length_map] at this; exact this
          have hb06 := Hb04.out.trans (hb6.mono hb46)
          have hz6 : cb + 1 ≤ w6.heap.size := by have h9 : wc.heap.size ≤ w4.heap.size := hb4s; have := hb6.size; omega
          generalize hsm2 : s.mv z = m at ho6' Hq ⊢
          obtain ⟨mt, ml⟩ := m
          dsimp only at ho6' ⊢
          clear ho6 hb6 hb4 hb4s hSc hCb hbc
          try simp only [Act.put, List.setIfInBounds_toArray, List.set_cons_zero, List.set_cons_succ]
          refine wpAnyZ_one (j := 7) (by kernel_rfl) rfl (fun K hK => ?_)
          go_simp
          refine hK.out _ _ (.inr ⟨(hS6.alloc _).cell 0 rfl, (hC6.alloc _).cell 0 rfl, (hC6.alloc _).cell 1 rfl, (hC6.alloc _).cell 2 rfl, (hC6.alloc _).cell 3 rfl⟩) ?_
          clear hK K
          try simp only [Act.put, List.setIfInBounds_toArray, List.set_cons_zero, List.set_cons_succ]
          have hoL6 : w6.ownsRow (sb + 1) 82 2 u8 j (L.flatMap fun t => [.int .i64 t.1, t.2.1]) := by
            have := own_below hoL (hcb ▸ hbr6)
            rwa [hLj] at this
          have hoL7 := own_alloc hoL6 (.cells #[.int .i64 mt, .slice p6 ml.length k6] 82)
          refine wpAnyZ_one (j := 8) (by kernel_rfl) rfl (fun K hK => ?_)
          refine grow_step rfl _ _ 79 rfl rfl (sb + 1) 82 im _ 2 32 Tryz.underlying79 him hm0 hm1 hm2 rfl (by decide) u8 j _ rfl hoL7 ⟨w6.heap.size, 0, none⟩ 1 1 [.int .i64 mt, .slice p6 ml.length k6] rfl rfl (cells_two _ _ _ _ _ rfl) (move_one _ _ _ _) (by unfold maxLen; omega) (by omega) (by simp; omega) ?_
          intro u9 w9 ho9 hg9
          have hkA : KeptTy (fun t => t ≠ 82) (w6.alloc (.cells #[.int .i64 mt, .slice p6 ml.length k6] 82)) w9 := KeptTy.grown hg9 hoL7 (fun h => h rfl)
          have hkB : KeptTy (fun t => t ≠ 82) w6 w9 := KeptTy.trans (KeptTy.below ((Below.refl _ _).alloc (Nat.le_refl _) _)) hkA
          have hS9 : Blk w9 sb #[.func (.func s.F) #[] s.caps, .bool s.fin, .slice pe s.endL.length ce] 153 := ⟨hkB _ _ _ (by decide) hS6.is⟩
          have hC9 : Blk w9 cb #[.int .u64 (wd c 0), .int .u64 (wd c 1), .int .u64 (wd c 2), .int .u64 (wd c 3)] 27 := ⟨hkB _ _ _ (by decide) hC6.is⟩
          have hb09 : Below w.heap.size w w9 := (hb06.alloc hb06.size _).grown hg9 (by have := hb06.size; simp; omega) (fun k e => by have := own_ge hoL7 k e; omega)
          have hkr : Below (sb + 1) ws w9 := ((Hkt.out.trans (hbr6.mono (by omega))).alloc (by omega) (.cells #[.int .i64 mt, .slice p6 ml.length k6] 82)).grown hg9 (by simp; omega) (own_ge hoL7)
          have hz9 := hg9.size
          have hrow9 : RowAt (sb + 1) w9 u9 ((cs.take (j + 1)).map fun c => s.mv (leastI c)) := by
            refine ⟨L ++ [(mt, .slice p6 ml.length k6, ml)], by rw [Hq.out, List.map_append, hL]; rfl, ?_, ?_⟩
            · exact own_cast ho9 (by rw [List.length_append, hLj]; rfl) (by rw [List.flatMap_append]; rfl)
            · intro t ht
              rw [List.mem_append, List.mem_singleton] at ht
              rcases ht with ht | rfl
              · exact (hpL t ht).keep (KeptTy.trans (KeptTy.below (hcb ▸ hbr6)) hkB) (by decide)
              · exact PcAt.keep ho6' hkB (by decide)
          refine hK.out _ _ (.inr ⟨hS9.cell 0 rfl, hC9.cell 0 rfl, hC9.cell 1 rfl, hC9.cell 2 rfl, hC9.cell 3 rfl⟩) ?_
          clear hK K
          have Hf := Lib.hid (And.intro hrow9 (And.intro hkr hb09))
          have hsb9 : sb + 1 ≤ w9.heap.size := by simp at hz9; omega
          clear hrow9 hkr hb09 hS9 hC9 hkA hkB ho9 hg9 hoL7 hoL6 hoL hpL hL ho6' hS6 hC6 hb06
          try simp only [Act.put, List.setIfInBounds_toArray, List.set_cons_zero, List.set_cons_succ]
          refine wpAnyZ_one (j := 9) (by kernel_rfl) rfl (fun K hK => ?_)
          go_simp
          refine hK.out _ _ (.inl rfl) ?_
          clear hK K
          refine wpAnyZ_done (by kernel_rfl) ?_
          try simp only [Act.put, List.setIfInBounds_toArray, List.set_cons_zero, List.set_cons_succ]
          go_wp2
          go_roundw
          case rel => exact ⟨j + 1, by go_num, by omega, Hf.out.1, Hf.out.2.1, Hf.out.2.2, hsb9⟩
          case measure => simp [RowKit.intOf]; omega
        · obtain rfl : j = cs.length := by omega
          rw [List.take_length] at hrow
          have hrow' : RowAt w.heap.size wr u8 (rowS cs s) := hrow.mono (by omega)
          have hB := (⟨hkt _ _ _ (by decide) HB.out.is⟩ : Blk wr T _ _)
          have hS := (⟨hkt _ _ _ (by decide) HSt.out.is⟩ : Blk wr sb _ _)
          have hD := (⟨hkt _ _ _ (by decide) HD.out.is⟩ : Blk wr w.heap.size _ _)
          have hF := own_keep HF.out hkt (by decide)
          have hE := HE.out.keep hkt (by decide) (by decide)
          have hC := own_keep HCc.out hkt (by decide)
          obtain ⟨Lm, hLm, hom, hpm⟩ := HR.out
          have hom := own_keep hom hkt (by decide)
          have hlm : Lm.length = i := by
            have := congrArg List.length hLm
            simp at this
            omega
          rw [hlm] at hom
          obtain ⟨pm, cm, rfl⟩ := own_shape hom
          obtain ⟨pf, cf, rfl⟩ := own_shape hF
          obtain ⟨Le, hLe, hoe, hpe⟩ := hE
          have hle : Le.length = i := by
            have := congrArg List.length hLe
            simp at this
            omega
          rw [hle] at hoe
          obtain ⟨pv, cv, rfl⟩ := own_shape hoe
          obtain ⟨L8, hL8, ho8, hp8⟩ := hrow'
          obtain ⟨p8, c8, rfl⟩ := own_shape ho8
          have b1 := hB.cell 1 rfl
          have hne1 : ¬ sb = T := by omega
          have hne2 : ¬ T = sb := by omega
          have Hbq := Lib.hid hbq
          have hTw : ¬ w.heap.size = T := by omega
          have hbq := hbq.size
          go_wp2_with (first | (at_builtin; refine wpList_append_own_at _ rfl _ _ 39 rfl w.heap.size 79 ir _ 1 24 Tryz.underlying39 hir hr0 hr1 hr2 rfl (by decide) _ _ _ rfl (own_alloc hom _) ⟨wr.heap.size, 0, none⟩ 1 1 [.slice p8 L8.length c8] rfl rfl (cell_one_new _ _ _) (by simp [Value.oneCell']) (by unfold maxLen; omega) (by omega) (by simp; omega) ?_; intro v5 w5 ho5 hg5 _ _; obtain ⟨p5, c5, rfl⟩ := own_shape ho5; have K5 : KeptTy (fun t => t ≠ 79) _ w5 := KeptTy.grown hg5 (own_alloc hom _) (fun h => h rfl); have hB5 := (⟨K5 _ _ _ (by decide) (hB.alloc _).is⟩ : Blk w5 T _ _); have hS5 := (⟨K5 _ _ _ (by decide) (hS.alloc _).is⟩ : Blk w5 sb _ _); have b51 := hB5.cell 1 rfl; have f51 := hB5.free 1; have b52 := hB5.cell 2 rfl; have s51 := hS5.cell 1 rfl; have hz5 := hg5.size; simp at hz5; have K6 := Lib.hid ((KeptTy.below ((Below.refl _ _).alloc (Nat.le_refl _) _)).trans ((KeptTy.mono K5 (S' := fun t => t ≠ 79 ∧ t ≠ 43) (fun _ h => h.1)).trans (KeptTy.set (p := ⟨T, 1, none⟩) hB5 (fun h => h.2 rfl) (.slice p5 (i + 1) c5)))); have HB6 := Lib.hid (hB5.set 1 (.slice p5 (i + 1) c5)); have HF6 := Lib.hid (own_keep hF K6.out (by decide)); have KS6 := Lib.hid (KeptTy.set (S := fun t => t ≠ 43) (p := ⟨T, 1, none⟩) hB5 (fun h => h rfl) (.slice p5 (i + 1) c5)); have HD6 := Lib.hid ((⟨K5 _ _ _ (by decide) (hD.alloc _).is⟩ : Blk w5 w.heap.size _ _).other (a := ⟨T, 1, none⟩) hTw (.slice p5 (i + 1) c5)); have HBl6 := Lib.hid (((Hbq.out.alloc Hbq.out.size _).grown hg5 (by simp; omega) (own_ge hom)).setCell (p := ⟨T, 1, none⟩) (by show w.heap.size ≤ T; omega) (.slice p5 (i + 1) c5)); have HO5 := Lib.hid ho5; have HG5 := Lib.hid hg5; have HW5 := Lib.hid K5; clear ho5 hg5 K5 hB5 hS5) | (at_builtin; refine wpList_append_own_at _ rfl _ _ 40 rfl w.heap.size 4 ib _ 1 1 Tryz.underlying40 hib hb0 hb1 hb2 rfl (by decide) _ _ _ rfl (own_alloc HF6.out _) ⟨w5.heap.size, 0, none⟩ 1 1 [.bool s.fin] rfl rfl (cells_one _ _ _ _ (by simp)) (by simp [Value.oneCell']) (by unfold maxLen; omega) (by omega) (by simp; omega) ?_; intro v7 w7 ho7 hg7 _ _; obtain ⟨p7, c7, rfl⟩ := own_shape ho7; have K7 : KeptTy (fun t => t ≠ 4) _ w7 := KeptTy.grown hg7 (own_alloc HF6.out _) (fun h => h rfl); have hB7 := (⟨K7 _ _ _ (by decide) (HB6.out.alloc _).is⟩ : Blk w7 T _ _); have b72 := hB7.cell 2 rfl; have f72 := hB7.free 2; have hz7 := hg7.size; simp at hz7; have HD7 := Lib.hid ((⟨K7 _ _ _ (by decide) (HD6.out.alloc _).is⟩ : Blk w7 w.heap.size _ _).other (a := ⟨T, 2, none⟩) hTw (.slice p7 (i + 1) c7)); have HBl7 := Lib.hid (((HBl6.out.alloc HBl6.out.size _).grown hg7 (by simp; omega) (own_ge HF6.out)).setCell (p := ⟨T, 2, none⟩) (by show w.heap.size ≤ T; omega) (.slice p7 (i + 1) c7)); have HO7 := Lib.hid ho7; have HG7 := Lib.hid hg7; have HK7 := Lib.hid K7; have HB7 := Lib.hid hB7; clear ho7 hg7 K7 hB7) | fail)
          have KS8 : KeptTy (fun t => t ≠ 43) w7 (w7.setCell ⟨T, 2, none⟩ (.slice p7 (i + 1) c7)) := KeptTy.set (p := ⟨T, 2, none⟩) HB7.out (fun h => h rfl) _
          have K68 : KeptTy (fun t => t ≠ 4 ∧ t ≠ 43) (w5.setCell ⟨T, 1, none⟩ (.slice p5 (i + 1) c5)) (w7.setCell ⟨T, 2, none⟩ (.slice p7 (i + 1) c7)) :=
            (KeptTy.below ((Below.refl _ _).alloc (Nat.le_refl _) _)).trans ((HK7.out.mono (fun _ h => h.1)).trans (KS8.mono (fun _ h => h.2)))
          have K8 : KeptTy (fun t => t ≠ 79 ∧ t ≠ 4 ∧ t ≠ 43) wr (w7.setCell ⟨T, 2, none⟩ (.slice p7 (i + 1) c7)) :=
            (K6.out.mono (fun _ h => ⟨h.1, h.2.2⟩)).trans (K68.mono (fun _ h => ⟨h.2.1, h.2.2⟩))
          have T8 : Blk (w7.setCell ⟨T, 2, none⟩ (.slice p7 (i + 1) c7)) T #[.slice p2 cs.length k2, .slice p5 (i + 1) c5, .slice p7 (i + 1) c7, .slice pv i cv] 43 := (HB7.out.set 2 _).cast (by simp)
          have O8 := own_keep (own_keep HO5.out KS6.out (by decide)) K68 (by decide)
          have F8 := own_keep HO7.out KS8 (by decide)
          have D8 := HD7.out
          have L8' := HBl7.out
          have hs8 : sb + 1 ≤ (w7.setCell ⟨T, 2, none⟩ (.slice p7 (i + 1) c7)).heap.size := by simp; omega
          generalize (w7.setCell ⟨T, 2, none⟩ (.slice p7 (i + 1) c7)) = w8 at KS8 K68 K8 T8 O8 F8 D8 L8' hs8 ⊢
          have S8 := (⟨K8 _ _ _ (by decide) hS.is⟩ : Blk w8 sb _ _)
          have C8 := own_keep hC K8 (by decide)
          have E8 := own_keep hoe K8 (by decide)
          have R8 : RowsAt w.heap.size w8 (.slice p5 (i + 1) c5) ((sts.take (i + 1)).map (rowS cs)) := by
            refine ⟨Lm ++ [(.slice p8 L8.length c8, rowS cs s)], by rw [List.map_append, hLm, List.take_add_one, Hs.out]; simp, own_cast O8 (by rw [List.length_append, hlm]; rfl) (by rw [List.map_append]; rfl), ?_⟩
            intro t ht
            rw [List.mem_append, List.mem_singleton] at ht
            rcases ht with ht | rfl
            · exact ((hpm t ht).keep hkt (by decide) (by decide)).keep K8 (by decide) (by decide)
            · exact RowAt.keep ⟨L8, hL8, ho8, hp8⟩ K8 (by decide) (by decide)
          have HP8 : Hid (∀ t ∈ Le, w8.ownsRow w.heap.size 5 1 t.1 t.2.length (t.2.map (Value.int .u8)) ∧ Byt t.2) := Lib.hid fun t ht => ⟨own_keep (hpe t ht).1 K8 (by decide), (hpe t ht).2⟩
          have HR8 := Lib.hid R8
          have HF8 := Lib.hid F8
          have HC8 := Lib.hid C8
          have HL8 := Lib.hid L8'
          clear hS hC hoe hpe hpm hL8 ho8 hp8 R8 F8 C8 L8' KS8 K68 K8 O8 hB hD hF hom b51 f51 b52 s51 b72 f72 K6 HB6 HF6 HO5 HG5 HW5 KS6 HD6 HBl6 HO7 HG7 HK7 HB7 HD7 HBl7 b1
          refine wp_held 8 (fun W' => W'.cell? ⟨T, 3, none⟩ = some (.slice pv i cv) ∧ W'.cell? ⟨sb, 2, none⟩ = some (.slice pe s.endL.length ce)) (by kernel_rfl) ⟨T8.cell 3 rfl, S8.cell 2 rfl⟩ (fun hHeld => ?_)
          refine wpAnyZ_take (i := 0) (v := .pointer (some ⟨T, 3, none⟩)) rfl (by kernel_rfl) (by decide) (by kernel_rfl) (fun _ _ _ h => h) _ _ _ _ (by kernel_rfl) (by kernel_rfl) (Or.inl ⟨by rfl, by intro w hSw; obtain ⟨s1, s2⟩ := hSw; go_simp⟩) hHeld ?_
          simp only [Act.put, List.setIfInBounds_toArray, List.set_cons_zero, List.set_cons_succ]
          refine wpAnyZ_take (i := 1) (v := .slice pv i cv) rfl (by kernel_rfl) (by decide) (by kernel_rfl) (fun _ _ _ h => h) _ _ _ _ (by kernel_rfl) (by kernel_rfl) (Or.inl ⟨by rfl, by intro w hSw; obtain ⟨s1, s2⟩ := hSw; go_simp⟩) hHeld ?_
          simp only [Act.put, List.setIfInBounds_toArray, List.set_cons_zero, List.set_cons_succ]
          refine wpAnyZ_take (i := 2) (v := .pointer (some ⟨sb, 2, none⟩)) rfl (by kernel_rfl) (by decide) (by kernel_rfl) (fun _ _ _ h => h) _ _ _ _ (by kernel_rfl) (by kernel_rfl) (Or.inl ⟨by rfl, by intro w hSw; obtain ⟨s1, s2⟩ := hSw; go_simp⟩) hHeld ?_
          simp only [Act.put, List.setIfInBounds_toArray, List.set_cons_zero, List.set_cons_succ]
          refine wpAnyZ_take (i := 3) (v := .slice pe s.endL.length ce) rfl (by kernel_rfl) (by decide) (by kernel_rfl) (fun _ _ _ h => h) _ _ _ _ (by kernel_rfl) (by kernel_rfl) (Or.inl ⟨by rfl, by intro w hSw; obtain ⟨s1, s2⟩ := hSw; go_simp⟩) hHeld ?_
          simp only [Act.put, List.setIfInBounds_toArray, List.set_cons_zero, List.set_cons_succ]
          obtain ⟨t1, t2⟩ := hHeld
          have HCl := Lib.hid (clone_any _ s.endL w8.drew (HEV.out ▸ Hsm.out.end_.grows (HL8.out.drew)) (by have := Hsm.out.small; omega))
          refine wpAnyZ_one (j := 4) (by kernel_rfl) rfl (fun K hK => ?_)
          go_simp
          go_wp2_with (go_at_call 40; refine HCl.out.mono ?_; rintro e w9 ⟨u9, rfl, ho9, hb9⟩; obtain ⟨p9, c9, rfl⟩ := own_shape ho9)
          have T9 := T8.drew.grows hb9
          have S9 := S8.drew.grows hb9
          refine hK.out _ _ (.inr ⟨T9.cell 3 rfl, S9.cell 2 rfl⟩) ?_
          clear hK K t1 t2
          have h89 := (Below.refl w8.heap.size w8).drew.trans hb9
          have hz9 : w8.heap.size ≤ w9.heap.size := h89.size
          have E9 := own_below E8 h89
          have hL8s := HL8.out.size
          have ho9' := own_mono ho9 (base' := w.heap.size) (by show w.heap.size ≤ w8.heap.size; omega)
          have D9 := D8.grows h89
          have H89 := Lib.hid h89
          clear ho9 hb9 h89
          try simp only [Act.put, List.setIfInBounds_toArray, List.set_cons_zero, List.set_cons_succ]
          refine wpAnyZ_one (j := 5) (by kernel_rfl) rfl (fun K hK => ?_)
          go_simp
          refine hK.out _ _ (.inr ⟨(T9.alloc _).cell 3 rfl, (S9.alloc _).cell 2 rfl⟩) ?_
          clear hK K
          try simp only [Act.put, List.setIfInBounds_toArray, List.set_cons_zero, List.set_cons_succ]
          have E10 := own_alloc E9 (.cells #[.slice p9 s.endL.length c9] 22)
          refine wpAnyZ_one (j := 6) (by kernel_rfl) rfl (fun K hK => ?_)
          refine grow_step rfl _ _ 41 rfl rfl w.heap.size 22 ie _ 1 24 Tryz.underlying41 hie he0 he1 he2 rfl (by decide) _ i _ rfl E10 ⟨w9.heap.size, 0, none⟩ 1 1 [.slice p9 s.endL.length c9] rfl rfl (cells_one _ _ _ _ rfl) (by simp [Value.oneCell']) (by unfold maxLen; omega) (by omega) (by simp; omega) ?_
          intro u11 w11 ho11 hg11
          obtain ⟨p11, c11, rfl⟩ := own_shape ho11
          have K11 : KeptTy (fun t => t ≠ 22) (w9.alloc (.cells #[.slice p9 s.endL.length c9] 22)) w11 := KeptTy.grown hg11 E10 (fun h => h rfl)
          have K11' : KeptTy (fun t => t ≠ 22) w8 w11 := (KeptTy.below H89.out).trans ((KeptTy.below ((Below.refl _ _).alloc (Nat.le_refl _) _)).trans K11)
          have T11 := (⟨K11' _ _ _ (by decide) T8.is⟩ : Blk w11 T _ _)
          have S11 := (⟨K11' _ _ _ (by decide) S8.is⟩ : Blk w11 sb _ _)
          have D11 := (⟨K11' _ _ _ (by decide) D8.is⟩ : Blk w11 w.heap.size _ _)
          have hb11 : Below w.heap.size w w11 := ((HL8.out.trans (H89.out.mono hL8s)).alloc (by omega) (.cells #[.slice p9 s.endL.length c9] 22)).grown hg11 (by simp; omega) (own_ge E10)
          refine hK.out _ _ (.inr ⟨T11.cell 3 rfl, S11.cell 2 rfl⟩) ?_
          clear hK K
          have hz11 := hg11.size
          simp at hz11
          try simp only [Act.put, List.setIfInBounds_toArray, List.set_cons_zero, List.set_cons_succ]
          refine wpAnyZ_one (j := 7) (by kernel_rfl) rfl (fun K hK => ?_)
          go_simp
          refine hK.out _ _ (.inr ⟨T11.cell 3 rfl, S11.cell 2 rfl⟩) ?_
          clear hK K
          have g11 := T11.cell 3 rfl
          have f11 := T11.free 3
          try simp only [Act.put, List.setIfInBounds_toArray, List.set_cons_zero, List.set_cons_succ]
          refine wpAnyZ_one (j := 8) (by kernel_rfl) rfl (fun K hK => ?_)
          go_simp
          refine hK.out _ _ (.inl rfl) ?_
          clear hK K
          refine wpAnyZ_done (by kernel_rfl) ?_
          try simp only [Act.put, List.setIfInBounds_toArray, List.set_cons_zero, List.set_cons_succ]
          clear g11 f11
          have KS : KeptTy (fun t => t ≠ 43) w11 (w11.setCell ⟨T, 3, none⟩ (.slice p11 (i + 1) c11)) := KeptTy.set (p := ⟨T, 3, none⟩) T11 (fun h => h rfl) _
          have KA : KeptTy (fun t => t ≠ 22 ∧ t ≠ 43) w8 (w11.setCell ⟨T, 3, none⟩ (.slice p11 (i + 1) c11)) := (K11'.mono (fun _ h => h.1)).trans (KS.mono (fun _ h => h.2))
          have E12 : EndsAt w.heap.size (w11.setCell ⟨T, 3, none⟩ (.slice p11 (i + 1) c11)) (.slice p11 (i + 1) c11) ((sts.take (i + 1)).map (·.endL)) := by
            refine ⟨Le ++ [(.slice p9 s.endL.length c9, s.endL)], by rw [List.map_append, hLe, List.take_add_one, Hs.out]; simp, own_cast (own_keep ho11 KS (by decide)) (by rw [List.length_append, hle]; rfl) (by rw [List.map_append]; rfl), ?_⟩
            intro t ht
            rw [List.mem_append, List.mem_singleton] at ht
            rcases ht with ht | rfl
            · exact ⟨own_keep (HP8.out t ht).1 KA (by decide), (HP8.out t ht).2⟩
            · exact ⟨own_keep (own_keep ((own_alloc ho9' (.cells #[.slice p9 s.endL.length c9] 22))) K11 (by decide)) KS (by decide), Hsm.out.end_.byt⟩
          have FIN := Lib.hid (And.intro (HR8.out.keep KA (by decide) (by decide) (by decide)) (And.intro (own_keep HF8.out KA (by decide)) (And.intro E12 (And.intro (own_keep HC8.out KA (by decide)) (And.intro (D11.other (a := ⟨T, 3, none⟩) hTw (.slice p11 (i + 1) c11)) (hb11.setCell (p := ⟨T, 3, none⟩) (by show w.heap.size ≤ T; omega) (.slice p11 (i + 1) c11)))))))
          have TF := Lib.hid ((T11.set 3 (.slice p11 (i + 1) c11)).cast (us := #[.slice p2 cs.length k2, .slice p5 (i + 1) c5, .slice p7 (i + 1) c7, .slice p11 (i + 1) c11]) (by simp))
          have hzF : T + 1 ≤ (w11.setCell ⟨T, 3, none⟩ (.slice p11 (i + 1) c11)).heap.size := by simp; omega
          generalize (w11.setCell ⟨T, 3, none⟩ (.slice p11 (i + 1) c11)) = wf at TF FIN hzF E12 KA KS ⊢
          clear E12 KA KS T11 S11 D11 hb11 K11 K11' hg11 ho11 E10 E9 T9 S9 D9 ho9'
          go_wp2
          go_roundw
          case rel => exact ⟨i + 1, _, _, _, by go_num, by omega, TF.out, FIN.out.1, own_cast FIN.out.2.1 rfl (by rw [List.take_add_one, Hs.out]; simp), FIN.out.2.2.1, FIN.out.2.2.2.1, FIN.out.2.2.2.2.1, FIN.out.2.2.2.2.2, hzF⟩
          case measure => simp [RowKit.intOf]; omega
    · obtain rfl : i = sts.length := by omega
      rw [List.take_length] at hR hF hE
      obtain ⟨Lm, hLm, hom, hpm⟩ := hR
      obtain ⟨pm, cm, rfl⟩ := own_shape hom
      obtain ⟨pf, cf, rfl⟩ := own_shape hF
      obtain ⟨Le, hLe, hoe, hpe⟩ := hE
      obtain ⟨pv, cv, rfl⟩ := own_shape hoe
      have a0 := hB.cell 0 rfl
      have a1 := hB.cell 1 rfl
      have a2 := hB.cell 2 rfl
      have a3 := hB.cell 3 rfl
      obtain ⟨d0, d1, d2, d3, e0, e1, e2, e3⟩ := hD.four
      have KS : KeptTy (fun t => t ≠ 43) wr ((((wr.setCell ⟨w.heap.size, 0, none⟩ (.slice p2 cs.length k2)).setCell ⟨w.heap.size, 1, none⟩ (.slice pm Lm.length cm)).setCell ⟨w.heap.size, 2, none⟩ (.slice pf sts.length cf)).setCell ⟨w.heap.size, 3, none⟩ (.slice pv Le.length cv)) :=
        (KeptTy.set (p := ⟨w.heap.size, 0, none⟩) hD (fun h => h rfl) _).trans ((KeptTy.set (p := ⟨w.heap.size, 1, none⟩) (hD.set 0 _) (fun h => h rfl) _).trans ((KeptTy.set (p := ⟨w.heap.size, 2, none⟩) ((hD.set 0 _).set 1 _) (fun h => h rfl) _).trans (KeptTy.set (p := ⟨w.heap.size, 3, none⟩) (((hD.set 0 _).set 1 _).set 2 _) (fun h => h rfl) _)))
      have FIN := Lib.hid (show TrAt w.heap.size ((((wr.setCell ⟨w.heap.size, 0, none⟩ (.slice p2 cs.length k2)).setCell ⟨w.heap.size, 1, none⟩ (.slice pm Lm.length cm)).setCell ⟨w.heap.size, 2, none⟩ (.slice pf sts.length cf)).setCell ⟨w.heap.size, 3, none⟩ (.slice pv Le.length cv)) (.agg #[.slice p2 cs.length k2, .slice pm Lm.length cm, .slice pf sts.length cf, .slice pv Le.length cv]) cs (sts.map (rowS cs)) (sts.map (·.fin)) (sts.map (·.endL)) from
        ⟨_, _, _, _, rfl, own_keep hC KS (by decide), RowsAt.keep ⟨Lm, hLm, hom, hpm⟩ KS (by decide) (by decide) (by decide), own_cast (own_keep hF KS (by decide)) (by simp) (by simp [List.map_map]), EndsAt.keep ⟨Le, hLe, hoe, hpe⟩ KS (by decide) (by decide)⟩)
      have HDs := Lib.hid (hD.set4 (.slice p2 cs.length k2) (.slice pm Lm.length cm) (.slice pf sts.length cf) (.slice pv Le.length cv))
      have HBs := Lib.hid (below_set4 hb (Nat.le_refl _) (.slice p2 cs.length k2) (.slice pm Lm.length cm) (.slice pf sts.length cf) (.slice pv Le.length cv))
      clear KS hD hB hC hF hom hpm hoe hpe hb
      go_wp2
      refine bodyPost_ret (results_cell_row rfl _ _ w.heap.size 43 _ (0, 0) _ rfl HDs.out.is Tryz.underlying43 rfl trSize) rfl ⟨_, rfl, ?_, HBs.out⟩
      rw [HCS.out]
      exact FIN.out
end Go.Proofs.YtkhphiilnplgjaaGreatDoor

namespace Go.Proofs.YtkhphiilnplgjaaGreatDoor
open Go.RowKit Go.Lib

/-- the state in which so many bytes are held back. -/
def mkSt (old new : List Int) (po : Option Addr) (co behind : Nat) (j : Nat) (t : Nat × Nat × Nat) : St :=
  { F := 131, caps := #[.pointer (some ⟨t.1, 0, none⟩), .pointer (some ⟨t.2.1, 0, none⟩), .pointer (some ⟨t.2.2, 0, none⟩)], fin := true, endV := .slice po j co, endL := old.take j, mv := srchS old new j behind }
def stC (s : St) : List Value := [.func (.func s.F) #[] s.caps, .bool s.fin, s.endV]
def mkSts (old new : List Int) (po : Option Addr) (co behind : Nat) (L : List (Nat × Nat × Nat)) : List St := L.mapIdx fun j t => mkSt old new po co behind j t
theorem mkSts_snoc (old new : List Int) (po : Option Addr) (co behind : Nat) (L : List (Nat × Nat × Nat)) (t : Nat × Nat × Nat) : mkSts old new po co behind (L ++ [t]) = mkSts old new po co behind L ++ [mkSt old new po co behind L.length t] := by
  unfold mkSts; rw [List.mapIdx_append]; simp
theorem mkSts_len (old new : List Int) (po : Option Addr) (co behind : Nat) (L : List (Nat × Nat × Nat)) : (mkSts old new po co behind L).length = L.length := by unfold mkSts; simp
theorem infoSt : (Tryz.prog.info? 153).map (fun i => (i.zero, i.size, i.bytes)) = some (some (.agg #[.nilFunc, .bool false, .slice none 0 0]), 3, 40) := by kernel_rfl
theorem cells_three (w : World) (x y z : Value) (t : TypeId) (n : Nat) (hn : n = w.heap.size) : ∀ j u, [x, y, z][j]? = some u → (w.alloc (.cells #[x, y, z] t)).cell? ((⟨n, 0, none⟩ : Addr).add j) = some u := by
  subst hn
  intro j u hj
  match j, hj with
  | 0, hj => simp at hj; subst hj; simp [Addr.add]
  | 1, hj => simp at hj; subst hj; simp [Addr.add]
  | 2, hj => simp at hj; subst hj; simp [Addr.add]
theorem state_one (F : Nat) (caps : Array Value) (b : Bool) (p : Option Addr) (n c : Nat) : ∀ u ∈ [Value.func (.func F) #[] caps, .bool b, .slice p n c], u.oneCell' = true := by
  intro u hu
  simp at hu
  rcases hu with rfl | rfl | rfl <;> rfl
theorem stC_at : ∀ {l : List St} {i : Nat} {s : St}, l[i]? = some s → (l.flatMap stC)[i * 3]? = some (.func (.func s.F) #[] s.caps) ∧ (l.flatMap stC)[i * 3 + 1]? = some (.bool s.fin) ∧ (l.flatMap stC)[i * 3 + 2]? = some s.endV
  | _ :: _, 0, _, h => by simp at h; subst h; exact ⟨rfl, rfl, rfl⟩
  | _ :: l, j + 1, s, h => by
    have := stC_at (l := l) (i := j) (s := s) (by simpa using h)
    rw [show (j + 1) * 3 = j * 3 + 1 + 1 + 1 by omega]
    simpa [stC] using this
theorem own_sts {w : World} {base : Nat} {v : Value} {l : List St} (h : w.ownsRow base 153 3 v l.length (l.flatMap stC)) : IsSts w v l := by
  rcases h.2 with ⟨rfl, h0⟩ | ⟨g, cap, cur, rfl, _, hh, _, _, _, ht⟩
  · refine ⟨none, 0, by rw [h0], fun i s hs => ?_⟩
    rw [List.length_eq_zero_iff.1 h0] at hs; simp at hs
  · refine ⟨_, cap, rfl, fun i s hs => ⟨g, 0, rfl, ?_⟩⟩
    obtain ⟨h1, h2, h3⟩ := stC_at hs
    have hat : ∀ k u, (l.flatMap stC)[k]? = some u → w.cell? ⟨g, 0 + k, none⟩ = some u := fun k u hk => by
      rw [← ht, List.getElem?_take] at hk
      split at hk
      · simp only [World.cell?, hh, Nat.zero_add]
        simpa using hk
      · cases hk
    exact ⟨by have := hat _ _ h1; simpa using this, by have := hat _ _ h2; simpa [Nat.add_assoc] using this, by have := hat _ _ h3; simpa [Nat.add_assoc] using this⟩
theorem calls_cast {P : Program} {g : Nat} {a b : Array Value} {w : World} {Q : Ending → World → Prop} (h : a = b) (hc : Calls P g b w Q) : Calls P g a w Q := h ▸ hc
/-- what a state's closure holds. -/
def Bxs (W : World) (k : Int) (po pn : Option Addr) (co cn : Nat) (old new : List Int) (behind : Nat) (L : List (Nat × Nat × Nat)) : Prop :=
  ∀ (j : Nat) (t : Nat × Nat × Nat), L[j]? = some t → Blk W t.1 #[.int .i64 k, .slice po old.length co, .slice pn new.length cn] 24 ∧ Blk W t.2.1 #[.int .i64 (j : Int)] 3 ∧ Blk W t.2.2 #[.int .i64 (behind : Int)] 3
theorem Bxs.keep {W W' : World} {S : TypeId → Prop} {k : Int} {po pn : Option Addr} {co cn : Nat} {old new : List Int} {behind : Nat} {L : List (Nat × Nat × Nat)} (h : Bxs W k po pn co cn old new behind L) (hk : KeptTy S W W') (h1 : S 24) (h2 : S 3) : Bxs W' k po pn co cn old new behind L := fun j t ht =>
  ⟨⟨hk _ _ _ h1 (h j t ht).1.is⟩, ⟨hk _ _ _ h2 (h j t ht).2.1.is⟩, ⟨hk _ _ _ h2 (h j t ht).2.2.is⟩⟩
theorem Bxs.ok {w : World} {k : Int} {po pn : Option Addr} {co cn : Nat} {old new : List Int} {behind : Nat} {L : List (Nat × Nat × Nat)} (h : Bxs w k po pn co cn old new behind L) (h1 : IsY w (.slice po old.length co) old) (h2 : IsY w (.slice pn new.length cn) new) (c1 : old.length ≤ co) (ho : old.length ≤ 100) (hn : new.length ≤ 100) (hl : L.length ≤ old.length) :
    ∀ s ∈ mkSts old new po co behind L, OkSt w s := by
  intro s hs
  unfold mkSts at hs
  obtain ⟨j, hj, rfl⟩ := List.mem_mapIdx.1 hs
  have ht := h j _ (List.getElem?_eq_getElem hj)
  refine ⟨h1.take j (by omega), ?_, enters_of Tryz.func131 (by kernel_rfl) rfl, fun W hW x hx => ?_⟩
  · show (old.take j).length ≤ 1000
    rw [List.length_take]; omega
  · refine calls_cast (by simp [mkSt]) (search1_any x L[j].1 L[j].2.1 L[j].2.2 j behind k po pn co cn old new W hx (ht.1.grows hW) (ht.2.1.grows hW) (ht.2.2.grows hW) (h1.grows hW) (h2.grows hW) c1 (by omega) (by omega) (by omega))
end Go.Proofs.YtkhphiilnplgjaaGreatDoor

namespace Go.Proofs.YtkhphiilnplgjaaGreatDoor
open Go.RowKit Go.Lib

def rowsR (old new : List Int) (cs : List (BitVec 256)) : List (List (Int × Pcs)) := (List.range old.length).map fun j => cs.map fun c => srchS old new j 0 (leastI c)
theorem rows_mk {old new : List Int} {po : Option Addr} {co : Nat} {cs : List (BitVec 256)} {L : List (Nat × Nat × Nat)} (h : L.length = old.length) : (mkSts old new po co 0 L).map (rowS cs) = rowsR old new cs := by
  apply List.ext_getElem
  · simp [mkSts_len, rowsR, h]
  · intro i h1 h2
    simp [mkSts, rowsR, mkSt, rowS]
theorem fins_mk {old new : List Int} {po : Option Addr} {co : Nat} {L : List (Nat × Nat × Nat)} (h : L.length = old.length) : (mkSts old new po co 0 L).map (·.fin) = List.replicate old.length true := by
  apply List.ext_getElem
  · simp [mkSts_len, h]
  · intro i h1 h2
    simp [mkSts, mkSt]
theorem ends_mk {old new : List Int} {po : Option Addr} {co : Nat} {L : List (Nat × Nat × Nat)} (h : L.length = old.length) : (mkSts old new po co 0 L).map (·.endL) = (List.range old.length).map fun j => old.take j := by
  apply List.ext_getElem
  · simp [mkSts_len, h]
  · intro i h1 h2
    simp [mkSts, mkSt]
theorem TrAt.shape {base : Nat} {w : World} {v : Value} {cs : List (BitVec 256)} {rows : List (List (Int × Pcs))} {fins : List Bool} {ends : List (List Int)} (h : TrAt base w v cs rows fins ends) :
    ∃ p1 n1 k1 p2 n2 k2 p3 n3 k3 p4 n4 k4, v = .agg #[.slice p1 n1 k1, .slice p2 n2 k2, .slice p3 n3 k3, .slice p4 n4 k4] := by
  obtain ⟨vc, vm, vf, ve, rfl, ic, ⟨Lm, _, hom, _⟩, if_, ⟨Le, _, hoe, _⟩⟩ := h.is
  obtain ⟨pc, cc, rfl⟩ := own_shape ic
  obtain ⟨pm, cm, rfl⟩ := own_shape hom
  obtain ⟨pf, cf, rfl⟩ := own_shape if_
  obtain ⟨pv, cv, rfl⟩ := own_shape hoe
  exact ⟨_, _, _, _, _, _, _, _, _, _, _, _, rfl⟩
theorem TrAt.keep {base : Nat} {w w' : World} {v : Value} {cs : List (BitVec 256)} {rows : List (List (Int × Pcs))} {fins : List Bool} {ends : List (List Int)} (h : TrAt base w v cs rows fins ends) (hk : KeptTy (fun t => t ≠ 43) w w') : TrAt base w' v cs rows fins ends := by
  obtain ⟨vc, vm, vf, ve, rfl, ic, im, if_, ie⟩ := h.is
  exact ⟨_, _, _, _, rfl, own_keep ic hk (by decide), im.keep hk (by decide) (by decide) (by decide), own_keep if_ hk (by decide), ie.keep hk (by decide) (by decide)⟩
theorem TrAt.mono {base base' : Nat} {w : World} {v : Value} {cs : List (BitVec 256)} {rows : List (List (Int × Pcs))} {fins : List Bool} {ends : List (List Int)} (h : TrAt base w v cs rows fins ends) (hb : base' ≤ base) : TrAt base' w v cs rows fins ends := by
  obtain ⟨vc, vm, vf, ve, rfl, ic, ⟨Lm, hLm, hom, hpm⟩, if_, ⟨Le, hLe, hoe, hpe⟩⟩ := h.is
  exact ⟨_, _, _, _, rfl, own_mono ic hb, ⟨Lm, hLm, own_mono hom hb, fun t ht => (hpm t ht).mono hb⟩, own_mono if_ hb, ⟨Le, hLe, own_mono hoe hb, fun t ht => ⟨own_mono (hpe t ht).1 hb, (hpe t ht).2⟩⟩⟩
set_option maxRecDepth 100000 in
set_option maxHeartbeats 4000000 in
theorem repl2_all (v : Value) (k : Int) (old new : List Int) (ab : Nat) (w : World) (hv : IsOp w v k old new) (hA : Blk w ab #[.bool true] 4) (h0 : 0 < old.length) (h4 : old.length ≤ 8) (hn4 : new.length ≤ 4)
    (hT : TabAt 0 Lib.deBruijn64tab w) (hg : 0 < w.heap.size) :
    Calls Tryz.prog 102 #[v, .pointer (some ⟨ab, 0, none⟩)] w fun e w' => ∃ u, e = .returned u ∧
      TrAt w.heap.size w' u (canon (sgS old)) (rowsR old new (canon (sgS old))) (List.replicate old.length true) ((List.range old.length).map fun j => old.take j) ∧ Below w.heap.size w w' := by
  obtain ⟨is, his, hs0, hs1, hs2⟩ := info_parts infoSt
  obtain ⟨po, co, pn, cn, rfl, h1, h2, c1, c2⟩ := hv.shape
  have D0 := (Blk.new w #[.int .i64 k, .slice po old.length co, .slice pn new.length cn] 24).alloc (.cells #[.slice none 0 0, .slice none 0 0, .slice none 0 0, .slice none 0 0] 43)
  have R0 := Blk.alloc1 w #[.int .i64 k, .slice po old.length co, .slice pn new.length cn] #[.slice none 0 0, .slice none 0 0, .slice none 0 0, .slice none 0 0] 24 43
  have hbw : Below w.heap.size w ((w.alloc (.cells #[.int .i64 k, .slice po old.length co, .slice pn new.length cn] 24)).alloc (.cells #[.slice none 0 0, .slice none 0 0, .slice none 0 0, .slice none 0 0] 43)) := by go_grown
  have hsz : ((w.alloc (.cells #[.int .i64 k, .slice po old.length co, .slice pn new.length cn] 24)).alloc (.cells #[.slice none 0 0, .slice none 0 0, .slice none 0 0, .slice none 0 0] 43)).heap.size = w.heap.size + 2 := by simp
  have x1 := D0.cell 1 rfl
  have HA := Lib.hid hA
  have H1 := Lib.hid h1
  have H2 := Lib.hid h2
  have HT := Lib.hid hT
  have HG := Lib.hid hg
  clear hv hA h1 h2 hT hg
  go_enter Tryz.func102, Tryz.ntmps102
  go_wp2
  generalize ((w.alloc (.cells #[.int .i64 k, .slice po old.length co, .slice pn new.length cn] 24)).alloc (.cells #[.slice none 0 0, .slice none 0 0, .slice none 0 0, .slice none 0 0] 43)) = w1 at D0 R0 hbw hsz x1 ⊢
  go_loopw [4, 9] (fun uv iv wr => ∃ (i : Nat) (L : List (Nat × Nat × Nat)), iv = .int .i64 (i : Int) ∧ i ≤ old.length ∧ L.length = i ∧ wr.ownsRow (w.heap.size + 2) 153 3 uv i ((mkSts old new po co 0 L).flatMap stC) ∧ Bxs wr k po pn co cn old new 0 L ∧
    Blk wr w.heap.size #[.int .i64 k, .slice po old.length co, .slice pn new.length cn] 24 ∧ Blk wr (w.heap.size + 1) #[.slice none 0 0, .slice none 0 0, .slice none 0 0, .slice none 0 0] 43 ∧ Below w.heap.size w wr ∧ w.heap.size + 2 ≤ wr.heap.size) (fun _ iv _ => old.length - (RowKit.intOf iv).toNat)
  case atStart =>
    exact ⟨0, [], rfl, Nat.zero_le _, rfl, World.ownsRow_nil _ _ _ _, fun j t h => by simp at h, D0, R0, hbw, by omega⟩
  case round =>
    obtain ⟨i, L, rfl, hi, hL, hown, hB, hD, hR, hb, hz⟩ := hrel
    have hA := HA.out.grows hb
    by_cases hlt : i < old.length
    · have HO := Lib.hid hown
      have HB := Lib.hid hB
      have HD := Lib.hid hD
      have HR := Lib.hid hR
      have Hb := Lib.hid hb
      have hc0 := hD.cell 0 rfl
      have hc1 := hD.cell 1 rfl
      have hc2 := hD.cell 2 rfl
      have hca := hA.cell 0 rfl
      have hst := fun w => slice_to po old.length co i (by omega) w
      clear hown hB hD hR hb hA x1 D0 R0
      go_wp2
      refine wp_held 12 (fun W' => W'.cell? ⟨w.heap.size, 0, none⟩ = some (.int .i64 k) ∧ W'.cell? ⟨w.heap.size, 1, none⟩ = some (.slice po old.length co) ∧ W'.cell? ⟨w.heap.size, 2, none⟩ = some (.slice pn new.length cn) ∧ W'.cell? ⟨ab, 0, none⟩ = some (.bool true)) (by kernel_rfl) ⟨hc0, hc1, hc2, hca⟩ (fun hHeld => ?_)
      refine wpAnyZ_take (i := 0) (v := u4) rfl (by kernel_rfl) (by decide) (by kernel_rfl) (fun _ _ _ h => h) _ _ _ _ (by kernel_rfl) (by kernel_rfl) (Or.inl ⟨by rfl, by intro w hSw; obtain ⟨s1, s2, s3, s4⟩ := hSw; have hsl := hst w; go_simp⟩) hHeld ?_
      simp only [Act.put, List.setIfInBounds_toArray, List.set_cons_zero, List.set_cons_succ]
      refine wpAnyZ_take (i := 1) (v := .agg #[.int .i64 k, .slice po old.length co, .slice pn new.length cn]) rfl (by kernel_rfl) (by decide) (by kernel_rfl) (fun _ _ _ h => h) _ _ _ _ (by kernel_rfl) (by kernel_rfl) (Or.inl ⟨by rfl, by intro w hSw; obtain ⟨s1, s2, s3, s4⟩ := hSw; have hsl := hst w; go_simp⟩) hHeld ?_
      simp only [Act.put, List.setIfInBounds_toArray, List.set_cons_zero, List.set_cons_succ]
      refine wpAnyZ_take (i := 2) (v := .int .i64 (i : Int)) rfl (by kernel_rfl) (by decide) (by kernel_rfl) (fun _ _ _ h => h) _ _ _ _ (by kernel_rfl) (by kernel_rfl) (Or.inl ⟨by rfl, by intro w hSw; obtain ⟨s1, s2, s3, s4⟩ := hSw; have hsl := hst w; go_simp⟩) hHeld ?_
      simp only [Act.put, List.setIfInBounds_toArray, List.set_cons_zero, List.set_cons_succ]
      refine wpAnyZ_take (i := 3) (v := .bool true) rfl (by kernel_rfl) (by decide) (by kernel_rfl) (fun _ _ _ h => h) _ _ _ _ (by kernel_rfl) (by kernel_rfl) (Or.inl ⟨by rfl, by intro w hSw; obtain ⟨s1, s2, s3, s4⟩ := hSw; have hsl := hst w; go_simp⟩) hHeld ?_
      simp only [Act.put, List.setIfInBounds_toArray, List.set_cons_zero, List.set_cons_succ]
      refine wpAnyZ_take (i := 5) (v := .pointer (some ⟨w.heap.size, 1, none⟩)) rfl (by kernel_rfl) (by decide) (by kernel_rfl) (fun _ _ _ h => h) _ _ _ _ (by kernel_rfl) (by kernel_rfl) (Or.inl ⟨by rfl, by intro w hSw; obtain ⟨s1, s2, s3, s4⟩ := hSw; have hsl := hst w; go_simp⟩) hHeld ?_
      simp only [Act.put, List.setIfInBounds_toArray, List.set_cons_zero, List.set_cons_succ]
      refine wpAnyZ_take (i := 6) (v := .slice po old.length co) rfl (by kernel_rfl) (by decide) (by kernel_rfl) (fun _ _ _ h => h) _ _ _ _ (by kernel_rfl) (by kernel_rfl) (Or.inl ⟨by rfl, by intro w hSw; obtain ⟨s1, s2, s3, s4⟩ := hSw; have hsl := hst w; go_simp⟩) hHeld ?_
      simp only [Act.put, List.setIfInBounds_toArray, List.set_cons_zero, List.set_cons_succ]
      refine wpAnyZ_take (i := 7) (v := .int .i64 (i : Int)) rfl (by kernel_rfl) (by decide) (by kernel_rfl) (fun _ _ _ h => h) _ _ _ _ (by kernel_rfl) (by kernel_rfl) (Or.inl ⟨by rfl, by intro w hSw; obtain ⟨s1, s2, s3, s4⟩ := hSw; have hsl := hst w; go_simp⟩) hHeld ?_
      simp only [Act.put, List.setIfInBounds_toArray, List.set_cons_zero, List.set_cons_succ]
      refine wpAnyZ_take (i := 8) (v := .slice po i co) rfl (by kernel_rfl) (by decide) (by kernel_rfl) (fun _ _ _ h => h) _ _ _ _ (by kernel_rfl) (by kernel_rfl) (Or.inl ⟨by rfl, by intro w hSw; obtain ⟨s1, s2, s3, s4⟩ := hSw; have hsl := hst w; go_simp⟩) hHeld ?_
      simp only [Act.put, List.setIfInBounds_toArray, List.set_cons_zero, List.set_cons_succ]
      obtain ⟨t0, t1, t2, t3⟩ := hHeld
      have HSe := Lib.hid (searching_any k po pn co cn old new i true wr.drew)
      refine wpAnyZ_one (j := 4) (by kernel_rfl) rfl (fun K hK => ?_)
      go_simp
      go_wp2_with (go_at_call 103; refine HSe.out.mono ?_; rintro e w2 ⟨rfl, q1, q2, q3, hb2⟩)
      have h22 : Below wr.heap.size wr w2 := (Below.refl _ _).drew.trans hb2
      have z2 := hb2.size
      have z2' : wr.heap.size + 3 ≤ w2.heap.size := by have := q3.lt; show wr.drew.heap.size + 2 < _; exact this
      have D2 := HD.out.grows h22
      have R2 := HR.out.grows h22
      have A2 := HA.out.grows ((Hb.out.trans (h22.mono Hb.out.size)))
      have O2 := own_below HO.out h22
      have B2 : Bxs w2 k po pn co cn old new 0 (L ++ [(wr.heap.size, wr.heap.size + 1, wr.heap.size + 2)]) := by
        intro j t ht
        rw [List.getElem?_append] at ht
        split at ht
        · obtain ⟨g1, g2, g3⟩ := HB.out j t ht
          exact ⟨g1.grows h22, g2.grows h22, g3.grows h22⟩
        · rename_i hge
          obtain ⟨rfl, rfl⟩ : j = i ∧ t = (wr.heap.size, wr.heap.size + 1, wr.heap.size + 2) := by
            rw [List.getElem?_singleton] at ht
            split at ht
            · exact ⟨by omega, by simpa using ht.symm⟩
            · cases ht
          exact ⟨q1, q2, q3⟩
      refine hK.out _ _ (.inr ⟨D2.cell 0 rfl, D2.cell 1 rfl, D2.cell 2 rfl, A2.cell 0 rfl⟩) ?_
      clear hK K t0 t1 t2 t3 hb2 q1 q2 q3 hc0 hc1 hc2 hca
      have Hb2 := Lib.hid (Hb.out.trans (h22.mono Hb.out.size))
      clear h22
      try simp only [Act.put, List.setIfInBounds_toArray, List.set_cons_zero, List.set_cons_succ]
      refine wpAnyZ_one (j := 9) (by kernel_rfl) rfl (fun K hK => ?_)
      go_simp
      refine hK.out _ _ (.inr ⟨D2.cell 0 rfl, D2.cell 1 rfl, D2.cell 2 rfl, A2.cell 0 rfl⟩) ?_
      clear hK K
      try simp only [Act.put, List.setIfInBounds_toArray, List.set_cons_zero, List.set_cons_succ]
      refine wpAnyZ_one (j := 10) (by kernel_rfl) rfl (fun K hK => ?_)
      go_simp
      refine hK.out _ _ (.inr ⟨(D2.alloc _).cell 0 rfl, (D2.alloc _).cell 1 rfl, (D2.alloc _).cell 2 rfl, (A2.alloc _).cell 0 rfl⟩) ?_
      clear hK K
      try simp only [Act.put, List.setIfInBounds_toArray, List.set_cons_zero, List.set_cons_succ]
      have O3 := own_alloc O2 (.cells #[.func (.func 131) #[] #[.pointer (some ⟨wr.heap.size, 0, none⟩), .pointer (some ⟨wr.heap.size + 1, 0, none⟩), .pointer (some ⟨wr.heap.size + 2, 0, none⟩)], .bool true, .slice po i co] 153)
      refine wpAnyZ_one (j := 11) (by kernel_rfl) rfl (fun K hK => ?_)
      refine grow_step rfl _ _ 159 rfl rfl (w.heap.size + 2) 153 is _ 3 40 Tryz.underlying159 his hs0 hs1 hs2 rfl (by decide) u4 i _ rfl O3 ⟨w2.heap.size, 0, none⟩ 1 1 [.func (.func 131) #[] #[.pointer (some ⟨wr.heap.size, 0, none⟩), .pointer (some ⟨wr.heap.size + 1, 0, none⟩), .pointer (some ⟨wr.heap.size + 2, 0, none⟩)], .bool true, .slice po i co] rfl rfl (cells_three _ _ _ _ _ _ rfl) (state_one _ _ _ _ _ _) (by unfold maxLen; omega) (by omega) (by simp; omega) ?_
      intro u5 w5 ho5 hg5
      have K5 : KeptTy (fun t => t ≠ 153) w2 w5 := (KeptTy.below ((Below.refl _ _).alloc (Nat.le_refl _) _)).trans (KeptTy.grown hg5 O3 (fun h => h rfl))
      have D5 := (⟨K5 _ _ _ (by decide) D2.is⟩ : Blk w5 w.heap.size _ _)
      have R5 := (⟨K5 _ _ _ (by decide) R2.is⟩ : Blk w5 (w.heap.size + 1) _ _)
      have A5 := (⟨K5 _ _ _ (by decide) A2.is⟩ : Blk w5 ab _ _)
      have B5 := Lib.hid (B2.keep K5 (by decide) (by decide))
      have z5 := hg5.size
      simp at z5
      have b5 : Below w.heap.size w w5 := (Hb2.out.alloc (by omega) (.cells #[.func (.func 131) #[] #[.pointer (some ⟨wr.heap.size, 0, none⟩), .pointer (some ⟨wr.heap.size + 1, 0, none⟩), .pointer (some ⟨wr.heap.size + 2, 0, none⟩)], .bool true, .slice po i co] 153)).grown hg5 (by simp; omega) (fun k e => by have := own_ge O3 k e; omega)
      have HF := Lib.hid (And.intro b5 (show w5.ownsRow (w.heap.size + 2) 153 3 u5 (i + 1) ((mkSts old new po co 0 (L ++ [(wr.heap.size, wr.heap.size + 1, wr.heap.size + 2)])).flatMap stC) from own_cast ho5 rfl (by rw [mkSts_snoc, List.flatMap_append, hL]; rfl)))
      refine hK.out _ _ (.inr ⟨D5.cell 0 rfl, D5.cell 1 rfl, D5.cell 2 rfl, A5.cell 0 rfl⟩) ?_
      clear hK K b5 ho5 hg5 K5 O3 O2 B2
      have HD5 := Lib.hid (And.intro D5 R5)
      try simp only [Act.put, List.setIfInBounds_toArray, List.set_cons_zero, List.set_cons_succ]
      refine wpAnyZ_one (j := 12) (by kernel_rfl) rfl (fun K hK => ?_)
      go_simp
      refine hK.out _ _ (.inl rfl) ?_
      clear hK K D5 R5 A5 D2 R2 A2
      refine wpAnyZ_done (by kernel_rfl) ?_
      try simp only [Act.put, List.setIfInBounds_toArray, List.set_cons_zero, List.set_cons_succ]
      go_wp2
      go_roundw
      case rel => exact ⟨i + 1, _, by go_num, by omega, by rw [List.length_append, hL]; rfl, HF.out.2, B5.out, HD5.out.1, HD5.out.2, HF.out.1, by omega⟩
      case measure => simp [RowKit.intOf]; omega
    · obtain rfl : i = old.length := by omega
      have hca := hA.cell 0 rfl
      have hc1 := hD.cell 1 rfl
      have hY1 := H1.out.grows hb
      have HSi := Lib.hid (singles_any _ old wr hY1 (by omega))
      go_wp2_with fail
      refine HSi.out.mono ?_
      rintro e w2 ⟨u2, rfl, ho2, hb2⟩
      have hL2 := mkSts_len old new po co 0 L
      have hb02 := hb.trans (hb2.mono hb.size)
      have O2 := own_below hown hb2
      rw [← hL, ← hL2] at O2
      have hIs := own_sts O2
      have hBx : Bxs w2 k po pn co cn old new 0 L := hB.keep (S := fun _ => True) (KeptTy.below hb2) trivial trivial
      have hOk := hBx.ok (H1.out.grows hb02) (H2.out.grows hb02) c1 (by omega) (by omega) (by omega)
      have R2 := hR.grows hb2
      have z2 := hb2.size
      have HAs := Lib.hid (assemble_any u2 _ (sgS old) (mkSts old new po co 0 L) w2 (own_isC ho2) hIs hOk (by rw [sgS_len]; omega) (by rw [hL2]; omega) (tab_below HT.out hb02 HG.out) (Nat.lt_of_lt_of_le HG.out hb02.size))
      have Hb02 := Lib.hid hb02
      clear hb02 hb2 hb hown O2 hIs hBx hOk ho2 hB hD hR hA hY1 x1
      go_wp2_with fail
      refine HAs.out.mono ?_
      rintro e w3 ⟨u3, rfl, hTr, hb3⟩
      have R3 := R2.grows hb3
      have hb03 := Hb02.out.trans (hb3.mono (by omega))
      obtain ⟨p1, n1, k1, p2, n2, k2, p3, n3, k3, p4, n4, k4, rfl⟩ := hTr.shape
      obtain ⟨d0, d1, d2, d3, e0, e1, e2, e3⟩ := R3.four
      have KS : KeptTy (fun t => t ≠ 43) w3 ((((w3.setCell ⟨w.heap.size + 1, 0, none⟩ (.slice p1 n1 k1)).setCell ⟨w.heap.size + 1, 1, none⟩ (.slice p2 n2 k2)).setCell ⟨w.heap.size + 1, 2, none⟩ (.slice p3 n3 k3)).setCell ⟨w.heap.size + 1, 3, none⟩ (.slice p4 n4 k4)) :=
        (KeptTy.set (p := ⟨w.heap.size + 1, 0, none⟩) R3 (fun h => h rfl) _).trans ((KeptTy.set (p := ⟨w.heap.size + 1, 1, none⟩) (R3.set 0 _) (fun h => h rfl) _).trans ((KeptTy.set (p := ⟨w.heap.size + 1, 2, none⟩) ((R3.set 0 _).set 1 _) (fun h => h rfl) _).trans (KeptTy.set (p := ⟨w.heap.size + 1, 3, none⟩) (((R3.set 0 _).set 1 _).set 2 _) (fun h => h rfl) _)))
      have FIN := Lib.hid ((hTr.keep KS).mono (base' := w.heap.size) (by have := Hb02.out.size; omega))
      have HDs := Lib.hid (R3.set4 (.slice p1 n1 k1) (.slice p2 n2 k2) (.slice p3 n3 k3) (.slice p4 n4 k4))
      have HBs := Lib.hid (below_set4 hb03 (show w.heap.size ≤ w.heap.size + 1 by omega) (.slice p1 n1 k1) (.slice p2 n2 k2) (.slice p3 n3 k3) (.slice p4 n4 k4))
      clear KS hTr hb03 R3 R2 hb3
      go_wp2
      refine bodyPost_ret (results_cell_row rfl _ _ (w.heap.size + 1) 43 _ (0, 0) _ rfl HDs.out.is Tryz.underlying43 rfl trSize) rfl ⟨_, rfl, ?_, HBs.out⟩
      rw [← rows_mk hL, ← fins_mk hL, ← ends_mk hL]
      exact FIN.out
end Go.Proofs.YtkhphiilnplgjaaGreatDoor

namespace Go.Proofs.YtkhphiilnplgjaaGreatDoor
open Go.RowKit Go.Lib

def IsPcs (w : World) (v : Value) (l : Pcs) : Prop := ∃ p cap, v = .slice p l.length cap ∧ ∀ j x, l[j]? = some x → ∃ b o, p = some ⟨b, o, none⟩ ∧ w.cell? ⟨b, o + j * 2, none⟩ = some (.bool x.1) ∧ w.cell? ⟨b, o + j * 2 + 1, none⟩ = some (.int .u8 x.2)
def IsRow (w : World) (v : Value) (ms : List (Int × Pcs)) : Prop := ∃ p cap, v = .slice p ms.length cap ∧ ∀ j m, ms[j]? = some m → ∃ b o u, p = some ⟨b, o, none⟩ ∧ w.cell? ⟨b, o + j * 2, none⟩ = some (.int .i64 m.1) ∧ w.cell? ⟨b, o + j * 2 + 1, none⟩ = some u ∧ IsPcs w u m.2
def IsRows (w : World) (v : Value) (rs : List (List (Int × Pcs))) : Prop := ∃ p cap, v = .slice p rs.length cap ∧ ∀ j r, rs[j]? = some r → ∃ b o u, p = some ⟨b, o, none⟩ ∧ w.cell? ⟨b, o + j, none⟩ = some u ∧ IsRow w u r
def IsEnds (w : World) (v : Value) (es : List (List Int)) : Prop := ∃ p cap, v = .slice p es.length cap ∧ ∀ j r, es[j]? = some r → ∃ b o u, p = some ⟨b, o, none⟩ ∧ w.cell? ⟨b, o + j, none⟩ = some u ∧ IsY w u r
structure IsT (w : World) (v : Value) (cls : List (BitVec 256)) (rows : List (List (Int × Pcs))) (fins : List Bool) (ends : List (List Int)) : Prop where
  is : ∃ vc vm vf ve, v = .agg #[vc, vm, vf, ve] ∧ IsC w vc cls ∧ IsRows w vm rows ∧ IsB w vf fins ∧ IsEnds w ve ends
theorem IsPcs.kept {w w' : World} {v : Value} {l : Pcs} (h : IsPcs w v l) (hk : ∀ a u, w.cell? a = some u → w'.cell? a = some u) : IsPcs w' v l := by
  obtain ⟨p, cap, rfl, h⟩ := h
  refine ⟨p, cap, rfl, fun j x hj => ?_⟩
  obtain ⟨b, o, e, h1, h2⟩ := h j x hj
  exact ⟨b, o, e, hk _ _ h1, hk _ _ h2⟩
theorem IsRow.kept {w w' : World} {v : Value} {ms : List (Int × Pcs)} (h : IsRow w v ms) (hk : ∀ a u, w.cell? a = some u → w'.cell? a = some u) : IsRow w' v ms := by
  obtain ⟨p, cap, rfl, h⟩ := h
  refine ⟨p, cap, rfl, fun j x hj => ?_⟩
  obtain ⟨b, o, u, e, h1, h2, h3⟩ := h j x hj
  exact ⟨b, o, u, e, hk _ _ h1, hk _ _ h2, h3.kept hk⟩
theorem IsRows.kept {w w' : World} {v : Value} {rs : List (List (Int × Pcs))} (h : IsRows w v rs) (hk : ∀ a u, w.cell? a = some u → w'.cell? a = some u) : IsRows w' v rs := by
  obtain ⟨p, cap, rfl, h⟩ := h
  refine ⟨p, cap, rfl, fun j x hj => ?_⟩
  obtain ⟨b, o, u, e, h1, h2⟩ := h j x hj
  exact ⟨b, o, u, e, hk _ _ h1, h2.kept hk⟩
theorem IsEnds.kept {w w' : World} {v : Value} {es : List (List Int)} (h : IsEnds w v es) (hk : ∀ a u, w.cell? a = some u → w'.cell? a = some u) : IsEnds w' v es := by
  obtain ⟨p, cap, rfl, h⟩ := h
  refine ⟨p, cap, rfl, fun j x hj => ?_⟩
  obtain ⟨b, o, u, e, h1, h2⟩ := h j x hj
  exact ⟨b, o, u, e, hk _ _ h1, h2.kept hk⟩
theorem kept_grows {w w' : World} (hb : Below w.heap.size w w') : ∀ a u, w.cell? a = some u → w'.cell? a = some u := fun _ _ hc => (hb.cell (lt_of_cell hc)).trans hc
theorem IsPcs.grows {w w' : World} {v : Value} {l : Pcs} (h : IsPcs w v l) (hb : Below w.heap.size w w') : IsPcs w' v l := h.kept (kept_grows hb)
theorem IsRow.grows {w w' : World} {v : Value} {ms : List (Int × Pcs)} (h : IsRow w v ms) (hb : Below w.heap.size w w') : IsRow w' v ms := h.kept (kept_grows hb)
theorem IsRows.grows {w w' : World} {v : Value} {rs : List (List (Int × Pcs))} (h : IsRows w v rs) (hb : Below w.heap.size w w') : IsRows w' v rs := h.kept (kept_grows hb)
theorem IsEnds.grows {w w' : World} {v : Value} {es : List (List Int)} (h : IsEnds w v es) (hb : Below w.heap.size w w') : IsEnds w' v es := h.kept (kept_grows hb)
theorem IsT.grows {w w' : World} {v : Value} {cls : List (BitVec 256)} {rows : List (List (Int × Pcs))} {fins : List Bool} {ends : List (List Int)} (h : IsT w v cls rows fins ends) (hb : Below w.heap.size w w') : IsT w' v cls rows fins ends := by
  obtain ⟨vc, vm, vf, ve, rfl, h1, h2, h3, h4⟩ := h.is
  exact ⟨_, _, _, _, rfl, h1.grows hb, h2.grows hb, h3.grows hb, h4.grows hb⟩
theorem own_cellA {w : World} {base n size k : Nat} {e : TypeId} {v u : Value} {xs : List Value} (h : w.ownsRow base e size v n xs) (hk : xs[k]? = some u) : ∃ g cap, v = .slice (some ⟨g, 0, none⟩) n cap ∧ w.cell? ⟨g, k, none⟩ = some u := by
  rcases h.2 with ⟨rfl, h0⟩ | ⟨g, cap, cur, rfl, _, hh, _, _, _, ht⟩
  · have := h.1
    rw [h0, Nat.zero_mul] at this
    rw [List.length_eq_zero_iff.1 this] at hk
    simp at hk
  · refine ⟨g, cap, rfl, ?_⟩
    rw [← ht, List.getElem?_take] at hk
    split at hk
    · simp only [World.cell?, hh]
      simpa using hk
    · cases hk
theorem own_sl {w : World} {base n size : Nat} {e : TypeId} {v : Value} {xs : List Value} (h : w.ownsRow base e size v n xs) : ∃ p cap, v = .slice p n cap := by
  rcases h.2 with ⟨rfl, h0⟩ | ⟨g, cap, cur, rfl, _⟩
  · exact ⟨none, 0, by rw [h0]⟩
  · exact ⟨_, _, rfl⟩
theorem PcAt.isPcs {base : Nat} {w : World} {v : Value} {l : Pcs} (h : PcAt base w v l) : IsPcs w v l := by
  obtain ⟨p, cap, rfl⟩ := own_sl h
  refine ⟨p, cap, rfl, fun j x hj => ?_⟩
  obtain ⟨g, c, e, h1⟩ := own_cellA h (pcs_at0 hj)
  obtain ⟨g', c', e', h2⟩ := own_cellA h (pcs_at1 hj)
  rw [e] at e'
  simp only [Value.slice.injEq, Option.some.injEq, Addr.mk.injEq, and_true, true_and] at e e'
  obtain ⟨rfl, rfl⟩ := e
  obtain ⟨rfl, -⟩ := e'
  exact ⟨g, 0, rfl, by rw [Nat.zero_add, Nat.mul_comm]; exact h1, by rw [Nat.zero_add, Nat.mul_comm]; exact h2⟩
def mvc (t : Int × Value × Pcs) : List Value := [.int .i64 t.1, t.2.1]
theorem mvc_at : ∀ {L : List (Int × Value × Pcs)} {j : Nat} {t : Int × Value × Pcs}, L[j]? = some t → (L.flatMap mvc)[j * 2]? = some (.int .i64 t.1) ∧ (L.flatMap mvc)[j * 2 + 1]? = some t.2.1
  | _ :: _, 0, _, h => by simp at h; subst h; exact ⟨rfl, rfl⟩
  | _ :: l, j + 1, t, h => by
    have := mvc_at (L := l) (j := j) (t := t) (by simpa using h)
    rw [show (j + 1) * 2 = j * 2 + 1 + 1 by omega]
    simpa [mvc] using this
theorem RowAt.isRow {base : Nat} {w : World} {v : Value} {ms : List (Int × Pcs)} (h : RowAt base w v ms) : IsRow w v ms := by
  obtain ⟨L, rfl, ho, hp⟩ := h
  obtain ⟨p, cap, rfl⟩ := own_sl ho
  refine ⟨p, cap, by rw [List.length_map], fun j m hj => ?_⟩
  rw [List.getElem?_map] at hj
  obtain ⟨t, ht, rfl⟩ := Option.map_eq_some_iff.1 hj
  obtain ⟨g, c, e, h1⟩ := own_cellA ho (mvc_at ht).1
  obtain ⟨g', c', e', h2⟩ := own_cellA ho (mvc_at ht).2
  rw [e] at e'
  simp only [Value.slice.injEq, Option.some.injEq, Addr.mk.injEq, and_true, true_and] at e e'
  obtain ⟨rfl, rfl⟩ := e
  obtain ⟨rfl, -⟩ := e'
  exact ⟨g, 0, t.2.1, rfl, by rw [Nat.zero_add]; exact h1, by rw [Nat.zero_add]; exact h2, (hp t (List.mem_of_getElem? ht)).isPcs⟩
theorem RowsAt.isRows {base : Nat} {w : World} {v : Value} {rs : List (List (Int × Pcs))} (h : RowsAt base w v rs) : IsRows w v rs := by
  obtain ⟨L, rfl, ho, hp⟩ := h
  obtain ⟨p, cap, rfl⟩ := own_sl ho
  refine ⟨p, cap, by rw [List.length_map], fun j m hj => ?_⟩
  rw [List.getElem?_map] at hj
  obtain ⟨t, ht, rfl⟩ := Option.map_eq_some_iff.1 hj
  obtain ⟨g, c, e, h1⟩ := own_cellA ho (k := j) (u := t.1) (by rw [List.getElem?_map, ht]; rfl)
  simp only [Value.slice.injEq, true_and] at e
  obtain ⟨rfl, rfl⟩ := e
  exact ⟨g, 0, t.1, rfl, by rw [Nat.zero_add]; exact h1, (hp t (List.mem_of_getElem? ht)).isRow⟩
theorem EndsAt.isEnds {base : Nat} {w : World} {v : Value} {es : List (List Int)} (h : EndsAt base w v es) : IsEnds w v es := by
  obtain ⟨L, rfl, ho, hp⟩ := h
  obtain ⟨p, cap, rfl⟩ := own_sl ho
  refine ⟨p, cap, by rw [List.length_map], fun j m hj => ?_⟩
  rw [List.getElem?_map] at hj
  obtain ⟨t, ht, rfl⟩ := Option.map_eq_some_iff.1 hj
  obtain ⟨g, c, e, h1⟩ := own_cellA ho (k := j) (u := t.1) (by rw [List.getElem?_map, ht]; rfl)
  simp only [Value.slice.injEq, true_and] at e
  obtain ⟨rfl, rfl⟩ := e
  exact ⟨g, 0, t.1, rfl, by rw [Nat.zero_add]; exact h1, own_isY (hp t (List.mem_of_getElem? ht)).2 (hp t (List.mem_of_getElem? ht)).1⟩
theorem TrAt.isT {base : Nat} {w : World} {v : Value} {cs : List (BitVec 256)} {rows : List (List (Int × Pcs))} {fins : List Bool} {ends : List (List Int)} (h : TrAt base w v cs rows fins ends) : IsT w v cs rows fins ends := by
  obtain ⟨vc, vm, vf, ve, rfl, ic, im, if_, ie⟩ := h.is
  exact ⟨_, _, _, _, rfl, own_isC ic, im.isRows, own_isB if_, ie.isEnds⟩
end Go.Proofs.YtkhphiilnplgjaaGreatDoor

namespace Go.Proofs.YtkhphiilnplgjaaGreatDoor
open Go.RowKit Go.Lib

def outB (x : Int) (p : Bool × Int) : Int := if p.1 = true then x else p.2
set_option maxRecDepth 100000 in
set_option maxHeartbeats 1000000 in
theorem twritten_any (t x : Int) (u : Value) (l : Pcs) (w : World) (hu : IsPcs w u l) (hl : l.length ≤ 4294967296) : Calls Tryz.prog 57 #[.agg #[.int .i64 t, u], .int .u8 x] w fun e w' =>
    ∃ r, e = .returned r ∧ w'.ownsRow w.heap.size 5 1 r l.length ((l.map (outB x)).map (Value.int .u8)) ∧ Below w.heap.size w w' := by
  obtain ⟨i0, hi, hz0, hz1, hz2⟩ := info_parts infoU8
  obtain ⟨p, cap, rfl, hcl⟩ := hu
  have D0 := Blk.new w #[.int .i64 t, .slice p l.length cap] 82
  have hbw : Below w.heap.size w (w.alloc (.cells #[.int .i64 t, .slice p l.length cap] 82)) := by go_grown
  have d1 := D0.cell 1 rfl
  have HC := Lib.hid hcl
  have hsz : (w.alloc (.cells #[.int .i64 t, .slice p l.length cap] 82)).heap.size = w.heap.size + 1 := by simp
  clear hcl
  go_enter Tryz.func57, Tryz.ntmps57
  go_wp2
  generalize (w.alloc (.cells #[.int .i64 t, .slice p l.length cap] 82)) = w1 at D0 hbw d1 hsz ⊢
  clear D0 d1
  go_loopw [5, 11] (fun rv iv wr => ∃ k : Nat, k ≤ l.length ∧ iv = .int .i64 (k : Int) ∧ wr.ownsRow (w.heap.size + 1) 5 1 rv k (((l.take k).map (outB x)).map (Value.int .u8)) ∧ Below w.heap.size w wr ∧ w.heap.size + 1 ≤ wr.heap.size) (fun _ iv _ => l.length - (RowKit.intOf iv).toNat)
  case atStart =>
    exact ⟨0, Nat.zero_le _, rfl, World.ownsRow_nil _ _ _ _, hbw, by omega⟩
  case round =>
    obtain ⟨k, hk, rfl, hown, hbr, hzr⟩ := hrel
    by_cases hlt : k < l.length
    · obtain ⟨q, hq⟩ : ∃ q, l[k]? = some q := ⟨_, List.getElem?_eq_getElem hlt⟩
      obtain ⟨b, o, rfl, k0, k1⟩ := HC.out k q hq
      have x0 := (hbr.cell (lt_of_cell k0)).trans k0
      have x1 := (hbr.cell (lt_of_cell k1)).trans k1
      have HS := Lib.hid (show ((l.take (k + 1)).map (outB x)).map (Value.int .u8) = ((l.take k).map (outB x)).map (Value.int .u8) ++ [.int .u8 (outB x q)] by rw [List.take_add_one, hq]; simp)
      generalize ((l.take k).map (outB x)).map (Value.int .u8) = m at hown HS
      obtain ⟨cp, y⟩ := q
      dsimp only at x0 x1
      clear k0 k1 hq
      cases cp with
      | true =>
        have HOw := Lib.hid (own_alloc (own_alloc hown (.cells #[.bool true, .int .u8 x] 95)) (.cells #[.int .u8 x] 5))
        go_wp2_with (at_builtin; refine wpList_append_own_at _ rfl _ _ 22 rfl (w.heap.size + 1) 5 i0 _ 1 1 Tryz.underlying22 hi hz0 hz1 hz2 rfl (by decide) _ _ _ rfl HOw.out ⟨wr.heap.size + 1, 0, none⟩ 1 1 [.int .u8 x] rfl rfl (cells_one _ _ _ _ (by simp)) (by simp [Value.oneCell']) (by unfold maxLen; omega) (by omega) (by simp; omega) ?_; intro v' w2 hown2 hgrow _ _)
        go_roundw
        case rel =>
          have hz := hgrow.size
          simp at hz
          exact ⟨k + 1, by omega, by go_num, by rw [HS.out]; exact hown2, (((hbr.alloc (by omega) _).alloc (by simp; omega) _).grown hgrow (by simp; omega) (fun k e => by have := own_ge HOw.out k e; omega)), by omega⟩
        case measure => simp [RowKit.intOf]; omega
      | false =>
        have HOw := Lib.hid (own_alloc (own_alloc hown (.cells #[.bool false, .int .u8 y] 95)) (.cells #[.int .u8 y] 5))
        go_wp2_with (at_builtin; refine wpList_append_own_at _ rfl _ _ 22 rfl (w.heap.size + 1) 5 i0 _ 1 1 Tryz.underlying22 hi hz0 hz1 hz2 rfl (by decide) _ _ _ rfl HOw.out ⟨wr.heap.size + 1, 0, none⟩ 1 1 [.int .u8 y] rfl rfl (cells_one _ _ _ _ (by simp)) (by simp [Value.oneCell']) (by unfold maxLen; omega) (by omega) (by simp; omega) ?_; intro v' w2 hown2 hgrow _ _)
        go_roundw
        case rel =>
          have hz := hgrow.size
          simp at hz
          exact ⟨k + 1, by omega, by go_num, by rw [HS.out]; exact hown2, (((hbr.alloc (by omega) _).alloc (by simp; omega) _).grown hgrow (by simp; omega) (fun k e => by have := own_ge HOw.out k e; omega)), by omega⟩
        case measure => simp [RowKit.intOf]; omega
    · obtain rfl : k = l.length := by omega
      rw [List.take_length] at hown
      go_wp2
      go_ret
      exact ⟨_, rfl, own_mono hown (by omega), hbr⟩
end Go.Proofs.YtkhphiilnplgjaaGreatDoor

namespace Go.Proofs.YtkhphiilnplgjaaGreatDoor
open Go.RowKit Go.Lib

def fixI (t : Int) : Int := if t = -1 then 0 else t
def MAt (base : Nat) (w : World) (v : Value) (rs : List (List Int)) : Prop :=
  ∃ L : List (Value × List Int), L.map (·.2) = rs ∧ w.ownsRow base 62 1 v L.length (L.map (·.1)) ∧ ∀ t ∈ L, w.ownsRow base 3 1 t.1 t.2.length (t.2.map (Value.int .i64))
theorem MAt.nil (base : Nat) (w : World) : MAt base w (.slice none 0 0) [] := ⟨[], rfl, World.ownsRow_nil _ _ _ _, fun _ h => by cases h⟩
theorem MAt.keep {S : TypeId → Prop} {base : Nat} {W W' : World} {v : Value} {rs : List (List Int)} (h : MAt base W v rs) (hk : KeptTy S W W') (h1 : S 3) (h2 : S 62) : MAt base W' v rs := by
  obtain ⟨L, hL, ho, hp⟩ := h
  exact ⟨L, hL, own_keep ho hk h2, fun t ht => own_keep (hp t ht) hk h1⟩
theorem own_isI {w : World} {base : Nat} {e : TypeId} {v : Value} {l : List Int} (h : w.ownsRow base e 1 v l.length (l.map (Value.int .i64))) : IsI w v l := by
  by_cases hl : l = []
  · subst hl
    obtain ⟨p, cap, rfl⟩ := own_sl h
    exact .inl ⟨rfl, p, cap, rfl⟩
  · obtain ⟨x, l', rfl⟩ := List.exists_cons_of_ne_nil hl
    obtain ⟨g, cap, rfl, _⟩ := own_cellA h (k := 0) rfl
    refine .inr ⟨g, 0, cap, rfl, fun j y hj => ?_⟩
    obtain ⟨g', cap', e', h1⟩ := own_cellA h (k := j) (u := .int .i64 y) (by rw [List.getElem?_map, hj]; rfl)
    simp only [Value.slice.injEq, Option.some.injEq, Addr.mk.injEq, and_true, true_and] at e'
    obtain ⟨rfl, rfl⟩ := e'
    rw [Nat.zero_add]; exact h1
theorem MAt.isM {base : Nat} {w : World} {v : Value} {rs : List (List Int)} (h : MAt base w v rs) : IsM w v rs := by
  obtain ⟨L, rfl, ho, hp⟩ := h
  by_cases hl : L = []
  · subst hl
    obtain ⟨p, cap, rfl⟩ := own_sl ho
    exact .inl ⟨rfl, p, cap, rfl⟩
  · obtain ⟨x, l', rfl⟩ := List.exists_cons_of_ne_nil hl
    obtain ⟨g, cap, rfl, _⟩ := own_cellA ho (k := 0) rfl
    refine .inr ⟨g, 0, cap, by rw [List.length_map], fun j r hj => ?_⟩
    rw [List.getElem?_map] at hj
    obtain ⟨t, ht, rfl⟩ := Option.map_eq_some_iff.1 hj
    obtain ⟨g', cap', e', h1⟩ := own_cellA ho (k := j) (u := t.1) (by rw [List.getElem?_map, ht]; rfl)
    simp only [Value.slice.injEq, Option.some.injEq, Addr.mk.injEq, and_true, true_and] at e'
    obtain ⟨rfl, rfl⟩ := e'
    have hm := hp t (List.mem_of_getElem? ht)
    obtain ⟨p, c, hs⟩ := own_sl hm
    refine ⟨p, c, ?_, ?_⟩
    · rw [Nat.zero_add, ← hs]; exact h1
    · rw [← hs]; exact own_isI hm
theorem infoRi : (Tryz.prog.info? 62).map (fun i => (i.zero, i.size, i.bytes)) = some (some (.slice none 0 0), 1, 24) := by kernel_rfl
theorem infoIn : (Tryz.prog.info? 3).map (fun i => (i.zero, i.size, i.bytes)) = some (some (.int .i64 0), 1, 8) := by kernel_rfl
theorem dfSize : (Tryz.prog.info? 51).map (·.size) = some 3 := by kernel_rfl
def nextI (rows : List (List (Int × Pcs))) : List (List Int) := rows.map fun r => r.map fun m => fixI m.1
set_option maxRecDepth 100000 in
set_option maxHeartbeats 4000000 in
theorem completed_any (v : Value) (cls : List (BitVec 256)) (rows : List (List (Int × Pcs))) (fins : List Bool) (ends : List (List Int)) (w : World) (hv : IsT w v cls rows fins ends) (hr : rows.length ≤ 1000000) (hrl : ∀ r ∈ rows, r.length ≤ 1000000) :
    Calls Tryz.prog 43 #[v] w fun e w' => ∃ u, e = .returned u ∧ IsD w' u cls (nextI rows) fins ∧ Below w.heap.size w w' := by
  obtain ⟨ii, hii, hi0, hi1, hi2⟩ := info_parts infoIn
  obtain ⟨ir, hir, hr0, hr1, hr2⟩ := info_parts infoRi
  obtain ⟨vc, vm, vf, ve, rfl, h1, h2, h3, h4⟩ := hv.is
  obtain ⟨pc, kc, rfl⟩ := h1.shape
  obtain ⟨pm, km, rfl, hm⟩ := h2
  obtain ⟨pf, kf, rfl⟩ := h3.shape
  obtain ⟨pe, ke, rfl, _⟩ := h4
  have B0 := (Blk.new w #[.slice pc cls.length kc, .slice pm rows.length km, .slice pf fins.length kf, .slice pe ends.length ke] 43).alloc (.cells #[.slice none 0 0, .slice none 0 0, .slice none 0 0] 51)
  have R0 := Blk.alloc1 w #[.slice pc cls.length kc, .slice pm rows.length km, .slice pf fins.length kf, .slice pe ends.length ke] #[.slice none 0 0, .slice none 0 0, .slice none 0 0] 43 51
  have T0 := Blk.alloc2 w (.cells #[.slice pc cls.length kc, .slice pm rows.length km, .slice pf fins.length kf, .slice pe ends.length ke] 43) (.cells #[.slice none 0 0, .slice none 0 0, .slice none 0 0] 51) #[.slice pc cls.length kc, .slice none 0 0, .slice pf fins.length kf] 51
  have q0 := B0.cell 0 rfl
  have q2 := B0.cell 2 rfl
  have q1 := (B0.alloc (.cells #[.slice pc cls.length kc, .slice none 0 0, .slice pf fins.length kf] 51)).cell 1 rfl
  have hbw : Below w.heap.size w (((w.alloc (.cells #[.slice pc cls.length kc, .slice pm rows.length km, .slice pf fins.length kf, .slice pe ends.length ke] 43)).alloc (.cells #[.slice none 0 0, .slice none 0 0, .slice none 0 0] 51)).alloc (.cells #[.slice pc cls.length kc, .slice none 0 0, .slice pf fins.length kf] 51)) := by go_grown
  have hsz : (((w.alloc (.cells #[.slice pc cls.length kc, .slice pm rows.length km, .slice pf fins.length kf, .slice pe ends.length ke] 43)).alloc (.cells #[.slice none 0 0, .slice none 0 0, .slice none 0 0] 51)).alloc (.cells #[.slice pc cls.length kc, .slice none 0 0, .slice pf fins.length kf] 51)).heap.size = w.heap.size + 3 := by simp
  have RR := R0.alloc (.cells #[.slice pc cls.length kc, .slice none 0 0, .slice pf fins.length kf] 51)
  have HM := Lib.hid hm
  have H1 := Lib.hid h1
  have H3 := Lib.hid h3
  have HRl := Lib.hid hrl
  clear hv h1 hm h3 hrl
  go_enter Tryz.func43, Tryz.ntmps43
  go_wp2_with fail
  generalize (((w.alloc (.cells #[.slice pc cls.length kc, .slice pm rows.length km, .slice pf fins.length kf, .slice pe ends.length ke] 43)).alloc (.cells #[.slice none 0 0, .slice none 0 0, .slice none 0 0] 51)).alloc (.cells #[.slice pc cls.length kc, .slice none 0 0, .slice pf fins.length kf] 51)) = w1 at T0 RR hbw hsz q1 ⊢
  clear B0 R0 q0 q2 q1
  go_loopw [17] (fun iv wr => ∃ (i : Nat) (vn : Value), iv = .int .i64 (i : Int) ∧ i ≤ rows.length ∧ Blk wr (w.heap.size + 2) #[.slice pc cls.length kc, vn, .slice pf fins.length kf] 51 ∧ Blk wr (w.heap.size + 1) #[.slice none 0 0, .slice none 0 0, .slice none 0 0] 51 ∧ MAt (w.heap.size + 3) wr vn (nextI (rows.take i)) ∧ Below w.heap.size w wr ∧ w.heap.size + 3 ≤ wr.heap.size) (fun iv _ => rows.length - (RowKit.intOf iv).toNat)
  case atStart =>
    exact ⟨0, _, rfl, Nat.zero_le _, T0, RR, MAt.nil _ _, hbw, by omega⟩
  case round =>
    obtain ⟨i, vn, rfl, hi, hT, hR, hN, hb, hz⟩ := hrel
    by_cases hlt : i < rows.length
    · obtain ⟨r, hr'⟩ : ∃ r, rows[i]? = some r := ⟨_, List.getElem?_eq_getElem hlt⟩
      obtain ⟨b, o, u, rfl, k0, ⟨pr, kr, rfl, hrc⟩⟩ := HM.out i r hr'
      have j0 := (hb.cell (lt_of_cell k0)).trans k0
      have hrlen := HRl.out r (List.mem_of_getElem? hr')
      have HT := Lib.hid hT
      have HR := Lib.hid hR
      have HN := Lib.hid hN
      have Hb := Lib.hid hb
      have Hr := Lib.hid hr'
      have Hrc := Lib.hid hrc
      clear hT hR hN hb hr' hrc k0
      go_wp2_with fail
      obtain ⟨wo, hwo⟩ : ∃ wo, wo = wr := ⟨_, rfl⟩
      subst hwo
      generalize hsb : wo.heap.size = sb at hz
      go_loopw [6, 23] (fun rv jv wq => ∃ j : Nat, jv = .int .i64 (j : Int) ∧ j ≤ r.length ∧ wq.ownsRow sb 3 1 rv j ((r.take j).map fun m => .int .i64 (fixI m.1)) ∧ Below sb wo wq ∧ sb ≤ wq.heap.size) (fun _ jv _ => r.length - (RowKit.intOf jv).toNat)
      case atStart =>
        exact ⟨0, rfl, Nat.zero_le _, World.ownsRow_nil _ _ _ _, Below.refl _ _, by omega⟩
      case round =>
        obtain ⟨j, rfl, hj, hrow, hbs, hsq⟩ := hrel
        by_cases hjl : j < r.length
        · obtain ⟨m, hm⟩ : ∃ m, r[j]? = some m := ⟨_, List.getElem?_eq_getElem hjl⟩
          obtain ⟨b2, o2, u2, rfl, k0, k1, ⟨pp, pk, rfl, _⟩⟩ := Hrc.out j m hm
          have hbq := Hb.out.trans (hbs.mono (by omega))
          have x0 := (hbq.cell (lt_of_cell k0)).trans k0
          have x1 := (hbq.cell (lt_of_cell k1)).trans k1
          obtain ⟨t, pl⟩ := m
          dsimp only at x0 x1
          by_cases ht : t = -1
          · subst ht
            have HS := Lib.hid (show (r.take (j + 1)).map (fun m => Value.int .i64 (fixI m.1)) = (r.take j).map (fun m => Value.int .i64 (fixI m.1)) ++ [.int .i64 0] by rw [List.take_add_one, hm]; simp [fixI])
            clear k0 k1 hm hbq
            have HOw := Lib.hid (own_alloc (own_alloc hrow (.cells #[.int .i64 0, .slice pp pl.length pk] 82)) (.cells #[.int .i64 0] 3))
            have HBo := Lib.hid ((hbs.alloc hsq (.cells #[.int .i64 0, .slice pp pl.length pk] 82)).alloc (by simp; omega) (.cells #[.int .i64 0] 3))
            go_wp2_with (at_builtin; refine wpList_append_own_at _ rfl _ _ 62 rfl sb 3 ii _ 1 8 Tryz.underlying62 hii hi0 hi1 hi2 rfl (by decide) _ _ _ rfl HOw.out ⟨wr.heap.size + 1, 0, none⟩ 1 1 [.int .i64 0] rfl rfl (cells_one _ _ _ _ (by simp)) (by simp [Value.oneCell']) (by unfold maxLen; omega) (by omega) (by simp; omega) ?_; intro v' w2 hown2 hgrow _ _)
            go_roundw
            case rel =>
              have hz9 := hgrow.size
              simp at hz9
              exact ⟨j + 1, by go_num, by omega, by rw [HS.out]; exact hown2, HBo.out.grown hgrow (by simp; omega) (own_ge HOw.out), by omega⟩
            case measure => simp [RowKit.intOf]; omega
          · have hd1 : decide (t = -1) = false := decide_eq_false ht
            have hd2 : (t == -1) = false := by simpa using ht
            have HS := Lib.hid (show (r.take (j + 1)).map (fun m => Value.int .i64 (fixI m.1)) = (r.take j).map (fun m => Value.int .i64 (fixI m.1)) ++ [.int .i64 t] by rw [List.take_add_one, hm]; simp [fixI, ht])
            clear k0 k1 hm hbq
            have HOw := Lib.hid (own_alloc (own_alloc hrow (.cells #[.int .i64 t, .slice pp pl.length pk] 82)) (.cells #[.int .i64 t] 3))
            have HBo := Lib.hid ((hbs.alloc hsq (.cells #[.int .i64 t, .slice pp pl.length pk] 82)).alloc (by simp; omega) (.cells #[.int .i64 t] 3))
            go_wp2_with (at_builtin; refine wpList_append_own_at _ rfl _ _ 62 rfl sb 3 ii _ 1 8 Tryz.underlying62 hii hi0 hi1 hi2 rfl (by decide) _ _ _ rfl HOw.out ⟨wr.heap.size + 1, 0, none⟩ 1 1 [.int .i64 t] rfl rfl (cells_one _ _ _ _ (by simp)) (by simp [Value.oneCell']) (by unfold maxLen; omega) (by omega) (by simp; omega) ?_; intro v' w2 hown2 hgrow _ _)
            go_roundw
            case rel =>
              have hz9 := hgrow.size
              simp at hz9
              exact ⟨j + 1, by go_num, by omega, by rw [HS.out]; exact hown2, HBo.out.grown hgrow (by simp; omega) (own_ge HOw.out), by omega⟩
            case measure => simp [RowKit.intOf]; omega
        · obtain rfl : j = r.length := by omega
          rw [List.take_length] at hrow
          have hbq := Hb.out.trans (hbs.mono (by omega))
          have K1 : KeptTy (fun _ => True) wo wr := KeptTy.below (hsb ▸ hbs)
          have hT := (⟨K1 _ _ _ trivial HT.out.is⟩ : Blk wr (w.heap.size + 2) _ _)
          have hR := (⟨K1 _ _ _ trivial HR.out.is⟩ : Blk wr (w.heap.size + 1) _ _)
          obtain ⟨L, hL, hoL, hpL⟩ := HN.out.keep K1 trivial trivial
          have hLi : L.length = i := by
            have := congrArg List.length hL
            simp [nextI] at this
            omega
          rw [hLi] at hoL
          obtain ⟨pn, cn, rfl⟩ := own_shape hoL
          obtain ⟨p6, c6, rfl⟩ := own_shape hrow
          have b1 := hT.cell 1 rfl
          have hne : ¬ w.heap.size + 2 = wr.heap.size := by omega
          have HOw := Lib.hid (own_alloc hoL (.cells #[.slice p6 r.length c6] 62))
          go_wp2_with (at_builtin; refine wpList_append_own_at _ rfl _ _ 49 rfl (w.heap.size + 3) 62 ir _ 1 24 Tryz.underlying49 hir hr0 hr1 hr2 rfl (by decide) _ _ _ rfl HOw.out ⟨wr.heap.size, 0, none⟩ 1 1 [.slice p6 r.length c6] rfl rfl (cells_one _ _ _ _ rfl) (by simp [Value.oneCell']) (by unfold maxLen; omega) (by omega) (by simp; omega) ?_; intro v5 w5 ho5 hg5 _ _; obtain ⟨p5, c5, rfl⟩ := own_shape ho5; have K5 : KeptTy (fun t => t ≠ 62) wr w5 := (KeptTy.below ((Below.refl _ _).alloc (Nat.le_refl _) _)).trans (KeptTy.grown hg5 HOw.out (fun h => h rfl)); have T5 := (⟨K5 _ _ _ (by decide) hT.is⟩ : Blk w5 (w.heap.size + 2) _ _); have g5 := T5.cell 1 rfl; have f5 := T5.free 1; have H5 := Lib.hid (And.intro ho5 (And.intro hg5 K5)); have HT5 := Lib.hid T5; clear ho5 hg5 K5 T5)
          obtain ⟨ho5, hg5, K5⟩ := H5.out
          have R5 := (⟨K5 _ _ _ (by decide) hR.is⟩ : Blk w5 (w.heap.size + 1) _ _)
          have hz5 := hg5.size
          simp at hz5
          have hb5 : Below w.heap.size w w5 := (hbq.alloc (by omega) _).grown hg5 (by simp; omega) (fun k e => by have := own_ge HOw.out k e; omega)
          have KS : KeptTy (fun t => t ≠ 51) w5 (w5.setCell ⟨w.heap.size + 2, 1, none⟩ (.slice p5 (i + 1) c5)) := KeptTy.set (p := ⟨w.heap.size + 2, 1, none⟩) HT5.out (fun h => h rfl) _
          have N6 : MAt (w.heap.size + 3) (w5.setCell ⟨w.heap.size + 2, 1, none⟩ (.slice p5 (i + 1) c5)) (.slice p5 (i + 1) c5) (nextI (rows.take (i + 1))) := by
            refine ⟨L ++ [(.slice p6 r.length c6, r.map fun m => fixI m.1)], ?_, own_cast (own_keep ho5 KS (by decide)) (by rw [List.length_append, hLi]; rfl) (by rw [List.map_append]; rfl), ?_⟩
            · unfold nextI at hL ⊢
              rw [List.map_append, hL, List.take_add_one, Hr.out]; simp
            · intro t ht
              rw [List.mem_append, List.mem_singleton] at ht
              rcases ht with ht | rfl
              · exact own_keep (own_keep (hpL t ht) K5 (by decide)) KS (by decide)
              · have := own_keep (own_keep (own_mono hrow (base' := w.heap.size + 3) (by omega)) K5 (by decide)) KS (by decide)
                exact own_cast this (by simp) (by simp)
          go_roundw
          case rel => exact ⟨i + 1, _, by go_num, by omega, (HT5.out.set 1 _).cast (by simp), R5.other (by show w.heap.size + 1 ≠ w.heap.size + 2; omega) _, N6, hb5.setCell (p := ⟨w.heap.size + 2, 1, none⟩) (by show w.heap.size ≤ w.heap.size + 2; omega) _, by simp; omega⟩
          case measure => simp [RowKit.intOf]; omega
    · obtain rfl : i = rows.length := by omega
      rw [List.take_length] at hN
      obtain ⟨L, hL, hoL, hpL⟩ := hN
      obtain ⟨pn, cn, rfl⟩ := own_shape hoL
      have a0 := hT.cell 0 rfl
      have a1 := hT.cell 1 rfl
      have a2 := hT.cell 2 rfl
      have d0 := hR.cell 0 rfl
      have d1 := hR.cell 1 rfl
      have d2 := hR.cell 2 rfl
      have e0 := hR.free 0
      have e1 := hR.free 1
      have e2 := hR.free 2
      have hbF : Below w.heap.size w (((wr.setCell ⟨w.heap.size + 1, 0, none⟩ (.slice pc cls.length kc)).setCell ⟨w.heap.size + 1, 1, none⟩ (.slice pn L.length cn)).setCell ⟨w.heap.size + 1, 2, none⟩ (.slice pf fins.length kf)) := ((hb.setCell (p := ⟨w.heap.size + 1, 0, none⟩) (by show w.heap.size ≤ w.heap.size + 1; omega) _).setCell (p := ⟨w.heap.size + 1, 1, none⟩) (by show w.heap.size ≤ w.heap.size + 1; omega) _).setCell (p := ⟨w.heap.size + 1, 2, none⟩) (by show w.heap.size ≤ w.heap.size + 1; omega) _
      have KS : KeptTy (fun t => t ≠ 51) wr (((wr.setCell ⟨w.heap.size + 1, 0, none⟩ (.slice pc cls.length kc)).setCell ⟨w.heap.size + 1, 1, none⟩ (.slice pn L.length cn)).setCell ⟨w.heap.size + 1, 2, none⟩ (.slice pf fins.length kf)) :=
        (KeptTy.set (p := ⟨w.heap.size + 1, 0, none⟩) hR (fun h => h rfl) _).trans ((KeptTy.set (p := ⟨w.heap.size + 1, 1, none⟩) (hR.set 0 _) (fun h => h rfl) _).trans (KeptTy.set (p := ⟨w.heap.size + 1, 2, none⟩) ((hR.set 0 _).set 1 _) (fun h => h rfl) _))
      have hDs := ((hR.set 0 (.slice pc cls.length kc)).set 1 (.slice pn L.length cn)).set 2 (.slice pf fins.length kf)
      have FIN := Lib.hid (show IsD (((wr.setCell ⟨w.heap.size + 1, 0, none⟩ (.slice pc cls.length kc)).setCell ⟨w.heap.size + 1, 1, none⟩ (.slice pn L.length cn)).setCell ⟨w.heap.size + 1, 2, none⟩ (.slice pf fins.length kf)) (.agg #[.slice pc cls.length kc, .slice pn L.length cn, .slice pf fins.length kf]) cls (nextI rows) fins from ⟨_, _, _, rfl, H1.out.grows hbF, (MAt.keep ⟨L, hL, hoL, hpL⟩ KS (by decide) (by decide)).isM, H3.out.grows hbF⟩)
      have HF := Lib.hid (And.intro hDs hbF)
      clear KS hDs hbF hT hR hoL hpL hb
      go_wp2
      exact bodyPost_ret (results_cell_row rfl _ _ (w.heap.size + 1) 51 _ (0, 0) _ rfl HF.out.1.is Tryz.underlying51 rfl dfSize) rfl ⟨_, rfl, FIN.out, HF.out.2⟩
end Go.Proofs.YtkhphiilnplgjaaGreatDoor

namespace Go.Proofs.YtkhphiilnplgjaaGreatDoor
open Go.RowKit Go.Lib

def pcOk (p : Bool × Int) : Prop := ¬ (p.1 = true ∧ p.2 ≠ 0)
structure MvOk (m : Int × Pcs) : Prop where
  len : m.2.length ≤ 8
  none : m.1 = -1 → m.2.length = 0
  pc : ∀ p ∈ m.2, pcOk p
set_option maxHeartbeats 1000000 in
theorem tidy1_any (c : Bool) (b : Int) (w : World) (h : pcOk (c, b)) : Calls Tryz.prog 56 #[.agg #[.bool c, .int .u8 b]] w fun e w' => e = .returned (.bool false) ∧ Below w.heap.size w w' := by
  cases c with
  | false =>
    go_enter Tryz.func56, Tryz.ntmps56
    go_wp2
    go_ret
    exact ⟨rfl, by go_grown⟩
  | true =>
    have hb : b = 0 := Decidable.not_not.1 fun hne => h ⟨rfl, hne⟩
    subst hb
    go_enter Tryz.func56, Tryz.ntmps56
    go_wp2
    go_ret
    exact ⟨rfl, by go_grown⟩
set_option maxRecDepth 100000 in
set_option maxHeartbeats 1000000 in
theorem idxP_any (v : Value) (l : Pcs) (w : World) (hv : IsPcs w v l) (hl : l.length ≤ 1000) (hok : ∀ p ∈ l, pcOk p) : Calls Tryz.prog 77 #[v, .func (.func 56) #[] #[]] w fun e w' => e = .returned (.int .i64 (-1)) ∧ Below w.heap.size w w' := by
  obtain ⟨p, cap, rfl, hc⟩ := hv
  have HC := Lib.hid hc
  have HO := Lib.hid hok
  have hen := enters_of Tryz.func56 (by kernel_rfl) rfl
  clear hc hok
  go_enter Tryz.func77, Tryz.ntmps77
  go_wp2
  go_loopw [8] (fun iv wr => ∃ k : Nat, k ≤ l.length ∧ iv = .int .i64 (k : Int) ∧ Below w.heap.size w wr) (fun iv _ => l.length - (RowKit.intOf iv).toNat)
  case atStart => exact ⟨0, Nat.zero_le _, rfl, Below.refl _ _⟩
  case round =>
    obtain ⟨k, hk, rfl, hb⟩ := hrel
    by_cases hlt : k < l.length
    · obtain ⟨q, hq⟩ : ∃ q, l[k]? = some q := ⟨_, List.getElem?_eq_getElem hlt⟩
      obtain ⟨b, o, rfl, k0, k1⟩ := HC.out k q hq
      have x0 := (hb.cell (lt_of_cell k0)).trans k0
      have x1 := (hb.cell (lt_of_cell k1)).trans k1
      have hqo := HO.out q (List.mem_of_getElem? hq)
      obtain ⟨c, y⟩ := q
      dsimp only at x0 x1
      clear k0 k1 hq
      go_wp2_with (first | (go_at_call 56; refine (tidy1_any c y wr hqo).mono ?_; rintro e w2 ⟨rfl, hb2⟩) | fail)
      go_roundw
      case rel => exact ⟨k + 1, by omega, by go_num, hb.trans (hb2.mono hb.size)⟩
      case measure => simp [RowKit.intOf]; omega
    · obtain rfl : k = l.length := by omega
      go_wp2
      go_ret
      exact ⟨rfl, hb⟩
set_option maxHeartbeats 1000000 in
theorem contP_any (v : Value) (l : Pcs) (w : World) (hv : IsPcs w v l) (hl : l.length ≤ 1000) (hok : ∀ p ∈ l, pcOk p) : Calls Tryz.prog 55 #[v, .func (.func 56) #[] #[]] w fun e w' => e = .returned (.bool false) ∧ Below w.heap.size w w' := by
  have H := Lib.hid (idxP_any v l w hv hl hok)
  obtain ⟨p, cap, rfl, _⟩ := hv
  go_enter Tryz.func55, Tryz.ntmps55
  go_wp2_with (first | (go_at_call 77; refine H.out.mono ?_; rintro e w2 ⟨rfl, hb2⟩) | fail)
  go_ret
  exact ⟨rfl, hb2⟩
set_option maxHeartbeats 1000000 in
theorem tidy_any (u : Value) (m : Int × Pcs) (w : World) (hu : IsPcs w u m.2) (hok : MvOk m) : Calls Tryz.prog 46 #[.agg #[.int .i64 m.1, u]] w fun e w' => e = .returned (.bool true) ∧ Below w.heap.size w w' := by
  obtain ⟨p, cap, rfl, hc⟩ := hu
  have hb0 : Below w.heap.size w (w.alloc (.cells #[.int .i64 m.1, .slice p m.2.length cap] 82)) := by go_grown
  have H := Lib.hid (contP_any (.slice p m.2.length cap) m.2 (w.alloc (.cells #[.int .i64 m.1, .slice p m.2.length cap] 82)) (IsPcs.grows ⟨p, cap, rfl, hc⟩ hb0) (by have := hok.len; omega) hok.pc)
  have h8 := hok.len
  have hn := hok.none
  clear hc hok
  obtain ⟨t, l⟩ := m
  dsimp only at *
  generalize hl : l.length = n at h8 hn H hb0 ⊢
  clear hl
  have hd8 : decide ((n : Int) > 8) = false := by rw [decide_eq_false_iff_not]; omega
  by_cases ht : t = -1
  · subst ht
    obtain rfl : n = 0 := hn rfl
    go_enter Tryz.func46, Tryz.ntmps46
    go_wp2_with (first | (go_at_call 55; refine H.out.mono ?_; rintro e w2 ⟨rfl, hb2⟩) | fail)
    go_ret
    exact ⟨rfl, hb0.trans (hb2.mono (by simp))⟩
  · have hd2 : (t == -1) = false := by simpa using ht
    have hd3 : decide (t = -1) = false := decide_eq_false ht
    go_enter Tryz.func46, Tryz.ntmps46
    go_wp2_with (first | (go_at_call 55; refine H.out.mono ?_; rintro e w2 ⟨rfl, hb2⟩) | fail)
    go_ret
    exact ⟨rfl, hb0.trans (hb2.mono (by simp))⟩
set_option maxHeartbeats 1000000 in
theorem valid1_any (u : Value) (m : Int × Pcs) (w : World) (hu : IsPcs w u m.2) (hok : MvOk m) : Calls Tryz.prog 45 #[.agg #[.int .i64 m.1, u]] w fun e w' => e = .returned (.bool false) ∧ Below w.heap.size w w' := by
  obtain ⟨p, cap, rfl, hc⟩ := hu
  have hb0 : Below w.heap.size w (w.alloc (.cells #[.int .i64 m.1, .slice p m.2.length cap] 82)) := by go_grown
  have H := Lib.hid (tidy_any (.slice p m.2.length cap) m (w.alloc (.cells #[.int .i64 m.1, .slice p m.2.length cap] 82)) (IsPcs.grows ⟨p, cap, rfl, hc⟩ hb0) hok)
  clear hc hok
  go_enter Tryz.func45, Tryz.ntmps45
  go_wp2_with (first | (go_at_call 46; refine H.out.mono ?_; rintro e w2 ⟨rfl, hb2⟩) | fail)
  go_ret
  exact ⟨rfl, hb0.trans (hb2.mono (by simp))⟩
set_option maxRecDepth 100000 in
set_option maxHeartbeats 1000000 in
theorem idxM_any (v : Value) (l : List (Int × Pcs)) (w : World) (hv : IsRow w v l) (hl : l.length ≤ 1000000) (hok : ∀ p ∈ l, MvOk p) : Calls Tryz.prog 54 #[v, .func (.func 45) #[] #[]] w fun e w' => e = .returned (.int .i64 (-1)) ∧ Below w.heap.size w w' := by
  obtain ⟨p, cap, rfl, hc⟩ := hv
  have HC := Lib.hid hc
  have HO := Lib.hid hok
  have hen := enters_of Tryz.func45 (by kernel_rfl) rfl
  clear hc hok
  go_enter Tryz.func54, Tryz.ntmps54
  go_wp2
  go_loopw [8] (fun iv wr => ∃ k : Nat, k ≤ l.length ∧ iv = .int .i64 (k : Int) ∧ Below w.heap.size w wr) (fun iv _ => l.length - (RowKit.intOf iv).toNat)
  case atStart => exact ⟨0, Nat.zero_le _, rfl, Below.refl _ _⟩
  case round =>
    obtain ⟨k, hk, rfl, hb⟩ := hrel
    by_cases hlt : k < l.length
    · obtain ⟨q, hq⟩ : ∃ q, l[k]? = some q := ⟨_, List.getElem?_eq_getElem hlt⟩
      obtain ⟨b, o, u, rfl, k0, k1, k2⟩ := HC.out k q hq
      have x0 := (hb.cell (lt_of_cell k0)).trans k0
      have x1 := (hb.cell (lt_of_cell k1)).trans k1
      have H := Lib.hid (valid1_any u q wr (k2.grows hb) (HO.out q (List.mem_of_getElem? hq)))
      obtain ⟨pp, pk, rfl, _⟩ := k2
      obtain ⟨c, y⟩ := q
      dsimp only at x0 x1 H
      clear k0 k1 hq
      go_wp2_with (first | (go_at_call 45; refine H.out.mono ?_; rintro e w2 ⟨rfl, hb2⟩) | fail)
      go_roundw
      case rel => exact ⟨k + 1, by omega, by go_num, hb.trans (hb2.mono hb.size)⟩
      case measure => simp [RowKit.intOf]; omega
    · obtain rfl : k = l.length := by omega
      go_wp2
      go_ret
      exact ⟨rfl, hb⟩
set_option maxHeartbeats 1000000 in
theorem contM_any (v : Value) (l : List (Int × Pcs)) (w : World) (hv : IsRow w v l) (hl : l.length ≤ 1000000) (hok : ∀ p ∈ l, MvOk p) : Calls Tryz.prog 44 #[v, .func (.func 45) #[] #[]] w fun e w' => e = .returned (.bool false) ∧ Below w.heap.size w w' := by
  have H := Lib.hid (idxM_any v l w hv hl hok)
  obtain ⟨p, cap, rfl, _⟩ := hv
  go_enter Tryz.func44, Tryz.ntmps44
  go_wp2_with (first | (go_at_call 54; refine H.out.mono ?_; rintro e w2 ⟨rfl, hb2⟩) | fail)
  go_ret
  exact ⟨rfl, hb2⟩
end Go.Proofs.YtkhphiilnplgjaaGreatDoor

namespace Go.Proofs.YtkhphiilnplgjaaGreatDoor
open Go.RowKit Go.Lib

/-- a valid transducer. -/
structure OkT (cls : List (BitVec 256)) (rows : List (List (Int × Pcs))) (fins : List Bool) (ends : List (List Int)) : Prop where
  dfa : validD cls (nextI rows) fins = true
  el : ends.length = fins.length
  rl : rows.length = fins.length
  end_ : ∀ (j : Nat) (e : List Int), ends[j]? = some e → e.length ≤ 8 ∧ (0 < e.length → fins[j]? = some true)
  mv : ∀ r ∈ rows, ∀ m ∈ r, MvOk m
  cl : cls.length ≤ 1000
  rs : rows.length ≤ 1000000
  rr : ∀ r ∈ rows, r.length ≤ 1000000
theorem nextI_row {rows : List (List (Int × Pcs))} (h : ∀ r ∈ rows, r.length ≤ 1000000) : ∀ r ∈ nextI rows, r.length ≤ 1152921504606846976 := by
  intro r hr
  obtain ⟨r0, h0, rfl⟩ := List.mem_map.1 hr
  rw [List.length_map]
  have := h r0 h0
  omega
set_option maxRecDepth 100000 in
set_option maxHeartbeats 4000000 in
theorem tvalid_yes (v : Value) (cls : List (BitVec 256)) (rows : List (List (Int × Pcs))) (fins : List Bool) (ends : List (List Int)) (w : World) (hv : IsT w v cls rows fins ends) (ho : OkT cls rows fins ends) :
    Calls Tryz.prog 23 #[v] w fun e w' => e = .returned (.bool true) ∧ Below w.heap.size w w' := by
  obtain ⟨vc, vm, vf, ve, rfl, h1, h2, h3, h4⟩ := hv.is
  obtain ⟨pc, kc, rfl⟩ := h1.shape
  obtain ⟨pm, km, rfl, hm⟩ := h2
  obtain ⟨pf, kf, rfl⟩ := h3.shape
  obtain ⟨pe, ke, rfl, he⟩ := h4
  have B0 := Blk.new w #[.slice pc cls.length kc, .slice pm rows.length km, .slice pf fins.length kf, .slice pe ends.length ke] 43
  have hbw : Below w.heap.size w (w.alloc (.cells #[.slice pc cls.length kc, .slice pm rows.length km, .slice pf fins.length kf, .slice pe ends.length ke] 43)) := by go_grown
  have hsz : (w.alloc (.cells #[.slice pc cls.length kc, .slice pm rows.length km, .slice pf fins.length kf, .slice pe ends.length ke] 43)).heap.size = w.heap.size + 1 := by simp
  have HC := Lib.hid (completed_any _ cls rows fins ends _ (hv.grows hbw) ho.rs ho.rr)
  have HM := Lib.hid hm
  have H3 := Lib.hid h3
  have HE := Lib.hid he
  have HO := Lib.hid ho
  have hrs := ho.rs
  clear hv h1 hm h3 he ho
  go_enter Tryz.func23, Tryz.ntmps23
  go_wp2_with fail
  generalize (w.alloc (.cells #[.slice pc cls.length kc, .slice pm rows.length km, .slice pf fins.length kf, .slice pe ends.length ke] 43)) = w1 at B0 hbw hsz HC ⊢
  refine HC.out.mono ?_
  rintro e w2 ⟨u2, rfl, hD, hb2⟩
  have hV := dfa_valid_any u2 cls (nextI rows) fins w2 hD (by have := HO.out.cl; omega) (by unfold nextI; rw [List.length_map]; omega) (by have := HO.out.rl; omega) (nextI_row HO.out.rr)
  rw [HO.out.dfa] at hV
  have HV := Lib.hid hV
  have B2 := B0.grows hb2
  have hbw2 := hbw.trans (hb2.mono (by omega))
  have hz2 := hb2.size
  clear hD hb2 hV HC B0 hbw
  go_wp2_with fail
  refine HV.out.mono ?_
  rintro e w3 ⟨rfl, hb3⟩
  have B3 := B2.grows hb3
  have hbw3 := hbw2.trans (hb3.mono (by omega))
  have hz3 := hb3.size
  have b1 := B3.cell 1 rfl
  have b2 := B3.cell 2 rfl
  have b3 := B3.cell 3 rfl
  have hnd : (((ends.length : Nat) : Int) != ((fins.length : Nat) : Int)) = false := by rw [HO.out.el]; simp
  clear hb3 B2 hbw2 HV
  go_wp2_with fail
  clear b1 b2 b3
  go_loopw [21] (fun iv wr => ∃ i : Nat, iv = .int .i64 (i : Int) ∧ i ≤ ends.length ∧ Below w3.heap.size w3 wr) (fun iv _ => ends.length - (RowKit.intOf iv).toNat)
  case atStart => exact ⟨0, rfl, Nat.zero_le _, Below.refl _ _⟩
  case round =>
    obtain ⟨i, rfl, hi, hb⟩ := hrel
    by_cases hlt : i < ends.length
    · obtain ⟨en, hen⟩ : ∃ en, ends[i]? = some en := ⟨_, List.getElem?_eq_getElem hlt⟩
      obtain ⟨b, o, u, rfl, k0, hy⟩ := HE.out i en hen
      obtain ⟨pv, kv, rfl, _⟩ := hy.shape
      obtain ⟨r, hr⟩ : ∃ r, rows[i]? = some r := ⟨_, List.getElem?_eq_getElem (by have := HO.out.el; have := HO.out.rl; omega)⟩
      obtain ⟨b2, o2, u2', rfl, m0, hrow⟩ := HM.out i r hr
      have hb0 := hbw3.trans (hb.mono (by omega))
      have x0 := (hb0.cell (lt_of_cell k0)).trans k0
      have y0 := (hb0.cell (lt_of_cell m0)).trans m0
      have B4 := B3.grows hb
      have c1 := B4.cell 1 rfl
      have c2 := B4.cell 2 rfl
      obtain ⟨h8, hf⟩ := HO.out.end_ i en hen
      have HCo := Lib.hid (contM_any u2' r wr (hrow.grows hb0) (HO.out.rr r (List.mem_of_getElem? hr)) (HO.out.mv r (List.mem_of_getElem? hr)))
      obtain ⟨pr, kr, rfl, _⟩ := hrow
      obtain ⟨bf, of', rfl, z0⟩ := (H3.out.grows hb0).at (k := i) (by have := HO.out.el; omega)
      have hd8 : decide ((en.length : Int) > 8) = false := by rw [decide_eq_false_iff_not]; omega
      have hir : i < rows.length := by have := HO.out.el; have := HO.out.rl; omega
      have hif : i < fins.length := by have := HO.out.el; omega
      clear k0 m0 hy hen hr
      generalize hel2 : en.length = el at h8 hf hd8 x0 ⊢
      by_cases h00 : el = 0
      · subst h00
        go_wp2_with (first | (go_at_call 44; refine HCo.out.mono ?_; rintro e w5 ⟨rfl, hb5⟩) | fail)
        go_roundw
        case rel => exact ⟨i + 1, by go_num, by omega, hb.trans (hb5.mono hb.size)⟩
        case measure => simp [RowKit.intOf]; omega
      · have hft : fins.getD i false = true := by rw [List.getD_eq_getElem?_getD, hf (by omega)]; rfl
        rw [hft] at z0
        have hd0 : decide ((el : Int) > 0) = true := by rw [decide_eq_true_iff]; omega
        go_wp2_with (first | (go_at_call 44; refine HCo.out.mono ?_; rintro e w5 ⟨rfl, hb5⟩) | fail)
        go_roundw
        case rel => exact ⟨i + 1, by go_num, by omega, hb.trans (hb5.mono hb.size)⟩
        case measure => simp [RowKit.intOf]; omega
    · obtain rfl : i = ends.length := by omega
      go_wp2
      go_ret
      exact ⟨rfl, hbw3.trans (hb.mono (by omega))⟩
end Go.Proofs.YtkhphiilnplgjaaGreatDoor

namespace Go.Proofs.YtkhphiilnplgjaaGreatDoor
open Go.RowKit Go.Lib

def mvT (rows : List (List (Int × Pcs))) (p c : Nat) : Int × Pcs := (rows.getD p []).getD c (-1, [])
def outS (cls : List (BitVec 256)) (rows : List (List (Int × Pcs))) (fins : List Bool) (ends : List (List Int)) : Nat → List Int → Option (List Int)
  | p, [] => if fins.getD p false = true then some (ends.getD p []) else none
  | p, x :: b => if (mvT rows p (ix cls x.toNat).toNat).1 < 0 then none else (outS cls rows fins ends (mvT rows p (ix cls x.toNat).toNat).1.toNat b).map ((mvT rows p (ix cls x.toNat).toNat).2.map (outB x) ++ ·)
structure RunT (cls : List (BitVec 256)) (rows : List (List (Int × Pcs))) : Prop where
  ix_ : ∀ b, b < 256 → 0 ≤ ix cls b ∧ ix cls b < (cls.length : Int)
  row : ∀ r ∈ rows, r.length = cls.length
  to_ : ∀ r ∈ rows, ∀ m ∈ r, m.1 < (rows.length : Int)
  by_ : ∀ r ∈ rows, ∀ m ∈ r, ∀ q ∈ m.2, 0 ≤ q.2 ∧ q.2 < 256
theorem out_byt {x : Int} {l : Pcs} (hx : 0 ≤ x ∧ x < 256) (h : ∀ q ∈ l, 0 ≤ q.2 ∧ q.2 < 256) : Byt (l.map (outB x)) := by
  intro z hz
  obtain ⟨q, hq, rfl⟩ := List.mem_map.1 hz
  unfold outB
  split
  · exact hx
  · exact h q hq
theorem wpAnyZ_two {z : Nat} {P : Program} {md : Region.Mode} {ops : Array Oper} {Q : Exit → Act → World → Prop} {S : World → Prop} {j k : Nat} {o o' : Oper} {fuel : Nat} {listed : Array Bool} {a : Act} {w : World} (hr : Region.ready md ops listed = [j, k]) (ho : ops[j]? = some o) (ho' : ops[k]? = some o')
    (h : ∀ K' : Act → World → Prop, Shut (∀ a w, (j = z ∨ S w) → wpAnyZ z P md ops Q S fuel (listed.setIfInBounds j true) a w → K' a w) → if Region.wanted o (yielded ops a.tmps) = true then Oper.wp P o a w K' Q else K' (a.put o.dst undef) w)
    (h' : ∀ K' : Act → World → Prop, Shut (∀ a w, (k = z ∨ S w) → wpAnyZ z P md ops Q S fuel (listed.setIfInBounds k true) a w → K' a w) → if Region.wanted o' (yielded ops a.tmps) = true then Oper.wp P o' a w K' Q else K' (a.put o'.dst undef) w) :
    wpAnyZ z P md ops Q S (fuel + 1) listed a w := by
  refine ⟨fun e => (by rw [hr] at e; cases e), fun i hi => ?_⟩
  rw [hr, List.mem_cons, List.mem_singleton] at hi
  rcases hi with rfl | rfl
  · exact wpOp_step ho (fun K' hK => h K' (fun a w h1 h2 => hK a w ⟨h1, h2⟩))
  · exact wpOp_step ho' (fun K' hK => h' K' (fun a w h1 h2 => hK a w ⟨h1, h2⟩))
set_option maxRecDepth 100000 in
set_option maxHeartbeats 4000000 in
theorem output_any (v u : Value) (cls : List (BitVec 256)) (rows : List (List (Int × Pcs))) (fins : List Bool) (ends : List (List Int)) (p0 : Nat) (b : List Int) (w : World) (hv : IsT w v cls rows fins ends) (hu : IsY w u b) (ho : OkT cls rows fins ends) (hr : RunT cls rows) (hp : p0 < rows.length) (hb : b.length ≤ 1073741824) :
    Calls Tryz.prog 47 #[v, .int .i64 (p0 : Int), u] w (DoRes w (outS cls rows fins ends p0 b)) := by
  obtain ⟨i0, hi, hz0, hz1, hz2⟩ := info_parts infoU8
  obtain ⟨vc, vm, vf, ve, rfl, h1, h2, h3, h4⟩ := hv.is
  obtain ⟨pc, kc, rfl⟩ := h1.shape
  obtain ⟨pm, km, rfl, hm⟩ := h2
  obtain ⟨pf, kf, rfl⟩ := h3.shape
  obtain ⟨pe, ke, rfl, he⟩ := h4
  obtain ⟨pb, cb, rfl, hcb⟩ := hu.shape
  have B0 := Blk.new w #[.slice pc cls.length kc, .slice pm rows.length km, .slice pf fins.length kf, .slice pe ends.length ke] 43
  have hbw : Below w.heap.size w (w.alloc (.cells #[.slice pc cls.length kc, .slice pm rows.length km, .slice pf fins.length kf, .slice pe ends.length ke] 43)) := by go_grown
  have hsz : (w.alloc (.cells #[.slice pc cls.length kc, .slice pm rows.length km, .slice pf fins.length kf, .slice pe ends.length ke] 43)).heap.size = w.heap.size + 1 := by simp
  have H1 := Lib.hid h1
  have HM := Lib.hid hm
  have H3 := Lib.hid h3
  have HE := Lib.hid he
  have HO := Lib.hid ho
  have HR := Lib.hid hr
  have HU := Lib.hid hu
  have hcl := ho.cl
  clear hv h1 hm h3 he ho hr hu
  go_enter Tryz.func47, Tryz.ntmps47
  go_wp2
  generalize (w.alloc (.cells #[.slice pc cls.length kc, .slice pm rows.length km, .slice pf fins.length kf, .slice pe ends.length ke] 43)) = w1 at B0 hbw hsz ⊢
  go_loopw [1, 8, 14] (fun pv rv iv wr => ∃ (i p : Nat) (acc : List Int), pv = .int .i64 (p : Int) ∧ iv = .int .i64 (i : Int) ∧ i ≤ b.length ∧ p < rows.length ∧ wr.ownsRow (w.heap.size + 1) 5 1 rv acc.length (acc.map (Value.int .u8)) ∧ Byt acc ∧ (outS cls rows fins ends p (b.drop i)).map (acc ++ ·) = outS cls rows fins ends p0 b ∧
    Blk wr w.heap.size #[.slice pc cls.length kc, .slice pm rows.length km, .slice pf fins.length kf, .slice pe ends.length ke] 43 ∧ Below w.heap.size w wr ∧ acc.length ≤ 8 * i ∧ w.heap.size + 1 ≤ wr.heap.size) (fun _ _ iv _ => b.length - (RowKit.intOf iv).toNat)
  case atStart =>
    exact ⟨0, p0, [], rfl, rfl, Nat.zero_le _, hp, World.ownsRow_nil _ _ _ _, Byt.nil, by simp, B0, hbw, by simp, by omega⟩
  case round =>
    obtain ⟨i, p, acc, rfl, rfl, hi', hpl, hown, hY, hS, hB, hbl, hac, hz⟩ := hrel
    by_cases hlt : i < b.length
    · obtain ⟨x, hx⟩ := get_of_lt hlt
      obtain ⟨xb, xo, rfl, hcell⟩ := (HU.out.grows hbl).at hx
      have hxb := HU.out.byt.at hx
      obtain ⟨r, hr⟩ : ∃ r, rows[p]? = some r := ⟨_, List.getElem?_eq_getElem hpl⟩
      have hrm := List.mem_of_getElem? hr
      obtain ⟨gb, go, u2, rfl, g0, ⟨pr, kr, rfl, hrow⟩⟩ := HM.out p r hr
      obtain ⟨hix1, hix2⟩ := HR.out.ix_ x.toNat (by omega)
      have hcl2 := HR.out.row r hrm
      obtain ⟨c, hc⟩ : ∃ c : Nat, ix cls x.toNat = (c : Int) := ⟨(ix cls x.toNat).toNat, by omega⟩
      have hcr : c < r.length := by omega
      obtain ⟨m, hm⟩ : ∃ m, r[c]? = some m := ⟨_, List.getElem?_eq_getElem hcr⟩
      have hmm := List.mem_of_getElem? hm
      obtain ⟨rb, ro, u3, rfl, m0, m1, hpcs⟩ := hrow c m hm
      have hmv : mvT rows p (ix cls x.toNat).toNat = m := by
        unfold mvT
        rw [hc, List.getD_eq_getElem?_getD, List.getD_eq_getElem?_getD, hr]
        show (r[(c : Int).toNat]?).getD (-1, []) = m
        rw [Int.toNat_natCast, hm]; rfl
      have hm8 := (HO.out.mv r hrm m hmm)
      have hmto := HR.out.to_ r hrm m hmm
      have hmby := HR.out.by_ r hrm m hmm
      have hpc' := hpcs.grows hbl
      obtain ⟨pp, pk, rfl, hpl2⟩ := hpcs
      have n0 := (hbl.cell (lt_of_cell g0)).trans g0
      have n1 := (hbl.cell (lt_of_cell m0)).trans m0
      have n2 := (hbl.cell (lt_of_cell m1)).trans m1
      obtain ⟨t, pl⟩ := m
      dsimp only at n1 n2 hmto hmby hpc'
      have hSx : (outS cls rows fins ends p (b.drop i)) = if t < 0 then none else (outS cls rows fins ends t.toNat (b.drop (i + 1))).map (pl.map (outB x) ++ ·) := by
        rw [drop_cons hx]
        show (if (mvT rows p (ix cls x.toNat).toNat).1 < 0 then _ else _) = _
        rw [hmv]
      rw [hSx] at hS
      have HCi := Lib.hid (fun W (hW : Below w.heap.size w W) => hc ▸ index_any (.slice pc cls.length kc) cls x hxb.1 hxb.2 W (H1.out.grows hW) (by omega))
      have b0 := hB.cell 0 rfl
      have b1 := hB.cell 1 rfl
      have HS := Lib.hid hS
      have HB := Lib.hid hB
      have Hbl := Lib.hid hbl
      have Hown := Lib.hid hown
      have HY := Lib.hid hY
      have HP := Lib.hid hpc'
      clear hS hB hbl hown hY hpc' hSx hmv hm hmm hr hrm hcl2 g0 m0 m1 hpl2 hrow hix1 hix2 hc
      go_wp2
      refine wp_mono (Q := fun e a' w' => e = .normal ∧ ∃ mb, a' = (fun mb : Nat => ({ tmps := #[.agg #[.slice pc cls.length kc, .slice (some ⟨gb, go, none⟩) rows.length km, .slice pf fins.length kf, .slice pe ends.length ke], .int .i64 (p : Int), .slice (some ⟨xb, xo, none⟩) b.length cb, .pointer (some ⟨w.heap.size, 0, none⟩), undef, undef, u6, u7, u8, undef, .int .u8 x, .pointer (some ⟨mb, 0, none⟩), .slice (some ⟨xb, xo, none⟩) b.length cb, .int .i64 (b.length : Int), .int .i64 (i : Int), .bool true, .pointer (some ⟨xb, xo + i, none⟩), .int .u8 x, .pointer (some ⟨w.heap.size, 1, none⟩), .slice (some ⟨gb, go, none⟩) rows.length km, .int .i64 (p : Int), .pointer (some ⟨gb, go + p, none⟩), .slice (some ⟨rb, ro, none⟩) r.length kr, .pointer (some ⟨w.heap.size, 0, none⟩), .slice pc cls.length kc, .int .u8 x, .int .i64 (c : Int), .pointer (some ⟨rb, ro + c * 2, none⟩), .agg #[.int .i64 t, .slice pp pl.length pk], u29, u30, u31, u32, u33, u34, u35, u36, u37, u38, u39, undef, undef, undef, undef, undef, undef, undef, undef, undef, undef, undef, undef, undef], defers := [] } : Act)) mb ∧ Blk w' mb #[.int .i64 t, .slice pp pl.length pk] 82 ∧ Below wr.heap.size wr w' ∧ wr.heap.size ≤ mb) ?region ?cont
      case region =>
        refine wp_held 12 (fun W' => W'.cell? ⟨w.heap.size, 0, none⟩ = some (.slice pc cls.length kc) ∧ W'.cell? ⟨w.heap.size, 1, none⟩ = some (.slice (some ⟨gb, go, none⟩) rows.length km) ∧ W'.cell? ⟨gb, go + p, none⟩ = some (.slice (some ⟨rb, ro, none⟩) r.length kr) ∧ W'.cell? ⟨rb, ro + c * 2, none⟩ = some (.int .i64 t) ∧ W'.cell? ⟨rb, ro + c * 2 + 1, none⟩ = some (.slice pp pl.length pk)) (by kernel_rfl) ⟨b0, b1, n0, n1, n2⟩ (fun hHeld => ?_)
        refine wpAnyZ_take (i := 0) (v := .pointer (some ⟨w.heap.size, 1, none⟩)) rfl (by kernel_rfl) (by decide) (by kernel_rfl) (fun _ _ _ h => by cases h.1) _ _ _ _ (by kernel_rfl) (by kernel_rfl) (Or.inl ⟨by rfl, by intro w hSw; obtain ⟨s0, s1, s2, s3, s4⟩ := hSw; go_simp⟩) hHeld ?_
        simp only [Act.put, List.setIfInBounds_toArray, List.set_cons_zero, List.set_cons_succ]
        refine wpAnyZ_take (i := 1) (v := .slice (some ⟨gb, go, none⟩) rows.length km) rfl (by kernel_rfl) (by decide) (by kernel_rfl) (fun _ _ _ h => by cases h.1) _ _ _ _ (by kernel_rfl) (by kernel_rfl) (Or.inl ⟨by rfl, by intro w hSw; obtain ⟨s0, s1, s2, s3, s4⟩ := hSw; go_simp⟩) hHeld ?_
        simp only [Act.put, List.setIfInBounds_toArray, List.set_cons_zero, List.set_cons_succ]
        refine wpAnyZ_take (i := 2) (v := .int .i64 (p : Int)) rfl (by kernel_rfl) (by decide) (by kernel_rfl) (fun _ _ _ h => by cases h.1) _ _ _ _ (by kernel_rfl) (by kernel_rfl) (Or.inl ⟨by rfl, by intro w hSw; obtain ⟨s0, s1, s2, s3, s4⟩ := hSw; go_simp⟩) hHeld ?_
        simp only [Act.put, List.setIfInBounds_toArray, List.set_cons_zero, List.set_cons_succ]
        refine wpAnyZ_take (i := 3) (v := .pointer (some ⟨gb, go + p, none⟩)) rfl (by kernel_rfl) (by decide) (by kernel_rfl) (fun _ _ _ h => by cases h.1) _ _ _ _ (by kernel_rfl) (by kernel_rfl) (Or.inl ⟨by rfl, by intro w hSw; obtain ⟨s0, s1, s2, s3, s4⟩ := hSw; go_simp⟩) hHeld ?_
        simp only [Act.put, List.setIfInBounds_toArray, List.set_cons_zero, List.set_cons_succ]
        refine wpAnyZ_take (i := 4) (v := .slice (some ⟨rb, ro, none⟩) r.length kr) rfl (by kernel_rfl) (by decide) (by kernel_rfl) (fun _ _ _ h => by cases h.1) _ _ _ _ (by kernel_rfl) (by kernel_rfl) (Or.inl ⟨by rfl, by intro w hSw; obtain ⟨s0, s1, s2, s3, s4⟩ := hSw; go_simp⟩) hHeld ?_
        simp only [Act.put, List.setIfInBounds_toArray, List.set_cons_zero, List.set_cons_succ]
        refine wpAnyZ_take (i := 5) (v := .pointer (some ⟨w.heap.size, 0, none⟩)) rfl (by kernel_rfl) (by decide) (by kernel_rfl) (fun _ _ _ h => by cases h.1) _ _ _ _ (by kernel_rfl) (by kernel_rfl) (Or.inl ⟨by rfl, by intro w hSw; obtain ⟨s0, s1, s2, s3, s4⟩ := hSw; go_simp⟩) hHeld ?_
        simp only [Act.put, List.setIfInBounds_toArray, List.set_cons_zero, List.set_cons_succ]
        refine wpAnyZ_take (i := 6) (v := .slice pc cls.length kc) rfl (by kernel_rfl) (by decide) (by kernel_rfl) (fun _ _ _ h => by cases h.1) _ _ _ _ (by kernel_rfl) (by kernel_rfl) (Or.inl ⟨by rfl, by intro w hSw; obtain ⟨s0, s1, s2, s3, s4⟩ := hSw; go_simp⟩) hHeld ?_
        simp only [Act.put, List.setIfInBounds_toArray, List.set_cons_zero, List.set_cons_succ]
        refine wpAnyZ_take (i := 7) (v := .int .u8 x) rfl (by kernel_rfl) (by decide) (by kernel_rfl) (fun _ _ _ h => by cases h.1) _ _ _ _ (by kernel_rfl) (by kernel_rfl) (Or.inl ⟨by rfl, by intro w hSw; obtain ⟨s0, s1, s2, s3, s4⟩ := hSw; go_simp⟩) hHeld ?_
        simp only [Act.put, List.setIfInBounds_toArray, List.set_cons_zero, List.set_cons_succ]
        have hbd := Hbl.out.drew
        have hdd : Below wr.heap.size wr wr.drew := (Below.refl _ _).drew
        refine wpAnyZ_two (j := 8) (k := 11) (by kernel_rfl) rfl rfl (fun K hK => ?_) (fun K hK => ?_)
        · go_simp
          go_wp2_with (go_at_call 50; refine (HCi.out _ hbd).mono ?_; rintro e w2 ⟨rfl, hb2⟩)
          have hb2' := hdd.trans hb2
          have hHeld2 : w2.cell? ⟨w.heap.size, 0, none⟩ = some (.slice pc cls.length kc) ∧ w2.cell? ⟨w.heap.size, 1, none⟩ = some (.slice (some ⟨gb, go, none⟩) rows.length km) ∧ w2.cell? ⟨gb, go + p, none⟩ = some (.slice (some ⟨rb, ro, none⟩) r.length kr) ∧ w2.cell? ⟨rb, ro + c * 2, none⟩ = some (.int .i64 t) ∧ w2.cell? ⟨rb, ro + c * 2 + 1, none⟩ = some (.slice pp pl.length pk) :=
            ⟨(hb2'.cell (lt_of_cell b0)).trans b0, (hb2'.cell (lt_of_cell b1)).trans b1, (hb2'.cell (lt_of_cell n0)).trans n0, (hb2'.cell (lt_of_cell n1)).trans n1, (hb2'.cell (lt_of_cell n2)).trans n2⟩
          refine hK.out _ _ (.inr hHeld2) ?_
          clear hK K hHeld
          have hHeld := hHeld2
          try simp only [Act.put, List.setIfInBounds_toArray, List.set_cons_zero, List.set_cons_succ]
          refine wpAnyZ_take (i := 9) (v := .pointer (some ⟨rb, ro + c * 2, none⟩)) rfl (by kernel_rfl) (by decide) (by kernel_rfl) (fun _ _ _ h => by cases h.1) _ _ _ _ (by kernel_rfl) (by kernel_rfl) (Or.inl ⟨by rfl, by intro w hSw; obtain ⟨s0, s1, s2, s3, s4⟩ := hSw; go_simp⟩) hHeld ?_
          simp only [Act.put, List.setIfInBounds_toArray, List.set_cons_zero, List.set_cons_succ]
          refine wpAnyZ_take (i := 10) (v := .agg #[.int .i64 t, .slice pp pl.length pk]) rfl (by kernel_rfl) (by decide) (by kernel_rfl) (fun _ _ _ h => by cases h.1) _ _ _ _ (by kernel_rfl) (by kernel_rfl) (Or.inl ⟨by rfl, by intro w hSw; obtain ⟨s0, s1, s2, s3, s4⟩ := hSw; go_simp⟩) hHeld ?_
          simp only [Act.put, List.setIfInBounds_toArray, List.set_cons_zero, List.set_cons_succ]
          obtain ⟨y0, y1, y2, y3, y4⟩ := hHeld
          have z0 := cell_al (o := .cells #[.int .i64 0, .slice none 0 0] 82) y0
          have z1 := cell_al (o := .cells #[.int .i64 0, .slice none 0 0] 82) y1
          have z2 := cell_al (o := .cells #[.int .i64 0, .slice none 0 0] 82) y2
          have z3 := cell_al (o := .cells #[.int .i64 0, .slice none 0 0] 82) y3
          have z4 := cell_al (o := .cells #[.int .i64 0, .slice none 0 0] 82) y4
          have hz2'' := hb2'.size
          have hb3 : Below wr.heap.size wr (w2.alloc (.cells #[.int .i64 t, .slice pp pl.length pk] 82)) := hb2'.alloc hz2'' _
          have hB3 := Blk.new w2 #[.int .i64 t, .slice pp pl.length pk] 82
          refine wpAnyZ_one (j := 11) (by kernel_rfl) rfl (fun K hK => ?_)
          go_simp
          refine hK.out _ _ (.inr ⟨z0, z1, z2, z3, z4⟩) ?_
          clear hK K z0 z1 z2 z3 z4 y0 y1 y2 y3 y4
          try simp only [Act.put, List.setIfInBounds_toArray, List.set_cons_zero, List.set_cons_succ]
          refine wpAnyZ_one (j := 12) (by kernel_rfl) rfl (fun K hK => ?_)
          go_simp
          refine hK.out _ _ (.inl rfl) ?_
          clear hK K
          refine wpAnyZ_done (by kernel_rfl) ?_
          try simp only [Act.put, List.setIfInBounds_toArray, List.set_cons_zero, List.set_cons_succ]
          exact ⟨by simp, w2.heap.size, rfl, hB3, hb3, hz2''⟩
        · have hbA := ((Below.refl wr.heap.size wr).alloc (Nat.le_refl _) (.cells #[.int .i64 0, .slice none 0 0] 82)).drew
          have hBA := (Blk.new wr #[.int .i64 0, .slice none 0 0] 82).drew
          go_simp
          refine hK.out _ _ (.inr ⟨(hbA.cell (lt_of_cell b0)).trans b0, (hbA.cell (lt_of_cell b1)).trans b1, (hbA.cell (lt_of_cell n0)).trans n0, (hbA.cell (lt_of_cell n1)).trans n1, (hbA.cell (lt_of_cell n2)).trans n2⟩) ?_
          clear hK K hHeld
          have hsA : ((wr.alloc (.cells #[.int .i64 0, .slice none 0 0] 82)).drew).heap.size = wr.heap.size + 1 := by show (wr.alloc _).heap.size = _; simp
          generalize ((wr.alloc (.cells #[.int .i64 0, .slice none 0 0] 82)).drew) = wA at hbA hBA hsA ⊢
          have hbwA := Hbl.out.trans (hbA.mono Hbl.out.size)
          try simp only [Act.put, List.setIfInBounds_toArray, List.set_cons_zero, List.set_cons_succ]
          refine wpAnyZ_one (j := 8) (by kernel_rfl) rfl (fun K hK => ?_)
          go_simp
          go_wp2_with (go_at_call 50; go_loud (refine (HCi.out _ hbwA).mono ?_); rintro e w2 ⟨rfl, hb2⟩)
          have hb2' := hbA.trans (hb2.mono (by omega))
          have hB2 := hBA.grows hb2
          have hHeld2 : w2.cell? ⟨w.heap.size, 0, none⟩ = some (.slice pc cls.length kc) ∧ w2.cell? ⟨w.heap.size, 1, none⟩ = some (.slice (some ⟨gb, go, none⟩) rows.length km) ∧ w2.cell? ⟨gb, go + p, none⟩ = some (.slice (some ⟨rb, ro, none⟩) r.length kr) ∧ w2.cell? ⟨rb, ro + c * 2, none⟩ = some (.int .i64 t) ∧ w2.cell? ⟨rb, ro + c * 2 + 1, none⟩ = some (.slice pp pl.length pk) :=
            ⟨(hb2'.cell (lt_of_cell b0)).trans b0, (hb2'.cell (lt_of_cell b1)).trans b1, (hb2'.cell (lt_of_cell n0)).trans n0, (hb2'.cell (lt_of_cell n1)).trans n1, (hb2'.cell (lt_of_cell n2)).trans n2⟩
          refine hK.out _ _ (.inr hHeld2) ?_
          clear hK K
          have hHeld := hHeld2
          try simp only [Act.put, List.setIfInBounds_toArray, List.set_cons_zero, List.set_cons_succ]
          refine wpAnyZ_take (i := 9) (v := .pointer (some ⟨rb, ro + c * 2, none⟩)) rfl (by kernel_rfl) (by decide) (by kernel_rfl) (fun _ _ _ h => by cases h.1) _ _ _ _ (by kernel_rfl) (by kernel_rfl) (Or.inl ⟨by rfl, by intro w hSw; obtain ⟨s0, s1, s2, s3, s4⟩ := hSw; go_simp⟩) hHeld ?_
          simp only [Act.put, List.setIfInBounds_toArray, List.set_cons_zero, List.set_cons_succ]
          refine wpAnyZ_take (i := 10) (v := .agg #[.int .i64 t, .slice pp pl.length pk]) rfl (by kernel_rfl) (by decide) (by kernel_rfl) (fun _ _ _ h => by cases h.1) _ _ _ _ (by kernel_rfl) (by kernel_rfl) (Or.inl ⟨by rfl, by intro w hSw; obtain ⟨s0, s1, s2, s3, s4⟩ := hSw; go_simp⟩) hHeld ?_
          simp only [Act.put, List.setIfInBounds_toArray, List.set_cons_zero, List.set_cons_succ]
          clear hHeld hHeld2
          have f0 := hB2.free 0
          have f1 := hB2.free 1
          have g0 := hB2.cell 0 rfl
          have g1 := hB2.cell 1 rfl
          refine wpAnyZ_one (j := 12) (by kernel_rfl) rfl (fun K hK => ?_)
          go_simp
          refine hK.out _ _ (.inl rfl) ?_
          clear hK K
          refine wpAnyZ_done (by kernel_rfl) ?_
          try simp only [Act.put, List.setIfInBounds_toArray, List.set_cons_zero, List.set_cons_succ]
          exact ⟨by simp, wr.heap.size, rfl, ((hB2.set 0 _).set 1 _).cast (by simp), (hb2'.setCell (p := ⟨wr.heap.size, 0, none⟩) (Nat.le_refl _) _).setCell (p := ⟨wr.heap.size, 1, none⟩) (Nat.le_refl _) _, Nat.le_refl _⟩
      case cont =>
        rintro e a' w5 ⟨rfl, mb, rfl, hMb, hb5, hmbge⟩
        have m0 := hMb.cell 0 rfl
        have m1 := hMb.cell 1 rfl
        have hbl5 := Hbl.out.trans (hb5.mono Hbl.out.size)
        have hS5 := HS.out
        have hs5 := hb5.size
        by_cases ht : t < 0
        · rw [if_pos ht] at hS5
          have HF := Lib.hid (And.intro hS5 hbl5)
          have hdt : decide (t < 0) = true := decide_eq_true ht
          clear hS5 hbl5 hb5
          dsimp only
          go_wp2
          go_ret2
          rw [← HF.out.1]
          exact DoRes.none rfl HF.out.2
        · rw [if_neg ht] at hS5
          have hdt : decide (t < 0) = false := decide_eq_false ht
          have HF := Lib.hid hS5
          have Hbl5 := Lib.hid hbl5
          have HW := Lib.hid (twritten_any t x (.slice pp pl.length pk) pl w5 (HP.out.grows hb5) (by have := hm8.len; dsimp only at this; omega))
          have hB5 := Lib.hid (HB.out.grows hb5)
          have hO5 := own_below Hown.out hb5
          have hpl8 : pl.length ≤ 8 := hm8.len
          clear hS5 hbl5 hb5
          dsimp only
          have Hby := Lib.hid (out_byt hxb hmby)
          have holl : (pl.map (outB x)).length = pl.length := List.length_map _
          rw [← holl] at hpl8
          have HMb := Lib.hid hMb
          clear hMb hmby holl
          generalize hol : pl.map (outB x) = ol at Hby HF hpl8
          have Hol := Lib.hid hol
          clear hol
          go_wp2_with (first | (at_builtin; go_loud (refine app_list rfl _ _ rfl rfl (w.heap.size + 1) _ acc ol p6 c6 rfl rfl HO6.out HY6.out (by omega) (by omega) ?_); intro u7 w7 G7; have HG7 := Lib.hid G7; obtain ⟨hown7, hgrow7, hat7⟩ := G7; have HK7 := Lib.hid (KeptTy.grown (S := fun t => t ≠ 5) hgrow7 HO6.out (fun h => h rfl)); have hM7 := (⟨HK7.out _ _ _ (by decide) HM6.out.is⟩ : Blk w7 mb _ _); have m70 := hM7.cell 0 rfl; have hz7 := hgrow7.size; clear hown7 hgrow7 hat7 hM7) | (go_at_call 57; refine HW.out.mono ?_; rintro e w6 ⟨r6, rfl, ho6, hb6⟩; have ho6' := own_cast ho6 (show pl.length = (pl.map (outB x)).length by rw [List.length_map]) rfl; rw [Hol.out] at ho6'; obtain ⟨p6, c6, rfl⟩ := own_shape ho6'; have HY6 := Lib.hid (own_isY Hby.out ho6'); have HO6 := Lib.hid (own_below hO5 hb6); have HM6 := Lib.hid (HMb.out.grows hb6); have HB6 := Lib.hid (hB5.out.grows hb6); have Hbl6 := Lib.hid (Hbl5.out.trans (hb6.mono Hbl5.out.size)); have hz6 := hb6.size; clear ho6 ho6' hb6) | fail)
          go_roundw
          case rel =>
            refine ⟨i + 1, t.toNat, acc ++ ol, ?_, by go_num, by omega, by omega, HG7.out.own, HY.out.append Hby.out, ?_, ⟨HK7.out _ _ _ (by decide) HB6.out.is⟩, Hbl6.out.grown HG7.out.grown (by omega) (fun k e => by have := own_ge HO6.out k e; omega), by rw [List.length_append]; omega, by omega⟩
            · rw [Int.toNat_of_nonneg (by omega)]
            · rw [← HF.out]
              cases outS cls rows fins ends t.toNat (b.drop (i + 1)) with
              | none => rfl
              | some l => simp
          case measure => simp [RowKit.intOf]; omega
    · obtain rfl : i = b.length := by omega
      rw [List.drop_eq_nil_of_le (Nat.le_refl _)] at hS
      have hpf : p < fins.length := by have := HO.out.rl; omega
      have hpe' : p < ends.length := by have := HO.out.el; omega
      obtain ⟨en, hen⟩ : ∃ en, ends[p]? = some en := ⟨_, List.getElem?_eq_getElem hpe'⟩
      obtain ⟨bf, of', rfl, z0⟩ := (H3.out.grows hbl).at (k := p) hpf
      obtain ⟨be, oe, u, rfl, k0, hy⟩ := HE.out p en hen
      have y0 := (hbl.cell (lt_of_cell k0)).trans k0
      have hY2 := hy.grows hbl
      obtain ⟨pv, kv, rfl, _⟩ := hy.shape
      have h8 := (HO.out.end_ p en hen).1
      have c2 := hB.cell 2 rfl
      have c3 := hB.cell 3 rfl
      have hgd : ends.getD p [] = en := by rw [List.getD_eq_getElem?_getD, hen]; rfl
      have hS2 : (if fins.getD p false = true then some (acc ++ en) else none) = outS cls rows fins ends p0 b := by
        rw [← hS]
        show _ = (if fins.getD p false = true then some (ends.getD p []) else none).map (acc ++ ·)
        rw [hgd]
        split <;> rfl
      clear hS k0 hy hgd hen
      have HF := Lib.hid hS2
      have HB := Lib.hid (And.intro hbl hY)
      have HO' := Lib.hid hown
      have HY2 := Lib.hid hY2
      clear hS2 hbl hY hown hY2 hB
      generalize fins.getD p false = q at z0 HF
      cases q with
      | true =>
        go_wp2_with (first | (at_builtin; refine app_list rfl _ _ rfl rfl (w.heap.size + 1) _ acc en pv kv rfl rfl HO'.out HY2.out (by omega) (by omega) ?_; intro u7 w7 G7; have HG7 := Lib.hid G7; clear G7) | fail)
        go_ret2
        rw [← HF.out, if_pos trivial]
        exact ⟨_, rfl, own_isY (HB.out.2.append HY2.out.byt) HG7.out.own, HB.out.1.grown HG7.out.grown (by omega) (fun k e => by have := own_ge HO'.out k e; omega)⟩
      | false =>
        go_wp2
        go_ret2
        rw [← HF.out, if_neg (by simp)]
        exact DoRes.none rfl HB.out.1
set_option maxRecDepth 100000 in
set_option maxHeartbeats 1000000 in
theorem run_any (v u : Value) (cls : List (BitVec 256)) (rows : List (List (Int × Pcs))) (fins : List Bool) (ends : List (List Int)) (b : List Int) (w : World) (hv : IsT w v cls rows fins ends) (hu : IsY w u b) (ho : OkT cls rows fins ends) (hr : RunT cls rows) (hp : 0 < rows.length) (hb : b.length ≤ 1073741824) :
    Calls Tryz.prog 24 #[v, u] w (DoRes w (outS cls rows fins ends 0 b)) := by
  obtain ⟨vc, vm, vf, ve, rfl, h1, ⟨pm, km, rfl, hm⟩, h3, ⟨pe, ke, rfl, he⟩⟩ := hv.is
  obtain ⟨pc, kc, rfl⟩ := h1.shape
  obtain ⟨pf, kf, rfl⟩ := h3.shape
  have hbw : Below w.heap.size w (w.alloc (.cells #[.slice pc cls.length kc, .slice pm rows.length km, .slice pf fins.length kf, .slice pe ends.length ke] 43)) := by go_grown
  have B0 := Blk.new w #[.slice pc cls.length kc, .slice pm rows.length km, .slice pf fins.length kf, .slice pe ends.length ke] 43
  have hsz : (w.alloc (.cells #[.slice pc cls.length kc, .slice pm rows.length km, .slice pf fins.length kf, .slice pe ends.length ke] 43)).heap.size = w.heap.size + 1 := by simp
  have hv1 := hv.grows hbw
  have hu1 := hu.grows hbw
  have HV := Lib.hid (tvalid_yes _ cls rows fins ends _ hv1 ho)
  have H := Lib.hid (And.intro hv1 (And.intro hu1 (And.intro ho hr)))
  clear hv hu h1 hm h3 he ho hr hv1 hu1
  go_enter Tryz.func24, Tryz.ntmps24
  go_wp2_with fail
  generalize (w.alloc (.cells #[.slice pc cls.length kc, .slice pm rows.length km, .slice pf fins.length kf, .slice pe ends.length ke] 43)) = w1 at B0 hbw hsz HV H ⊢
  refine HV.out.mono ?_
  rintro e w2 ⟨rfl, hb2⟩
  obtain ⟨d0, d1, d2, d3, _, _, _, _⟩ := (B0.grows hb2).four
  have hbw2 := hbw.trans (hb2.mono (by omega))
  have HO := Lib.hid (output_any _ u cls rows fins ends 0 b w2 (H.out.1.grows hb2) (H.out.2.1.grows hb2) H.out.2.2.1 H.out.2.2.2 hp hb)
  have Hbw2 := Lib.hid hbw2
  clear hbw2 hb2 hbw B0 H HV
  go_wp2_with fail
  refine HO.out.mono ?_
  rintro e w3 ⟨r, rfl, hy, hb3⟩
  have HF := Lib.hid (And.intro hy (Hbw2.out.trans (hb3.mono Hbw2.out.size)))
  clear hy hb3
  go_wp2
  go_ret2
  exact ⟨_, rfl, HF.out.1, HF.out.2⟩
end Go.Proofs.YtkhphiilnplgjaaGreatDoor

namespace Go.Proofs.YtkhphiilnplgjaaGreatDoor
open Go.RowKit Go.Lib Go.Shelf
attribute [local go_sem] Oper.semAt_some

theorem app_listIn {F : Fence} {n : Nat} {ops : Array Oper} {rest : List Oper} {o : Oper} {a : Act} {w : World} {Q : Exit → Act → World → Prop} (hgd : o.guard = none) (s x : Operand)
    (ho : o.op = .call { callee := .builtin .append, args := #[s, x], argTypes := #[22, 22] }) (hty : o.type = 22)
    (base : Nat) (v : Value) (xs l : List Int) (p : Option Addr) (c : Nat) (hs : a.eval s = v) (hx : a.eval x = .slice p l.length c) (hown : w.ownsRow base 5 1 v xs.length (xs.map (Value.int .u8))) (hy : IsY w (.slice p l.length c) l)
    (hm : xs.length + l.length ≤ 140737488355328) (hb : base ≤ w.heap.size) (h : ∀ u w', Grew w base v xs l u w' → wpListIn F n Tryz.prog ops Q rest (a.put o.dst u) w') : wpListIn F n Tryz.prog ops Q (o :: rest) a w := by
  refine wpListIn_plain hgd fun K hK' => ?_
  obtain ⟨u, w', hrun, hg⟩ := app_run w base v xs l p c hown hy hm hb
  unfold Oper.wpIn
  refine ⟨?_, ?_⟩
  · simp [Oper.about, ho, resolve, Target.leads, Sem.run_pure]
  · rw [Oper.semAt_plain F _ _ (by rw [ho]; intro c hc'; cases hc')]
    simp [execOp, ho, hty, resolve, invoke, builtin, hs, hx, hrun, Result.andThen]
    exact hK' _ _ (h u w' hg)
theorem wpIn_held_wide (z : Nat) {n : Nat} {P : Program} {id : Nat} {Q : Exit → Act → World → Prop} {a : Act} {w : World} {l : List Oper} (S : World → Prop) (hm : P.follows .mixedOrders = true) (hS : S w.drew)
    (h : S w.drew → wpAnyZ z P .any l.toArray (Ends Q) S l.toArray.size (Array.replicate l.toArray.size false) a w.drew) : (Code.region id l.toArray true).wpIn Fence.wide n P Q a w :=
  wpIn_mono (wpIn_region_any hm (wpAnyIn_plain Ends.closed _ _ _ _ (wpAny_of_z _ _ _ _ (h hS)))) Ends.imp
/-! What abides the turn of a block that is no cells. -/
theorem Blk.turn {W W' : World} {b : Nat} {vs : Array Value} {t : TypeId} {row : Option Nat} (h : Blk W b vs t) (hg : W.grownBy W' row) (hr : ∀ r, row = some r → ∃ o : Obj, W.heap[r]? = some o ∧ o.isCells = false) : Blk W' b vs t :=
  h.grownBy hg fun k e hk => by
    subst hk
    obtain ⟨o, ho, hc⟩ := hr k e
    rw [h.is] at ho; cases ho; cases hc
theorem own_turn {W W' : World} {base : Nat} {e : TypeId} {size : Nat} {v : Value} {n : Nat} {xs : List Value} {row : Option Nat} (h : W.ownsRow base e size v n xs) (hg : W.grownBy W' row) (hr : ∀ r, row = some r → ∃ o : Obj, W.heap[r]? = some o ∧ o.isCells = false) : W'.ownsRow base e size v n xs := by
  refine ⟨h.1, ?_⟩
  rcases h.2 with h2 | ⟨g, cap, cur, hv, hb, hh, r⟩
  · exact .inl h2
  · exact .inr ⟨g, cap, cur, hv, hb, (Blk.turn (t := e) ⟨hh⟩ hg hr).is, r⟩
theorem KpC.turn {S : Nat → Prop} {W0 W W' : World} {row : Option Nat} (h : KpC S W0 W) (hg : W.grownBy W' row) (hr : ∀ r, row = some r → ∃ o : Obj, W.heap[r]? = some o ∧ o.isCells = false) : KpC S W0 W' := fun a u hs hu => by
  have h1 := h a u hs hu
  have hne : row ≠ some a.block := fun e => by
    obtain ⟨o, ho, hc⟩ := hr a.block e
    unfold World.cell? at h1
    rw [ho] at h1
    cases o <;> simp_all [Obj.isCells]
  have hlt := lt_of_cell h1
  unfold World.cell? at h1 ⊢
  rw [hg.block a.block hlt (fun e => hne e.symm)]; exact h1
/-- what lies in memory when the search goes on from f: what has been written so far, and how far. -/
structure RepI (N : Nat) (W0 : World) (S : Nat → Prop) (w : World) (b : List Int) (R : List Int → Nat → Prop) (f : Nat) (W : World) : Prop where
  fle : f ≤ b.length
  kp : KpC S W0 W
  below : Below N w W
  end_ : Blk W (N + 3) #[.int .i64 (f : Int)] 3
  size : N + 6 ≤ W.heap.size
  out : ∃ acc v, Blk W (N + 2) #[v] 22 ∧ W.ownsRow (N + 6) 5 1 v acc.length (acc.map (Value.int .u8)) ∧ Byt acc ∧ R acc f ∧ acc.length ≤ 4 * f + 4
theorem RepI.turn {N : Nat} {W0 : World} {S : Nat → Prop} {w : World} {b : List Int} {R : List Int → Nat → Prop} {f B : Nat} {W W' : World} {row : Option Nat} (hN : N ≤ B) (h : RepI N W0 S w b R f W) (hg : W.grownBy W' row)
    (hr : ∀ r, row = some r → B ≤ r ∧ ∃ o : Obj, W.heap[r]? = some o ∧ o.isCells = false) : RepI N W0 S w b R f W' := by
  have hr2 : ∀ r, row = some r → ∃ o : Obj, W.heap[r]? = some o ∧ o.isCells = false := fun r e => (hr r e).2
  obtain ⟨acc, v, h1, h2, h3⟩ := h.out
  exact ⟨h.fle, h.kp.turn hg hr2, h.below.grown hg (by have := h.size; omega) (fun k e => by have := (hr k e).1; omega), h.end_.turn hg hr2, Nat.le_trans h.size hg.size, acc, v, h1.turn hg hr2, own_turn h2 hg hr2, h3⟩
theorem RepI.own {N : Nat} {W0 : World} {S : Nat → Prop} {w : World} {b : List Int} {R : List Int → Nat → Prop} {B : Nat} (hN : N ≤ B) : OwnFrom B (RepI N W0 S w b R) := fun _ _ _ _ hs hg hr => hs.turn hN hg hr
theorem IsY.keep {w W W' : World} {S : Nat → Prop} {v : Value} {l : List Int} (h : IsY w v l) (hW : IsY W v l) (hk : KpC S W W') (hS : ∀ k, k < w.heap.size → S k) : IsY W' v l := by
  obtain ⟨p, cap, rfl, hc⟩ := h.shape
  refine ⟨h.byt, h.nl, p, cap, rfl, hc, fun j x hx => ?_⟩
  obtain ⟨b, o, e1, h1⟩ := h.at hx
  obtain ⟨b', o', e2, h2⟩ := hW.at hx
  rw [e1] at e2
  simp only [Option.some.injEq, Addr.mk.injEq, and_true] at e2
  obtain ⟨rfl, rfl⟩ := e2
  exact ⟨b, o, e1, hk _ _ (hS _ (lt_of_cell h1)) h2⟩
/-- the blocks that the body of the loop leaves alone. -/
def SRep (N : Nat) (k : Nat) : Prop := k < N + 2 ∨ k = N + 4 ∨ k = N + 5
/-- what has been written, and what is left, make this. -/
def Rest (b T acc : List Int) (f : Nat) : Prop := acc ++ b.drop f = T
def RInv (all : Bool) (old new b acc : List Int) (f : Nat) : Prop := match all with
  | true => acc ++ rep old new b.length (b.drop f) = rep old new b.length b
  | false => f = 0 ∧ acc = []
def RTgt (all : Bool) (old new b : List Int) : List Int := match all with
  | true => rep old new b.length b
  | false => rep old new 1 b
theorem rest_mid (b : List Int) {f x : Nat} (h : f ≤ x) : (b.take x).drop f = (b.drop f).take (x - f) := by rw [List.drop_take]
theorem inv_step {old new b acc : List Int} {f x : Nat} (h0 : 0 < old.length) (hx : NextO old b f (some x)) (h : RInv true old new b acc f) : RInv true old new b (acc ++ (b.take x).drop f ++ new) (x + old.length) := by
  have hr := hit_room hx.2.2.1 h0
  show _ = _
  rw [← (show _ = _ from h), rep_next h0 (by omega) rfl hx, rest_mid b hx.1, rep_enough h0 b.length (b.drop (x + old.length)) b.length (b.length - 1) (by rw [List.length_drop]; omega) (by rw [List.length_drop]; omega) (by rw [List.length_drop]; omega)]
  simp [List.append_assoc]
theorem inv_exit {old new b acc : List Int} {f x : Nat} (h0 : 0 < old.length) (hx : NextO old b f (some x)) (h : RInv false old new b acc f) : Rest b (rep old new 1 b) (acc ++ (b.take x).drop f ++ new) (x + old.length) := by
  obtain ⟨rfl, rfl⟩ : f = 0 ∧ acc = [] := h
  have := rep_next (new := new) h0 (m := 1) (by omega) rfl hx
  rw [List.drop_zero] at this
  show _ = _
  rw [this, rep_zero, rest_mid b hx.1, List.drop_zero]
  simp [List.append_assoc]
theorem inv_done {all : Bool} {old new b acc : List Int} {f : Nat} (hx : NextO old b f none) (h : RInv all old new b acc f) : Rest b (RTgt all old new b) acc f := by
  cases all with
  | true =>
    show _ = rep old new b.length b
    rw [← (show _ = _ from h), rep_never rfl hx]
  | false =>
    obtain ⟨rfl, rfl⟩ : f = 0 ∧ acc = [] := h
    show _ = rep old new 1 b
    have := rep_never (new := new) (m := 1) rfl hx
    rw [List.drop_zero] at this
    rw [this]; rfl
theorem inv_start {all : Bool} {old new b : List Int} : RInv all old new b [] 0 := by
  cases all with
  | true => show _ = _; rw [List.drop_zero, List.nil_append]
  | false => exact ⟨rfl, rfl⟩
/-- a stretch of the loop's body: it leaves alone what it must. -/
structure Tr (B N : Nat) (W W' : World) : Prop where
  keeps : KeepsFrom B W W'
  kp : KpC (SRep N) W W'
  below : Below N W W'
theorem Tr.trans {B N : Nat} {X Y Z : World} (h : Tr B N X Y) (k : Tr B N Y Z) : Tr B N X Z := ⟨h.keeps.trans k.keeps, h.kp.trans k.kp, h.below.trans k.below⟩
theorem Tr.drew (B N : Nat) (W : World) : Tr B N W W.drew := ⟨⟨Nat.le_refl _, fun _ _ _ h _ => h⟩, fun _ _ _ h => h, (Below.refl _ _).drew⟩
theorem Tr.set {B N : Nat} {W : World} {q : Nat} (hq : q = N + 2 ∨ q = N + 3) (v : Value) : Tr B N W (W.setCell ⟨q, 0, none⟩ v) :=
  ⟨(KeepsOthers.setCell W ⟨q, 0, none⟩ v).from B, KpC.set (by show ¬ SRep N q; unfold SRep; omega) v, (Below.refl _ _).setCell (by show N ≤ q; omega) v⟩
theorem Tr.app {B N : Nat} {W W' : World} {v u : Value} {xs l : List Int} (h : W.ownsRow (N + 6) 5 1 v xs.length (xs.map (Value.int .u8))) (hN : N ≤ W.heap.size) (hg : Grew W (N + 6) v xs l u W') : Tr B N W W' := by
  have hge := own_ge h
  refine ⟨⟨hg.grown.size, fun k o _ hk ho => ?_⟩, KpC.grown hg.grown (fun k e => by have := hge k e; unfold SRep; omega), (Below.refl N W).grown hg.grown hN (fun k e => by have := hge k e; omega)⟩
  refine (hg.grown.block k (Array.getElem?_eq_some_iff.1 hk).1 (fun e => ?_)).trans hk
  rcases h.2 with ⟨rfl, _⟩ | ⟨g, cap, cur, rfl, _, hh, _⟩
  · cases e
  · simp only [Value.ownBlock, Option.some.injEq] at e
    subst e
    rw [hh] at hk; cases hk; cases ho
theorem Blk.at {W : World} {m : Nat} (vs : Array Value) (t : TypeId) (hm : W.heap.size = m) : Blk (W.alloc (.cells vs t)) m vs t := hm ▸ Blk.new W vs t
set_option maxRecDepth 100000 in
set_option maxHeartbeats 4000000 in
theorem replacement_any (v u : Value) (k : Int) (old new b : List Int) (all : Bool) (ab : Nat) (w : World) (hv : IsOp w v k old new) (hu : IsY w u b) (hA : Blk w ab #[.bool all] 4) (h0 : 0 < old.length) (h4 : old.length ≤ 8) (hn4 : new.length ≤ 4) (hb : b.length ≤ 4294967280) (hM : MaxOk w) :
    Calls Tryz.prog 100 #[v, u, .pointer (some ⟨ab, 0, none⟩)] w (DoRes w (some (RTgt all old new b))) := by
  obtain ⟨po, co, pn, cn, rfl, h1, h2, c1, c2⟩ := hv.shape
  obtain ⟨pb, cb, rfl, c3⟩ := hu.shape
  have HV := Lib.hid (And.intro hu (And.intro h1 h2))
  have HA := Lib.hid hA
  have HM := Lib.hid hM
  have D0 := Blk.new w #[.int .i64 k, .slice po old.length co, .slice pn new.length cn] 24
  clear hv hu h1 h2 hA hM
  refine (callsIn_wide (n := 5)).1 ?_
  have hfn : ∀ k, Fence.wide.fn k := fun _ => trivial
  refine callsIn_of_wp_marks Tryz.func100 rfl trivial ?_ rfl
  simp only [Tryz.ntmps100, List.size_toArray, List.length_cons, List.length_nil, Nat.reduceAdd, Nat.reduceSub, Array.replicate_succ, Array.replicate_zero, List.push_toArray, List.append_toArray, List.nil_append, List.cons_append]
  gi_wp2_with (gi_at_call 101; refine (occurrences_in _ _ _ _ ⟨_, _, _, rfl⟩ ⟨_, _, _, rfl⟩).mono ?_; rintro e w' ⟨rfl, rfl⟩)
  simp only [Nat.add_assoc, Nat.reduceAdd]
  have A1 := (((((D0.alloc (.cells #[.slice pb b.length cb] 22)).alloc (.cells #[.slice none 0 0] 22)).alloc (.cells #[.int .i64 0] 3)).alloc (.cells #[.slice po old.length co] 22)).alloc (.cells #[.slice pb b.length cb] 22))
  have A2 := ((((Blk.at (W := w.alloc (.cells #[.int .i64 k, .slice po old.length co, .slice pn new.length cn] 24)) (m := w.heap.size + 1) #[.slice pb b.length cb] 22 (by simp)).alloc (.cells #[.slice none 0 0] 22)).alloc (.cells #[.int .i64 0] 3)).alloc (.cells #[.slice po old.length co] 22)).alloc (.cells #[.slice pb b.length cb] 22)
  have A3 := (((Blk.at (W := (w.alloc (.cells #[.int .i64 k, .slice po old.length co, .slice pn new.length cn] 24)).alloc (.cells #[.slice pb b.length cb] 22)) (m := w.heap.size + 2) #[.slice none 0 0] 22 (by simp)).alloc (.cells #[.int .i64 0] 3)).alloc (.cells #[.slice po old.length co] 22)).alloc (.cells #[.slice pb b.length cb] 22)
  have A4 := ((Blk.at (W := ((w.alloc (.cells #[.int .i64 k, .slice po old.length co, .slice pn new.length cn] 24)).alloc (.cells #[.slice pb b.length cb] 22)).alloc (.cells #[.slice none 0 0] 22)) (m := w.heap.size + 3) #[.int .i64 0] 3 (by simp)).alloc (.cells #[.slice po old.length co] 22)).alloc (.cells #[.slice pb b.length cb] 22)
  have A5 := (Blk.at (W := (((w.alloc (.cells #[.int .i64 k, .slice po old.length co, .slice pn new.length cn] 24)).alloc (.cells #[.slice pb b.length cb] 22)).alloc (.cells #[.slice none 0 0] 22)).alloc (.cells #[.int .i64 0] 3)) (m := w.heap.size + 4) #[.slice po old.length co] 22 (by simp)).alloc (.cells #[.slice pb b.length cb] 22)
  have A6 := Blk.at (W := ((((w.alloc (.cells #[.int .i64 k, .slice po old.length co, .slice pn new.length cn] 24)).alloc (.cells #[.slice pb b.length cb] 22)).alloc (.cells #[.slice none 0 0] 22)).alloc (.cells #[.int .i64 0] 3)).alloc (.cells #[.slice po old.length co] 22)) (m := w.heap.size + 5) #[.slice pb b.length cb] 22 (by simp)
  have hB0 : Below w.heap.size w ((((((w.alloc (.cells #[.int .i64 k, .slice po old.length co, .slice pn new.length cn] 24)).alloc (.cells #[.slice pb b.length cb] 22)).alloc (.cells #[.slice none 0 0] 22)).alloc (.cells #[.int .i64 0] 3)).alloc (.cells #[.slice po old.length co] 22)).alloc (.cells #[.slice pb b.length cb] 22)) := by go_grown
  have hZ0 : ((((((w.alloc (.cells #[.int .i64 k, .slice po old.length co, .slice pn new.length cn] 24)).alloc (.cells #[.slice pb b.length cb] 22)).alloc (.cells #[.slice none 0 0] 22)).alloc (.cells #[.int .i64 0] 3)).alloc (.cells #[.slice po old.length co] 22)).alloc (.cells #[.slice pb b.length cb] 22)).heap.size = w.heap.size + 6 := by simp
  generalize ((((((w.alloc (.cells #[.int .i64 k, .slice po old.length co, .slice pn new.length cn] 24)).alloc (.cells #[.slice pb b.length cb] 22)).alloc (.cells #[.slice none 0 0] 22)).alloc (.cells #[.int .i64 0] 3)).alloc (.cells #[.slice po old.length co] 22)).alloc (.cells #[.slice pb b.length cb] 22)) = W0 at A1 A2 A3 A4 A5 A6 hB0 hZ0 ⊢
  have hOc : OccSt (w.heap.size + 4) (w.heap.size + 5) po co pb cb old b W0 := ⟨A5.cell 0 rfl, A6.cell 0 rfl, HV.out.2.1.grows hB0, HV.out.1.grows hB0, HM.out.grows hB0 HM.out.lt⟩
  have hSl : ∀ k, k < w.heap.size → SRep w.heap.size k := fun k hk => Or.inl (by omega)
  have hKp : ∀ W W', OccSt (w.heap.size + 4) (w.heap.size + 5) po co pb cb old b W → KpC (SRep w.heap.size) W W' → OccSt (w.heap.size + 4) (w.heap.size + 5) po co pb cb old b W' := fun W W' h hk =>
    ⟨hk _ _ (.inr (.inl rfl)) h.bo, hk _ _ (.inr (.inr rfl)) h.bb, HV.out.2.1.keep h.old_ hk hSl, HV.out.1.keep h.b_ hk hSl, by obtain ⟨m, hm⟩ := h.max; exact ⟨m, hk _ _ (hSl _ HM.out.lt) hm⟩⟩
  have hA0 := HA.out.grows hB0
  have HI := Lib.hid (show RepI w.heap.size W0 (SRep w.heap.size) w b (RInv all old new b) 0 W0 from ⟨Nat.zero_le _, KpC.refl _ _, hB0, A4, by omega, [], _, A3, World.ownsRow_nil _ _ _ _, Byt.nil, inv_start, by simp⟩)
  have HC := Lib.hid (And.intro (A1.cell 1 rfl : W0.cell? ⟨w.heap.size, 1, none⟩ = some (.slice po old.length co)) (And.intro (A1.cell 2 rfl : W0.cell? ⟨w.heap.size, 2, none⟩ = some (.slice pn new.length cn)) (And.intro (A2.cell 0 rfl : W0.cell? ⟨w.heap.size + 1, 0, none⟩ = some (.slice pb b.length cb)) (hA0.cell 0 rfl : W0.cell? ⟨ab, 0, none⟩ = some (.bool all)))))
  have hab := HA.out.lt
  clear A1 A2 A3 A4 A5 A6 hA0 D0
  refine wpIn_range_st (n := 5) (by decide) (gf := 129) (lb := #[.pointer (some ⟨w.heap.size + 4, 0, none⟩), .pointer (some ⟨w.heap.size + 5, 0, none⟩)]) rfl (enters_of Tryz.func129 (by kernel_rfl) rfl) (enc := encO) (fun _ => rfl)
    (V := occV old b) (Dn := fun f => NextO old b f none) (s0 := 0) (Kp := KpC (SRep w.heap.size)) (fun h h2 => h.trans h2) (fun W l o o' hl h hc => KpC.put _ W l o o' h hc) (occ_seq 4 (by decide) (KpC (SRep w.heap.size)) (w.heap.size + 4) (w.heap.size + 5) po co pb cb old b W0 hOc hKp h0 h4 hb)
    (RepI w.heap.size W0 (SRep w.heap.size) w b (RInv all old new b)) (fun c f W => c = .exit 0 ∧ RepI w.heap.size W0 (SRep w.heap.size) w b (Rest b (RTgt all old new b)) f W)
    (RepI.own (by omega)) (fun c s W W' row hs hg hr => ⟨hs.1, hs.2.turn (B := W0.heap.size) (by omega) hg hr⟩) HI.out
    (fun x => { tmps := #[.agg #[.int .i64 k, .slice po old.length co, .slice pn new.length cn], .slice pb b.length cb, .pointer (some ⟨ab, 0, none⟩), .pointer (some ⟨w.heap.size, 0, none⟩), .pointer (some ⟨w.heap.size + 1, 0, none⟩), .slice none 0 0, .bool false, .pointer (some ⟨w.heap.size + 2, 0, none⟩), .pointer (some ⟨w.heap.size + 3, 0, none⟩), .int .i64 (x : Int), .pointer (some ⟨w.heap.size, 1, none⟩), .slice po old.length co, .slice pb b.length cb, .func (.func 129) #[] #[.pointer (some ⟨w.heap.size + 4, 0, none⟩), .pointer (some ⟨w.heap.size + 5, 0, none⟩)], .int .i64 (x : Int), undef, undef, undef, undef, undef, undef, undef, undef, undef, undef, undef, undef, undef, undef, undef, undef, undef, undef, undef, undef, undef, undef], defers := [] }) ?assign ?body ?done ?stop
  case assign =>
    intro l x W K hK
    gi_wp2
    simp only [encO, List.zip_toArray, List.zip_cons_cons, List.zip_nil_right, List.foldl_toArray, List.foldl_cons, List.foldl_nil, List.setIfInBounds_toArray, List.set_cons_zero, List.set_cons_succ]
    exact hK
  case body =>
    rintro l f x f' W ⟨hx, rfl⟩ hI
    obtain ⟨acc, v, hO, hR, hY, hRi, hl⟩ := hI.out
    obtain ⟨q1, q2, q3, q4⟩ := HC.out
    have c1 := hI.kp ⟨w.heap.size, 1, none⟩ _ (.inl (by show w.heap.size < _; omega)) q1
    have c2 := hI.kp ⟨w.heap.size, 2, none⟩ _ (.inl (by show w.heap.size < _; omega)) q2
    have c3 := hI.kp ⟨w.heap.size + 1, 0, none⟩ _ (.inl (by show w.heap.size + 1 < _; omega)) q3
    have c4 := hI.kp ⟨ab, 0, none⟩ _ (.inl (by show ab < _; omega)) q4
    have cO := hO.cell 0 rfl
    have cE := hI.end_.cell 0 rfl
    have hroom := hit_room hx.2.2.1 h0
    have hfx := hx.1
    have hsz := hI.size
    have HX := Lib.hid hx
    have HIw := Lib.hid hI
    have HO := Lib.hid hO
    have HR := Lib.hid hR
    have HY := Lib.hid hY
    have HRi := Lib.hid hRi
    clear hx hI hO hR hY hRi q1 q2 q3 q4
    gi_wp2
    refine wpIn_held_round l 6 (fun W' => W'.cell? ⟨w.heap.size + 2, 0, none⟩ = some v ∧ W'.cell? ⟨w.heap.size + 1, 0, none⟩ = some (.slice pb b.length cb) ∧ W'.cell? ⟨w.heap.size + 3, 0, none⟩ = some (.int .i64 (f : Int))) (by kernel_rfl) (by kernel_rfl) ⟨cO, c3, cE⟩ (fun hHeld => ?_)
    refine wpAnyZ_take (i := 0) (v := v) rfl (by kernel_rfl) (by decide) (by kernel_rfl) (fun _ _ _ h => h) _ _ _ _ (by kernel_rfl) (by kernel_rfl) (Or.inl ⟨by rfl, by intro w hSw; obtain ⟨s1, s2, s3⟩ := hSw; go_simp⟩) hHeld ?_
    simp only [Act.put, List.setIfInBounds_toArray, List.set_cons_zero, List.set_cons_succ]
    refine wpAnyZ_take (i := 1) (v := .slice pb b.length cb) rfl (by kernel_rfl) (by decide) (by kernel_rfl) (fun _ _ _ h => h) _ _ _ _ (by kernel_rfl) (by kernel_rfl) (Or.inl ⟨by rfl, by intro w hSw; obtain ⟨s1, s2, s3⟩ := hSw; go_simp⟩) hHeld ?_
    simp only [Act.put, List.setIfInBounds_toArray, List.set_cons_zero, List.set_cons_succ]
    refine wpAnyZ_take (i := 2) (v := .int .i64 (f : Int)) rfl (by kernel_rfl) (by decide) (by kernel_rfl) (fun _ _ _ h => h) _ _ _ _ (by kernel_rfl) (by kernel_rfl) (Or.inl ⟨by rfl, by intro w hSw; obtain ⟨s1, s2, s3⟩ := hSw; go_simp⟩) hHeld ?_
    simp only [Act.put, List.setIfInBounds_toArray, List.set_cons_zero, List.set_cons_succ]
    refine wpAnyZ_take (i := 3) (v := .int .i64 (x : Int)) rfl (by kernel_rfl) (by decide) (by kernel_rfl) (fun _ _ _ h => h) _ _ _ _ (by kernel_rfl) (by kernel_rfl) (Or.inl ⟨by rfl, by intro w hSw; obtain ⟨s1, s2, s3⟩ := hSw; go_simp⟩) hHeld ?_
    simp only [Act.put, List.setIfInBounds_toArray, List.set_cons_zero, List.set_cons_succ]
    refine wpAnyZ_take (i := 4) (v := .slice (tailA pb cb f) (x - f) (cb - f)) rfl (by kernel_rfl) (by decide) (by kernel_rfl) (fun _ _ _ h => h) _ _ _ _ (by kernel_rfl) (by kernel_rfl) (Or.inl ⟨by rfl, by intro w hSw; have hsl := slice_lh pb b.length cb f x hfx (by omega) w; go_simp⟩) hHeld ?_
    simp only [Act.put, List.setIfInBounds_toArray, List.set_cons_zero, List.set_cons_succ]
    have T0 := Tr.drew W0.heap.size w.heap.size W
    have hR0 : W.drew.ownsRow (w.heap.size + 6) 5 1 v acc.length (acc.map (Value.int .u8)) := HR.out
    have hmid : IsY W.drew (.slice (tailA pb cb f) ((b.take x).drop f).length (cb - f)) ((b.take x).drop f) := by
      have := (HV.out.1.grows HIw.out.below.drew).mid f x hfx (by omega)
      rw [List.length_drop, List.length_take, Nat.min_eq_left (by omega)]
      exact this
    have hmlen : ((b.take x).drop f).length = x - f := by rw [List.length_drop, List.length_take, Nat.min_eq_left (by omega)]
    have Hmid := Lib.hid hmid
    have HmL := Lib.hid hmlen
    have HT0 := Lib.hid T0
    clear hmid hmlen T0
    obtain ⟨s1, s2, s3⟩ := hHeld
    generalize hmd : (b.take x).drop f = mid at Hmid HmL
    rw [← HmL.out]
    have Hmd := Lib.hid hmd
    clear hmd
    refine wpAnyZ_one (j := 5) (by kernel_rfl) rfl (fun K hK => ?_)
    refine app_step rfl _ _ rfl rfl (w.heap.size + 6) v acc mid (tailA pb cb f) (cb - f) rfl rfl hR0 Hmid.out (by have := HmL.out; omega) (by simpa using hsz) ?_
    intro u5 w5 hg5
    have hown5 := hg5.own
    generalize hac5 : acc ++ mid = acc5 at hown5
    obtain ⟨p5, c5, rfl⟩ := own_shape hown5
    have Hac5 := Lib.hid hac5
    have Hown5 := Lib.hid hown5
    clear hac5 hown5
    have T5 := Tr.app (B := W0.heap.size) hR0 (by simp; omega) hg5
    have d1 := (HT0.out.trans T5).kp ⟨w.heap.size, 1, none⟩ _ (.inl (by show w.heap.size < _; omega)) c1
    have d2 := (HT0.out.trans T5).kp ⟨w.heap.size, 2, none⟩ _ (.inl (by show w.heap.size < _; omega)) c2
    have d3 := (HT0.out.trans T5).kp ⟨w.heap.size + 1, 0, none⟩ _ (.inl (by show w.heap.size + 1 < _; omega)) c3
    have d4 := (HT0.out.trans T5).kp ⟨ab, 0, none⟩ _ (.inl (by show ab < _; omega)) c4
    have hO5 : Blk w5 (w.heap.size + 2) #[v] 22 := HO.out.drew.grownBy hg5.grown (fun k e => by have := own_ge hR0 k e; omega)
    have hE5 : Blk w5 (w.heap.size + 3) #[.int .i64 (f : Int)] 3 := HIw.out.end_.drew.grownBy hg5.grown (fun k e => by have := own_ge hR0 k e; omega)
    refine hK.out _ _ (.inr ⟨hO5.cell 0 rfl, d3, hE5.cell 0 rfl⟩) ?_
    clear hK K
    have f5 := hO5.free 0
    have k5 := hO5.cell 0 rfl
    simp only [Act.put, List.setIfInBounds_toArray, List.set_cons_zero, List.set_cons_succ]
    have Hg5 := Lib.hid hg5
    have HT5 := Lib.hid T5
    have HO5 := Lib.hid hO5
    have HE5 := Lib.hid hE5
    clear hg5 T5 hO5 hE5
    refine wpAnyZ_one (j := 6) (by kernel_rfl) rfl (fun K hK => ?_)
    go_simp
    refine hK.out _ _ (.inl rfl) ?_
    clear hK K
    refine wpAnyZ_done (by kernel_rfl) ?_
    try simp only [Ends, Act.put, List.setIfInBounds_toArray, List.set_cons_zero, List.set_cons_succ]
    have hR6 := own_set Hown5.out (p := ⟨w.heap.size + 2, 0, none⟩) (by show w.heap.size + 2 < w.heap.size + 6; omega) (.slice p5 acc5.length c5)
    have HO6 := Lib.hid (HO5.out.set 0 (.slice p5 acc5.length c5))
    have HE6 := Lib.hid (HE5.out.other (a := ⟨w.heap.size + 2, 0, none⟩) (by show w.heap.size + 3 ≠ w.heap.size + 2; omega) (.slice p5 acc5.length c5))
    have T6 := HT0.out.trans (HT5.out.trans (Tr.set (B := W0.heap.size) (N := w.heap.size) (W := w5) (q := w.heap.size + 2) (.inl rfl) (.slice p5 acc5.length c5)))
    have hz6 : w.heap.size + 6 ≤ (w5.setCell ⟨w.heap.size + 2, 0, none⟩ (.slice p5 acc5.length c5)).heap.size := Nat.le_trans hsz T6.keeps.size
    generalize w5.setCell ⟨w.heap.size + 2, 0, none⟩ (.slice p5 acc5.length c5) = w6 at hR6 HO6 HE6 T6 hz6 ⊢
    clear d1 d2 d3 d4 f5 k5 HT5 HO5 HE5 Hg5 Hown5 HR s1 s2 s3 HT0 hR0 Hmid
    have e1 := T6.kp ⟨w.heap.size, 1, none⟩ _ (.inl (by show w.heap.size < _; omega)) c1
    have e2 := T6.kp ⟨w.heap.size, 2, none⟩ _ (.inl (by show w.heap.size < _; omega)) c2
    have e4 := T6.kp ⟨ab, 0, none⟩ _ (.inl (by show ab < _; omega)) c4
    have g6 : w6.cell? ⟨w.heap.size + 2, 0, none⟩ = some (.slice p5 acc5.length c5) := HO6.out.cell 0 rfl
    have f6 := HO6.out.free 0
    have HT6 := Lib.hid T6
    have HR6 := Lib.hid hR6
    clear T6 hR6 c1 c2 c3 c4 cO cE
    have hnew : IsY w6 (.slice pn new.length cn) new := HV.out.2.2.grows (HIw.out.below.trans HT6.out.below)
    have Hnew := Lib.hid hnew
    clear hnew
    have na2 : ¬ ab = w.heap.size + 2 := by omega
    have na3 : ¬ ab = w.heap.size + 3 := by omega
    gi_wp2_with (gi_at_builtin; refine app_listIn rfl _ _ rfl rfl (w.heap.size + 6) _ acc5 new pn cn rfl rfl HR6.out Hnew.out (by rw [← Hac5.out, List.length_append]; have := HmL.out; omega) hz6 ?_; intro u7 w7 hg7; have hown7 := hg7.own; generalize hac7 : acc5 ++ new = acc7 at hown7; obtain ⟨p7, c7, rfl⟩ := own_shape hown7; have T7 := Tr.app (B := W0.heap.size) (N := w.heap.size) HR6.out (by omega) hg7; have f7 := T7.kp ⟨w.heap.size, 1, none⟩ _ (.inl (by show w.heap.size < _; omega)) e1; have i4 := T7.kp ⟨ab, 0, none⟩ _ (.inl (by show ab < _; omega)) e4; have hO7 := HO6.out.grownBy hg7.grown (fun k e => by have := own_ge HR6.out k e; omega); have hE7 := HE6.out.grownBy hg7.grown (fun k e => by have := own_ge HR6.out k e; omega); have fr7 := hO7.free 0; have fe7 := hE7.free 0; have gr7 := hO7.cell 0 rfl; have ge7 := hE7.cell 0 rfl; have Hac7 := Lib.hid hac7; have Hown7 := Lib.hid hown7; have HT7 := Lib.hid T7; have HO7 := Lib.hid hO7; have HE7 := Lib.hid hE7; clear hac7 hown7 T7 hO7 hE7 hg7)
    all_goals
      have T9 := HT6.out.trans (HT7.out.trans ((Tr.set (B := W0.heap.size) (N := w.heap.size) (W := w7) (q := w.heap.size + 2) (.inl rfl) (.slice p7 acc7.length c7)).trans (Tr.set (B := W0.heap.size) (N := w.heap.size) (q := w.heap.size + 3) (.inr rfl) (.int .i64 ((x : Int) + (old.length : Int))))))
      have hmk : ∀ R : List Int → Nat → Prop, R acc7 (x + old.length) → RepI w.heap.size W0 (SRep w.heap.size) w b R (x + old.length) ((w7.setCell ⟨w.heap.size + 2, 0, none⟩ (.slice p7 acc7.length c7)).setCell ⟨w.heap.size + 3, 0, none⟩ (.int .i64 ((x : Int) + (old.length : Int)))) := fun R hRR =>
        ⟨by omega, HIw.out.kp.trans T9.kp, HIw.out.below.trans T9.below, ((HE7.out.other (a := ⟨w.heap.size + 2, 0, none⟩) (by show w.heap.size + 3 ≠ w.heap.size + 2; omega) _).set 0 _).cast (by simp), Nat.le_trans hz6 (Nat.le_trans HT7.out.keeps.size (by simp)),
          acc7, _, (HO7.out.set 0 (.slice p7 acc7.length c7)).other (a := ⟨w.heap.size + 3, 0, none⟩) (by show w.heap.size + 2 ≠ w.heap.size + 3; omega) _,
          own_set (own_set Hown7.out (p := ⟨w.heap.size + 2, 0, none⟩) (by show w.heap.size + 2 < w.heap.size + 6; omega) _) (p := ⟨w.heap.size + 3, 0, none⟩) (by show w.heap.size + 3 < w.heap.size + 6; omega) _,
          by rw [← Hac7.out, ← Hac5.out, ← Hmd.out]; exact ((HY.out.append ((HV.out.1.byt.take x).drop f)).append HV.out.2.2.byt), hRR, by rw [← Hac7.out, ← Hac5.out, List.length_append, List.length_append, HmL.out]; omega⟩
      have hac : acc7 = acc ++ (b.take x).drop f ++ new := by rw [← Hac7.out, ← Hac5.out, Hmd.out]
    · have h9 : (!all) = true := by assumption
      obtain rfl : all = false := by simpa using h9
      exact ⟨T9.keeps, rfl, hmk _ (by rw [hac]; exact inv_exit h0 HX.out HRi.out)⟩
    · have h9 : (!all) = false := by assumption
      obtain rfl : all = true := by simpa using h9
      exact ⟨T9.keeps, T9.kp, hmk _ (by rw [hac]; exact inv_step h0 HX.out HRi.out)⟩
  case done =>
    rintro D f W hD hN hI hK
    obtain ⟨acc, v, hO, hR, hY, hRj, hl⟩ := hI.out
    have hRi := inv_done hN hRj
    have HD := Lib.hid hK
    have HDl := Lib.hid hD
    clear hK hN hRj hD
    have cO := hO.cell 0 rfl
    have cE := hI.end_.cell 0 rfl
    have c3 := hI.kp ⟨w.heap.size + 1, 0, none⟩ _ (.inl (by show w.heap.size + 1 < _; omega)) HC.out.2.2.1
    have hsz := hI.size
    have hfb := hI.fle
    have HIw := Lib.hid hI
    have HO := Lib.hid hO
    have HR := Lib.hid hR
    have HY := Lib.hid hY
    have HRi := Lib.hid hRi
    clear hI hO hR hY hRi
    gi_wp2
    refine wpIn_held_wide 6 (fun W' => W'.cell? ⟨w.heap.size + 2, 0, none⟩ = some v ∧ W'.cell? ⟨w.heap.size + 1, 0, none⟩ = some (.slice pb b.length cb) ∧ W'.cell? ⟨w.heap.size + 3, 0, none⟩ = some (.int .i64 (f : Int))) (by kernel_rfl) ⟨cO, c3, cE⟩ (fun hHeld => ?_)
    refine wpAnyZ_take (i := 0) (v := v) rfl (by kernel_rfl) (by decide) (by kernel_rfl) (fun _ _ _ h => h) _ _ _ _ (by kernel_rfl) (by kernel_rfl) (Or.inl ⟨by rfl, by intro w hSw; obtain ⟨s1, s2, s3⟩ := hSw; go_simp⟩) hHeld ?_
    simp only [Act.put, List.setIfInBounds_toArray, List.set_cons_zero, List.set_cons_succ]
    refine wpAnyZ_take (i := 1) (v := .slice pb b.length cb) rfl (by kernel_rfl) (by decide) (by kernel_rfl) (fun _ _ _ h => h) _ _ _ _ (by kernel_rfl) (by kernel_rfl) (Or.inl ⟨by rfl, by intro w hSw; obtain ⟨s1, s2, s3⟩ := hSw; go_simp⟩) hHeld ?_
    simp only [Act.put, List.setIfInBounds_toArray, List.set_cons_zero, List.set_cons_succ]
    refine wpAnyZ_take (i := 2) (v := .int .i64 (f : Int)) rfl (by kernel_rfl) (by decide) (by kernel_rfl) (fun _ _ _ h => h) _ _ _ _ (by kernel_rfl) (by kernel_rfl) (Or.inl ⟨by rfl, by intro w hSw; obtain ⟨s1, s2, s3⟩ := hSw; go_simp⟩) hHeld ?_
    simp only [Act.put, List.setIfInBounds_toArray, List.set_cons_zero, List.set_cons_succ]
    refine wpAnyZ_take (i := 3) (v := .slice (tailA pb cb f) (b.length - f) (cb - f)) rfl (by kernel_rfl) (by decide) (by kernel_rfl) (fun _ _ _ h => h) _ _ _ _ (by kernel_rfl) (by kernel_rfl) (Or.inl ⟨by rfl, by intro w hSw; have hsl := slice_from pb b.length cb f hfb w; go_simp⟩) hHeld ?_
    simp only [Act.put, List.setIfInBounds_toArray, List.set_cons_zero, List.set_cons_succ]
    have hR0 : W.drew.ownsRow (w.heap.size + 6) 5 1 v acc.length (acc.map (Value.int .u8)) := HR.out
    have hmid : IsY W.drew (.slice (tailA pb cb f) (b.drop f).length (cb - f)) (b.drop f) := by
      have := (HV.out.1.grows HIw.out.below.drew).drop f hfb
      rw [List.length_drop]
      exact this
    have hmlen : (b.drop f).length = b.length - f := List.length_drop
    have Hmid := Lib.hid hmid
    have HmL := Lib.hid hmlen
    clear hmid hmlen
    have HR0 := Lib.hid hR0
    obtain ⟨s1, s2, s3⟩ := hHeld
    generalize hmd : b.drop f = mid at Hmid HmL
    rw [← HmL.out]
    have Hmd := Lib.hid hmd
    clear hmd hR0
    refine wpAnyZ_one (j := 4) (by kernel_rfl) rfl (fun K hK => ?_)
    refine app_step rfl _ _ rfl rfl (w.heap.size + 6) v acc mid (tailA pb cb f) (cb - f) rfl rfl HR0.out Hmid.out (by have := HmL.out; omega) (by simpa using hsz) ?_
    intro u5 w5 hg5
    have hd5 := (Below.refl w.heap.size w).trans HIw.out.below.drew |>.grown hg5.grown (by have := hsz; simp; omega) (fun k e => by have := own_ge HR0.out k e; omega)
    have T5 := Tr.app (B := W0.heap.size) HR0.out (by simp; omega) hg5
    have hD5 := ((Tr.drew W0.heap.size w.heap.size W).keeps.trans T5.keeps).same D _ HDl.out HD.out rfl
    have d3 := T5.kp ⟨w.heap.size + 1, 0, none⟩ _ (.inl (by show w.heap.size + 1 < _; omega)) s2
    have hO5 : Blk w5 (w.heap.size + 2) #[v] 22 := HO.out.drew.grownBy hg5.grown (fun k e => by have := own_ge HR0.out k e; omega)
    have hE5 : Blk w5 (w.heap.size + 3) #[.int .i64 (f : Int)] 3 := HIw.out.end_.drew.grownBy hg5.grown (fun k e => by have := own_ge HR0.out k e; omega)
    have hy5 : IsY w5 u5 (RTgt all old new b) := by
      have := own_isY ((HY.out.append ((HV.out.1.byt.drop f)))) (by rw [Hmd.out]; exact hg5.own)
      rwa [(show acc ++ b.drop f = _ from HRi.out)] at this
    have S5 := Lib.hid (And.intro (hO5.cell 0 rfl) (And.intro d3 (hE5.cell 0 rfl)))
    refine hK.out _ _ (.inr S5.out) ?_
    clear hK K
    have Hy5 := Lib.hid hy5
    have Hd5 := Lib.hid hd5
    have HD5 := Lib.hid hD5
    clear hy5 hd5 hD5 d3 hO5 hE5 T5 hg5 s1 s2 s3
    simp only [Act.put, List.setIfInBounds_toArray, List.set_cons_zero, List.set_cons_succ]
    refine wpAnyZ_one (j := 5) (by kernel_rfl) rfl (fun K hK => ?_)
    go_simp
    refine hK.out _ _ (.inr S5.out) ?_
    clear hK K
    try simp only [Act.put, List.setIfInBounds_toArray, List.set_cons_zero, List.set_cons_succ]
    refine wpAnyZ_one (j := 6) (by kernel_rfl) rfl (fun K hK => ?_)
    go_simp
    refine hK.out _ _ (.inl rfl) ?_
    clear hK K
    refine wpAnyZ_done (by kernel_rfl) ?_
    try simp only [Ends, Act.put, List.setIfInBounds_toArray, List.set_cons_zero, List.set_cons_succ]
    gi_wp2
    refine ⟨by simp, .inl ⟨_, _, rfl, run_takeDeferred HD5.out, ?_⟩⟩
    have hb6 := belowK_b (n₀ := w.heap.size) (w := W0) (by omega) w5 D _ (.deferred none) HDl.out HD5.out rfl rfl
    exact ⟨_, results_tmp2 rfl _ _ _, u5, rfl, Hy5.out.kept (fun a u ha => (KpC.put (fun _ => True) w5 D _ (.deferred none) HD5.out rfl) a u trivial ha), Hd5.out.trans hb6⟩
  case stop =>
    rintro D id f W hD ⟨hid, hI⟩ hK
    cases hid
    obtain ⟨acc, v, hO, hR, hY, hRi, hl⟩ := hI.out
    have HD := Lib.hid hK
    have HDl := Lib.hid hD
    clear hK hD
    have cO := hO.cell 0 rfl
    have cE := hI.end_.cell 0 rfl
    have c3 := hI.kp ⟨w.heap.size + 1, 0, none⟩ _ (.inl (by show w.heap.size + 1 < _; omega)) HC.out.2.2.1
    have hsz := hI.size
    have hfb := hI.fle
    have HIw := Lib.hid hI
    have HO := Lib.hid hO
    have HR := Lib.hid hR
    have HY := Lib.hid hY
    have HRi := Lib.hid hRi
    clear hI hO hR hY hRi
    gi_wp2
    refine wpIn_held_wide 6 (fun W' => W'.cell? ⟨w.heap.size + 2, 0, none⟩ = some v ∧ W'.cell? ⟨w.heap.size + 1, 0, none⟩ = some (.slice pb b.length cb) ∧ W'.cell? ⟨w.heap.size + 3, 0, none⟩ = some (.int .i64 (f : Int))) (by kernel_rfl) ⟨cO, c3, cE⟩ (fun hHeld => ?_)
    refine wpAnyZ_take (i := 0) (v := v) rfl (by kernel_rfl) (by decide) (by kernel_rfl) (fun _ _ _ h => h) _ _ _ _ (by kernel_rfl) (by kernel_rfl) (Or.inl ⟨by rfl, by intro w hSw; obtain ⟨s1, s2, s3⟩ := hSw; go_simp⟩) hHeld ?_
    simp only [Act.put, List.setIfInBounds_toArray, List.set_cons_zero, List.set_cons_succ]
    refine wpAnyZ_take (i := 1) (v := .slice pb b.length cb) rfl (by kernel_rfl) (by decide) (by kernel_rfl) (fun _ _ _ h => h) _ _ _ _ (by kernel_rfl) (by kernel_rfl) (Or.inl ⟨by rfl, by intro w hSw; obtain ⟨s1, s2, s3⟩ := hSw; go_simp⟩) hHeld ?_
    simp only [Act.put, List.setIfInBounds_toArray, List.set_cons_zero, List.set_cons_succ]
    refine wpAnyZ_take (i := 2) (v := .int .i64 (f : Int)) rfl (by kernel_rfl) (by decide) (by kernel_rfl) (fun _ _ _ h => h) _ _ _ _ (by kernel_rfl) (by kernel_rfl) (Or.inl ⟨by rfl, by intro w hSw; obtain ⟨s1, s2, s3⟩ := hSw; go_simp⟩) hHeld ?_
    simp only [Act.put, List.setIfInBounds_toArray, List.set_cons_zero, List.set_cons_succ]
    refine wpAnyZ_take (i := 3) (v := .slice (tailA pb cb f) (b.length - f) (cb - f)) rfl (by kernel_rfl) (by decide) (by kernel_rfl) (fun _ _ _ h => h) _ _ _ _ (by kernel_rfl) (by kernel_rfl) (Or.inl ⟨by rfl, by intro w hSw; have hsl := slice_from pb b.length cb f hfb w; go_simp⟩) hHeld ?_
    simp only [Act.put, List.setIfInBounds_toArray, List.set_cons_zero, List.set_cons_succ]
    have hR0 : W.drew.ownsRow (w.heap.size + 6) 5 1 v acc.length (acc.map (Value.int .u8)) := HR.out
    have hmid : IsY W.drew (.slice (tailA pb cb f) (b.drop f).length (cb - f)) (b.drop f) := by
      have := (HV.out.1.grows HIw.out.below.drew).drop f hfb
      rw [List.length_drop]
      exact this
    have hmlen : (b.drop f).length = b.length - f := List.length_drop
    have Hmid := Lib.hid hmid
    have HmL := Lib.hid hmlen
    clear hmid hmlen
    have HR0 := Lib.hid hR0
    obtain ⟨s1, s2, s3⟩ := hHeld
    generalize hmd : b.drop f = mid at Hmid HmL
    rw [← HmL.out]
    have Hmd := Lib.hid hmd
    clear hmd hR0
    refine wpAnyZ_one (j := 4) (by kernel_rfl) rfl (fun K hK => ?_)
    refine app_step rfl _ _ rfl rfl (w.heap.size + 6) v acc mid (tailA pb cb f) (cb - f) rfl rfl HR0.out Hmid.out (by have := HmL.out; omega) (by simpa using hsz) ?_
    intro u5 w5 hg5
    have hd5 := (Below.refl w.heap.size w).trans HIw.out.below.drew |>.grown hg5.grown (by have := hsz; simp; omega) (fun k e => by have := own_ge HR0.out k e; omega)
    have T5 := Tr.app (B := W0.heap.size) HR0.out (by simp; omega) hg5
    have hD5 := ((Tr.drew W0.heap.size w.heap.size W).keeps.trans T5.keeps).same D _ HDl.out HD.out rfl
    have d3 := T5.kp ⟨w.heap.size + 1, 0, none⟩ _ (.inl (by show w.heap.size + 1 < _; omega)) s2
    have hO5 : Blk w5 (w.heap.size + 2) #[v] 22 := HO.out.drew.grownBy hg5.grown (fun k e => by have := own_ge HR0.out k e; omega)
    have hE5 : Blk w5 (w.heap.size + 3) #[.int .i64 (f : Int)] 3 := HIw.out.end_.drew.grownBy hg5.grown (fun k e => by have := own_ge HR0.out k e; omega)
    have hy5 : IsY w5 u5 (RTgt all old new b) := by
      have := own_isY ((HY.out.append ((HV.out.1.byt.drop f)))) (by rw [Hmd.out]; exact hg5.own)
      rwa [(show acc ++ b.drop f = _ from HRi.out)] at this
    have S5 := Lib.hid (And.intro (hO5.cell 0 rfl) (And.intro d3 (hE5.cell 0 rfl)))
    refine hK.out _ _ (.inr S5.out) ?_
    clear hK K
    have Hy5 := Lib.hid hy5
    have Hd5 := Lib.hid hd5
    have HD5 := Lib.hid hD5
    clear hy5 hd5 hD5 d3 hO5 hE5 T5 hg5 s1 s2 s3
    simp only [Act.put, List.setIfInBounds_toArray, List.set_cons_zero, List.set_cons_succ]
    refine wpAnyZ_one (j := 5) (by kernel_rfl) rfl (fun K hK => ?_)
    go_simp
    refine hK.out _ _ (.inr S5.out) ?_
    clear hK K
    try simp only [Act.put, List.setIfInBounds_toArray, List.set_cons_zero, List.set_cons_succ]
    refine wpAnyZ_one (j := 6) (by kernel_rfl) rfl (fun K hK => ?_)
    go_simp
    refine hK.out _ _ (.inl rfl) ?_
    clear hK K
    refine wpAnyZ_done (by kernel_rfl) ?_
    try simp only [Ends, Act.put, List.setIfInBounds_toArray, List.set_cons_zero, List.set_cons_succ]
    gi_wp2
    refine ⟨by simp, .inl ⟨_, _, rfl, run_takeDeferred HD5.out, ?_⟩⟩
    have hb6 := belowK_b (n₀ := w.heap.size) (w := W0) (by omega) w5 D _ (.deferred none) HDl.out HD5.out rfl rfl
    exact ⟨_, results_tmp2 rfl _ _ _, u5, rfl, Hy5.out.kept (fun a u ha => (KpC.put (fun _ => True) w5 D _ (.deferred none) HD5.out rfl) a u trivial ha), Hd5.out.trans hb6⟩
end Go.Proofs.YtkhphiilnplgjaaGreatDoor

namespace Go.Proofs.YtkhphiilnplgjaaGreatDoor
open Go.RowKit Go.Lib

theorem swI_low {z : Int} (h : 0 ≤ z ∧ z < 256) : swI (rng 65 26) z = lowI z := by
  have ha : ((List.range 256).all fun n => decide (swI (rng 65 26) (n : Int) = lowI (n : Int))) = true := by kernel_rfl
  have := List.all_eq_true.1 ha z.toNat (List.mem_range.2 (by omega))
  rw [decide_eq_true_iff, Int.toNat_of_nonneg h.1] at this
  exact this
theorem swI_up {z : Int} (h : 0 ≤ z ∧ z < 256) : swI (rng 97 26) z = upI z := by
  have ha : ((List.range 256).all fun n => decide (swI (rng 97 26) (n : Int) = upI (n : Int))) = true := by kernel_rfl
  have := List.all_eq_true.1 ha z.toNat (List.mem_range.2 (by omega))
  rw [decide_eq_true_iff, Int.toNat_of_nonneg h.1] at this
  exact this
theorem map_sw {c : BitVec 256} {f : Int → Int} {l : List Int} (hf : ∀ z, 0 ≤ z ∧ z < 256 → swI c z = f z) (hl : Byt l) : l.map (swI c) = l.map f := List.map_congr_left fun z hz => hf z (hl z hz)
theorem calls_args {P : Program} {g : Nat} {a b : Array Value} {w : World} {Q : Ending → World → Prop} (h : a = b) (hc : Calls P g b w Q) : Calls P g a w Q := h ▸ hc
theorem doI_form {k : Int} {old new b : List Int} {x y z : Nat} {r : Option (List Int)} (hval : valI k old new = decide (x ≤ old.length ∧ old.length ≤ y ∧ new.length ≤ z)) (hr : r = doK k old new b) : (if x ≤ old.length ∧ old.length ≤ y ∧ new.length ≤ z then r else none) = doI k old new b := by
  unfold doI
  rw [hval, hr]
  by_cases h : x ≤ old.length ∧ old.length ≤ y ∧ new.length ≤ z <;> simp [h]
theorem len_iff0 {old new : List Int} : decide (old.length = 0 ∧ new.length = 0) = decide (0 ≤ old.length ∧ old.length ≤ 0 ∧ new.length ≤ 0) := decide_eq_decide.2 (by omega)
set_option maxRecDepth 100000 in
theorem do_any (v u : Value) (k : Int) (old new b : List Int) (w : World) (hv : IsOp w v k old new) (hu : IsY w u b) (ho : old.length ≤ 140737488351232) (hn : new.length ≤ 140737488351232) (hb : b.length ≤ 4294967280) (hM : MaxOk w) :
    Calls Tryz.prog 14 #[v, u] w (DoRes w (doI k old new b)) := by
  by_cases hk : 1 ≤ k ∧ k ≤ 8
  · have hcases : k = 1 ∨ k = 2 ∨ k = 3 ∨ k = 4 ∨ k = 5 ∨ k = 6 ∨ k = 7 ∨ k = 8 := by omega
    rcases hcases with rfl | rfl | rfl | rfl | rfl | rfl | rfl | rfl
    · rw [← doI_form (x := 0) (y := 0) (z := 0) (r := some (b.map lowI)) ((valI_1 _ _ _ (by omega)).trans len_iff0) rfl]
      refine do_gen 1 0 0 0 87 88 (fun bl _ _ _ _ _ => #[.pointer (some ⟨bl, 0, none⟩)]) (fun bl _ _ _ _ _ => #[.pointer (some ⟨bl, 0, none⟩)]) v u old new b _ w hv hu (by omega) (by omega) (fun _ _ _ _ _ _ => ⟨rfl, rfl, rfl, rfl, rfl⟩) (by omega) (by omega) (by omega) ho hn
        (enters_of Tryz.func87 (by kernel_rfl) rfl) ?_
      intro _ _ _ W v2 bl bu p1 p2 r1 r2 _ hB hv2 hu2
      refine calls_args (by simp) ((letters_any v2 u _ old new _ bl b W hv2 hu2 hB.low (by omega) (fun z hz => by rw [swI_low hz]; exact lowI_byte hz)).mono ?_)
      rintro e w' ⟨r, rfl, h1, h2⟩
      exact ⟨r, rfl, by rw [← map_sw (fun z hz => swI_low hz) hu.byt]; exact h1, h2⟩
    · rw [← doI_form (x := 0) (y := 0) (z := 0) (r := some (b.map upI)) ((valI_1 _ _ _ (by omega)).trans len_iff0) rfl]
      refine do_gen 2 0 0 0 87 88 (fun _ bu _ _ _ _ => #[.pointer (some ⟨bu, 0, none⟩)]) (fun _ bu _ _ _ _ => #[.pointer (some ⟨bu, 0, none⟩)]) v u old new b _ w hv hu (by omega) (by omega) (fun _ _ _ _ _ _ => ⟨rfl, rfl, rfl, rfl, rfl⟩) (by omega) (by omega) (by omega) ho hn
        (enters_of Tryz.func87 (by kernel_rfl) rfl) ?_
      intro _ _ _ W v2 bl bu p1 p2 r1 r2 _ hB hv2 hu2
      refine calls_args (by simp) ((letters_any v2 u _ old new _ bu b W hv2 hu2 hB.up (by omega) (fun z hz => by rw [swI_up hz]; exact upI_byte hz)).mono ?_)
      rintro e w' ⟨r, rfl, h1, h2⟩
      exact ⟨r, rfl, by rw [← map_sw (fun z hz => swI_up hz) hu.byt]; exact h1, h2⟩
    · rw [← doI_form (x := 0) (y := 0) (z := 0) (r := dec false b) ((valI_1 _ _ _ (by omega)).trans len_iff0) rfl]
      refine do_gen 3 0 0 0 96 98 (fun _ _ p1 _ _ _ => #[.pointer (some ⟨p1, 0, none⟩)]) (fun _ _ p1 _ _ _ => #[.pointer (some ⟨p1, 0, none⟩)]) v u old new b _ w hv hu (by omega) (by omega) (fun _ _ _ _ _ _ => ⟨rfl, rfl, rfl, rfl, rfl⟩) (by omega) (by omega) (by omega) ho hn
        (enters_of Tryz.func96 (by kernel_rfl) rfl) ?_
      intro _ _ _ W v2 bl bu p1 p2 r1 r2 _ hB hv2 hu2
      exact calls_args (by simp) (percent1_any v2 u _ old new b false p1 W hv2 hu2 hB.strict (by omega))
    · rw [← doI_form (x := 0) (y := 0) (z := 0) (r := dec true b) ((valI_1 _ _ _ (by omega)).trans len_iff0) rfl]
      refine do_gen 4 0 0 0 96 98 (fun _ _ _ p2 _ _ => #[.pointer (some ⟨p2, 0, none⟩)]) (fun _ _ _ p2 _ _ => #[.pointer (some ⟨p2, 0, none⟩)]) v u old new b _ w hv hu (by omega) (by omega) (fun _ _ _ _ _ _ => ⟨rfl, rfl, rfl, rfl, rfl⟩) (by omega) (by omega) (by omega) ho hn
        (enters_of Tryz.func96 (by kernel_rfl) rfl) ?_
      intro _ _ _ W v2 bl bu p1 p2 r1 r2 _ hB hv2 hu2
      exact calls_args (by simp) (percent1_any v2 u _ old new b true p2 W hv2 hu2 hB.lax (by omega))
    · rw [← doI_form (x := 1) (y := 4) (z := 4) (r := some (rep old new 1 b)) (valI_5 _ _ _ (by omega)) rfl]
      refine do_gen 5 1 4 4 100 102 (fun _ _ _ _ r1 _ => #[.pointer (some ⟨r1, 0, none⟩)]) (fun _ _ _ _ r1 _ => #[.pointer (some ⟨r1, 0, none⟩)]) v u old new b _ w hv hu (by omega) (by omega) (fun _ _ _ _ _ _ => ⟨rfl, rfl, rfl, rfl, rfl⟩) (by omega) (by omega) (by omega) ho hn
        (enters_of Tryz.func100 (by kernel_rfl) rfl) ?_
      intro q1 q2 q3 W v2 bl bu p1 p2 r1 r2 hW hB hv2 hu2
      exact calls_args (by simp) (replacement_any v2 u _ old new b false r1 W hv2 hu2 hB.first (by omega) (by omega) (by omega) hb (hM.grows hW hM.lt))
    · rw [← doI_form (x := 1) (y := 4) (z := 4) (r := some (rep old new b.length b)) (valI_5 _ _ _ (by omega)) rfl]
      refine do_gen 6 1 4 4 100 102 (fun _ _ _ _ _ r2 => #[.pointer (some ⟨r2, 0, none⟩)]) (fun _ _ _ _ _ r2 => #[.pointer (some ⟨r2, 0, none⟩)]) v u old new b _ w hv hu (by omega) (by omega) (fun _ _ _ _ _ _ => ⟨rfl, rfl, rfl, rfl, rfl⟩) (by omega) (by omega) (by omega) ho hn
        (enters_of Tryz.func100 (by kernel_rfl) rfl) ?_
      intro q1 q2 q3 W v2 bl bu p1 p2 r1 r2 hW hB hv2 hu2
      exact calls_args (by simp) (replacement_any v2 u _ old new b true r2 W hv2 hu2 hB.all (by omega) (by omega) (by omega) hb (hM.grows hW hM.lt))
    · rw [← doI_form (x := 1) (y := 8) (z := 0) (r := some (b.filter fun z => !old.contains z)) ((valI_7 _ _).trans (decide_eq_decide.2 (by omega))) rfl]
      refine do_gen 7 1 8 0 105 107 (fun _ _ _ _ _ _ => #[]) (fun _ _ _ _ _ _ => #[]) v u old new b _ w hv hu (by omega) (by omega) (fun _ _ _ _ _ _ => ⟨rfl, rfl, rfl, rfl, rfl⟩) (by omega) (by omega) (by omega) ho hn
        (enters_of Tryz.func105 (by kernel_rfl) rfl) ?_
      intro q1 q2 q3 W v2 bl bu p1 p2 r1 r2 hW hB hv2 hu2
      exact calls_args (by simp) (drop_any v2 u _ old new b W hv2 hu2 ho (by omega))
    · rw [← doI_form (x := 1) (y := 1) (z := 0) (r := some (sqz (old.getD 0 0) false b)) ((valI_8 _ _).trans (decide_eq_decide.2 (by omega))) rfl]
      refine do_gen 8 1 1 0 109 110 (fun _ _ _ _ _ _ => #[]) (fun _ _ _ _ _ _ => #[]) v u old new b _ w hv hu (by omega) (by omega) (fun _ _ _ _ _ _ => ⟨rfl, rfl, rfl, rfl, rfl⟩) (by omega) (by omega) (by omega) ho hn
        (enters_of Tryz.func109 (by kernel_rfl) rfl) ?_
      intro q1 q2 q3 W v2 bl bu p1 p2 r1 r2 hW hB hv2 hu2
      have hc : old[0]? = some (old.getD 0 0) := by
        rw [List.getD_eq_getElem?_getD, List.getElem?_eq_getElem (by omega)]; rfl
      exact calls_args (by simp) (squeeze_any v2 u _ _ old new b W hv2 hu2 hc ho (by omega))
  · have : doI k old new b = none := by unfold doI; rw [valI_no k old new hk]; rfl
    rw [this]
    exact do_bad v u k old new w hv hk
theorem rdo_any (v u : Value) (k : Int) (old new b : List Int) (w : World) (hv : IsOp w v k old new) (hu : IsY w u b) (ho : old.length ≤ 140737488351232) (hn : new.length ≤ 140737488351232) (hb : b.length ≤ 4294967280) :
    Calls Tryz.prog 15 #[v, u] w (DoRes w (doI k old new b)) := by
  by_cases hval : valI k old new = true
  · have hk : 1 ≤ k ∧ k ≤ 8 := by
      by_cases hk : 1 ≤ k ∧ k ≤ 8
      · exact hk
      · rw [valI_no k old new hk] at hval; cases hval
    have hdo : doI k old new b = doK k old new b := by unfold doI; rw [if_pos hval]
    rw [hdo]
    have hcases : k = 1 ∨ k = 2 ∨ k = 3 ∨ k = 4 ∨ k = 5 ∨ k = 6 ∨ k = 7 ∨ k = 8 := by omega
    rcases hcases with rfl | rfl | rfl | rfl | rfl | rfl | rfl | rfl
    · exact rdo_1 v u old new b w hv hu ho hn (by omega) hval
    · exact rdo_2 v u old new b w hv hu ho hn (by omega) hval
    · exact rdo_3 v u old new b w hv hu ho hn (by omega) hval
    · exact rdo_4 v u old new b w hv hu ho hn (by omega) hval
    · exact rdo_5 v u old new b w hv hu ho hn (by omega) hval
    · exact rdo_6 v u old new b w hv hu ho hn (by omega) hval
    · exact rdo_7 v u old new b w hv hu ho hn (by omega) hval
    · have h1 : old.length = 1 := by rw [valI_8, decide_eq_true_iff] at hval; exact hval.1
      have hc : old[0]? = some (old.getD 0 0) := by
        rw [List.getD_eq_getElem?_getD, List.getElem?_eq_getElem (by omega)]; rfl
      exact rdo_8 _ v u old new b hc w hv hu ho hn (by omega) hval
  · have : doI k old new b = none := by unfold doI; rw [if_neg hval]
    rw [this]
    exact rdo_bad k v u old new b w hv hu ho hn (by omega) (by simpa using hval)
end Go.Proofs.YtkhphiilnplgjaaGreatDoor

namespace Go.Proofs.YtkhphiilnplgjaaGreatDoor
open Go.RowKit Go.Lib

theorem results_mach (tmps : Array Value) (w : World) (g : Nat) (cs : Array Value) (hp : tmps.getD 2 undef = .pointer (some ⟨g, 0, none⟩)) (hg : Blk w g cs 43) (hs : cs.size = 4) :
    (results Tryz.f22 tmps).run Tryz.prog w = .ok (.tuple #[.agg cs, tmps.getD 3 undef]) w := by
  rw [results_cell_tmp (p := 2) (u := 3) (ty := 43) rfl, hp]
  have h2 := run_loadVar_row (P := Tryz.prog) w g 43 43 cs (0, 0) _ hg.is Tryz.underlying43 rfl (by rw [trSize, hs])
  simp [asAddr, Result.andThen, h2]
def zeroT : Value := .agg #[.slice none 0 0, .slice none 0 0, .slice none 0 0, .slice none 0 0]
set_option maxRecDepth 100000 in
set_option maxHeartbeats 4000000 in
theorem mach_gen (k a b c F3 F4 : Nat) (C3 C4 : Nat → Nat → Nat → Nat → Nat → Nat → Array Value) (v : Value) (old new : List Int) (cs : List (BitVec 256)) (rows : List (List (Int × Pcs))) (fins : List Bool) (ends : List (List Int)) (w : World) (hv : IsOp w v (k : Int) old new) (hk : 1 ≤ k) (hk8 : k ≤ 8)
    (hC : ∀ bl bu p1 p2 r1 r2, (kindC bl bu p1 p2 r1 r2)[k * 5]? = some (.int .i64 (a : Int)) ∧ (kindC bl bu p1 p2 r1 r2)[k * 5 + 1]? = some (.int .i64 (b : Int)) ∧ (kindC bl bu p1 p2 r1 r2)[k * 5 + 2]? = some (.int .i64 (c : Int)) ∧
      (kindC bl bu p1 p2 r1 r2)[k * 5 + 3]? = some (.func (.func F3) #[] (C3 bl bu p1 p2 r1 r2)) ∧ (kindC bl bu p1 p2 r1 r2)[k * 5 + 4]? = some (.func (.func F4) #[] (C4 bl bu p1 p2 r1 r2)))
    (ha : a ≤ 100) (hb : b ≤ 100) (hc : c ≤ 100) (ho : old.length ≤ 140737488351232) (hn : new.length ≤ 140737488351232) (hF : ∀ args w, (callFunc F4 args).run Tryz.prog w = .ok (.enter F4 args) w)
    (hok : a ≤ old.length ∧ old.length ≤ b ∧ new.length ≤ c)
    (hD : ∀ W v2 bl bu p1 p2 r1 r2, Below w.heap.size w W → Boxes W bl bu p1 p2 r1 r2 → IsOp W v2 (k : Int) old new → Calls Tryz.prog F4 (#[v2] ++ C4 bl bu p1 p2 r1 r2) W fun e w' => ∃ u, e = .returned u ∧ TrAt W.heap.size w' u cs rows fins ends ∧ Below W.heap.size W w') :
    Calls Tryz.prog 22 #[v] w fun e w' => ∃ u, e = .returned (.tuple #[u, .int .i64 0]) ∧ TrAt w.heap.size w' u cs rows fins ends ∧ Below w.heap.size w w' := by
  obtain ⟨po, co, pn, cn, rfl, h1, h2, c1, c2⟩ := hv.shape
  have D0 := (Blk.new w #[.int .i64 k, .slice po old.length co, .slice pn new.length cn] 24).alloc (.cells #[.slice none 0 0, .slice none 0 0, .slice none 0 0, .slice none 0 0] 43)
  have R0 := Blk.alloc1 w #[.int .i64 k, .slice po old.length co, .slice pn new.length cn] #[.slice none 0 0, .slice none 0 0, .slice none 0 0, .slice none 0 0] 24 43
  have hbw1 : Below w.heap.size w ((w.alloc (.cells #[.int .i64 k, .slice po old.length co, .slice pn new.length cn] 24)).alloc (.cells #[.slice none 0 0, .slice none 0 0, .slice none 0 0, .slice none 0 0] 43)) := by go_grown
  have hsz : ((w.alloc (.cells #[.int .i64 k, .slice po old.length co, .slice pn new.length cn] 24)).alloc (.cells #[.slice none 0 0, .slice none 0 0, .slice none 0 0, .slice none 0 0] 43)).heap.size = w.heap.size + 2 := by simp
  obtain ⟨x0, x1, x2⟩ := (⟨D0.cell 0 rfl, D0.cell 1 rfl, D0.cell 2 rfl⟩ : _ ∧ _ ∧ _)
  have HI := Lib.hid (fun W (hW : Below w.heap.size w W) => hv.grows hW)
  have HD := Lib.hid hD
  have HCC := Lib.hid hC
  have HX := Lib.hid (decide_eq_true hok)
  clear hv h1 h2 hD hC hok
  go_enter Tryz.func22, Tryz.ntmps22
  go_wp2_with fail
  generalize ((w.alloc (.cells #[.int .i64 k, .slice po old.length co, .slice pn new.length cn] 24)).alloc (.cells #[.slice none 0 0, .slice none 0 0, .slice none 0 0, .slice none 0 0] 43)) = w1 at D0 R0 hbw1 hsz x0 x1 x2 ⊢
  refine (kindOf_gen k a b c F3 F4 C3 C4 _ old new w1 (HI.out w1 hbw1) hk hk8 HCC.out ha hb hc ho hn).mono ?_
  rintro e w2 ⟨bl, bu, p1, p2, r1, r2, rfl, HB, hb2⟩
  have D2 := D0.grows hb2
  have R2 := R0.grows hb2
  have hbw2 := below_two hbw1 hb2
  have hDl := D2.lt
  have hz2 := hb2.size
  have HB2 := Lib.hid HB
  have hsf := @run_store_func
  clear D0 R0 hb2 hbw1 HB HCC x0 x1 x2
  have x0 : w2.cell? ⟨w.heap.size, 0, none⟩ = some (.int .i64 k) := D2.cell 0 rfl
  have x1 : w2.cell? ⟨w.heap.size, 1, none⟩ = some (.slice po old.length co) := D2.cell 1 rfl
  have x2 : w2.cell? ⟨w.heap.size, 2, none⟩ = some (.slice pn new.length cn) := D2.cell 2 rfl
  generalize C3 bl bu p1 p2 r1 r2 = G3
  generalize h4 : C4 bl bu p1 p2 r1 r2 = G4
  have H4 := Lib.hid h4
  clear h4
  rw [HX.out]
  clear HX
  go_wp2_with fail
  have hbw3 := hbw2.alloc hbw2.size (.cells #[.int .i64 (a : Int), .int .i64 (b : Int), .int .i64 (c : Int), .func (.func F3) #[] G3, .func (.func F4) #[] G4] 70)
  have hq := HD.out _ (.agg #[.int .i64 k, .slice po old.length co, .slice pn new.length cn]) bl bu p1 p2 r1 r2 hbw3 (HB2.out.grows (by go_grown)) (HI.out _ hbw3)
  rw [H4.out] at hq
  have R3 := R2.alloc (.cells #[.int .i64 (a : Int), .int .i64 (b : Int), .int .i64 (c : Int), .func (.func F3) #[] G3, .func (.func F4) #[] G4] 70)
  clear x0 x1 x2 D2 R2
  refine hq.mono ?_
  rintro e w4 ⟨u4, rfl, hTr, hb4⟩
  obtain ⟨q1, n1, k1, q2, n2, k2, q3, n3, k3, q4, n4, k4, rfl⟩ := hTr.shape
  have R4 := R3.grows hb4
  have hb04 := below_two hbw3 hb4
  have hz4 := hb4.size
  simp at hz4
  obtain ⟨d0, d1, d2, d3, e0, e1, e2, e3⟩ := R4.four
  have KS : KeptTy (fun t => t ≠ 43) w4 ((((w4.setCell ⟨w.heap.size + 1, 0, none⟩ (.slice q1 n1 k1)).setCell ⟨w.heap.size + 1, 1, none⟩ (.slice q2 n2 k2)).setCell ⟨w.heap.size + 1, 2, none⟩ (.slice q3 n3 k3)).setCell ⟨w.heap.size + 1, 3, none⟩ (.slice q4 n4 k4)) :=
    (KeptTy.set (p := ⟨w.heap.size + 1, 0, none⟩) R4 (fun h => h rfl) _).trans ((KeptTy.set (p := ⟨w.heap.size + 1, 1, none⟩) (R4.set 0 _) (fun h => h rfl) _).trans ((KeptTy.set (p := ⟨w.heap.size + 1, 2, none⟩) ((R4.set 0 _).set 1 _) (fun h => h rfl) _).trans (KeptTy.set (p := ⟨w.heap.size + 1, 3, none⟩) (((R4.set 0 _).set 1 _).set 2 _) (fun h => h rfl) _)))
  have FIN := Lib.hid ((hTr.keep KS).mono (base' := w.heap.size) (by simp; omega))
  have HDs := Lib.hid (R4.set4 (.slice q1 n1 k1) (.slice q2 n2 k2) (.slice q3 n3 k3) (.slice q4 n4 k4))
  have HBs := Lib.hid (below_set4 hb04 (show w.heap.size ≤ w.heap.size + 1 by omega) (.slice q1 n1 k1) (.slice q2 n2 k2) (.slice q3 n3 k3) (.slice q4 n4 k4))
  clear KS hTr hb04 R4 R3 hb4 hq hbw3 hbw2
  go_wp2
  exact bodyPost_ret (results_mach _ _ (w.heap.size + 1) #[.slice q1 n1 k1, .slice q2 n2 k2, .slice q3 n3 k3, .slice q4 n4 k4] rfl HDs.out rfl) rfl ⟨_, rfl, FIN.out, HBs.out⟩
end Go.Proofs.YtkhphiilnplgjaaGreatDoor

namespace Go.Proofs.YtkhphiilnplgjaaGreatDoor
open Go.RowKit Go.Lib

set_option maxRecDepth 100000 in
set_option maxHeartbeats 4000000 in
theorem pv_gen (k a b c F3 F4 : Nat) (C3 C4 : Nat → Nat → Nat → Nat → Nat → Nat → Array Value) (v : Value) (old new : List Int) (w : World) (hv : IsOp w v (k : Int) old new) (hk : 1 ≤ k) (hk8 : k ≤ 8)
    (hC : ∀ bl bu p1 p2 r1 r2, (kindC bl bu p1 p2 r1 r2)[k * 5]? = some (.int .i64 (a : Int)) ∧ (kindC bl bu p1 p2 r1 r2)[k * 5 + 1]? = some (.int .i64 (b : Int)) ∧ (kindC bl bu p1 p2 r1 r2)[k * 5 + 2]? = some (.int .i64 (c : Int)) ∧
      (kindC bl bu p1 p2 r1 r2)[k * 5 + 3]? = some (.func (.func F3) #[] (C3 bl bu p1 p2 r1 r2)) ∧ (kindC bl bu p1 p2 r1 r2)[k * 5 + 4]? = some (.func (.func F4) #[] (C4 bl bu p1 p2 r1 r2)))
    (ha : a ≤ 100) (hb : b ≤ 100) (hc : c ≤ 100) (ho : old.length ≤ 140737488351232) (hn : new.length ≤ 140737488351232) :
    Calls Tryz.prog 16 #[v] w fun e w' => e = .returned (.int .i64 (errI (decide (a ≤ old.length ∧ old.length ≤ b ∧ new.length ≤ c)))) ∧ Below w.heap.size w w' := by
  obtain ⟨po, co, pn, cn, rfl, h1, h2, c1, c2⟩ := hv.shape
  have D0 := Blk.new w #[.int .i64 k, .slice po old.length co, .slice pn new.length cn] 24
  have hbw1 : Below w.heap.size w (w.alloc (.cells #[.int .i64 k, .slice po old.length co, .slice pn new.length cn] 24)) := by go_grown
  have HI := Lib.hid (fun W (hW : Below w.heap.size w W) => hv.grows hW)
  have HCC := Lib.hid hC
  clear hv h1 h2 hC
  generalize hq : decide (a ≤ old.length ∧ old.length ≤ b ∧ new.length ≤ c) = q
  have HQ := Lib.hid hq
  clear hq
  go_enter Tryz.func16, Tryz.ntmps16
  go_wp2_with fail
  generalize (w.alloc (.cells #[.int .i64 k, .slice po old.length co, .slice pn new.length cn] 24)) = w1 at D0 hbw1 ⊢
  refine (kindOf_gen k a b c F3 F4 C3 C4 _ old new w1 (HI.out w1 hbw1) hk hk8 HCC.out ha hb hc ho hn).mono ?_
  rintro e w2 ⟨bl, bu, p1, p2, r1, r2, rfl, HB, hb2⟩
  have hbw2 := below_two hbw1 hb2
  have hsf := @run_store_func
  clear D0 hb2 hbw1 HB HCC
  generalize C3 bl bu p1 p2 r1 r2 = G3
  generalize C4 bl bu p1 p2 r1 r2 = G4
  rw [HQ.out]
  clear HQ
  cases q with
  | true =>
    go_wp2
    go_ret
    exact ⟨rfl, hbw2.alloc hbw2.size _⟩
  | false =>
    go_wp2
    go_ret
    exact ⟨rfl, hbw2.alloc hbw2.size _⟩
set_option maxRecDepth 100000 in
set_option maxHeartbeats 4000000 in
theorem pv_bad (v : Value) (k : Int) (old new : List Int) (w : World) (hv : IsOp w v k old new) (hk : ¬ (1 ≤ k ∧ k ≤ 8)) :
    Calls Tryz.prog 16 #[v] w fun e w' => e = .returned (.int .i64 1) ∧ Below w.heap.size w w' := by
  obtain ⟨po, co, pn, cn, rfl, h1, h2, c1, c2⟩ := hv.shape
  have hbw1 : Below w.heap.size w (w.alloc (.cells #[.int .i64 k, .slice po old.length co, .slice pn new.length cn] 24)) := by go_grown
  have D0 := Blk.new w #[.int .i64 k, .slice po old.length co, .slice pn new.length cn] 24
  have HI := Lib.hid (hv.grows hbw1)
  clear hv h1 h2
  go_enter Tryz.func16, Tryz.ntmps16
  go_wp2_with fail
  generalize (w.alloc (.cells #[.int .i64 k, .slice po old.length co, .slice pn new.length cn] 24)) = w1 at D0 hbw1 HI ⊢
  refine (kindOf_bad _ k old new w1 HI.out hk).mono ?_
  rintro e w2 ⟨rfl, hb2⟩
  unfold zeroK
  have hbw2 := below_two hbw1 hb2
  have hsf := @run_store_func
  clear D0 hb2 hbw1 HI
  go_wp2
  go_ret
  exact ⟨rfl, hbw2.alloc hbw2.size _⟩
set_option maxRecDepth 100000 in
set_option maxHeartbeats 4000000 in
theorem mach_no (k a b c F3 F4 : Nat) (C3 C4 : Nat → Nat → Nat → Nat → Nat → Nat → Array Value) (v : Value) (old new : List Int) (w : World) (hv : IsOp w v (k : Int) old new) (hk : 1 ≤ k) (hk8 : k ≤ 8)
    (hC : ∀ bl bu p1 p2 r1 r2, (kindC bl bu p1 p2 r1 r2)[k * 5]? = some (.int .i64 (a : Int)) ∧ (kindC bl bu p1 p2 r1 r2)[k * 5 + 1]? = some (.int .i64 (b : Int)) ∧ (kindC bl bu p1 p2 r1 r2)[k * 5 + 2]? = some (.int .i64 (c : Int)) ∧
      (kindC bl bu p1 p2 r1 r2)[k * 5 + 3]? = some (.func (.func F3) #[] (C3 bl bu p1 p2 r1 r2)) ∧ (kindC bl bu p1 p2 r1 r2)[k * 5 + 4]? = some (.func (.func F4) #[] (C4 bl bu p1 p2 r1 r2)))
    (ha : a ≤ 100) (hb : b ≤ 100) (hc : c ≤ 100) (ho : old.length ≤ 140737488351232) (hn : new.length ≤ 140737488351232) (hno : ¬ (a ≤ old.length ∧ old.length ≤ b ∧ new.length ≤ c)) :
    Calls Tryz.prog 22 #[v] w fun e w' => e = .returned (.tuple #[zeroT, .int .i64 1]) ∧ Below w.heap.size w w' := by
  obtain ⟨po, co, pn, cn, rfl, h1, h2, c1, c2⟩ := hv.shape
  have R0 := Blk.alloc1 w #[.int .i64 k, .slice po old.length co, .slice pn new.length cn] #[.slice none 0 0, .slice none 0 0, .slice none 0 0, .slice none 0 0] 24 43
  have D0 := (Blk.new w #[.int .i64 k, .slice po old.length co, .slice pn new.length cn] 24).alloc (.cells #[.slice none 0 0, .slice none 0 0, .slice none 0 0, .slice none 0 0] 43)
  have hbw1 : Below w.heap.size w ((w.alloc (.cells #[.int .i64 k, .slice po old.length co, .slice pn new.length cn] 24)).alloc (.cells #[.slice none 0 0, .slice none 0 0, .slice none 0 0, .slice none 0 0] 43)) := by go_grown
  obtain ⟨x0, x1, x2⟩ := (⟨D0.cell 0 rfl, D0.cell 1 rfl, D0.cell 2 rfl⟩ : _ ∧ _ ∧ _)
  have HI := Lib.hid (fun W (hW : Below w.heap.size w W) => hv.grows hW)
  have HCC := Lib.hid hC
  have HX := Lib.hid (decide_eq_false hno)
  clear hv h1 h2 hC hno
  go_enter Tryz.func22, Tryz.ntmps22
  go_wp2_with fail
  generalize ((w.alloc (.cells #[.int .i64 k, .slice po old.length co, .slice pn new.length cn] 24)).alloc (.cells #[.slice none 0 0, .slice none 0 0, .slice none 0 0, .slice none 0 0] 43)) = w1 at D0 R0 hbw1 x0 x1 x2 ⊢
  refine (kindOf_gen k a b c F3 F4 C3 C4 _ old new w1 (HI.out w1 hbw1) hk hk8 HCC.out ha hb hc ho hn).mono ?_
  rintro e w2 ⟨bl, bu, p1, p2, r1, r2, rfl, HB, hb2⟩
  have R2 := R0.grows hb2
  have hbw2 := below_two hbw1 hb2
  have hDl := R2.lt
  have hsf := @run_store_func
  clear D0 R0 hb2 hbw1 HB HCC x0 x1 x2
  generalize C3 bl bu p1 p2 r1 r2 = G3
  generalize C4 bl bu p1 p2 r1 r2 = G4
  rw [HX.out]
  clear HX
  have hs2 := hbw2.size
  obtain ⟨d0, d1, d2, d3, e0, e1, e2, e3⟩ := R2.four
  have HDs := Lib.hid fun o => (R2.set4 (.slice none 0 0) (.slice none 0 0) (.slice none 0 0) (.slice none 0 0)).alloc o
  have HBs := Lib.hid fun o => (below_set4 hbw2 (show w.heap.size ≤ w.heap.size + 1 by omega) (.slice none 0 0) (.slice none 0 0) (.slice none 0 0) (.slice none 0 0)).alloc (by simp; omega) o
  clear R2 hbw2
  go_wp2
  exact bodyPost_ret (results_mach _ _ (w.heap.size + 1) #[.slice none 0 0, .slice none 0 0, .slice none 0 0, .slice none 0 0] rfl (HDs.out _) rfl) rfl ⟨rfl, HBs.out _⟩
set_option maxRecDepth 100000 in
set_option maxHeartbeats 4000000 in
theorem mach_bad (v : Value) (k : Int) (old new : List Int) (w : World) (hv : IsOp w v k old new) (hk : ¬ (1 ≤ k ∧ k ≤ 8)) :
    Calls Tryz.prog 22 #[v] w fun e w' => e = .returned (.tuple #[zeroT, .int .i64 1]) ∧ Below w.heap.size w w' := by
  obtain ⟨po, co, pn, cn, rfl, h1, h2, c1, c2⟩ := hv.shape
  have R0 := Blk.alloc1 w #[.int .i64 k, .slice po old.length co, .slice pn new.length cn] #[.slice none 0 0, .slice none 0 0, .slice none 0 0, .slice none 0 0] 24 43
  have D0 := (Blk.new w #[.int .i64 k, .slice po old.length co, .slice pn new.length cn] 24).alloc (.cells #[.slice none 0 0, .slice none 0 0, .slice none 0 0, .slice none 0 0] 43)
  have hbw1 : Below w.heap.size w ((w.alloc (.cells #[.int .i64 k, .slice po old.length co, .slice pn new.length cn] 24)).alloc (.cells #[.slice none 0 0, .slice none 0 0, .slice none 0 0, .slice none 0 0] 43)) := by go_grown
  obtain ⟨x0, x1, x2⟩ := (⟨D0.cell 0 rfl, D0.cell 1 rfl, D0.cell 2 rfl⟩ : _ ∧ _ ∧ _)
  have HI := Lib.hid (fun W (hW : Below w.heap.size w W) => hv.grows hW)
  clear hv h1 h2
  go_enter Tryz.func22, Tryz.ntmps22
  go_wp2_with fail
  generalize ((w.alloc (.cells #[.int .i64 k, .slice po old.length co, .slice pn new.length cn] 24)).alloc (.cells #[.slice none 0 0, .slice none 0 0, .slice none 0 0, .slice none 0 0] 43)) = w1 at D0 R0 hbw1 x0 x1 x2 ⊢
  refine (kindOf_bad _ k old new w1 (HI.out w1 hbw1) hk).mono ?_
  rintro e w2 ⟨rfl, hb2⟩
  unfold zeroK
  have R2 := R0.grows hb2
  have hbw2 := below_two hbw1 hb2
  have hDl := R2.lt
  have hsf := @run_store_func
  clear D0 R0 hb2 hbw1 x0 x1 x2
  have hs2 := hbw2.size
  obtain ⟨d0, d1, d2, d3, e0, e1, e2, e3⟩ := R2.four
  have HDs := Lib.hid fun o => (R2.set4 (.slice none 0 0) (.slice none 0 0) (.slice none 0 0) (.slice none 0 0)).alloc o
  have HBs := Lib.hid fun o => (below_set4 hbw2 (show w.heap.size ≤ w.heap.size + 1 by omega) (.slice none 0 0) (.slice none 0 0) (.slice none 0 0) (.slice none 0 0)).alloc (by simp; omega) o
  clear R2 hbw2
  go_wp2
  exact bodyPost_ret (results_mach _ _ (w.heap.size + 1) #[.slice none 0 0, .slice none 0 0, .slice none 0 0, .slice none 0 0] rfl (HDs.out _) rfl) rfl ⟨rfl, HBs.out _⟩
end Go.Proofs.YtkhphiilnplgjaaGreatDoor

namespace Go.Proofs.YtkhphiilnplgjaaGreatDoor
open Go.RowKit Go.Lib

def nums (s : ByteArray) : List Int := s.data.toList.map fun x => (x.toNat : Int)
theorem nums_len (s : ByteArray) : (nums s).length = s.size := by unfold nums; rw [List.length_map]; rfl
theorem nums_byt (s : ByteArray) : Byt (nums s) := by
  intro z hz
  obtain ⟨x, _, rfl⟩ := List.mem_map.1 hz
  have := x.toNat_lt
  omega
theorem nums_row {w : World} {g cap : Nat} {s : ByteArray} {e : TypeId} {fr : Nat × Nat} (hc : s.size ≤ cap) (h : w.heap[g]? = some (.cells (bytesRow s cap) e fr)) : IsY w (.slice (some ⟨g, 0, none⟩) s.size cap) (nums s) := by
  refine ⟨nums_byt s, fun p n c e h => by (cases e; cases h), some ⟨g, 0, none⟩, cap, by rw [nums_len], by rw [nums_len]; exact hc, fun j x hx => ⟨g, 0, rfl, ?_⟩⟩
  unfold nums at hx
  rw [List.getElem?_map] at hx
  obtain ⟨y, hy, rfl⟩ := Option.map_eq_some_iff.1 hx
  rw [Array.getElem?_toList] at hy
  obtain ⟨hj, rfl⟩ := Array.getElem?_eq_some_iff.1 hy
  rw [Nat.zero_add]
  simp only [World.cell?, h]
  exact bytesRow_at s cap j hj
/-- what comes of does. -/
def doesB (k : Int) (old new : List Int) (s want : ByteArray) : Bool := match doI k old new (nums s) with
  | some l => ((strOfNums l).toList == want.toList)
  | none => false
set_option maxRecDepth 100000 in
set_option maxHeartbeats 4000000 in
theorem does_any (v : Value) (k : Int) (old new : List Int) (s want : ByteArray) (w : World) (hv : IsOp w v k old new) (ho : old.length ≤ 1000) (hn : new.length ≤ 1000) (hs : s.size ≤ 1000) (hM : MaxOk w) :
    Calls Tryz.prog 32 #[v, .string s, .string want] w fun e w' => e = .returned (.bool (doesB k old new s want)) ∧ Below w.heap.size w w' := by
  obtain ⟨po, co, pn, cn, rfl, h1, h2, c1, c2⟩ := hv.shape
  have D0 := Blk.new w #[.int .i64 k, .slice po old.length co, .slice pn new.length cn] 24
  have hbw : Below w.heap.size w (w.alloc (.cells #[.int .i64 k, .slice po old.length co, .slice pn new.length cn] 24)) := by go_grown
  have hcv := fun (w : World) (s : ByteArray) => run_bytes_of_string (P := Tryz.prog) w 9 22 5 s Tryz.underlying9 Tryz.underlying22 Tryz.underlying5
  have HI := Lib.hid (fun W (hW : Below w.heap.size w W) => hv.grows hW)
  have HM := Lib.hid (fun W (hW : Below w.heap.size w W) => hM.grows hW hM.lt)
  clear hv h1 h2 hM
  go_enter Tryz.func32, Tryz.ntmps32
  go_wp2_with fail
  have hC := grownCap_ge (w.alloc (.cells #[.int .i64 k, .slice po old.length co, .slice pn new.length cn] 24)) s.size 0 5
  generalize grownCap (w.alloc (.cells #[.int .i64 k, .slice po old.length co, .slice pn new.length cn] 24)) s.size 0 5 = C at hC ⊢
  have hb1 : Below w.heap.size w ((w.alloc (.cells #[.int .i64 k, .slice po old.length co, .slice pn new.length cn] 24)).alloc (.cells (bytesRow s C) 5 ((bytesRow s C).size, (bytesRow s C).size + 1))).drew := by go_grown
  have hy1 : IsY ((w.alloc (.cells #[.int .i64 k, .slice po old.length co, .slice pn new.length cn] 24)).alloc (.cells (bytesRow s C) 5 ((bytesRow s C).size, (bytesRow s C).size + 1))).drew (.slice (some ⟨w.heap.size + 1, 0, none⟩) s.size C) (nums s) := by
    refine nums_row hC (e := 5) (fr := ((bytesRow s C).size, (bytesRow s C).size + 1)) ?_
    have h := World.alloc_heap_new (w.alloc (.cells #[.int .i64 k, .slice po old.length co, .slice pn new.length cn] 24)) (.cells (bytesRow s C) 5 ((bytesRow s C).size, (bytesRow s C).size + 1))
    rw [World.size_alloc] at h
    exact h
  generalize ((w.alloc (.cells #[.int .i64 k, .slice po old.length co, .slice pn new.length cn] 24)).alloc (.cells (bytesRow s C) 5 ((bytesRow s C).size, (bytesRow s C).size + 1))).drew = w1 at hb1 hy1 ⊢
  refine (do_any _ _ k old new (nums s) w1 (HI.out w1 hb1) hy1 (by omega) (by omega) (by rw [nums_len]; omega) (HM.out w1 hb1)).mono ?_
  rintro e w2 ⟨u, rfl, hyr, hb2⟩
  have hst := isY_str hyr
  have hbw2 := hb1.trans (hb2.mono hb1.size)
  have HQ : Hid (doesB k old new s want = (match doI k old new (nums s) with | some l => ((strOfNums l).toList == want.toList) | none => false)) := Lib.hid rfl
  clear hb1 hy1 hb2 D0 hbw hyr
  generalize doI k old new (nums s) = r at hst HQ ⊢
  cases r with
  | none =>
    go_wp2
    go_ret
    exact ⟨by rw [HQ.out]; rfl, hbw2⟩
  | some l =>
    go_wp2
    go_ret
    refine ⟨?_, hbw2⟩
    rw [HQ.out]
    rfl
end Go.Proofs.YtkhphiilnplgjaaGreatDoor

namespace Go.Proofs.YtkhphiilnplgjaaGreatDoor
open Go.RowKit Go.Lib

def cA : BitVec 256 := BitVec.ofNat 256 (2 ^ 256 - 1 - 2 ^ 97)
def cB : BitVec 256 := BitVec.ofNat 256 (2 ^ 97)
set_option maxRecDepth 100000 in
set_option maxHeartbeats 4000000 in
theorem canon_aa : canon (sgS [97, 97]) = [cA, cB] := by kernel_rfl
def rowsA : List (List (Int × Pcs)) := [[(0, [(true, 0)]), (1, [])], [(0, [(false, 97), (true, 0)]), (0, [(false, 98)])]]
theorem rows_aa : rowsR [97, 97] [98] [cA, cB] = rowsA := by kernel_rfl
theorem ends_aa : ((List.range 2).map fun j => ([97, 97] : List Int).take j) = [[], [97]] := by kernel_rfl
theorem okT_aa : OkT [cA, cB] rowsA [true, true] [[], [97]] where
  dfa := by kernel_rfl
  el := rfl
  rl := rfl
  end_ := fun j e h => by
    match j, h with
    | 0, h => simp at h; subst h; simp
    | 1, h => simp at h; subst h; simp
  mv := fun r hr m hm => by
    unfold rowsA at hr
    simp at hr
    rcases hr with rfl | rfl <;> simp at hm <;> rcases hm with rfl | rfl <;> exact ⟨by simp, by simp, by simp [pcOk]⟩
  cl := by simp
  rs := by simp [rowsA]
  rr := fun r hr => by
    unfold rowsA at hr
    simp at hr
    rcases hr with rfl | rfl <;> simp
theorem runT_aa : RunT [cA, cB] rowsA where
  ix_ := fun b hb => by
    have ha : ((List.range 256).all fun b => decide (0 ≤ ix [cA, cB] b) && decide (ix [cA, cB] b < 2)) = true := by kernel_rfl
    have := List.all_eq_true.1 ha b (List.mem_range.2 hb)
    rw [Bool.and_eq_true, decide_eq_true_iff, decide_eq_true_iff] at this
    exact this
  row := fun r hr => by
    unfold rowsA at hr
    simp at hr
    rcases hr with rfl | rfl <;> rfl
  to_ := fun r hr m hm => by
    unfold rowsA at hr ⊢
    simp at hr
    rcases hr with rfl | rfl <;> simp at hm <;> rcases hm with rfl | rfl <;> simp
  by_ := fun r hr m hm => by
    unfold rowsA at hr
    simp at hr
    rcases hr with rfl | rfl <;> simp at hm <;> rcases hm with rfl | rfl <;> simp
theorem out_aa : outS [cA, cB] rowsA [true, true] [[], [97]] 0 [97, 97, 97, 97, 97] = some [98, 98, 97] := by kernel_rfl
end Go.Proofs.YtkhphiilnplgjaaGreatDoor
