/-
  Texts of the proof, one behind another: By, Ya.
-/
import Derived.Test.YtkhphiilnplgjaaGreatDoorQba
import Derived.Laws.BytesArg
import Derived.Deep.OwnRows
import Derived.Maps.AppendAt
import Derived.Carry
set_option linter.unusedSimpArgs false
set_option linter.unusedVariables false
namespace Go.Proofs.YtkhphiilnplgjaaGreatDoor
open Go.RowKit Go.Lib

def Byt (l : List Int) : Prop := ∀ z ∈ l, 0 ≤ z ∧ z < 256
theorem Byt.nil : Byt [] := by intro z hz; cases hz
theorem Byt.take {l : List Int} (h : Byt l) (k : Nat) : Byt (l.take k) := fun z hz => h z (List.mem_of_mem_take hz)
theorem Byt.drop {l : List Int} (h : Byt l) (k : Nat) : Byt (l.drop k) := fun z hz => h z (List.mem_of_mem_drop hz)
theorem Byt.append {l m : List Int} (h : Byt l) (h2 : Byt m) : Byt (l ++ m) := fun z hz => by
  rcases List.mem_append.1 hz with q | q
  · exact h z q
  · exact h2 z q
theorem Byt.one {x : Int} (h : 0 ≤ x ∧ x < 256) : Byt [x] := fun z hz => by
  rw [List.mem_singleton] at hz; subst hz; exact h
theorem Byt.at {l : List Int} (h : Byt l) {k : Nat} {x : Int} (hx : l[k]? = some x) : 0 ≤ x ∧ x < 256 := h x (List.mem_of_getElem? hx)

/-- the value is a slice that reads as these bytes. -/
structure IsY (w : World) (v : Value) (l : List Int) : Prop where
  byt : Byt l
  nl : ∀ p n cap, v = .slice p n cap → p = none → cap = 0
  is : ∃ p cap, v = .slice p l.length cap ∧ l.length ≤ cap ∧ ∀ (j : Nat) (x : Int), l[j]? = some x → ∃ b o, p = some ⟨b, o, none⟩ ∧ w.cell? ⟨b, o + j, none⟩ = some (.int .u8 x)
theorem IsY.shape {w : World} {v : Value} {l : List Int} (h : IsY w v l) : ∃ p cap, v = .slice p l.length cap ∧ l.length ≤ cap := by
  obtain ⟨p, cap, e, h1, _⟩ := h.is
  exact ⟨p, cap, e, h1⟩
theorem IsY.kept {w w' : World} {v : Value} {l : List Int} (h : IsY w v l) (hk : ∀ a u, w.cell? a = some u → w'.cell? a = some u) : IsY w' v l := by
  obtain ⟨p, cap, e, h1, h2⟩ := h.is
  exact ⟨h.byt, h.nl, p, cap, e, h1, fun j x hx => by obtain ⟨b, o, e1, h3⟩ := h2 j x hx; exact ⟨b, o, e1, hk _ _ h3⟩⟩
theorem IsY.grows {w w' : World} {v : Value} {l : List Int} (h : IsY w v l) (hb : Below w.heap.size w w') : IsY w' v l :=
  h.kept fun _ _ hc => (hb.cell (lt_of_cell hc)).trans hc
theorem IsY.at {w : World} {p : Option Addr} {n cap : Nat} {l : List Int} (h : IsY w (.slice p n cap) l) {j : Nat} {x : Int} (hx : l[j]? = some x) :
    ∃ b o, p = some ⟨b, o, none⟩ ∧ w.cell? ⟨b, o + j, none⟩ = some (.int .u8 x) := by
  obtain ⟨q, c, e, _, h2⟩ := h.is
  simp only [Value.slice.injEq] at e
  obtain ⟨rfl, -, -⟩ := e
  exact h2 j x hx
theorem IsY.nil (w : World) : IsY w (.slice none 0 0) [] := ⟨Byt.nil, fun _ _ _ e _ => (by cases e; rfl), none, 0, rfl, Nat.le_refl _, fun j x hx => by simp at hx⟩
/-- what is owned reads. -/
theorem own_isY {w : World} {base : Nat} {e : TypeId} {v : Value} {l : List Int} (hb : Byt l) (h : w.ownsRow base e 1 v l.length (l.map (Value.int .u8))) : IsY w v l := by
  obtain ⟨hl, ⟨rfl, hn⟩ | ⟨g, cap, cur, rfl, hg, hh, hcap, hm, hsz, htk⟩⟩ := h
  · obtain rfl : l = [] := List.length_eq_zero_iff.1 hn
    exact IsY.nil w
  · refine ⟨hb, fun _ _ _ e h => (by cases e; cases h), some ⟨g, 0, none⟩, cap, rfl, hcap, fun j x hj => ⟨g, 0, rfl, ?_⟩⟩
    rw [Nat.zero_add]
    refine Blk.cell (vs := cur) (t := e) ⟨hh⟩ j ?_
    have hjl := (List.getElem?_eq_some_iff.1 hj).1
    have h2 := congrArg (fun q => q[j]?) htk
    rw [List.getElem?_take_of_lt (by omega), List.getElem?_map, hj] at h2
    simpa using h2
theorem IsY.take {w : World} {p : Option Addr} {n cap : Nat} {l : List Int} (h : IsY w (.slice p n cap) l) (k : Nat) (hk : k ≤ l.length) : IsY w (.slice p k cap) (l.take k) := by
  obtain ⟨q, c, e, h1, h2⟩ := h.is
  simp only [Value.slice.injEq] at e
  obtain ⟨rfl, -, rfl⟩ := e
  have hl : (l.take k).length = k := by rw [List.length_take]; omega
  refine ⟨h.byt.take k, fun _ _ _ e h' => (by cases e; exact h.nl _ _ _ rfl h'), p, cap, by rw [hl], by omega, fun j x hj => h2 j x ?_⟩
  rw [List.getElem?_take] at hj
  split at hj
  · exact hj
  · cases hj
/-- where the tail from k on begins: at the whole capacity's end the address stays. -/
def tailA (p : Option Addr) (cap k : Nat) : Option Addr := if cap = k then p else p.map fun a => a.add k
theorem addr_add (b o k : Nat) : (⟨b, o, none⟩ : Addr).add k = ⟨b, o + k, none⟩ := by unfold Addr.add; split <;> simp_all
theorem IsY.drop {w : World} {p : Option Addr} {n cap : Nat} {l : List Int} (h : IsY w (.slice p n cap) l) (k : Nat) (hk : k ≤ l.length) : IsY w (.slice (tailA p cap k) (n - k) (cap - k)) (l.drop k) := by
  obtain ⟨q, c, e, h1, h2⟩ := h.is
  simp only [Value.slice.injEq] at e
  obtain ⟨rfl, rfl, rfl⟩ := e
  refine ⟨h.byt.drop k, fun _ _ _ e h' => (by cases e; have hp : p = none := (by unfold tailA at h'; split at h' <;> simpa using h'); have := h.nl _ _ _ rfl hp; omega), tailA p cap k, cap - k, by rw [List.length_drop], by rw [List.length_drop]; omega, fun j x hj => ?_⟩
  rw [List.getElem?_drop] at hj
  obtain ⟨b, o, rfl, hc⟩ := h2 (k + j) x hj
  have hjl := (List.getElem?_eq_some_iff.1 hj).1
  refine ⟨b, o + k, ?_, by rw [Nat.add_assoc]; exact hc⟩
  unfold tailA
  rw [if_neg (by omega)]
  simp only [Option.map_some, addr_add]
/-- the text of a slice of bytes. -/
theorem isY_str {w : World} {v : Value} {l : List Int} (h : IsY w v l) : (convert 22 9 v).run Tryz.prog w = .ok (.string (strOfNums l)) w := by
  obtain ⟨p, cap, rfl, h1, h2⟩ := h.is
  cases l with
  | nil =>
    cases p with
    | none => exact run_convert_bytes_nil w 22 5 Tryz.underlying22 Tryz.underlying5 _ _ 9 Tryz.underlying9
    | some a =>
      simp only [List.length_nil]
      rw [run_convert_bytes_string w 22 9 5 _ _ cap Tryz.underlying22 Tryz.underlying5 Tryz.underlying9, run_bytesToString w _ 0 cap [] rfl]
      rfl
  | cons y l =>
    obtain ⟨b, o, rfl, _⟩ := h2 0 y rfl
    refine run_convert_bytes_arg w 22 5 Tryz.underlying22 Tryz.underlying5 b o (y :: l).length cap (y :: l) rfl (fun i hi => ?_) 9 Tryz.underlying9
    obtain ⟨b', o', e, hc⟩ := h2 i ((y :: l)[i]) (List.getElem?_eq_getElem hi)
    simp only [Option.some.injEq, Addr.mk.injEq, and_true] at e
    obtain ⟨rfl, rfl⟩ := e
    rw [hc, List.getD_eq_getElem?_getD, List.getElem?_eq_getElem hi]; rfl
theorem ofNat_inj {x y : Int} (hx : 0 ≤ x ∧ x < 256) (hy : 0 ≤ y ∧ y < 256) (h : UInt8.ofNat x.toNat = UInt8.ofNat y.toNat) : x = y := by
  have h2 := congrArg UInt8.toNat h
  simp only [UInt8.toNat_ofNat'] at h2
  omega
theorem map_ofNat_inj : ∀ {l m : List Int}, Byt l → Byt m → l.map (fun n => UInt8.ofNat n.toNat) = m.map (fun n => UInt8.ofNat n.toNat) → l = m
  | [], [], _, _, _ => rfl
  | [], _ :: _, _, _, h => by simp at h
  | _ :: _, [], _, _, h => by simp at h
  | x :: l, y :: m, hl, hm, h => by
    simp only [List.map_cons, List.cons.injEq] at h
    rw [ofNat_inj (hl x (by simp)) (hm y (by simp)) h.1, map_ofNat_inj (fun z hz => hl z (by simp [hz])) (fun z hz => hm z (by simp [hz])) h.2]
theorem str_inj {l m : List Int} (hl : Byt l) (hm : Byt m) (h : strOfNums l = strOfNums m) : l = m := by
  refine map_ofNat_inj hl hm ?_
  have h2 := congrArg (fun s : ByteArray => s.data.toList) h
  simpa [strOfNums] using h2
/-- the element type's table. -/
theorem infoU8 : (Tryz.prog.info? 5).map (fun i => (i.zero, i.size, i.bytes)) = some (some (.int .u8 0), 1, 1) := by kernel_rfl
theorem size_u8 (w : World) : (Go.sizeOf 5).run Tryz.prog w = .ok 1 w := by kernel_rfl
end Go.Proofs.YtkhphiilnplgjaaGreatDoor

namespace Go.Proofs.YtkhphiilnplgjaaGreatDoor
open Go.RowKit Go.Lib

set_option maxRecDepth 100000 in
set_option maxHeartbeats 1000000 in
theorem copy_own (v : Value) (l : List Int) (w : World) (hv : IsY w v l) (hl : l.length ≤ 140737488351232) : Calls Tryz.prog 33 #[v] w fun e w' =>
    ∃ u, e = .returned u ∧ w'.ownsRow w.heap.size 5 1 u l.length (l.map (Value.int .u8)) ∧ Below w.heap.size w w' := by
  obtain ⟨i0, hi, hz0, hz1, hz2⟩ := info_parts infoU8
  obtain ⟨p, cap, rfl, hc⟩ := hv.shape
  have HV := Lib.hid hv
  clear hv
  go_enter Tryz.func33, Tryz.ntmps33
  go_wp2
  go_loopw [3, 4] (fun u i wr => ∃ k : Nat, k ≤ l.length ∧ i = .int .i64 k ∧ wr.ownsRow w.heap.size 5 1 u (l.take k).length ((l.take k).map (Value.int .u8)) ∧ Below w.heap.size w wr) (fun _ i _ => l.length - (RowKit.intOf i).toNat)
  case atStart =>
    exact ⟨0, Nat.zero_le _, rfl, own_of_blk (Blk.new w _ _) 0 1 rfl (Nat.zero_le _) (Nat.le_refl _), by go_grown⟩
  case round =>
    obtain ⟨k, hk, rfl, hown, hbw⟩ := hrel
    by_cases hlt : k < l.length
    · obtain ⟨x, hx⟩ := get_of_lt hlt
      obtain ⟨b, o, rfl, hcell⟩ := (HV.out.grows hbw).at hx
      have HS := Lib.hid (show l.take (k + 1) = l.take k ++ [x] by rw [List.take_add_one, hx]; rfl)
      have hlen : (l.take k).length = k := by rw [List.length_take]; omega
      rw [hlen] at hown
      have HL := Lib.hid hlen
      clear hx hlen
      generalize l.take k = m at hown HS HL
      go_wp2_with (at_builtin; refine wpList_append_own _ rfl _ _ 22 rfl w.heap.size 5 i0 (.int .u8 0) 1 1 Tryz.underlying22 hi hz0 hz1 hz2 rfl (by decide) _ _ _ rfl (own_alloc hown _) ⟨wr.heap.size, 0, none⟩ 1 1 [.int .u8 x] rfl rfl (cell_one_new _ _ _) (by simp [Value.oneCell']) (by unfold maxLen; omega) (by omega) (by have := hbw.size; simp; omega) ?_; intro v' w2 hown2 hgrow _)
      go_roundw
      case rel =>
        have hg := own_ge hown
        exact ⟨k + 1, by omega, by go_num, by rw [HS.out]; exact own_cast hown2 (by simp [HL.out]) (by simp), (hbw.alloc hbw.size _).grown hgrow (by have := hbw.size; simp; omega) hg⟩
      case measure => simp [RowKit.intOf]; omega
    · obtain rfl : k = l.length := by omega
      rw [List.take_length] at hown
      go_wp2
      go_ret
      exact ⟨_, rfl, hown, hbw⟩
theorem copy_any (v : Value) (l : List Int) (w : World) (hv : IsY w v l) (hl : l.length ≤ 140737488351232) : Calls Tryz.prog 33 #[v] w fun e w' =>
    ∃ u, e = .returned u ∧ IsY w' u l ∧ Below w.heap.size w w' :=
  (copy_own v l w hv hl).mono fun _ _ ⟨u, he, ho, hb⟩ => ⟨u, he, own_isY hv.byt ho, hb⟩
end Go.Proofs.YtkhphiilnplgjaaGreatDoor
