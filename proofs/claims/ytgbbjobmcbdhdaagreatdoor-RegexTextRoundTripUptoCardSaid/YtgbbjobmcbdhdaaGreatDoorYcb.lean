/-
  Texts of the proof, one behind another: Mc, Md, Me, Mf.
-/
import Derived.Test.YtgbbjobmcbdhdaaGreatDoorYca
import Derived.Test.YtgbbjobmcbdhdaaGreatDoorShb
import Derived.Laws.AppendOwnNone
set_option linter.unusedSimpArgs false
set_option linter.unusedVariables false
/-
  Walks: the spans of several sets joined to one list.
-/
namespace Go.Proofs.YtgbbjobmcbdhdaaGreatDoor
open Go.RowKit Go.Shelf

/-- the value is a slice of slices that read as these sets. -/
def IsL (w : World) (v : Value) (ls : List (List (Nat × Nat))) : Prop :=
  (ls = [] ∧ ∃ p cap, v = .slice p 0 cap) ∨ ∃ blk off cap, v = .slice (some ⟨blk, off, none⟩) ls.length cap ∧ ∀ j l, ls[j]? = some l → ∃ p c, w.cell? ⟨blk, off + j, none⟩ = some (.slice p l.length c) ∧ IsS w (.slice p l.length c) l
theorem IsL.kept {w w' : World} {v : Value} {ls : List (List (Nat × Nat))} (h : IsL w v ls) (hk : ∀ a u, w.cell? a = some u → w'.cell? a = some u) : IsL w' v ls := by
  rcases h with h | ⟨blk, off, cap, rfl, h⟩
  · exact .inl h
  · refine .inr ⟨blk, off, cap, rfl, fun j l hj => ?_⟩
    obtain ⟨p, c, h1, h2⟩ := h j l hj
    exact ⟨p, c, hk _ _ h1, h2.kept hk⟩
theorem kept_below {w w' : World} (h : Below w.heap.size w w') : ∀ a u, w.cell? a = some u → w'.cell? a = some u := fun _ _ hc => (h.cell (lt_of_cell hc)).trans hc
theorem kept_grown {w w' : World} (h : w.grownBy w' none) : ∀ a u, w.cell? a = some u → w'.cell? a = some u := fun a u hc => (World.cell?_of_block (h.block a.block (lt_of_cell hc) (by simp))).trans hc

set_option maxRecDepth 100000 in
set_option maxHeartbeats 1000000 in
theorem grow_any (n : Nat) (hn : n ≤ 8796093022000) (W : World) : Calls Tryz.prog 104 #[.slice none 0 0, .int .i64 (n : Int)] W fun e W' =>
    (∃ v, e = .returned v ∧ W'.ownsRow W.heap.size 66 2 v 0 []) ∧ Below W.heap.size W W' := by
  obtain ⟨i0, hi, hz0, hz1, hz2⟩ := info_parts infoS
  rcases Nat.eq_zero_or_pos n with rfl | hpos
  · refine (Any8.slices_Grow_room Tryz.growL none 0 0 0 W (by omega) (by omega) (by omega) (by omega)).mono ?_
    rintro e w' ⟨rfl, rfl⟩
    exact ⟨⟨_, rfl, World.ownsRow_nil _ _ _ _⟩, Below.refl _ _⟩
  · refine (Any8.slices_Grow_grow Tryz.growL i0 _ hi hz0 (by rw [hz1]; decide) none 0 0 n [] W (by omega) (by omega) (by rw [hz2]; omega) (by omega) (by simp) (by simp) (by simp)).mono ?_
    rintro e w' ⟨rfl, rfl⟩
    refine ⟨⟨_, rfl, ?_⟩, ((Below.refl _ _).drew).alloc (by simp) _⟩
    exact World.ownsRow_made (w := W.drew) _ _ (by simp) (grownCap_le_maxLen _ _ _ _ (by unfold maxLen; omega)) (by
      have h9 := grownCap_ge W (0 + n) 0 (Tryz.growL_ren.t 25)
      simp only [Array.size_append, size_zeroCells]
      show 0 + (0 + n - 0) * 2 + (grownCap W (0 + n) 0 (Tryz.growL_ren.t 25) - (0 + n)) * 2 = grownCap W (0 + n) 0 (Tryz.growL_ren.t 25) * 2
      omega)
theorem flat_one (l : List (Nat × Nat)) : ∀ u ∈ l.flatMap encS, u.oneCell' = true := by
  intro u hu
  obtain ⟨x, _, hx⟩ := List.mem_flatMap.1 hu
  exact encS_one x u hx
theorem isL_at {w : World} {p : Option Addr} {n cap : Nat} {ls : List (List (Nat × Nat))} (h : IsL w (.slice p n cap) ls) {k : Nat} {l : List (Nat × Nat)} (hk : ls[k]? = some l) :
    ∃ blk off pl cl, p = some ⟨blk, off, none⟩ ∧ w.cell? ⟨blk, off + k, none⟩ = some (.slice pl l.length cl) ∧ IsS w (.slice pl l.length cl) l := by
  rcases h with ⟨rfl, _⟩ | ⟨blk, off, cap, he, hc⟩
  · cases hk
  · simp only [Value.slice.injEq] at he
    obtain ⟨pl, cl, h1, h2⟩ := hc k l hk
    exact ⟨blk, off, pl, cl, he.1, h1, h2⟩
theorem flat_take_len (ls : List (List (Nat × Nat))) (k : Nat) : ((ls.take k).flatten).length ≤ ls.flatten.length := by
  conv => rhs; rw [← List.take_append_drop k ls]
  rw [List.flatten_append, List.length_append]; omega
theorem flat_take_snoc (ls : List (List (Nat × Nat))) (k : Nat) (l : List (Nat × Nat)) (h : ls[k]? = some l) : (ls.take (k + 1)).flatten = (ls.take k).flatten ++ l := by
  rw [List.take_add_one, h, List.flatten_append]; simp
theorem readS_new {w : World} {blk off : Nat} {l : List (Nat × Nat)} (h : ReadsS w blk off l) : ∀ j u, (l.flatMap encS)[j]? = some u → w.cell? ((⟨blk, off, none⟩ : Addr).add j) = some u := by
  intro j u hu
  have hj : j < l.length * 2 := by have := (List.getElem?_eq_some_iff.1 hu).1; rw [flat_lenS] at this; exact this
  obtain ⟨x, hx⟩ : ∃ x, l[j / 2]? = some x := ⟨_, List.getElem?_eq_getElem (by omega)⟩
  have hlt : j % 2 < (encS x).length := by rw [encS_len]; omega
  have h1 := flat_getS l (j / 2) x (j % 2) _ hx (List.getElem?_eq_getElem hlt)
  rw [show j / 2 * 2 + j % 2 = j by omega, hu] at h1
  have h2 := h (j / 2) x hx (j % 2) _ (List.getElem?_eq_getElem hlt)
  have hadd : (⟨blk, off, none⟩ : Addr).add j = ⟨blk, off + j, none⟩ := by unfold Addr.add; split <;> simp_all
  rw [hadd, Option.some.inj h1]
  rw [show off + j = off + j / 2 * 2 + j % 2 by omega]; exact h2

set_option maxRecDepth 100000 in
set_option maxHeartbeats 2000000 in
theorem concat_any (v : Value) (ls : List (List (Nat × Nat))) (W : World) (hv : IsL W v ls) (hn : ls.flatten.length ≤ 8796093022000) (hm : ls.length ≤ 8796093022000) :
    Calls Tryz.prog 84 #[v] W fun e W' =>
      (∃ v', e = .returned v' ∧ W'.ownsRow W.heap.size 66 2 v' ls.flatten.length (ls.flatten.flatMap encS)) ∧ Below W.heap.size W W' := by
  obtain ⟨i0, hi, hz0, hz1, hz2⟩ := info_parts infoS
  have HT := Lib.hid (flat_take_len ls)
  have HS := Lib.hid (flat_take_snoc ls)
  obtain ⟨p, cap, rfl⟩ : ∃ p cap, v = .slice p ls.length cap := by
    rcases hv with ⟨rfl, p, cap, rfl⟩ | ⟨b, o, c, rfl, _⟩
    · exact ⟨_, _, rfl⟩
    · exact ⟨_, _, rfl⟩
  have HV := Lib.hid (fun k l (hk : ls[k]? = some l) => isL_at hv hk)
  clear hv
  go_enter Tryz.func84, Tryz.ntmps84
  go_wp2
  go_loop [3, 11] (fun sz i => ∃ k : Nat, k ≤ ls.length ∧ i = .int .i64 k ∧ sz = .int .i64 ((((ls.take k).flatten).length : Nat) : Int)) (fun _ i => ls.length - (intOf i).toNat)
  case atStart => exact ⟨0, Nat.zero_le _, rfl, rfl⟩
  case round =>
    obtain ⟨k, hk, rfl, rfl⟩ := hrel
    by_cases hlt : k < ls.length
    · obtain ⟨l, hl⟩ : ∃ l, ls[k]? = some l := ⟨_, List.getElem?_eq_getElem hlt⟩
      obtain ⟨blk, off, pl, cl, rfl, hc, -⟩ := HV.out k l hl
      have hs := HS.out k l hl
      have hb := HT.out (k + 1)
      have hlen : ((ls.take (k + 1)).flatten).length = ((ls.take k).flatten).length + l.length := by rw [hs, List.length_append]
      have HL := Lib.hid hlen
      clear hl hs
      generalize hG : ((ls.take (k + 1)).flatten).length = G at hb HL
      generalize hF : ((ls.take k).flatten).length = F at HL
      have hbF : F + l.length ≤ 8796093022000 := by have := HL.out; omega
      have HG := Lib.hid hG
      have w1 : IntKind.i64.wrap ((F : Int) + (l.length : Int)) = (F : Int) + (l.length : Int) := IntWalk.i64_in _ (by omega)
      have t1 : decide ((F : Int) + (l.length : Int) < 0) = false := by simp; omega
      clear hG hF hb hlen
      go_wp2
      go_round
      case rel => exact ⟨k + 1, by omega, by go_num, by rw [HG.out, HL.out]; simp⟩
      case measure => simp [intOf]; omega
    · obtain rfl : k = ls.length := by omega
      rw [List.take_length]
      have HGr := Lib.hid (grow_any ls.flatten.length hn)
      generalize hG : ls.flatten.length = G at hn HT HGr
      have HG := Lib.hid hG
      clear hG
      go_wp2_with (go_at_call 104; refine (HGr.out _).mono ?_; rintro e W1 ⟨⟨v1, rfl, hown1⟩, hb1⟩)
      go_loopw [6, 27] (fun v i wr => ∃ k : Nat, k ≤ ls.length ∧ i = .int .i64 k ∧ wr.ownsRow W.heap.size 66 2 v ((ls.take k).flatten).length (((ls.take k).flatten).flatMap encS) ∧ Below W.heap.size W wr) (fun _ i _ => ls.length - (intOf i).toNat)
      case atStart => exact ⟨0, Nat.zero_le _, rfl, hown1, hb1⟩
      case round =>
        clear hown1 hb1
        obtain ⟨k, hk, rfl, hown, hbw⟩ := hrel
        by_cases hlt2 : k < ls.length
        · obtain ⟨l, hl⟩ : ∃ l, ls[k]? = some l := ⟨_, List.getElem?_eq_getElem hlt2⟩
          obtain ⟨blk, off, pl, cl, rfl, hc, hr⟩ := HV.out k l hl
          have hc2 := (hbw.cell (lt_of_cell hc)).trans hc
          have hr2 : IsS _ _ _ := hr.kept (fun a u ha => (hbw.cell (lt_of_cell ha)).trans ha)
          have hs := HS.out k l hl
          have hb := HT.out (k + 1)
          have HSn := Lib.hid hs
          rw [hs, List.length_append] at hb
          have HO := Lib.hid hown
          have HB := Lib.hid hbw
          have hsz := hbw.size
          clear hl hs hr hc hown hbw
          generalize (ls.take k).flatten = F at HO HSn hb
          rcases hr2 with ⟨rfl, p2, c2, he, hp2⟩ | ⟨b2, o2, c2, he, hrd⟩
          · cases he
            cases pl with
            | none =>
              obtain rfl := hp2 rfl
              go_wp2_with (at_builtin; refine wpList_append_own_none rfl _ _ 62 rfl W.heap.size 66 i0 2 Tryz.underlying62 hi _ _ _ rfl HO.out rfl ?_)
              go_roundw
              case rel => exact ⟨k + 1, by omega, by go_num, by rw [HSn.out]; exact own_cast HO.out (by simp) (by simp), HB.out⟩
              case measure => simp [intOf]; omega
            | some a =>
              go_wp2_with (at_builtin; refine wpList_append_own _ rfl _ _ 62 rfl W.heap.size 66 i0 _ 2 16 Tryz.underlying62 hi hz0 hz1 hz2 rfl (by decide) _ _ _ rfl HO.out a 0 cl [] rfl rfl (by simp) (by simp) (by unfold maxLen; omega) (by omega) hsz ?_; intro v' w2 hown2 hgrow _)
              go_roundw
              case rel => exact ⟨k + 1, by omega, by go_num, by rw [HSn.out]; exact own_cast hown2 (by simp) (by simp), HB.out.grown hgrow hsz (fun k hk => own_ge HO.out k hk)⟩
              case measure => simp [intOf]; omega
          · cases he
            have HR := Lib.hid (readS_new hrd)
            clear hrd
            go_wp2_with (at_builtin; refine wpList_append_own _ rfl _ _ 62 rfl W.heap.size 66 i0 _ 2 16 Tryz.underlying62 hi hz0 hz1 hz2 rfl (by decide) _ _ _ rfl HO.out ⟨b2, o2, none⟩ l.length cl (l.flatMap encS) rfl (flat_lenS l) HR.out (flat_one l) (by unfold maxLen; omega) (by omega) hsz ?_; intro v' w2 hown2 hgrow _)
            go_roundw
            case rel => exact ⟨k + 1, by omega, by go_num, by rw [HSn.out]; exact own_cast hown2 (by simp) (by simp), HB.out.grown hgrow hsz (fun k hk => own_ge HO.out k hk)⟩
            case measure => simp [intOf]; omega
        · obtain rfl : k = ls.length := by omega
          rw [List.take_length] at hown
          have HO := Lib.hid hown
          clear hown
          go_wp2
          go_ret
          exact ⟨⟨_, rfl, HO.out⟩, hbw⟩
end Go.Proofs.YtgbbjobmcbdhdaaGreatDoor

/-
  Walks: the sort of spans by their starts; the union of sets.
-/
namespace Go.Proofs.YtgbbjobmcbdhdaaGreatDoor
open Go.RowKit Go.Shelf Go.Lib
open Go.Sort hiding Below

theorem cmpS_clo (x y : Nat × Nat) (w : World) :
    Calls Tryz.prog 86 #[.agg #[.int .i64 (x.1 : Int), .int .i64 (x.2 : Int)], .agg #[.int .i64 (y.1 : Int), .int .i64 (y.2 : Int)]] w fun e w' => e = .returned (.int .i64 (Lib.compareInt (x.1 : Int) (y.1 : Int))) ∧ Below w.heap.size w w' ∧ w.drawn ≤ w'.drawn := by
  go_enter Tryz.func86, Tryz.ntmps86
  go_wp2_with (go_at_call 87; refine (Tryz.cmp_Compare_int _ _ _).mono ?_; rintro e w3 ⟨rfl, rfl⟩)
  go_ret
  exact ⟨rfl, by go_grown, by simp⟩
def cfS (x y : Nat × Nat) : Int := Lib.compareInt (x.1 : Int) (y.1 : Int)
theorem lt_cfS (x y : Nat × Nat) : ltOf cfS x y = decide (x.1 < y.1) := by
  unfold ltOf cfS Lib.compareInt
  by_cases h1 : x.1 < y.1
  · simp [h1]
  · by_cases h2 : y.1 < x.1 <;> simp [h1, h2]
theorem swo_cfS : SWO (ltOf cfS) where
  irrefl x := by rw [lt_cfS]; simp
  trans x y z h1 h2 := by rw [lt_cfS] at *; simp at *; omega
  ntrans x y z h1 h2 := by rw [lt_cfS] at *; simp at *; omega
theorem isAggS : ∀ w, (isAgg 66).run Tryz.prog w = .ok true w := fun _ => by kernel_rfl
theorem sizeOfS : ∀ w, (Go.sizeOf 66).run Tryz.prog w = .ok 2 w := fun _ => by kernel_rfl
theorem eg_cmpS : ∀ args w, (callFunc 86 args).run Tryz.prog w = .ok (.enter 86 args) w := enters_of Tryz.func86 (by kernel_rfl) rfl
theorem cmpLaysS (blk off size : Nat) (w : World) : CmpLays Tryz.prog 86 #[] encS 2 cfS blk off size w := by
  intro m os dk _ x y
  exact (cmpS_clo x y _).mono fun e w' ⟨he, hb, hd⟩ => ⟨he, lays_of_below hb hd⟩
theorem sortS_any (g cap : Nat) (l : List (Nat × Nat)) (w : World) (hH : HoldsK encS 2 w g 0 l.toArray) (hg : g < w.heap.size) (hl : l.length ≤ 8796093022000) :
    Calls Tryz.prog 85 #[.slice (some ⟨g, 0, none⟩) l.length cap, .func (.func 86) #[] #[]] w fun e w' =>
      e = .returned (.tuple #[]) ∧ ∃ (m : List (Nat × Nat)) (q : Nat) (os : Array Obj), l.Perm m ∧ m.Pairwise (fun a b => a.1 ≤ b.1) ∧ w' = sortWorldK encS 2 w g 0 q m.toArray os := by
  have hc := AnyQ.slices_SortFunc Tryz.sortL 2 isAggS sizeOfS encS encS_len encS_one cfS swo_cfS 86 #[] g 0 cap l.toArray w eg_cmpS (cmpLaysS g 0 _ w) hH hg (by simp; omega)
  refine hc.mono ?_
  rintro e w' ⟨he, d', q, os, hp, hs, hw⟩
  refine ⟨he, d'.toList, q, os, ?_, ?_, by rw [hw]⟩
  · have h1 := hp.2.2
    have hsz := hp.1
    simp only [List.size_toArray] at hsz
    have e1 : (d'.extract 0 l.toArray.size).toList = d'.toList := by rw [List.size_toArray, ← hsz]; simp
    have e2 : (l.toArray.extract 0 l.toArray.size).toList = l := by simp
    rw [e1, e2] at h1
    exact h1.symm
  · have hsz := hp.1
    simp only [List.size_toArray] at hsz
    rw [List.pairwise_iff_getElem]
    intro i j hi hj hij
    have h1 := hs i j (Nat.zero_le _) hij (by simp; simpa [hsz] using hj)
    rw [lt_cfS, getElem!_pos _ _ (by simpa using hj), getElem!_pos _ _ (by simpa using hi)] at h1
    simp only [decide_eq_false_iff_not, Nat.not_lt] at h1
    simpa using h1
end Go.Proofs.YtgbbjobmcbdhdaaGreatDoor

/-
  Walks: the union of sets.
-/
namespace Go.Proofs.YtgbbjobmcbdhdaaGreatDoor
open Go.RowKit Go.Shelf
open Go.Sort hiding Below

theorem addAll_take (m : List (Nat × Nat)) (k : Nat) (s : Nat × Nat) (h : m[k]? = some s) : addAll [] (m.take (k + 1)) = addS (addAll [] (m.take k)) s.1 s.2 := by
  rw [List.take_add_one, h]; exact addAll_snoc [] (m.take k) s
theorem addS_len (l : List (Nat × Nat)) (f t : Nat) : (addS l f t).length ≤ l.length + 1 := by
  rcases List.eq_nil_or_concat l with rfl | ⟨l', s, rfl⟩
  · simp [addS]
  · rw [List.concat_eq_append, addS_snoc]; split <;> simp
theorem addAll_len : ∀ (m l : List (Nat × Nat)), (addAll l m).length ≤ l.length + m.length
  | [], l => by simp [addAll]
  | s :: m, l => by
    have h1 := addAll_len m (addS l s.1 s.2)
    have h2 := addS_len l s.1 s.2
    simp only [addAll, List.length_cons]; omega
theorem addS_ends {l : List (Nat × Nat)} {f t N : Nat} (h : ∀ s ∈ l, s.2 ≤ N) (ht : t ≤ N) : ∀ s ∈ addS l f t, s.2 ≤ N := by
  rcases List.eq_nil_or_concat l with rfl | ⟨l', u, rfl⟩
  · intro s hs; simp [addS] at hs; subst hs; exact ht
  · rw [List.concat_eq_append] at h ⊢
    rw [addS_snoc]
    have hu := h u (by simp)
    split
    · intro s hs
      rcases List.mem_append.1 hs with hs | hs
      · exact h s (by simp [hs])
      · simp at hs; subst hs; simp; omega
    · intro s hs
      rcases List.mem_append.1 hs with hs | hs
      · exact h s (by simp [hs])
      · simp at hs; rcases hs with rfl | rfl
        · exact hu
        · exact ht
theorem addAll_ends {N : Nat} : ∀ {m l : List (Nat × Nat)}, (∀ s ∈ l, s.2 ≤ N) → (∀ s ∈ m, s.2 ≤ N) → ∀ s ∈ addAll l m, s.2 ≤ N
  | [], _, hl, _ => hl
  | u :: m, l, hl, hm => addAll_ends (m := m) (addS_ends hl (hm u (by simp))) (fun s hs => hm s (by simp [hs]))

theorem own_cast_v {w : World} {base : Nat} {e : TypeId} {size : Nat} {v v' : Value} {n : Nat} {xs : List Value} (h : w.ownsRow base e size v n xs) (hv : v = v') : w.ownsRow base e size v' n xs := hv ▸ h
set_option maxRecDepth 100000 in
set_option maxHeartbeats 2000000 in
theorem union_sets (v : Value) (ls : List (List (Nat × Nat))) (N : Nat) (W : World) (hv : IsL W v ls) (hn : ls.flatten.length ≤ 2199023255552) (hm : ls.length ≤ 2199023255552) (hN : N < 4611686018427387904) (hls : ∀ l ∈ ls, ∀ s ∈ l, s.1 < s.2 ∧ s.2 ≤ N) :
    Calls Tryz.prog 59 #[v] W fun e W' =>
      (∃ v' u, e = .returned v' ∧ W'.ownsRow W.heap.size 66 2 v' u.length (u.flatMap encS) ∧ Good u ∧ (∀ s ∈ u, s.2 ≤ N) ∧ ∀ p, On u p ↔ ∃ l ∈ ls, On l p) ∧ Below W.heap.size W W' := by
  have HC := Lib.hid (concat_any v ls W hv (by omega) (by omega))
  clear hv
  have hfl : ∀ s ∈ ls.flatten, s.1 < s.2 ∧ s.2 ≤ N := by
    intro s hs
    obtain ⟨l, hl, hsl⟩ := List.mem_flatten.1 hs
    exact hls l hl s hsl
  have hon : ∀ p, On ls.flatten p ↔ ∃ l ∈ ls, On l p := by
    intro p
    constructor
    · rintro ⟨s, hs, h⟩
      obtain ⟨l, hl, hsl⟩ := List.mem_flatten.1 hs
      exact ⟨l, hl, s, hsl, h⟩
    · rintro ⟨l, hl, s, hs, h⟩
      exact ⟨s, List.mem_flatten.2 ⟨l, hl, hs⟩, h⟩
  have HF := Lib.hid hfl
  have HON := Lib.hid hon
  clear hfl hon hls
  generalize ls.flatten = F at HC HF HON hn
  -- behind the sort
  have tail : ∀ (m : List (Nat × Nat)), F.Perm m → m.Pairwise (fun a b => a.1 ≤ b.1) → Good (addAll [] m) ∧ (∀ s ∈ addAll [] m, s.2 ≤ N) ∧ ∀ p, On (addAll [] m) p ↔ ∃ l ∈ ls, On l p := by
    intro m hp hs
    obtain ⟨g1, g2⟩ := addAll_good (l := []) (m := m) trivial (fun s hs => by cases hs) hs (fun s hs => (HF.out s (hp.mem_iff.2 hs)).1)
    refine ⟨g1, addAll_ends (fun s hs => by cases hs) (fun s hs => (HF.out s (hp.mem_iff.2 hs)).2), fun p => ?_⟩
    rw [g2 p, ← HON.out p]
    constructor
    · rintro (h | ⟨s, hs, h⟩)
      · exact absurd h (on_nil p)
      · exact ⟨s, hp.mem_iff.2 hs, h⟩
    · rintro ⟨s, hs, h⟩
      exact .inr ⟨s, hp.mem_iff.1 hs, h⟩
  have HT := Lib.hid tail
  clear tail
  go_enter Tryz.func59, Tryz.ntmps59
  go_wp2_with (go_at_call 84; refine HC.out.mono ?_; rintro e W1 ⟨⟨v1, rfl, hown1⟩, hb1⟩)
  rcases Nat.eq_zero_or_pos F.length with h0 | hpos
  · have hF : F = [] := List.length_eq_zero_iff.1 h0
    subst hF
    obtain ⟨p1, c1, rfl⟩ := own_shape hown1
    have HNil := Lib.hid (HT.out [] (List.Perm.refl _) List.Pairwise.nil)
    clear hown1 HT HC
    go_wp2_with (go_at_call 85; refine (AnyF.slices_SortFunc_none Tryz.sortL _ _ _ _).mono ?_; rintro e W2 ⟨rfl, rfl⟩)
    go_loopw [4, 13] (fun v i wr => v = .slice none 0 0 ∧ i = .int .i64 0 ∧ Below W.heap.size W wr) (fun _ _ _ => 0)
    case atStart => exact ⟨rfl, rfl, hb1⟩
    case round =>
      obtain ⟨rfl, rfl, hbw⟩ := hrel
      go_wp2
      go_ret
      exact ⟨⟨_, [], rfl, World.ownsRow_nil _ _ _ _, HNil.out⟩, hbw⟩
  · obtain ⟨g, cap, cur, rfl, hgb, hh, hcap, hm1, hsz, htk, -⟩ := own_readS hown1 hpos
    have hH := holds_of_ownS hh hcap hsz htk
    have hgl : g < W1.heap.size := Blk.lt (vs := cur) (t := 66) ⟨hh⟩
    have HS := Lib.hid (sortS_any g cap F W1 hH hgl (by omega))
    clear hH
    go_wp2_with (go_at_call 85; refine HS.out.mono ?_; rintro e W2 ⟨rfl, m, q, os, hp, hs, hw2⟩; have HW2 := Lib.hid hw2; clear hw2)
    have hw2 := HW2.out
    clear HW2
    have hml : m.length = F.length := hp.length_eq.symm
    have hown2 := sorted_ownS (q := q) (os := os) (m := m) hgb hh hcap hm1 hsz hml
    have hbel2 := sorted_belowS (q := q) (os := os) (d := m.toArray) hb1 hgb hb1.size
    rw [← hw2] at hown2 hbel2
    have hrd : ReadsS W2 g 0 m := by
      obtain ⟨g', cap', cur', hv, _, _, _, _, _, _, hr⟩ := own_readS (own_cast_v (v' := .slice (some ⟨g, 0, none⟩) m.length cap) hown2 (by rw [hml])) (by omega)
      simp only [Value.slice.injEq, Option.some.injEq, Addr.mk.injEq, and_true, true_and] at hv
      obtain ⟨rfl, -⟩ := hv
      exact hr
    have hfin := HT.out m hp hs
    have hends : ∀ s ∈ m, s.2 ≤ N := fun s hs => (HF.out s (hp.mem_iff.2 hs)).2
    have hstarts : ∀ s ∈ m, s.1 < s.2 := fun s hs => (HF.out s (hp.mem_iff.2 hs)).1
    have HR := Lib.hid hrd
    have HFin := Lib.hid hfin
    have HE := Lib.hid hends
    have HST := Lib.hid hstarts
    have HTk := Lib.hid (addAll_take m)
    have HB2 := Lib.hid hbel2
    have HML := Lib.hid hml
    clear hown1 hown2 hbel2 hrd hfin hends hstarts HT HC HS HF HON hp hs hw2 hml hh hcap hm1 hsz htk hb1 hgb hgl
    go_loopw [4, 13] (fun v i wr => ∃ k : Nat, k ≤ F.length ∧ i = .int .i64 k ∧ wr.ownsRow W2.heap.size 66 2 v (addAll [] (m.take k)).length ((addAll [] (m.take k)).flatMap encS) ∧ Below W2.heap.size W2 wr) (fun _ i _ => F.length - (intOf i).toNat)
    case atStart => exact ⟨0, Nat.zero_le _, rfl, World.ownsRow_nil _ _ _ _, Below.refl _ _⟩
    case round =>
      obtain ⟨k, hk, rfl, hown, hbw⟩ := hrel
      by_cases hlt : k < F.length
      · obtain ⟨s, hs⟩ : ∃ s, m[k]? = some s := ⟨_, List.getElem?_eq_getElem (by rw [HML.out]; exact hlt)⟩
        have a0 := HR.out k s hs 0 _ rfl
        have a1 := HR.out k s hs 1 _ rfl
        have a0 := (hbw.cell (lt_of_cell a0)).trans a0
        have a1 := (hbw.cell (lt_of_cell a1)).trans a1
        rw [Nat.zero_add, Nat.add_zero] at a0
        rw [Nat.zero_add] at a1
        have hsm := List.mem_of_getElem? hs
        have h2 := HE.out s hsm
        have h1 := HST.out s hsm
        have hlen := addAll_len (m.take k) []
        have hends : ∀ s ∈ addAll [] (m.take k), s.2 < 4611686018427387904 := fun u hu => by
          have := addAll_ends (N := N) (m := m.take k) (l := []) (fun s hs => by cases hs) (fun s hs => HE.out s (List.mem_of_mem_take hs)) u hu
          omega
        rw [List.length_take] at hlen
        have HK := Lib.hid (HTk.out k s hs)
        have HO := Lib.hid hown
        have HB := Lib.hid hbw
        have hsz := hbw.size
        have HEn := Lib.hid hends
        clear hs hsm hown hbw hends
        simp only [List.length_nil, Nat.zero_add] at hlen
        generalize addAll [] (m.take k) = G at HK HO hlen HEn
        have HA := Lib.hid (addSp_any _ G s.1 s.2 W2.heap.size (wr.alloc (.cells #[.int .i64 (s.1 : Int), .int .i64 (s.2 : Int)] 66)) (own_alloc HO.out _) (by simp; omega) (by omega) (by omega) (by omega) HEn.out)
        go_wp2_with (go_at_call 83; refine HA.out.mono ?_; rintro e W3 ⟨⟨v3, rfl, hown3⟩, hg3⟩)
        go_roundw
        case rel => exact ⟨k + 1, by omega, by go_num, by rw [HK.out]; exact hown3, (HB.out.alloc hsz _).grown hg3 (by simp; omega) (fun k hk => own_ge HO.out k hk)⟩
        case measure => simp [intOf]; omega
      · obtain rfl : k = F.length := by omega
        rw [← HML.out, List.take_length] at hown
        have HO := Lib.hid hown
        clear hown
        go_wp2
        go_ret
        exact ⟨⟨_, _, rfl, own_mono HO.out HB2.out.size, HFin.out⟩, HB2.out.trans (hbw.mono HB2.out.size)⟩
end Go.Proofs.YtgbbjobmcbdhdaaGreatDoor

/-
  Walks: the gaps of a set.
-/
namespace Go.Proofs.YtgbbjobmcbdhdaaGreatDoor
open Go.RowKit Go.Shelf
open Go.Sort hiding Below

/-- the spans before the end of l that are not in it, and where the last one of l ends. -/
def gapsTo : Nat → List (Nat × Nat) → List (Nat × Nat) × Nat
  | p, [] => ([], p)
  | p, s :: l => if p < s.1 then ((p, s.1) :: (gapsTo s.2 l).1, (gapsTo s.2 l).2) else gapsTo s.2 l
theorem gaps_to : ∀ (l : List (Nat × Nat)) (p n : Nat), gaps p n l = (gapsTo p l).1 ++ if (gapsTo p l).2 ≤ n then [((gapsTo p l).2, n + 1)] else []
  | [], _, _ => rfl
  | s :: l, p, n => by
    have ih := gaps_to l s.2 n
    unfold gaps gapsTo
    split
    · rw [ih]; rfl
    · rw [ih]
theorem gapsTo_snoc : ∀ (l : List (Nat × Nat)) (p : Nat) (s : Nat × Nat), gapsTo p (l ++ [s]) = (if (gapsTo p l).2 < s.1 then (gapsTo p l).1 ++ [((gapsTo p l).2, s.1)] else (gapsTo p l).1, s.2)
  | [], p, s => by by_cases h : p < s.1 <;> simp [gapsTo, h]
  | u :: l, p, s => by
    have ih := gapsTo_snoc l u.2 s
    simp only [List.cons_append, gapsTo]
    rw [ih]
    split <;> split <;> simp
theorem gapsTo_take (l : List (Nat × Nat)) (p k : Nat) (s : Nat × Nat) (h : l[k]? = some s) : gapsTo p (l.take (k + 1)) = (if (gapsTo p (l.take k)).2 < s.1 then (gapsTo p (l.take k)).1 ++ [((gapsTo p (l.take k)).2, s.1)] else (gapsTo p (l.take k)).1, s.2) := by
  rw [List.take_add_one, h]; exact gapsTo_snoc (l.take k) p s
theorem gapsTo_bound {N : Nat} : ∀ (l : List (Nat × Nat)) (p : Nat), p ≤ N → (∀ s ∈ l, s.2 ≤ N) → (gapsTo p l).2 ≤ N ∧ (gapsTo p l).1.length ≤ l.length
  | [], p, hp, _ => ⟨hp, Nat.le_refl _⟩
  | s :: l, p, hp, h => by
    have ih := gapsTo_bound l s.2 (h s (by simp)) (fun u hu => h u (by simp [hu]))
    unfold gapsTo
    split
    · exact ⟨ih.1, by simp only [List.length_cons]; omega⟩
    · exact ⟨ih.1, by simp only [List.length_cons]; omega⟩

theorem own_lt {w : World} {base : Nat} {e : TypeId} {size : Nat} {v : Value} {n : Nat} {xs : List Value} (h : w.ownsRow base e size v n xs) : ∀ g, v.ownBlock = some g → g < w.heap.size := by
  intro g hg
  rcases h.2 with ⟨rfl, _⟩ | ⟨g', cap, cur, rfl, _, hh, _⟩
  · cases hg
  · cases hg; exact Blk.lt (vs := cur) (t := e) ⟨hh⟩
set_option maxRecDepth 100000 in
set_option maxHeartbeats 2000000 in
theorem others_any (Bm : Nat) (xv mv : Value) (bp : Option Addr) (n bc p : Nat) (v : Value) (l : List (Nat × Nat)) (W : World) (hM : Blk W Bm #[xv, .slice bp n bc, mv] 61) (hv : IsS W v l) (hl : l.length ≤ 2199023255552) (hn : n ≤ 2199023255552) (hp : p ≤ n + 1) (hls : ∀ s ∈ l, s.1 ≤ n + 1 ∧ s.2 ≤ n + 1) :
    Calls Tryz.prog 90 #[.pointer (some ⟨Bm, 0, none⟩), .int .i64 (p : Int), v] W fun e W' =>
      (∃ v', e = .returned v' ∧ W'.ownsRow W.heap.size 66 2 v' (gaps p n l).length ((gaps p n l).flatMap encS)) ∧ Below W.heap.size W W' := by
  obtain ⟨i0, hi, hz0, hz1, hz2⟩ := info_parts infoS
  obtain ⟨sp, sc, rfl⟩ := hv.shape
  have HV := Lib.hid (fun k s (hk : l[k]? = some s) => hv.at hk)
  have hmc := hM.cell 1 rfl
  have HG := Lib.hid (gaps_to l p n)
  have HT := Lib.hid (gapsTo_take l p)
  have HBd := Lib.hid (fun k => gapsTo_bound (N := n + 1) (l.take k) p hp (fun s hs => (hls s (List.mem_of_mem_take hs)).2))
  have HL := Lib.hid hls
  clear hv hls hM
  go_enter Tryz.func90, Tryz.ntmps90
  go_wp2
  go_loopw [1, 7, 12] (fun pv v i wr => ∃ k : Nat, k ≤ l.length ∧ i = .int .i64 k ∧ pv = .int .i64 (((gapsTo p (l.take k)).2 : Nat) : Int) ∧ wr.ownsRow W.heap.size 66 2 v (gapsTo p (l.take k)).1.length ((gapsTo p (l.take k)).1.flatMap encS) ∧ Below W.heap.size W wr) (fun _ _ i _ => l.length - (intOf i).toNat)
  case atStart => exact ⟨0, Nat.zero_le _, rfl, rfl, World.ownsRow_nil _ _ _ _, Below.refl _ _⟩
  case round =>
    obtain ⟨k, hk, rfl, rfl, hown, hbw⟩ := hrel
    have hbd := HBd.out k
    have hll : (l.take k).length ≤ k := List.length_take_le _ _
    by_cases hlt : k < l.length
    · obtain ⟨s, hs⟩ : ∃ s, l[k]? = some s := ⟨_, List.getElem?_eq_getElem hlt⟩
      obtain ⟨blk, off, rfl, a0, a1⟩ := HV.out k s hs
      have a0 := (hbw.cell (lt_of_cell a0)).trans a0
      have a1 := (hbw.cell (lt_of_cell a1)).trans a1
      have hsb := HL.out s (List.mem_of_getElem? hs)
      have HK := Lib.hid (HT.out k s hs)
      have HO := Lib.hid hown
      have HB := Lib.hid hbw
      have hsz := hbw.size
      clear hs hown hbw
      generalize gapsTo p (l.take k) = G at HK HO hbd
      obtain ⟨G1, q⟩ := G
      simp only at HO hbd HK
      by_cases hq : q < s.1
      · have t1 : decide ((q : Int) < (s.1 : Int)) = true := by simp; omega
        have HK2 := Lib.hid (show gapsTo p (l.take (k + 1)) = (G1 ++ [(q, s.1)], s.2) by rw [HK.out, if_pos hq])
        clear HK
        go_wp2_with (at_builtin; refine wpList_append_own _ rfl _ _ 62 rfl W.heap.size 66 i0 _ 2 16 Tryz.underlying62 hi hz0 hz1 hz2 rfl (by decide) _ _ _ rfl (own_alloc (own_alloc HO.out _) _) ⟨wr.heap.size + 1, 0, none⟩ 1 1 (encS (q, s.1)) rfl rfl (cells_new2 _ _ _ _ _ (by simp)) (encS_one _) (by unfold maxLen; omega) (by omega) (by simp; omega) ?_; intro v' w2 hown2 hgrow _; have hbx := ((Blk.new wr #[.int .i64 (s.1 : Int), .int .i64 (s.2 : Int)] 66).alloc (.cells #[.int .i64 (q : Int), .int .i64 (s.1 : Int)] 66)).grownBy hgrow (fun k2 e2 => by have := own_lt HO.out k2 e2; omega); have d1 := hbx.cell 1 rfl)
        go_roundw
        case rel => exact ⟨k + 1, by omega, by go_num, by rw [HK2.out], by rw [HK2.out]; exact own_cast hown2 (by simp) (by rw [flat_snocS]), (((HB.out.alloc hsz _).alloc (by simp; omega) _)).grown hgrow (by simp; omega) (fun k hk => own_ge HO.out k hk)⟩
        case measure => simp [intOf]; omega
      · have t1 : decide ((q : Int) < (s.1 : Int)) = false := by simp; omega
        have HK2 := Lib.hid (show gapsTo p (l.take (k + 1)) = (G1, s.2) by rw [HK.out, if_neg hq])
        clear HK
        go_wp2
        go_roundw
        case rel => exact ⟨k + 1, by omega, by go_num, by rw [HK2.out], by rw [HK2.out]; exact own_alloc HO.out _, HB.out.alloc hsz _⟩
        case measure => simp [intOf]; omega
    · obtain rfl : k = l.length := by omega
      rw [List.take_length] at hown hbd ⊢
      have hmc2 := (hbw.cell (lt_of_cell hmc)).trans hmc
      have HO := Lib.hid hown
      have HB := Lib.hid hbw
      have hsz := hbw.size
      clear hown hbw hmc
      generalize gapsTo p l = G at HG HO hbd ⊢
      obtain ⟨G1, q⟩ := G
      simp only at HO hbd HG ⊢
      have w1 : IntKind.i64.wrap ((n : Int) + 1) = ((n + 1 : Nat) : Int) := by rw [IntWalk.i64_in _ (by omega)]; omega
      by_cases hq : q ≤ n
      · have t1 : decide ((q : Int) ≤ (n : Int)) = true := by simp; omega
        have HF := Lib.hid (show gaps p n l = G1 ++ [(q, n + 1)] by rw [HG.out, if_pos hq])
        clear HG
        go_wp2_with (at_builtin; refine wpList_append_own _ rfl _ _ 62 rfl W.heap.size 66 i0 _ 2 16 Tryz.underlying62 hi hz0 hz1 hz2 rfl (by decide) _ _ _ rfl (own_alloc HO.out _) ⟨wr.heap.size, 0, none⟩ 1 1 (encS (q, n + 1)) rfl rfl (cells_new2 _ _ _ _ _ rfl) (encS_one _) (by unfold maxLen; omega) (by omega) (by simp; omega) ?_; intro v' w2 hown2 hgrow _)
        go_ret
        rw [HF.out]
        exact ⟨⟨_, rfl, own_cast hown2 (by simp) (by rw [flat_snocS])⟩, (HB.out.alloc hsz _).grown hgrow (by simp; omega) (fun k hk => own_ge HO.out k hk)⟩
      · have t1 : decide ((q : Int) ≤ (n : Int)) = false := by simp; omega
        have HF := Lib.hid (show gaps p n l = G1 by rw [HG.out, if_neg hq, List.append_nil])
        clear HG
        go_wp2
        go_ret
        rw [HF.out]
        exact ⟨⟨_, rfl, HO.out⟩, HB.out⟩
end Go.Proofs.YtgbbjobmcbdhdaaGreatDoor
