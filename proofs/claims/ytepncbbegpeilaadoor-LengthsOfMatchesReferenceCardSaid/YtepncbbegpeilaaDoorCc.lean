/-
  Walks: rows of booleans joined to one.
-/
import Derived.Test.YtepncbbegpeilaaDoorCl
import Derived.Test.YtepncbbegpeilaaDoorShb
import Derived.Laws.AppendOwnNone
set_option linter.unusedSimpArgs false
set_option linter.unusedVariables false
namespace Go.Proofs.YtepncbbegpeilaaDoor
open Go.RowKit Go.Shelf

/-- the value is a slice of slices that read as these sets. -/
def IsL (w : World) (v : Value) (ls : List (List Bool)) : Prop :=
  (ls = [] ∧ ∃ p cap, v = .slice p 0 cap) ∨ ∃ blk off cap, v = .slice (some ⟨blk, off, none⟩) ls.length cap ∧ ∀ j l, ls[j]? = some l → ∃ p c, w.cell? ⟨blk, off + j, none⟩ = some (.slice p l.length c) ∧ IsB w (.slice p l.length c) l
theorem IsL.kept {w w' : World} {v : Value} {ls : List (List Bool)} (h : IsL w v ls) (hk : ∀ a u, w.cell? a = some u → w'.cell? a = some u) : IsL w' v ls := by
  rcases h with h | ⟨blk, off, cap, rfl, h⟩
  · exact .inl h
  · refine .inr ⟨blk, off, cap, rfl, fun j l hj => ?_⟩
    obtain ⟨p, c, h1, h2⟩ := h j l hj
    exact ⟨p, c, hk _ _ h1, h2.kept hk⟩
theorem kept_below {w w' : World} (h : Below w.heap.size w w') : ∀ a u, w.cell? a = some u → w'.cell? a = some u := fun _ _ hc => (h.cell (lt_of_cell hc)).trans hc
theorem kept_grown {w w' : World} (h : w.grownBy w' none) : ∀ a u, w.cell? a = some u → w'.cell? a = some u := fun a u hc => (World.cell?_of_block (h.block a.block (lt_of_cell hc) (by simp))).trans hc

set_option maxRecDepth 100000 in
set_option maxHeartbeats 1000000 in
theorem grow_any (n : Nat) (hn : n ≤ 8796093022000) (W : World) : Calls Tryd.prog 39 #[.slice none 0 0, .int .i64 (n : Int)] W fun e W' =>
    (∃ v, e = .returned v ∧ W'.ownsRow W.heap.size 4 1 v 0 []) ∧ Below W.heap.size W W' := by
  obtain ⟨i0, hi, hz0, hz1, hz2⟩ := info_parts infoBool
  rcases Nat.eq_zero_or_pos n with rfl | hpos
  · refine (Any8.slices_Grow_room Tryd.growL none 0 0 0 W (by omega) (by omega) (by omega) (by omega)).mono ?_
    rintro e w' ⟨rfl, rfl⟩
    exact ⟨⟨_, rfl, World.ownsRow_nil _ _ _ _⟩, Below.refl _ _⟩
  · refine (Any8.slices_Grow_grow Tryd.growL i0 _ hi hz0 (by rw [hz1]; decide) none 0 0 n [] W (by omega) (by omega) (by rw [hz2]; omega) (by omega) (by simp) (by simp) (by simp)).mono ?_
    rintro e w' ⟨rfl, rfl⟩
    refine ⟨⟨_, rfl, ?_⟩, ((Below.refl _ _).drew).alloc (by simp) _⟩
    exact World.ownsRow_made (w := W.drew) _ _ (by simp) (grownCap_le_maxLen _ _ _ _ (by unfold maxLen; omega)) (by
      have h9 := grownCap_ge W (0 + n) 0 (Tryd.growL_ren.t 25)
      simp only [Array.size_append, size_zeroCells]
      show 0 + (0 + n - 0) * 1 + (grownCap W (0 + n) 0 (Tryd.growL_ren.t 25) - (0 + n)) * 1 = grownCap W (0 + n) 0 (Tryd.growL_ren.t 25) * 1
      omega)
theorem isL_at {w : World} {p : Option Addr} {n cap : Nat} {ls : List (List Bool)} (h : IsL w (.slice p n cap) ls) {k : Nat} {l : List Bool} (hk : ls[k]? = some l) :
    ∃ blk off pl cl, p = some ⟨blk, off, none⟩ ∧ w.cell? ⟨blk, off + k, none⟩ = some (.slice pl l.length cl) ∧ IsB w (.slice pl l.length cl) l := by
  rcases h with ⟨rfl, _⟩ | ⟨blk, off, cap, he, hc⟩
  · cases hk
  · simp only [Value.slice.injEq] at he
    obtain ⟨pl, cl, h1, h2⟩ := hc k l hk
    exact ⟨blk, off, pl, cl, he.1, h1, h2⟩
theorem flat_take_len (ls : List (List Bool)) (k : Nat) : ((ls.take k).flatten).length ≤ ls.flatten.length := by
  conv => rhs; rw [← List.take_append_drop k ls]
  rw [List.flatten_append, List.length_append]; omega
theorem flat_take_snoc (ls : List (List Bool)) (k : Nat) (l : List Bool) (h : ls[k]? = some l) : (ls.take (k + 1)).flatten = (ls.take k).flatten ++ l := by
  rw [List.take_add_one, h, List.flatten_append]; simp
set_option maxRecDepth 100000 in
set_option maxHeartbeats 2000000 in
theorem concat_any (v : Value) (ls : List (List Bool)) (W : World) (hv : IsL W v ls) (hn : ls.flatten.length ≤ 8796093022000) (hm : ls.length ≤ 8796093022000) :
    Calls Tryd.prog 25 #[v] W fun e W' =>
      (∃ v', e = .returned v' ∧ W'.ownsRow W.heap.size 4 1 v' ls.flatten.length (ls.flatten.map Value.bool)) ∧ Below W.heap.size W W' := by
  obtain ⟨i0, hi, hz0, hz1, hz2⟩ := info_parts infoBool
  have HT := Lib.hid (flat_take_len ls)
  have HS := Lib.hid (flat_take_snoc ls)
  obtain ⟨p, cap, rfl⟩ : ∃ p cap, v = .slice p ls.length cap := by
    rcases hv with ⟨rfl, p, cap, rfl⟩ | ⟨b, o, c, rfl, _⟩
    · exact ⟨_, _, rfl⟩
    · exact ⟨_, _, rfl⟩
  have HV := Lib.hid (fun k l (hk : ls[k]? = some l) => isL_at hv hk)
  clear hv
  go_enter Tryd.func25, Tryd.ntmps25
  go_wp2
  go_loop [3, 11] (fun sz i => ∃ k : Nat, k ≤ ls.length ∧ i = .int .i64 k ∧ sz = .int .i64 ((((ls.take k).flatten).length : Nat) : Int)) (fun _ i => ls.length - (intOf i).toNat)
  case atStart => exact ⟨0, Nat.zero_le _, rfl, rfl⟩
  case round =>
    obtain ⟨k, hk, rfl, rfl⟩ := hrel
    by_cases hlt : k < ls.length
    · obtain ⟨l, hl⟩ : ∃ l, ls[k]? = some l := ⟨_, List.getElem?_eq_getElem hlt⟩
      obtain ⟨blk, off, pl, cl, rfl, hc, -⟩ := HV.out k l hl
      have hs := HS.out k l hl
      have hb := HT.out (k + 1)
      have hlen : ((ls.take (k + 1)).flatten).length = ((ls.take k).flatten).length + l.length := by rw [hs, List.length_append]
      have HL := Lib.hid hlen
      clear hl hs
      generalize hG : ((ls.take (k + 1)).flatten).length = G at hb HL
      generalize hF : ((ls.take k).flatten).length = F at HL
      have hbF : F + l.length ≤ 8796093022000 := by have := HL.out; omega
      have HG := Lib.hid hG
      have w1 : IntKind.i64.wrap ((F : Int) + (l.length : Int)) = (F : Int) + (l.length : Int) := IntWalk.i64_in _ (by omega)
      have t1 : decide ((F : Int) + (l.length : Int) < 0) = false := by simp; omega
      clear hG hF hb hlen
      go_wp2
      go_round
      case rel => exact ⟨k + 1, by omega, by go_num, by rw [HG.out, HL.out]; simp⟩
      case measure => simp [intOf]; omega
    · obtain rfl : k = ls.length := by omega
      rw [List.take_length]
      have HGr := Lib.hid (grow_any ls.flatten.length hn)
      generalize hG : ls.flatten.length = G at hn HT HGr
      have HG := Lib.hid hG
      clear hG
      go_wp2_with (go_at_call 39; refine (HGr.out _).mono ?_; rintro e W1 ⟨⟨v1, rfl, hown1⟩, hb1⟩)
      go_loopw [6, 27] (fun v i wr => ∃ k : Nat, k ≤ ls.length ∧ i = .int .i64 k ∧ wr.ownsRow W.heap.size 4 1 v ((ls.take k).flatten).length (((ls.take k).flatten).map Value.bool) ∧ Below W.heap.size W wr) (fun _ i _ => ls.length - (intOf i).toNat)
      case atStart => exact ⟨0, Nat.zero_le _, rfl, hown1, hb1⟩
      case round =>
        clear hown1 hb1
        obtain ⟨k, hk, rfl, hown, hbw⟩ := hrel
        by_cases hlt2 : k < ls.length
        · obtain ⟨l, hl⟩ : ∃ l, ls[k]? = some l := ⟨_, List.getElem?_eq_getElem hlt2⟩
          obtain ⟨blk, off, pl, cl, rfl, hc, hr⟩ := HV.out k l hl
          have hc2 := (hbw.cell (lt_of_cell hc)).trans hc
          have hr2 : IsB _ _ _ := hr.kept (fun a u ha => (hbw.cell (lt_of_cell ha)).trans ha)
          have hs := HS.out k l hl
          have hb := HT.out (k + 1)
          have HSn := Lib.hid hs
          rw [hs, List.length_append] at hb
          have HO := Lib.hid hown
          have HB := Lib.hid hbw
          have hsz := hbw.size
          clear hl hs hr hc hown hbw
          generalize (ls.take k).flatten = F at HO HSn hb
          rcases hr2 with ⟨rfl, p2, c2, he, hp2⟩ | ⟨b2, o2, c2, he, hrd⟩
          · cases he
            cases pl with
            | none =>
              obtain rfl := hp2 rfl
              go_wp2_with (at_builtin; refine wpList_append_own_none rfl _ _ 26 rfl W.heap.size 4 i0 1 Tryd.underlying26 hi _ _ _ rfl HO.out rfl ?_)
              go_roundw
              case rel => exact ⟨k + 1, by omega, by go_num, by rw [HSn.out]; exact own_cast HO.out (by simp) (by simp), HB.out⟩
              case measure => simp [intOf]; omega
            | some a =>
              go_wp2_with (at_builtin; refine wpList_append_own _ rfl _ _ 26 rfl W.heap.size 4 i0 _ 1 1 Tryd.underlying26 hi hz0 hz1 hz2 rfl (by decide) _ _ _ rfl HO.out a 0 cl [] rfl rfl (by simp) (by simp) (by unfold maxLen; omega) (by omega) hsz ?_; intro v' w2 hown2 hgrow _)
              go_roundw
              case rel => exact ⟨k + 1, by omega, by go_num, by rw [HSn.out]; exact own_cast hown2 (by simp) (by simp), HB.out.grown hgrow hsz (fun k hk => own_ge HO.out k hk)⟩
              case measure => simp [intOf]; omega
          · cases he
            have HR := Lib.hid (readB_new hrd.2)
            clear hrd
            go_wp2_with (at_builtin; refine wpList_append_own _ rfl _ _ 26 rfl W.heap.size 4 i0 _ 1 1 Tryd.underlying26 hi hz0 hz1 hz2 rfl (by decide) _ _ _ rfl HO.out ⟨b2, o2, none⟩ l.length cl (l.map Value.bool) rfl (by simp) HR.out (map_one l) (by unfold maxLen; omega) (by omega) hsz ?_; intro v' w2 hown2 hgrow _)
            go_roundw
            case rel => exact ⟨k + 1, by omega, by go_num, by rw [HSn.out]; exact own_cast hown2 (by simp) (by simp), HB.out.grown hgrow hsz (fun k hk => own_ge HO.out k hk)⟩
            case measure => simp [intOf]; omega
        · obtain rfl : k = ls.length := by omega
          rw [List.take_length] at hown
          have HO := Lib.hid hown
          clear hown
          go_wp2
          go_ret
          exact ⟨⟨_, rfl, HO.out⟩, hbw⟩
end Go.Proofs.YtepncbbegpeilaaDoor
