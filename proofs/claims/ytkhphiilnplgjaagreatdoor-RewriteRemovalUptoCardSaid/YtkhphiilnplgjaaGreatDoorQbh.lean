/-
  Texts of the proof, one behind another: Yj, Yk.
-/
import Derived.Test.YtkhphiilnplgjaaGreatDoorQbf
import Derived.Test.YtkhphiilnplgjaaGreatDoorShd
import Derived.Deep.QuietTactic
import Derived.BigQuiet
set_option linter.unusedSimpArgs false
set_option linter.unusedVariables false
namespace Go.Proofs.YtkhphiilnplgjaaGreatDoor
open Go.RowKit Go.Lib

/-- where a digit stands among the digits. -/
def digL : List UInt8 := [48, 49, 50, 51, 52, 53, 54, 55, 56, 57, 97, 98, 99, 100, 101, 102, 65, 66, 67, 68, 69, 70]
def digI (z : Int) : Int := Lib.indexByte digL z.toNat.toUInt8
theorem dig_all : (List.range 256).all (fun n => decide (-1 ≤ digI (n : Nat)) && decide (digI (n : Nat) < 22) && (decide (16 ≤ digI (n : Nat)) && decide (hexI (n : Nat) = digI (n : Nat) - 6) || decide (digI (n : Nat) < 16) && decide (hexI (n : Nat) = digI (n : Nat)))) = true := by decide +kernel
theorem dig_hex (z : Int) (h0 : 0 ≤ z) (h1 : z < 256) : -1 ≤ digI z ∧ digI z < 22 ∧ ((16 ≤ digI z ∧ hexI z = digI z - 6) ∨ (digI z < 16 ∧ hexI z = digI z)) := by
  have h := List.all_eq_true.1 dig_all z.toNat (List.mem_range.2 (by omega))
  rw [show ((z.toNat : Nat) : Int) = z by omega] at h
  simpa [and_assoc] using h
set_option maxHeartbeats 1000000 in
theorem value_any (z : Int) (w : World) (h0 : 0 ≤ z) (h1 : z < 256) :
    Calls Tryz.prog 146 #[.int .u8 z] w fun e w' => e = .returned (.int .i64 (hexI z)) ∧ w = w' := by
  obtain ⟨d1, d2, d3⟩ := dig_hex z h0 h1
  have HI : Hid (∀ W, Calls Tryz.prog 149 #[.string ⟨#[48, 49, 50, 51, 52, 53, 54, 55, 56, 57, 97, 98, 99, 100, 101, 102, 65, 66, 67, 68, 69, 70]⟩, .int .u8 z] W fun e w' => e = .returned (.int .i64 (digI z)) ∧ W = w') :=
    Lib.hid fun W => (Tryz.strings_IndexByte _ z W).mono fun _ _ ⟨a, b⟩ => ⟨a, b.symm⟩
  generalize digI z = r at d1 d2 d3 HI
  rcases d3 with ⟨d3, d4⟩ | ⟨d3, d4⟩
  · have HR := Lib.hid d4
    clear d4
    go_enter Tryz.func146, Tryz.ntmps146
    go_wp2_with (first | (go_at_call 149; ((with_reducible refine (HI.out _).mono ?_)); rintro e w1 ⟨rfl, rfl⟩) | fail)
    go_ret
    exact ⟨ret_int HR.out.symm, rfl⟩
  · have HR := Lib.hid d4
    clear d4
    go_enter Tryz.func146, Tryz.ntmps146
    go_wp2_with (first | (go_at_call 149; ((with_reducible refine (HI.out _).mono ?_)); rintro e w1 ⟨rfl, rfl⟩) | fail)
    go_ret
    exact ⟨ret_int HR.out.symm, rfl⟩
theorem seq_none_short {b : List Int} (h : b.length < 3) : seqI b = none := by
  have := seq_short (b := b) (i := 0) (by omega)
  rwa [List.drop_zero] at this
theorem seq_at0 {b : List Int} {x y z : Int} (hx : b[0]? = some x) (hy : b[1]? = some y) (hz : b[2]? = some z) : seqI b = if x = 37 ∧ 0 ≤ hexI y ∧ 0 ≤ hexI z then some (16 * hexI y + hexI z) else none := by
  have := seq_three (b := b) (i := 0) hx hy hz
  rwa [List.drop_zero] at this
/-- what sequence gives. -/
def SeqRes (r : Option Int) : Value := .tuple #[.int .u8 (r.getD 0), .bool r.isSome]
set_option maxRecDepth 100000 in
set_option maxHeartbeats 1000000 in
theorem sequence_any (v : Value) (b : List Int) (w : World) (hv : IsY w v b) (hb : b.length ≤ 140737488351232) :
    Calls Tryz.prog 126 #[v] w fun e w' => e = .returned (SeqRes (seqI b)) ∧ Below w.heap.size w w' := by
  obtain ⟨p, cap, rfl, hc⟩ := hv.shape
  by_cases h3 : b.length < 3
  · have HS := Lib.hid (seq_none_short h3)
    have hd : decide ((b.length : Int) < 3) = true := by rw [decide_eq_true_iff]; omega
    clear hv
    go_enter Tryz.func126, Tryz.ntmps126
    go_wp2
    go_ret2
    exact ⟨by rw [HS.out]; rfl, Below.refl _ _⟩
  · obtain ⟨x, hx⟩ := get_of_lt (l := b) (k := 0) (by omega)
    obtain ⟨y, hy⟩ := get_of_lt (l := b) (k := 1) (by omega)
    obtain ⟨z, hz⟩ := get_of_lt (l := b) (k := 2) (by omega)
    have hx8 := hv.byt.at hx
    have hy8 := hv.byt.at hy
    have hz8 := hv.byt.at hz
    obtain ⟨bb, oo, rfl, c0⟩ := hv.at hx
    obtain ⟨b1, o1, e1, c1⟩ := hv.at hy
    obtain ⟨b2, o2, e2, c2⟩ := hv.at hz
    simp only [Option.some.injEq, Addr.mk.injEq, and_true] at e1 e2
    obtain ⟨rfl, rfl⟩ := e1
    obtain ⟨rfl, rfl⟩ := e2
    rw [Nat.add_zero] at c0
    have hd : decide ((b.length : Int) < 3) = false := by rw [decide_eq_false_iff_not]; omega
    have l0 : 0 < b.length := by omega
    have l1 : 1 < b.length := by omega
    have l2 : 2 < b.length := by omega
    have HQ := Lib.hid (seq_at0 hx hy hz)
    have hya := hexI_lt y
    have hyb := hexI_ge y
    have hza := hexI_lt z
    have hzb := hexI_ge z
    have HD1 := Lib.hid (fun W => value_any y W hy8.1 hy8.2)
    have HD2 := Lib.hid (fun W => value_any z W hz8.1 hz8.2)
    generalize hexI y = hy' at HQ hya hyb HD1
    generalize hexI z = hz' at HQ hza hzb HD2
    clear hv hx hy hz
    by_cases hx37 : x = 37
    · subst hx37
      by_cases hyp : 0 ≤ hy'
      · by_cases hzp : 0 ≤ hz'
        · have HR := Lib.hid (show seqI b = some (16 * hy' + hz') by rw [HQ.out, if_pos ⟨rfl, hyp, hzp⟩])
          have m1 : IntKind.i64.wrap (16 * hy') = 16 * hy' := by rw [IntWalk.i64_in _ (by omega)]
          have m2 : IntKind.i64.wrap (16 * hy' + hz') = 16 * hy' + hz' := by rw [IntWalk.i64_in _ (by omega)]
          have m3 : IntKind.u8.wrap (16 * hy' + hz') = 16 * hy' + hz' := by simp [IntKind.wrap, IntKind.bits, IntKind.signed]; omega
          have d1 : decide (hy' < 0) = false := by rw [decide_eq_false_iff_not]; omega
          have d2 : decide (hz' < 0) = false := by rw [decide_eq_false_iff_not]; omega
          go_enter Tryz.func126, Tryz.ntmps126
          go_wp2_with (first | (go_at_call 146; ((with_reducible refine (HD1.out _).mono ?_)); rintro e w1 ⟨rfl, rfl⟩) | (go_at_call 146; ((with_reducible refine (HD2.out _).mono ?_)); rintro e w1 ⟨rfl, rfl⟩) | fail)
          go_quiet ((first | (go_at_call 146; with_reducible exact Calls.quiet_of_same (turn (HD1.out _))) | (go_at_call 146; with_reducible exact Calls.quiet_of_same (turn (HD2.out _)))))
          go_wp2
          go_ret2
          exact ⟨by rw [HR.out]; rfl, below_drews (Below.refl _ _) _⟩
        · have HR := Lib.hid (show seqI b = none by rw [HQ.out, if_neg (by omega)])
          have d1 : decide (hy' < 0) = false := by rw [decide_eq_false_iff_not]; omega
          have d2 : decide (hz' < 0) = true := by rw [decide_eq_true_iff]; omega
          go_enter Tryz.func126, Tryz.ntmps126
          go_wp2_with (first | (go_at_call 146; ((with_reducible refine (HD1.out _).mono ?_)); rintro e w1 ⟨rfl, rfl⟩) | (go_at_call 146; ((with_reducible refine (HD2.out _).mono ?_)); rintro e w1 ⟨rfl, rfl⟩) | fail)
          go_ret2
          exact ⟨by rw [HR.out]; rfl, Below.refl _ _⟩
      · have HR := Lib.hid (show seqI b = none by rw [HQ.out, if_neg (by omega)])
        have d1 : decide (hy' < 0) = true := by rw [decide_eq_true_iff]; omega
        go_enter Tryz.func126, Tryz.ntmps126
        go_wp2_with (first | (go_at_call 146; ((with_reducible refine (HD1.out _).mono ?_)); rintro e w1 ⟨rfl, rfl⟩) | (go_at_call 146; ((with_reducible refine (HD2.out _).mono ?_)); rintro e w1 ⟨rfl, rfl⟩) | fail)
        go_ret2
        exact ⟨by rw [HR.out]; rfl, Below.refl _ _⟩
    · have HR := Lib.hid (show seqI b = none by rw [HQ.out, if_neg (fun h => hx37 h.1)])
      have hne : (x != 37) = true := by rw [bne_iff_ne]; exact hx37
      go_enter Tryz.func126, Tryz.ntmps126
      go_wp2
      go_ret2
      exact ⟨by rw [HR.out]; rfl, Below.refl _ _⟩
end Go.Proofs.YtkhphiilnplgjaaGreatDoor

namespace Go.Proofs.YtkhphiilnplgjaaGreatDoor
open Go.RowKit Go.Lib

theorem IsY.drop_some {w : World} {b o cap : Nat} {l : List Int} (h : IsY w (.slice (some ⟨b, o, none⟩) l.length cap) l) (k : Nat) (hk : k ≤ l.length) : IsY w (.slice (if cap = k then some ⟨b, o, none⟩ else some ⟨b, o + k, none⟩) (l.drop k).length (cap - k)) (l.drop k) := by
  have h2 := h.drop k hk
  unfold tailA at h2
  simp only [Option.map_some, addr_add] at h2
  rw [List.length_drop]; exact h2
def sLen : Value → Nat
  | .slice _ n _ => n
  | _ => 0
set_option maxRecDepth 100000 in
set_option maxHeartbeats 4000000 in
theorem decode_any (u : Value) (b : List Int) (lax : Bool) (w : World) (hu : IsY w u b) (hb : b.length ≤ 140737488351232) :
    Calls Tryz.prog 97 #[.agg #[.bool lax], u] w (DoRes w (dec lax b)) := by
  obtain ⟨i0, hi, hz0, hz1, hz2⟩ := info_parts infoU8
  obtain ⟨p, cap, rfl, hc⟩ := hu.shape
  have HU := Lib.hid hu
  have D1 := Blk.new w #[.bool lax] 120
  have hbw1 : Below w.heap.size w (w.alloc (.cells #[.bool lax] 120)) := by go_grown
  clear hu
  go_enter Tryz.func97, Tryz.ntmps97
  go_wp2
  generalize (w.alloc (.cells #[.bool lax] 120)) = w1 at D1 hbw1 ⊢
  go_loopw [1, 6] (fun bv ov wr => ∃ (r acc : List Int) (q : Option Addr) (c : Nat), bv = .slice q r.length c ∧ IsY w (.slice q r.length c) r ∧ wr.ownsRow (w.heap.size + 1) 5 1 ov acc.length (acc.map (Value.int .u8)) ∧ Byt acc ∧ (dec lax r).map (acc ++ ·) = dec lax b ∧ Blk wr w.heap.size #[.bool lax] 120 ∧ Below w.heap.size w wr ∧ acc.length + r.length ≤ b.length) (fun bv _ _ => sLen bv)
  case atStart =>
    exact ⟨b, [], p, cap, rfl, HU.out, World.ownsRow_nil _ _ _ _, Byt.nil, by cases dec lax b <;> simp, D1, hbw1, by simp⟩
  case round =>
    clear D1 hbw1
    obtain ⟨r, acc, q, c, rfl, hr, hown, hacc, hinv, D, hbw, hal⟩ := hrel
    have HO := Lib.hid hown
    have HA := Lib.hid hacc
    have HE := Lib.hid hinv
    have HB := Lib.hid hbw
    have HD := Lib.hid D
    have HR := Lib.hid hr
    clear hown hacc hinv hr
    rcases Nat.eq_zero_or_pos r.length with hr0 | hr0
    · obtain rfl : r = [] := List.length_eq_zero_iff.1 hr0
      have hE : some acc = dec lax b := by rw [← HE.out, dec_nil]; simp
      have HF := Lib.hid hE
      clear hE HE hr0
      obtain ⟨pq, cq, rfl⟩ := own_shape HO.out
      go_wp2
      go_ret2
      exact ⟨_, by rw [← HF.out]; rfl, by rw [← HF.out]; exact own_isY HA.out HO.out, hbw⟩
    · obtain ⟨x, hx⟩ := get_of_lt hr0
      have hx8 := HR.out.byt.at hx
      obtain ⟨bb, oo, rfl, c0⟩ := HR.out.at hx
      rw [Nat.add_zero] at c0
      have HX := Lib.hid hx
      clear hx
      have hd : decide ((0 : Int) < (r.length : Int)) = true := by rw [decide_eq_true_iff]; omega
      have HSq := Lib.hid (sequence_any _ r wr (HR.out.grows hbw) (by omega))
      have hds := D.lt
      cases hs : seqI r with
      | some y =>
        rw [hs] at HSq
        have hy8 := seq_byte hs
        have hl3 := seqI_len hs
        have HS := Lib.hid (dec_seq_rest (lax := lax) (acc := acc) hs)
        have HY3 := Lib.hid (HR.out.drop_some 3 hl3)
        clear hs c0
        go_wp2_with fail
        refine HSq.out.mono ?_
        rintro e w2 ⟨rfl, hb2⟩
        have HO2 := Lib.hid (own_below HO.out hb2)
        have HD2 := Lib.hid (HD.out.grows hb2)
        have HB2 := Lib.hid (below_two hbw hb2)
        have hs2 := hb2.size
        clear D hb2 hbw
        simp only [SeqRes, Option.getD_some, Option.isSome_some]
        go_wp2_with (at_builtin; refine wpList_append_own _ rfl _ _ 22 rfl (w.heap.size + 1) 5 i0 (.int .u8 0) 1 1 Tryz.underlying22 hi hz0 hz1 hz2 rfl (by decide) _ _ _ rfl (own_alloc HO2.out _) ⟨w2.heap.size, 0, none⟩ 1 1 [.int .u8 y] rfl rfl (cell_one_new _ _ _) (by simp [Value.oneCell']) (by unfold maxLen; omega) (by omega) (by simp; omega) ?_; intro v' w9 hown2 hgrow _)
        go_roundw
        case rel =>
          have hg := own_ge HO2.out
          exact ⟨r.drop 3, acc ++ [y], _, _, by rw [List.length_drop], HY3.out, own_cast hown2 (by simp) (by simp), HA.out.append (Byt.one hy8), by rw [← HE.out]; exact HS.out.symm, (HD2.out.alloc _).grownBy hgrow (fun k e => by have := hg k e; omega), (HB2.out.alloc HB2.out.size _).grown hgrow (by have := HB2.out.size; simp; omega) (fun k e => by have := hg k e; omega), by rw [List.length_append, List.length_drop]; simp only [List.length_cons, List.length_nil]; omega⟩
        case measure => simp [sLen]; omega
      | none =>
        rw [hs] at HSq
        by_cases hbad : x = 37 ∧ lax = false
        · obtain ⟨rfl, rfl⟩ := hbad
          have HS := Lib.hid (dec_stop_rest (acc := acc) HX.out hs)
          clear hs
          go_wp2_with fail
          refine HSq.out.mono ?_
          rintro e w2 ⟨rfl, hb2⟩
          have HB2 := Lib.hid (below_two hbw hb2)
          have D2 := HD.out.grows hb2
          have k0 : w2.cell? ⟨bb, oo, none⟩ = some (.int .u8 37) := (HB2.out.cell (lt_of_cell c0)).trans c0
          have k1 : w2.cell? ⟨w.heap.size, 0, none⟩ = some (.bool false) := D2.cell 0 rfl
          clear D hb2 c0 hbw D2
          simp only [SeqRes, Option.getD_none, Option.isSome_none]
          go_wp2
          go_ret2
          have hE : none = dec false b := by rw [← HE.out]; exact HS.out.symm
          exact ⟨_, by rw [← hE]; rfl, by rw [← hE]; exact IsY.nil _, HB2.out⟩
        · have HS := Lib.hid (dec_one_rest (lax := lax) (acc := acc) HX.out hs hbad)
          have HY3 := Lib.hid (HR.out.drop_some 1 (by omega))
          clear hs
          go_wp2_with fail
          refine HSq.out.mono ?_
          rintro e w2 ⟨rfl, hb2⟩
          have HO2 := Lib.hid (own_below HO.out hb2)
          have HD2 := Lib.hid (HD.out.grows hb2)
          have HB2 := Lib.hid (below_two hbw hb2)
          have hs2 := hb2.size
          have D2 := HD.out.grows hb2
          have k0 : w2.cell? ⟨bb, oo, none⟩ = some (.int .u8 x) := (HB2.out.cell (lt_of_cell c0)).trans c0
          have k1 : w2.cell? ⟨w.heap.size, 0, none⟩ = some (.bool lax) := D2.cell 0 rfl
          clear D hb2 c0 hbw D2
          simp only [SeqRes, Option.getD_none, Option.isSome_none]
          have hpick : (x == 37) = false ∨ (x = 37 ∧ lax = true) := by
            by_cases h : x = 37
            · exact .inr ⟨h, by cases lax <;> simp_all⟩
            · exact .inl (by rw [beq_eq_false_iff_ne]; exact h)
          clear hbad
          rcases hpick with hne | ⟨rfl, rfl⟩
          all_goals
            go_wp2
            go_quiet (fail)
            rename_i nq
            have HO3 : Hid ((w2.drewN nq).ownsRow (w.heap.size + 1) 5 1 u6 acc.length (acc.map (Value.int .u8))) := Lib.hid (own_below HO2.out (below_drews (Below.refl _ _) _))
            have HD3 := Lib.hid (HD2.out.grows (below_drews (Below.refl _ w2) nq))
            have HB3 := Lib.hid (below_drews HB2.out nq)
            have hs3 : w2.heap.size ≤ (w2.drewN nq).heap.size := Nat.le_refl _
            clear k0 k1
            generalize w2.drewN nq = w3 at HO3 HD3 HB3 hs3 ⊢
          · go_wp2_with (at_builtin; refine wpList_append_own _ rfl _ _ 22 rfl (w.heap.size + 1) 5 i0 (.int .u8 0) 1 1 Tryz.underlying22 hi hz0 hz1 hz2 rfl (by decide) _ _ _ rfl (own_alloc HO3.out _) ⟨w3.heap.size, 0, none⟩ 1 1 [.int .u8 x] rfl rfl (cell_one_new _ _ _) (by simp [Value.oneCell']) (by unfold maxLen; omega) (by omega) (by simp; omega) ?_; intro v' w9 hown2 hgrow _)
            go_roundw
            case rel =>
              have hg := own_ge HO3.out
              exact ⟨r.drop 1, acc ++ [x], _, _, by rw [List.length_drop], HY3.out, own_cast hown2 (by simp) (by simp), HA.out.append (Byt.one hx8), by rw [← HE.out]; exact HS.out.symm, (HD3.out.alloc _).grownBy hgrow (fun k e => by have := hg k e; omega), (HB3.out.alloc HB3.out.size _).grown hgrow (by have := HB3.out.size; simp; omega) (fun k e => by have := hg k e; omega), by rw [List.length_append, List.length_drop]; simp only [List.length_cons, List.length_nil]; omega⟩
            case measure => simp [sLen]; omega
          · go_wp2_with (at_builtin; refine wpList_append_own _ rfl _ _ 22 rfl (w.heap.size + 1) 5 i0 (.int .u8 0) 1 1 Tryz.underlying22 hi hz0 hz1 hz2 rfl (by decide) _ _ _ rfl (own_alloc HO3.out _) ⟨w3.heap.size, 0, none⟩ 1 1 [.int .u8 37] rfl rfl (cell_one_new _ _ _) (by simp [Value.oneCell']) (by unfold maxLen; omega) (by omega) (by simp; omega) ?_; intro v' w9 hown2 hgrow _)
            go_roundw
            case rel =>
              have hg := own_ge HO3.out
              exact ⟨r.drop 1, acc ++ [37], _, _, by rw [List.length_drop], HY3.out, own_cast hown2 (by simp) (by simp), HA.out.append (Byt.one hx8), by rw [← HE.out]; exact HS.out.symm, (HD3.out.alloc _).grownBy hgrow (fun k e => by have := hg k e; omega), (HB3.out.alloc HB3.out.size _).grown hgrow (by have := HB3.out.size; simp; omega) (fun k e => by have := hg k e; omega), by rw [List.length_append, List.length_drop]; simp only [List.length_cons, List.length_nil]; omega⟩
            case measure => simp [sLen]; omega
end Go.Proofs.YtkhphiilnplgjaaGreatDoor
