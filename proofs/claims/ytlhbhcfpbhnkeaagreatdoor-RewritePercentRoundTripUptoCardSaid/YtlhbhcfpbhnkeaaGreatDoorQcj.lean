/-
  Texts of the proof, one behind another: Zx, Zy.
-/
import Derived.Test.YtlhbhcfpbhnkeaaGreatDoorQci
import Derived.StillTailTactics
import Derived.Deep.RegionHeld3
import Derived.Deep.AppendLies
set_option linter.unusedSimpArgs false
set_option linter.unusedVariables false
namespace Go.Proofs.YtlhbhcfpbhnkeaaGreatDoor
open Go.RowKit Go.Lib

/-- a hex digit's byte. -/
def hexd (cap : Bool) (d : Int) : Int := if d < 10 then 48 + d else if cap then 55 + d else 87 + d
def enc (cap : Bool) : List Int → List Int
  | [] => []
  | z :: l => 37 :: hexd cap (z / 16) :: hexd cap (z % 16) :: enc cap l
theorem hexd_byte (cap : Bool) (d : Int) (h0 : 0 ≤ d) (h1 : d < 16) : 0 ≤ hexd cap d ∧ hexd cap d < 256 := by unfold hexd; cases cap <;> (repeat' split) <;> omega
theorem hexI_hexd (cap : Bool) (d : Int) (h0 : 0 ≤ d) (h1 : d < 16) : hexI (hexd cap d) = d := by
  unfold hexI hexd
  cases cap <;> simp <;> (repeat' split) <;> omega
theorem enc_len (cap : Bool) : ∀ l : List Int, (enc cap l).length = 3 * l.length
  | [] => rfl
  | _ :: l => by simp only [enc, List.length_cons, enc_len cap l]; omega
theorem enc_append (cap : Bool) : ∀ l m : List Int, enc cap (l ++ m) = enc cap l ++ enc cap m
  | [], _ => rfl
  | z :: l, m => by simp only [enc, List.cons_append, enc_append cap l m]
theorem enc_byte (cap : Bool) : ∀ l : List Int, Byt l → Byt (enc cap l)
  | [], _ => Byt.nil
  | z :: l, h => by
    have hz := h z (by simp)
    have h1 := hexd_byte cap (z / 16) (by omega) (by omega)
    have h2 := hexd_byte cap (z % 16) (by omega) (by omega)
    have h3 := enc_byte cap l (fun y hy => h y (by simp [hy]))
    intro y hy
    simp only [enc, List.mem_cons] at hy
    rcases hy with rfl | rfl | rfl | hy
    · omega
    · exact h1
    · exact h2
    · exact h3 y hy
theorem dec_enc (cap lax : Bool) : ∀ l : List Int, Byt l → dec lax (enc cap l) = some l
  | [], _ => rfl
  | z :: l, h => by
    have hz := h z (by simp)
    have h1 := hexI_hexd cap (z / 16) (by omega) (by omega)
    have h2 := hexI_hexd cap (z % 16) (by omega) (by omega)
    have hs : seqI (37 :: hexd cap (z / 16) :: hexd cap (z % 16) :: enc cap l) = some z := by
      simp only [seqI]
      rw [h1, h2, if_pos ⟨trivial, by omega, by omega⟩]
      congr 1; omega
    show dec lax (37 :: hexd cap (z / 16) :: hexd cap (z % 16) :: enc cap l) = _
    rw [dec_seq _ _ _ _ hs]
    show (dec lax (enc cap l)).map _ = _
    rw [dec_enc cap lax l (fun y hy => h y (by simp [hy]))]
    rfl
theorem dec_lax : ∀ (n : Nat) (b : List Int), b.length ≤ n → ∃ x, dec true b = some x ∧ x.length ≤ b.length ∧ ∀ y, dec false b = some y → y = x
  | _, [], _ => ⟨[], rfl, Nat.le_refl _, fun y h => by rw [dec_nil] at h; cases h; rfl⟩
  | 0, _ :: _, hl => by simp at hl
  | n + 1, z :: l, hl => by
    simp only [List.length_cons] at hl
    cases hs : seqI (z :: l) with
    | some q =>
      have h2 := seqI_len hs
      simp only [List.length_cons] at h2
      obtain ⟨x, hx, hl2, hf⟩ := dec_lax n (l.drop 2) (by rw [List.length_drop]; omega)
      refine ⟨q :: x, by rw [dec_seq _ _ _ _ hs, hx]; rfl, ?_, fun y hy => ?_⟩
      · rw [List.length_drop] at hl2
        simp only [List.length_cons]; omega
      · rw [dec_seq _ _ _ _ hs, Option.map_eq_some_iff] at hy
        obtain ⟨y', h3, rfl⟩ := hy
        rw [hf y' h3]
    | none =>
      obtain ⟨x, hx, hl2, hf⟩ := dec_lax n l (by omega)
      refine ⟨z :: x, by rw [dec_one _ _ _ hs (fun h => by cases h.2), hx]; rfl, by simp only [List.length_cons]; omega, fun y hy => ?_⟩
      by_cases hz : z = 37
      · subst hz; rw [dec_bad _ hs] at hy; cases hy
      · rw [dec_one _ _ _ hs (fun h => hz h.1), Option.map_eq_some_iff] at hy
        obtain ⟨y', h3, rfl⟩ := hy
        rw [hf y' h3]
theorem u8_wrap (n : Int) (h : 0 ≤ n ∧ n < 256) : IntKind.u8.wrap n = n := by simp [IntKind.wrap, IntKind.signed, IntKind.bits]; omega
def capS (cap : Bool) : ByteArray := if cap then ⟨#[48, 49, 50, 51, 52, 53, 54, 55, 56, 57, 65, 66, 67, 68, 69, 70]⟩ else ⟨#[48, 49, 50, 51, 52, 53, 54, 55, 56, 57, 97, 98, 99, 100, 101, 102]⟩
theorem index_hex (cap : Bool) (d : Int) (h0 : 0 ≤ d) (h1 : d < 16) (w : World) : (Instr.index 9 (.string (capS cap)) (.int .u8 d)).run Tryz.prog w = .ok (.int .u8 (hexd cap d)) w := by
  rw [run_index_string (P := Tryz.prog) w 9 (capS cap) .u8 d Tryz.underlying9]
  have hd : d = 0 ∨ d = 1 ∨ d = 2 ∨ d = 3 ∨ d = 4 ∨ d = 5 ∨ d = 6 ∨ d = 7 ∨ d = 8 ∨ d = 9 ∨ d = 10 ∨ d = 11 ∨ d = 12 ∨ d = 13 ∨ d = 14 ∨ d = 15 := by omega
  cases cap <;> rcases hd with rfl | rfl | rfl | rfl | rfl | rfl | rfl | rfl | rfl | rfl | rfl | rfl | rfl | rfl | rfl | rfl <;> rfl
set_option maxRecDepth 100000 in
set_option maxHeartbeats 8000000 in
theorem percent_walk (u t : Value) (cap : Bool) (b c : List Int) (w : World) (hu : IsY w u b) (ht : IsY w t c) (hbd : b.length + c.length ≤ 1048576)
    (hM : MaxOk w) (hT : TabAt 0 Lib.deBruijn64tab w) (hg : 0 < w.heap.size) :
    Calls Tryz.prog 7 #[u, t, .bool cap] w fun e w' => e = .returned (.bool true) ∧ Below w.heap.size w w' := by
  have HS := Lib.hid (sanity8_any w hM hT hg)
  have HM := Lib.hid (fun W (hW : Below w.heap.size w W) => hM.grows hW hM.lt)
  have HU := Lib.hid (fun W (hW : Below w.heap.size w W) => hu.grows hW)
  have HT := Lib.hid (fun W (hW : Below w.heap.size w W) => ht.grows hW)
  have HBy := Lib.hid hu.byt
  obtain ⟨pb, cb, rfl, -⟩ := hu.shape
  obtain ⟨pc, cc, rfl, -⟩ := ht.shape
  clear hM hT hg hu ht
  obtain ⟨S, hS⟩ : ∃ S, capS cap = S := ⟨_, rfl⟩
  have HIx := Lib.hid (fun d h0 h1 W => index_hex cap d h0 h1 W)
  rw [hS] at HIx
  have hlit : S = capS cap := hS.symm
  clear hS
  go_enter Tryz.func7, Tryz.ntmps7
  go_wp2_with fail
  refine HS.out.mono ?_
  rintro e w1 ⟨rfl, hb1⟩
  have HB1 := Lib.hid hb1
  clear HS hb1
  cases cap
  · subst hlit
    have HIx' : Hid (∀ (d : Int), 0 ≤ d → d < 16 → ∀ (W : World), (Instr.index 9 (.string ⟨#[48, 49, 50, 51, 52, 53, 54, 55, 56, 57, 97, 98, 99, 100, 101, 102]⟩) (.int .u8 d)).run Tryz.prog W = .ok (.int .u8 (hexd false d)) W) := HIx
    clear HIx
    go_wp2_with fail
    have HO1 := Lib.hid (own_of_blk (base := w1.heap.size) (Blk.new w1 #[] 5) 0 1 rfl (Nat.zero_le _) (Nat.le_refl _))
    have hA1 : Hid (Below w1.heap.size w1 (w1.alloc (.cells #[] 5))) := Lib.hid (by go_grown)
    go_loopw [9, 10] (fun u iv wr => ∃ i : Nat, i ≤ b.length ∧ iv = .int .i64 (i : Int) ∧ wr.ownsRow w1.heap.size 5 1 u (enc false (b.take i)).length ((enc false (b.take i)).map (Value.int .u8)) ∧ Below w1.heap.size w1 wr) (fun _ iv _ => b.length - (RowKit.intOf iv).toNat)
    case atStart => exact ⟨0, Nat.zero_le _, rfl, HO1.out, hA1.out⟩
    case round =>
      obtain ⟨i, hil, rfl, hown, hbw⟩ := hrel
      by_cases hlt : i < b.length
      · obtain ⟨z, hz⟩ := get_of_lt hlt
        have hzb := HBy.out.at hz
        obtain ⟨b0, o0, rfl, x0⟩ := (HU.out wr (below_two HB1.out hbw)).at hz
        have q1 := HIx'.out (z / 16) (by omega) (by omega)
        have q2 := HIx'.out (z % 16) (by omega) (by omega)
        have hy1 := hexd_byte false (z / 16) (by omega) (by omega)
        have hy2 := hexd_byte false (z % 16) (by omega) (by omega)
        have HEN : Hid (enc false (b.take (i + 1)) = enc false (b.take i) ++ [37, hexd false (z / 16), hexd false (z % 16)]) := Lib.hid (by rw [List.take_add_one, hz, enc_append]; rfl)
        have HLN : Hid ((enc false (b.take i)).length ≤ 3 * b.length) := Lib.hid (by rw [enc_len, List.length_take]; omega)
        generalize hexd false (z / 16) = h1 at q1 hy1 HEN
        generalize hexd false (z % 16) = h2 at q2 hy2 HEN
        generalize enc false (b.take i) = L at hown HEN HLN
        have ht1 : IntKind.u8.wrap (z.tdiv 16) = z / 16 := by rw [Int.tdiv_eq_ediv_of_nonneg hzb.1]; exact u8_wrap _ (by omega)
        have ht2 : z.tmod 16 = z % 16 := Int.tmod_eq_emod_of_nonneg hzb.1
        have ht3 : IntKind.u8.wrap (z.tmod 16) = z % 16 := by rw [ht2]; exact u8_wrap _ (by omega)
        have q3 : ∀ W, (Instr.index 9 (.string ⟨#[48, 49, 50, 51, 52, 53, 54, 55, 56, 57, 97, 98, 99, 100, 101, 102]⟩) (.int .u8 (IntKind.u8.wrap (z.tdiv 16)))).run Tryz.prog W = .ok (.int .u8 h1) W := fun W => by rw [ht1]; exact q1 W
        have q4 : ∀ W, (Instr.index 9 (.string ⟨#[48, 49, 50, 51, 52, 53, 54, 55, 56, 57, 97, 98, 99, 100, 101, 102]⟩) (.int .u8 (IntKind.u8.wrap (z.tmod 16)))).run Tryz.prog W = .ok (.int .u8 h2) W := fun W => by rw [ht3]; exact q2 W
        have q5 : ∀ W, (Instr.index 9 (.string ⟨#[48, 49, 50, 51, 52, 53, 54, 55, 56, 57, 97, 98, 99, 100, 101, 102]⟩) (.int .u8 (z.tmod 16))).run Tryz.prog W = .ok (.int .u8 h2) W := fun W => by rw [ht2]; exact q2 W
        clear ht1 ht2 ht3 q1 q2
        have hd : decide ((i : Int) < (b.length : Int)) = true := by rw [decide_eq_true_iff]; omega
        have HOY : Hid (((wr.alloc (.cells #[.int .u8 37, .int .u8 h1, .int .u8 h2] 5)).drew).ownsRow w1.heap.size 5 1 u9 L.length (L.map (Value.int .u8))) := Lib.hid (own_drew (own_alloc hown _))
        have HLY : Hid (IsY ((wr.alloc (.cells #[.int .u8 37, .int .u8 h1, .int .u8 h2] 5)).drew) (.slice (some ⟨wr.heap.size, 0, none⟩) ([37, h1, h2] : List Int).length 3) [37, h1, h2]) := Lib.hid ((lit_isY (l := [37, h1, h2]) (n := 3) rfl rfl (by intro y hy; simp at hy; omega) (World.alloc_heap_new wr (.cells #[.int .u8 37, .int .u8 h1, .int .u8 h2] 5))).grows (by go_grown))
        have hblt : b0 < w1.heap.size := IsY.lt (HU.out w1 HB1.out) (j := i) hlt
        have HOG := Lib.hid (fun k (h : u9.ownBlock = some k) => (show k ≠ b0 by have := own_ge hown k h; omega))
        have HOK := Lib.hid (own_ge hown)
        have HBW : Hid (Below w1.heap.size w1 ((wr.alloc (.cells #[.int .u8 37, .int .u8 h1, .int .u8 h2] 5)).drew)) := Lib.hid ((hbw.alloc hbw.size _).drew)
        have hsz : w1.heap.size ≤ ((wr.alloc (.cells #[.int .u8 37, .int .u8 h1, .int .u8 h2] 5)).drew).heap.size := HBW.out.size
        have HSZ := Lib.hid hsz
        have hS : (wr.drew).cell? ⟨b0, o0 + i, none⟩ = some (.int .u8 z) := x0
        have hS2 : ((wr.alloc (.cells #[.int .u8 37, .int .u8 h1, .int .u8 h2] 5)).drew).cell? ⟨b0, o0 + i, none⟩ = some (.int .u8 z) := cell_al x0 _
        clear hz hown hbw hsz
        go_wp2_with fail
        go_region_held3 (fun W => W.cell? ⟨b0, o0 + i, none⟩ = some (.int .u8 z))
          (first | (with_reducible exact hS) | (with_reducible exact hS2) | (with_reducible exact hS3) | fail)
          (first
            | (refine app_step rfl _ _ rfl rfl w1.heap.size _ L [37, h1, h2] (some ⟨wr.heap.size, 0, none⟩) 3 rfl rfl HOY.out HLY.out (by have := HLN.out; simp; omega) HSZ.out ?_; intro v9 w9 G9; have hS3 : w9.cell? ⟨b0, o0 + i, none⟩ = some (.int .u8 z) := cell_gr G9.grown hS2 HOG.out)
            | fail)
        all_goals
          go_wp2
          go_roundw
          case rel =>
            exact ⟨i + 1, by omega, by go_num, by rw [HEN.out]; exact G9.own, HBW.out.grown G9.grown HSZ.out HOK.out⟩
          case measure => simp [RowKit.intOf]; omega
      · obtain rfl : i = b.length := by omega
        rw [List.take_length] at hown
        have hyE := own_isY (enc_byte false b HBy.out) hown
        have hlE := enc_len false b
        have hdE := fun lax => dec_enc false lax b HBy.out
        generalize enc false b = E at hyE hlE hdE
        obtain ⟨pe, ce, rfl, -⟩ := hyE.shape
        have HYE := Lib.hid (fun W (hW : Below wr.heap.size wr W) => hyE.grows hW)
        have HLE := Lib.hid hlE
        have HDE := Lib.hid hdE
        obtain ⟨X, hX, hXl, hXf⟩ := dec_lax c.length c (Nat.le_refl _)
        have HX := Lib.hid (And.intro hX hXf)
        have hle : decide ((X.length : Int) ≤ (c.length : Int)) = true := by rw [decide_eq_true_iff]; omega
        have hd : decide ((b.length : Int) < (b.length : Int)) = false := by rw [decide_eq_false_iff_not]; omega
        have HBr := Lib.hid (below_two HB1.out hbw)
        have HHl := Lib.hid hXl
        clear hown hyE hlE hdE hX hXl hXf hbw hle
        obtain ⟨nE, hnE⟩ : ∃ n, E.length = n := ⟨_, rfl⟩
        rw [hnE] at HYE HLE ⊢
        go_wp2_with fail
        have hdo1 := do_all _ _ 3 [] [] E wr (op_nil wr 3) (HYE.out wr (Below.refl _ _)) (by simp) (by simp) (by have := HLE.out; omega) (fun h => by omega) (HM.out wr HBr.out)
        rw [show doI 3 [] [] E = some b by rw [doI_val (by rfl), cat_3]; exact HDE.out false] at hdo1
        refine hdo1.mono ?_
        rintro e w2 ⟨x1, rfl, hx1, hb2⟩
        obtain ⟨p1, c1, rfl, -⟩ := hx1.shape
        have HX1 := Lib.hid hx1
        have HB2 := Lib.hid hb2
        clear hdo1 hx1 hb2
        simp only [Option.isSome_some]
        go_wp2_with fail
        have hdo2 := do_all _ _ 4 [] [] E w2 (op_nil w2 4) (HYE.out w2 HB2.out) (by simp) (by simp) (by have := HLE.out; omega) (fun h => by omega) (HM.out w2 (below_two HBr.out HB2.out))
        rw [show doI 4 [] [] E = some b by rw [doI_val (by rfl)]; exact HDE.out true] at hdo2
        refine hdo2.mono ?_
        rintro e w3 ⟨x2, rfl, hx2, hb3⟩
        obtain ⟨p2, c2, rfl, -⟩ := hx2.shape
        have HX2 := Lib.hid hx2
        have HX13 := Lib.hid (HX1.out.grows hb3)
        have HB3 := Lib.hid (below_two HB2.out hb3)
        clear hdo2 hx2 hb3
        simp only [Option.isSome_some]
        go_wp2_with fail
        have hdo3 := do_all _ _ 3 [] [] c w3 (op_nil w3 3) (HT.out w3 (below_two HBr.out HB3.out)) (by simp) (by simp) (by omega) (fun h => by omega) (HM.out w3 (below_two HBr.out HB3.out))
        rw [show doI 3 [] [] c = dec false c by rw [doI_val (by rfl), cat_3]] at hdo3
        cases hr3 : dec false c with
        | none =>
          rw [hr3] at hdo3
          refine hdo3.mono ?_
          rintro e w4 ⟨x3, rfl, hx3, hb4⟩
          obtain ⟨p3, c3, rfl, -⟩ := hx3.shape
          have HX3 := Lib.hid hx3
          have HX14 := Lib.hid (HX13.out.grows hb4)
          have HX24 := Lib.hid (HX2.out.grows hb4)
          have HB4 := Lib.hid (below_two HB3.out hb4)
          clear hdo3 hx3 hb4 hr3
          simp only [Option.isSome_none]
          go_wp2_with fail
          have hdo4 := do_all _ _ 4 [] [] c w4 (op_nil w4 4) (HT.out w4 (below_two HBr.out HB4.out)) (by simp) (by simp) (by omega) (fun h => by omega) (HM.out w4 (below_two HBr.out HB4.out))
          rw [show doI 4 [] [] c = some X by rw [doI_val (by rfl)]; exact HX.out.1] at hdo4
          refine hdo4.mono ?_
          rintro e w5 ⟨x4, rfl, hx4, hb5⟩
          obtain ⟨p4, c4, rfl, -⟩ := hx4.shape
          have HX4 := Lib.hid hx4
          have HX15 := Lib.hid (HX14.out.grows hb5)
          have HX25 := Lib.hid (HX24.out.grows hb5)
          have HX35 := Lib.hid (HX3.out.grows hb5)
          have HB5 := Lib.hid (below_two HB4.out hb5)
          clear hdo4 hx4 hb5
          simp only [Option.isSome_some, Option.getD_some]
          go_wp2_with fail
          refine (same_any _ _ b b w5 HX15.out (HU.out w5 (below_two HBr.out HB5.out))).mono ?_
          rintro e w6 ⟨rfl, rfl⟩
          rw [eqY_iff.2 rfl]
          go_wp2_with fail
          refine (same_any _ _ b b w5 HX25.out (HU.out w5 (below_two HBr.out HB5.out))).mono ?_
          rintro e w6 ⟨rfl, rfl⟩
          rw [eqY_iff.2 rfl]
          go_wp2_with fail
          go_ret
          exact ⟨by show Ending.returned (.bool (decide (X.length ≤ c.length))) = _; rw [decide_eq_true HHl.out], below_two HBr.out HB5.out⟩
        | some Y =>
          rw [hr3] at hdo3
          rw [HX.out.2 Y hr3] at hdo3
          refine hdo3.mono ?_
          rintro e w4 ⟨x3, rfl, hx3, hb4⟩
          obtain ⟨p3, c3, rfl, -⟩ := hx3.shape
          have HX3 := Lib.hid hx3
          have HX14 := Lib.hid (HX13.out.grows hb4)
          have HX24 := Lib.hid (HX2.out.grows hb4)
          have HB4 := Lib.hid (below_two HB3.out hb4)
          clear hdo3 hx3 hb4 hr3
          simp only [Option.isSome_some]
          go_wp2_with fail
          have hdo4 := do_all _ _ 4 [] [] c w4 (op_nil w4 4) (HT.out w4 (below_two HBr.out HB4.out)) (by simp) (by simp) (by omega) (fun h => by omega) (HM.out w4 (below_two HBr.out HB4.out))
          rw [show doI 4 [] [] c = some X by rw [doI_val (by rfl)]; exact HX.out.1] at hdo4
          refine hdo4.mono ?_
          rintro e w5 ⟨x4, rfl, hx4, hb5⟩
          obtain ⟨p4, c4, rfl, -⟩ := hx4.shape
          have HX4 := Lib.hid hx4
          have HX15 := Lib.hid (HX14.out.grows hb5)
          have HX25 := Lib.hid (HX24.out.grows hb5)
          have HX35 := Lib.hid (HX3.out.grows hb5)
          have HB5 := Lib.hid (below_two HB4.out hb5)
          clear hdo4 hx4 hb5
          simp only [Option.isSome_some, Option.getD_some]
          go_wp2_with fail
          refine (same_any _ _ b b w5 HX15.out (HU.out w5 (below_two HBr.out HB5.out))).mono ?_
          rintro e w6 ⟨rfl, rfl⟩
          rw [eqY_iff.2 rfl]
          go_wp2_with fail
          refine (same_any _ _ b b w5 HX25.out (HU.out w5 (below_two HBr.out HB5.out))).mono ?_
          rintro e w6 ⟨rfl, rfl⟩
          rw [eqY_iff.2 rfl]
          go_wp2_with fail
          refine (same_any _ _ X X w5 HX35.out HX4.out).mono ?_
          rintro e w6 ⟨rfl, rfl⟩
          rw [eqY_iff.2 rfl]
          go_wp2_with fail
          go_ret
          exact ⟨by show Ending.returned (.bool (decide (X.length ≤ c.length))) = _; rw [decide_eq_true HHl.out], below_two HBr.out HB5.out⟩
  · subst hlit
    have HIx' : Hid (∀ (d : Int), 0 ≤ d → d < 16 → ∀ (W : World), (Instr.index 9 (.string ⟨#[48, 49, 50, 51, 52, 53, 54, 55, 56, 57, 65, 66, 67, 68, 69, 70]⟩) (.int .u8 d)).run Tryz.prog W = .ok (.int .u8 (hexd true d)) W) := HIx
    clear HIx
    go_wp2_with fail
    have HO1 := Lib.hid (own_of_blk (base := w1.heap.size) (Blk.new w1 #[] 5) 0 1 rfl (Nat.zero_le _) (Nat.le_refl _))
    have hA1 : Hid (Below w1.heap.size w1 (w1.alloc (.cells #[] 5))) := Lib.hid (by go_grown)
    go_loopw [9, 10] (fun u iv wr => ∃ i : Nat, i ≤ b.length ∧ iv = .int .i64 (i : Int) ∧ wr.ownsRow w1.heap.size 5 1 u (enc true (b.take i)).length ((enc true (b.take i)).map (Value.int .u8)) ∧ Below w1.heap.size w1 wr) (fun _ iv _ => b.length - (RowKit.intOf iv).toNat)
    case atStart => exact ⟨0, Nat.zero_le _, rfl, HO1.out, hA1.out⟩
    case round =>
      obtain ⟨i, hil, rfl, hown, hbw⟩ := hrel
      by_cases hlt : i < b.length
      · obtain ⟨z, hz⟩ := get_of_lt hlt
        have hzb := HBy.out.at hz
        obtain ⟨b0, o0, rfl, x0⟩ := (HU.out wr (below_two HB1.out hbw)).at hz
        have q1 := HIx'.out (z / 16) (by omega) (by omega)
        have q2 := HIx'.out (z % 16) (by omega) (by omega)
        have hy1 := hexd_byte true (z / 16) (by omega) (by omega)
        have hy2 := hexd_byte true (z % 16) (by omega) (by omega)
        have HEN : Hid (enc true (b.take (i + 1)) = enc true (b.take i) ++ [37, hexd true (z / 16), hexd true (z % 16)]) := Lib.hid (by rw [List.take_add_one, hz, enc_append]; rfl)
        have HLN : Hid ((enc true (b.take i)).length ≤ 3 * b.length) := Lib.hid (by rw [enc_len, List.length_take]; omega)
        generalize hexd true (z / 16) = h1 at q1 hy1 HEN
        generalize hexd true (z % 16) = h2 at q2 hy2 HEN
        generalize enc true (b.take i) = L at hown HEN HLN
        have ht1 : IntKind.u8.wrap (z.tdiv 16) = z / 16 := by rw [Int.tdiv_eq_ediv_of_nonneg hzb.1]; exact u8_wrap _ (by omega)
        have ht2 : z.tmod 16 = z % 16 := Int.tmod_eq_emod_of_nonneg hzb.1
        have ht3 : IntKind.u8.wrap (z.tmod 16) = z % 16 := by rw [ht2]; exact u8_wrap _ (by omega)
        have q3 : ∀ W, (Instr.index 9 (.string ⟨#[48, 49, 50, 51, 52, 53, 54, 55, 56, 57, 65, 66, 67, 68, 69, 70]⟩) (.int .u8 (IntKind.u8.wrap (z.tdiv 16)))).run Tryz.prog W = .ok (.int .u8 h1) W := fun W => by rw [ht1]; exact q1 W
        have q4 : ∀ W, (Instr.index 9 (.string ⟨#[48, 49, 50, 51, 52, 53, 54, 55, 56, 57, 65, 66, 67, 68, 69, 70]⟩) (.int .u8 (IntKind.u8.wrap (z.tmod 16)))).run Tryz.prog W = .ok (.int .u8 h2) W := fun W => by rw [ht3]; exact q2 W
        have q5 : ∀ W, (Instr.index 9 (.string ⟨#[48, 49, 50, 51, 52, 53, 54, 55, 56, 57, 65, 66, 67, 68, 69, 70]⟩) (.int .u8 (z.tmod 16))).run Tryz.prog W = .ok (.int .u8 h2) W := fun W => by rw [ht2]; exact q2 W
        clear ht1 ht2 ht3 q1 q2
        have hd : decide ((i : Int) < (b.length : Int)) = true := by rw [decide_eq_true_iff]; omega
        have HOY : Hid (((wr.alloc (.cells #[.int .u8 37, .int .u8 h1, .int .u8 h2] 5)).drew).ownsRow w1.heap.size 5 1 u9 L.length (L.map (Value.int .u8))) := Lib.hid (own_drew (own_alloc hown _))
        have HLY : Hid (IsY ((wr.alloc (.cells #[.int .u8 37, .int .u8 h1, .int .u8 h2] 5)).drew) (.slice (some ⟨wr.heap.size, 0, none⟩) ([37, h1, h2] : List Int).length 3) [37, h1, h2]) := Lib.hid ((lit_isY (l := [37, h1, h2]) (n := 3) rfl rfl (by intro y hy; simp at hy; omega) (World.alloc_heap_new wr (.cells #[.int .u8 37, .int .u8 h1, .int .u8 h2] 5))).grows (by go_grown))
        have hblt : b0 < w1.heap.size := IsY.lt (HU.out w1 HB1.out) (j := i) hlt
        have HOG := Lib.hid (fun k (h : u9.ownBlock = some k) => (show k ≠ b0 by have := own_ge hown k h; omega))
        have HOK := Lib.hid (own_ge hown)
        have HBW : Hid (Below w1.heap.size w1 ((wr.alloc (.cells #[.int .u8 37, .int .u8 h1, .int .u8 h2] 5)).drew)) := Lib.hid ((hbw.alloc hbw.size _).drew)
        have hsz : w1.heap.size ≤ ((wr.alloc (.cells #[.int .u8 37, .int .u8 h1, .int .u8 h2] 5)).drew).heap.size := HBW.out.size
        have HSZ := Lib.hid hsz
        have hS : (wr.drew).cell? ⟨b0, o0 + i, none⟩ = some (.int .u8 z) := x0
        have hS2 : ((wr.alloc (.cells #[.int .u8 37, .int .u8 h1, .int .u8 h2] 5)).drew).cell? ⟨b0, o0 + i, none⟩ = some (.int .u8 z) := cell_al x0 _
        clear hz hown hbw hsz
        go_wp2_with fail
        go_region_held3 (fun W => W.cell? ⟨b0, o0 + i, none⟩ = some (.int .u8 z))
          (first | (with_reducible exact hS) | (with_reducible exact hS2) | (with_reducible exact hS3) | fail)
          (first
            | (refine app_step rfl _ _ rfl rfl w1.heap.size _ L [37, h1, h2] (some ⟨wr.heap.size, 0, none⟩) 3 rfl rfl HOY.out HLY.out (by have := HLN.out; simp; omega) HSZ.out ?_; intro v9 w9 G9; have hS3 : w9.cell? ⟨b0, o0 + i, none⟩ = some (.int .u8 z) := cell_gr G9.grown hS2 HOG.out)
            | fail)
        all_goals
          go_wp2
          go_roundw
          case rel =>
            exact ⟨i + 1, by omega, by go_num, by rw [HEN.out]; exact G9.own, HBW.out.grown G9.grown HSZ.out HOK.out⟩
          case measure => simp [RowKit.intOf]; omega
      · obtain rfl : i = b.length := by omega
        rw [List.take_length] at hown
        have hyE := own_isY (enc_byte true b HBy.out) hown
        have hlE := enc_len true b
        have hdE := fun lax => dec_enc true lax b HBy.out
        generalize enc true b = E at hyE hlE hdE
        obtain ⟨pe, ce, rfl, -⟩ := hyE.shape
        have HYE := Lib.hid (fun W (hW : Below wr.heap.size wr W) => hyE.grows hW)
        have HLE := Lib.hid hlE
        have HDE := Lib.hid hdE
        obtain ⟨X, hX, hXl, hXf⟩ := dec_lax c.length c (Nat.le_refl _)
        have HX := Lib.hid (And.intro hX hXf)
        have hle : decide ((X.length : Int) ≤ (c.length : Int)) = true := by rw [decide_eq_true_iff]; omega
        have hd : decide ((b.length : Int) < (b.length : Int)) = false := by rw [decide_eq_false_iff_not]; omega
        have HBr := Lib.hid (below_two HB1.out hbw)
        have HHl := Lib.hid hXl
        clear hown hyE hlE hdE hX hXl hXf hbw hle
        obtain ⟨nE, hnE⟩ : ∃ n, E.length = n := ⟨_, rfl⟩
        rw [hnE] at HYE HLE ⊢
        go_wp2_with fail
        have hdo1 := do_all _ _ 3 [] [] E wr (op_nil wr 3) (HYE.out wr (Below.refl _ _)) (by simp) (by simp) (by have := HLE.out; omega) (fun h => by omega) (HM.out wr HBr.out)
        rw [show doI 3 [] [] E = some b by rw [doI_val (by rfl), cat_3]; exact HDE.out false] at hdo1
        refine hdo1.mono ?_
        rintro e w2 ⟨x1, rfl, hx1, hb2⟩
        obtain ⟨p1, c1, rfl, -⟩ := hx1.shape
        have HX1 := Lib.hid hx1
        have HB2 := Lib.hid hb2
        clear hdo1 hx1 hb2
        simp only [Option.isSome_some]
        go_wp2_with fail
        have hdo2 := do_all _ _ 4 [] [] E w2 (op_nil w2 4) (HYE.out w2 HB2.out) (by simp) (by simp) (by have := HLE.out; omega) (fun h => by omega) (HM.out w2 (below_two HBr.out HB2.out))
        rw [show doI 4 [] [] E = some b by rw [doI_val (by rfl)]; exact HDE.out true] at hdo2
        refine hdo2.mono ?_
        rintro e w3 ⟨x2, rfl, hx2, hb3⟩
        obtain ⟨p2, c2, rfl, -⟩ := hx2.shape
        have HX2 := Lib.hid hx2
        have HX13 := Lib.hid (HX1.out.grows hb3)
        have HB3 := Lib.hid (below_two HB2.out hb3)
        clear hdo2 hx2 hb3
        simp only [Option.isSome_some]
        go_wp2_with fail
        have hdo3 := do_all _ _ 3 [] [] c w3 (op_nil w3 3) (HT.out w3 (below_two HBr.out HB3.out)) (by simp) (by simp) (by omega) (fun h => by omega) (HM.out w3 (below_two HBr.out HB3.out))
        rw [show doI 3 [] [] c = dec false c by rw [doI_val (by rfl), cat_3]] at hdo3
        cases hr3 : dec false c with
        | none =>
          rw [hr3] at hdo3
          refine hdo3.mono ?_
          rintro e w4 ⟨x3, rfl, hx3, hb4⟩
          obtain ⟨p3, c3, rfl, -⟩ := hx3.shape
          have HX3 := Lib.hid hx3
          have HX14 := Lib.hid (HX13.out.grows hb4)
          have HX24 := Lib.hid (HX2.out.grows hb4)
          have HB4 := Lib.hid (below_two HB3.out hb4)
          clear hdo3 hx3 hb4 hr3
          simp only [Option.isSome_none]
          go_wp2_with fail
          have hdo4 := do_all _ _ 4 [] [] c w4 (op_nil w4 4) (HT.out w4 (below_two HBr.out HB4.out)) (by simp) (by simp) (by omega) (fun h => by omega) (HM.out w4 (below_two HBr.out HB4.out))
          rw [show doI 4 [] [] c = some X by rw [doI_val (by rfl)]; exact HX.out.1] at hdo4
          refine hdo4.mono ?_
          rintro e w5 ⟨x4, rfl, hx4, hb5⟩
          obtain ⟨p4, c4, rfl, -⟩ := hx4.shape
          have HX4 := Lib.hid hx4
          have HX15 := Lib.hid (HX14.out.grows hb5)
          have HX25 := Lib.hid (HX24.out.grows hb5)
          have HX35 := Lib.hid (HX3.out.grows hb5)
          have HB5 := Lib.hid (below_two HB4.out hb5)
          clear hdo4 hx4 hb5
          simp only [Option.isSome_some, Option.getD_some]
          go_wp2_with fail
          refine (same_any _ _ b b w5 HX15.out (HU.out w5 (below_two HBr.out HB5.out))).mono ?_
          rintro e w6 ⟨rfl, rfl⟩
          rw [eqY_iff.2 rfl]
          go_wp2_with fail
          refine (same_any _ _ b b w5 HX25.out (HU.out w5 (below_two HBr.out HB5.out))).mono ?_
          rintro e w6 ⟨rfl, rfl⟩
          rw [eqY_iff.2 rfl]
          go_wp2_with fail
          go_ret
          exact ⟨by show Ending.returned (.bool (decide (X.length ≤ c.length))) = _; rw [decide_eq_true HHl.out], below_two HBr.out HB5.out⟩
        | some Y =>
          rw [hr3] at hdo3
          rw [HX.out.2 Y hr3] at hdo3
          refine hdo3.mono ?_
          rintro e w4 ⟨x3, rfl, hx3, hb4⟩
          obtain ⟨p3, c3, rfl, -⟩ := hx3.shape
          have HX3 := Lib.hid hx3
          have HX14 := Lib.hid (HX13.out.grows hb4)
          have HX24 := Lib.hid (HX2.out.grows hb4)
          have HB4 := Lib.hid (below_two HB3.out hb4)
          clear hdo3 hx3 hb4 hr3
          simp only [Option.isSome_some]
          go_wp2_with fail
          have hdo4 := do_all _ _ 4 [] [] c w4 (op_nil w4 4) (HT.out w4 (below_two HBr.out HB4.out)) (by simp) (by simp) (by omega) (fun h => by omega) (HM.out w4 (below_two HBr.out HB4.out))
          rw [show doI 4 [] [] c = some X by rw [doI_val (by rfl)]; exact HX.out.1] at hdo4
          refine hdo4.mono ?_
          rintro e w5 ⟨x4, rfl, hx4, hb5⟩
          obtain ⟨p4, c4, rfl, -⟩ := hx4.shape
          have HX4 := Lib.hid hx4
          have HX15 := Lib.hid (HX14.out.grows hb5)
          have HX25 := Lib.hid (HX24.out.grows hb5)
          have HX35 := Lib.hid (HX3.out.grows hb5)
          have HB5 := Lib.hid (below_two HB4.out hb5)
          clear hdo4 hx4 hb5
          simp only [Option.isSome_some, Option.getD_some]
          go_wp2_with fail
          refine (same_any _ _ b b w5 HX15.out (HU.out w5 (below_two HBr.out HB5.out))).mono ?_
          rintro e w6 ⟨rfl, rfl⟩
          rw [eqY_iff.2 rfl]
          go_wp2_with fail
          refine (same_any _ _ b b w5 HX25.out (HU.out w5 (below_two HBr.out HB5.out))).mono ?_
          rintro e w6 ⟨rfl, rfl⟩
          rw [eqY_iff.2 rfl]
          go_wp2_with fail
          refine (same_any _ _ X X w5 HX35.out HX4.out).mono ?_
          rintro e w6 ⟨rfl, rfl⟩
          rw [eqY_iff.2 rfl]
          go_wp2_with fail
          go_ret
          exact ⟨by show Ending.returned (.bool (decide (X.length ≤ c.length))) = _; rw [decide_eq_true HHl.out], below_two HBr.out HB5.out⟩
end Go.Proofs.YtlhbhcfpbhnkeaaGreatDoor


namespace Go.Proofs.YtlhbhcfpbhnkeaaGreatDoor
open Go.RowKit Go.Lib

theorem take_next {b : List Int} {i : Nat} {x : Int} (hx : b[i]? = some x) : b.take (i + 1) = b.take i ++ [x] := by rw [List.take_add_one, hx]; rfl
theorem rep_skip (old new : List Int) (m : Nat) (b : List Int) : ∀ i, (∀ j, j < i → atB old b j = false) → i ≤ b.length → rep old new m b = b.take i ++ rep old new m (b.drop i)
  | 0, _, _ => by simp
  | i + 1, h, hi => by
    obtain ⟨x, hx⟩ := get_of_lt (l := b) (k := i) (by omega)
    have h2 := h i (by omega)
    unfold atB at h2
    rw [rep_skip old new m b i (fun j hj => h j (by omega)) (by omega), take_next hx, List.append_assoc]
    rw [drop_cons hx] at h2 ⊢
    rw [rep_miss old new m x _ (fun hh => by rw [h2] at hh; exact absurd hh.2 (by decide))]
    rfl
theorem rep_none (old new : List Int) (m : Nat) (b : List Int) (h : ∀ j, j < b.length → atB old b j = false) : rep old new m b = b := by
  rw [rep_skip old new m b b.length h (Nat.le_refl _), List.drop_length, rep_nil, List.take_length, List.append_nil]
theorem rep_many (old new : List Int) (h0 : 0 < old.length) : ∀ (n : Nat) (l : List Int) (m : Nat), l.length ≤ n → l.length ≤ m → rep old new m l = rep old new l.length l
  | _, [], m, _, _ => by rw [rep_nil, rep_nil]
  | 0, _ :: _, _, hl, _ => by simp at hl
  | n + 1, x :: l, m, hl, hm => by
    simp only [List.length_cons] at hl hm
    by_cases hp : old.isPrefixOf (x :: l) = true
    · have hd : ((x :: l).drop old.length).length ≤ l.length := by simp only [List.length_drop, List.length_cons]; omega
      rw [rep_hit old new h0 m (x :: l) (by omega) hp (by simp), rep_hit old new h0 (x :: l).length (x :: l) (by simp) hp (by simp)]
      rw [rep_many old new h0 n _ (m - 1) (by omega) (by omega), rep_many old new h0 n _ ((x :: l).length - 1) (by omega) (by simp only [List.length_cons]; omega)]
    · rw [rep_miss old new m x l (fun h => hp h.2), rep_miss old new (x :: l).length x l (fun h => hp h.2)]
      rw [rep_many old new h0 n l m (by omega) (by omega), rep_many old new h0 n l (x :: l).length (by omega) (by simp only [List.length_cons]; omega)]
theorem rep_first (old new b : List Int) (h0 : 0 < old.length) (i : Nat) (h : ∀ j, j < i → atB old b j = false) (hi : i < b.length) (ha : atB old b i = true) :
    rep old new 1 b = (b.take i ++ new) ++ b.drop (i + old.length) := by
  rw [rep_skip old new 1 b i h (by omega)]
  unfold atB at ha
  rw [rep_hit old new h0 1 _ (by omega) ha (by rw [List.length_drop]; omega), rep_zero, List.drop_drop, List.append_assoc]
theorem rep_rest (old new b : List Int) (h0 : 0 < old.length) (i : Nat) (h : ∀ j, j < i → atB old b j = false) (hi : i < b.length) (ha : atB old b i = true) :
    rep old new b.length b = (b.take i ++ new) ++ rep old new (b.drop (i + old.length)).length (b.drop (i + old.length)) := by
  rw [rep_skip old new b.length b i h (by omega)]
  unfold atB at ha
  rw [rep_hit old new h0 b.length _ (by omega) ha (by rw [List.length_drop]; omega), List.drop_drop, List.append_assoc]
  rw [rep_many old new h0 _ (b.drop (i + old.length)) (b.length - 1) (Nat.le_refl _) (by rw [List.length_drop]; omega)]
theorem at_fits {old b : List Int} {i : Nat} (h0 : 0 < old.length) (h : atB old b i = true) : i + old.length ≤ b.length := by
  rcases Nat.lt_or_ge b.length (i + old.length) with hl | hl
  · unfold atB at h; rw [at_no hl h0] at h; cases h
  · exact hl
theorem rep_len (old new : List Int) (h0 : 0 < old.length) (h4 : new.length ≤ 4) : ∀ (n m : Nat) (l : List Int), l.length ≤ n → (rep old new m l).length ≤ 4 * l.length
  | _, m, [], _ => by rw [rep_nil]; simp
  | 0, _, _ :: _, hl => by simp at hl
  | n + 1, m, x :: l, hl => by
    simp only [List.length_cons] at hl
    by_cases hp : 0 < m ∧ old.isPrefixOf (x :: l) = true
    · rw [rep_hit old new h0 m (x :: l) hp.1 hp.2 (by simp), List.length_append]
      have h1 := rep_len old new h0 h4 n (m - 1) ((x :: l).drop old.length) (by simp only [List.length_drop, List.length_cons]; omega)
      simp only [List.length_drop, List.length_cons] at h1 ⊢
      omega
    · rw [rep_miss old new m x l hp]
      have h1 := rep_len old new h0 h4 n m l (by omega)
      simp only [List.length_cons]; omega
set_option maxRecDepth 100000 in
set_option maxHeartbeats 8000000 in
theorem replace_walk (v u : Value) (k : Int) (old new b : List Int) (w : World) (hv : IsOp w v k old new) (hu : IsY w u b) (hbd : (old.length + new.length) + b.length ≤ 1048576)
    (hM : MaxOk w) (hT : TabAt 0 Lib.deBruijn64tab w) (hg : 0 < w.heap.size) :
    Calls Tryz.prog 8 #[v, u] w fun e w' => e = .returned (.bool true) ∧ Below w.heap.size w w' := by
  have HM := Lib.hid (fun W (hW : Below w.heap.size w W) => hM.grows hW hM.lt)
  have HT := Lib.hid (fun W (hW : Below w.heap.size w W) => tab_below hT hW hg)
  have HG := Lib.hid (fun W (hW : Below w.heap.size w W) => Nat.lt_of_lt_of_le hg hW.size)
  have HU := Lib.hid (fun W (hW : Below w.heap.size w W) => hu.grows hW)
  obtain ⟨vo, vn, rfl, hvo, hvn⟩ := hv
  have HO := Lib.hid (fun W (hW : Below w.heap.size w W) => hvo.grows hW)
  have HN := Lib.hid (fun W (hW : Below w.heap.size w W) => hvn.grows hW)
  obtain ⟨po, co, rfl, -⟩ := hvo.shape
  obtain ⟨pn, cn, rfl, -⟩ := hvn.shape
  obtain ⟨pb, cb, rfl, hcb⟩ := hu.shape
  have HBd := Lib.hid hbd
  clear hM hT hg hvo hvn hu hbd
  have hb1 : Below w.heap.size w (w.alloc (.cells #[.int .i64 k, .slice po old.length co, .slice pn new.length cn] 24)) := by go_grown
  have D1 := Blk.new w #[.int .i64 k, .slice po old.length co, .slice pn new.length cn] 24
  go_enter Tryz.func8, Tryz.ntmps8
  go_wp2_with fail
  generalize (w.alloc (.cells #[.int .i64 k, .slice po old.length co, .slice pn new.length cn] 24)) = w1 at hb1 D1 ⊢
  refine (sanity8_any w1 (HM.out w1 hb1) (HT.out w1 hb1) (HG.out w1 hb1)).mono ?_
  rintro e w2 ⟨rfl, hb2⟩
  have D2 := D1.grows hb2
  have hbw2 := below_two hb1 hb2
  obtain ⟨d0, d1, d2⟩ := (⟨D2.cell 0 rfl, D2.cell 1 rfl, D2.cell 2 rfl⟩ : _ ∧ _ ∧ _)
  have hD2 := D2.lt
  have f0 := D2.free 0
  have HB2 := Lib.hid hbw2
  clear D1 D2 hb1 hb2 hbw2
  go_wp2_with fail
  have hbX : Below w.heap.size w (w2.setCell ⟨w.heap.size, 0, none⟩ (.int .i64 4)) := HB2.out.setCell (Nat.le_refl _) _
  generalize (w2.setCell ⟨w.heap.size, 0, none⟩ (.int .i64 4)) = X at hbX ⊢
  refine (made_any _ 4 old new X ⟨_, _, rfl, HO.out X hbX, HN.out X hbX⟩ (by have := HBd.out; omega) (by have := HBd.out; omega)).mono ?_
  rintro e w3 ⟨u3, rfl, hI3, hb3⟩
  have hval := mk_val 4 old new
  rw [show mkK 4 = 5 by decide] at hI3 hval
  generalize mkOld 4 old = OO at hI3 hval
  generalize mkNew 4 new = NN at hI3 hval
  have hl5 := hval
  rw [valI_5 _ _ _ (by omega), decide_eq_true_iff] at hl5
  have hval6 : valI 6 OO NN = true := by rw [valI_5 _ _ _ (by omega), decide_eq_true_iff]; exact hl5
  obtain ⟨p3, c3, q3, e3, rfl, hy3, hz3, hc3, he3⟩ := hI3.shape
  have HOO := Lib.hid (fun W (hW : Below w3.heap.size w3 W) => hy3.grows hW)
  have HNN := Lib.hid (fun W (hW : Below w3.heap.size w3 W) => hz3.grows hW)
  have HB3 := Lib.hid (below_two hbX hb3)
  have HL := Lib.hid hl5
  have HV5 := Lib.hid (And.intro hval hval6)
  clear d0 d1 d2 f0 hI3 hy3 hz3 hb3 hbX hval hval6 hl5
  have hb4 : Below w3.heap.size w3 ((w3.alloc (.cells #[.int .i64 5, .slice p3 OO.length c3, .slice q3 NN.length e3] 24)).alloc (.cells #[.int .i64 6, .slice p3 OO.length c3, .slice q3 NN.length e3] 24)) := by go_grown
  have P4 := (Blk.new w3 #[.int .i64 5, .slice p3 OO.length c3, .slice q3 NN.length e3] 24).alloc (.cells #[.int .i64 6, .slice p3 OO.length c3, .slice q3 NN.length e3] 24)
  have Q4 := Blk.alloc1 w3 #[.int .i64 5, .slice p3 OO.length c3, .slice q3 NN.length e3] #[.int .i64 6, .slice p3 OO.length c3, .slice q3 NN.length e3] 24 24
  go_wp2_with fail
  generalize ((w3.alloc (.cells #[.int .i64 5, .slice p3 OO.length c3, .slice q3 NN.length e3] 24)).alloc (.cells #[.int .i64 6, .slice p3 OO.length c3, .slice q3 NN.length e3] 24)) = w4 at hb4 P4 Q4 ⊢
  have hdo1 := do_all _ _ 5 OO NN b w4 ⟨_, _, rfl, HOO.out w4 hb4, HNN.out w4 hb4⟩ (HU.out w4 (below_two HB3.out hb4)) (by have := HL.out; omega) (by have := HL.out; omega) (by have := HBd.out; omega) (fun _ => by have := HBd.out; omega) (HM.out w4 (below_two HB3.out hb4))
  rw [show doI 5 OO NN b = some (rep OO NN 1 b) by rw [doI_val HV5.out.1]; rfl] at hdo1
  refine hdo1.mono ?_
  rintro e w5 ⟨x1, rfl, hx1, hb5⟩
  obtain ⟨px1, cx1, rfl, -⟩ := hx1.shape
  have hx1' : IsY w5 (.slice px1 (rep OO NN 1 b).length cx1) (rep OO NN 1 b) := hx1
  have P5 := P4.grows hb5
  have Q5 := Q4.grows hb5
  have hP5 := P5.lt
  have hQ5 := Q5.lt
  have HE5 := Lib.hid (below_two hb4 hb5)
  simp only [Option.getD_some, Option.isSome_some]
  obtain ⟨R1, hR1⟩ : ∃ R, rep OO NN 1 b = R := ⟨_, rfl⟩
  obtain ⟨n1, hn1⟩ : ∃ n, R1.length = n := ⟨_, rfl⟩
  rw [hR1, hn1] at hx1' ⊢
  have HX1 := Lib.hid hx1'
  have HR1 := Lib.hid hR1
  obtain ⟨z0, z1, z2⟩ := (⟨Q5.cell 0 rfl, Q5.cell 1 rfl, Q5.cell 2 rfl⟩ : _ ∧ _ ∧ _)
  have HP5 := Lib.hid P5
  have HQ5 := Lib.hid Q5
  clear hdo1 hx1 hx1' hb5 hb4 P4 Q4 P5 Q5 hR1 hn1
  go_wp2_with fail
  have hdo2 := do_all _ _ 6 OO NN b w5 ⟨_, _, rfl, HOO.out w5 HE5.out, HNN.out w5 HE5.out⟩ (HU.out w5 (below_two HB3.out HE5.out)) (by have := HL.out; omega) (by have := HL.out; omega) (by have := HBd.out; omega) (fun _ => by have := HBd.out; omega) (HM.out w5 (below_two HB3.out HE5.out))
  rw [show doI 6 OO NN b = some (rep OO NN b.length b) by rw [doI_val HV5.out.2]; rfl] at hdo2
  refine hdo2.mono ?_
  rintro e w6 ⟨x2, rfl, hx2, hb6⟩
  obtain ⟨px2, cx2, rfl, -⟩ := hx2.shape
  have hx2' : IsY w6 (.slice px2 (rep OO NN b.length b).length cx2) (rep OO NN b.length b) := hx2
  have HE6 := Lib.hid (below_two HE5.out hb6)
  have HP6 := Lib.hid (HP5.out.grows hb6)
  have HQ6 := Lib.hid (HQ5.out.grows hb6)
  have HX16 := Lib.hid (HX1.out.grows hb6)
  simp only [Option.getD_some, Option.isSome_some]
  obtain ⟨R2, hR2⟩ : ∃ R, rep OO NN b.length b = R := ⟨_, rfl⟩
  obtain ⟨n2, hn2⟩ : ∃ n, R2.length = n := ⟨_, rfl⟩
  rw [hR2, hn2] at hx2' ⊢
  have HX2 := Lib.hid hx2'
  have HR2 := Lib.hid hR2
  clear hdo2 hx2 hx2' hb6 z0 z1 z2 hR2 hn2
  go_wp2_with fail
  go_loopw [12] (fun iv wr => ∃ i : Nat, i ≤ b.length ∧ iv = .int .i64 (i : Int) ∧ (∀ j, j < i → atB OO b j = false) ∧ Below w6.heap.size w6 wr) (fun iv _ => b.length - (RowKit.intOf iv).toNat)
  case atStart => exact ⟨0, Nat.zero_le _, rfl, fun j hj => by omega, Below.refl _ _⟩
  case round =>
    obtain ⟨i, hil, rfl, hno, hbw⟩ := hrel
    have HW := Lib.hid hbw
    have HNo := Lib.hid hno
    have Pr := HP6.out.grows hbw
    have Qr := HQ6.out.grows hbw
    have hPr := Pr.lt
    have hQr := Qr.lt
    have m1 : wr.cell? ⟨w3.heap.size, 1, none⟩ = some (.slice p3 OO.length c3) := Pr.cell 1 rfl
    have m2 : wr.cell? ⟨w3.heap.size, 2, none⟩ = some (.slice q3 NN.length e3) := Pr.cell 2 rfl
    have HEr := Lib.hid (below_two HE6.out hbw)
    have HPr := Lib.hid Pr
    have HQr := Lib.hid Qr
    clear hbw hno Pr Qr
    by_cases hlt : i < b.length
    · have hbd2 : b.length ≤ 1048576 := by have := HBd.out; omega
      have hd : decide ((i : Int) < (b.length : Int)) = true := by rw [decide_eq_true_iff]; omega
      have HA := Lib.hid (at_any (.slice p3 OO.length c3) (.slice pb b.length cb) OO b i wr (HOO.out wr HEr.out) (HU.out wr (below_two HB3.out HEr.out)) HL.out.1 (by have := HL.out; omega) (by have := HBd.out; omega) (by have := HBd.out; omega))
      cases ha : atB OO b i with
      | false =>
        rw [ha] at HA
        have HNx : Hid (∀ j, j < i + 1 → atB OO b j = false) := Lib.hid (fun j hj => by
          rcases Nat.lt_or_ge j i with h | h
          · exact HNo.out j h
          · obtain rfl : j = i := by omega
            exact ha)
        clear ha
        go_wp2_with fail
        refine HA.out.mono ?_
        rintro e w7 ⟨rfl, hb7⟩
        have HB7 := Lib.hid (below_two HW.out hb7)
        clear hb7
        go_wp2
        go_roundw
        case rel => exact ⟨i + 1, by omega, by go_num, HNx.out, HB7.out⟩
        case measure => simp [RowKit.intOf]; omega
      | true =>
        rw [ha] at HA
        have HAt := Lib.hid ha
        clear ha
        go_wp2_with fail
        refine HA.out.mono ?_
        rintro e w7 ⟨rfl, hb7⟩
        have hfit := at_fits HL.out.1 HAt.out
        have hdr7 : Below w7.heap.size w7 w7.drew := by go_grown
        have hb7d := below_two hb7 hdr7
        have HW7 := Lib.hid (below_two HW.out hb7d)
        have Pd := HPr.out.grows hb7d
        have Qd := HQr.out.grows hb7d
        have hPd := Pd.lt
        have hQd := Qd.lt
        obtain ⟨y1, y2⟩ := (⟨Pd.cell 1 rfl, Pd.cell 2 rfl⟩ : _ ∧ _)
        have HPd := Lib.hid Pd
        have HQd := Lib.hid Qd
        have HEd := Lib.hid (below_two HEr.out hb7d)
        have HX1d := Lib.hid (HX16.out.grows HW7.out)
        have HX2d := Lib.hid (HX2.out.grows HW7.out)
        have hcb2 : i ≤ cb := by omega
        have hsl := fun w => slice_to pb b.length cb i hcb2 w
        have hsf := fun w => slice_from pb b.length cb (i + OO.length) hfit w
        rw [show ((i + OO.length : Nat) : Int) = (i : Int) + (OO.length : Int) from rfl] at hsf
        have HSF := Lib.hid hsf
        clear hb7 hdr7 hb7d Pd Qd m1 m2 hsf
        go_wp2_with fail
        go_region_with (first
          | (go_at_call 28; refine (join_any _ _ (b.take i) NN _ ((HU.out _ (below_two HB3.out HEd.out)).take i (by omega)) (HNN.out _ HEd.out) (by have := HL.out; have := HBd.out; rw [List.length_take]; omega)).mono ?_; rintro e w8 ⟨z8, rfl, hz8, hb8⟩; obtain ⟨p8, c8, rfl, -⟩ := hz8.shape; obtain ⟨n8, hn8⟩ : ∃ n, (b.take i ++ NN).length = n := ⟨_, rfl⟩; rw [hn8] at hz8 ⊢; clear hn8; have HZ8 := Lib.hid hz8; have HE8 := Lib.hid (below_two HEd.out hb8); have P8 := HPd.out.grows hb8; have Q8 := HQd.out.grows hb8; have HQ8 := Lib.hid Q8; have hP8 := P8.lt; have hQ8 := Q8.lt; obtain ⟨g0, g1, g2⟩ := (⟨Q8.cell 0 rfl, Q8.cell 1 rfl, Q8.cell 2 rfl⟩ : _ ∧ _ ∧ _); have g3 := P8.cell 1 rfl; have HX1e := Lib.hid (HX1d.out.grows hb8); have HX2e := Lib.hid (HX2d.out.grows hb8); clear hz8 hb8 P8 Q8)
          | fail)
        all_goals
          have hsf := HSF.out
          go_wp2_with fail
          obtain ⟨rs, hrs⟩ : ∃ r, b.drop (i + OO.length) = r := ⟨_, rfl⟩
          obtain ⟨hh, hhh⟩ : ∃ r, b.take i ++ NN = r := ⟨_, rfl⟩
          have hRa : R1 = hh ++ rs := by rw [← HR1.out, ← hrs, ← hhh]; exact rep_first OO NN b HL.out.1 i HNo.out hlt HAt.out
          have hRb : R2 = hh ++ rep OO NN rs.length rs := by rw [← HR2.out, ← hrs, ← hhh]; exact rep_rest OO NN b HL.out.1 i HNo.out hlt HAt.out
          have hrl : rs.length ≤ b.length := by rw [← hrs, List.length_drop]; omega
          have hhl : hh.length ≤ b.length + 4 := by have := HL.out; rw [← hhh, List.length_append, List.length_take]; omega
          have hr3 : (rep OO NN rs.length rs).length ≤ 4 * rs.length := rep_len OO NN HL.out.1 HL.out.2.2 rs.length rs.length rs (Nat.le_refl _)
          have HDr := Lib.hid (fun W (hW : Below w8.heap.size w8 W) => (show IsY W (.slice (tailA pb cb (i + OO.length)) (b.length - (i + OO.length)) (cb - (i + OO.length))) rs by
            rw [← hrs]; exact (HU.out W (below_two HB3.out (below_two HE8.out hW))).drop (i + OO.length) hfit))
          have HZh := Lib.hid (show IsY w8 (.slice p8 n8 c8) hh by rw [← hhh]; exact HZ8.out)
          clear HZ8 hsf HSF hsl
          have hdo3 := do_all _ _ 6 OO NN rs w8 ⟨_, _, rfl, HOO.out w8 HE8.out, HNN.out w8 HE8.out⟩ (HDr.out w8 (Below.refl _ _)) (by have := HL.out; omega) (by have := HL.out; omega) (by have := HBd.out; omega) (fun _ => by have := HBd.out; omega) (HM.out w8 (below_two HB3.out HE8.out))
          rw [show doI 6 OO NN rs = some (rep OO NN rs.length rs) by rw [doI_val HV5.out.2]; rfl] at hdo3
          obtain ⟨R3, hR3⟩ : ∃ R, rep OO NN rs.length rs = R := ⟨_, rfl⟩
          rw [hR3] at hdo3 hRb hr3
          have HRa := Lib.hid hRa
          have HRb := Lib.hid hRb
          have HLs := Lib.hid (And.intro hrl (And.intro hhl hr3))
          clear hrs hhh hRa hRb hrl hhl hr3 hR3
          refine hdo3.mono ?_
          rintro e w9 ⟨x9, rfl, hx9, hb9⟩
          obtain ⟨p9, c9, rfl, -⟩ := hx9.shape
          have hx9' : IsY w9 (.slice p9 R3.length c9) R3 := hx9
          simp only [Option.getD_some, Option.isSome_some]
          obtain ⟨n9, hn9⟩ : ∃ n, R3.length = n := ⟨_, rfl⟩
          rw [hn9] at hx9' ⊢
          have HX9 := Lib.hid hx9'
          have HB9 := Lib.hid hb9
          have HE9 := Lib.hid (below_two HE8.out hb9)
          have HX1f := Lib.hid (HX1e.out.grows hb9)
          have HX2f := Lib.hid (HX2e.out.grows hb9)
          have HZ9 := Lib.hid (HZh.out.grows hb9)
          clear hdo3 hx9 hx9' hb9 hn9 g0 g1 g2 g3
          go_wp2_with fail
          refine (join_any _ _ hh rs w9 HZ9.out (HDr.out w9 HB9.out) (by have := HLs.out; have := HBd.out; omega)).mono ?_
          rintro e w10 ⟨z10, rfl, hz10, hb10⟩
          obtain ⟨p10, c10, rfl, -⟩ := hz10.shape
          obtain ⟨n10, hn10⟩ : ∃ n, (hh ++ rs).length = n := ⟨_, rfl⟩
          rw [hn10, ← HRa.out] at hz10
          rw [hn10]
          have HZ10 := Lib.hid hz10
          have HE10 := Lib.hid (below_two HE9.out hb10)
          have HX1g := Lib.hid (HX1f.out.grows hb10)
          have HX2g := Lib.hid (HX2f.out.grows hb10)
          have HX9g := Lib.hid (HX9.out.grows hb10)
          have HZ9g := Lib.hid (HZ9.out.grows hb10)
          clear hz10 hb10 hn10
          go_wp2_with fail
          refine (same_any _ _ R1 R1 w10 HX1g.out HZ10.out).mono ?_
          rintro e w11 ⟨rfl, rfl⟩
          rw [eqY_iff.2 rfl]
          go_wp2_with fail
          refine (join_any _ _ hh R3 w10 HZ9g.out HX9g.out (by have := HLs.out; have := HBd.out; omega)).mono ?_
          rintro e w12 ⟨z12, rfl, hz12, hb12⟩
          obtain ⟨p12, c12, rfl, -⟩ := hz12.shape
          obtain ⟨n12, hn12⟩ : ∃ n, (hh ++ R3).length = n := ⟨_, rfl⟩
          rw [hn12, ← HRb.out] at hz12
          rw [hn12]
          have HZ12 := Lib.hid hz12
          have HE12 := Lib.hid (below_two HE10.out hb12)
          have HX2h := Lib.hid (HX2g.out.grows hb12)
          clear hz12 hb12 hn12
          go_wp2_with fail
          refine (same_any _ _ R2 R2 w12 HX2h.out HZ12.out).mono ?_
          rintro e w13 ⟨rfl, rfl⟩
          rw [eqY_iff.2 rfl]
          go_wp2_with fail
          go_ret
          exact ⟨rfl, below_two HB3.out HE12.out⟩
    · obtain rfl : i = b.length := by omega
      have hR1 : R1 = b := by rw [← HR1.out]; exact rep_none OO NN 1 b HNo.out
      have hR2 : R2 = b := by rw [← HR2.out]; exact rep_none OO NN b.length b HNo.out
      have HX1r := Lib.hid (HX16.out.grows HW.out)
      have HX2r := Lib.hid (HX2.out.grows HW.out)
      rw [hR1] at HX1r
      rw [hR2] at HX2r
      have hd : decide ((b.length : Int) < (b.length : Int)) = false := by rw [decide_eq_false_iff_not]; omega
      clear hR1 hR2 m1 m2
      go_wp2_with fail
      refine (same_any _ _ b b wr HX1r.out (HU.out wr (below_two HB3.out HEr.out))).mono ?_
      rintro e w8 ⟨rfl, rfl⟩
      rw [eqY_iff.2 rfl]
      go_wp2_with fail
      refine (same_any _ _ b b wr HX2r.out (HU.out wr (below_two HB3.out HEr.out))).mono ?_
      rintro e w8 ⟨rfl, rfl⟩
      rw [eqY_iff.2 rfl]
      go_wp2_with fail
      go_ret
      exact ⟨rfl, below_two HB3.out HEr.out⟩
end Go.Proofs.YtlhbhcfpbhnkeaaGreatDoor
