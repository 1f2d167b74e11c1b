/-
  Texts of the proof, one behind another: Pk, Pl.
-/
import Derived.Test.YtgbkjgfiofncdaaGreatDoorYcc
import Derived.Test.YtgbkjgfiofncdaaGreatDoorYcd
set_option linter.unusedSimpArgs false
set_option linter.unusedVariables false
/-
  Walks: the parser's items.
-/
namespace Go.Proofs.YtgbkjgfiofncdaaGreatDoor
open Go.RowKit

set_option maxRecDepth 100000 in
set_option maxHeartbeats 4000000 in
theorem item_any {s : ByteArray} {B f : Nat} {alt : Nat → List Nd → PR} (hs : s.size ≤ 4000) (ha : ReadC 44 s B alt) : ∀ m, ReadC 112 s B (itemS (L s) alt f m)
  | 0 => fun _ _ _ _ _ _ hne => absurd rfl hne
  | m + 1 => by
    intro p xs v W h hle hne
    have HI := Lib.hid (item_any (f := f) hs ha m)
    have HA := Lib.hid (atom_any (f := f) hs ha)
    clear ha
    rw [itemS] at hne ⊢
    by_cases h1 : (L s)[p]? = some 126
    · rw [if_pos h1] at hne ⊢
      have HT := Lib.hid (take_yes 126 rfl h hs h1)
      have hp1 : p + 1 ≤ s.size := (at_some h1).1
      clear h1
      have hne2 : itemS (L s) alt f m (p + 1) xs ≠ .out := by intro e; rw [e] at hne; exact hne rfl
      have HP := Lib.hid (fun W1 (h1 : PS W1 B s (p + 1) v xs) => HI.out (p + 1) xs v W1 h1 hp1 hne2)
      clear hne2 HI HA
      cases hx : itemS (L s) alt f m (p + 1) xs with
      | out => rw [hx] at hne; exact absurd rfl hne
      | bad q er =>
        rw [hx] at HP
        clear hne hx
        go_enter Tryz.func112, Tryz.ntmps112
        go_wp2_with (first | (go_at_call 67; refine HT.out.mono ?_; rintro e W1 ⟨rfl, hq1, h1, hk1⟩) | (go_at_call 112; refine (HP.out _ h1).mono ?_; rintro e W2 ⟨rfl, hk2⟩))
        exact ⟨rfl, rfl, hk1.trans hk2⟩
      | ok l q ys =>
        rw [hx] at HP hne
        clear hx
        dsimp only at hne ⊢
        have HQ := Lib.hid (fun W1 v1 (hq : q ≤ s.size) (h1 : PS W1 B s q v1 ys) => add_lit 7 l 0 0 0 h1 hq hne)
        rw [(putS_in hne).2] at HQ ⊢
        clear hne
        go_enter Tryz.func112, Tryz.ntmps112
        go_wp2_with (first | (go_at_call 67; refine HT.out.mono ?_; rintro e W1 ⟨rfl, hq1, h1, hk1⟩) | (go_at_call 112; refine (HP.out _ h1).mono ?_; rintro e W2 ⟨rfl, hq2, ⟨v2, h2⟩, hk2⟩) | (go_at_call 94; refine (HQ.out _ _ hq2 h2).mono ?_; rintro e W3 ⟨rfl, hq3, ⟨v3, h3⟩, hk3⟩))
        go_ret
        exact ⟨rfl, hq3, ⟨v3, h3⟩, (hk1.trans hk2).trans hk3⟩
    · rw [if_neg h1] at hne ⊢
      have HT := Lib.hid (take_no 126 rfl h hs hle h1)
      clear h1 HI
      have hne2 : atomS (L s) alt f p xs ≠ .out := by intro e; rw [e] at hne; exact hne rfl
      have HP := Lib.hid (fun W1 (h1 : PS W1 B s p v xs) => HA.out p xs v W1 h1 hle hne2)
      clear hne2 HA
      cases hx : atomS (L s) alt f p xs with
      | out => rw [hx] at hne; exact absurd rfl hne
      | bad q er =>
        rw [hx] at HP
        clear hne hx
        go_enter Tryz.func112, Tryz.ntmps112
        go_wp2_with (first | (go_at_call 67; refine HT.out.mono ?_; rintro e W1 ⟨rfl, h1, hk1⟩) | (go_at_call 133; refine (HP.out _ h1).mono ?_; rintro e W2 ⟨rfl, hk2⟩))
        exact ⟨rfl, rfl, hk1.trans hk2⟩
      | ok l q ys =>
        rw [hx] at HP hne
        clear hx
        dsimp only at hne ⊢
        generalize hX : repLoop (L s) f l q ys = X at hne
        have HX := Lib.hid hX
        have HNE := Lib.hid hne
        clear hX hne
        go_enter Tryz.func112, Tryz.ntmps112
        go_wp2_with (first | (go_at_call 67; refine HT.out.mono ?_; rintro e W1 ⟨rfl, h1, hk1⟩) | (go_at_call 133; refine (HP.out _ h1).mono ?_; rintro e W2 ⟨rfl, hq2, ⟨v2, h2⟩, hk2⟩))
        go_loopw [4] (fun lv wr => ∃ (f l q : Nat) (ys : List Nd) (v : Value), lv = .int .i64 (l : Int) ∧ q ≤ s.size ∧ repLoop (L s) f l q ys = X ∧ PS wr B s q v ys ∧ KP B W wr) (fun _ wr => s.size - posOf wr B)
        case atStart => exact ⟨f, l, q, ys, v2, rfl, hq2, HX.out, h2, hk1.trans hk2⟩
        case round =>
          clear HP HT HX h1 h2 hk1 hk2
          obtain ⟨f, l, q, ys, v, rfl, hqs, hX, hr, hkr⟩ := hrel
          have hpos : posOf wr B = q := posOf_eq hr
          cases f with
          | zero => exact absurd hX.symm HNE.out
          | succ f =>
            rw [repLoop] at hX
            have HP := Lib.hid (repeat_any hr hs hqs)
            cases hx : repeatS (L s) q with
            | bad q2 er =>
              rw [hx] at HP hX
              have HX := Lib.hid hX
              clear hX hx
              go_wp2_with (first | (go_at_call 134; refine HP.out.mono ?_; rintro e W3 ⟨rfl, hk3⟩))
              rw [← HX.out]
              exact ⟨rfl, rfl, hkr.trans hk3⟩
            | ok b q2 =>
              have hfw := repeatS_fwd hx
              rw [hx] at HP hX
              clear hx
              cases b with
              | none =>
                have HX := Lib.hid hX
                clear hX
                go_wp2_with (first | (go_at_call 134; refine HP.out.mono ?_; rintro e W3 ⟨rfl, hq3, h3, hk3⟩; dsimp only [valRep]))
                go_ret
                rw [← HX.out]
                exact ⟨rfl, hq3, ⟨_, h3⟩, hkr.trans hk3⟩
              | some b =>
                dsimp only at hX
                have hgt : q < q2 := hfw.2 _ rfl
                clear hfw
                have hne : putS ⟨8, 0, l, 0, b.1, b.2⟩ q2 ys ≠ .out := by
                  intro e; rw [e] at hX; exact HNE.out hX.symm
                rw [(putS_in hne).2] at hX
                have HX := Lib.hid hX
                have HQ := Lib.hid (fun W1 (hq : q2 ≤ s.size) (h1 : PS W1 B s q2 v ys) => add_lit 8 l 0 b.1 b.2 h1 hq hne)
                rw [(putS_in hne).2] at HQ
                clear hX hne
                obtain ⟨b1, b2⟩ := b
                go_wp2_with (first | (go_at_call 134; refine HP.out.mono ?_; rintro e W3 ⟨rfl, hq3, h3, hk3⟩; dsimp only [valRep]) | (go_at_call 94; refine (HQ.out _ hq3 h3).mono ?_; rintro e W4 ⟨rfl, hq4, ⟨v4, h4⟩, hk4⟩))
                go_roundw
                case rel => exact ⟨f, _, q2, _, v4, rfl, hq4, HX.out, h4, (hkr.trans hk3).trans hk4⟩
                case measure =>
                  have hp4 : posOf W4 B = q2 := posOf_eq h4
                  omega
end Go.Proofs.YtgbkjgfiofncdaaGreatDoor

/-
  Walks: the parser's chains: concatenations, intersections, alternatives.
-/
namespace Go.Proofs.YtgbkjgfiofncdaaGreatDoor
open Go.RowKit

theorem index_ge (l : List UInt8) (y : UInt8) : decide (0 ≤ Lib.indexByte l y) = l.contains y := by
  have h := index_neg l y
  have e : decide (0 ≤ Lib.indexByte l y) = !decide (Lib.indexByte l y < 0) := by
    by_cases hl : Lib.indexByte l y < 0
    · rw [decide_eq_true hl, decide_eq_false (by omega)]; rfl
    · rw [decide_eq_false hl, decide_eq_true (by omega)]; rfl
  rw [e, h, Bool.not_not]
/-- how a question for more ends. -/
def MoreC (f : FuncId) (args : Array Value) (s : ByteArray) (B : Nat) (Inv : World → Prop) (more : Nat → Option Nat) : Prop :=
  ∀ p xs v W, Inv W → PS W B s p v xs → p ≤ s.size → Calls Tryz.prog f args W fun e W' => e = .returned (.bool (more p).isSome) ∧ PS W' B s ((more p).getD p) v xs ∧ (more p).getD p ≤ s.size ∧ KP B W W'
set_option maxRecDepth 100000 in
set_option maxHeartbeats 4000000 in
theorem atItem_any {s : ByteArray} {B : Nat} (hs : s.size ≤ 4000) : MoreC 113 #[.pointer (some ⟨B, 0, none⟩)] s B (fun _ => True) (moreItem (L s)) := by
  intro p xs v W _ h hle
  obtain ⟨c0, c1, c2, f0, f1, f2⟩ := h.to_cells
  have hg : (moreItem (L s) p).isSome = itemAt (L s) p ∧ (moreItem (L s) p).getD p = p := by
    unfold moreItem; split <;> simp_all
  rw [hg.1, hg.2]
  clear hg
  by_cases hlt : p < s.size
  · have t1 : decide ((p : Int) < (s.size : Int)) = true := by simp; omega
    have hi : itemAt (L s) p = (plainB s[p] || [126, 46, 33, 40, 91, 92].contains s[p]) := by unfold itemAt; rw [at_str hlt]
    rw [hi]
    clear hi
    cases hd : plainB s[p] with
    | true =>
      have HD := Lib.hid (fun W => hd ▸ plain_any s[p] W)
      clear hd
      go_enter Tryz.func113, Tryz.ntmps113
      go_wp2_with fail
      go_quiet ((go_at_call 101; exact Calls.quiet_of_same (HD.out _)))
      go_wp2
      go_ret
      exact ⟨rfl, h.drewN _, hle, (KP.refl B W).drewN _⟩
    | false =>
      have HD := Lib.hid (fun W => hd ▸ plain_any s[p] W)
      clear hd
      rw [Bool.false_or, ← index_ge]
      go_enter Tryz.func113, Tryz.ntmps113
      go_wp2_with fail
      go_quiet (first | (go_at_call 101; exact Calls.quiet_of_same (HD.out _)) | (go_at_call 117; exact Calls.quiet_of_same (Tryz.strings_IndexByte _ _ _)))
      go_wp2
      go_ret
      exact ⟨by simp, h.drewN _, hle, (KP.refl B W).drewN _⟩
  · have t1 : decide ((p : Int) < (s.size : Int)) = false := by simp; omega
    have hi : itemAt (L s) p = false := by unfold itemAt; rw [at_none (by omega)]
    rw [hi]
    go_enter Tryz.func113, Tryz.ntmps113
    go_wp2_with fail
    go_quiet (fail)
    go_wp2
    go_ret
    exact ⟨rfl, h.drewN _, hle, (KP.refl B W).drewN _⟩

set_option maxRecDepth 100000 in
set_option maxHeartbeats 4000000 in
theorem moreAlt {s : ByteArray} {B bx : Nat} (hs : s.size ≤ 4000) : MoreC 66 #[.pointer (some ⟨bx, 0, none⟩)] s B (fun W => Blk W bx #[.pointer (some ⟨B, 0, none⟩)] 102) (takeS (L s) 124) := by
  intro p xs v W hb h hle
  have b0 := hb.cell 0 rfl
  unfold takeS
  by_cases hT : (L s)[p]? = some 124
  · rw [if_pos hT]
    have HT := Lib.hid (take_yes 124 rfl h hs hT)
    clear hT
    go_enter Tryz.func66, Tryz.ntmps66
    go_wp2_with (first | (go_at_call 67; refine HT.out.mono ?_; rintro e W1 ⟨rfl, hq1, h1, hk1⟩))
    go_ret
    exact ⟨rfl, h1, hq1, hk1⟩
  · rw [if_neg hT]
    have HT := Lib.hid (take_no 124 rfl h hs hle hT)
    clear hT
    go_enter Tryz.func66, Tryz.ntmps66
    go_wp2_with (first | (go_at_call 67; refine HT.out.mono ?_; rintro e W1 ⟨rfl, h1, hk1⟩))
    go_ret
    exact ⟨rfl, h1, hle, hk1⟩

set_option maxRecDepth 100000 in
set_option maxHeartbeats 4000000 in
theorem moreAnd {s : ByteArray} {B bx : Nat} (hs : s.size ≤ 4000) : MoreC 96 #[.pointer (some ⟨bx, 0, none⟩)] s B (fun W => Blk W bx #[.pointer (some ⟨B, 0, none⟩)] 102) (takeS (L s) 38) := by
  intro p xs v W hb h hle
  have b0 := hb.cell 0 rfl
  unfold takeS
  by_cases hT : (L s)[p]? = some 38
  · rw [if_pos hT]
    have HT := Lib.hid (take_yes 38 rfl h hs hT)
    clear hT
    go_enter Tryz.func96, Tryz.ntmps96
    go_wp2_with (first | (go_at_call 67; refine HT.out.mono ?_; rintro e W1 ⟨rfl, hq1, h1, hk1⟩))
    go_ret
    exact ⟨rfl, h1, hq1, hk1⟩
  · rw [if_neg hT]
    have HT := Lib.hid (take_no 38 rfl h hs hle hT)
    clear hT
    go_enter Tryz.func96, Tryz.ntmps96
    go_wp2_with (first | (go_at_call 67; refine HT.out.mono ?_; rintro e W1 ⟨rfl, h1, hk1⟩))
    go_ret
    exact ⟨rfl, h1, hle, hk1⟩

set_option maxRecDepth 100000 in
set_option maxHeartbeats 4000000 in
theorem chainCat {s : ByteArray} {B f : Nat} {op : Nat → List Nd → PR} {more : Nat → Option Nat} (kind : Int) (ho : ReadC 112 s B op) (hf : Fwd op) (hmf : ∀ p q, more p = some q → p ≤ q) (hm : MoreC 113 #[.pointer (some ⟨B, 0, none⟩)] s B (fun _ => True) more)
    {p : Nat} {xs : List Nd} {v : Value} {W : World} (h : PS W B s p v xs) (hle : p ≤ s.size) (hno : chainS kind op more f p xs ≠ .out) :
    Calls Tryz.prog 64 #[.pointer (some ⟨B, 0, none⟩), .int .i64 kind, .func (.func 112) #[.pointer (some ⟨B, 0, none⟩)] #[], .func (.func 113) #[.pointer (some ⟨B, 0, none⟩)] #[]] W (PostN B s W (chainS kind op more f p xs)) := by
  skip
  have HO := Lib.hid ho
  have HM := Lib.hid hm
  have HF := Lib.hid hf
  have HMF := Lib.hid hmf
  clear ho hm hf hmf
  unfold chainS at hno ⊢
  have hne2 : op p xs ≠ .out := by intro e; rw [e] at hno; exact hno rfl
  have HP := Lib.hid (HO.out p xs v W h hle hne2)
  clear hne2
  cases hx : op p xs with
  | out => rw [hx] at hno; exact absurd rfl hno
  | bad q er =>
    rw [hx] at HP
    clear hno hx
    go_enter Tryz.func64, Tryz.ntmps64
    go_wp2_with (first | (go_at_call 112; refine HP.out.mono ?_; rintro e W1 ⟨rfl, hk1⟩))
    exact ⟨rfl, rfl, hk1⟩
  | ok l q ys =>
    rw [hx] at HP hno
    clear hx
    dsimp only at hno ⊢
    generalize hX : joinS kind op more f l q ys = X at hno
    have HX := Lib.hid hX
    have HNE := Lib.hid hno
    clear hX hno
    go_enter Tryz.func64, Tryz.ntmps64
    go_wp2_with (first | (go_at_call 112; refine HP.out.mono ?_; rintro e W1 ⟨rfl, hq1, ⟨v1, h1⟩, hk1⟩))
    go_loopw [9] (fun lv wr => ∃ (f l q : Nat) (ys : List Nd) (v : Value), lv = .int .i64 (l : Int) ∧ q ≤ s.size ∧ joinS kind op more f l q ys = X ∧ PS wr B s q v ys ∧ KP B W wr ∧ True) (fun _ wr => s.size - posOf wr B)
    case atStart => exact ⟨f, l, q, ys, v1, rfl, hq1, HX.out, h1, hk1, trivial⟩
    case round =>
      clear HP HX h1 hk1
      obtain ⟨f, l, q, ys, v, rfl, hqs, hX, hr, hkr, hi⟩ := hrel
      have hpos : posOf wr B = q := posOf_eq hr
      cases f with
      | zero => exact absurd hX.symm HNE.out
      | succ f =>
        rw [joinS] at hX
        have HQ := Lib.hid (HM.out q ys v wr hi hr hqs)
        cases hq1 : more q with
        | none =>
          rw [hq1] at HQ hX
          have HX := Lib.hid hX
          clear hX hq1
          go_wp2_with (first | (go_at_call 113; refine HQ.out.mono ?_; rintro e W3 ⟨rfl, h3, hq3, hk3⟩; dsimp only [Option.isSome]))
          go_ret
          rw [← HX.out]
          exact ⟨rfl, hq3, ⟨_, h3⟩, hkr.trans hk3⟩
        | some q1 =>
          have hq1f := HMF.out _ _ hq1
          rw [hq1] at HQ hX
          dsimp only at hX
          have hne3 : op q1 ys ≠ .out := by intro e; rw [e] at hX; exact HNE.out hX.symm
          have HP := Lib.hid (fun W1 (h1 : PS W1 B s q1 v ys) (hq : q1 ≤ s.size) => HO.out q1 ys v W1 h1 hq hne3)
          clear hne3 hq1
          cases hx : op q1 ys with
          | out => rw [hx] at hX; exact absurd hX.symm HNE.out
          | bad q2 er =>
            rw [hx] at HP hX
            have HX := Lib.hid hX
            clear hX hx
            go_wp2_with (first | (go_at_call 113; refine HQ.out.mono ?_; rintro e W3 ⟨rfl, h3, hq3, hk3⟩; dsimp only [Option.isSome]) | (go_at_call 112; refine (HP.out _ h3 hq3).mono ?_; rintro e W4 ⟨rfl, hk4⟩))
            rw [← HX.out]
            exact ⟨rfl, rfl, (hkr.trans hk3).trans hk4⟩
          | ok r q2 zs =>
            have hfw := HF.out _ _ _ _ _ hx
            rw [hx] at HP hX
            clear hx
            dsimp only at hX
            have hne : putS ⟨kind, 0, l, r, 0, 0⟩ q2 zs ≠ .out := by
              intro e; rw [e] at hX; exact HNE.out hX.symm
            rw [(putS_in hne).2] at hX
            have HX := Lib.hid hX
            have HA := Lib.hid (fun W1 v1 (hq : q2 ≤ s.size) (h1 : PS W1 B s q2 v1 zs) => add_lit kind l r 0 0 h1 hq hne)
            rw [(putS_in hne).2] at HA
            clear hX hne
            go_wp2_with (first | (go_at_call 113; refine HQ.out.mono ?_; rintro e W3 ⟨rfl, h3, hq3, hk3⟩; dsimp only [Option.isSome]) | (go_at_call 112; refine (HP.out _ h3 hq3).mono ?_; rintro e W4 ⟨rfl, hq4, ⟨v4, h4⟩, hk4⟩) | (go_at_call 94; refine (HA.out _ _ hq4 h4).mono ?_; rintro e W5 ⟨rfl, hq5, ⟨v5, h5⟩, hk5⟩))
            go_roundw
            case rel => exact ⟨f, _, q2, _, v5, rfl, hq5, HX.out, h5, ((hkr.trans hk3).trans hk4).trans hk5, trivial⟩
            case measure =>
              have hp5 : posOf W5 B = q2 := posOf_eq h5
              omega

set_option maxRecDepth 100000 in
set_option maxHeartbeats 4000000 in
theorem chainAnd {s : ByteArray} {B bx f : Nat} {op : Nat → List Nd → PR} {more : Nat → Option Nat} (kind : Int) (ho : ReadC 95 s B op) (hf : Fwd op) (hmf : ∀ p q, more p = some q → p ≤ q) (hm : MoreC 96 #[.pointer (some ⟨bx, 0, none⟩)] s B (fun W => Blk W bx #[.pointer (some ⟨B, 0, none⟩)] 102) more)
    {p : Nat} {xs : List Nd} {v : Value} {W : World} (hb : Blk W bx #[.pointer (some ⟨B, 0, none⟩)] 102) (hne : bx ≠ B) (h : PS W B s p v xs) (hle : p ≤ s.size) (hno : chainS kind op more f p xs ≠ .out) :
    Calls Tryz.prog 64 #[.pointer (some ⟨B, 0, none⟩), .int .i64 kind, .func (.func 95) #[.pointer (some ⟨B, 0, none⟩)] #[], .func (.func 96) #[] #[.pointer (some ⟨bx, 0, none⟩)]] W (PostN B s W (chainS kind op more f p xs)) := by
  have hbB := hne
  have HO := Lib.hid ho
  have HM := Lib.hid hm
  have HF := Lib.hid hf
  have HMF := Lib.hid hmf
  clear ho hm hf hmf
  unfold chainS at hno ⊢
  have hne2 : op p xs ≠ .out := by intro e; rw [e] at hno; exact hno rfl
  have HP := Lib.hid (HO.out p xs v W h hle hne2)
  clear hne2
  cases hx : op p xs with
  | out => rw [hx] at hno; exact absurd rfl hno
  | bad q er =>
    rw [hx] at HP
    clear hno hx
    go_enter Tryz.func64, Tryz.ntmps64
    go_wp2_with (first | (go_at_call 95; refine HP.out.mono ?_; rintro e W1 ⟨rfl, hk1⟩))
    exact ⟨rfl, rfl, hk1⟩
  | ok l q ys =>
    rw [hx] at HP hno
    clear hx
    dsimp only at hno ⊢
    generalize hX : joinS kind op more f l q ys = X at hno
    have HX := Lib.hid hX
    have HNE := Lib.hid hno
    clear hX hno
    go_enter Tryz.func64, Tryz.ntmps64
    go_wp2_with (first | (go_at_call 95; refine HP.out.mono ?_; rintro e W1 ⟨rfl, hq1, ⟨v1, h1⟩, hk1⟩))
    go_loopw [9] (fun lv wr => ∃ (f l q : Nat) (ys : List Nd) (v : Value), lv = .int .i64 (l : Int) ∧ q ≤ s.size ∧ joinS kind op more f l q ys = X ∧ PS wr B s q v ys ∧ KP B W wr ∧ Blk wr bx #[.pointer (some ⟨B, 0, none⟩)] 102) (fun _ wr => s.size - posOf wr B)
    case atStart => exact ⟨f, l, q, ys, v1, rfl, hq1, HX.out, h1, hk1, (hb.keptP hk1 hbB (by decide))⟩
    case round =>
      clear HP HX h1 hk1
      obtain ⟨f, l, q, ys, v, rfl, hqs, hX, hr, hkr, hi⟩ := hrel
      have hpos : posOf wr B = q := posOf_eq hr
      cases f with
      | zero => exact absurd hX.symm HNE.out
      | succ f =>
        rw [joinS] at hX
        have HQ := Lib.hid (HM.out q ys v wr hi hr hqs)
        cases hq1 : more q with
        | none =>
          rw [hq1] at HQ hX
          have HX := Lib.hid hX
          clear hX hq1
          go_wp2_with (first | (go_at_call 96; refine HQ.out.mono ?_; rintro e W3 ⟨rfl, h3, hq3, hk3⟩; dsimp only [Option.isSome]))
          go_ret
          rw [← HX.out]
          exact ⟨rfl, hq3, ⟨_, h3⟩, hkr.trans hk3⟩
        | some q1 =>
          have hq1f := HMF.out _ _ hq1
          rw [hq1] at HQ hX
          dsimp only at hX
          have hne3 : op q1 ys ≠ .out := by intro e; rw [e] at hX; exact HNE.out hX.symm
          have HP := Lib.hid (fun W1 (h1 : PS W1 B s q1 v ys) (hq : q1 ≤ s.size) => HO.out q1 ys v W1 h1 hq hne3)
          clear hne3 hq1
          cases hx : op q1 ys with
          | out => rw [hx] at hX; exact absurd hX.symm HNE.out
          | bad q2 er =>
            rw [hx] at HP hX
            have HX := Lib.hid hX
            clear hX hx
            go_wp2_with (first | (go_at_call 96; refine HQ.out.mono ?_; rintro e W3 ⟨rfl, h3, hq3, hk3⟩; dsimp only [Option.isSome]) | (go_at_call 95; refine (HP.out _ h3 hq3).mono ?_; rintro e W4 ⟨rfl, hk4⟩))
            rw [← HX.out]
            exact ⟨rfl, rfl, (hkr.trans hk3).trans hk4⟩
          | ok r q2 zs =>
            have hfw := HF.out _ _ _ _ _ hx
            rw [hx] at HP hX
            clear hx
            dsimp only at hX
            have hne : putS ⟨kind, 0, l, r, 0, 0⟩ q2 zs ≠ .out := by
              intro e; rw [e] at hX; exact HNE.out hX.symm
            rw [(putS_in hne).2] at hX
            have HX := Lib.hid hX
            have HA := Lib.hid (fun W1 v1 (hq : q2 ≤ s.size) (h1 : PS W1 B s q2 v1 zs) => add_lit kind l r 0 0 h1 hq hne)
            rw [(putS_in hne).2] at HA
            clear hX hne
            go_wp2_with (first | (go_at_call 96; refine HQ.out.mono ?_; rintro e W3 ⟨rfl, h3, hq3, hk3⟩; dsimp only [Option.isSome]) | (go_at_call 95; refine (HP.out _ h3 hq3).mono ?_; rintro e W4 ⟨rfl, hq4, ⟨v4, h4⟩, hk4⟩) | (go_at_call 94; refine (HA.out _ _ hq4 h4).mono ?_; rintro e W5 ⟨rfl, hq5, ⟨v5, h5⟩, hk5⟩))
            go_roundw
            case rel => exact ⟨f, _, q2, _, v5, rfl, hq5, HX.out, h5, ((hkr.trans hk3).trans hk4).trans hk5, (((hi.keptP hk3 hbB (by decide)).keptP hk4 hbB (by decide)).keptP hk5 hbB (by decide))⟩
            case measure =>
              have hp5 : posOf W5 B = q2 := posOf_eq h5
              omega

set_option maxRecDepth 100000 in
set_option maxHeartbeats 4000000 in
theorem chainAlt {s : ByteArray} {B bx f : Nat} {op : Nat → List Nd → PR} {more : Nat → Option Nat} (kind : Int) (ho : ReadC 65 s B op) (hf : Fwd op) (hmf : ∀ p q, more p = some q → p ≤ q) (hm : MoreC 66 #[.pointer (some ⟨bx, 0, none⟩)] s B (fun W => Blk W bx #[.pointer (some ⟨B, 0, none⟩)] 102) more)
    {p : Nat} {xs : List Nd} {v : Value} {W : World} (hb : Blk W bx #[.pointer (some ⟨B, 0, none⟩)] 102) (hne : bx ≠ B) (h : PS W B s p v xs) (hle : p ≤ s.size) (hno : chainS kind op more f p xs ≠ .out) :
    Calls Tryz.prog 64 #[.pointer (some ⟨B, 0, none⟩), .int .i64 kind, .func (.func 65) #[.pointer (some ⟨B, 0, none⟩)] #[], .func (.func 66) #[] #[.pointer (some ⟨bx, 0, none⟩)]] W (PostN B s W (chainS kind op more f p xs)) := by
  have hbB := hne
  have HO := Lib.hid ho
  have HM := Lib.hid hm
  have HF := Lib.hid hf
  have HMF := Lib.hid hmf
  clear ho hm hf hmf
  unfold chainS at hno ⊢
  have hne2 : op p xs ≠ .out := by intro e; rw [e] at hno; exact hno rfl
  have HP := Lib.hid (HO.out p xs v W h hle hne2)
  clear hne2
  cases hx : op p xs with
  | out => rw [hx] at hno; exact absurd rfl hno
  | bad q er =>
    rw [hx] at HP
    clear hno hx
    go_enter Tryz.func64, Tryz.ntmps64
    go_wp2_with (first | (go_at_call 65; refine HP.out.mono ?_; rintro e W1 ⟨rfl, hk1⟩))
    exact ⟨rfl, rfl, hk1⟩
  | ok l q ys =>
    rw [hx] at HP hno
    clear hx
    dsimp only at hno ⊢
    generalize hX : joinS kind op more f l q ys = X at hno
    have HX := Lib.hid hX
    have HNE := Lib.hid hno
    clear hX hno
    go_enter Tryz.func64, Tryz.ntmps64
    go_wp2_with (first | (go_at_call 65; refine HP.out.mono ?_; rintro e W1 ⟨rfl, hq1, ⟨v1, h1⟩, hk1⟩))
    go_loopw [9] (fun lv wr => ∃ (f l q : Nat) (ys : List Nd) (v : Value), lv = .int .i64 (l : Int) ∧ q ≤ s.size ∧ joinS kind op more f l q ys = X ∧ PS wr B s q v ys ∧ KP B W wr ∧ Blk wr bx #[.pointer (some ⟨B, 0, none⟩)] 102) (fun _ wr => s.size - posOf wr B)
    case atStart => exact ⟨f, l, q, ys, v1, rfl, hq1, HX.out, h1, hk1, (hb.keptP hk1 hbB (by decide))⟩
    case round =>
      clear HP HX h1 hk1
      obtain ⟨f, l, q, ys, v, rfl, hqs, hX, hr, hkr, hi⟩ := hrel
      have hpos : posOf wr B = q := posOf_eq hr
      cases f with
      | zero => exact absurd hX.symm HNE.out
      | succ f =>
        rw [joinS] at hX
        have HQ := Lib.hid (HM.out q ys v wr hi hr hqs)
        cases hq1 : more q with
        | none =>
          rw [hq1] at HQ hX
          have HX := Lib.hid hX
          clear hX hq1
          go_wp2_with (first | (go_at_call 66; refine HQ.out.mono ?_; rintro e W3 ⟨rfl, h3, hq3, hk3⟩; dsimp only [Option.isSome]))
          go_ret
          rw [← HX.out]
          exact ⟨rfl, hq3, ⟨_, h3⟩, hkr.trans hk3⟩
        | some q1 =>
          have hq1f := HMF.out _ _ hq1
          rw [hq1] at HQ hX
          dsimp only at hX
          have hne3 : op q1 ys ≠ .out := by intro e; rw [e] at hX; exact HNE.out hX.symm
          have HP := Lib.hid (fun W1 (h1 : PS W1 B s q1 v ys) (hq : q1 ≤ s.size) => HO.out q1 ys v W1 h1 hq hne3)
          clear hne3 hq1
          cases hx : op q1 ys with
          | out => rw [hx] at hX; exact absurd hX.symm HNE.out
          | bad q2 er =>
            rw [hx] at HP hX
            have HX := Lib.hid hX
            clear hX hx
            go_wp2_with (first | (go_at_call 66; refine HQ.out.mono ?_; rintro e W3 ⟨rfl, h3, hq3, hk3⟩; dsimp only [Option.isSome]) | (go_at_call 65; refine (HP.out _ h3 hq3).mono ?_; rintro e W4 ⟨rfl, hk4⟩))
            rw [← HX.out]
            exact ⟨rfl, rfl, (hkr.trans hk3).trans hk4⟩
          | ok r q2 zs =>
            have hfw := HF.out _ _ _ _ _ hx
            rw [hx] at HP hX
            clear hx
            dsimp only at hX
            have hne : putS ⟨kind, 0, l, r, 0, 0⟩ q2 zs ≠ .out := by
              intro e; rw [e] at hX; exact HNE.out hX.symm
            rw [(putS_in hne).2] at hX
            have HX := Lib.hid hX
            have HA := Lib.hid (fun W1 v1 (hq : q2 ≤ s.size) (h1 : PS W1 B s q2 v1 zs) => add_lit kind l r 0 0 h1 hq hne)
            rw [(putS_in hne).2] at HA
            clear hX hne
            go_wp2_with (first | (go_at_call 66; refine HQ.out.mono ?_; rintro e W3 ⟨rfl, h3, hq3, hk3⟩; dsimp only [Option.isSome]) | (go_at_call 65; refine (HP.out _ h3 hq3).mono ?_; rintro e W4 ⟨rfl, hq4, ⟨v4, h4⟩, hk4⟩) | (go_at_call 94; refine (HA.out _ _ hq4 h4).mono ?_; rintro e W5 ⟨rfl, hq5, ⟨v5, h5⟩, hk5⟩))
            go_roundw
            case rel => exact ⟨f, _, q2, _, v5, rfl, hq5, HX.out, h5, ((hkr.trans hk3).trans hk4).trans hk5, (((hi.keptP hk3 hbB (by decide)).keptP hk4 hbB (by decide)).keptP hk5 hbB (by decide))⟩
            case measure =>
              have hp5 : posOf W5 B = q2 := posOf_eq h5
              omega

end Go.Proofs.YtgbkjgfiofncdaaGreatDoor