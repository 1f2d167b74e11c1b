/-
  Texts of the proof, one behind another: Pi, Pj, Pk, Pl, Pm, Pn.
-/
import Derived.Test.YtgbbjobmcbdhdaaGreatDoorYbe
import Derived.Test.YtgbbjobmcbdhdaaGreatDoorYba
import Derived.Defers
import Derived.Recover
set_option linter.unusedSimpArgs false
set_option linter.unusedVariables false
/-
  Walks: the parser's groups and atoms.
-/
namespace Go.Proofs.YtgbbjobmcbdhdaaGreatDoor
open Go.RowKit

theorem putS_in {n : Nd} {p : Nat} {xs : List Nd} (h : putS n p xs ≠ .out) : xs.length < 1000000 ∧ putS n p xs = .ok xs.length p (xs ++ [n]) := by
  unfold putS at h ⊢
  split at h
  · rename_i hl; exact ⟨hl, by rw [if_pos hl]⟩
  · exact absurd rfl h
set_option maxRecDepth 100000 in
theorem add_lit {s : ByteArray} {p B : Nat} {v : Value} {xs : List Nd} {W : World} (k l r mn mx : Int) (h : PS W B s p v xs) (hle : p ≤ s.size) (ho : putS ⟨k, 0, l, r, mn, mx⟩ p xs ≠ .out) :
    Calls Tryz.prog 94 #[.pointer (some ⟨B, 0, none⟩), .agg #[.int .i64 k, .int .u64 0, .int .u64 0, .int .u64 0, .int .u64 0, .int .i64 l, .int .i64 r, .int .i64 mn, .int .i64 mx]] W (PostN B s W (putS ⟨k, 0, l, r, mn, mx⟩ p xs)) := by
  have e : Value.agg #[.int .i64 k, .int .u64 0, .int .u64 0, .int .u64 0, .int .u64 0, .int .i64 l, .int .i64 r, .int .i64 mn, .int .i64 mx] = valN ⟨k, 0, l, r, mn, mx⟩ := by
    show _ = Value.agg #[.int .i64 k, .int .u64 (wd 0 0), .int .u64 (wd 0 1), .int .u64 (wd 0 2), .int .u64 (wd 0 3), .int .i64 l, .int .i64 r, .int .i64 mn, .int .i64 mx]
    rw [wd_zero, wd_zero, wd_zero, wd_zero]
  rw [(putS_in ho).2, e]
  exact add_any ⟨k, 0, l, r, mn, mx⟩ h hle (putS_in ho).1
theorem add_cls {s : ByteArray} {p B : Nat} {v : Value} {xs : List Nd} {W : World} (c : BitVec 256) (h : PS W B s p v xs) (hle : p ≤ s.size) (ho : putS (clsNd c) p xs ≠ .out) :
    Calls Tryz.prog 94 #[.pointer (some ⟨B, 0, none⟩), .agg #[.int .i64 3, .int .u64 (wd c 0), .int .u64 (wd c 1), .int .u64 (wd c 2), .int .u64 (wd c 3), .int .i64 0, .int .i64 0, .int .i64 0, .int .i64 0]] W (PostN B s W (putS (clsNd c) p xs)) := by
  rw [(putS_in ho).2]
  exact add_any (clsNd c) h hle (putS_in ho).1
/-- what a part with nodes is read by. -/
def ReadC (f : FuncId) (s : ByteArray) (B : Nat) (g : Nat → List Nd → PR) : Prop :=
  ∀ p xs v W, PS W B s p v xs → p ≤ s.size → g p xs ≠ .out → Calls Tryz.prog f #[.pointer (some ⟨B, 0, none⟩)] W (PostN B s W (g p xs))
theorem PostN.ok_ {B : Nat} {s : ByteArray} {W : World} {r : PR} {l q : Nat} {ys : List Nd} (hr : r = .ok l q ys) {e : Ending} {W' : World} (h : PostN B s W r e W') : e = .returned (.int .i64 (l : Int)) ∧ q ≤ s.size ∧ (∃ v', PS W' B s q v' ys) ∧ KP B W W' := by subst hr; exact h

set_option maxRecDepth 100000 in
set_option maxHeartbeats 4000000 in
theorem group_any {s : ByteArray} {B : Nat} {alt : Nat → List Nd → PR} (hs : s.size ≤ 4000) (ha : ReadC 44 s B alt) : ReadC 151 s B (groupS (L s) alt) := by
  intro p xs v W h hle hne
  have HA := Lib.hid ha
  clear ha
  unfold groupS at hne ⊢
  by_cases hT : (L s)[p]? = some 41
  · rw [if_pos hT] at hne ⊢
    have HT := Lib.hid (take_yes 41 rfl h hs hT)
    have hp1 : p + 1 ≤ s.size := (at_some hT).1
    clear hT
    have HP := Lib.hid (fun W1 (h1 : PS W1 B s (p + 1) v xs) => add_lit 2 0 0 0 0 h1 hp1 hne)
    rw [(putS_in hne).2] at HP ⊢
    clear hne
    go_enter Tryz.func151, Tryz.ntmps151
    go_wp2_with (first | (go_at_call 67; refine HT.out.mono ?_; rintro e W1 ⟨rfl, hq1, h1, hk1⟩) | (go_at_call 94; refine (HP.out _ h1).mono ?_; rintro e W2 ⟨rfl, hq2, ⟨v2, h2⟩, hk2⟩))
    go_ret
    exact ⟨rfl, hq2, ⟨v2, h2⟩, hk1.trans hk2⟩
  · rw [if_neg hT] at hne ⊢
    have HT := Lib.hid (take_no 41 rfl h hs hle hT)
    clear hT
    have hne2 : alt p xs ≠ .out := by intro e; rw [e] at hne; exact hne rfl
    have HB := Lib.hid (fun W1 (h1 : PS W1 B s p v xs) => HA.out p xs v W1 h1 hle hne2)
    clear hne2
    cases hx : alt p xs with
    | out => rw [hx] at hne; exact absurd rfl hne
    | bad q er =>
      rw [hx] at HB
      clear hne hx
      go_enter Tryz.func151, Tryz.ntmps151
      go_wp2_with (first | (go_at_call 67; refine HT.out.mono ?_; rintro e W1 ⟨rfl, h1, hk1⟩) | (go_at_call 44; refine (HB.out _ h1).mono ?_; rintro e W2 ⟨rfl, hk2⟩))
      exact ⟨rfl, rfl, hk1.trans hk2⟩
    | ok l q ys =>
      rw [hx] at HB
      clear hne hx
      dsimp only
      have HE := Lib.hid (fun W1 v1 (hq : q ≤ s.size) (h1 : PS W1 B s q v1 ys) => expect_any 41 41 rfl h1 hs hq)
      cases hE : expectS (L s) 41 q with
      | bad q2 er =>
        rw [hE] at HE
        clear hE
        go_enter Tryz.func151, Tryz.ntmps151
        go_wp2_with (first | (go_at_call 67; refine HT.out.mono ?_; rintro e W1 ⟨rfl, h1, hk1⟩) | (go_at_call 44; refine (HB.out _ h1).mono ?_; rintro e W2 ⟨rfl, hq2, ⟨v2, h2⟩, hk2⟩) | (go_at_call 176; refine (HE.out _ _ hq2 h2).mono ?_; rintro e W3 ⟨rfl, hk3⟩))
        exact ⟨rfl, rfl, (hk1.trans hk2).trans hk3⟩
      | ok u q2 =>
        rw [hE] at HE
        clear hE
        go_enter Tryz.func151, Tryz.ntmps151
        go_wp2_with (first | (go_at_call 67; refine HT.out.mono ?_; rintro e W1 ⟨rfl, h1, hk1⟩) | (go_at_call 44; refine (HB.out _ h1).mono ?_; rintro e W2 ⟨rfl, hq2, ⟨v2, h2⟩, hk2⟩) | (go_at_call 176; refine (HE.out _ _ hq2 h2).mono ?_; rintro e W3 ⟨rfl, hq3, h3, hk3⟩))
        go_ret
        exact ⟨rfl, hq3, ⟨v2, h3⟩, (hk1.trans hk2).trans hk3⟩
end Go.Proofs.YtgbbjobmcbdhdaaGreatDoor

/-
  Walks: the parser's atoms.
-/
namespace Go.Proofs.YtgbbjobmcbdhdaaGreatDoor
open Go.RowKit

theorem range_all (W : World) : Calls Tryz.prog 150 #[.int .u8 0, .int .u8 255] W fun e w' => e = .returned (.agg #[.int .u64 (wd (rngQ 0 256) 0), .int .u64 (wd (rngQ 0 256) 1), .int .u64 (wd (rngQ 0 256) 2), .int .u64 (wd (rngQ 0 256) 3)]) ∧ Below W.heap.size W w' :=
  range_any 0 255 W (by omega) (by omega) (by omega) (by omega)
theorem classLoop_ok {s : ByteArray} : ∀ {f : Nat} {c d : BitVec 256} {p q : Nat}, p ≤ s.size → classLoop (L s) f c p = some (.ok d q) → q ≤ s.size
  | 0, _, _, _, _, _, h => by cases h
  | f + 1, c, d, p, q, hp, h => by
    rw [classLoop] at h
    split at h
    · rename_i hb
      simp only [Option.some.injEq, LR.ok.injEq] at h
      obtain ⟨hlt, -⟩ := at_some hb
      omega
    · split at h
      · simp at h
      · rename_i e q2 he
        exact classLoop_ok (pairS_ok he).2 h
theorem classS_ok {s : ByteArray} {f : Nat} {c : BitVec 256} {p q : Nat} (hp : p ≤ s.size) (h : classS (L s) f p = some (.ok c q)) : q ≤ s.size := by
  unfold classS at h
  split at h
  · rename_i hb
    obtain ⟨hlt, -⟩ := at_some hb
    split at h
    · rename_i d q2 hd
      simp only [Option.some.injEq, LR.ok.injEq] at h
      have := classLoop_ok hlt hd
      omega
    · rename_i hno
      exact absurd h (hno _ _)
  · exact classLoop_ok hp h

set_option maxRecDepth 100000 in
set_option maxHeartbeats 4000000 in
theorem atom_any {s : ByteArray} {B f : Nat} {alt : Nat → List Nd → PR} (hs : s.size ≤ 4000) (ha : ReadC 44 s B alt) : ReadC 133 s B (atomS (L s) alt f) := by
  intro p xs v W h hle hne
  have HG := Lib.hid (group_any hs ha)
  clear ha
  unfold atomS at hne ⊢
  by_cases h1 : (L s)[p]? = some 46
  · rw [if_pos h1] at hne ⊢
    have HT := Lib.hid (take_yes 46 rfl h hs h1)
    have hp1 : p + 1 ≤ s.size := (at_some h1).1
    clear h1
    have HP := Lib.hid (fun W1 (h1 : PS W1 B s (p + 1) v xs) => add_cls (rngQ 0 256) h1 hp1 hne)
    rw [(putS_in hne).2] at HP ⊢
    clear hne
    go_enter Tryz.func133, Tryz.ntmps133
    go_wp2_with (first | (go_at_call 67; refine HT.out.mono ?_; rintro e W1 ⟨rfl, hq1, h1, hk1⟩) | (go_at_call 150; refine (range_all _).mono ?_; rintro e W2 ⟨rfl, hb2⟩) | (go_at_call 94; refine (HP.out _ (h1.grows hb2)).mono ?_; rintro e W3 ⟨rfl, hq3, ⟨v3, h3⟩, hk3⟩))
    go_ret
    exact ⟨rfl, hq3, ⟨v3, h3⟩, (hk1.trans (KP.of_below hb2)).trans hk3⟩
  rw [if_neg h1] at hne ⊢
  have HA := Lib.hid (take_no 46 rfl h hs hle h1)
  clear h1
  by_cases h2 : (L s)[p]? = some 33
  · rw [if_pos h2] at hne ⊢
    have HB := Lib.hid (fun W1 (h1 : PS W1 B s p v xs) => take_yes 33 rfl h1 hs h2)
    have hp1 : p + 1 ≤ s.size := (at_some h2).1
    clear h2
    have HP := Lib.hid (fun W1 (h1 : PS W1 B s (p + 1) v xs) => add_lit 1 0 0 0 0 h1 hp1 hne)
    rw [(putS_in hne).2] at HP ⊢
    clear hne
    go_enter Tryz.func133, Tryz.ntmps133
    go_wp2_with (first | (go_at_call 67; refine HA.out.mono ?_; clear HA; rintro e W1 ⟨rfl, h1, hk1⟩) | (go_at_call 67; refine (HB.out _ h1).mono ?_; clear HB; rintro e W2 ⟨rfl, hq2, h2, hk2⟩) | (go_at_call 94; refine (HP.out _ h2).mono ?_; rintro e W3 ⟨rfl, hq3, ⟨v3, h3⟩, hk3⟩))
    go_ret
    exact ⟨rfl, hq3, ⟨v3, h3⟩, (hk1.trans hk2).trans hk3⟩
  rw [if_neg h2] at hne ⊢
  have HB := Lib.hid (fun W1 (h1 : PS W1 B s p v xs) => take_no 33 rfl h1 hs hle h2)
  clear h2
  by_cases h3 : (L s)[p]? = some 40
  · rw [if_pos h3] at hne ⊢
    have HC := Lib.hid (fun W1 (h1 : PS W1 B s p v xs) => take_yes 40 rfl h1 hs h3)
    have hp1 : p + 1 ≤ s.size := (at_some h3).1
    clear h3
    have HP := Lib.hid (fun W1 (h1 : PS W1 B s (p + 1) v xs) => HG.out (p + 1) xs v W1 h1 hp1 hne)
    cases hx : groupS (L s) alt (p + 1) xs with
    | out => rw [hx] at hne; exact absurd rfl hne
    | bad q er =>
      rw [hx] at HP
      clear hne hx
      go_enter Tryz.func133, Tryz.ntmps133
      go_wp2_with (first | (go_at_call 67; refine HA.out.mono ?_; clear HA; rintro e W1 ⟨rfl, h1, hk1⟩) | (go_at_call 67; refine (HB.out _ h1).mono ?_; clear HB; rintro e W2 ⟨rfl, h2, hk2⟩) | (go_at_call 67; refine (HC.out _ h2).mono ?_; clear HC; rintro e W3 ⟨rfl, hq3, h3, hk3⟩) | (go_at_call 151; refine (HP.out _ h3).mono ?_; rintro e W4 ⟨rfl, hk4⟩))
      exact ⟨rfl, rfl, ((hk1.trans hk2).trans hk3).trans hk4⟩
    | ok l q ys =>
      rw [hx] at HP
      clear hne hx
      go_enter Tryz.func133, Tryz.ntmps133
      go_wp2_with (first | (go_at_call 67; refine HA.out.mono ?_; clear HA; rintro e W1 ⟨rfl, h1, hk1⟩) | (go_at_call 67; refine (HB.out _ h1).mono ?_; clear HB; rintro e W2 ⟨rfl, h2, hk2⟩) | (go_at_call 67; refine (HC.out _ h2).mono ?_; clear HC; rintro e W3 ⟨rfl, hq3, h3, hk3⟩) | (go_at_call 151; refine (HP.out _ h3).mono ?_; rintro e W4 ⟨rfl, hq4, ⟨v4, h4⟩, hk4⟩))
      go_ret
      exact ⟨rfl, hq4, ⟨v4, h4⟩, ((hk1.trans hk2).trans hk3).trans hk4⟩
  rw [if_neg h3] at hne ⊢
  have HC := Lib.hid (fun W1 (h1 : PS W1 B s p v xs) => take_no 40 rfl h1 hs hle h3)
  clear h3 HG
  by_cases h4 : (L s)[p]? = some 91
  · rw [if_pos h4] at hne ⊢
    have HD := Lib.hid (fun W1 (h1 : PS W1 B s p v xs) => take_yes 91 rfl h1 hs h4)
    have hp1 : p + 1 ≤ s.size := (at_some h4).1
    clear h4
    cases hx : classS (L s) f (p + 1) with
    | none => rw [hx] at hne; exact absurd rfl hne
    | some r =>
      have HP := Lib.hid (fun W1 (h1 : PS W1 B s (p + 1) v xs) => class_any h1 hs hp1 hx)
      rw [hx] at hne
      cases r with
      | bad q er =>
        clear hne hx
        dsimp only
        go_enter Tryz.func133, Tryz.ntmps133
        go_wp2_with (first | (go_at_call 67; refine HA.out.mono ?_; clear HA; rintro e W1 ⟨rfl, h1, hk1⟩) | (go_at_call 67; refine (HB.out _ h1).mono ?_; clear HB; rintro e W2 ⟨rfl, h2, hk2⟩) | (go_at_call 67; refine (HC.out _ h2).mono ?_; clear HC; rintro e W3 ⟨rfl, h3, hk3⟩) | (go_at_call 67; refine (HD.out _ h3).mono ?_; clear HD; rintro e W4 ⟨rfl, hq4, h4, hk4⟩) | (go_at_call 152; refine (HP.out _ h4).mono ?_; rintro e W5 ⟨rfl, hk5⟩))
        exact ⟨rfl, rfl, (((hk1.trans hk2).trans hk3).trans hk4).trans hk5⟩
      | ok c q =>
        have hq := classS_ok hp1 hx
        clear hx
        dsimp only at hne ⊢
        have HQ := Lib.hid (fun W1 (h1 : PS W1 B s q v xs) => add_cls c h1 hq hne)
        rw [(putS_in hne).2] at HQ ⊢
        clear hne
        go_enter Tryz.func133, Tryz.ntmps133
        go_wp2_with (first | (go_at_call 67; refine HA.out.mono ?_; clear HA; rintro e W1 ⟨rfl, h1, hk1⟩) | (go_at_call 67; refine (HB.out _ h1).mono ?_; clear HB; rintro e W2 ⟨rfl, h2, hk2⟩) | (go_at_call 67; refine (HC.out _ h2).mono ?_; clear HC; rintro e W3 ⟨rfl, h3, hk3⟩) | (go_at_call 67; refine (HD.out _ h3).mono ?_; clear HD; rintro e W4 ⟨rfl, hq4, h4, hk4⟩) | (go_at_call 152; refine (HP.out _ h4).mono ?_; rintro e W5 ⟨rfl, hq5, h5, hk5⟩) | (go_at_call 94; refine (HQ.out _ h5).mono ?_; rintro e W6 ⟨rfl, hq6, ⟨v6, h6⟩, hk6⟩))
        go_ret
        exact ⟨rfl, hq6, ⟨v6, h6⟩, ((((hk1.trans hk2).trans hk3).trans hk4).trans hk5).trans hk6⟩
  rw [if_neg h4] at hne ⊢
  have HD := Lib.hid (fun W1 (h1 : PS W1 B s p v xs) => take_no 91 rfl h1 hs hle h4)
  clear h4
  have HP := Lib.hid (fun W1 (h1 : PS W1 B s p v xs) => char_any h1 hs hle)
  cases hx : charS (L s) p with
  | bad q er =>
    rw [hx] at HP
    clear hne hx
    go_enter Tryz.func133, Tryz.ntmps133
    go_wp2_with (first | (go_at_call 67; refine HA.out.mono ?_; clear HA; rintro e W1 ⟨rfl, h1, hk1⟩) | (go_at_call 67; refine (HB.out _ h1).mono ?_; clear HB; rintro e W2 ⟨rfl, h2, hk2⟩) | (go_at_call 67; refine (HC.out _ h2).mono ?_; clear HC; rintro e W3 ⟨rfl, h3, hk3⟩) | (go_at_call 67; refine (HD.out _ h3).mono ?_; clear HD; rintro e W4 ⟨rfl, h4, hk4⟩) | (go_at_call 154; refine (HP.out _ h4).mono ?_; rintro e W5 ⟨rfl, hk5⟩))
    exact ⟨rfl, rfl, (((hk1.trans hk2).trans hk3).trans hk4).trans hk5⟩
  | ok y q =>
    rw [hx] at HP hne
    obtain ⟨hy, hq⟩ := charS_ok hx
    clear hx
    dsimp only at hne ⊢
    have HQ := Lib.hid (fun W1 (h1 : PS W1 B s q v xs) => add_cls (ofQ [(y : Int)]) h1 hq hne)
    rw [(putS_in hne).2] at HQ ⊢
    clear hne
    go_enter Tryz.func133, Tryz.ntmps133
    go_wp2_with (first | (go_at_call 67; refine HA.out.mono ?_; clear HA; rintro e W1 ⟨rfl, h1, hk1⟩) | (go_at_call 67; refine (HB.out _ h1).mono ?_; clear HB; rintro e W2 ⟨rfl, h2, hk2⟩) | (go_at_call 67; refine (HC.out _ h2).mono ?_; clear HC; rintro e W3 ⟨rfl, h3, hk3⟩) | (go_at_call 67; refine (HD.out _ h3).mono ?_; clear HD; rintro e W4 ⟨rfl, h4, hk4⟩) | (go_at_call 154; refine (HP.out _ h4).mono ?_; rintro e W5 ⟨rfl, hq5, h5, hk5⟩) | (go_at_call 153; refine (of_one y hy _ _ _ _ ?_ ?_).mono ?_; rfl; rfl; rintro e W6 ⟨rfl, hb6⟩) | (go_at_call 94; refine (HQ.out _ ((h5.alloc _).grows hb6)).mono ?_; rintro e W7 ⟨rfl, hq7, ⟨v7, h7⟩, hk7⟩))
    go_ret
    exact ⟨rfl, hq7, ⟨v7, h7⟩, (((((hk1.trans hk2).trans hk3).trans hk4).trans hk5).alloc _).trans ((KP.of_below hb6).trans hk7)⟩
end Go.Proofs.YtgbbjobmcbdhdaaGreatDoor

/-
  Walks: the parser's items.
-/
namespace Go.Proofs.YtgbbjobmcbdhdaaGreatDoor
open Go.RowKit

set_option maxRecDepth 100000 in
set_option maxHeartbeats 4000000 in
theorem item_any {s : ByteArray} {B f : Nat} {alt : Nat → List Nd → PR} (hs : s.size ≤ 4000) (ha : ReadC 44 s B alt) : ∀ m, ReadC 112 s B (itemS (L s) alt f m)
  | 0 => fun _ _ _ _ _ _ hne => absurd rfl hne
  | m + 1 => by
    intro p xs v W h hle hne
    have HI := Lib.hid (item_any (f := f) hs ha m)
    have HA := Lib.hid (atom_any (f := f) hs ha)
    clear ha
    rw [itemS] at hne ⊢
    by_cases h1 : (L s)[p]? = some 126
    · rw [if_pos h1] at hne ⊢
      have HT := Lib.hid (take_yes 126 rfl h hs h1)
      have hp1 : p + 1 ≤ s.size := (at_some h1).1
      clear h1
      have hne2 : itemS (L s) alt f m (p + 1) xs ≠ .out := by intro e; rw [e] at hne; exact hne rfl
      have HP := Lib.hid (fun W1 (h1 : PS W1 B s (p + 1) v xs) => HI.out (p + 1) xs v W1 h1 hp1 hne2)
      clear hne2 HI HA
      cases hx : itemS (L s) alt f m (p + 1) xs with
      | out => rw [hx] at hne; exact absurd rfl hne
      | bad q er =>
        rw [hx] at HP
        clear hne hx
        go_enter Tryz.func112, Tryz.ntmps112
        go_wp2_with (first | (go_at_call 67; refine HT.out.mono ?_; rintro e W1 ⟨rfl, hq1, h1, hk1⟩) | (go_at_call 112; refine (HP.out _ h1).mono ?_; rintro e W2 ⟨rfl, hk2⟩))
        exact ⟨rfl, rfl, hk1.trans hk2⟩
      | ok l q ys =>
        rw [hx] at HP hne
        clear hx
        dsimp only at hne ⊢
        have HQ := Lib.hid (fun W1 v1 (hq : q ≤ s.size) (h1 : PS W1 B s q v1 ys) => add_lit 7 l 0 0 0 h1 hq hne)
        rw [(putS_in hne).2] at HQ ⊢
        clear hne
        go_enter Tryz.func112, Tryz.ntmps112
        go_wp2_with (first | (go_at_call 67; refine HT.out.mono ?_; rintro e W1 ⟨rfl, hq1, h1, hk1⟩) | (go_at_call 112; refine (HP.out _ h1).mono ?_; rintro e W2 ⟨rfl, hq2, ⟨v2, h2⟩, hk2⟩) | (go_at_call 94; refine (HQ.out _ _ hq2 h2).mono ?_; rintro e W3 ⟨rfl, hq3, ⟨v3, h3⟩, hk3⟩))
        go_ret
        exact ⟨rfl, hq3, ⟨v3, h3⟩, (hk1.trans hk2).trans hk3⟩
    · rw [if_neg h1] at hne ⊢
      have HT := Lib.hid (take_no 126 rfl h hs hle h1)
      clear h1 HI
      have hne2 : atomS (L s) alt f p xs ≠ .out := by intro e; rw [e] at hne; exact hne rfl
      have HP := Lib.hid (fun W1 (h1 : PS W1 B s p v xs) => HA.out p xs v W1 h1 hle hne2)
      clear hne2 HA
      cases hx : atomS (L s) alt f p xs with
      | out => rw [hx] at hne; exact absurd rfl hne
      | bad q er =>
        rw [hx] at HP
        clear hne hx
        go_enter Tryz.func112, Tryz.ntmps112
        go_wp2_with (first | (go_at_call 67; refine HT.out.mono ?_; rintro e W1 ⟨rfl, h1, hk1⟩) | (go_at_call 133; refine (HP.out _ h1).mono ?_; rintro e W2 ⟨rfl, hk2⟩))
        exact ⟨rfl, rfl, hk1.trans hk2⟩
      | ok l q ys =>
        rw [hx] at HP hne
        clear hx
        dsimp only at hne ⊢
        generalize hX : repLoop (L s) f l q ys = X at hne
        have HX := Lib.hid hX
        have HNE := Lib.hid hne
        clear hX hne
        go_enter Tryz.func112, Tryz.ntmps112
        go_wp2_with (first | (go_at_call 67; refine HT.out.mono ?_; rintro e W1 ⟨rfl, h1, hk1⟩) | (go_at_call 133; refine (HP.out _ h1).mono ?_; rintro e W2 ⟨rfl, hq2, ⟨v2, h2⟩, hk2⟩))
        go_loopw [4] (fun lv wr => ∃ (f l q : Nat) (ys : List Nd) (v : Value), lv = .int .i64 (l : Int) ∧ q ≤ s.size ∧ repLoop (L s) f l q ys = X ∧ PS wr B s q v ys ∧ KP B W wr) (fun _ wr => s.size - posOf wr B)
        case atStart => exact ⟨f, l, q, ys, v2, rfl, hq2, HX.out, h2, hk1.trans hk2⟩
        case round =>
          clear HP HT HX h1 h2 hk1 hk2
          obtain ⟨f, l, q, ys, v, rfl, hqs, hX, hr, hkr⟩ := hrel
          have hpos : posOf wr B = q := posOf_eq hr
          cases f with
          | zero => exact absurd hX.symm HNE.out
          | succ f =>
            rw [repLoop] at hX
            have HP := Lib.hid (repeat_any hr hs hqs)
            cases hx : repeatS (L s) q with
            | bad q2 er =>
              rw [hx] at HP hX
              have HX := Lib.hid hX
              clear hX hx
              go_wp2_with (first | (go_at_call 134; refine HP.out.mono ?_; rintro e W3 ⟨rfl, hk3⟩))
              rw [← HX.out]
              exact ⟨rfl, rfl, hkr.trans hk3⟩
            | ok b q2 =>
              have hfw := repeatS_fwd hx
              rw [hx] at HP hX
              clear hx
              cases b with
              | none =>
                have HX := Lib.hid hX
                clear hX
                go_wp2_with (first | (go_at_call 134; refine HP.out.mono ?_; rintro e W3 ⟨rfl, hq3, h3, hk3⟩; dsimp only [valRep]))
                go_ret
                rw [← HX.out]
                exact ⟨rfl, hq3, ⟨_, h3⟩, hkr.trans hk3⟩
              | some b =>
                dsimp only at hX
                have hgt : q < q2 := hfw.2 _ rfl
                clear hfw
                have hne : putS ⟨8, 0, l, 0, b.1, b.2⟩ q2 ys ≠ .out := by
                  intro e; rw [e] at hX; exact HNE.out hX.symm
                rw [(putS_in hne).2] at hX
                have HX := Lib.hid hX
                have HQ := Lib.hid (fun W1 (hq : q2 ≤ s.size) (h1 : PS W1 B s q2 v ys) => add_lit 8 l 0 b.1 b.2 h1 hq hne)
                rw [(putS_in hne).2] at HQ
                clear hX hne
                obtain ⟨b1, b2⟩ := b
                go_wp2_with (first | (go_at_call 134; refine HP.out.mono ?_; rintro e W3 ⟨rfl, hq3, h3, hk3⟩; dsimp only [valRep]) | (go_at_call 94; refine (HQ.out _ hq3 h3).mono ?_; rintro e W4 ⟨rfl, hq4, ⟨v4, h4⟩, hk4⟩))
                go_roundw
                case rel => exact ⟨f, _, q2, _, v4, rfl, hq4, HX.out, h4, (hkr.trans hk3).trans hk4⟩
                case measure =>
                  have hp4 : posOf W4 B = q2 := posOf_eq h4
                  omega
end Go.Proofs.YtgbbjobmcbdhdaaGreatDoor

/-
  Walks: the parser's chains: concatenations, intersections, alternatives.
-/
namespace Go.Proofs.YtgbbjobmcbdhdaaGreatDoor
open Go.RowKit

theorem index_ge (l : List UInt8) (y : UInt8) : decide (0 ≤ Lib.indexByte l y) = l.contains y := by
  have h := index_neg l y
  have e : decide (0 ≤ Lib.indexByte l y) = !decide (Lib.indexByte l y < 0) := by
    by_cases hl : Lib.indexByte l y < 0
    · rw [decide_eq_true hl, decide_eq_false (by omega)]; rfl
    · rw [decide_eq_false hl, decide_eq_true (by omega)]; rfl
  rw [e, h, Bool.not_not]
/-- how a question for more ends. -/
def MoreC (f : FuncId) (args : Array Value) (s : ByteArray) (B : Nat) (Inv : World → Prop) (more : Nat → Option Nat) : Prop :=
  ∀ p xs v W, Inv W → PS W B s p v xs → p ≤ s.size → Calls Tryz.prog f args W fun e W' => e = .returned (.bool (more p).isSome) ∧ PS W' B s ((more p).getD p) v xs ∧ (more p).getD p ≤ s.size ∧ KP B W W'
set_option maxRecDepth 100000 in
set_option maxHeartbeats 4000000 in
theorem atItem_any {s : ByteArray} {B : Nat} (hs : s.size ≤ 4000) : MoreC 113 #[.pointer (some ⟨B, 0, none⟩)] s B (fun _ => True) (moreItem (L s)) := by
  intro p xs v W _ h hle
  obtain ⟨c0, c1, c2, f0, f1, f2⟩ := h.to_cells
  have hg : (moreItem (L s) p).isSome = itemAt (L s) p ∧ (moreItem (L s) p).getD p = p := by
    unfold moreItem; split <;> simp_all
  rw [hg.1, hg.2]
  clear hg
  by_cases hlt : p < s.size
  · have t1 : decide ((p : Int) < (s.size : Int)) = true := by simp; omega
    have hi : itemAt (L s) p = (plainB s[p] || [126, 46, 33, 40, 91, 92].contains s[p]) := by unfold itemAt; rw [at_str hlt]
    rw [hi]
    clear hi
    cases hd : plainB s[p] with
    | true =>
      have HD := Lib.hid (fun W => hd ▸ plain_any s[p] W)
      clear hd
      go_enter Tryz.func113, Tryz.ntmps113
      go_wp2_with fail
      go_quiet ((go_at_call 101; exact Calls.quiet_of_same (HD.out _)))
      go_wp2
      go_ret
      exact ⟨rfl, h.drewN _, hle, (KP.refl B W).drewN _⟩
    | false =>
      have HD := Lib.hid (fun W => hd ▸ plain_any s[p] W)
      clear hd
      rw [Bool.false_or, ← index_ge]
      go_enter Tryz.func113, Tryz.ntmps113
      go_wp2_with fail
      go_quiet (first | (go_at_call 101; exact Calls.quiet_of_same (HD.out _)) | (go_at_call 117; exact Calls.quiet_of_same (Tryz.strings_IndexByte _ _ _)))
      go_wp2
      go_ret
      exact ⟨by simp, h.drewN _, hle, (KP.refl B W).drewN _⟩
  · have t1 : decide ((p : Int) < (s.size : Int)) = false := by simp; omega
    have hi : itemAt (L s) p = false := by unfold itemAt; rw [at_none (by omega)]
    rw [hi]
    go_enter Tryz.func113, Tryz.ntmps113
    go_wp2_with fail
    go_quiet (fail)
    go_wp2
    go_ret
    exact ⟨rfl, h.drewN _, hle, (KP.refl B W).drewN _⟩

set_option maxRecDepth 100000 in
set_option maxHeartbeats 4000000 in
theorem moreAlt {s : ByteArray} {B bx : Nat} (hs : s.size ≤ 4000) : MoreC 66 #[.pointer (some ⟨bx, 0, none⟩)] s B (fun W => Blk W bx #[.pointer (some ⟨B, 0, none⟩)] 102) (takeS (L s) 124) := by
  intro p xs v W hb h hle
  have b0 := hb.cell 0 rfl
  unfold takeS
  by_cases hT : (L s)[p]? = some 124
  · rw [if_pos hT]
    have HT := Lib.hid (take_yes 124 rfl h hs hT)
    clear hT
    go_enter Tryz.func66, Tryz.ntmps66
    go_wp2_with (first | (go_at_call 67; refine HT.out.mono ?_; rintro e W1 ⟨rfl, hq1, h1, hk1⟩))
    go_ret
    exact ⟨rfl, h1, hq1, hk1⟩
  · rw [if_neg hT]
    have HT := Lib.hid (take_no 124 rfl h hs hle hT)
    clear hT
    go_enter Tryz.func66, Tryz.ntmps66
    go_wp2_with (first | (go_at_call 67; refine HT.out.mono ?_; rintro e W1 ⟨rfl, h1, hk1⟩))
    go_ret
    exact ⟨rfl, h1, hle, hk1⟩

set_option maxRecDepth 100000 in
set_option maxHeartbeats 4000000 in
theorem moreAnd {s : ByteArray} {B bx : Nat} (hs : s.size ≤ 4000) : MoreC 96 #[.pointer (some ⟨bx, 0, none⟩)] s B (fun W => Blk W bx #[.pointer (some ⟨B, 0, none⟩)] 102) (takeS (L s) 38) := by
  intro p xs v W hb h hle
  have b0 := hb.cell 0 rfl
  unfold takeS
  by_cases hT : (L s)[p]? = some 38
  · rw [if_pos hT]
    have HT := Lib.hid (take_yes 38 rfl h hs hT)
    clear hT
    go_enter Tryz.func96, Tryz.ntmps96
    go_wp2_with (first | (go_at_call 67; refine HT.out.mono ?_; rintro e W1 ⟨rfl, hq1, h1, hk1⟩))
    go_ret
    exact ⟨rfl, h1, hq1, hk1⟩
  · rw [if_neg hT]
    have HT := Lib.hid (take_no 38 rfl h hs hle hT)
    clear hT
    go_enter Tryz.func96, Tryz.ntmps96
    go_wp2_with (first | (go_at_call 67; refine HT.out.mono ?_; rintro e W1 ⟨rfl, h1, hk1⟩))
    go_ret
    exact ⟨rfl, h1, hle, hk1⟩

set_option maxRecDepth 100000 in
set_option maxHeartbeats 4000000 in
theorem chainCat {s : ByteArray} {B f : Nat} {op : Nat → List Nd → PR} {more : Nat → Option Nat} (kind : Int) (ho : ReadC 112 s B op) (hf : Fwd op) (hmf : ∀ p q, more p = some q → p ≤ q) (hm : MoreC 113 #[.pointer (some ⟨B, 0, none⟩)] s B (fun _ => True) more)
    {p : Nat} {xs : List Nd} {v : Value} {W : World} (h : PS W B s p v xs) (hle : p ≤ s.size) (hno : chainS kind op more f p xs ≠ .out) :
    Calls Tryz.prog 64 #[.pointer (some ⟨B, 0, none⟩), .int .i64 kind, .func (.func 112) #[.pointer (some ⟨B, 0, none⟩)] #[], .func (.func 113) #[.pointer (some ⟨B, 0, none⟩)] #[]] W (PostN B s W (chainS kind op more f p xs)) := by
  skip
  have HO := Lib.hid ho
  have HM := Lib.hid hm
  have HF := Lib.hid hf
  have HMF := Lib.hid hmf
  clear ho hm hf hmf
  unfold chainS at hno ⊢
  have hne2 : op p xs ≠ .out := by intro e; rw [e] at hno; exact hno rfl
  have HP := Lib.hid (HO.out p xs v W h hle hne2)
  clear hne2
  cases hx : op p xs with
  | out => rw [hx] at hno; exact absurd rfl hno
  | bad q er =>
    rw [hx] at HP
    clear hno hx
    go_enter Tryz.func64, Tryz.ntmps64
    go_wp2_with (first | (go_at_call 112; refine HP.out.mono ?_; rintro e W1 ⟨rfl, hk1⟩))
    exact ⟨rfl, rfl, hk1⟩
  | ok l q ys =>
    rw [hx] at HP hno
    clear hx
    dsimp only at hno ⊢
    generalize hX : joinS kind op more f l q ys = X at hno
    have HX := Lib.hid hX
    have HNE := Lib.hid hno
    clear hX hno
    go_enter Tryz.func64, Tryz.ntmps64
    go_wp2_with (first | (go_at_call 112; refine HP.out.mono ?_; rintro e W1 ⟨rfl, hq1, ⟨v1, h1⟩, hk1⟩))
    go_loopw [9] (fun lv wr => ∃ (f l q : Nat) (ys : List Nd) (v : Value), lv = .int .i64 (l : Int) ∧ q ≤ s.size ∧ joinS kind op more f l q ys = X ∧ PS wr B s q v ys ∧ KP B W wr ∧ True) (fun _ wr => s.size - posOf wr B)
    case atStart => exact ⟨f, l, q, ys, v1, rfl, hq1, HX.out, h1, hk1, trivial⟩
    case round =>
      clear HP HX h1 hk1
      obtain ⟨f, l, q, ys, v, rfl, hqs, hX, hr, hkr, hi⟩ := hrel
      have hpos : posOf wr B = q := posOf_eq hr
      cases f with
      | zero => exact absurd hX.symm HNE.out
      | succ f =>
        rw [joinS] at hX
        have HQ := Lib.hid (HM.out q ys v wr hi hr hqs)
        cases hq1 : more q with
        | none =>
          rw [hq1] at HQ hX
          have HX := Lib.hid hX
          clear hX hq1
          go_wp2_with (first | (go_at_call 113; refine HQ.out.mono ?_; rintro e W3 ⟨rfl, h3, hq3, hk3⟩; dsimp only [Option.isSome]))
          go_ret
          rw [← HX.out]
          exact ⟨rfl, hq3, ⟨_, h3⟩, hkr.trans hk3⟩
        | some q1 =>
          have hq1f := HMF.out _ _ hq1
          rw [hq1] at HQ hX
          dsimp only at hX
          have hne3 : op q1 ys ≠ .out := by intro e; rw [e] at hX; exact HNE.out hX.symm
          have HP := Lib.hid (fun W1 (h1 : PS W1 B s q1 v ys) (hq : q1 ≤ s.size) => HO.out q1 ys v W1 h1 hq hne3)
          clear hne3 hq1
          cases hx : op q1 ys with
          | out => rw [hx] at hX; exact absurd hX.symm HNE.out
          | bad q2 er =>
            rw [hx] at HP hX
            have HX := Lib.hid hX
            clear hX hx
            go_wp2_with (first | (go_at_call 113; refine HQ.out.mono ?_; rintro e W3 ⟨rfl, h3, hq3, hk3⟩; dsimp only [Option.isSome]) | (go_at_call 112; refine (HP.out _ h3 hq3).mono ?_; rintro e W4 ⟨rfl, hk4⟩))
            rw [← HX.out]
            exact ⟨rfl, rfl, (hkr.trans hk3).trans hk4⟩
          | ok r q2 zs =>
            have hfw := HF.out _ _ _ _ _ hx
            rw [hx] at HP hX
            clear hx
            dsimp only at hX
            have hne : putS ⟨kind, 0, l, r, 0, 0⟩ q2 zs ≠ .out := by
              intro e; rw [e] at hX; exact HNE.out hX.symm
            rw [(putS_in hne).2] at hX
            have HX := Lib.hid hX
            have HA := Lib.hid (fun W1 v1 (hq : q2 ≤ s.size) (h1 : PS W1 B s q2 v1 zs) => add_lit kind l r 0 0 h1 hq hne)
            rw [(putS_in hne).2] at HA
            clear hX hne
            go_wp2_with (first | (go_at_call 113; refine HQ.out.mono ?_; rintro e W3 ⟨rfl, h3, hq3, hk3⟩; dsimp only [Option.isSome]) | (go_at_call 112; refine (HP.out _ h3 hq3).mono ?_; rintro e W4 ⟨rfl, hq4, ⟨v4, h4⟩, hk4⟩) | (go_at_call 94; refine (HA.out _ _ hq4 h4).mono ?_; rintro e W5 ⟨rfl, hq5, ⟨v5, h5⟩, hk5⟩))
            go_roundw
            case rel => exact ⟨f, _, q2, _, v5, rfl, hq5, HX.out, h5, ((hkr.trans hk3).trans hk4).trans hk5, trivial⟩
            case measure =>
              have hp5 : posOf W5 B = q2 := posOf_eq h5
              omega

set_option maxRecDepth 100000 in
set_option maxHeartbeats 4000000 in
theorem chainAnd {s : ByteArray} {B bx f : Nat} {op : Nat → List Nd → PR} {more : Nat → Option Nat} (kind : Int) (ho : ReadC 95 s B op) (hf : Fwd op) (hmf : ∀ p q, more p = some q → p ≤ q) (hm : MoreC 96 #[.pointer (some ⟨bx, 0, none⟩)] s B (fun W => Blk W bx #[.pointer (some ⟨B, 0, none⟩)] 102) more)
    {p : Nat} {xs : List Nd} {v : Value} {W : World} (hb : Blk W bx #[.pointer (some ⟨B, 0, none⟩)] 102) (hne : bx ≠ B) (h : PS W B s p v xs) (hle : p ≤ s.size) (hno : chainS kind op more f p xs ≠ .out) :
    Calls Tryz.prog 64 #[.pointer (some ⟨B, 0, none⟩), .int .i64 kind, .func (.func 95) #[.pointer (some ⟨B, 0, none⟩)] #[], .func (.func 96) #[] #[.pointer (some ⟨bx, 0, none⟩)]] W (PostN B s W (chainS kind op more f p xs)) := by
  have hbB := hne
  have HO := Lib.hid ho
  have HM := Lib.hid hm
  have HF := Lib.hid hf
  have HMF := Lib.hid hmf
  clear ho hm hf hmf
  unfold chainS at hno ⊢
  have hne2 : op p xs ≠ .out := by intro e; rw [e] at hno; exact hno rfl
  have HP := Lib.hid (HO.out p xs v W h hle hne2)
  clear hne2
  cases hx : op p xs with
  | out => rw [hx] at hno; exact absurd rfl hno
  | bad q er =>
    rw [hx] at HP
    clear hno hx
    go_enter Tryz.func64, Tryz.ntmps64
    go_wp2_with (first | (go_at_call 95; refine HP.out.mono ?_; rintro e W1 ⟨rfl, hk1⟩))
    exact ⟨rfl, rfl, hk1⟩
  | ok l q ys =>
    rw [hx] at HP hno
    clear hx
    dsimp only at hno ⊢
    generalize hX : joinS kind op more f l q ys = X at hno
    have HX := Lib.hid hX
    have HNE := Lib.hid hno
    clear hX hno
    go_enter Tryz.func64, Tryz.ntmps64
    go_wp2_with (first | (go_at_call 95; refine HP.out.mono ?_; rintro e W1 ⟨rfl, hq1, ⟨v1, h1⟩, hk1⟩))
    go_loopw [9] (fun lv wr => ∃ (f l q : Nat) (ys : List Nd) (v : Value), lv = .int .i64 (l : Int) ∧ q ≤ s.size ∧ joinS kind op more f l q ys = X ∧ PS wr B s q v ys ∧ KP B W wr ∧ Blk wr bx #[.pointer (some ⟨B, 0, none⟩)] 102) (fun _ wr => s.size - posOf wr B)
    case atStart => exact ⟨f, l, q, ys, v1, rfl, hq1, HX.out, h1, hk1, (hb.keptP hk1 hbB (by decide))⟩
    case round =>
      clear HP HX h1 hk1
      obtain ⟨f, l, q, ys, v, rfl, hqs, hX, hr, hkr, hi⟩ := hrel
      have hpos : posOf wr B = q := posOf_eq hr
      cases f with
      | zero => exact absurd hX.symm HNE.out
      | succ f =>
        rw [joinS] at hX
        have HQ := Lib.hid (HM.out q ys v wr hi hr hqs)
        cases hq1 : more q with
        | none =>
          rw [hq1] at HQ hX
          have HX := Lib.hid hX
          clear hX hq1
          go_wp2_with (first | (go_at_call 96; refine HQ.out.mono ?_; rintro e W3 ⟨rfl, h3, hq3, hk3⟩; dsimp only [Option.isSome]))
          go_ret
          rw [← HX.out]
          exact ⟨rfl, hq3, ⟨_, h3⟩, hkr.trans hk3⟩
        | some q1 =>
          have hq1f := HMF.out _ _ hq1
          rw [hq1] at HQ hX
          dsimp only at hX
          have hne3 : op q1 ys ≠ .out := by intro e; rw [e] at hX; exact HNE.out hX.symm
          have HP := Lib.hid (fun W1 (h1 : PS W1 B s q1 v ys) (hq : q1 ≤ s.size) => HO.out q1 ys v W1 h1 hq hne3)
          clear hne3 hq1
          cases hx : op q1 ys with
          | out => rw [hx] at hX; exact absurd hX.symm HNE.out
          | bad q2 er =>
            rw [hx] at HP hX
            have HX := Lib.hid hX
            clear hX hx
            go_wp2_with (first | (go_at_call 96; refine HQ.out.mono ?_; rintro e W3 ⟨rfl, h3, hq3, hk3⟩; dsimp only [Option.isSome]) | (go_at_call 95; refine (HP.out _ h3 hq3).mono ?_; rintro e W4 ⟨rfl, hk4⟩))
            rw [← HX.out]
            exact ⟨rfl, rfl, (hkr.trans hk3).trans hk4⟩
          | ok r q2 zs =>
            have hfw := HF.out _ _ _ _ _ hx
            rw [hx] at HP hX
            clear hx
            dsimp only at hX
            have hne : putS ⟨kind, 0, l, r, 0, 0⟩ q2 zs ≠ .out := by
              intro e; rw [e] at hX; exact HNE.out hX.symm
            rw [(putS_in hne).2] at hX
            have HX := Lib.hid hX
            have HA := Lib.hid (fun W1 v1 (hq : q2 ≤ s.size) (h1 : PS W1 B s q2 v1 zs) => add_lit kind l r 0 0 h1 hq hne)
            rw [(putS_in hne).2] at HA
            clear hX hne
            go_wp2_with (first | (go_at_call 96; refine HQ.out.mono ?_; rintro e W3 ⟨rfl, h3, hq3, hk3⟩; dsimp only [Option.isSome]) | (go_at_call 95; refine (HP.out _ h3 hq3).mono ?_; rintro e W4 ⟨rfl, hq4, ⟨v4, h4⟩, hk4⟩) | (go_at_call 94; refine (HA.out _ _ hq4 h4).mono ?_; rintro e W5 ⟨rfl, hq5, ⟨v5, h5⟩, hk5⟩))
            go_roundw
            case rel => exact ⟨f, _, q2, _, v5, rfl, hq5, HX.out, h5, ((hkr.trans hk3).trans hk4).trans hk5, (((hi.keptP hk3 hbB (by decide)).keptP hk4 hbB (by decide)).keptP hk5 hbB (by decide))⟩
            case measure =>
              have hp5 : posOf W5 B = q2 := posOf_eq h5
              omega

set_option maxRecDepth 100000 in
set_option maxHeartbeats 4000000 in
theorem chainAlt {s : ByteArray} {B bx f : Nat} {op : Nat → List Nd → PR} {more : Nat → Option Nat} (kind : Int) (ho : ReadC 65 s B op) (hf : Fwd op) (hmf : ∀ p q, more p = some q → p ≤ q) (hm : MoreC 66 #[.pointer (some ⟨bx, 0, none⟩)] s B (fun W => Blk W bx #[.pointer (some ⟨B, 0, none⟩)] 102) more)
    {p : Nat} {xs : List Nd} {v : Value} {W : World} (hb : Blk W bx #[.pointer (some ⟨B, 0, none⟩)] 102) (hne : bx ≠ B) (h : PS W B s p v xs) (hle : p ≤ s.size) (hno : chainS kind op more f p xs ≠ .out) :
    Calls Tryz.prog 64 #[.pointer (some ⟨B, 0, none⟩), .int .i64 kind, .func (.func 65) #[.pointer (some ⟨B, 0, none⟩)] #[], .func (.func 66) #[] #[.pointer (some ⟨bx, 0, none⟩)]] W (PostN B s W (chainS kind op more f p xs)) := by
  have hbB := hne
  have HO := Lib.hid ho
  have HM := Lib.hid hm
  have HF := Lib.hid hf
  have HMF := Lib.hid hmf
  clear ho hm hf hmf
  unfold chainS at hno ⊢
  have hne2 : op p xs ≠ .out := by intro e; rw [e] at hno; exact hno rfl
  have HP := Lib.hid (HO.out p xs v W h hle hne2)
  clear hne2
  cases hx : op p xs with
  | out => rw [hx] at hno; exact absurd rfl hno
  | bad q er =>
    rw [hx] at HP
    clear hno hx
    go_enter Tryz.func64, Tryz.ntmps64
    go_wp2_with (first | (go_at_call 65; refine HP.out.mono ?_; rintro e W1 ⟨rfl, hk1⟩))
    exact ⟨rfl, rfl, hk1⟩
  | ok l q ys =>
    rw [hx] at HP hno
    clear hx
    dsimp only at hno ⊢
    generalize hX : joinS kind op more f l q ys = X at hno
    have HX := Lib.hid hX
    have HNE := Lib.hid hno
    clear hX hno
    go_enter Tryz.func64, Tryz.ntmps64
    go_wp2_with (first | (go_at_call 65; refine HP.out.mono ?_; rintro e W1 ⟨rfl, hq1, ⟨v1, h1⟩, hk1⟩))
    go_loopw [9] (fun lv wr => ∃ (f l q : Nat) (ys : List Nd) (v : Value), lv = .int .i64 (l : Int) ∧ q ≤ s.size ∧ joinS kind op more f l q ys = X ∧ PS wr B s q v ys ∧ KP B W wr ∧ Blk wr bx #[.pointer (some ⟨B, 0, none⟩)] 102) (fun _ wr => s.size - posOf wr B)
    case atStart => exact ⟨f, l, q, ys, v1, rfl, hq1, HX.out, h1, hk1, (hb.keptP hk1 hbB (by decide))⟩
    case round =>
      clear HP HX h1 hk1
      obtain ⟨f, l, q, ys, v, rfl, hqs, hX, hr, hkr, hi⟩ := hrel
      have hpos : posOf wr B = q := posOf_eq hr
      cases f with
      | zero => exact absurd hX.symm HNE.out
      | succ f =>
        rw [joinS] at hX
        have HQ := Lib.hid (HM.out q ys v wr hi hr hqs)
        cases hq1 : more q with
        | none =>
          rw [hq1] at HQ hX
          have HX := Lib.hid hX
          clear hX hq1
          go_wp2_with (first | (go_at_call 66; refine HQ.out.mono ?_; rintro e W3 ⟨rfl, h3, hq3, hk3⟩; dsimp only [Option.isSome]))
          go_ret
          rw [← HX.out]
          exact ⟨rfl, hq3, ⟨_, h3⟩, hkr.trans hk3⟩
        | some q1 =>
          have hq1f := HMF.out _ _ hq1
          rw [hq1] at HQ hX
          dsimp only at hX
          have hne3 : op q1 ys ≠ .out := by intro e; rw [e] at hX; exact HNE.out hX.symm
          have HP := Lib.hid (fun W1 (h1 : PS W1 B s q1 v ys) (hq : q1 ≤ s.size) => HO.out q1 ys v W1 h1 hq hne3)
          clear hne3 hq1
          cases hx : op q1 ys with
          | out => rw [hx] at hX; exact absurd hX.symm HNE.out
          | bad q2 er =>
            rw [hx] at HP hX
            have HX := Lib.hid hX
            clear hX hx
            go_wp2_with (first | (go_at_call 66; refine HQ.out.mono ?_; rintro e W3 ⟨rfl, h3, hq3, hk3⟩; dsimp only [Option.isSome]) | (go_at_call 65; refine (HP.out _ h3 hq3).mono ?_; rintro e W4 ⟨rfl, hk4⟩))
            rw [← HX.out]
            exact ⟨rfl, rfl, (hkr.trans hk3).trans hk4⟩
          | ok r q2 zs =>
            have hfw := HF.out _ _ _ _ _ hx
            rw [hx] at HP hX
            clear hx
            dsimp only at hX
            have hne : putS ⟨kind, 0, l, r, 0, 0⟩ q2 zs ≠ .out := by
              intro e; rw [e] at hX; exact HNE.out hX.symm
            rw [(putS_in hne).2] at hX
            have HX := Lib.hid hX
            have HA := Lib.hid (fun W1 v1 (hq : q2 ≤ s.size) (h1 : PS W1 B s q2 v1 zs) => add_lit kind l r 0 0 h1 hq hne)
            rw [(putS_in hne).2] at HA
            clear hX hne
            go_wp2_with (first | (go_at_call 66; refine HQ.out.mono ?_; rintro e W3 ⟨rfl, h3, hq3, hk3⟩; dsimp only [Option.isSome]) | (go_at_call 65; refine (HP.out _ h3 hq3).mono ?_; rintro e W4 ⟨rfl, hq4, ⟨v4, h4⟩, hk4⟩) | (go_at_call 94; refine (HA.out _ _ hq4 h4).mono ?_; rintro e W5 ⟨rfl, hq5, ⟨v5, h5⟩, hk5⟩))
            go_roundw
            case rel => exact ⟨f, _, q2, _, v5, rfl, hq5, HX.out, h5, ((hkr.trans hk3).trans hk4).trans hk5, (((hi.keptP hk3 hbB (by decide)).keptP hk4 hbB (by decide)).keptP hk5 hbB (by decide))⟩
            case measure =>
              have hp5 : posOf W5 B = q2 := posOf_eq h5
              omega

end Go.Proofs.YtgbbjobmcbdhdaaGreatDoor
/-
  Walks: concatenations, intersections, alternatives: the parser's recursion.
-/
namespace Go.Proofs.YtgbbjobmcbdhdaaGreatDoor
open Go.RowKit

theorem takeS_le {s : List UInt8} {c : UInt8} : ∀ p q, takeS s c p = some q → p ≤ q := fun _ _ => takeS_fwd
theorem moreItem_le {s : List UInt8} : ∀ p q, moreItem s p = some q → p ≤ q := fun _ _ => moreItem_fwd
set_option maxRecDepth 100000 in
set_option maxHeartbeats 1000000 in
theorem cat_any {s : ByteArray} {B f : Nat} {alt : Nat → List Nd → PR} (hs : s.size ≤ 4000) (ha : ReadC 44 s B alt) (hf : Fwd alt) : ReadC 95 s B (catS (L s) alt f) := by
  intro p xs v W h hle hne
  have hmf : ∀ (fn : Fn) (first cap : Array Value) (w : World), (Instr.makeFunc fn first cap).run Tryz.prog w = .ok (.func fn first cap) w := fun _ _ _ _ => rfl
  have HC := Lib.hid (chainCat (f := f) 4 (item_any hs ha f) (itemS_fwd hf f) moreItem_le (atItem_any hs) h hle hne)
  generalize hX : catS (L s) alt f p xs = X at hne
  have HX := Lib.hid (show chainS 4 (itemS (L s) alt f f) (moreItem (L s)) f p xs = X from hX)
  rw [HX.out] at HC
  clear hX ha hf
  go_enter Tryz.func95, Tryz.ntmps95
  cases X with
  | out => exact absurd rfl hne
  | bad q er =>
    clear hne
    go_wp2_with (first | (go_at_call 64; refine HC.out.mono ?_; rintro e W1 ⟨rfl, hk1⟩))
    exact ⟨rfl, rfl, hk1⟩
  | ok l q ys =>
    clear hne
    go_wp2_with (first | (go_at_call 64; refine HC.out.mono ?_; rintro e W1 ⟨rfl, hq1, h1, hk1⟩))
    go_ret
    exact ⟨rfl, hq1, h1, hk1⟩
set_option maxRecDepth 100000 in
set_option maxHeartbeats 1000000 in
theorem and_any {s : ByteArray} {B f : Nat} {alt : Nat → List Nd → PR} (hs : s.size ≤ 4000) (ha : ReadC 44 s B alt) (hf : Fwd alt) : ReadC 65 s B (andS (L s) alt f) := by
  intro p xs v W h hle hne
  have hB : B < W.heap.size := h.is.lt
  have hmf : ∀ (fn : Fn) (first cap : Array Value) (w : World), (Instr.makeFunc fn first cap).run Tryz.prog w = .ok (.func fn first cap) w := fun _ _ _ _ => rfl
  have HC := Lib.hid (chainAnd (f := f) 6 (cat_any (f := f) hs ha hf) (catS_fwd hf) takeS_le (moreAnd hs) (Blk.new W #[.pointer (some ⟨B, 0, none⟩)] 102) (by omega) (h.alloc _) hle hne)
  generalize hX : andS (L s) alt f p xs = X at hne
  have HX := Lib.hid (show chainS 6 (catS (L s) alt f) (takeS (L s) 38) f p xs = X from hX)
  rw [HX.out] at HC
  clear hX ha hf
  have hk0 : KP B W (W.alloc (.cells #[.pointer (some ⟨B, 0, none⟩)] 102)) := (KP.refl B W).alloc _
  go_enter Tryz.func65, Tryz.ntmps65
  cases X with
  | out => exact absurd rfl hne
  | bad q er =>
    clear hne
    go_wp2_with (first | (go_at_call 64; refine HC.out.mono ?_; rintro e W1 ⟨rfl, hk1⟩))
    exact ⟨rfl, rfl, hk0.trans hk1⟩
  | ok l q ys =>
    clear hne
    go_wp2_with (first | (go_at_call 64; refine HC.out.mono ?_; rintro e W1 ⟨rfl, hq1, h1, hk1⟩))
    go_ret
    exact ⟨rfl, hq1, h1, hk0.trans hk1⟩
set_option maxRecDepth 100000 in
set_option maxHeartbeats 1000000 in
theorem alt_any {s : ByteArray} {B : Nat} (hs : s.size ≤ 4000) : ∀ f, ReadC 44 s B (altS (L s) f)
  | 0 => fun _ _ _ _ _ _ hne => absurd rfl hne
  | f + 1 => by
    intro p xs v W h hle hne
    have ha := alt_any (B := B) hs f
    have hf := altS_fwd (s := L s) f
    have hB : B < W.heap.size := h.is.lt
    have hmf : ∀ (fn : Fn) (first cap : Array Value) (w : World), (Instr.makeFunc fn first cap).run Tryz.prog w = .ok (.func fn first cap) w := fun _ _ _ _ => rfl
    have HC := Lib.hid (chainAlt (f := f) 5 (and_any (f := f) hs ha hf) (andS_fwd hf) takeS_le (moreAlt hs) (Blk.new W #[.pointer (some ⟨B, 0, none⟩)] 102) (by omega) (h.alloc _) hle hne)
    generalize hX : altS (L s) (f + 1) p xs = X at hne
    have HX := Lib.hid (show chainS 5 (andS (L s) (altS (L s) f) f) (takeS (L s) 124) f p xs = X from hX)
    rw [HX.out] at HC
    clear hX ha hf
    have hk0 : KP B W (W.alloc (.cells #[.pointer (some ⟨B, 0, none⟩)] 102)) := (KP.refl B W).alloc _
    go_enter Tryz.func44, Tryz.ntmps44
    cases X with
    | out => exact absurd rfl hne
    | bad q er =>
      clear hne
      go_wp2_with (first | (go_at_call 64; refine HC.out.mono ?_; rintro e W1 ⟨rfl, hk1⟩))
      exact ⟨rfl, rfl, hk0.trans hk1⟩
    | ok l q ys =>
      clear hne
      go_wp2_with (first | (go_at_call 64; refine HC.out.mono ?_; rintro e W1 ⟨rfl, hq1, h1, hk1⟩))
      go_ret
      exact ⟨rfl, hq1, h1, hk0.trans hk1⟩
end Go.Proofs.YtgbbjobmcbdhdaaGreatDoor

/-
  Walks: Parse.
-/
namespace Go.Proofs.YtgbbjobmcbdhdaaGreatDoor
open Go.RowKit

set_option maxRecDepth 100000 in
set_option maxHeartbeats 1000000 in
theorem catch_idle (p q r : Addr) (w : World) :
    CallsD Tryz.prog 43 #[.pointer (some p), .pointer (some q), .pointer (some r)] .returning w fun e u' w' => e = .returned (.tuple #[]) ∧ u' = .returning ∧ w' = w.alloc (.cells #[.int .i64 0, .int .i64 0] 72) := by
  refine callsD_of_wpS Tryz.func43 rfl fun c₀ cs hu => ?_
  have hta : ∀ w, (Instr.typeAssert .nilIface 20 72 true).run Tryz.prog w = .ok (.tuple #[.agg #[.int .i64 0, .int .i64 0], .bool false]) w := fun _ => by kernel_rfl
  simp only [Tryz.ntmps43, List.size_toArray, List.length_cons, List.length_nil, Nat.reduceAdd, Nat.reduceSub, Array.replicate_succ, Array.replicate_zero, List.push_toArray, List.append_toArray, List.nil_append, List.cons_append]
  apply wpS_seq
  apply wpS_region
  simp [wpOpsS, go_sem, recoverD, hu, Exit.thenS, hta]
  refine wpS_of_wp ?_
  go_wp2
  cases c₀
  simp_all [bodyPostS, results, Tryz.results43, Exit.thenS]
set_option maxRecDepth 100000 in
set_option maxHeartbeats 1000000 in
theorem catch_bad (b : Nat) (a er : Int) (older : List PanicEntry) (v0 v1 v2 : Value) (w : World)
    (h0 : Blk w b #[v0] 23) (h1 : Blk w (b + 1) #[v1] 3) (h2 : Blk w (b + 1 + 1) #[v2] 27) :
    CallsD Tryz.prog 43 #[.pointer (some ⟨b, 0, none⟩), .pointer (some ⟨b + 1, 0, none⟩), .pointer (some ⟨b + 1 + 1, 0, none⟩)] (.panicking ({ v := .iface 72 (.agg #[.int .i64 a, .int .i64 er]), recovered := false } :: older)) w fun e u' w' =>
      e = .returned (.tuple #[]) ∧ u' = .panicking ({ v := .iface 72 (.agg #[.int .i64 a, .int .i64 er]), recovered := true } :: older) ∧
        Blk w' b #[.slice none 0 0] 23 ∧ Blk w' (b + 1) #[.int .i64 a] 3 ∧ Blk w' (b + 1 + 1) #[.int .i64 er] 27 ∧ Below b w w' := by
  refine callsD_of_wpS Tryz.func43 rfl fun c₀ cs hu => ?_
  have hta : ∀ w, (Instr.typeAssert (.iface 72 (.agg #[.int .i64 a, .int .i64 er])) 20 72 true).run Tryz.prog w = .ok (.tuple #[.agg #[.int .i64 a, .int .i64 er], .bool true]) w := fun _ => by kernel_rfl
  simp only [Tryz.ntmps43, List.size_toArray, List.length_cons, List.length_nil, Nat.reduceAdd, Nat.reduceSub, Array.replicate_succ, Array.replicate_zero, List.push_toArray, List.append_toArray, List.nil_append, List.cons_append]
  have c0 := h0.cell 0 rfl
  have c1 := h1.cell 0 rfl
  have c2 := h2.cell 0 rfl
  have f0 := h0.free 0
  have f1 := h1.free 0
  have f2 := h2.free 0
  have l0 := h0.lt
  have l1 := h1.lt
  have l2 := h2.lt
  apply wpS_seq
  apply wpS_region
  simp [wpOpsS, go_sem, recoverD, hu, Exit.thenS, hta]
  refine wpS_of_wp ?_
  go_wp2
  go_region
  all_goals go_wp2
  simp [bodyPostS, results, Tryz.results43, Exit.thenS, hu]
  exact ⟨((((h0.set 0 _).other (by simp <;> omega) _).other (by simp <;> omega) _).alloc _).drew.cast rfl,
    (((((h1.other (by simp <;> omega) _).set 0 _).other (by simp <;> omega) _).alloc _).drew).cast rfl,
    (((((h2.other (by simp <;> omega) _).other (by simp <;> omega) _).set 0 _).alloc _).drew).cast rfl,
    ((((((Below.refl b w).setCell (p := ⟨b, 0, none⟩) (Nat.le_refl _) _).setCell (p := ⟨b + 1, 0, none⟩) (by simp <;> omega) _).setCell (p := ⟨b + 1 + 1, 0, none⟩) (by simp <;> omega) _).alloc (by simp; omega) _).drew)⟩
/-- what Parse gives. -/
def ParseR (W : World) : Except (Nat × Int) (List Nd) → Ending → World → Prop
  | .error (q, er), e, W' => e = .returned (.tuple #[.slice none 0 0, .int .i64 (q : Int), .int .i64 er]) ∧ Below W.heap.size W W'
  | .ok ys, e, W' => (∃ v, e = .returned (.tuple #[v, .int .i64 0, .int .i64 0]) ∧ W'.ownsRow W.heap.size 45 9 v ys.length (ys.flatMap encN)) ∧ Below W.heap.size W W'
set_option maxRecDepth 100000 in
set_option maxHeartbeats 1000000 in
theorem parse_long (s : ByteArray) (W : World) (hs : 4000 < s.size) :
    Calls Tryz.prog 23 #[.string s] W (ParseR W (.error (0, 2))) := by
  have t1 : decide ((4000 : Int) < (s.size : Int)) = true := by simp; omega
  go_enter_defers Tryz.func23, Tryz.ntmps23
  go_wp2
  simp [bodyPostD, Leaves, settle, results, Tryz.results23, go_sem]
  exact ⟨rfl, by go_grown⟩
theorem KP.below {B b : Nat} {W W' : World} (h : KP B W W') (hb : b ≤ B) (hs : b ≤ W.heap.size) : Below b W W' :=
  ⟨h.os, h.tape, h.output, h.size, fun k hk => h.block k (by omega) (by omega) (fun hlt => by omega)⟩
theorem start_ps (W : World) (s : ByteArray) : PS ((((W.alloc (.cells #[.slice none 0 0] 23)).alloc (.cells #[.int .i64 0] 3)).alloc (.cells #[.int .i64 0] 27)).alloc (.cells #[.string s, .int .i64 0, .slice none 0 0] 75)) (W.heap.size + 3) s 0 (.slice none 0 0) [] :=
  ⟨Blk.alloc3 W _ _ _ _ _, World.ownsRow_nil _ _ _ _⟩
theorem start_below (W : World) (s : ByteArray) : Below W.heap.size W ((((W.alloc (.cells #[.slice none 0 0] 23)).alloc (.cells #[.int .i64 0] 3)).alloc (.cells #[.int .i64 0] 27)).alloc (.cells #[.string s, .int .i64 0, .slice none 0 0] 75)) := by go_grown
theorem start_blk {W W1 : World} {s : ByteArray} (hk : KP (W.heap.size + 3) ((((W.alloc (.cells #[.slice none 0 0] 23)).alloc (.cells #[.int .i64 0] 3)).alloc (.cells #[.int .i64 0] 27)).alloc (.cells #[.string s, .int .i64 0, .slice none 0 0] 75)) W1) :
    Blk W1 W.heap.size #[.slice none 0 0] 23 ∧ Blk W1 (W.heap.size + 1) #[.int .i64 0] 3 ∧ Blk W1 (W.heap.size + 1 + 1) #[.int .i64 0] 27 :=
  ⟨((((Blk.new W _ _).alloc _).alloc _).alloc _).keptP hk (by omega) (by decide), (((Blk.alloc1 W _ _ _ _ _).alloc _).alloc _).keptP hk (by omega) (by decide), ((Blk.alloc2 W _ _ _ _).alloc _).keptP hk (by omega) (by decide)⟩
set_option maxRecDepth 100000 in
set_option maxHeartbeats 1000000 in
theorem parse_any (s : ByteArray) (W : World) (hs : s.size ≤ 4000) (f : Nat) (r : Except (Nat × Int) (List Nd)) (hr : parseS (L s) f = some r) :
    Calls Tryz.prog 23 #[.string s] W (ParseR W r) := by
  have t1 : decide ((4000 : Int) < (s.size : Int)) = false := by simp; omega
  have hmf : ∀ (fn : Fn) (first cap : Array Value) (w : World), (Instr.makeFunc fn first cap).run Tryz.prog w = .ok (.func fn first cap) w := fun _ _ _ _ => rfl
  unfold parseS at hr
  rw [if_neg (by simp; omega)] at hr
  cases hx : altS (L s) f 0 [] with
  | out => rw [hx] at hr; cases hr
  | bad q er =>
    rw [hx] at hr
    obtain rfl := Option.some.inj hr
    have HA := Lib.hid (fun (W1 : World) (h1 : PS W1 (W.heap.size + 3) s 0 (.slice none 0 0) []) => alt_any hs f 0 [] (.slice none 0 0) W1 h1 (Nat.zero_le _) (by rw [hx]; intro e; cases e))
    rw [hx] at HA
    clear hx hr
    go_enter_defers Tryz.func23, Tryz.ntmps23
    go_wp2_with (first | (go_at_call 44; refine (HA.out _ (start_ps W s)).mono ?_; rintro e W1 ⟨rfl, hk1⟩))
    have hb := start_blk hk1
    refine leaves_cons (f := 43) (args := #[.pointer (some ⟨W.heap.size, 0, none⟩), .pointer (some ⟨W.heap.size + 1, 0, none⟩), .pointer (some ⟨W.heap.size + 1 + 1, 0, none⟩)]) (by simp) (by simp [go_sem]) ?_
    refine (catch_bad W.heap.size q er [] _ _ _ W1 hb.1 hb.2.1 hb.2.2).mono ?_
    rintro e u' w'' ⟨rfl, rfl, g0, g1, g2, hbw⟩
    have c0 := g0.cell 0 rfl
    have c1 := g1.cell 0 rfl
    have c2 := g2.cell 0 rfl
    simp [Leaves, settle, results, Tryz.results23, go_sem, c0, c1, c2]
    exact ⟨rfl, ((start_below W s).trans (hk1.below (by omega) (by simp; omega))).trans hbw⟩
  | ok l q ys =>
    rw [hx] at hr
    dsimp only at hr
    have HA := Lib.hid (fun (W1 : World) (h1 : PS W1 (W.heap.size + 3) s 0 (.slice none 0 0) []) => alt_any hs f 0 [] (.slice none 0 0) W1 h1 (Nat.zero_le _) (by rw [hx]; intro e; cases e))
    rw [hx] at HA
    clear hx
    by_cases hq : q < s.size
    · rw [if_pos (by simpa using hq)] at hr
      obtain rfl := Option.some.inj hr
      clear hr
      have t2 : decide ((q : Int) < (s.size : Int)) = true := by simp; omega
      go_enter_defers Tryz.func23, Tryz.ntmps23
      go_wp2_with (first | (go_at_call 44; refine (HA.out _ (start_ps W s)).mono ?_; rintro e W1 ⟨rfl, hq1, ⟨v1, h1⟩, hk1⟩; obtain ⟨vp, vc, rfl⟩ := own_shape h1.own; obtain ⟨a0, a1, a2, f0, f1, f2⟩ := h1.to_cells; have hb := start_blk hk1; have b0 := hb.1.cell 0 rfl; have b1 := hb.2.1.cell 0 rfl; have b2 := hb.2.2.cell 0 rfl; have g0 := hb.1.free 0; have g1 := hb.2.1.free 0; have g2 := hb.2.2.free 0; clear hb))
      have hb := start_blk hk1
      refine leaves_cons (f := 43) (args := #[.pointer (some ⟨W.heap.size, 0, none⟩), .pointer (some ⟨W.heap.size + 1, 0, none⟩), .pointer (some ⟨W.heap.size + 1 + 1, 0, none⟩)]) (by simp) (by simp [go_sem]) ?_
      refine (catch_bad W.heap.size q 20 [] _ _ _ W1 hb.1 hb.2.1 hb.2.2).mono ?_
      rintro e u' w'' ⟨rfl, rfl, g0, g1, g2, hbw⟩
      have c0 := g0.cell 0 rfl
      have c1 := g1.cell 0 rfl
      have c2 := g2.cell 0 rfl
      simp [Leaves, settle, results, Tryz.results23, go_sem, c0, c1, c2]
      exact ⟨rfl, ((start_below W s).trans (hk1.below (by omega) (by simp; omega))).trans hbw⟩
    · rw [if_neg (by simpa using hq)] at hr
      have t2 : decide ((q : Int) < (s.size : Int)) = false := by simp; omega
      by_cases hn : 200 < ys.length
      · rw [if_pos hn] at hr
        obtain rfl := Option.some.inj hr
        clear hr
        have t3 : decide ((200 : Int) < (ys.length : Int)) = true := by simp; omega
        go_enter_defers Tryz.func23, Tryz.ntmps23
        go_wp2_with (first | (go_at_call 44; refine (HA.out _ (start_ps W s)).mono ?_; rintro e W1 ⟨rfl, hq1, ⟨v1, h1⟩, hk1⟩; obtain ⟨vp, vc, rfl⟩ := own_shape h1.own; obtain ⟨a0, a1, a2, f0, f1, f2⟩ := h1.to_cells; have hb := start_blk hk1; have b0 := hb.1.cell 0 rfl; have b1 := hb.2.1.cell 0 rfl; have b2 := hb.2.2.cell 0 rfl; have g0 := hb.1.free 0; have g1 := hb.2.1.free 0; have g2 := hb.2.2.free 0; clear hb))
        have hb := start_blk hk1
        refine leaves_cons (f := 43) (args := #[.pointer (some ⟨W.heap.size, 0, none⟩), .pointer (some ⟨W.heap.size + 1, 0, none⟩), .pointer (some ⟨W.heap.size + 1 + 1, 0, none⟩)]) (by simp) (by simp [go_sem]) ?_
        refine (catch_bad W.heap.size s.size 2 [] _ _ _ W1 hb.1 hb.2.1 hb.2.2).mono ?_
        rintro e u' w'' ⟨rfl, rfl, g0, g1, g2, hbw⟩
        have c0 := g0.cell 0 rfl
        have c1 := g1.cell 0 rfl
        have c2 := g2.cell 0 rfl
        simp [Leaves, settle, results, Tryz.results23, go_sem, c0, c1, c2]
        exact ⟨rfl, ((start_below W s).trans (hk1.below (by omega) (by simp; omega))).trans hbw⟩
      · rw [if_neg hn] at hr
        obtain rfl := Option.some.inj hr
        clear hr
        have t3 : decide ((200 : Int) < (ys.length : Int)) = false := by simp; omega
        go_enter_defers Tryz.func23, Tryz.ntmps23
        go_wp2_with (first | (go_at_call 44; refine (HA.out _ (start_ps W s)).mono ?_; rintro e W1 ⟨rfl, hq1, ⟨v1, h1⟩, hk1⟩; obtain ⟨vp, vc, rfl⟩ := own_shape h1.own; obtain ⟨a0, a1, a2, f0, f1, f2⟩ := h1.to_cells; have hb := start_blk hk1; have b0 := hb.1.cell 0 rfl; have b1 := hb.2.1.cell 0 rfl; have b2 := hb.2.2.cell 0 rfl; have g0 := hb.1.free 0; have g1 := hb.2.1.free 0; have g2 := hb.2.2.free 0; clear hb))
        have hb := start_blk hk1
        have HO := Lib.hid h1.own
        have HBel := Lib.hid ((start_below W s).trans (hk1.below (b := W.heap.size) (by omega) (by simp; omega)))
        have e0 := ((((hb.1.set 0 (.slice vp ys.length vc)).other (a := ⟨W.heap.size + 1, 0, none⟩) (by simp) (.int .i64 0)).other (a := ⟨W.heap.size + 1 + 1, 0, none⟩) (by simp <;> omega) (.int .i64 0)).alloc (.cells #[.int .i64 0, .int .i64 0] 72)).cell 0 rfl
        have e1 := ((((hb.2.1.other (a := ⟨W.heap.size, 0, none⟩) (by simp) (.slice vp ys.length vc)).set 0 (.int .i64 0)).other (a := ⟨W.heap.size + 1 + 1, 0, none⟩) (by simp <;> omega) (.int .i64 0)).alloc (.cells #[.int .i64 0, .int .i64 0] 72)).cell 0 rfl
        have e2 := ((((hb.2.2.other (a := ⟨W.heap.size, 0, none⟩) (by simp <;> omega) (.slice vp ys.length vc)).other (a := ⟨W.heap.size + 1, 0, none⟩) (by simp <;> omega) (.int .i64 0)).set 0 (.int .i64 0)).alloc (.cells #[.int .i64 0, .int .i64 0] 72)).cell 0 rfl
        clear hb
        refine leaves_cons (f := 43) (args := #[.pointer (some ⟨W.heap.size, 0, none⟩), .pointer (some ⟨W.heap.size + 1, 0, none⟩), .pointer (some ⟨W.heap.size + 1 + 1, 0, none⟩)]) (by simp) (by simp [go_sem]) ?_
        refine (catch_idle _ _ _ _).mono ?_
        rintro e u' w'' ⟨rfl, rfl, rfl⟩
        simp [Leaves, settle, results, Tryz.results23, go_sem, e0, e1, e2, b0, b1, b2, g0, g1, g2]
        exact ⟨⟨_, rfl, own_mono (own_alloc (own_set (own_set (own_set HO.out (by simp <;> omega) _) (by simp <;> omega) _) (by simp <;> omega) _) _) (by omega)⟩,
          (((HBel.out.setCell (p := ⟨W.heap.size, 0, none⟩) (Nat.le_refl _) _).setCell (p := ⟨W.heap.size + 1, 0, none⟩) (by simp) _).setCell (p := ⟨W.heap.size + 1 + 1, 0, none⟩) (by simp <;> omega) _).alloc (by have := HBel.out.size; simpa using this) _⟩
end Go.Proofs.YtgbbjobmcbdhdaaGreatDoor
