/-
  Texts of the proof, one behind another: Pi, Pj.
-/
import Derived.Test.YtgbkjgfiofncdaaGreatDoorYaj
set_option linter.unusedSimpArgs false
set_option linter.unusedVariables false
/-
  Walks: the parser's groups and atoms.
-/
namespace Go.Proofs.YtgbkjgfiofncdaaGreatDoor
open Go.RowKit

theorem putS_in {n : Nd} {p : Nat} {xs : List Nd} (h : putS n p xs ≠ .out) : xs.length < 1000000 ∧ putS n p xs = .ok xs.length p (xs ++ [n]) := by
  unfold putS at h ⊢
  split at h
  · rename_i hl; exact ⟨hl, by rw [if_pos hl]⟩
  · exact absurd rfl h
set_option maxRecDepth 100000 in
theorem add_lit {s : ByteArray} {p B : Nat} {v : Value} {xs : List Nd} {W : World} (k l r mn mx : Int) (h : PS W B s p v xs) (hle : p ≤ s.size) (ho : putS ⟨k, 0, l, r, mn, mx⟩ p xs ≠ .out) :
    Calls Tryz.prog 94 #[.pointer (some ⟨B, 0, none⟩), .agg #[.int .i64 k, .int .u64 0, .int .u64 0, .int .u64 0, .int .u64 0, .int .i64 l, .int .i64 r, .int .i64 mn, .int .i64 mx]] W (PostN B s W (putS ⟨k, 0, l, r, mn, mx⟩ p xs)) := by
  have e : Value.agg #[.int .i64 k, .int .u64 0, .int .u64 0, .int .u64 0, .int .u64 0, .int .i64 l, .int .i64 r, .int .i64 mn, .int .i64 mx] = valN ⟨k, 0, l, r, mn, mx⟩ := by
    show _ = Value.agg #[.int .i64 k, .int .u64 (wd 0 0), .int .u64 (wd 0 1), .int .u64 (wd 0 2), .int .u64 (wd 0 3), .int .i64 l, .int .i64 r, .int .i64 mn, .int .i64 mx]
    rw [wd_zero, wd_zero, wd_zero, wd_zero]
  rw [(putS_in ho).2, e]
  exact add_any ⟨k, 0, l, r, mn, mx⟩ h hle (putS_in ho).1
theorem add_cls {s : ByteArray} {p B : Nat} {v : Value} {xs : List Nd} {W : World} (c : BitVec 256) (h : PS W B s p v xs) (hle : p ≤ s.size) (ho : putS (clsNd c) p xs ≠ .out) :
    Calls Tryz.prog 94 #[.pointer (some ⟨B, 0, none⟩), .agg #[.int .i64 3, .int .u64 (wd c 0), .int .u64 (wd c 1), .int .u64 (wd c 2), .int .u64 (wd c 3), .int .i64 0, .int .i64 0, .int .i64 0, .int .i64 0]] W (PostN B s W (putS (clsNd c) p xs)) := by
  rw [(putS_in ho).2]
  exact add_any (clsNd c) h hle (putS_in ho).1
/-- what a part with nodes is read by. -/
def ReadC (f : FuncId) (s : ByteArray) (B : Nat) (g : Nat → List Nd → PR) : Prop :=
  ∀ p xs v W, PS W B s p v xs → p ≤ s.size → g p xs ≠ .out → Calls Tryz.prog f #[.pointer (some ⟨B, 0, none⟩)] W (PostN B s W (g p xs))
theorem PostN.ok_ {B : Nat} {s : ByteArray} {W : World} {r : PR} {l q : Nat} {ys : List Nd} (hr : r = .ok l q ys) {e : Ending} {W' : World} (h : PostN B s W r e W') : e = .returned (.int .i64 (l : Int)) ∧ q ≤ s.size ∧ (∃ v', PS W' B s q v' ys) ∧ KP B W W' := by subst hr; exact h

set_option maxRecDepth 100000 in
set_option maxHeartbeats 4000000 in
theorem group_any {s : ByteArray} {B : Nat} {alt : Nat → List Nd → PR} (hs : s.size ≤ 4000) (ha : ReadC 44 s B alt) : ReadC 151 s B (groupS (L s) alt) := by
  intro p xs v W h hle hne
  have HA := Lib.hid ha
  clear ha
  unfold groupS at hne ⊢
  by_cases hT : (L s)[p]? = some 41
  · rw [if_pos hT] at hne ⊢
    have HT := Lib.hid (take_yes 41 rfl h hs hT)
    have hp1 : p + 1 ≤ s.size := (at_some hT).1
    clear hT
    have HP := Lib.hid (fun W1 (h1 : PS W1 B s (p + 1) v xs) => add_lit 2 0 0 0 0 h1 hp1 hne)
    rw [(putS_in hne).2] at HP ⊢
    clear hne
    go_enter Tryz.func151, Tryz.ntmps151
    go_wp2_with (first | (go_at_call 67; refine HT.out.mono ?_; rintro e W1 ⟨rfl, hq1, h1, hk1⟩) | (go_at_call 94; refine (HP.out _ h1).mono ?_; rintro e W2 ⟨rfl, hq2, ⟨v2, h2⟩, hk2⟩))
    go_ret
    exact ⟨rfl, hq2, ⟨v2, h2⟩, hk1.trans hk2⟩
  · rw [if_neg hT] at hne ⊢
    have HT := Lib.hid (take_no 41 rfl h hs hle hT)
    clear hT
    have hne2 : alt p xs ≠ .out := by intro e; rw [e] at hne; exact hne rfl
    have HB := Lib.hid (fun W1 (h1 : PS W1 B s p v xs) => HA.out p xs v W1 h1 hle hne2)
    clear hne2
    cases hx : alt p xs with
    | out => rw [hx] at hne; exact absurd rfl hne
    | bad q er =>
      rw [hx] at HB
      clear hne hx
      go_enter Tryz.func151, Tryz.ntmps151
      go_wp2_with (first | (go_at_call 67; refine HT.out.mono ?_; rintro e W1 ⟨rfl, h1, hk1⟩) | (go_at_call 44; refine (HB.out _ h1).mono ?_; rintro e W2 ⟨rfl, hk2⟩))
      exact ⟨rfl, rfl, hk1.trans hk2⟩
    | ok l q ys =>
      rw [hx] at HB
      clear hne hx
      dsimp only
      have HE := Lib.hid (fun W1 v1 (hq : q ≤ s.size) (h1 : PS W1 B s q v1 ys) => expect_any 41 41 rfl h1 hs hq)
      cases hE : expectS (L s) 41 q with
      | bad q2 er =>
        rw [hE] at HE
        clear hE
        go_enter Tryz.func151, Tryz.ntmps151
        go_wp2_with (first | (go_at_call 67; refine HT.out.mono ?_; rintro e W1 ⟨rfl, h1, hk1⟩) | (go_at_call 44; refine (HB.out _ h1).mono ?_; rintro e W2 ⟨rfl, hq2, ⟨v2, h2⟩, hk2⟩) | (go_at_call 176; refine (HE.out _ _ hq2 h2).mono ?_; rintro e W3 ⟨rfl, hk3⟩))
        exact ⟨rfl, rfl, (hk1.trans hk2).trans hk3⟩
      | ok u q2 =>
        rw [hE] at HE
        clear hE
        go_enter Tryz.func151, Tryz.ntmps151
        go_wp2_with (first | (go_at_call 67; refine HT.out.mono ?_; rintro e W1 ⟨rfl, h1, hk1⟩) | (go_at_call 44; refine (HB.out _ h1).mono ?_; rintro e W2 ⟨rfl, hq2, ⟨v2, h2⟩, hk2⟩) | (go_at_call 176; refine (HE.out _ _ hq2 h2).mono ?_; rintro e W3 ⟨rfl, hq3, h3, hk3⟩))
        go_ret
        exact ⟨rfl, hq3, ⟨v2, h3⟩, (hk1.trans hk2).trans hk3⟩
end Go.Proofs.YtgbkjgfiofncdaaGreatDoor

/-
  Walks: the parser's atoms.
-/
namespace Go.Proofs.YtgbkjgfiofncdaaGreatDoor
open Go.RowKit

theorem range_all (W : World) : Calls Tryz.prog 150 #[.int .u8 0, .int .u8 255] W fun e w' => e = .returned (.agg #[.int .u64 (wd (rngQ 0 256) 0), .int .u64 (wd (rngQ 0 256) 1), .int .u64 (wd (rngQ 0 256) 2), .int .u64 (wd (rngQ 0 256) 3)]) ∧ Below W.heap.size W w' :=
  range_any 0 255 W (by omega) (by omega) (by omega) (by omega)
theorem classLoop_ok {s : ByteArray} : ∀ {f : Nat} {c d : BitVec 256} {p q : Nat}, p ≤ s.size → classLoop (L s) f c p = some (.ok d q) → q ≤ s.size
  | 0, _, _, _, _, _, h => by cases h
  | f + 1, c, d, p, q, hp, h => by
    rw [classLoop] at h
    split at h
    · rename_i hb
      simp only [Option.some.injEq, LR.ok.injEq] at h
      obtain ⟨hlt, -⟩ := at_some hb
      omega
    · split at h
      · simp at h
      · rename_i e q2 he
        exact classLoop_ok (pairS_ok he).2 h
theorem classS_ok {s : ByteArray} {f : Nat} {c : BitVec 256} {p q : Nat} (hp : p ≤ s.size) (h : classS (L s) f p = some (.ok c q)) : q ≤ s.size := by
  unfold classS at h
  split at h
  · rename_i hb
    obtain ⟨hlt, -⟩ := at_some hb
    split at h
    · rename_i d q2 hd
      simp only [Option.some.injEq, LR.ok.injEq] at h
      have := classLoop_ok hlt hd
      omega
    · rename_i hno
      exact absurd h (hno _ _)
  · exact classLoop_ok hp h

set_option maxRecDepth 100000 in
set_option maxHeartbeats 4000000 in
theorem atom_any {s : ByteArray} {B f : Nat} {alt : Nat → List Nd → PR} (hs : s.size ≤ 4000) (ha : ReadC 44 s B alt) : ReadC 133 s B (atomS (L s) alt f) := by
  intro p xs v W h hle hne
  have HG := Lib.hid (group_any hs ha)
  clear ha
  unfold atomS at hne ⊢
  by_cases h1 : (L s)[p]? = some 46
  · rw [if_pos h1] at hne ⊢
    have HT := Lib.hid (take_yes 46 rfl h hs h1)
    have hp1 : p + 1 ≤ s.size := (at_some h1).1
    clear h1
    have HP := Lib.hid (fun W1 (h1 : PS W1 B s (p + 1) v xs) => add_cls (rngQ 0 256) h1 hp1 hne)
    rw [(putS_in hne).2] at HP ⊢
    clear hne
    go_enter Tryz.func133, Tryz.ntmps133
    go_wp2_with (first | (go_at_call 67; refine HT.out.mono ?_; rintro e W1 ⟨rfl, hq1, h1, hk1⟩) | (go_at_call 150; refine (range_all _).mono ?_; rintro e W2 ⟨rfl, hb2⟩) | (go_at_call 94; refine (HP.out _ (h1.grows hb2)).mono ?_; rintro e W3 ⟨rfl, hq3, ⟨v3, h3⟩, hk3⟩))
    go_ret
    exact ⟨rfl, hq3, ⟨v3, h3⟩, (hk1.trans (KP.of_below hb2)).trans hk3⟩
  rw [if_neg h1] at hne ⊢
  have HA := Lib.hid (take_no 46 rfl h hs hle h1)
  clear h1
  by_cases h2 : (L s)[p]? = some 33
  · rw [if_pos h2] at hne ⊢
    have HB := Lib.hid (fun W1 (h1 : PS W1 B s p v xs) => take_yes 33 rfl h1 hs h2)
    have hp1 : p + 1 ≤ s.size := (at_some h2).1
    clear h2
    have HP := Lib.hid (fun W1 (h1 : PS W1 B s (p + 1) v xs) => add_lit 1 0 0 0 0 h1 hp1 hne)
    rw [(putS_in hne).2] at HP ⊢
    clear hne
    go_enter Tryz.func133, Tryz.ntmps133
    go_wp2_with (first | (go_at_call 67; refine HA.out.mono ?_; clear HA; rintro e W1 ⟨rfl, h1, hk1⟩) | (go_at_call 67; refine (HB.out _ h1).mono ?_; clear HB; rintro e W2 ⟨rfl, hq2, h2, hk2⟩) | (go_at_call 94; refine (HP.out _ h2).mono ?_; rintro e W3 ⟨rfl, hq3, ⟨v3, h3⟩, hk3⟩))
    go_ret
    exact ⟨rfl, hq3, ⟨v3, h3⟩, (hk1.trans hk2).trans hk3⟩
  rw [if_neg h2] at hne ⊢
  have HB := Lib.hid (fun W1 (h1 : PS W1 B s p v xs) => take_no 33 rfl h1 hs hle h2)
  clear h2
  by_cases h3 : (L s)[p]? = some 40
  · rw [if_pos h3] at hne ⊢
    have HC := Lib.hid (fun W1 (h1 : PS W1 B s p v xs) => take_yes 40 rfl h1 hs h3)
    have hp1 : p + 1 ≤ s.size := (at_some h3).1
    clear h3
    have HP := Lib.hid (fun W1 (h1 : PS W1 B s (p + 1) v xs) => HG.out (p + 1) xs v W1 h1 hp1 hne)
    cases hx : groupS (L s) alt (p + 1) xs with
    | out => rw [hx] at hne; exact absurd rfl hne
    | bad q er =>
      rw [hx] at HP
      clear hne hx
      go_enter Tryz.func133, Tryz.ntmps133
      go_wp2_with (first | (go_at_call 67; refine HA.out.mono ?_; clear HA; rintro e W1 ⟨rfl, h1, hk1⟩) | (go_at_call 67; refine (HB.out _ h1).mono ?_; clear HB; rintro e W2 ⟨rfl, h2, hk2⟩) | (go_at_call 67; refine (HC.out _ h2).mono ?_; clear HC; rintro e W3 ⟨rfl, hq3, h3, hk3⟩) | (go_at_call 151; refine (HP.out _ h3).mono ?_; rintro e W4 ⟨rfl, hk4⟩))
      exact ⟨rfl, rfl, ((hk1.trans hk2).trans hk3).trans hk4⟩
    | ok l q ys =>
      rw [hx] at HP
      clear hne hx
      go_enter Tryz.func133, Tryz.ntmps133
      go_wp2_with (first | (go_at_call 67; refine HA.out.mono ?_; clear HA; rintro e W1 ⟨rfl, h1, hk1⟩) | (go_at_call 67; refine (HB.out _ h1).mono ?_; clear HB; rintro e W2 ⟨rfl, h2, hk2⟩) | (go_at_call 67; refine (HC.out _ h2).mono ?_; clear HC; rintro e W3 ⟨rfl, hq3, h3, hk3⟩) | (go_at_call 151; refine (HP.out _ h3).mono ?_; rintro e W4 ⟨rfl, hq4, ⟨v4, h4⟩, hk4⟩))
      go_ret
      exact ⟨rfl, hq4, ⟨v4, h4⟩, ((hk1.trans hk2).trans hk3).trans hk4⟩
  rw [if_neg h3] at hne ⊢
  have HC := Lib.hid (fun W1 (h1 : PS W1 B s p v xs) => take_no 40 rfl h1 hs hle h3)
  clear h3 HG
  by_cases h4 : (L s)[p]? = some 91
  · rw [if_pos h4] at hne ⊢
    have HD := Lib.hid (fun W1 (h1 : PS W1 B s p v xs) => take_yes 91 rfl h1 hs h4)
    have hp1 : p + 1 ≤ s.size := (at_some h4).1
    clear h4
    cases hx : classS (L s) f (p + 1) with
    | none => rw [hx] at hne; exact absurd rfl hne
    | some r =>
      have HP := Lib.hid (fun W1 (h1 : PS W1 B s (p + 1) v xs) => class_any h1 hs hp1 hx)
      rw [hx] at hne
      cases r with
      | bad q er =>
        clear hne hx
        dsimp only
        go_enter Tryz.func133, Tryz.ntmps133
        go_wp2_with (first | (go_at_call 67; refine HA.out.mono ?_; clear HA; rintro e W1 ⟨rfl, h1, hk1⟩) | (go_at_call 67; refine (HB.out _ h1).mono ?_; clear HB; rintro e W2 ⟨rfl, h2, hk2⟩) | (go_at_call 67; refine (HC.out _ h2).mono ?_; clear HC; rintro e W3 ⟨rfl, h3, hk3⟩) | (go_at_call 67; refine (HD.out _ h3).mono ?_; clear HD; rintro e W4 ⟨rfl, hq4, h4, hk4⟩) | (go_at_call 152; refine (HP.out _ h4).mono ?_; rintro e W5 ⟨rfl, hk5⟩))
        exact ⟨rfl, rfl, (((hk1.trans hk2).trans hk3).trans hk4).trans hk5⟩
      | ok c q =>
        have hq := classS_ok hp1 hx
        clear hx
        dsimp only at hne ⊢
        have HQ := Lib.hid (fun W1 (h1 : PS W1 B s q v xs) => add_cls c h1 hq hne)
        rw [(putS_in hne).2] at HQ ⊢
        clear hne
        go_enter Tryz.func133, Tryz.ntmps133
        go_wp2_with (first | (go_at_call 67; refine HA.out.mono ?_; clear HA; rintro e W1 ⟨rfl, h1, hk1⟩) | (go_at_call 67; refine (HB.out _ h1).mono ?_; clear HB; rintro e W2 ⟨rfl, h2, hk2⟩) | (go_at_call 67; refine (HC.out _ h2).mono ?_; clear HC; rintro e W3 ⟨rfl, h3, hk3⟩) | (go_at_call 67; refine (HD.out _ h3).mono ?_; clear HD; rintro e W4 ⟨rfl, hq4, h4, hk4⟩) | (go_at_call 152; refine (HP.out _ h4).mono ?_; rintro e W5 ⟨rfl, hq5, h5, hk5⟩) | (go_at_call 94; refine (HQ.out _ h5).mono ?_; rintro e W6 ⟨rfl, hq6, ⟨v6, h6⟩, hk6⟩))
        go_ret
        exact ⟨rfl, hq6, ⟨v6, h6⟩, ((((hk1.trans hk2).trans hk3).trans hk4).trans hk5).trans hk6⟩
  rw [if_neg h4] at hne ⊢
  have HD := Lib.hid (fun W1 (h1 : PS W1 B s p v xs) => take_no 91 rfl h1 hs hle h4)
  clear h4
  have HP := Lib.hid (fun W1 (h1 : PS W1 B s p v xs) => char_any h1 hs hle)
  cases hx : charS (L s) p with
  | bad q er =>
    rw [hx] at HP
    clear hne hx
    go_enter Tryz.func133, Tryz.ntmps133
    go_wp2_with (first | (go_at_call 67; refine HA.out.mono ?_; clear HA; rintro e W1 ⟨rfl, h1, hk1⟩) | (go_at_call 67; refine (HB.out _ h1).mono ?_; clear HB; rintro e W2 ⟨rfl, h2, hk2⟩) | (go_at_call 67; refine (HC.out _ h2).mono ?_; clear HC; rintro e W3 ⟨rfl, h3, hk3⟩) | (go_at_call 67; refine (HD.out _ h3).mono ?_; clear HD; rintro e W4 ⟨rfl, h4, hk4⟩) | (go_at_call 154; refine (HP.out _ h4).mono ?_; rintro e W5 ⟨rfl, hk5⟩))
    exact ⟨rfl, rfl, (((hk1.trans hk2).trans hk3).trans hk4).trans hk5⟩
  | ok y q =>
    rw [hx] at HP hne
    obtain ⟨hy, hq⟩ := charS_ok hx
    clear hx
    dsimp only at hne ⊢
    have HQ := Lib.hid (fun W1 (h1 : PS W1 B s q v xs) => add_cls (ofQ [(y : Int)]) h1 hq hne)
    rw [(putS_in hne).2] at HQ ⊢
    clear hne
    go_enter Tryz.func133, Tryz.ntmps133
    go_wp2_with (first | (go_at_call 67; refine HA.out.mono ?_; clear HA; rintro e W1 ⟨rfl, h1, hk1⟩) | (go_at_call 67; refine (HB.out _ h1).mono ?_; clear HB; rintro e W2 ⟨rfl, h2, hk2⟩) | (go_at_call 67; refine (HC.out _ h2).mono ?_; clear HC; rintro e W3 ⟨rfl, h3, hk3⟩) | (go_at_call 67; refine (HD.out _ h3).mono ?_; clear HD; rintro e W4 ⟨rfl, h4, hk4⟩) | (go_at_call 154; refine (HP.out _ h4).mono ?_; rintro e W5 ⟨rfl, hq5, h5, hk5⟩) | (go_at_call 153; refine (of_one y hy _ _ _ _ ?_ ?_).mono ?_; rfl; rfl; rintro e W6 ⟨rfl, hb6⟩) | (go_at_call 94; refine (HQ.out _ ((h5.alloc _).grows hb6)).mono ?_; rintro e W7 ⟨rfl, hq7, ⟨v7, h7⟩, hk7⟩))
    go_ret
    exact ⟨rfl, hq7, ⟨v7, h7⟩, (((((hk1.trans hk2).trans hk3).trans hk4).trans hk5).alloc _).trans ((KP.of_below hb6).trans hk7)⟩
end Go.Proofs.YtgbkjgfiofncdaaGreatDoor
