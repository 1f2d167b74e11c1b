/-
  Texts of the proof, one behind another: Pc, Pd, Pe.
-/
import Derived.Test.YtgbbjobmcbdhdaaGreatDoorYae
set_option linter.unusedSimpArgs false
set_option linter.unusedVariables false
/-
  Walks: the parser's readers of bytes of a kind, chars.
-/
namespace Go.Proofs.YtgbbjobmcbdhdaaGreatDoor
open Go.RowKit

theorem PS.to_cells {W : World} {B : Nat} {s : ByteArray} {a : Nat} {v : Value} {xs : List Nd} (h : PS W B s a v xs) :
    W.cell? ⟨B, 0, none⟩ = some (.string s) ∧ W.cell? ⟨B, 1, none⟩ = some (.int .i64 (a : Int)) ∧ W.cell? ⟨B, 2, none⟩ = some v ∧
    W.frozen? ⟨B, 0, none⟩ = false ∧ W.frozen? ⟨B, 1, none⟩ = false ∧ W.frozen? ⟨B, 2, none⟩ = false := h.is.three

set_option maxHeartbeats 400000 in
theorem expect_any {s : ByteArray} {p B : Nat} {v : Value} {xs : List Nd} {W : World} (c : UInt8) (cI : Int) (hI : cI = (c.toNat : Int)) (h : PS W B s p v xs) (hs : s.size ≤ 4000) (hle : p ≤ s.size) :
    Calls Tryz.prog 176 #[.pointer (some ⟨B, 0, none⟩), .int .u8 cI] W (PostL (fun _ => .tuple #[]) B s v xs W (expectS (L s) c p)) := by
  subst hI
  rcases Nat.lt_or_ge p s.size with hlt | hge
  · by_cases hy : s[p] = c
    · have hx : expectS (L s) c p = .ok () (p + 1) := by unfold expectS; rw [at_str hlt]; simp [hy]
      rw [hx]
      have e2 : ((s[p].toNat : Int) != (c.toNat : Int)) = false := by rw [hy]; simp
      clear hy
      go_enter Tryz.func176, Tryz.ntmps176
      go_wp2_with (go_at_call 180; refine (next_ok h hs hlt).mono ?_; rintro e W1 ⟨rfl, hq, h1, hk1⟩)
      first | go_end0 | skip
      exact ⟨rfl, hq, h1, hk1⟩
    · have hx : expectS (L s) c p = .bad p 20 := by unfold expectS; rw [at_str hlt]; simp [hy]
      rw [hx]
      have e2 : ((s[p].toNat : Int) != (c.toNat : Int)) = true := by
        rw [bne_iff_ne]; intro e; exact hy (UInt8.toNat.inj (by omega))
      clear hy
      go_enter Tryz.func176, Tryz.ntmps176
      go_wp2_with (first | (go_at_call 180; refine (next_ok h hs hlt).mono ?_; rintro e W1 ⟨rfl, hq, h1, hk1⟩) | (go_at_call 182; refine (refuse_any h1 hs hlt).mono ?_; rintro e W2 ⟨rfl, hk2⟩))
      exact ⟨rfl, rfl, hk1.trans hk2⟩
  · obtain rfl : p = s.size := by omega
    have hx : expectS (L s) c s.size = .bad s.size 21 := by unfold expectS; rw [at_none (Nat.le_refl _)]
    rw [hx]
    go_enter Tryz.func176, Tryz.ntmps176
    go_wp2_with (go_at_call 180; refine (next_end h hs rfl).mono ?_; rintro e W1 ⟨rfl, hk1⟩)
    exact ⟨rfl, rfl, hk1⟩
theorem hexV_lt {y : UInt8} {v : Nat} (h : hexV y = some v) : v < 16 := by
  have hy := y.toNat_lt
  unfold hexV digitB at h
  simp only [Bool.and_eq_true, decide_eq_true_eq, UInt8.le_iff_toNat_le] at h
  have e1 : (48 : UInt8).toNat = 48 := rfl
  have e2 : (57 : UInt8).toNat = 57 := rfl
  have e3 : (97 : UInt8).toNat = 97 := rfl
  have e4 : (102 : UInt8).toNat = 102 := rfl
  have e5 : (65 : UInt8).toNat = 65 := rfl
  have e6 : (70 : UInt8).toNat = 70 := rfl
  rw [e1, e2, e3, e4, e5, e6] at h
  split at h
  · cases h; omega
  · split at h
    · cases h; omega
    · split at h
      · cases h; omega
      · cases h
theorem digitB_iff (y : UInt8) : digitB y = (decide (48 ≤ y.toNat) && decide (y.toNat ≤ 57)) := by simp [digitB, UInt8.le_iff_toNat_le]
set_option maxHeartbeats 1000000 in
theorem hex_any {s : ByteArray} {p B : Nat} {v : Value} {xs : List Nd} {W : World} (h : PS W B s p v xs) (hs : s.size ≤ 4000) (hle : p ≤ s.size) :
    Calls Tryz.prog 181 #[.pointer (some ⟨B, 0, none⟩)] W (PostL (fun (n : Nat) => .int .u8 (n : Int)) B s v xs W (hexS (L s) p)) := by
  rcases Nat.lt_or_ge p s.size with hlt | hge
  · have hx : hexS (L s) p = match hexV s[p] with | some v => .ok v (p + 1) | none => .bad p 20 := by unfold hexS; rw [at_str hlt]; rfl
    rw [hx]
    clear hx
    have HN := Lib.hid (next_ok h hs hlt)
    generalize s[p] = y at HN
    have hy := y.toNat_lt
    by_cases d1 : 48 ≤ y.toNat ∧ y.toNat ≤ 57
    · have hd : digitB y = true := by rw [digitB_iff]; simp [d1]
      have hv : hexV y = some (y.toNat - 48) := by unfold hexV; rw [hd]; rfl
      rw [hv]
      have e1 : IntKind.u8.wrap ((y.toNat : Int) - 48) = ((y.toNat - 48 : Nat) : Int) := by rw [IntKind.wrap_u8]; omega
      have HD := Lib.hid (fun W => hd ▸ digit_any y W)
      clear hd hv
      go_enter Tryz.func181, Tryz.ntmps181
      go_wp2_with (first | (go_at_call 180; refine HN.out.mono ?_; rintro e W1 ⟨rfl, hq, h1, hk1⟩) | (go_at_call 193; refine (HD.out _).mono ?_; rintro e W2 ⟨rfl, rfl⟩))
      go_ret
      exact ⟨rfl, hq, h1, hk1⟩
    have hd : digitB y = false := by rw [digitB_iff]; simp; omega
    have HD := Lib.hid (fun W => hd ▸ digit_any y W)
    by_cases d2 : 97 ≤ y.toNat ∧ y.toNat ≤ 102
    · have hv : hexV y = some (y.toNat - 87) := by
        unfold hexV; rw [hd, if_neg (by simp), if_pos (by simpa [UInt8.le_iff_toNat_le] using d2)]
      rw [hv]
      have e0 : decide ((97 : Int) ≤ (y.toNat : Int)) = true := by simp; omega
      have e00 : decide ((y.toNat : Int) ≤ 102) = true := by simp; omega
      have e1 : IntKind.u8.wrap ((y.toNat : Int) - 97) = ((y.toNat : Int) - 97) := by rw [IntKind.wrap_u8]; omega
      have e2 : IntKind.u8.wrap ((y.toNat : Int) - 97 + 10) = ((y.toNat - 87 : Nat) : Int) := by rw [IntKind.wrap_u8]; omega
      clear hd hv
      go_enter Tryz.func181, Tryz.ntmps181
      go_wp2_with (first | (go_at_call 180; refine HN.out.mono ?_; rintro e W1 ⟨rfl, hq, h1, hk1⟩) | (go_at_call 193; refine (HD.out _).mono ?_; rintro e W2 ⟨rfl, rfl⟩) | (go_at_call 182; refine (refuse_any h1 hs hlt).mono ?_; rintro e W3 ⟨rfl, hk2⟩))
      go_ret
      exact ⟨rfl, hq, h1, hk1⟩
    by_cases d3 : 65 ≤ y.toNat ∧ y.toNat ≤ 70
    · have hv : hexV y = some (y.toNat - 55) := by
        unfold hexV; rw [hd, if_neg (by simp), if_neg (by simp [UInt8.le_iff_toNat_le]; omega), if_pos (by simpa [UInt8.le_iff_toNat_le] using d3)]
      rw [hv]
      have e0 : decide ((97 : Int) ≤ (y.toNat : Int)) = false := by simp; omega
      have e00 : decide ((65 : Int) ≤ (y.toNat : Int)) = true := by simp; omega
      have e000 : decide ((y.toNat : Int) ≤ 70) = true := by simp; omega
      have e1 : IntKind.u8.wrap ((y.toNat : Int) - 65) = ((y.toNat : Int) - 65) := by rw [IntKind.wrap_u8]; omega
      have e2 : IntKind.u8.wrap ((y.toNat : Int) - 65 + 10) = ((y.toNat - 55 : Nat) : Int) := by rw [IntKind.wrap_u8]; omega
      clear hd hv
      go_enter Tryz.func181, Tryz.ntmps181
      go_wp2_with (first | (go_at_call 180; refine HN.out.mono ?_; rintro e W1 ⟨rfl, hq, h1, hk1⟩) | (go_at_call 193; refine (HD.out _).mono ?_; rintro e W2 ⟨rfl, rfl⟩) | (go_at_call 182; refine (refuse_any h1 hs hlt).mono ?_; rintro e W3 ⟨rfl, hk2⟩))
      go_ret
      exact ⟨rfl, hq, h1, hk1⟩
    have hv : hexV y = none := by
      unfold hexV; rw [hd, if_neg (by simp), if_neg (by simp [UInt8.le_iff_toNat_le]; omega), if_neg (by simp [UInt8.le_iff_toNat_le]; omega)]
    rw [hv]
    clear hd hv
    by_cases k1 : 97 ≤ y.toNat
    · have e0 : decide ((97 : Int) ≤ (y.toNat : Int)) = true := by simp; omega
      have e1 : decide ((y.toNat : Int) ≤ 102) = false := by simp; omega
      have e2 : decide ((65 : Int) ≤ (y.toNat : Int)) = true := by simp; omega
      have e3 : decide ((y.toNat : Int) ≤ 70) = false := by simp; omega
      go_enter Tryz.func181, Tryz.ntmps181
      go_wp2_with (first | (go_at_call 180; refine HN.out.mono ?_; rintro e W1 ⟨rfl, hq, h1, hk1⟩) | (go_at_call 193; refine (HD.out _).mono ?_; rintro e W2 ⟨rfl, rfl⟩) | (go_at_call 182; refine (refuse_any h1 hs hlt).mono ?_; rintro e W3 ⟨rfl, hk2⟩))
      exact ⟨rfl, rfl, hk1.trans hk2⟩
    · have e0 : decide ((97 : Int) ≤ (y.toNat : Int)) = false := by simp; omega
      by_cases k2 : 65 ≤ y.toNat
      · have e2 : decide ((65 : Int) ≤ (y.toNat : Int)) = true := by simp; omega
        have e3 : decide ((y.toNat : Int) ≤ 70) = false := by simp; omega
        go_enter Tryz.func181, Tryz.ntmps181
        go_wp2_with (first | (go_at_call 180; refine HN.out.mono ?_; rintro e W1 ⟨rfl, hq, h1, hk1⟩) | (go_at_call 193; refine (HD.out _).mono ?_; rintro e W2 ⟨rfl, rfl⟩) | (go_at_call 182; refine (refuse_any h1 hs hlt).mono ?_; rintro e W3 ⟨rfl, hk2⟩))
        exact ⟨rfl, rfl, hk1.trans hk2⟩
      · have e2 : decide ((65 : Int) ≤ (y.toNat : Int)) = false := by simp; omega
        go_enter Tryz.func181, Tryz.ntmps181
        go_wp2_with (first | (go_at_call 180; refine HN.out.mono ?_; rintro e W1 ⟨rfl, hq, h1, hk1⟩) | (go_at_call 193; refine (HD.out _).mono ?_; rintro e W2 ⟨rfl, rfl⟩) | (go_at_call 182; refine (refuse_any h1 hs hlt).mono ?_; rintro e W3 ⟨rfl, hk2⟩))
        exact ⟨rfl, rfl, hk1.trans hk2⟩
  · obtain rfl : p = s.size := by omega
    have hx : hexS (L s) s.size = .bad s.size 21 := by unfold hexS; rw [at_none (Nat.le_refl _)]
    rw [hx]
    go_enter Tryz.func181, Tryz.ntmps181
    go_wp2_with (go_at_call 180; refine (next_end h hs rfl).mono ?_; rintro e W1 ⟨rfl, hk1⟩)
    exact ⟨rfl, rfl, hk1⟩
theorem or_hex : ∀ a b : Fin 16, bits BinOp.or .u8 (((a.val : Nat) : Int) * 16) ((b.val : Nat) : Int) = ((16 * a.val + b.val : Nat) : Int) := by decide +kernel
theorem hexS_ok {s : ByteArray} {p n q : Nat} (h : hexS (L s) p = .ok n q) : n < 16 ∧ q ≤ s.size := by
  unfold hexS at h
  split at h
  · cases h
  · rename_i y hy
    obtain ⟨hlt, -⟩ := at_some hy
    split at h
    · rename_i v hv
      cases h
      exact ⟨hexV_lt hv, hlt⟩
    · cases h
set_option maxHeartbeats 2000000 in
theorem char_any {s : ByteArray} {p B : Nat} {v : Value} {xs : List Nd} {W : World} (h : PS W B s p v xs) (hs : s.size ≤ 4000) (hle : p ≤ s.size) :
    Calls Tryz.prog 154 #[.pointer (some ⟨B, 0, none⟩)] W (PostL (fun (n : Nat) => .int .u8 (n : Int)) B s v xs W (charS (L s) p)) := by
  rcases Nat.lt_or_ge p s.size with hlt | hge
  · have HN := Lib.hid (next_ok h hs hlt)
    by_cases h92 : s[p] = 92
    · have hx : charS (L s) p = match expectS (L s) 120 (p + 1) with
          | .bad q er => .bad q er
          | .ok _ q => match hexS (L s) q with
            | .bad q er => .bad q er
            | .ok h q => match hexS (L s) q with
              | .bad q er => .bad q er
              | .ok l q => .ok (16 * h + l) q := by unfold charS; rw [at_str hlt]; simp only [h92, if_true]; rfl
      rw [hx]
      clear hx
      rw [h92] at HN
      have e92 : (((92 : UInt8).toNat : Int) == 92) = true := by decide
      cases hE : expectS (L s) 120 (p + 1) with
      | bad q er =>
        have HE : Hid (∀ W1, PS W1 B s (p + 1) v xs → Calls Tryz.prog 176 #[.pointer (some ⟨B, 0, none⟩), .int .u8 120] W1 (PostL (fun _ => .tuple #[]) B s v xs W1 (.bad q er))) :=
          Lib.hid fun W1 h1 => by rw [← hE]; exact expect_any 120 120 rfl h1 hs hlt
        clear hE
        go_enter Tryz.func154, Tryz.ntmps154
        go_wp2_with (first | (go_at_call 180; refine HN.out.mono ?_; rintro e W1 ⟨rfl, hq, h1, hk1⟩) | (go_at_call 176; refine (HE.out _ h1).mono ?_; rintro e W2 ⟨rfl, hk2⟩))
        exact ⟨rfl, rfl, hk1.trans hk2⟩
      | ok u q =>
        have hq2 : q ≤ s.size := by
          unfold expectS at hE
          split at hE
          · cases hE
          · rename_i y hy
            split at hE
            · cases hE
              obtain ⟨hh, -⟩ := at_some hy
              exact hh
            · cases hE
        have HE : Hid (∀ W1, PS W1 B s (p + 1) v xs → Calls Tryz.prog 176 #[.pointer (some ⟨B, 0, none⟩), .int .u8 120] W1 (PostL (fun _ => .tuple #[]) B s v xs W1 (.ok u q))) :=
          Lib.hid fun W1 h1 => by rw [← hE]; exact expect_any 120 120 rfl h1 hs hlt
        clear hE
        dsimp only
        cases hH : hexS (L s) q with
        | bad q2 er =>
          have HH : Hid (∀ W1, PS W1 B s q v xs → Calls Tryz.prog 181 #[.pointer (some ⟨B, 0, none⟩)] W1 (PostL (fun (n : Nat) => .int .u8 (n : Int)) B s v xs W1 (.bad q2 er))) :=
            Lib.hid fun W1 h1 => by rw [← hH]; exact hex_any h1 hs hq2
          clear hH
          go_enter Tryz.func154, Tryz.ntmps154
          go_wp2_with (first | (go_at_call 180; refine HN.out.mono ?_; rintro e W1 ⟨rfl, hq, h1, hk1⟩) | (go_at_call 176; refine (HE.out _ h1).mono ?_; rintro e W2 ⟨rfl, hq2, h2, hk2⟩) | (go_at_call 181; refine (HH.out _ h2).mono ?_; clear HH; rintro e W3 ⟨rfl, hk3⟩) | (go_at_call 181; refine (HJ.out _ h3).mono ?_; rintro e W4 ⟨rfl, hk4⟩))
          exact ⟨rfl, rfl, (hk1.trans hk2).trans hk3⟩
        | ok a q2 =>
          have ha : a < 16 ∧ q2 ≤ s.size := hexS_ok hH
          have HH : Hid (∀ W1, PS W1 B s q v xs → Calls Tryz.prog 181 #[.pointer (some ⟨B, 0, none⟩)] W1 (PostL (fun (n : Nat) => .int .u8 (n : Int)) B s v xs W1 (.ok a q2))) :=
            Lib.hid fun W1 h1 => by rw [← hH]; exact hex_any h1 hs hq2
          clear hH
          dsimp only
          cases hJ : hexS (L s) q2 with
          | bad q3 er =>
            have HJ : Hid (∀ W1, PS W1 B s q2 v xs → Calls Tryz.prog 181 #[.pointer (some ⟨B, 0, none⟩)] W1 (PostL (fun (n : Nat) => .int .u8 (n : Int)) B s v xs W1 (.bad q3 er))) :=
              Lib.hid fun W1 h1 => by rw [← hJ]; exact hex_any h1 hs ha.2
            clear hJ
            go_enter Tryz.func154, Tryz.ntmps154
            go_wp2_with (first | (go_at_call 180; refine HN.out.mono ?_; rintro e W1 ⟨rfl, hq, h1, hk1⟩) | (go_at_call 176; refine (HE.out _ h1).mono ?_; rintro e W2 ⟨rfl, hq2, h2, hk2⟩) | (go_at_call 181; refine (HH.out _ h2).mono ?_; clear HH; rintro e W3 ⟨rfl, hq3, h3, hk3⟩) | (go_at_call 181; refine (HJ.out _ h3).mono ?_; rintro e W4 ⟨rfl, hk4⟩))
            exact ⟨rfl, rfl, ((hk1.trans hk2).trans hk3).trans hk4⟩
          | ok b q3 =>
            have hb : b < 16 ∧ q3 ≤ s.size := hexS_ok hJ
            obtain ⟨ha1, ha2⟩ := ha
            obtain ⟨hb1, hb2⟩ := hb
            have HJ : Hid (∀ W1, PS W1 B s q2 v xs → Calls Tryz.prog 181 #[.pointer (some ⟨B, 0, none⟩)] W1 (PostL (fun (n : Nat) => .int .u8 (n : Int)) B s v xs W1 (.ok b q3))) :=
              Lib.hid fun W1 h1 => by rw [← hJ]; exact hex_any h1 hs ha2
            clear hJ
            go_enter Tryz.func154, Tryz.ntmps154
            go_wp2_with (first | (go_at_call 180; refine HN.out.mono ?_; rintro e W1 ⟨rfl, hq, h1, hk1⟩) | (go_at_call 176; refine (HE.out _ h1).mono ?_; rintro e W2 ⟨rfl, hq2, h2, hk2⟩) | (go_at_call 181; refine (HH.out _ h2).mono ?_; clear HH; rintro e W3 ⟨rfl, hq3, h3, hk3⟩) | (go_at_call 181; refine (HJ.out _ h3).mono ?_; rintro e W4 ⟨rfl, hq4, h4, hk4⟩))
            go_ret
            exact ⟨ret_int (or_hex ⟨a, ha1⟩ ⟨b, hb1⟩), hq4, h4, ((hk1.trans hk2).trans hk3).trans hk4⟩
    · have hx : charS (L s) p = if plainB s[p] = true then .ok s[p].toNat (p + 1) else .bad p 20 := by unfold charS; rw [at_str hlt]; simp only [h92, if_false]
      rw [hx]
      clear hx
      generalize s[p] = y at HN h92
      have e92 : ((y.toNat : Int) == 92) = false := by
        rw [beq_eq_false_iff_ne]; intro e; exact h92 (UInt8.toNat.inj (by show y.toNat = 92; omega))
      cases hd : plainB y with
      | true =>
        have HD := Lib.hid (fun W => hd ▸ plain_any y W)
        clear hd h92
        rw [if_pos rfl]
        go_enter Tryz.func154, Tryz.ntmps154
        go_wp2_with (first | (go_at_call 180; refine HN.out.mono ?_; rintro e W1 ⟨rfl, hq, h1, hk1⟩) | (go_at_call 101; refine (HD.out _).mono ?_; rintro e W2 ⟨rfl, rfl⟩) | (go_at_call 182; refine (refuse_any h1 hs hlt).mono ?_; rintro e W3 ⟨rfl, hk2⟩))
        go_ret
        exact ⟨rfl, hq, h1, hk1⟩
      | false =>
        have HD := Lib.hid (fun W => hd ▸ plain_any y W)
        clear hd h92
        rw [if_neg (by simp)]
        go_enter Tryz.func154, Tryz.ntmps154
        go_wp2_with (first | (go_at_call 180; refine HN.out.mono ?_; rintro e W1 ⟨rfl, hq, h1, hk1⟩) | (go_at_call 101; refine (HD.out _).mono ?_; rintro e W2 ⟨rfl, rfl⟩) | (go_at_call 182; refine (refuse_any h1 hs hlt).mono ?_; rintro e W3 ⟨rfl, hk2⟩))
        exact ⟨rfl, rfl, hk1.trans hk2⟩
  · obtain rfl : p = s.size := by omega
    have hx : charS (L s) s.size = .bad s.size 21 := by unfold charS; rw [at_none (Nat.le_refl _)]
    rw [hx]
    go_enter Tryz.func154, Tryz.ntmps154
    go_wp2_with (go_at_call 180; refine (next_end h hs rfl).mono ?_; rintro e W1 ⟨rfl, hk1⟩)
    exact ⟨rfl, rfl, hk1⟩
end Go.Proofs.YtgbbjobmcbdhdaaGreatDoor

/-
  Walks: the parser's numbers, bounds, repetitions.
-/
namespace Go.Proofs.YtgbbjobmcbdhdaaGreatDoor
open Go.RowKit

/-- a byte's place in the rest of a text. -/
theorem drop_cons {s : ByteArray} {p : Nat} (h : p < s.size) : (L s).drop p = s[p] :: (L s).drop (p + 1) := by
  rw [List.drop_eq_getElem_cons (by simpa using h)]; rfl
theorem digitsS_bound : ∀ (l : List UInt8) (n : Nat), n ≤ 17 → (digitsS n l).1 ≤ 17 ∧ (digitsS n l).2 ≤ l.length
  | [], n, h => ⟨h, Nat.le_refl _⟩
  | y :: l, n, h => by
    unfold digitsS
    split
    · have := digitsS_bound l (min (10 * n + (y.toNat - 48)) 17) (by omega)
      simp only [List.length_cons]; omega
    · exact ⟨h, Nat.zero_le _⟩

/-- a number's result. -/
def numRes (X : Nat × Nat) (p : Nat) : LR Nat := if 16 < X.1 then .bad p 2 else .ok X.1 (p + 1 + X.2)
theorem numRes_yes {X : Nat × Nat} {p n : Nat} (h : X.1 = n ∧ 16 < n) : numRes X p = .bad p 2 := by unfold numRes; rw [h.1, if_pos h.2]
theorem numRes_no {X : Nat × Nat} {p n : Nat} (h : X.1 = n ∧ ¬ 16 < n) : numRes X p = .ok n (p + 1 + X.2) := by unfold numRes; rw [h.1, if_neg h.2]
def posOf (w : World) (B : Nat) : Nat := match w.cell? ⟨B, 1, none⟩ with
  | some (.int _ n) => n.toNat
  | _ => 0
theorem posOf_eq {W : World} {B : Nat} {s : ByteArray} {a : Nat} {v : Value} {xs : List Nd} (h : PS W B s a v xs) : posOf W B = a := by
  unfold posOf; rw [h.to_cells.2.1]; simp
set_option maxRecDepth 100000 in
set_option maxHeartbeats 2000000 in
theorem number_any {s : ByteArray} {p B : Nat} {v : Value} {xs : List Nd} {W : World} (h : PS W B s p v xs) (hs : s.size ≤ 4000) (hle : p ≤ s.size) :
    Calls Tryz.prog 183 #[.pointer (some ⟨B, 0, none⟩)] W (PostL (fun (n : Nat) => .int .i64 (n : Int)) B s v xs W (numberS (L s) p)) := by
  obtain ⟨c0, c1, c2, f0, f1, f2⟩ := h.to_cells
  rcases Nat.lt_or_ge p s.size with hlt | hge
  · have hx : numberS (L s) p = if digitB s[p] = true then numRes (digitsS (s[p].toNat - 48) ((L s).drop (p + 1))) p else .bad p 20 := by
      unfold numberS; rw [at_str hlt]; rfl
    rw [hx]
    clear hx
    have HN := Lib.hid (next_ok h hs hlt)
    generalize s[p] = y at HN
    cases hd : digitB y with
    | false =>
      have HD := Lib.hid (fun W => hd ▸ digit_any y W)
      rw [if_neg (by simp)]
      clear hd
      go_enter Tryz.func183, Tryz.ntmps183
      go_wp2_with (first | (go_at_call 180; refine HN.out.mono ?_; rintro e W1 ⟨rfl, hq, h1, hk1⟩) | (go_at_call 193; refine (HD.out _).mono ?_; rintro e W2 ⟨rfl, rfl⟩) | (go_at_call 182; refine (refuse_any h1 hs hlt).mono ?_; rintro e W3 ⟨rfl, hk2⟩))
      exact ⟨rfl, rfl, hk1.trans hk2⟩
    | true =>
      have HD := Lib.hid (fun W => hd ▸ digit_any y W)
      rw [if_pos rfl]
      have hy : 48 ≤ y.toNat ∧ y.toNat ≤ 57 := by rw [digitB_iff] at hd; simpa using hd
      clear hd
      obtain ⟨hy1, hy2⟩ := hy
      have e1 : IntKind.u8.wrap ((y.toNat : Int) - 48) = ((y.toNat - 48 : Nat) : Int) := by rw [IntKind.wrap_u8]; omega
      have hn : y.toNat - 48 ≤ 9 := by omega
      generalize y.toNat - 48 = n0 at e1 hn
      generalize hX : digitsS n0 ((L s).drop (p + 1)) = X
      have HX := Lib.hid hX
      clear hX
      go_enter Tryz.func183, Tryz.ntmps183
      go_wp2_with (first | (go_at_call 180; refine HN.out.mono ?_; rintro e W1 ⟨rfl, hq, h1, hk1⟩) | (go_at_call 193; refine (HD.out _).mono ?_; rintro e W2 ⟨rfl, rfl⟩))
      go_loopw [5] (fun nv wr => ∃ (n q : Nat), nv = .int .i64 (n : Int) ∧ n ≤ 17 ∧ q ≤ s.size ∧ PS wr B s q v xs ∧ KP B W wr ∧ (digitsS n ((L s).drop q)).1 = X.1 ∧ q + (digitsS n ((L s).drop q)).2 = p + 1 + X.2) (fun _ wr => s.size - posOf wr B)
      case atStart => exact ⟨n0, p + 1, rfl, by omega, hq, h1, hk1, by rw [HX.out], by rw [HX.out]⟩
      case round =>
        clear h1 hk1 c0 c1 c2 f0 f1 f2 HN HX
        obtain ⟨n, q, rfl, hn17, hqs, hr, hkr, hinv1, hinv2⟩ := hrel
        obtain ⟨c0, c1, c2, f0, f1, f2⟩ := hr.to_cells
        have hpos : posOf wr B = q := posOf_eq hr
        by_cases g1 : 0 < n
        · have t0 : decide ((0 : Int) < (n : Int)) = true := by simp; omega
          by_cases g2 : q < s.size
          · have t2 : decide ((q : Int) < (s.size : Int)) = true := by simp; omega
            cases hd : digitB s[q] with
            | true =>
              have HQ := Lib.hid (fun W => hd ▸ digit_any s[q] W)
              have HM := Lib.hid (fun W1 (h1 : PS W1 B s q v xs) => next_ok h1 hs g2)
              have hy : 48 ≤ s[q].toNat ∧ s[q].toNat ≤ 57 := by rw [digitB_iff] at hd; simpa using hd
              have hstep : digitsS n ((L s).drop q) = ((digitsS (min (10 * n + (s[q].toNat - 48)) 17) ((L s).drop (q + 1))).1, (digitsS (min (10 * n + (s[q].toNat - 48)) 17) ((L s).drop (q + 1))).2 + 1) := by
                rw [drop_cons g2, digitsS, if_pos ⟨g1, hd⟩]
              rw [hstep] at hinv1 hinv2
              clear hstep hd
              obtain ⟨hy1, hy2⟩ := hy
              have e1 : IntKind.u8.wrap ((s[q].toNat : Int) - 48) = ((s[q].toNat - 48 : Nat) : Int) := by rw [IntKind.wrap_u8]; omega
              have hd9 : s[q].toNat - 48 ≤ 9 := by omega
              have HI := Lib.hid (And.intro hinv1 hinv2)
              clear hinv1 hinv2
              go_wp2_with fail
              go_quiet ((go_at_call 193; exact Calls.quiet_of_same (HQ.out _)))
              go_wp2_with (go_at_call 180; refine (HM.out _ (hr.drewN _)).mono ?_; rintro e W1 ⟨rfl, hq1, h1, hk1⟩)
              go_roundw
              case rel => exact ⟨min (10 * n + (s[q].toNat - 48)) 17, q + 1, by rw [Value.int.injEq]; refine ⟨rfl, ?_⟩; omega, by omega, hq1, h1, (hkr.drewN _).trans hk1, HI.out.1, by have := HI.out.2; omega⟩
              case measure =>
                have hpos1 : posOf W1 B = q + 1 := posOf_eq h1
                omega
            | false =>
              have HQ := Lib.hid (fun W => hd ▸ digit_any s[q] W)
              have hstep : digitsS n ((L s).drop q) = (n, 0) := by
                rw [drop_cons g2, digitsS, if_neg (by simp [hd])]
              have X1 : X.1 = n := by rw [hstep] at hinv1; exact hinv1.symm
              have X2 : p + 1 + X.2 = q := by rw [hstep] at hinv2; exact hinv2.symm
              clear hstep hd
              go_wp2_with fail
              go_quiet ((go_at_call 193; exact Calls.quiet_of_same (HQ.out _)))
              have hk5 := hkr.drewN nq
              by_cases hbig : 16 < n
              · have t1 : decide ((16 : Int) < (n : Int)) = true := by simp; omega
                have HB := Lib.hid (And.intro X1 hbig)
                clear X1 X2 hbig hinv1 hinv2
                go_wp2
                refine ⟨rfl, ?_⟩
                rw [numRes_yes HB.out]
                exact ⟨rfl, hk5⟩
              · have t1 : decide ((16 : Int) < (n : Int)) = false := by simp; omega
                have hq5 : p + 1 + X.2 ≤ s.size := by omega
                have h5 : PS (wr.drewN nq) B s (p + 1 + X.2) v xs := by rw [X2]; exact hr.drewN nq
                have HB := Lib.hid (And.intro X1 hbig)
                clear X1 X2 hbig hinv1 hinv2
                go_wp2
                go_ret
                rw [numRes_no HB.out]
                exact ⟨rfl, hq5, h5, hk5⟩
          · obtain rfl : q = s.size := by omega
            have t2 : decide ((s.size : Int) < (s.size : Int)) = false := by simp
            have HQ : Hid (∀ W : World, True) := fun _ => trivial
            have hstep : digitsS n ((L s).drop s.size) = (n, 0) := by
              rw [List.drop_eq_nil_of_le (by simp)]; rfl
            have X1 : X.1 = n := by rw [hstep] at hinv1; exact hinv1.symm
            have X2 : p + 1 + X.2 = s.size := by rw [hstep] at hinv2; exact hinv2.symm
            clear hstep
            go_wp2_with fail
            go_quiet (fail)
            have hk5 := hkr.drewN nq
            by_cases hbig : 16 < n
            · have t1 : decide ((16 : Int) < (n : Int)) = true := by simp; omega
              have HB := Lib.hid (And.intro X1 hbig)
              clear X1 X2 hbig hinv1 hinv2
              go_wp2
              refine ⟨rfl, ?_⟩
              rw [numRes_yes HB.out]
              exact ⟨rfl, hk5⟩
            · have t1 : decide ((16 : Int) < (n : Int)) = false := by simp; omega
              have hq5 : p + 1 + X.2 ≤ s.size := by omega
              have h5 : PS (wr.drewN nq) B s (p + 1 + X.2) v xs := by rw [X2]; exact hr.drewN nq
              have HB := Lib.hid (And.intro X1 hbig)
              clear X1 X2 hbig hinv1 hinv2
              go_wp2
              go_ret
              rw [numRes_no HB.out]
              exact ⟨rfl, hq5, h5, hk5⟩
        · obtain rfl : n = 0 := by omega
          have t0 : decide ((0 : Int) < ((0 : Nat) : Int)) = false := by simp
          have hstep : digitsS 0 ((L s).drop q) = (0, 0) := by
            cases (L s).drop q with
            | nil => rfl
            | cons a l => rw [digitsS, if_neg (by simp)]
          have X1 : X.1 = 0 := by rw [hstep] at hinv1; exact hinv1.symm
          have X2 : p + 1 + X.2 = q := by rw [hstep] at hinv2; exact hinv2.symm
          clear hstep
          have t1 : decide ((16 : Int) < ((0 : Nat) : Int)) = false := by simp
          go_wp2_with fail
          go_quiet (fail)
          have hk5 := hkr.drewN nq
          have hq5 : p + 1 + X.2 ≤ s.size := by omega
          have h5 : PS (wr.drewN nq) B s (p + 1 + X.2) v xs := by rw [X2]; exact hr.drewN nq
          have HB := Lib.hid X1
          clear X1 X2 hinv1 hinv2
          go_wp2
          go_ret
          rw [numRes_no ⟨HB.out, by omega⟩]
          exact ⟨rfl, hq5, h5, hk5⟩
  · obtain rfl : p = s.size := by omega
    have hx : numberS (L s) s.size = .bad s.size 21 := by unfold numberS; rw [at_none (Nat.le_refl _)]
    rw [hx]
    go_enter Tryz.func183, Tryz.ntmps183
    go_wp2_with (go_at_call 180; refine (next_end h hs rfl).mono ?_; rintro e W1 ⟨rfl, hk1⟩)
    exact ⟨rfl, rfl, hk1⟩
end Go.Proofs.YtgbbjobmcbdhdaaGreatDoor

/-
  Walks: the parser's bounds and repetitions.
-/
namespace Go.Proofs.YtgbbjobmcbdhdaaGreatDoor
open Go.RowKit

/-- a contract at one known result. -/
theorem LR.bad_le {s : ByteArray} {p : Nat} (h : p ≤ s.size) : p ≤ s.size := h
theorem expectS_ok {s : ByteArray} {c : UInt8} {p q : Nat} {u : Unit} (h : expectS (L s) c p = .ok u q) : q ≤ s.size := by
  unfold expectS at h
  split at h
  · cases h
  · rename_i y hy
    split at h
    · cases h
      obtain ⟨hh, -⟩ := at_some hy
      exact hh
    · cases h
theorem numberS_ok {s : ByteArray} {p n q : Nat} (h : numberS (L s) p = .ok n q) : n ≤ 16 ∧ q ≤ s.size := by
  unfold numberS at h
  split at h
  · cases h
  · rename_i y hy
    obtain ⟨hlt, -⟩ := at_some hy
    split at h
    · rename_i hd
      have hd' : 48 ≤ y.toNat ∧ y.toNat ≤ 57 := by rw [digitB_iff] at hd; simpa using hd
      have hb := digitsS_bound ((L s).drop (p + 1)) (y.toNat - 48) (by omega)
      have hl : ((L s).drop (p + 1)).length = s.size - (p + 1) := by simp
      dsimp only at h
      split at h
      · cases h
      · rename_i hn
        cases h
        omega
    · cases h
theorem charS_ok {s : ByteArray} {p n q : Nat} (h : charS (L s) p = .ok n q) : n < 256 ∧ q ≤ s.size := by
  unfold charS at h
  split at h
  · cases h
  · rename_i y hy
    obtain ⟨hlt, -⟩ := at_some hy
    split at h
    · split at h
      · cases h
      · split at h
        · cases h
        · rename_i h1 hh1
          have a := hexS_ok hh1
          split at h
          · cases h
          · rename_i h2 hh2
            have b := hexS_ok hh2
            cases h
            exact ⟨by omega, b.2⟩
    · split at h
      · cases h
        have := y.toNat_lt
        exact ⟨by omega, hlt⟩
      · cases h

set_option maxRecDepth 100000 in
set_option maxHeartbeats 4000000 in
theorem bounds_any {s : ByteArray} {p B : Nat} {v : Value} {xs : List Nd} {W : World} (h : PS W B s p v xs) (hs : s.size ≤ 4000) (hle : p ≤ s.size) :
    Calls Tryz.prog 155 #[.pointer (some ⟨B, 0, none⟩)] W (PostL (fun (b : Int × Int) => .tuple #[.int .i64 b.1, .int .i64 b.2]) B s v xs W (boundsS (L s) p)) := by
  unfold boundsS
  have HN := Lib.hid (number_any h hs hle)
  cases hN : numberS (L s) p with
  | bad q er =>
    rw [hN] at HN
    clear hN
    go_enter Tryz.func155, Tryz.ntmps155
    go_wp2_with (go_at_call 183; refine HN.out.mono ?_; rintro e W1 ⟨rfl, hk1⟩)
    exact ⟨rfl, rfl, hk1⟩
  | ok a q =>
    rw [hN] at HN
    obtain ⟨ha, hq⟩ := numberS_ok hN
    clear hN
    dsimp only
    have HE := Lib.hid (fun W1 (h1 : PS W1 B s q v xs) => expect_any 44 44 rfl h1 hs hq)
    cases hE : expectS (L s) 44 q with
    | bad q2 er =>
      rw [hE] at HE
      clear hE
      go_enter Tryz.func155, Tryz.ntmps155
      go_wp2_with (first | (go_at_call 183; refine HN.out.mono ?_; rintro e W1 ⟨rfl, hq1, h1, hk1⟩) | (go_at_call 176; refine (HE.out _ h1).mono ?_; rintro e W2 ⟨rfl, hk2⟩))
      exact ⟨rfl, rfl, hk1.trans hk2⟩
    | ok u q2 =>
      rw [hE] at HE
      have hq2 := expectS_ok hE
      clear hE
      dsimp only
      by_cases hT : (L s)[q2]? = some 125
      · rw [if_pos hT]
        have HT := Lib.hid (fun W1 (h1 : PS W1 B s q2 v xs) => take_yes 125 rfl h1 hs hT)
        clear hT
        go_enter Tryz.func155, Tryz.ntmps155
        go_wp2_with (first | (go_at_call 183; refine HN.out.mono ?_; rintro e W1 ⟨rfl, hq1, h1, hk1⟩) | (go_at_call 176; refine (HE.out _ h1).mono ?_; rintro e W2 ⟨rfl, hq2', h2, hk2⟩) | (go_at_call 67; refine (HT.out _ h2).mono ?_; rintro e W3 ⟨rfl, hq3, h3, hk3⟩))
        go_ret2
        exact ⟨rfl, hq3, h3, (hk1.trans hk2).trans hk3⟩
      · rw [if_neg hT]
        have HT := Lib.hid (fun W1 (h1 : PS W1 B s q2 v xs) => take_no 125 rfl h1 hs hq2 hT)
        clear hT
        have HM := Lib.hid (fun W1 (h1 : PS W1 B s q2 v xs) => number_any h1 hs hq2)
        cases hM : numberS (L s) q2 with
        | bad q3 er =>
          rw [hM] at HM
          clear hM
          go_enter Tryz.func155, Tryz.ntmps155
          go_wp2_with (first | (go_at_call 183; refine HN.out.mono ?_; clear HN; rintro e W1 ⟨rfl, hq1, h1, hk1⟩) | (go_at_call 176; refine (HE.out _ h1).mono ?_; rintro e W2 ⟨rfl, hq2', h2, hk2⟩) | (go_at_call 67; refine (HT.out _ h2).mono ?_; rintro e W3 ⟨rfl, h3, hk3⟩; obtain ⟨c0, c1, c2, f0, f1, f2⟩ := h3.to_cells) | (go_at_call 183; refine (HM.out _ h3).mono ?_; rintro e W4 ⟨rfl, hk4⟩))
          exact ⟨rfl, rfl, ((hk1.trans hk2).trans hk3).trans hk4⟩
        | ok b q3 =>
          rw [hM] at HM
          obtain ⟨hb, hq3⟩ := numberS_ok hM
          clear hM
          dsimp only
          by_cases hlt : b < a
          · rw [if_pos hlt]
            have t1 : decide ((b : Int) < (a : Int)) = true := by simp; omega
            go_enter Tryz.func155, Tryz.ntmps155
            go_wp2_with (first | (go_at_call 183; refine HN.out.mono ?_; clear HN; rintro e W1 ⟨rfl, hq1, h1, hk1⟩) | (go_at_call 176; refine (HE.out _ h1).mono ?_; rintro e W2 ⟨rfl, hq2', h2, hk2⟩) | (go_at_call 67; refine (HT.out _ h2).mono ?_; rintro e W3 ⟨rfl, h3, hk3⟩; obtain ⟨c0, c1, c2, f0, f1, f2⟩ := h3.to_cells) | (go_at_call 183; refine (HM.out _ h3).mono ?_; rintro e W4 ⟨rfl, hq4, h4, hk4⟩))
            exact ⟨rfl, rfl, ((hk1.trans hk2).trans hk3).trans hk4⟩
          · rw [if_neg hlt]
            have t1 : decide ((b : Int) < (a : Int)) = false := by simp; omega
            have HF := Lib.hid (fun W1 (h1 : PS W1 B s q3 v xs) => expect_any 125 125 rfl h1 hs hq3)
            cases hF : expectS (L s) 125 q3 with
            | bad q4 er =>
              rw [hF] at HF
              clear hF
              go_enter Tryz.func155, Tryz.ntmps155
              go_wp2_with (first | (go_at_call 183; refine HN.out.mono ?_; clear HN; rintro e W1 ⟨rfl, hq1, h1, hk1⟩) | (go_at_call 176; refine (HE.out _ h1).mono ?_; clear HE; rintro e W2 ⟨rfl, hq2', h2, hk2⟩) | (go_at_call 67; refine (HT.out _ h2).mono ?_; rintro e W3 ⟨rfl, h3, hk3⟩; obtain ⟨c0, c1, c2, f0, f1, f2⟩ := h3.to_cells) | (go_at_call 183; refine (HM.out _ h3).mono ?_; rintro e W4 ⟨rfl, hq4, h4, hk4⟩) | (go_at_call 176; refine (HF.out _ h4).mono ?_; rintro e W5 ⟨rfl, hk5⟩))
              exact ⟨rfl, rfl, (((hk1.trans hk2).trans hk3).trans hk4).trans hk5⟩
            | ok u2 q4 =>
              rw [hF] at HF
              clear hF
              go_enter Tryz.func155, Tryz.ntmps155
              go_wp2_with (first | (go_at_call 183; refine HN.out.mono ?_; clear HN; rintro e W1 ⟨rfl, hq1, h1, hk1⟩) | (go_at_call 176; refine (HE.out _ h1).mono ?_; clear HE; rintro e W2 ⟨rfl, hq2', h2, hk2⟩) | (go_at_call 67; refine (HT.out _ h2).mono ?_; rintro e W3 ⟨rfl, h3, hk3⟩; obtain ⟨c0, c1, c2, f0, f1, f2⟩ := h3.to_cells) | (go_at_call 183; refine (HM.out _ h3).mono ?_; rintro e W4 ⟨rfl, hq4, h4, hk4⟩) | (go_at_call 176; refine (HF.out _ h4).mono ?_; rintro e W5 ⟨rfl, hq5, h5, hk5⟩))
              go_ret2
              exact ⟨rfl, hq5, h5, (((hk1.trans hk2).trans hk3).trans hk4).trans hk5⟩
end Go.Proofs.YtgbbjobmcbdhdaaGreatDoor
