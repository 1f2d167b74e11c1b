/-
  Texts of the proof, one behind another: Pf, Pg.
-/
import Derived.Test.YtgbbjobmcbdhdaaGreatDoorYbc
import Derived.Test.YtgbbjobmcbdhdaaGreatDoorYah
import Derived.Deep.RegionHeld3
set_option linter.unusedSimpArgs false
set_option linter.unusedVariables false
/-
  Walks: the parser's repetitions, pairs of chars, classes.
-/
namespace Go.Proofs.YtgbbjobmcbdhdaaGreatDoor
open Go.RowKit

def valRep : Option (Int × Int) → Value
  | some b => .tuple #[.int .i64 b.1, .int .i64 b.2, .bool true]
  | none => .tuple #[.int .i64 0, .int .i64 0, .bool false]
set_option maxRecDepth 100000 in
set_option maxHeartbeats 4000000 in
theorem repeat_any {s : ByteArray} {p B : Nat} {v : Value} {xs : List Nd} {W : World} (h : PS W B s p v xs) (hs : s.size ≤ 4000) (hle : p ≤ s.size) :
    Calls Tryz.prog 134 #[.pointer (some ⟨B, 0, none⟩)] W (PostL valRep B s v xs W (repeatS (L s) p)) := by
  unfold repeatS
  by_cases h1 : (L s)[p]? = some 42
  · rw [if_pos h1]
    have HA := Lib.hid (take_yes 42 rfl h hs h1)
    clear h1
    go_enter Tryz.func134, Tryz.ntmps134
    go_wp2_with (first | (go_at_call 67; refine HA.out.mono ?_; clear HA; rintro e W1 ⟨rfl, hq1, h1, hk1⟩))
    go_ret3
    exact ⟨rfl, hq1, h1, hk1⟩
  rw [if_neg h1]
  have HA := Lib.hid (take_no 42 rfl h hs hle h1)
  clear h1
  by_cases h2 : (L s)[p]? = some 43
  · rw [if_pos h2]
    have HB := Lib.hid (fun W1 (h1 : PS W1 B s p v xs) => take_yes 43 rfl h1 hs h2)
    clear h2
    go_enter Tryz.func134, Tryz.ntmps134
    go_wp2_with (first | (go_at_call 67; refine HA.out.mono ?_; clear HA; rintro e W1 ⟨rfl, h1, hk1⟩) | (go_at_call 67; refine (HB.out _ h1).mono ?_; clear HB; rintro e W2 ⟨rfl, hq2, h2, hk2⟩))
    go_ret3
    exact ⟨rfl, hq2, h2, hk1.trans hk2⟩
  rw [if_neg h2]
  have HB := Lib.hid (fun W1 (h1 : PS W1 B s p v xs) => take_no 43 rfl h1 hs hle h2)
  clear h2
  by_cases h3 : (L s)[p]? = some 63
  · rw [if_pos h3]
    have HC := Lib.hid (fun W1 (h1 : PS W1 B s p v xs) => take_yes 63 rfl h1 hs h3)
    clear h3
    go_enter Tryz.func134, Tryz.ntmps134
    go_wp2_with (first | (go_at_call 67; refine HA.out.mono ?_; clear HA; rintro e W1 ⟨rfl, h1, hk1⟩) | (go_at_call 67; refine (HB.out _ h1).mono ?_; clear HB; rintro e W2 ⟨rfl, h2, hk2⟩) | (go_at_call 67; refine (HC.out _ h2).mono ?_; clear HC; rintro e W3 ⟨rfl, hq3, h3, hk3⟩))
    go_ret3
    exact ⟨rfl, hq3, h3, (hk1.trans hk2).trans hk3⟩
  rw [if_neg h3]
  have HC := Lib.hid (fun W1 (h1 : PS W1 B s p v xs) => take_no 63 rfl h1 hs hle h3)
  clear h3
  by_cases h4 : (L s)[p]? = some 123
  · rw [if_pos h4]
    have HD := Lib.hid (fun W1 (h1 : PS W1 B s p v xs) => take_yes 123 rfl h1 hs h4)
    have hp1 : p + 1 ≤ s.size := (at_some h4).1
    clear h4
    have HE := Lib.hid (fun W1 (h1 : PS W1 B s (p + 1) v xs) => bounds_any h1 hs hp1)
    cases hE : boundsS (L s) (p + 1) with
    | bad q er =>
      rw [hE] at HE
      clear hE
      go_enter Tryz.func134, Tryz.ntmps134
      go_wp2_with (first | (go_at_call 67; refine HA.out.mono ?_; clear HA; rintro e W1 ⟨rfl, h1, hk1⟩) | (go_at_call 67; refine (HB.out _ h1).mono ?_; clear HB; rintro e W2 ⟨rfl, h2, hk2⟩) | (go_at_call 67; refine (HC.out _ h2).mono ?_; clear HC; rintro e W3 ⟨rfl, h3, hk3⟩) | (go_at_call 67; refine (HD.out _ h3).mono ?_; clear HD; rintro e W4 ⟨rfl, hq4, h4, hk4⟩) | (go_at_call 155; refine (HE.out _ h4).mono ?_; clear HE; rintro e W5 ⟨rfl, hk5⟩))
      exact ⟨rfl, rfl, (((hk1.trans hk2).trans hk3).trans hk4).trans hk5⟩
    | ok b q =>
      rw [hE] at HE
      clear hE
      go_enter Tryz.func134, Tryz.ntmps134
      go_wp2_with (first | (go_at_call 67; refine HA.out.mono ?_; clear HA; rintro e W1 ⟨rfl, h1, hk1⟩) | (go_at_call 67; refine (HB.out _ h1).mono ?_; clear HB; rintro e W2 ⟨rfl, h2, hk2⟩) | (go_at_call 67; refine (HC.out _ h2).mono ?_; clear HC; rintro e W3 ⟨rfl, h3, hk3⟩) | (go_at_call 67; refine (HD.out _ h3).mono ?_; clear HD; rintro e W4 ⟨rfl, hq4, h4, hk4⟩) | (go_at_call 155; refine (HE.out _ h4).mono ?_; clear HE; rintro e W5 ⟨rfl, hq5, h5, hk5⟩))
      go_ret3
      exact ⟨rfl, hq5, h5, (((hk1.trans hk2).trans hk3).trans hk4).trans hk5⟩
  rw [if_neg h4]
  have HD := Lib.hid (fun W1 (h1 : PS W1 B s p v xs) => take_no 123 rfl h1 hs hle h4)
  clear h4
  go_enter Tryz.func134, Tryz.ntmps134
  go_wp2_with (first | (go_at_call 67; refine HA.out.mono ?_; clear HA; rintro e W1 ⟨rfl, h1, hk1⟩) | (go_at_call 67; refine (HB.out _ h1).mono ?_; clear HB; rintro e W2 ⟨rfl, h2, hk2⟩) | (go_at_call 67; refine (HC.out _ h2).mono ?_; clear HC; rintro e W3 ⟨rfl, h3, hk3⟩) | (go_at_call 67; refine (HD.out _ h3).mono ?_; clear HD; rintro e W4 ⟨rfl, h4, hk4⟩))
  go_ret3
  exact ⟨rfl, hle, h4, ((hk1.trans hk2).trans hk3).trans hk4⟩

theorem KP.setNew {B : Nat} {a b : World} (h : KP B a b) {c : Addr} (hc : a.heap.size ≤ c.block) (v : Value) : KP B a (b.setCell c v) :=
  ⟨h.os, h.tape, h.output, by simpa using h.size, fun k hk hne hno => (Below.heap_setCell _ _ _ _ (by omega)).trans (h.block k hk hne hno)⟩
theorem KP.set4 {B : Nat} {a b : World} (h : KP B a b) {c : Nat} (hc : a.heap.size ≤ c) (u0 u1 u2 u3 : Value) :
    KP B a ((((b.setCell ⟨c, 0, none⟩ u0).setCell ⟨c, 1, none⟩ u1).setCell ⟨c, 2, none⟩ u2).setCell ⟨c, 3, none⟩ u3) :=
  (((h.setNew hc u0).setNew hc u1).setNew hc u2).setNew hc u3
theorem PS.setBlk {W : World} {B : Nat} {s : ByteArray} {a : Nat} {v : Value} {xs : List Nd} (h : PS W B s a v xs) {R : Nat} {vs : Array Value} {t : TypeId} (hR : Blk W R vs t) (ht : t ≠ 45) (hne : R ≠ B) (i : Nat) (x : Value) :
    PS (W.setCell ⟨R, i, none⟩ x) B s a v xs := by
  refine ⟨h.is.other (by simpa using fun e => hne e.symm) x, h.own.kept (row := some R) ⟨rfl, rfl, rfl, by simp, fun k _ hne => Below.heap_setCell _ _ _ _ (by simp; intro e; exact hne (by rw [e]))⟩ ?_⟩
  rcases h.own.2 with ⟨hv, _⟩ | ⟨g, cap, cur, hv, _, hg, _⟩
  · left; rw [hv]; rfl
  · right; rw [hv]; intro e
    obtain rfl : g = R := by simpa [Value.ownBlock] using e
    rw [hR.is] at hg
    simp only [Option.some.injEq, Obj.cells.injEq] at hg
    exact ht hg.2.1
theorem PS.set4 {W : World} {B : Nat} {s : ByteArray} {a : Nat} {v : Value} {xs : List Nd} (h : PS W B s a v xs) {R : Nat} {v0 v1 v2 v3 : Value} {t : TypeId} (hR : Blk W R #[v0, v1, v2, v3] t) (ht : t ≠ 45) (hne : R ≠ B) (u0 u1 u2 u3 : Value) :
    PS ((((W.setCell ⟨R, 0, none⟩ u0).setCell ⟨R, 1, none⟩ u1).setCell ⟨R, 2, none⟩ u2).setCell ⟨R, 3, none⟩ u3) B s a v xs :=
  (((h.setBlk hR ht hne 0 u0).setBlk (hR.set 0 u0) ht hne 1 u1).setBlk ((hR.set 0 u0).set 1 u1) ht hne 2 u2).setBlk (((hR.set 0 u0).set 1 u1).set 2 u2) ht hne 3 u3
theorem of_one (a : Nat) (ha : a < 256) (W : World) (t : TypeId) (n k : Nat) (hn : n = W.heap.size) (hk : k = 1) :
    Calls Tryz.prog 153 #[.slice (some ⟨n, 0, none⟩) k k] (W.alloc (.cells #[.int .u8 (a : Int)] t)) fun e w' => e = .returned (.agg #[.int .u64 (wd ((ofQ [(a : Int)])) 0), .int .u64 (wd ((ofQ [(a : Int)])) 1), .int .u64 (wd ((ofQ [(a : Int)])) 2), .int .u64 (wd ((ofQ [(a : Int)])) 3)]) ∧ Below (W.alloc (.cells #[.int .u8 (a : Int)] t)).heap.size (W.alloc (.cells #[.int .u8 (a : Int)] t)) w' := by
  subst hn; subst hk
  have h := of_any W.heap.size 0 1 1 [(a : Int)] (W.alloc (.cells #[.int .u8 (a : Int)] t)) (by simp) (by simp) (by simp) (fun k hk => by
    obtain rfl : k = 0 := by simpa using hk
    exact (Blk.new W #[.int .u8 (a : Int)] t).cell 0 rfl) (fun k hk => by
    obtain rfl : k = 0 := by simpa using hk
    simp; omega)
  exact h
theorem range_q (a b : Nat) (hab : a ≤ b) (hb : b < 256) (W : World) : Calls Tryz.prog 150 #[.int .u8 (a : Int), .int .u8 (b : Int)] W fun e w' => e = .returned (.agg #[.int .u64 (wd (rngQ a (b + 1 - a)) 0), .int .u64 (wd (rngQ a (b + 1 - a)) 1), .int .u64 (wd (rngQ a (b + 1 - a)) 2), .int .u64 (wd (rngQ a (b + 1 - a)) 3)]) ∧ Below W.heap.size W w' := by
  have h := range_any (a : Int) (b : Int) W (by omega) (by omega) (by omega) (by omega)
  rw [show ((b : Int) + 1 - (a : Int)).toNat = b + 1 - a by omega] at h
  exact h

set_option maxRecDepth 100000 in
set_option maxHeartbeats 4000000 in
theorem pair_any {s : ByteArray} {p B : Nat} {v : Value} {xs : List Nd} {W : World} (h : PS W B s p v xs) (hs : s.size ≤ 4000) (hle : p ≤ s.size) :
    Calls Tryz.prog 178 #[.pointer (some ⟨B, 0, none⟩)] W (PostL (fun (c : BitVec 256) => .agg #[.int .u64 (wd c 0), .int .u64 (wd c 1), .int .u64 (wd c 2), .int .u64 (wd c 3)]) B s v xs W (pairS (L s) p)) := by
  unfold pairS
  have hB : B < W.heap.size := h.is.lt
  have HC := Lib.hid (char_any (h.alloc (.cells #[.int .u64 0, .int .u64 0, .int .u64 0, .int .u64 0] 43)) hs hle)
  have hR := Blk.new W #[.int .u64 0, .int .u64 0, .int .u64 0, .int .u64 0] 43
  have hk0 : KP B W (W.alloc (.cells #[.int .u64 0, .int .u64 0, .int .u64 0, .int .u64 0] 43)) := (KP.refl B W).alloc _
  cases hC : charS (L s) p with
  | bad q er =>
    rw [hC] at HC
    clear hC
    go_enter Tryz.func178, Tryz.ntmps178
    go_wp2_with (first | (go_at_call 154; refine HC.out.mono ?_; clear HC; rintro e W1 ⟨rfl, hk1⟩))
    exact ⟨rfl, rfl, hk0.trans hk1⟩
  | ok a q =>
    rw [hC] at HC
    obtain ⟨ha, hq⟩ := charS_ok hC
    clear hC
    dsimp only
    by_cases hT : (L s)[q]? = some 45
    · rw [if_pos hT]
      have HT := Lib.hid (fun W1 (h1 : PS W1 B s q v xs) => take_yes 45 rfl h1 hs hT)
      have hq1 : q + 1 ≤ s.size := (at_some hT).1
      clear hT
      have HD := Lib.hid (fun W1 (h1 : PS W1 B s (q + 1) v xs) => char_any h1 hs hq1)
      cases hD : charS (L s) (q + 1) with
      | bad q2 er =>
        rw [hD] at HD
        clear hD
        go_enter Tryz.func178, Tryz.ntmps178
        go_wp2_with (first | (go_at_call 154; refine HC.out.mono ?_; clear HC; rintro e W1 ⟨rfl, hq', h1, hk1⟩) | (go_at_call 67; refine (HT.out _ h1).mono ?_; clear HT; rintro e W2 ⟨rfl, hq2', h2, hk2⟩; obtain ⟨c0, c1, c2, f0, f1, f2⟩ := h2.to_cells) | (go_at_call 154; refine (HD.out _ h2).mono ?_; clear HD; rintro e W3 ⟨rfl, hk3⟩))
        exact ⟨rfl, rfl, ((hk0.trans hk1).trans hk2).trans hk3⟩
      | ok b q2 =>
        rw [hD] at HD
        obtain ⟨hb, hq2⟩ := charS_ok hD
        clear hD
        dsimp only
        by_cases hlt : b < a
        · rw [if_pos hlt]
          have t1 : decide ((b : Int) < (a : Int)) = true := by simp; omega
          go_enter Tryz.func178, Tryz.ntmps178
          go_wp2_with (first | (go_at_call 154; refine HC.out.mono ?_; clear HC; rintro e W1 ⟨rfl, hq', h1, hk1⟩) | (go_at_call 67; refine (HT.out _ h1).mono ?_; clear HT; rintro e W2 ⟨rfl, hq2', h2, hk2⟩; obtain ⟨c0, c1, c2, f0, f1, f2⟩ := h2.to_cells) | (go_at_call 154; refine (HD.out _ h2).mono ?_; clear HD; rintro e W3 ⟨rfl, hq3', h3, hk3⟩))
          exact ⟨rfl, rfl, ((hk0.trans hk1).trans hk2).trans hk3⟩
        · rw [if_neg hlt]
          have t1 : decide ((b : Int) < (a : Int)) = false := by simp; omega
          go_enter Tryz.func178, Tryz.ntmps178
          go_wp2_with (first | (go_at_call 154; refine HC.out.mono ?_; clear HC; rintro e W1 ⟨rfl, hq', h1, hk1⟩) | (go_at_call 67; refine (HT.out _ h1).mono ?_; clear HT; rintro e W2 ⟨rfl, hq2', h2, hk2⟩; obtain ⟨c0, c1, c2, f0, f1, f2⟩ := h2.to_cells) | (go_at_call 154; refine (HD.out _ h2).mono ?_; clear HD; rintro e W3 ⟨rfl, hq3', h3, hk3⟩) | (go_at_call 150; refine (range_q a b (by omega) hb _).mono ?_; rintro e W4 ⟨rfl, hb4⟩; have hk := ((hk0.trans hk1).trans hk2).trans (hk3.trans (KP.of_below hb4)); have hR4 := (((hR.keptP hk1 (by omega) (by decide)).keptP hk2 (by omega) (by decide)).keptP hk3 (by omega) (by decide)).grows hb4; obtain ⟨d0, d1, d2, d3, g0, g1, g2, g3⟩ := hR4.four))
          refine bodyPost_ret (results_cell_row rfl _ _ W.heap.size 43 _ (0, 0) _ rfl (hR4.set4 _ _ _ _).is Tryz.underlying43 rfl clsSize) rfl ⟨rfl, hq3', (h3.grows hb4).set4 hR4 (by decide) (by omega) _ _ _ _, hk.set4 (Nat.le_refl _) _ _ _ _⟩
    · rw [if_neg hT]
      have HT := Lib.hid (fun W1 (h1 : PS W1 B s q v xs) => take_no 45 rfl h1 hs hq hT)
      clear hT
      go_enter Tryz.func178, Tryz.ntmps178
      go_wp2_with (first | (go_at_call 154; refine HC.out.mono ?_; clear HC; rintro e W1 ⟨rfl, hq', h1, hk1⟩) | (go_at_call 67; refine (HT.out _ h1).mono ?_; clear HT; rintro e W2 ⟨rfl, h2, hk2⟩) | (go_at_call 153; refine (of_one a ha _ _ _ _ ?_ ?_).mono ?_; rfl; rfl; rintro e W4 ⟨rfl, hb4⟩; have hk := (hk0.trans hk1).trans ((hk2.alloc _).trans (KP.of_below hb4)); have hR4 := (((hR.keptP hk1 (by omega) (by decide)).keptP hk2 (by omega) (by decide)).alloc _).grows hb4; obtain ⟨d0, d1, d2, d3, g0, g1, g2, g3⟩ := hR4.four))
      refine bodyPost_ret (results_cell_row rfl _ _ W.heap.size 43 _ (0, 0) _ rfl (hR4.set4 _ _ _ _).is Tryz.underlying43 rfl clsSize) rfl ⟨rfl, hq', ((h2.alloc _).grows hb4).set4 hR4 (by decide) (by omega) _ _ _ _, hk.set4 (Nat.le_refl _) _ _ _ _⟩
end Go.Proofs.YtgbbjobmcbdhdaaGreatDoor

/-
  Walks: the parser's classes.
-/
namespace Go.Proofs.YtgbbjobmcbdhdaaGreatDoor
open Go.RowKit

theorem held4 {W : World} {b : Nat} {u0 u1 u2 u3 : Value} {t : TypeId} (h : Blk W b #[u0, u1, u2, u3] t) :
    W.cell? ⟨b, 0, none⟩ = some u0 ∧ W.cell? ⟨b, 1, none⟩ = some u1 ∧ W.cell? ⟨b, 2, none⟩ = some u2 ∧ W.cell? ⟨b, 3, none⟩ = some u3 := ⟨h.cell 0 rfl, h.cell 1 rfl, h.cell 2 rfl, h.cell 3 rfl⟩
theorem hexS_gt {s : ByteArray} {p n q : Nat} (h : hexS (L s) p = .ok n q) : p < q := by
  unfold hexS at h
  split at h
  · cases h
  · split at h
    · cases h; omega
    · cases h
theorem expectS_gt {s : ByteArray} {c : UInt8} {p q : Nat} {u : Unit} (h : expectS (L s) c p = .ok u q) : q = p + 1 := by
  unfold expectS at h
  split at h
  · cases h
  · split at h
    · cases h; rfl
    · cases h
theorem charS_gt {s : ByteArray} {p n q : Nat} (h : charS (L s) p = .ok n q) : p < q := by
  unfold charS at h
  split at h
  · cases h
  · split at h
    · split at h
      · cases h
      · rename_i he
        have e0 := expectS_gt he
        split at h
        · cases h
        · rename_i h1 hh1
          have a := hexS_gt hh1
          split at h
          · cases h
          · rename_i h2 hh2
            have b := hexS_gt hh2
            cases h; omega
    · split at h
      · cases h; omega
      · cases h
theorem pairS_ok {s : ByteArray} {p q : Nat} {c : BitVec 256} (h : pairS (L s) p = .ok c q) : p < q ∧ q ≤ s.size := by
  unfold pairS at h
  split at h
  · cases h
  · rename_i a q1 ha
    have a1 := charS_gt ha
    have a2 := charS_ok ha
    split at h
    · split at h
      · cases h
      · rename_i b q2 hb
        have b1 := charS_gt hb
        have b2 := charS_ok hb
        split at h
        · cases h
        · cases h; omega
    · cases h; omega
set_option maxRecDepth 100000 in
set_option maxHeartbeats 4000000 in
theorem class_any {s : ByteArray} {p B f : Nat} {v : Value} {xs : List Nd} {W : World} {r : LR (BitVec 256)} (h : PS W B s p v xs) (hs : s.size ≤ 4000) (hle : p ≤ s.size) (hr : classS (L s) f p = some r) :
    Calls Tryz.prog 152 #[.pointer (some ⟨B, 0, none⟩)] W (PostL (fun (c : BitVec 256) => .agg #[.int .u64 (wd c 0), .int .u64 (wd c 1), .int .u64 (wd c 2), .int .u64 (wd c 3)]) B s v xs W r) := by
  have hB : B < W.heap.size := h.is.lt
  -- whether it is complemented
  have hn : ∃ (nb : Bool) (p1 : Nat) (r1 : LR (BitVec 256)), classLoop (L s) f 0 p1 = some r1 ∧ p1 ≤ s.size ∧ (r = match r1 with | .ok c q => .ok (if nb then rngQ 0 256 &&& ~~~c else c) q | .bad q er => .bad q er) ∧
      (∀ W1, PS W1 B s p v xs → Calls Tryz.prog 67 #[.pointer (some ⟨B, 0, none⟩), .int .u8 94] W1 fun e W' => e = .returned (.bool nb) ∧ PS W' B s p1 v xs ∧ KP B W1 W') := by
    unfold classS at hr
    by_cases h1 : (L s)[p]? = some 94
    · rw [if_pos h1] at hr
      have hp1 : p + 1 ≤ s.size := (at_some h1).1
      cases hl : classLoop (L s) f 0 (p + 1) with
      | none => rw [hl] at hr; cases hr
      | some r1 =>
        rw [hl] at hr
        refine ⟨true, p + 1, r1, hl, hp1, ?_, fun W1 k => (take_yes 94 rfl k hs h1).mono fun e W' ⟨a, _, b, c⟩ => ⟨a, b, c⟩⟩
        cases r1 with
        | ok c q => simp only [Option.some.injEq] at hr; rw [← hr]; rfl
        | bad q er => simp only [Option.some.injEq] at hr; rw [← hr]
    · rw [if_neg h1] at hr
      refine ⟨false, p, r, hr, hle, ?_, fun W1 k => (take_no 94 rfl k hs hle h1)⟩
      cases r <;> rfl
  obtain ⟨nb, p1, r1, hl, hp1, hres, hT⟩ := hn
  have HT := Lib.hid hT
  have HR := Lib.hid hres
  have HL := Lib.hid hl
  clear hT hres hl hr
  go_enter Tryz.func152, Tryz.ntmps152
  go_wp2_with (go_at_call 67; refine (HT.out _ (h.alloc _)).mono ?_; rintro e W1 ⟨rfl, h1, hk1⟩)
  have hR := (Blk.new W #[.int .u64 0, .int .u64 0, .int .u64 0, .int .u64 0] 43).keptP hk1 (by omega) (by decide)
  have hk0 : KP B W W1 := ((KP.refl B W).alloc _).trans hk1
  have hsz : W.heap.size < W1.heap.size := by have := hk1.size; simp at this; omega
  go_loopw [7] (fun _ wr => ∃ (f p : Nat) (c : BitVec 256), p ≤ s.size ∧ classLoop (L s) f c p = some r1 ∧ PS wr B s p v xs ∧ KP B W wr ∧ Blk wr W.heap.size #[.int .u64 0, .int .u64 0, .int .u64 0, .int .u64 0] 43 ∧ Blk wr W1.heap.size #[.int .u64 (wd c 0), .int .u64 (wd c 1), .int .u64 (wd c 2), .int .u64 (wd c 3)] 43 ∧ W1.heap.size < wr.heap.size) (fun _ wr => s.size - posOf wr B)
  case atStart =>
    refine ⟨f, p1, 0, hp1, HL.out, h1.alloc _, hk0.alloc _, hR.alloc _, ?_, by simp⟩
    simp only [wd_zero]
    exact Blk.new W1 _ _
  case round =>
    obtain ⟨f, p, c, hps, hl, hw, hkw, hRw, hCw, hlt⟩ := hrel
    have hpos : posOf wr B = p := posOf_eq hw
    cases f with
    | zero => cases hl
    | succ f =>
      rw [classLoop] at hl
      by_cases hb : (L s)[p]? = some 93
      · rw [if_pos hb] at hl
        have HY := Lib.hid (fun W1 (h1 : PS W1 B s p v xs) => take_yes 93 rfl h1 hs hb)
        have hr1 := Option.some.inj hl
        have hp1 : p + 1 ≤ s.size := (at_some hb).1
        clear hl hb
        cases nb with
        | true =>
          have HE := Lib.hid (show r = .ok (rngQ 0 256 &&& ~~~c) (p + 1) by rw [HR.out, ← hr1]; rfl)
          clear hr1
          go_wp2_with (first | (go_at_call 67; refine (HY.out _ hw).mono ?_; rintro e W2 ⟨rfl, hq2, h2, hk2⟩; have hC2 := hCw.keptP hk2 (by omega) (by decide); obtain ⟨c0, c1, c2, c3, -⟩ := hC2.four) | (go_at_call 179; refine (not_any c _).mono ?_; rintro e W4 ⟨rfl, hb4⟩; have hR4 := (hRw.keptP hk2 (by omega) (by decide)).grows hb4; obtain ⟨d0, d1, d2, d3, g0, g1, g2, g3⟩ := hR4.four))
          refine bodyPost_ret (results_cell_row rfl _ _ W.heap.size 43 _ (0, 0) _ rfl (hR4.set4 _ _ _ _).is Tryz.underlying43 rfl clsSize) rfl ?_
          rw [HE.out]
          exact ⟨rfl, hq2, (h2.grows hb4).set4 hR4 (by decide) (by omega) _ _ _ _, ((hkw.trans hk2).trans (KP.of_below hb4)).set4 (Nat.le_refl _) _ _ _ _⟩
        | false =>
          have HE := Lib.hid (show r = .ok c (p + 1) by rw [HR.out, ← hr1]; rfl)
          clear hr1
          go_wp2_with (first | (go_at_call 67; refine (HY.out _ hw).mono ?_; rintro e W2 ⟨rfl, hq2, h2, hk2⟩; have hC2 := hCw.keptP hk2 (by omega) (by decide); obtain ⟨c0, c1, c2, c3, -⟩ := hC2.four; have hR4 := (hRw.keptP hk2 (by omega) (by decide)); obtain ⟨d0, d1, d2, d3, g0, g1, g2, g3⟩ := hR4.four))
          refine bodyPost_ret (results_cell_row rfl _ _ W.heap.size 43 _ (0, 0) _ rfl (hR4.set4 _ _ _ _).is Tryz.underlying43 rfl clsSize) rfl ?_
          rw [HE.out]
          exact ⟨rfl, hq2, h2.set4 hR4 (by decide) (by omega) _ _ _ _, (hkw.trans hk2).set4 (Nat.le_refl _) _ _ _ _⟩
      · rw [if_neg hb] at hl
        have HY := Lib.hid (fun W1 (h1 : PS W1 B s p v xs) => take_no 93 rfl h1 hs hps hb)
        clear hb
        have HP := Lib.hid (fun W1 (h1 : PS W1 B s p v xs) => pair_any h1 hs hps)
        cases hP : pairS (L s) p with
        | bad q er =>
          rw [hP] at hl HP
          have HE := Lib.hid (show r = .bad q er by rw [HR.out, ← Option.some.inj hl])
          clear hl hP
          go_wp2_with (first | (go_at_call 67; refine (HY.out _ hw).mono ?_; rintro e W2 ⟨rfl, h2, hk2⟩))
          have hC2 := hCw.keptP hk2 (by omega) (by decide)
          obtain ⟨c0, c1, c2, c3, -⟩ := hC2.four
          refine wp_region_any (by kernel_rfl) ?_
          try (change wpAny _ _ _ _ _ _ _ (World.drew _))
          refine wpAny_ready (rs := [0, 1]) (by kernel_rfl) (by simp) ?_
          refine AllReady.cons rfl (fun K hK => ?_) (AllReady.cons rfl (fun K hK => ?_) AllReady.nil)
          · go_simp
            refine hK _ _ ?_
            clear hK K
            refine wpAny_ready (rs := [1]) (by kernel_rfl) (by simp) ?_
            refine AllReady.cons rfl (fun K hK => ?_) AllReady.nil
            go_simp
            refine hK _ _ ?_
            clear hK K
            refine wpAny_ready (rs := [2]) (by kernel_rfl) (by simp) ?_
            refine AllReady.cons rfl (fun K hK => ?_) AllReady.nil
            go_simp; (go_wp2_with (go_at_call 178; refine (HP.out _ h2.drew).mono ?_; rintro e W3 ⟨rfl, hk3⟩)); refine ⟨rfl, (?_ : PostL (fun (c : BitVec 256) => .agg #[.int .u64 (wd c 0), .int .u64 (wd c 1), .int .u64 (wd c 2), .int .u64 (wd c 3)]) B s v xs W r _ _)⟩; rw [HE.out]; exact ⟨rfl, (hkw.trans hk2).drew.trans hk3⟩
          · go_simp
            refine hK _ _ ?_
            clear hK K
            refine wpAny_ready (rs := [0, 2]) (by kernel_rfl) (by simp) ?_
            refine AllReady.cons rfl (fun K hK => ?_) (AllReady.cons rfl (fun K hK => ?_) AllReady.nil)
            · go_simp
              refine hK _ _ ?_
              clear hK K
              refine wpAny_ready (rs := [2]) (by kernel_rfl) (by simp) ?_
              refine AllReady.cons rfl (fun K hK => ?_) AllReady.nil
              go_simp; (go_wp2_with (go_at_call 178; refine (HP.out _ h2.drew).mono ?_; rintro e W3 ⟨rfl, hk3⟩)); refine ⟨rfl, (?_ : PostL (fun (c : BitVec 256) => .agg #[.int .u64 (wd c 0), .int .u64 (wd c 1), .int .u64 (wd c 2), .int .u64 (wd c 3)]) B s v xs W r _ _)⟩; rw [HE.out]; exact ⟨rfl, (hkw.trans hk2).drew.trans hk3⟩
            · go_simp; (go_wp2_with (go_at_call 178; refine (HP.out _ h2.drew).mono ?_; rintro e W3 ⟨rfl, hk3⟩)); refine ⟨rfl, (?_ : PostL (fun (c : BitVec 256) => .agg #[.int .u64 (wd c 0), .int .u64 (wd c 1), .int .u64 (wd c 2), .int .u64 (wd c 3)]) B s v xs W r _ _)⟩; rw [HE.out]; exact ⟨rfl, (hkw.trans hk2).drew.trans hk3⟩
        | ok d q =>
          rw [hP] at hl HP
          have HE := Lib.hid hl
          have hpq := pairS_ok hP
          clear hl hP
          go_wp2_with (first | (go_at_call 67; refine (HY.out _ hw).mono ?_; rintro e W2 ⟨rfl, h2, hk2⟩))
          have hC2 := hCw.keptP hk2 (by omega) (by decide)
          have HC2 := Lib.hid hC2
          have HS2 := Lib.hid (held4 hC2.drew)
          obtain ⟨a0, a1, a2, a3⟩ := HS2.out
          go_region_with (first | (go_at_call 178; refine (HP.out _ (h2.drew)).mono ?_; rintro e W3 ⟨rfl, hq3, h3, hk3⟩; have hC3 := HC2.out.drew.keptP hk3 (by omega) (by decide); obtain ⟨b0, b1, b2, b3⟩ := held4 hC3; have HC3 := Lib.hid hC3; clear hC3) | (go_at_call 177; refine (union_any c d _).mono ?_; rintro e W4 ⟨rfl, hb4⟩; have hC4 := HC3.out.grows hb4; obtain ⟨d0, d1, d2, d3, g0, g1, g2, g3⟩ := hC4.four))
          all_goals
            go_wp2
            go_roundw
            next => exact ⟨f, q, c ||| d, hpq.2, HE.out, (h3.grows hb4).set4 hC4 (by decide) (by omega) _ _ _ _, (((hkw.trans hk2).drew.trans hk3).trans (KP.of_below hb4)).set4 (by omega) _ _ _ _, (((hRw.keptP hk2 (by omega) (by decide)).drew.keptP hk3 (by omega) (by decide)).grows hb4).other4 (by omega) _ _ _ _, hC4.set4 _ _ _ _, by have e2 := hk2.size; have e3 := hk3.size; have e4 := hb4.size; simp at e3 ⊢; omega⟩
            next =>
              have h5 := (h3.grows hb4).set4 hC4 (by decide) (by omega) (.int .u64 (wd (c ||| d) 0)) (.int .u64 (wd (c ||| d) 1)) (.int .u64 (wd (c ||| d) 2)) (.int .u64 (wd (c ||| d) 3))
              have hp5 := posOf_eq h5
              obtain ⟨hpq1, hpq2⟩ := hpq
              omega
end Go.Proofs.YtgbbjobmcbdhdaaGreatDoor
