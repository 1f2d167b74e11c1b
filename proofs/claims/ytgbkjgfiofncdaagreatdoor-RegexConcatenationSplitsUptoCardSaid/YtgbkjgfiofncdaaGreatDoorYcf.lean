/-
  Texts of the proof, one behind another: Pm, Pn.
-/
import Derived.Test.YtgbkjgfiofncdaaGreatDoorYce
import Derived.Defers
import Derived.Recover
set_option linter.unusedSimpArgs false
set_option linter.unusedVariables false
/-
  Walks: concatenations, intersections, alternatives: the parser's recursion.
-/
namespace Go.Proofs.YtgbkjgfiofncdaaGreatDoor
open Go.RowKit

theorem takeS_le {s : List UInt8} {c : UInt8} : ∀ p q, takeS s c p = some q → p ≤ q := fun _ _ => takeS_fwd
theorem moreItem_le {s : List UInt8} : ∀ p q, moreItem s p = some q → p ≤ q := fun _ _ => moreItem_fwd
set_option maxRecDepth 100000 in
set_option maxHeartbeats 1000000 in
theorem cat_any {s : ByteArray} {B f : Nat} {alt : Nat → List Nd → PR} (hs : s.size ≤ 4000) (ha : ReadC 44 s B alt) (hf : Fwd alt) : ReadC 95 s B (catS (L s) alt f) := by
  intro p xs v W h hle hne
  have hmf : ∀ (fn : Fn) (first cap : Array Value) (w : World), (Instr.makeFunc fn first cap).run Tryz.prog w = .ok (.func fn first cap) w := fun _ _ _ _ => rfl
  have HC := Lib.hid (chainCat (f := f) 4 (item_any hs ha f) (itemS_fwd hf f) moreItem_le (atItem_any hs) h hle hne)
  generalize hX : catS (L s) alt f p xs = X at hne
  have HX := Lib.hid (show chainS 4 (itemS (L s) alt f f) (moreItem (L s)) f p xs = X from hX)
  rw [HX.out] at HC
  clear hX ha hf
  go_enter Tryz.func95, Tryz.ntmps95
  cases X with
  | out => exact absurd rfl hne
  | bad q er =>
    clear hne
    go_wp2_with (first | (go_at_call 64; refine HC.out.mono ?_; rintro e W1 ⟨rfl, hk1⟩))
    exact ⟨rfl, rfl, hk1⟩
  | ok l q ys =>
    clear hne
    go_wp2_with (first | (go_at_call 64; refine HC.out.mono ?_; rintro e W1 ⟨rfl, hq1, h1, hk1⟩))
    go_ret
    exact ⟨rfl, hq1, h1, hk1⟩
set_option maxRecDepth 100000 in
set_option maxHeartbeats 1000000 in
theorem and_any {s : ByteArray} {B f : Nat} {alt : Nat → List Nd → PR} (hs : s.size ≤ 4000) (ha : ReadC 44 s B alt) (hf : Fwd alt) : ReadC 65 s B (andS (L s) alt f) := by
  intro p xs v W h hle hne
  have hB : B < W.heap.size := h.is.lt
  have hmf : ∀ (fn : Fn) (first cap : Array Value) (w : World), (Instr.makeFunc fn first cap).run Tryz.prog w = .ok (.func fn first cap) w := fun _ _ _ _ => rfl
  have HC := Lib.hid (chainAnd (f := f) 6 (cat_any (f := f) hs ha hf) (catS_fwd hf) takeS_le (moreAnd hs) (Blk.new W #[.pointer (some ⟨B, 0, none⟩)] 102) (by omega) (h.alloc _) hle hne)
  generalize hX : andS (L s) alt f p xs = X at hne
  have HX := Lib.hid (show chainS 6 (catS (L s) alt f) (takeS (L s) 38) f p xs = X from hX)
  rw [HX.out] at HC
  clear hX ha hf
  have hk0 : KP B W (W.alloc (.cells #[.pointer (some ⟨B, 0, none⟩)] 102)) := (KP.refl B W).alloc _
  go_enter Tryz.func65, Tryz.ntmps65
  cases X with
  | out => exact absurd rfl hne
  | bad q er =>
    clear hne
    go_wp2_with (first | (go_at_call 64; refine HC.out.mono ?_; rintro e W1 ⟨rfl, hk1⟩))
    exact ⟨rfl, rfl, hk0.trans hk1⟩
  | ok l q ys =>
    clear hne
    go_wp2_with (first | (go_at_call 64; refine HC.out.mono ?_; rintro e W1 ⟨rfl, hq1, h1, hk1⟩))
    go_ret
    exact ⟨rfl, hq1, h1, hk0.trans hk1⟩
set_option maxRecDepth 100000 in
set_option maxHeartbeats 1000000 in
theorem alt_any {s : ByteArray} {B : Nat} (hs : s.size ≤ 4000) : ∀ f, ReadC 44 s B (altS (L s) f)
  | 0 => fun _ _ _ _ _ _ hne => absurd rfl hne
  | f + 1 => by
    intro p xs v W h hle hne
    have ha := alt_any (B := B) hs f
    have hf := altS_fwd (s := L s) f
    have hB : B < W.heap.size := h.is.lt
    have hmf : ∀ (fn : Fn) (first cap : Array Value) (w : World), (Instr.makeFunc fn first cap).run Tryz.prog w = .ok (.func fn first cap) w := fun _ _ _ _ => rfl
    have HC := Lib.hid (chainAlt (f := f) 5 (and_any (f := f) hs ha hf) (andS_fwd hf) takeS_le (moreAlt hs) (Blk.new W #[.pointer (some ⟨B, 0, none⟩)] 102) (by omega) (h.alloc _) hle hne)
    generalize hX : altS (L s) (f + 1) p xs = X at hne
    have HX := Lib.hid (show chainS 5 (andS (L s) (altS (L s) f) f) (takeS (L s) 124) f p xs = X from hX)
    rw [HX.out] at HC
    clear hX ha hf
    have hk0 : KP B W (W.alloc (.cells #[.pointer (some ⟨B, 0, none⟩)] 102)) := (KP.refl B W).alloc _
    go_enter Tryz.func44, Tryz.ntmps44
    cases X with
    | out => exact absurd rfl hne
    | bad q er =>
      clear hne
      go_wp2_with (first | (go_at_call 64; refine HC.out.mono ?_; rintro e W1 ⟨rfl, hk1⟩))
      exact ⟨rfl, rfl, hk0.trans hk1⟩
    | ok l q ys =>
      clear hne
      go_wp2_with (first | (go_at_call 64; refine HC.out.mono ?_; rintro e W1 ⟨rfl, hq1, h1, hk1⟩))
      go_ret
      exact ⟨rfl, hq1, h1, hk0.trans hk1⟩
end Go.Proofs.YtgbkjgfiofncdaaGreatDoor

/-
  Walks: Parse.
-/
namespace Go.Proofs.YtgbkjgfiofncdaaGreatDoor
open Go.RowKit

set_option maxRecDepth 100000 in
set_option maxHeartbeats 1000000 in
theorem catch_idle (p q r : Addr) (w : World) :
    CallsD Tryz.prog 43 #[.pointer (some p), .pointer (some q), .pointer (some r)] .returning w fun e u' w' => e = .returned (.tuple #[]) ∧ u' = .returning ∧ w' = w.alloc (.cells #[.int .i64 0, .int .i64 0] 72) := by
  refine callsD_of_wpS Tryz.func43 rfl fun c₀ cs hu => ?_
  have hta : ∀ w, (Instr.typeAssert .nilIface 20 72 true).run Tryz.prog w = .ok (.tuple #[.agg #[.int .i64 0, .int .i64 0], .bool false]) w := fun _ => by kernel_rfl
  simp only [Tryz.ntmps43, List.size_toArray, List.length_cons, List.length_nil, Nat.reduceAdd, Nat.reduceSub, Array.replicate_succ, Array.replicate_zero, List.push_toArray, List.append_toArray, List.nil_append, List.cons_append]
  apply wpS_seq
  apply wpS_region
  simp [wpOpsS, go_sem, recoverD, hu, Exit.thenS, hta]
  refine wpS_of_wp ?_
  go_wp2
  cases c₀
  simp_all [bodyPostS, results, Tryz.results43, Exit.thenS]
set_option maxRecDepth 100000 in
set_option maxHeartbeats 1000000 in
theorem catch_bad (b : Nat) (a er : Int) (older : List PanicEntry) (v0 v1 v2 : Value) (w : World)
    (h0 : Blk w b #[v0] 23) (h1 : Blk w (b + 1) #[v1] 3) (h2 : Blk w (b + 1 + 1) #[v2] 27) :
    CallsD Tryz.prog 43 #[.pointer (some ⟨b, 0, none⟩), .pointer (some ⟨b + 1, 0, none⟩), .pointer (some ⟨b + 1 + 1, 0, none⟩)] (.panicking ({ v := .iface 72 (.agg #[.int .i64 a, .int .i64 er]), recovered := false } :: older)) w fun e u' w' =>
      e = .returned (.tuple #[]) ∧ u' = .panicking ({ v := .iface 72 (.agg #[.int .i64 a, .int .i64 er]), recovered := true } :: older) ∧
        Blk w' b #[.slice none 0 0] 23 ∧ Blk w' (b + 1) #[.int .i64 a] 3 ∧ Blk w' (b + 1 + 1) #[.int .i64 er] 27 ∧ Below b w w' := by
  refine callsD_of_wpS Tryz.func43 rfl fun c₀ cs hu => ?_
  have hta : ∀ w, (Instr.typeAssert (.iface 72 (.agg #[.int .i64 a, .int .i64 er])) 20 72 true).run Tryz.prog w = .ok (.tuple #[.agg #[.int .i64 a, .int .i64 er], .bool true]) w := fun _ => by kernel_rfl
  simp only [Tryz.ntmps43, List.size_toArray, List.length_cons, List.length_nil, Nat.reduceAdd, Nat.reduceSub, Array.replicate_succ, Array.replicate_zero, List.push_toArray, List.append_toArray, List.nil_append, List.cons_append]
  have c0 := h0.cell 0 rfl
  have c1 := h1.cell 0 rfl
  have c2 := h2.cell 0 rfl
  have f0 := h0.free 0
  have f1 := h1.free 0
  have f2 := h2.free 0
  have l0 := h0.lt
  have l1 := h1.lt
  have l2 := h2.lt
  apply wpS_seq
  apply wpS_region
  simp [wpOpsS, go_sem, recoverD, hu, Exit.thenS, hta]
  refine wpS_of_wp ?_
  go_wp2
  go_region
  all_goals go_wp2
  simp [bodyPostS, results, Tryz.results43, Exit.thenS, hu]
  exact ⟨((((h0.set 0 _).other (by simp <;> omega) _).other (by simp <;> omega) _).alloc _).drew.cast rfl,
    (((((h1.other (by simp <;> omega) _).set 0 _).other (by simp <;> omega) _).alloc _).drew).cast rfl,
    (((((h2.other (by simp <;> omega) _).other (by simp <;> omega) _).set 0 _).alloc _).drew).cast rfl,
    ((((((Below.refl b w).setCell (p := ⟨b, 0, none⟩) (Nat.le_refl _) _).setCell (p := ⟨b + 1, 0, none⟩) (by simp <;> omega) _).setCell (p := ⟨b + 1 + 1, 0, none⟩) (by simp <;> omega) _).alloc (by simp; omega) _).drew)⟩
/-- what Parse gives. -/
def ParseR (W : World) : Except (Nat × Int) (List Nd) → Ending → World → Prop
  | .error (q, er), e, W' => e = .returned (.tuple #[.slice none 0 0, .int .i64 (q : Int), .int .i64 er]) ∧ Below W.heap.size W W'
  | .ok ys, e, W' => (∃ v, e = .returned (.tuple #[v, .int .i64 0, .int .i64 0]) ∧ W'.ownsRow W.heap.size 45 9 v ys.length (ys.flatMap encN)) ∧ Below W.heap.size W W'
set_option maxRecDepth 100000 in
set_option maxHeartbeats 1000000 in
theorem parse_long (s : ByteArray) (W : World) (hs : 4000 < s.size) :
    Calls Tryz.prog 23 #[.string s] W (ParseR W (.error (0, 2))) := by
  have t1 : decide ((4000 : Int) < (s.size : Int)) = true := by simp; omega
  go_enter_defers Tryz.func23, Tryz.ntmps23
  go_wp2
  simp [bodyPostD, Leaves, settle, results, Tryz.results23, go_sem]
  exact ⟨rfl, by go_grown⟩
theorem KP.below {B b : Nat} {W W' : World} (h : KP B W W') (hb : b ≤ B) (hs : b ≤ W.heap.size) : Below b W W' :=
  ⟨h.os, h.tape, h.output, h.size, fun k hk => h.block k (by omega) (by omega) (fun hlt => by omega)⟩
theorem start_ps (W : World) (s : ByteArray) : PS ((((W.alloc (.cells #[.slice none 0 0] 23)).alloc (.cells #[.int .i64 0] 3)).alloc (.cells #[.int .i64 0] 27)).alloc (.cells #[.string s, .int .i64 0, .slice none 0 0] 75)) (W.heap.size + 3) s 0 (.slice none 0 0) [] :=
  ⟨Blk.alloc3 W _ _ _ _ _, World.ownsRow_nil _ _ _ _⟩
theorem start_below (W : World) (s : ByteArray) : Below W.heap.size W ((((W.alloc (.cells #[.slice none 0 0] 23)).alloc (.cells #[.int .i64 0] 3)).alloc (.cells #[.int .i64 0] 27)).alloc (.cells #[.string s, .int .i64 0, .slice none 0 0] 75)) := by go_grown
theorem start_blk {W W1 : World} {s : ByteArray} (hk : KP (W.heap.size + 3) ((((W.alloc (.cells #[.slice none 0 0] 23)).alloc (.cells #[.int .i64 0] 3)).alloc (.cells #[.int .i64 0] 27)).alloc (.cells #[.string s, .int .i64 0, .slice none 0 0] 75)) W1) :
    Blk W1 W.heap.size #[.slice none 0 0] 23 ∧ Blk W1 (W.heap.size + 1) #[.int .i64 0] 3 ∧ Blk W1 (W.heap.size + 1 + 1) #[.int .i64 0] 27 :=
  ⟨((((Blk.new W _ _).alloc _).alloc _).alloc _).keptP hk (by omega) (by decide), (((Blk.alloc1 W _ _ _ _ _).alloc _).alloc _).keptP hk (by omega) (by decide), ((Blk.alloc2 W _ _ _ _).alloc _).keptP hk (by omega) (by decide)⟩
set_option maxRecDepth 100000 in
set_option maxHeartbeats 1000000 in
theorem parse_any (s : ByteArray) (W : World) (hs : s.size ≤ 4000) (f : Nat) (r : Except (Nat × Int) (List Nd)) (hr : parseS (L s) f = some r) :
    Calls Tryz.prog 23 #[.string s] W (ParseR W r) := by
  have t1 : decide ((4000 : Int) < (s.size : Int)) = false := by simp; omega
  have hmf : ∀ (fn : Fn) (first cap : Array Value) (w : World), (Instr.makeFunc fn first cap).run Tryz.prog w = .ok (.func fn first cap) w := fun _ _ _ _ => rfl
  unfold parseS at hr
  rw [if_neg (by simp; omega)] at hr
  cases hx : altS (L s) f 0 [] with
  | out => rw [hx] at hr; cases hr
  | bad q er =>
    rw [hx] at hr
    obtain rfl := Option.some.inj hr
    have HA := Lib.hid (fun (W1 : World) (h1 : PS W1 (W.heap.size + 3) s 0 (.slice none 0 0) []) => alt_any hs f 0 [] (.slice none 0 0) W1 h1 (Nat.zero_le _) (by rw [hx]; intro e; cases e))
    rw [hx] at HA
    clear hx hr
    go_enter_defers Tryz.func23, Tryz.ntmps23
    go_wp2_with (first | (go_at_call 44; refine (HA.out _ (start_ps W s)).mono ?_; rintro e W1 ⟨rfl, hk1⟩))
    have hb := start_blk hk1
    refine leaves_cons (f := 43) (args := #[.pointer (some ⟨W.heap.size, 0, none⟩), .pointer (some ⟨W.heap.size + 1, 0, none⟩), .pointer (some ⟨W.heap.size + 1 + 1, 0, none⟩)]) (by simp) (by simp [go_sem]) ?_
    refine (catch_bad W.heap.size q er [] _ _ _ W1 hb.1 hb.2.1 hb.2.2).mono ?_
    rintro e u' w'' ⟨rfl, rfl, g0, g1, g2, hbw⟩
    have c0 := g0.cell 0 rfl
    have c1 := g1.cell 0 rfl
    have c2 := g2.cell 0 rfl
    simp [Leaves, settle, results, Tryz.results23, go_sem, c0, c1, c2]
    exact ⟨rfl, ((start_below W s).trans (hk1.below (by omega) (by simp; omega))).trans hbw⟩
  | ok l q ys =>
    rw [hx] at hr
    dsimp only at hr
    have HA := Lib.hid (fun (W1 : World) (h1 : PS W1 (W.heap.size + 3) s 0 (.slice none 0 0) []) => alt_any hs f 0 [] (.slice none 0 0) W1 h1 (Nat.zero_le _) (by rw [hx]; intro e; cases e))
    rw [hx] at HA
    clear hx
    by_cases hq : q < s.size
    · rw [if_pos (by simpa using hq)] at hr
      obtain rfl := Option.some.inj hr
      clear hr
      have t2 : decide ((q : Int) < (s.size : Int)) = true := by simp; omega
      go_enter_defers Tryz.func23, Tryz.ntmps23
      go_wp2_with (first | (go_at_call 44; refine (HA.out _ (start_ps W s)).mono ?_; rintro e W1 ⟨rfl, hq1, ⟨v1, h1⟩, hk1⟩; obtain ⟨vp, vc, rfl⟩ := own_shape h1.own; obtain ⟨a0, a1, a2, f0, f1, f2⟩ := h1.to_cells; have hb := start_blk hk1; have b0 := hb.1.cell 0 rfl; have b1 := hb.2.1.cell 0 rfl; have b2 := hb.2.2.cell 0 rfl; have g0 := hb.1.free 0; have g1 := hb.2.1.free 0; have g2 := hb.2.2.free 0; clear hb))
      have hb := start_blk hk1
      refine leaves_cons (f := 43) (args := #[.pointer (some ⟨W.heap.size, 0, none⟩), .pointer (some ⟨W.heap.size + 1, 0, none⟩), .pointer (some ⟨W.heap.size + 1 + 1, 0, none⟩)]) (by simp) (by simp [go_sem]) ?_
      refine (catch_bad W.heap.size q 20 [] _ _ _ W1 hb.1 hb.2.1 hb.2.2).mono ?_
      rintro e u' w'' ⟨rfl, rfl, g0, g1, g2, hbw⟩
      have c0 := g0.cell 0 rfl
      have c1 := g1.cell 0 rfl
      have c2 := g2.cell 0 rfl
      simp [Leaves, settle, results, Tryz.results23, go_sem, c0, c1, c2]
      exact ⟨rfl, ((start_below W s).trans (hk1.below (by omega) (by simp; omega))).trans hbw⟩
    · rw [if_neg (by simpa using hq)] at hr
      have t2 : decide ((q : Int) < (s.size : Int)) = false := by simp; omega
      by_cases hn : 200 < ys.length
      · rw [if_pos hn] at hr
        obtain rfl := Option.some.inj hr
        clear hr
        have t3 : decide ((200 : Int) < (ys.length : Int)) = true := by simp; omega
        go_enter_defers Tryz.func23, Tryz.ntmps23
        go_wp2_with (first | (go_at_call 44; refine (HA.out _ (start_ps W s)).mono ?_; rintro e W1 ⟨rfl, hq1, ⟨v1, h1⟩, hk1⟩; obtain ⟨vp, vc, rfl⟩ := own_shape h1.own; obtain ⟨a0, a1, a2, f0, f1, f2⟩ := h1.to_cells; have hb := start_blk hk1; have b0 := hb.1.cell 0 rfl; have b1 := hb.2.1.cell 0 rfl; have b2 := hb.2.2.cell 0 rfl; have g0 := hb.1.free 0; have g1 := hb.2.1.free 0; have g2 := hb.2.2.free 0; clear hb))
        have hb := start_blk hk1
        refine leaves_cons (f := 43) (args := #[.pointer (some ⟨W.heap.size, 0, none⟩), .pointer (some ⟨W.heap.size + 1, 0, none⟩), .pointer (some ⟨W.heap.size + 1 + 1, 0, none⟩)]) (by simp) (by simp [go_sem]) ?_
        refine (catch_bad W.heap.size s.size 2 [] _ _ _ W1 hb.1 hb.2.1 hb.2.2).mono ?_
        rintro e u' w'' ⟨rfl, rfl, g0, g1, g2, hbw⟩
        have c0 := g0.cell 0 rfl
        have c1 := g1.cell 0 rfl
        have c2 := g2.cell 0 rfl
        simp [Leaves, settle, results, Tryz.results23, go_sem, c0, c1, c2]
        exact ⟨rfl, ((start_below W s).trans (hk1.below (by omega) (by simp; omega))).trans hbw⟩
      · rw [if_neg hn] at hr
        obtain rfl := Option.some.inj hr
        clear hr
        have t3 : decide ((200 : Int) < (ys.length : Int)) = false := by simp; omega
        go_enter_defers Tryz.func23, Tryz.ntmps23
        go_wp2_with (first | (go_at_call 44; refine (HA.out _ (start_ps W s)).mono ?_; rintro e W1 ⟨rfl, hq1, ⟨v1, h1⟩, hk1⟩; obtain ⟨vp, vc, rfl⟩ := own_shape h1.own; obtain ⟨a0, a1, a2, f0, f1, f2⟩ := h1.to_cells; have hb := start_blk hk1; have b0 := hb.1.cell 0 rfl; have b1 := hb.2.1.cell 0 rfl; have b2 := hb.2.2.cell 0 rfl; have g0 := hb.1.free 0; have g1 := hb.2.1.free 0; have g2 := hb.2.2.free 0; clear hb))
        have hb := start_blk hk1
        have HO := Lib.hid h1.own
        have HBel := Lib.hid ((start_below W s).trans (hk1.below (b := W.heap.size) (by omega) (by simp; omega)))
        have e0 := ((((hb.1.set 0 (.slice vp ys.length vc)).other (a := ⟨W.heap.size + 1, 0, none⟩) (by simp) (.int .i64 0)).other (a := ⟨W.heap.size + 1 + 1, 0, none⟩) (by simp <;> omega) (.int .i64 0)).alloc (.cells #[.int .i64 0, .int .i64 0] 72)).cell 0 rfl
        have e1 := ((((hb.2.1.other (a := ⟨W.heap.size, 0, none⟩) (by simp) (.slice vp ys.length vc)).set 0 (.int .i64 0)).other (a := ⟨W.heap.size + 1 + 1, 0, none⟩) (by simp <;> omega) (.int .i64 0)).alloc (.cells #[.int .i64 0, .int .i64 0] 72)).cell 0 rfl
        have e2 := ((((hb.2.2.other (a := ⟨W.heap.size, 0, none⟩) (by simp <;> omega) (.slice vp ys.length vc)).other (a := ⟨W.heap.size + 1, 0, none⟩) (by simp <;> omega) (.int .i64 0)).set 0 (.int .i64 0)).alloc (.cells #[.int .i64 0, .int .i64 0] 72)).cell 0 rfl
        clear hb
        refine leaves_cons (f := 43) (args := #[.pointer (some ⟨W.heap.size, 0, none⟩), .pointer (some ⟨W.heap.size + 1, 0, none⟩), .pointer (some ⟨W.heap.size + 1 + 1, 0, none⟩)]) (by simp) (by simp [go_sem]) ?_
        refine (catch_idle _ _ _ _).mono ?_
        rintro e u' w'' ⟨rfl, rfl, rfl⟩
        simp [Leaves, settle, results, Tryz.results23, go_sem, e0, e1, e2, b0, b1, b2, g0, g1, g2]
        exact ⟨⟨_, rfl, own_mono (own_alloc (own_set (own_set (own_set HO.out (by simp <;> omega) _) (by simp <;> omega) _) (by simp <;> omega) _) _) (by omega)⟩,
          (((HBel.out.setCell (p := ⟨W.heap.size, 0, none⟩) (Nat.le_refl _) _).setCell (p := ⟨W.heap.size + 1, 0, none⟩) (by simp) _).setCell (p := ⟨W.heap.size + 1 + 1, 0, none⟩) (by simp <;> omega) _).alloc (by have := HBel.out.size; simpa using this) _⟩
end Go.Proofs.YtgbkjgfiofncdaaGreatDoor
