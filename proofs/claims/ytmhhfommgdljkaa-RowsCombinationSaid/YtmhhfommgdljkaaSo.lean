/-
  Walks: Solve and the function that it defers.
-/
import Derived.Test.YtmhhfommgdljkaaRf
import Derived.Defers
import Derived.Recover
set_option linter.unusedSimpArgs false
set_option linter.unusedVariables false
namespace Go.Proofs.Ytmhhfommgdljkaa
open Go.RowKit Go.Lib

set_option maxRecDepth 100000 in
set_option maxHeartbeats 1000000 in
theorem catch_idle (p q r t : Addr) (w : World) :
    CallsD Try.prog 22 #[.pointer (some p), .pointer (some q), .pointer (some r), .pointer (some t)] .returning w fun e u' w' => e = .returned (.tuple #[]) ∧ u' = .returning ∧ w' = w := by
  refine callsD_of_wpS Try.func22 rfl fun c₀ cs hu => ?_
  have hta : ∀ w, (Instr.typeAssert .nilIface 20 51 true).run Try.prog w = .ok (.tuple #[.slice none 0 0, .bool false]) w := fun _ => by kernel_rfl
  simp only [Try.ntmps22, List.size_toArray, List.length_cons, List.length_nil, Nat.reduceAdd, Nat.reduceSub, Array.replicate_succ, Array.replicate_zero, List.push_toArray, List.append_toArray, List.nil_append, List.cons_append]
  apply wpS_seq
  apply wpS_region
  simp [wpOpsS, go_sem, recoverD, hu, Exit.thenS, hta]
  refine wpS_of_wp ?_
  go_wp2
  cases c₀
  simp_all [bodyPostS, results, Try.results22, Exit.thenS]
set_option maxRecDepth 100000 in
set_option maxHeartbeats 1000000 in
theorem catch_found (b : Nat) (xp : Option Addr) (xn xc : Nat) (older : List PanicEntry) (v0 v1 v2 v3 : Value) (w : World)
    (h0 : Blk w b #[v0] 22) (h1 : Blk w (b + 1) #[v1] 29) (h2 : Blk w (b + 1 + 1) #[v2] 4) (h3 : Blk w (b + 1 + 1 + 1) #[v3] 30) :
    CallsD Try.prog 22 #[.pointer (some ⟨b, 0, none⟩), .pointer (some ⟨b + 1, 0, none⟩), .pointer (some ⟨b + 1 + 1, 0, none⟩), .pointer (some ⟨b + 1 + 1 + 1, 0, none⟩)] (.panicking ({ v := .iface 51 (.slice xp xn xc), recovered := false } :: older)) w fun e u' w' =>
      e = .returned (.tuple #[]) ∧ u' = .panicking ({ v := .iface 51 (.slice xp xn xc), recovered := true } :: older) ∧
        Blk w' b #[.slice xp xn xc] 22 ∧ Blk w' (b + 1) #[.slice none 0 0] 29 ∧ Blk w' (b + 1 + 1) #[.bool true] 4 ∧ Blk w' (b + 1 + 1 + 1) #[.int .i64 0] 30 ∧ Below b w w' ∧ KeptTy KS w w' := by
  refine callsD_of_wpS Try.func22 rfl fun c₀ cs hu => ?_
  have hta : ∀ w, (Instr.typeAssert (.iface 51 (.slice xp xn xc)) 20 51 true).run Try.prog w = .ok (.tuple #[.slice xp xn xc, .bool true]) w := fun _ => by kernel_rfl
  simp only [Try.ntmps22, List.size_toArray, List.length_cons, List.length_nil, Nat.reduceAdd, Nat.reduceSub, Array.replicate_succ, Array.replicate_zero, List.push_toArray, List.append_toArray, List.nil_append, List.cons_append]
  have c0 := h0.cell 0 rfl
  have c1 := h1.cell 0 rfl
  have c2 := h2.cell 0 rfl
  have c3 := h3.cell 0 rfl
  have f0 := h0.free 0
  have f1 := h1.free 0
  have f2 := h2.free 0
  have f3 := h3.free 0
  have l0 := h0.lt
  have l1 := h1.lt
  have l2 := h2.lt
  have l3 := h3.lt
  apply wpS_seq
  apply wpS_region
  simp [wpOpsS, go_sem, recoverD, hu, Exit.thenS, hta]
  refine wpS_of_wp ?_
  go_wp2
  simp [bodyPostS, results, Try.results22, Exit.thenS, hu]
  have n01 : b ≠ b + 1 := by omega
  have n02 : b ≠ b + 1 + 1 := by omega
  have n03 : b ≠ b + 1 + 1 + 1 := by omega
  have n12 : b + 1 ≠ b + 1 + 1 := by omega
  have n13 : b + 1 ≠ b + 1 + 1 + 1 := by omega
  have n23 : b + 1 + 1 ≠ b + 1 + 1 + 1 := by omega
  have k0 := KeptTy.set (p := ⟨b, 0, none⟩) h0 (show ¬ KS 22 by unfold KS; decide) (.slice xp xn xc)
  have a1 := h1.other (a := ⟨b, 0, none⟩) (Ne.symm n01) (.slice xp xn xc)
  have k1 := KeptTy.set (p := ⟨b + 1, 0, none⟩) a1 (show ¬ KS 29 by unfold KS; decide) (.slice none 0 0)
  have a2 := (h2.other (a := ⟨b, 0, none⟩) (Ne.symm n02) (.slice xp xn xc)).other (a := ⟨b + 1, 0, none⟩) (Ne.symm n12) (.slice none 0 0)
  have k2 := KeptTy.set (p := ⟨b + 1 + 1, 0, none⟩) a2 (show ¬ KS 4 by unfold KS; decide) (.bool true)
  have a3 := ((h3.other (a := ⟨b, 0, none⟩) (Ne.symm n03) (.slice xp xn xc)).other (a := ⟨b + 1, 0, none⟩) (Ne.symm n13) (.slice none 0 0)).other (a := ⟨b + 1 + 1, 0, none⟩) (Ne.symm n23) (.bool true)
  have k3 := KeptTy.set (p := ⟨b + 1 + 1 + 1, 0, none⟩) a3 (show ¬ KS 30 by unfold KS; decide) (.int .i64 0)
  exact ⟨(((h0.set 0 _).other n01 _).other n02 _).other n03 _, ((a1.set 0 _).other n12 _).other n13 _, (a2.set 0 _).other n23 _, a3.set 0 _,
    ((((Below.refl b w).setCell (p := ⟨b, 0, none⟩) (Nat.le_refl _) _).setCell (p := ⟨b + 1, 0, none⟩) (by show b ≤ b + 1; omega) _).setCell (p := ⟨b + 1 + 1, 0, none⟩) (by show b ≤ b + 1 + 1; omega) _).setCell (p := ⟨b + 1 + 1 + 1, 0, none⟩) (by show b ≤ b + 1 + 1 + 1; omega) _,
    ((k0.trans k1).trans k2).trans k3⟩
/-- what Solve answers for a system that is not too large. -/
def SolveRes (w : World) (s : Sy) (e : Ending) (w' : World) : Prop :=
  Below w.heap.size w w' ∧
  ((∃ x v, Least s.R (wholeB s) x ∧ e = .returned (.tuple #[v, .slice none 0 0, .bool true, .int .i64 0]) ∧ IsI w' v x) ∨
   (NoSol s.R (wholeB s) ∧ ∃ v N, e = .returned (.tuple #[.slice none 0 0, v, .bool false, .int .i64 0]) ∧ PfAt w.heap.size w' v N ∧ checkB s N = true))
def ErrRes (w : World) (er : Int) (e : Ending) (w' : World) : Prop := Below w.heap.size w w' ∧ e = .returned (.tuple #[.slice none 0 0, .slice none 0 0, .bool false, .int .i64 er])
theorem vol_pts : ∀ (T : List Int) (f g : Nat → Int), (∀ t ∈ T, 0 ≤ t ∧ t ≤ 64) → ((vol (T.mapIdx fun i t => (⟨0, t, f i, g i⟩ : Iv)) : Nat) : Int) = pts T
  | [], _, _, _ => by simp [vol, pts]
  | t :: T, f, g, h => by
    have h1 := h t (by simp)
    have ih := vol_pts T (fun i => f (i + 1)) (fun i => g (i + 1)) fun u hu => h u (by simp [hu])
    simp only [List.mapIdx_cons, vol, pts]
    rw [← ih]
    push_cast
    congr 1
    omega
theorem vol_small {s : Sy} (hV : validB s = true) (h : smallB s.T = true) : vol (wholeB s) ≤ 16384 := by
  have h1 := vol_pts s.T (fun i => ((s.R.length + i : Nat) : Int)) (fun i => ((s.R.length + s.T.length + i : Nat) : Int)) (valid_iff.1 hV).2.1
  have h2 := of_decide_eq_true h
  unfold wholeB
  omega
theorem calls_world {P : Program} {f : FuncId} {args : Array Value} {W : World} {Q : Ending → World → Prop} (h : ∀ W', W' = W → Calls P f args W' Q) : Calls P f args W Q := h W rfl
/-- the variables of a call of Solve, as it begins. -/
structure Five (w W : World) (sv : Array Value) : Prop where
  sys : Blk W w.heap.size sv 25
  x : Blk W (w.heap.size + 1) #[.slice none 0 0] 22
  p : Blk W (w.heap.size + 1 + 1) #[.slice none 0 0] 29
  ok : Blk W (w.heap.size + 1 + 1 + 1) #[.bool false] 4
  err : Blk W (w.heap.size + 1 + 1 + 1 + 1) #[.int .i64 0] 30
  bel : Below w.heap.size w W
theorem Five.grows {w W W' : World} {sv : Array Value} (h : Five w W sv) (hb : Below W.heap.size W W') : Five w W' sv :=
  ⟨h.sys.grows hb, h.x.grows hb, h.p.grows hb, h.ok.grows hb, h.err.grows hb, below_two h.bel hb⟩
theorem Five.keep {w W W' : World} {sv : Array Value} (h : Five w W sv) {B : Nat} (hb : Below B W W') (hB : w.heap.size + 1 + 1 + 1 + 1 < B) : Five w W' sv :=
  ⟨h.sys.below hb (by omega), h.x.below hb (by omega), h.p.below hb (by omega), h.ok.below hb (by omega), h.err.below hb (by omega), h.bel.trans (hb.mono (by omega))⟩
theorem Five.start (w : World) (sv : Array Value) : Five w (((((w.alloc (.cells sv 25)).alloc (.cells #[.slice none 0 0] 22)).alloc (.cells #[.slice none 0 0] 29)).alloc (.cells #[.bool false] 4)).alloc (.cells #[.int .i64 0] 30)) sv := by
  refine ⟨((((Blk.new w _ _).alloc _).alloc _).alloc _).alloc _, (((Blk.alloc1 w _ _ _ _ _).alloc _).alloc _).alloc _, ((Blk.alloc2 w _ _ _ _).alloc _).alloc _, (Blk.alloc3 w _ _ _ _ _).alloc _, ?_, by go_grown⟩
  have h := Blk.new ((((w.alloc (.cells sv 25)).alloc (.cells #[.slice none 0 0] 22)).alloc (.cells #[.slice none 0 0] 29)).alloc (.cells #[.bool false] 4)) #[.int .i64 0] 30
  simpa using h
theorem Five.stored {w W : World} {sv : Array Value} (h : Five w W sv) (x p o e : Value) :
    Blk ((((W.setCell ⟨w.heap.size + 1, 0, none⟩ x).setCell ⟨w.heap.size + 1 + 1, 0, none⟩ p).setCell ⟨w.heap.size + 1 + 1 + 1, 0, none⟩ o).setCell ⟨w.heap.size + 1 + 1 + 1 + 1, 0, none⟩ e) (w.heap.size + 1) #[x] 22 ∧
    Blk ((((W.setCell ⟨w.heap.size + 1, 0, none⟩ x).setCell ⟨w.heap.size + 1 + 1, 0, none⟩ p).setCell ⟨w.heap.size + 1 + 1 + 1, 0, none⟩ o).setCell ⟨w.heap.size + 1 + 1 + 1 + 1, 0, none⟩ e) (w.heap.size + 1 + 1) #[p] 29 ∧
    Blk ((((W.setCell ⟨w.heap.size + 1, 0, none⟩ x).setCell ⟨w.heap.size + 1 + 1, 0, none⟩ p).setCell ⟨w.heap.size + 1 + 1 + 1, 0, none⟩ o).setCell ⟨w.heap.size + 1 + 1 + 1 + 1, 0, none⟩ e) (w.heap.size + 1 + 1 + 1) #[o] 4 ∧
    Blk ((((W.setCell ⟨w.heap.size + 1, 0, none⟩ x).setCell ⟨w.heap.size + 1 + 1, 0, none⟩ p).setCell ⟨w.heap.size + 1 + 1 + 1, 0, none⟩ o).setCell ⟨w.heap.size + 1 + 1 + 1 + 1, 0, none⟩ e) (w.heap.size + 1 + 1 + 1 + 1) #[e] 30 ∧
    Below w.heap.size w ((((W.setCell ⟨w.heap.size + 1, 0, none⟩ x).setCell ⟨w.heap.size + 1 + 1, 0, none⟩ p).setCell ⟨w.heap.size + 1 + 1 + 1, 0, none⟩ o).setCell ⟨w.heap.size + 1 + 1 + 1 + 1, 0, none⟩ e) ∧
    KeptTy (fun t => t = 49 ∨ KS t) W ((((W.setCell ⟨w.heap.size + 1, 0, none⟩ x).setCell ⟨w.heap.size + 1 + 1, 0, none⟩ p).setCell ⟨w.heap.size + 1 + 1 + 1, 0, none⟩ o).setCell ⟨w.heap.size + 1 + 1 + 1 + 1, 0, none⟩ e) := by
  generalize hb : w.heap.size + 1 = b at *
  have n01 : b ≠ b + 1 := by omega
  have n02 : b ≠ b + 1 + 1 := by omega
  have n03 : b ≠ b + 1 + 1 + 1 := by omega
  have n12 : b + 1 ≠ b + 1 + 1 := by omega
  have n13 : b + 1 ≠ b + 1 + 1 + 1 := by omega
  have n23 : b + 1 + 1 ≠ b + 1 + 1 + 1 := by omega
  have h0 : Blk W b #[.slice none 0 0] 22 := hb ▸ h.x
  have h1 : Blk W (b + 1) #[.slice none 0 0] 29 := hb ▸ h.p
  have h2 : Blk W (b + 1 + 1) #[.bool false] 4 := hb ▸ h.ok
  have h3 : Blk W (b + 1 + 1 + 1) #[.int .i64 0] 30 := hb ▸ h.err
  have k0 := KeptTy.set (S := fun t => t = 49 ∨ KS t) (p := ⟨b, 0, none⟩) h0 (by unfold KS; decide) x
  have a1 := h1.other (a := ⟨b, 0, none⟩) (Ne.symm n01) x
  have k1 := KeptTy.set (S := fun t => t = 49 ∨ KS t) (p := ⟨b + 1, 0, none⟩) a1 (by unfold KS; decide) p
  have a2 := (h2.other (a := ⟨b, 0, none⟩) (Ne.symm n02) x).other (a := ⟨b + 1, 0, none⟩) (Ne.symm n12) p
  have k2 := KeptTy.set (S := fun t => t = 49 ∨ KS t) (p := ⟨b + 1 + 1, 0, none⟩) a2 (by unfold KS; decide) o
  have a3 := ((h3.other (a := ⟨b, 0, none⟩) (Ne.symm n03) x).other (a := ⟨b + 1, 0, none⟩) (Ne.symm n13) p).other (a := ⟨b + 1 + 1, 0, none⟩) (Ne.symm n23) o
  have k3 := KeptTy.set (S := fun t => t = 49 ∨ KS t) (p := ⟨b + 1 + 1 + 1, 0, none⟩) a3 (by unfold KS; decide) e
  exact ⟨(((h0.set 0 _).other n01 _).other n02 _).other n03 _, ((a1.set 0 _).other n12 _).other n13 _, (a2.set 0 _).other n23 _, a3.set 0 _,
    (((h.bel.setCell (p := ⟨b, 0, none⟩) (by show _ ≤ b; omega) _).setCell (p := ⟨b + 1, 0, none⟩) (by show _ ≤ b + 1; omega) _).setCell (p := ⟨b + 1 + 1, 0, none⟩) (by show _ ≤ b + 1 + 1; omega) _).setCell (p := ⟨b + 1 + 1 + 1, 0, none⟩) (by show _ ≤ b + 1 + 1 + 1; omega) _,
    ((k0.trans k1).trans k2).trans k3⟩
set_option maxRecDepth 100000 in
set_option maxHeartbeats 4000000 in
theorem solve_bad (v : Value) (s : Sy) (w : World) (hv : IsS w v s) (hM : Mod s) (hV : validB s = false) : Calls Try.prog 10 #[v] w (ErrRes w 1) := by
  obtain ⟨tp, tc, rp, rc, rfl, htc, hrc, h1, h2⟩ := hv.shape
  have HS := Lib.hid (fun W (hW : Below w.heap.size w W) => hv.grows hW)
  have HV := Lib.hid hV
  have HM := Lib.hid hM
  clear hv h1 h2 hV hM
  go_enter_defers Try.func10, Try.ntmps10
  go_wp2_with fail
  refine calls_world fun w1 hw1 => ?_
  have HI := Lib.hid (show Five w w1 #[.slice tp s.T.length tc, .slice rp s.R.length rc] by rw [hw1]; exact Five.start w _)
  clear hw1
  refine (valid_any _ s w1 (HS.out _ HI.out.bel) HM.out).mono ?_
  rintro e w2 ⟨rfl, hb2⟩
  rw [HV.out]
  have HI2 := Lib.hid (HI.out.grows hb2)
  clear hb2 HI
  have c1 := HI2.out.x.cell 0 rfl
  have c2 := HI2.out.p.cell 0 rfl
  have c3 := HI2.out.ok.cell 0 rfl
  have c4 := HI2.out.err.cell 0 rfl
  have g1 := HI2.out.x.free 0
  have g2 := HI2.out.p.free 0
  have g3 := HI2.out.ok.free 0
  have g4 := HI2.out.err.free 0
  go_wp2
  refine at_world fun W hW => ?_
  have hst := HI2.out.stored (.slice none 0 0) (.slice none 0 0) (.bool false) (.int .i64 1)
  rw [← hW] at hst
  obtain ⟨b1, b2, b3, b4, hbel, -⟩ := hst
  have d1 := b1.cell 0 rfl
  have d2 := b2.cell 0 rfl
  have d3 := b3.cell 0 rfl
  have d4 := b4.cell 0 rfl
  clear hW b1 b2 b3 b4 c1 c2 c3 c4 g1 g2 g3 g4
  simp [bodyPostD, Leaves, settle, results, Try.results10, go_sem, d1, d2, d3, d4]
  exact ⟨hbel, rfl⟩
set_option maxRecDepth 100000 in
set_option maxHeartbeats 4000000 in
theorem solve_any (v : Value) (s : Sy) (w : World) (hv : IsS w v s) (hV : validB s = true) (hSm : smallB s.T = true) : Calls Try.prog 10 #[v] w (SolveRes w s) := by
  obtain ⟨tp, tc, rp, rc, rfl, htc, hrc, h1, h2⟩ := hv.shape
  obtain ⟨⟨hn1, hn2, hn3⟩, hT, hRow⟩ := valid_iff.1 hV
  have HS := Lib.hid (fun W (hW : Below w.heap.size w W) => hv.grows hW)
  have HV := Lib.hid hV
  have HM := Lib.hid (mod_of hV)
  have HSm := Lib.hid hSm
  have HT := Lib.hid hT
  have HRow := Lib.hid hRow
  have hvs := vol_small hV hSm
  clear hv h1 h2 hV hT hRow hSm
  go_enter_defers Try.func10, Try.ntmps10
  go_wp2_with fail
  refine calls_world fun w1 hw1 => ?_
  have HI := Lib.hid (show Five w w1 #[.slice tp s.T.length tc, .slice rp s.R.length rc] by rw [hw1]; exact Five.start w _)
  clear hw1
  refine (valid_any _ s w1 (HS.out _ HI.out.bel) HM.out).mono ?_
  rintro e w2 ⟨rfl, hb2⟩
  rw [HV.out]
  have HI2 := Lib.hid (HI.out.grows hb2)
  clear hb2 HI
  have s0 := HI2.out.sys.cell 0 rfl
  have s1 := HI2.out.sys.cell 1 rfl
  go_wp2_with fail
  refine (small_any _ s w2 (HS.out _ HI2.out.bel) (by omega) HT.out).mono ?_
  rintro e w3 ⟨rfl, hb3⟩
  rw [HSm.out]
  have HI3 := Lib.hid (HI2.out.grows hb3)
  clear hb3 HI2 s0 s1
  have s0 := HI3.out.sys.cell 0 rfl
  have s1 := HI3.out.sys.cell 1 rfl
  have hmf : ∀ (fn : Fn) (first cap : Array Value) (w : World), (Instr.makeFunc fn first cap).run Try.prog w = .ok (.func fn first cap) w := fun _ _ _ _ => rfl
  go_upto_region 7 with fail
  refine wp_world fun w4 hw4 => ?_
  have hb34 : Below w3.heap.size w3 w4 := by rw [hw4]; go_grown
  have F4 : Blk w4 w3.heap.size #[.slice tp s.T.length tc, .slice rp s.R.length rc, .slice none 0 0] 54 := by rw [hw4]; exact Blk.new w3 _ _
  have hF3 : w.heap.size + 1 + 1 + 1 + 1 < w3.heap.size := HI3.out.err.lt
  have HI4 := Lib.hid (HI3.out.grows hb34)
  have HF4 := Lib.hid F4
  have HB34 := Lib.hid hb34
  clear hw4 F4 hb34 s0 s1
  have s0 := HI4.out.sys.cell 0 rfl
  have s1 := HI4.out.sys.cell 1 rfl
  go_wp2_with fail
  refine (whole_any _ s w4 (HS.out _ HI4.out.bel) HV.out).mono ?_
  rintro e w5 ⟨rfl, hb5⟩
  have hXl := wholeX_length hn2
  have HXt := Lib.hid (wholeX_take s)
  have HXl := Lib.hid hXl
  generalize wholeX s = X at HXt HXl hXl ⊢
  have HI5 := Lib.hid (HI4.out.grows hb5)
  have HF5 := Lib.hid (HF4.out.grows hb5)
  have HB35 := Lib.hid (below_two HB34.out hb5)
  clear hb5 HI4 HF4 HB34 s0 s1
  go_upto_region 8 with (first
    | (refine wpList_store_row rfl 58 _ _ rfl w5.heap.size (boxA X) rfl rfl 58 zA (Blk.new w5 zA 58).is (box_info hXl) (by rw [boxA_size, hXl]; rfl) (box_one X) ?_)
    | fail)
  refine wp_world fun w6 hw6 => ?_
  have F : BxAt w6 w5.heap.size X := by rw [hw6]; exact BxAt.row (B := X) (Blk.new w5 zA _) hXl
  have hb6 : Below w5.heap.size w5 w6 := by rw [hw6]; exact below_row (((Below.refl _ w5).alloc (Nat.le_refl _) _)) (Nat.le_refl _) _
  clear hw6
  have HX6 := Lib.hid F
  have HI6 := Lib.hid (HI5.out.grows hb6)
  have HF6 := Lib.hid (HF5.out.grows hb6)
  have HB36 := Lib.hid (below_two HB35.out hb6)
  clear F hb6 HI5 HF5 HB35
  have hgl : (givenS s).length = s.R.length + 2 * s.T.length := given_length s
  have HX := Lib.hid (refute_any w3.heap.size w3.heap.size s.T.length tp rp tc rc s.R w3 (Nat.le_refl _) hn2 hn3 (fun W hW => by
      obtain ⟨t, u, he, -, hu⟩ := HS.out W (below_two HI3.out.bel hW)
      simp only [Value.agg.injEq, Array.mk.injEq, List.cons.injEq, and_true] at he
      obtain ⟨rfl, rfl⟩ := he
      exact hu) HRow.out (vol (X.take s.T.length)) (.slice none 0 0) X (givenS s) [] w6 (Nat.le_refl _) HB36.out
      ⟨HF6.out, PfAt.nil _ _, HXl.out, by rw [HXt.out]; exact whole_full HV.out, by rw [HXt.out]; exact whole_rel HV.out, by rw [hgl]; omega, by rw [HXt.out]; simp; omega, by rw [HXt.out, hgl]; omega⟩)
  rw [HXt.out, hgl, show ((s.R.length + 2 * s.T.length : Nat) : Int) = (s.R.length : Int) + 2 * (s.T.length : Int) by omega] at HX
  clear hgl
  go_wp2_with (first | (refine wpList_load_row rfl 58 _ rfl w5.heap.size rfl 58 _ (0, 0) _ HX6.out.1.is Try.underlying58 rfl (box_info hXl) ?_) | fail)
  refine HX.out.mono ?_
  rintro e w7 ⟨⟨hk7, hb7⟩, ⟨x, v, hle, rfl, hown⟩ | ⟨hno, rfl, vs7, N, hF7, hP7, hS7, hl7⟩⟩
  · obtain ⟨xp, xc, rfl⟩ := own_shape hown
    have HE := Lib.hid (And.intro hle (And.intro hown (And.intro hk7 hb7)))
    have HI7 := Lib.hid (HI6.out.keep hb7 hF3)
    clear hle hown hk7 hb7
    go_wp2
    refine leaves_cons (f := 22) (args := #[.pointer (some ⟨w.heap.size + 1, 0, none⟩), .pointer (some ⟨w.heap.size + 1 + 1, 0, none⟩), .pointer (some ⟨w.heap.size + 1 + 1 + 1, 0, none⟩), .pointer (some ⟨w.heap.size + 1 + 1 + 1 + 1, 0, none⟩)]) (by simp) (by simp [go_sem]) ?_
    refine (catch_found (w.heap.size + 1) xp x.length xc [] _ _ _ _ w7 HI7.out.x HI7.out.p HI7.out.ok HI7.out.err).mono ?_
    rintro e u' w8 ⟨rfl, rfl, g0, g1, g2, g3, hbw, hkw⟩
    have c0 := g0.cell 0 rfl
    have c1 := g1.cell 0 rfl
    have c2 := g2.cell 0 rfl
    have c3 := g3.cell 0 rfl
    have HZ := Lib.hid (And.intro hbw hkw)
    clear g0 g1 g2 g3 hbw hkw
    simp [Leaves, settle, results, Try.results10, go_sem, c0, c1, c2, c3]
    obtain ⟨hle, hown, hk7, hb7⟩ := HE.out
    refine ⟨HI7.out.bel.trans (HZ.out.1.mono (by omega)), .inl ⟨x, _, ?_, rfl, own_isI (OwnI.keep hown HZ.out.2)⟩⟩
    exact hle
  · obtain ⟨p7, c7, rfl⟩ := hP7.shape
    have HI7 := Lib.hid (HI6.out.keep hb7 hF3)
    have f2 := hF7.cell 2 rfl
    have c1 := HI7.out.x.cell 0 rfl
    have c2 := HI7.out.p.cell 0 rfl
    have c3 := HI7.out.ok.cell 0 rfl
    have c4 := HI7.out.err.cell 0 rfl
    have g1 := HI7.out.x.free 0
    have g2 := HI7.out.p.free 0
    have g3 := HI7.out.ok.free 0
    have g4 := HI7.out.err.free 0
    have hlt7 := hF7.lt
    have HE := Lib.hid (And.intro hno (And.intro hP7 (And.intro hS7 (And.intro hl7 hb7))))
    clear hno hP7 hS7 hl7 hb7 hk7 hF7
    go_wp2_with fail
    go_region
    refine at_world fun W hW => ?_
    obtain ⟨b1, b2, b3, b4, hbel, hkt⟩ := HI7.out.stored (.slice none 0 0) (.slice p7 N.length c7) (.bool false) (.int .i64 0)
    have d1 : W.cell? ⟨w.heap.size + 1, 0, none⟩ = some (.slice none 0 0) := by rw [hW]; exact b1.drew.cell 0 rfl
    have d2 : W.cell? ⟨w.heap.size + 1 + 1, 0, none⟩ = some (.slice p7 N.length c7) := by rw [hW]; exact b2.drew.cell 0 rfl
    have d3 : W.cell? ⟨w.heap.size + 1 + 1 + 1, 0, none⟩ = some (.bool false) := by rw [hW]; exact b3.drew.cell 0 rfl
    have d4 : W.cell? ⟨w.heap.size + 1 + 1 + 1 + 1, 0, none⟩ = some (.int .i64 0) := by rw [hW]; exact b4.drew.cell 0 rfl
    have HBl := Lib.hid (show Below w.heap.size w W by rw [hW]; exact below_drew hbel)
    have HKt := Lib.hid (show KeptTy (fun t => t = 49 ∨ KS t) w7 W by rw [hW]; exact hkt.trans (KeptTy.below (below_drew (Below.refl _ _))))
    clear hW b1 b2 b3 b4 hbel hkt f2 c1 c2 c3 c4 g1 g2 g3 g4 hlt7
    go_wp2
    refine leaves_cons (f := 22) (args := #[.pointer (some ⟨w.heap.size + 1, 0, none⟩), .pointer (some ⟨w.heap.size + 1 + 1, 0, none⟩), .pointer (some ⟨w.heap.size + 1 + 1 + 1, 0, none⟩), .pointer (some ⟨w.heap.size + 1 + 1 + 1 + 1, 0, none⟩)]) (by simp) (by simp [go_sem]) ?_
    refine (catch_idle _ _ _ _ _).mono ?_
    rintro e u' w'' ⟨rfl, rfl, rfl⟩
    simp [Leaves, settle, results, Try.results10, go_sem, d1, d2, d3, d4]
    obtain ⟨hno, hP7, hS7, hl7, hb7⟩ := HE.out
    have hN : N.length ≤ 65536 := by omega
    refine ⟨HBl.out, .inr ⟨hno, _, N, rfl, ?_, check_seg HV.out hS7 hN⟩⟩
    have hP8 : PfAt w3.heap.size w'' (.slice p7 N.length c7) N := by
      have := hP7.keepS (W' := w'') (fun b cs t h hb => HKt.out b cs t (.inr h) hb) (fun b cs t h hb => HKt.out b cs t (.inl h) hb)
      simpa using this
    obtain ⟨L, hL, ho, hp⟩ := hP8
    exact ⟨L, hL, own_mono ho (by omega), fun q hq => own_mono (hp q hq) (by omega)⟩
set_option maxRecDepth 100000 in
set_option maxHeartbeats 4000000 in
theorem solve_big (v : Value) (s : Sy) (w : World) (hv : IsS w v s) (hV : validB s = true) (hSm : smallB s.T = false) : Calls Try.prog 10 #[v] w (ErrRes w 2) := by
  obtain ⟨tp, tc, rp, rc, rfl, htc, hrc, h1, h2⟩ := hv.shape
  obtain ⟨⟨hn1, hn2, hn3⟩, hT, hRow⟩ := valid_iff.1 hV
  have HS := Lib.hid (fun W (hW : Below w.heap.size w W) => hv.grows hW)
  have HV := Lib.hid hV
  have HM := Lib.hid (mod_of hV)
  have HSm := Lib.hid hSm
  have HT := Lib.hid hT
  clear hv h1 h2 hV hT hRow hSm
  go_enter_defers Try.func10, Try.ntmps10
  go_wp2_with fail
  refine calls_world fun w1 hw1 => ?_
  have HI := Lib.hid (show Five w w1 #[.slice tp s.T.length tc, .slice rp s.R.length rc] by rw [hw1]; exact Five.start w _)
  clear hw1
  refine (valid_any _ s w1 (HS.out _ HI.out.bel) HM.out).mono ?_
  rintro e w2 ⟨rfl, hb2⟩
  rw [HV.out]
  have HI2 := Lib.hid (HI.out.grows hb2)
  clear hb2 HI
  have s0 := HI2.out.sys.cell 0 rfl
  have s1 := HI2.out.sys.cell 1 rfl
  go_wp2_with fail
  refine (small_any _ s w2 (HS.out _ HI2.out.bel) (by omega) HT.out).mono ?_
  rintro e w3 ⟨rfl, hb3⟩
  rw [HSm.out]
  have HI3 := Lib.hid (HI2.out.grows hb3)
  clear hb3 HI2 s0 s1
  have c1 := HI3.out.x.cell 0 rfl
  have c2 := HI3.out.p.cell 0 rfl
  have c3 := HI3.out.ok.cell 0 rfl
  have c4 := HI3.out.err.cell 0 rfl
  have g1 := HI3.out.x.free 0
  have g2 := HI3.out.p.free 0
  have g3 := HI3.out.ok.free 0
  have g4 := HI3.out.err.free 0
  go_wp2
  refine at_world fun W hW => ?_
  have hst := HI3.out.stored (.slice none 0 0) (.slice none 0 0) (.bool false) (.int .i64 2)
  rw [← hW] at hst
  obtain ⟨b1, b2, b3, b4, hbel, -⟩ := hst
  have d1 := b1.cell 0 rfl
  have d2 := b2.cell 0 rfl
  have d3 := b3.cell 0 rfl
  have d4 := b4.cell 0 rfl
  clear hW b1 b2 b3 b4 c1 c2 c3 c4 g1 g2 g3 g4
  simp [bodyPostD, Leaves, settle, results, Try.results10, go_sem, d1, d2, d3, d4]
  exact ⟨hbel, rfl⟩
end Go.Proofs.Ytmhhfommgdljkaa
