/-
  The last region of sanity: what each of its operations leaves.
-/
import Derived.Test.YtmhhfommgdljkaaRr
set_option linter.unusedSimpArgs false
set_option linter.unusedVariables false
namespace Go.Proofs.Ytmhhfommgdljkaa
open Go Go.RowKit Go.Lib

def regionOf (k : Nat) : Code → Option (List Oper)
  | .region id ops _ => if Nat.beq id k then some ops.toList else none
  | .seq a b => (regionOf k a).or (regionOf k b)
  | .cond _ a b => (regionOf k a).or (regionOf k b)
  | .block _ b => regionOf k b
  | .loop b => regionOf k b
  | .scope b => regionOf k b
  | _ => none
def regionIn (P : Program) (f k : Nat) : List Oper := (((P.funcs[f]?).bind (·.body)).bind (regionOf k)).getD []
theorem to_named {P : Program} {l : List Oper} (l' : List Oper) {Q : Exit → Act → World → Prop} {id : Nat} {a : Act} {w : World} (e : l = l') (h : (Code.region id l'.toArray true).wp P Q a w) : (Code.region id l.toArray true).wp P Q a w := by subst e; exact h
inductive Fact where
  | is (v : Value)
  | ints (l : List Int)
  | sys (s : Sy)
def Fact.holds : Fact → Value → World → Prop
  | .is u, v, _ => v = u
  | .ints l, v, w => IsI w v l
  | .sys s, v, w => IsS w v s
theorem Fact.grows : ∀ (f : Fact) (v : Value) (w w' : World), f.holds v w → Below w.heap.size w w' → f.holds v w'
  | .is _, _, _, _, h, _ => h
  | .ints _, _, _, _, h, hb => IsI.grows h hb
  | .sys _, _, _, _, h, hb => IsS.grows h hb
structure SanP where
  (a0 a1 a3 a4 d0 d3 d4 q1 cx cq : Nat)
  (px pq : Option Addr)
  N : List Sp
structure San (p : SanP) (a0 : Act) (w0 : World) : Prop where
  size : a0.tmps.size = 177
  s1 : a0.tmps[1]? = some (.pointer (some ⟨p.a4, 0, none⟩))
  s2 : a0.tmps[2]? = some (.pointer (some ⟨p.d4, 0, none⟩))
  s3 : a0.tmps[3]? = some (.slice (some ⟨p.q1, 0, none⟩) 3 3)
  s4 : a0.tmps[4]? = some (.slice p.px 2 p.cx)
  s6 : a0.tmps[6]? = some (.bool true)
  s7 : a0.tmps[7]? = some (.int .i64 0)
  s9 : a0.tmps[9]? = some (.slice p.pq p.N.length p.cq)
  s10 : a0.tmps[10]? = some (.bool false)
  s11 : a0.tmps[11]? = some (.int .i64 0)
  s12 : a0.tmps[12]? = some (.int .i64 1)
  s13 : a0.tmps[13]? = some (.int .i64 3)
  s14 : a0.tmps[14]? = some (.bool true)
  s17 : a0.tmps[17]? = some (.bool false)
  s21 : a0.tmps[21]? = some (.int .i64 1)
  s25 : a0.tmps[25]? = some (.int .i64 2)
  S1 : IsS w0 (.agg #[.slice (some ⟨p.a0, 0, none⟩) 2 2, .slice (some ⟨p.a3, 0, none⟩) 2 2]) sysS
  B1 : Blk w0 p.a4 #[.slice (some ⟨p.a0, 0, none⟩) 2 2, .slice (some ⟨p.a3, 0, none⟩) 2 2] 25
  R1 : Blk w0 p.a3 #[.slice (some ⟨p.a1, 0, none⟩) 2 2, .int .i64 (-4), .slice (some ⟨p.a1 + 1, 0, none⟩) 2 2, .int .i64 0] 37
  I1 : IsI w0 (.slice (some ⟨p.a1, 0, none⟩) 2 2) [1, 1]
  S2 : IsS w0 (.agg #[.slice (some ⟨p.d0, 0, none⟩) 1 1, .slice (some ⟨p.d3, 0, none⟩) 2 2]) sysT
  B2 : Blk w0 p.d4 #[.slice (some ⟨p.d0, 0, none⟩) 1 1, .slice (some ⟨p.d3, 0, none⟩) 2 2] 25
  P : IsP w0 (.slice (some ⟨p.q1, 0, none⟩) 3 3) prfP
  X : IsI w0 (.slice p.px 2 p.cx) [2, 2]
  N : IsP w0 (.slice p.pq p.N.length p.cq) p.N
  Nl : p.N.length ≤ 65536
  Nc : checkB sysT p.N = true
theorem exec_pick {P : Program} {o : Oper} {a : Act} {w : World} {c x y : Operand} (h : o.op = .pick c x y) (hc : a.eval c = .bool true) : (execOp a.eval o).run P w = .ok (.value (a.eval x)) w := by unfold execOp; rw [h]; simp only [hc]; rfl
theorem exec_not {P : Program} {o : Oper} {a : Act} {w : World} {x : Operand} {t : TypeId} {b : Bool} (h : o.op = .unOp .not t x) (hx : a.eval x = .bool b) : (execOp a.eval o).run P w = .ok (.value (.bool !b)) w := by unfold execOp; rw [h]; simp only [hx]; rfl
theorem exec_lit {ρ : Operand → Value} {o : Oper} {x : Op} {t : TypeId} (h : o.op = x) (ht : o.type = t) : execOp ρ o = execOp ρ ⟨none, x, t, "", #[], none⟩ := by unfold execOp; rw [h, ht]
theorem eval_fn (a : Act) (f : FuncId) : a.eval (.func f) = .func (.func f) #[] #[] := rfl
theorem eval_cst (a : Act) (v : Value) : a.eval (.const v) = v := rfl
theorem blk_at {W : World} {b : Nat} {cs : Array Value} {t : TypeId} (h : W.heap.size = b) : Blk (W.alloc (.cells cs t)) b cs t := by subst h; exact Blk.new W cs t
theorem isI_blk {W : World} {b n : Nat} {l : List Int} (h : Blk W b (intsA l) 3) (hn : l.length = n) (hm : n ≤ 1000) : IsI W (.slice (some ⟨b, 0, none⟩) n n) l := by
  subst hn
  exact own_isI (own_ints (base := 0) h (by unfold maxLen; omega) (Nat.zero_le _))
theorem isRs_two {W : World} {b : Nat} {u v : Value} {r q : Rw} (h : Blk W b #[u, .int .i64 r.C, v, .int .i64 q.C] 37) (hu : IsI W u r.A) (hv : IsI W v q.A) : IsRs W (.slice (some ⟨b, 0, none⟩) 2 2) [r, q] := by
  refine ⟨some ⟨b, 0, none⟩, 2, rfl, Nat.le_refl _, fun e => (by cases e), fun j x hj => ?_⟩
  have hj0 := lt_of_get hj
  have : j = 0 ∨ j = 1 := by simp at hj0; omega
  rcases this with rfl | rfl
  · simp at hj; subst hj
    exact ⟨b, 0, u, rfl, h.cell 0 rfl, h.cell 1 rfl, hu⟩
  · simp at hj; subst hj
    exact ⟨b, 0, v, rfl, h.cell 2 rfl, h.cell 3 rfl, hv⟩
theorem isP_blk {W : World} {b : Nat} {u0 u1 u2 : Value} {t0 t1 t2 : Sp} (h : Blk W b (spL u0 t0 ++ spL u1 t1 ++ spL u2 t2).toArray 49) (h0 : IsI W u0 t0.M) (h1 : IsI W u1 t1.M) (h2 : IsI W u2 t2.M) : IsP W (.slice (some ⟨b, 0, none⟩) 3 3) [t0, t1, t2] := by
  refine ⟨some ⟨b, 0, none⟩, 3, rfl, Nat.le_refl _, fun j t ht => ?_⟩
  have hj := lt_of_get ht
  have hc : ∀ (u : Value) (k : Nat) (l m : List Value), (spL u0 t0 ++ spL u1 t1 ++ spL u2 t2) = l ++ spL u t ++ m → l.length = k → ∀ (i : Nat) (x : Value), (spL u t)[i]? = some x → W.cell? ⟨b, 0 + k + i, none⟩ = some x := by
    intro u k l m he hk i x hx
    refine h.cell _ ?_
    rw [List.getElem?_toArray, he, Nat.zero_add, ← hk, List.append_assoc, List.getElem?_append_right (by omega), Nat.add_sub_cancel_left, List.getElem?_append_left (lt_of_get hx)]
    exact hx
  have : j = 0 ∨ j = 1 ∨ j = 2 := by simp at hj; omega
  rcases this with rfl | rfl | rfl
  · simp at ht; subst ht
    exact ⟨b, 0, u0, rfl, hc u0 0 [] (spL u1 t1 ++ spL u2 t2) (by simp) rfl, h0⟩
  · simp at ht; subst ht
    exact ⟨b, 0, u1, rfl, hc u1 8 (spL u0 t0) (spL u2 t2) (by simp) rfl, h1⟩
  · simp at ht; subst ht
    exact ⟨b, 0, u2, rfl, hc u2 16 (spL u0 t0 ++ spL u1 t1) [] (by simp) rfl, h2⟩
theorem IsP.two {W : World} {p : Option Addr} {t0 t1 t2 : Sp} {n c : Nat} (h : IsP W (.slice p n c) [t0, t1, t2]) : IsP W (.slice p 2 c) [t0, t1] := by
  obtain ⟨q, cap, e, h1, h2⟩ := h
  simp only [Value.slice.injEq] at e
  obtain ⟨rfl, -, rfl⟩ := e
  refine ⟨p, c, rfl, by simp at h1 ⊢; omega, fun j t ht => h2 j t ?_⟩
  have hj := lt_of_get ht
  have : j = 0 ∨ j = 1 := by simp at hj; omega
  rcases this with rfl | rfl <;> simpa using ht
def sanF (p : SanP) : List Fact := [.is (.bool true), .is (.bool true), .is (.int .i64 0), .is (.bool true), .is (.bool true), .is (.bool true), .is (.slice p.px 2 p.cx), .ints [2, 2], .is (.bool true), .is (.bool true), .is (.bool true), .is (.bool false), .is (.bool true), .is (.bool true), .is (.bool true), .is (.int .i64 0), .is (.bool true), .is (.bool true), .is (.bool true), .is (.agg #[.slice (some ⟨p.d0, 0, none⟩) 1 1, .slice (some ⟨p.d3, 0, none⟩) 2 2]), .is (.slice p.pq p.N.length p.cq), .is (.bool true), .is (.bool true), .is (.bool true), .is (.agg #[.slice (some ⟨p.d0, 0, none⟩) 1 1, .slice (some ⟨p.d3, 0, none⟩) 2 2]), .is (.slice (some ⟨p.q1, 0, none⟩) 3 3), .is (.bool true), .is (.bool true), .is (.bool true), .is (.agg #[.slice (some ⟨p.a0, 0, none⟩) 2 2, .slice (some ⟨p.a3, 0, none⟩) 2 2]), .is (.slice (some ⟨p.q1, 0, none⟩) 3 3), .is (.bool false), .is (.bool true), .is (.bool true), .is (.bool true), .is (.agg #[.slice (some ⟨p.d0, 0, none⟩) 1 1, .slice (some ⟨p.d3, 0, none⟩) 2 2]), .is (.slice (some ⟨p.q1, 0, none⟩) 3 3), .is (.slice (some ⟨p.q1, 0, none⟩) 2 3), .is (.bool false), .is (.bool true), .is (.bool true), .is (.bool true), .is (.bool true), .is (.bool true), .is (.bool true), .is (.int .i64 1), .is (.bool true), .is (.bool true), .is (.bool true), .is (.int .i64 3), .is (.bool true), .is (.bool true), .is (.bool true), .is (.bool false), .is (.bool true), .is (.bool true), .is (.bool true), .is (.int .i64 1), .is (.bool true), .is (.bool true), .is (.bool true), .is (.int .i64 2), .is (.bool true), .is (.bool true), .is (.bool true), .is (.pointer (some ⟨p.a4, 1, none⟩)), .is (.slice (some ⟨p.a3, 0, none⟩) 2 2), .is (.pointer (some ⟨p.a3, 0, none⟩)), .is (.agg #[.slice (some ⟨p.a1, 0, none⟩) 2 2, .int .i64 (-4)]), .ints [2, 2], .is (.bool true), .is (.bool true), .is (.bool true), .is (.pointer (some ⟨p.a4, 1, none⟩)), .is (.slice (some ⟨p.a3, 0, none⟩) 2 2), .is (.pointer (some ⟨p.a3, 0, none⟩)), .is (.agg #[.slice (some ⟨p.a1, 0, none⟩) 2 2, .int .i64 (-4)]), .ints [2, 1], .is (.bool false), .is (.bool true), .is (.bool true), .is (.bool true), .is (.agg #[.slice (some ⟨p.a0, 0, none⟩) 2 2, .slice (some ⟨p.a3, 0, none⟩) 2 2]), .is (.bool true), .is (.bool true), .is (.bool true), .ints [65], .sys ⟨[65], []⟩, .is (.bool false), .is (.bool true), .is (.bool true), .is (.bool true)]
def sanR (p : SanP) : Nat → Value → World → Prop := fun i v w => ((sanF p).getD i (.is undef)).holds v w
theorem ob_0 {p : SanP} {a0 : Act} {w0 : World} {Q : Exit → Act → World → Prop} (H : San p a0 w0) : Duty Try.prog (regionIn Try.prog 8 10).toArray (sanR p) a0 w0.heap.size w0 Q 0 ((regionIn Try.prog 8 10).getD 0 default) := duty_val (fun _ _ _ => wanted_none (by kernel_rfl)) fun a w hT => by
  have e6 := hT.was (t := 6) (by kernel_rfl) H.s6
  have f6 := eval_tmp e6
  exact ⟨_, exec_move (x := .tmp 6) (by kernel_rfl), by rw [f6]; exact rfl⟩
theorem ob_1 {p : SanP} {a0 : Act} {w0 : World} {Q : Exit → Act → World → Prop} (H : San p a0 w0) : Duty Try.prog (regionIn Try.prog 8 10).toArray (sanR p) a0 w0.heap.size w0 Q 1 ((regionIn Try.prog 8 10).getD 1 default) := duty_val (fun _ _ _ => wanted_none (by kernel_rfl)) fun a w hT => by
  obtain ⟨v86, e86, r86⟩ := hT.slot (j := 0) (t := 86) (by kernel_rfl) (by kernel_rfl)
  obtain rfl : v86 = .bool true := r86
  have f86 := eval_tmp e86
  exact ⟨_, exec_move (x := .tmp 86) (by kernel_rfl), by rw [f86]; exact rfl⟩
theorem ob_2 {p : SanP} {a0 : Act} {w0 : World} {Q : Exit → Act → World → Prop} (H : San p a0 w0) : Duty Try.prog (regionIn Try.prog 8 10).toArray (sanR p) a0 w0.heap.size w0 Q 2 ((regionIn Try.prog 8 10).getD 2 default) := duty_val (fun a w hT => by obtain ⟨v, e, r⟩ := hT.slot (j := 1) (t := 87) (by kernel_rfl) (by kernel_rfl); obtain rfl : v = .bool true := r; exact wanted_some (ops := (regionIn Try.prog 8 10).toArray) (g := 1) (by kernel_rfl) (by kernel_rfl) e) fun a w hT => by
  have e7 := hT.was (t := 7) (by kernel_rfl) H.s7
  have f7 := eval_tmp e7
  exact ⟨_, exec_move (x := .tmp 7) (by kernel_rfl), by rw [f7]; exact rfl⟩
theorem ob_3 {p : SanP} {a0 : Act} {w0 : World} {Q : Exit → Act → World → Prop} (H : San p a0 w0) : Duty Try.prog (regionIn Try.prog 8 10).toArray (sanR p) a0 w0.heap.size w0 Q 3 ((regionIn Try.prog 8 10).getD 3 default) := duty_val (fun a w hT => by obtain ⟨v, e, r⟩ := hT.slot (j := 1) (t := 87) (by kernel_rfl) (by kernel_rfl); obtain rfl : v = .bool true := r; exact wanted_some (ops := (regionIn Try.prog 8 10).toArray) (g := 1) (by kernel_rfl) (by kernel_rfl) e) fun a w hT => by
  obtain ⟨v88, e88, r88⟩ := hT.slot (j := 2) (t := 88) (by kernel_rfl) (by kernel_rfl)
  obtain rfl : v88 = .int .i64 0 := r88
  have f88 := eval_tmp e88
  refine ⟨.bool true, ?_, rfl⟩
  rw [exec_lit (x := .binOp .eql 30 (.tmp 88) (.const (.int .i64 (0))) 30) (by kernel_rfl) rfl]
  have fc := eval_cst a
  have ff := eval_fn a
  clear hT
  generalize a.eval = ρ at f88 fc ff ⊢
  go_simp
theorem ob_4 {p : SanP} {a0 : Act} {w0 : World} {Q : Exit → Act → World → Prop} (H : San p a0 w0) : Duty Try.prog (regionIn Try.prog 8 10).toArray (sanR p) a0 w0.heap.size w0 Q 4 ((regionIn Try.prog 8 10).getD 4 default) := duty_val (fun _ _ _ => wanted_none (by kernel_rfl)) fun a w hT => by
  obtain ⟨v87, e87, r87⟩ := hT.slot (j := 1) (t := 87) (by kernel_rfl) (by kernel_rfl)
  obtain rfl : v87 = .bool true := r87
  have f87 := eval_tmp e87
  obtain ⟨v89, e89, r89⟩ := hT.slot (j := 3) (t := 89) (by kernel_rfl) (by kernel_rfl)
  obtain rfl : v89 = .bool true := r89
  have f89 := eval_tmp e89
  exact ⟨_, exec_pick (c := .tmp 87) (x := .tmp 89) (y := .const (.bool false)) (by kernel_rfl) f87, by rw [f89]; exact rfl⟩
theorem ob_5 {p : SanP} {a0 : Act} {w0 : World} {Q : Exit → Act → World → Prop} (H : San p a0 w0) : Duty Try.prog (regionIn Try.prog 8 10).toArray (sanR p) a0 w0.heap.size w0 Q 5 ((regionIn Try.prog 8 10).getD 5 default) := duty_val (fun _ _ _ => wanted_none (by kernel_rfl)) fun a w hT => by
  obtain ⟨v90, e90, r90⟩ := hT.slot (j := 4) (t := 90) (by kernel_rfl) (by kernel_rfl)
  obtain rfl : v90 = .bool true := r90
  have f90 := eval_tmp e90
  exact ⟨_, exec_move (x := .tmp 90) (by kernel_rfl), by rw [f90]; exact rfl⟩
theorem ob_6 {p : SanP} {a0 : Act} {w0 : World} {Q : Exit → Act → World → Prop} (H : San p a0 w0) : Duty Try.prog (regionIn Try.prog 8 10).toArray (sanR p) a0 w0.heap.size w0 Q 6 ((regionIn Try.prog 8 10).getD 6 default) := duty_val (fun a w hT => by obtain ⟨v, e, r⟩ := hT.slot (j := 5) (t := 91) (by kernel_rfl) (by kernel_rfl); obtain rfl : v = .bool true := r; exact wanted_some (ops := (regionIn Try.prog 8 10).toArray) (g := 5) (by kernel_rfl) (by kernel_rfl) e) fun a w hT => by
  have e4 := hT.was (t := 4) (by kernel_rfl) H.s4
  have f4 := eval_tmp e4
  exact ⟨_, exec_move (x := .tmp 4) (by kernel_rfl), by rw [f4]; exact rfl⟩
theorem ob_7 {p : SanP} {a0 : Act} {w0 : World} {Q : Exit → Act → World → Prop} (H : San p a0 w0) : Duty Try.prog (regionIn Try.prog 8 10).toArray (sanR p) a0 w0.heap.size w0 Q 7 ((regionIn Try.prog 8 10).getD 7 default) := duty_new (fun a w hT => by obtain ⟨v, e, r⟩ := hT.slot (j := 5) (t := 91) (by kernel_rfl) (by kernel_rfl); obtain rfl : v = .bool true := r; exact wanted_some (ops := (regionIn Try.prog 8 10).toArray) (g := 5) (by kernel_rfl) (by kernel_rfl) e) fun a w hT => by
  refine ⟨.slice (some ⟨w.heap.size, 0, none⟩) 2 2, w.alloc (.cells #[.int .i64 (2), .int .i64 (2)] 3), ?_, by go_grown, isI_blk (n := 2) (l := [2, 2]) (blk_at rfl) rfl (by omega)⟩
  rw [exec_lit (x := .buildSlice 22 2 #[(0, .const (.int .i64 (2))), (1, .const (.int .i64 (2)))]) (by kernel_rfl) rfl]
  have fc := eval_cst a
  have ff := eval_fn a
  clear hT
  generalize a.eval = ρ at fc ff ⊢
  go_simp
theorem ob_8 {p : SanP} {a0 : Act} {w0 : World} {Q : Exit → Act → World → Prop} (H : San p a0 w0) : Duty Try.prog (regionIn Try.prog 8 10).toArray (sanR p) a0 w0.heap.size w0 Q 8 ((regionIn Try.prog 8 10).getD 8 default) := duty_call (fun a w hT => by obtain ⟨v, e, r⟩ := hT.slot (j := 5) (t := 91) (by kernel_rfl) (by kernel_rfl); obtain rfl : v = .bool true := r; exact wanted_some (ops := (regionIn Try.prog 8 10).toArray) (g := 5) (by kernel_rfl) (by kernel_rfl) e) fun a w hT => by
  obtain ⟨v92, e92, r92⟩ := hT.slot (j := 6) (t := 92) (by kernel_rfl) (by kernel_rfl)
  obtain rfl : v92 = .slice p.px 2 p.cx := r92
  have f92 := eval_tmp e92
  obtain ⟨v93, e93, r93⟩ := hT.slot (j := 7) (t := 93) (by kernel_rfl) (by kernel_rfl)
  have r93 : IsI w v93 [2, 2] := r93
  have f93 := eval_tmp e93
  have hC := same_any _ _ [2, 2] [2, 2] _ (H.X.grows hT.below) r93 (by simp) (by simp)
  refine ⟨17, #[.slice p.px 2 p.cx, v93], ?_, hC.mono fun e w1 he => ?_⟩
  · clear hC
    rw [exec_lit (x := .call { callee := .value (.func 17), args := #[.tmp 92, .tmp 93], argTypes := #[22, 22] }) (by kernel_rfl) rfl]
    have fc := eval_cst a
    have ff := eval_fn a
    clear hT
    generalize a.eval = ρ at f92 f93 fc ff ⊢
    go_simp
  · obtain ⟨rfl, hb⟩ := he
    exact ⟨_, rfl, hb, by rw [show sameB [2, 2] [2, 2] = true by decide]; exact rfl⟩
theorem ob_9 {p : SanP} {a0 : Act} {w0 : World} {Q : Exit → Act → World → Prop} (H : San p a0 w0) : Duty Try.prog (regionIn Try.prog 8 10).toArray (sanR p) a0 w0.heap.size w0 Q 9 ((regionIn Try.prog 8 10).getD 9 default) := duty_val (fun _ _ _ => wanted_none (by kernel_rfl)) fun a w hT => by
  obtain ⟨v91, e91, r91⟩ := hT.slot (j := 5) (t := 91) (by kernel_rfl) (by kernel_rfl)
  obtain rfl : v91 = .bool true := r91
  have f91 := eval_tmp e91
  obtain ⟨v94, e94, r94⟩ := hT.slot (j := 8) (t := 94) (by kernel_rfl) (by kernel_rfl)
  obtain rfl : v94 = .bool true := r94
  have f94 := eval_tmp e94
  exact ⟨_, exec_pick (c := .tmp 91) (x := .tmp 94) (y := .const (.bool false)) (by kernel_rfl) f91, by rw [f94]; exact rfl⟩
theorem ob_10 {p : SanP} {a0 : Act} {w0 : World} {Q : Exit → Act → World → Prop} (H : San p a0 w0) : Duty Try.prog (regionIn Try.prog 8 10).toArray (sanR p) a0 w0.heap.size w0 Q 10 ((regionIn Try.prog 8 10).getD 10 default) := duty_val (fun _ _ _ => wanted_none (by kernel_rfl)) fun a w hT => by
  obtain ⟨v95, e95, r95⟩ := hT.slot (j := 9) (t := 95) (by kernel_rfl) (by kernel_rfl)
  obtain rfl : v95 = .bool true := r95
  have f95 := eval_tmp e95
  exact ⟨_, exec_move (x := .tmp 95) (by kernel_rfl), by rw [f95]; exact rfl⟩
theorem ob_11 {p : SanP} {a0 : Act} {w0 : World} {Q : Exit → Act → World → Prop} (H : San p a0 w0) : Duty Try.prog (regionIn Try.prog 8 10).toArray (sanR p) a0 w0.heap.size w0 Q 11 ((regionIn Try.prog 8 10).getD 11 default) := duty_val (fun a w hT => by obtain ⟨v, e, r⟩ := hT.slot (j := 10) (t := 96) (by kernel_rfl) (by kernel_rfl); obtain rfl : v = .bool true := r; exact wanted_some (ops := (regionIn Try.prog 8 10).toArray) (g := 10) (by kernel_rfl) (by kernel_rfl) e) fun a w hT => by
  have e10 := hT.was (t := 10) (by kernel_rfl) H.s10
  have f10 := eval_tmp e10
  exact ⟨_, exec_move (x := .tmp 10) (by kernel_rfl), by rw [f10]; exact rfl⟩
theorem ob_12 {p : SanP} {a0 : Act} {w0 : World} {Q : Exit → Act → World → Prop} (H : San p a0 w0) : Duty Try.prog (regionIn Try.prog 8 10).toArray (sanR p) a0 w0.heap.size w0 Q 12 ((regionIn Try.prog 8 10).getD 12 default) := duty_val (fun a w hT => by obtain ⟨v, e, r⟩ := hT.slot (j := 10) (t := 96) (by kernel_rfl) (by kernel_rfl); obtain rfl : v = .bool true := r; exact wanted_some (ops := (regionIn Try.prog 8 10).toArray) (g := 10) (by kernel_rfl) (by kernel_rfl) e) fun a w hT => by
  obtain ⟨v97, e97, r97⟩ := hT.slot (j := 11) (t := 97) (by kernel_rfl) (by kernel_rfl)
  obtain rfl : v97 = .bool false := r97
  have f97 := eval_tmp e97
  exact ⟨_, exec_not (t := 4) (x := .tmp 97) (by kernel_rfl) f97, rfl⟩
theorem ob_13 {p : SanP} {a0 : Act} {w0 : World} {Q : Exit → Act → World → Prop} (H : San p a0 w0) : Duty Try.prog (regionIn Try.prog 8 10).toArray (sanR p) a0 w0.heap.size w0 Q 13 ((regionIn Try.prog 8 10).getD 13 default) := duty_val (fun _ _ _ => wanted_none (by kernel_rfl)) fun a w hT => by
  obtain ⟨v96, e96, r96⟩ := hT.slot (j := 10) (t := 96) (by kernel_rfl) (by kernel_rfl)
  obtain rfl : v96 = .bool true := r96
  have f96 := eval_tmp e96
  obtain ⟨v98, e98, r98⟩ := hT.slot (j := 12) (t := 98) (by kernel_rfl) (by kernel_rfl)
  obtain rfl : v98 = .bool true := r98
  have f98 := eval_tmp e98
  exact ⟨_, exec_pick (c := .tmp 96) (x := .tmp 98) (y := .const (.bool false)) (by kernel_rfl) f96, by rw [f98]; exact rfl⟩
theorem ob_14 {p : SanP} {a0 : Act} {w0 : World} {Q : Exit → Act → World → Prop} (H : San p a0 w0) : Duty Try.prog (regionIn Try.prog 8 10).toArray (sanR p) a0 w0.heap.size w0 Q 14 ((regionIn Try.prog 8 10).getD 14 default) := duty_val (fun _ _ _ => wanted_none (by kernel_rfl)) fun a w hT => by
  obtain ⟨v99, e99, r99⟩ := hT.slot (j := 13) (t := 99) (by kernel_rfl) (by kernel_rfl)
  obtain rfl : v99 = .bool true := r99
  have f99 := eval_tmp e99
  exact ⟨_, exec_move (x := .tmp 99) (by kernel_rfl), by rw [f99]; exact rfl⟩
theorem ob_15 {p : SanP} {a0 : Act} {w0 : World} {Q : Exit → Act → World → Prop} (H : San p a0 w0) : Duty Try.prog (regionIn Try.prog 8 10).toArray (sanR p) a0 w0.heap.size w0 Q 15 ((regionIn Try.prog 8 10).getD 15 default) := duty_val (fun a w hT => by obtain ⟨v, e, r⟩ := hT.slot (j := 14) (t := 100) (by kernel_rfl) (by kernel_rfl); obtain rfl : v = .bool true := r; exact wanted_some (ops := (regionIn Try.prog 8 10).toArray) (g := 14) (by kernel_rfl) (by kernel_rfl) e) fun a w hT => by
  have e11 := hT.was (t := 11) (by kernel_rfl) H.s11
  have f11 := eval_tmp e11
  exact ⟨_, exec_move (x := .tmp 11) (by kernel_rfl), by rw [f11]; exact rfl⟩
theorem ob_16 {p : SanP} {a0 : Act} {w0 : World} {Q : Exit → Act → World → Prop} (H : San p a0 w0) : Duty Try.prog (regionIn Try.prog 8 10).toArray (sanR p) a0 w0.heap.size w0 Q 16 ((regionIn Try.prog 8 10).getD 16 default) := duty_val (fun a w hT => by obtain ⟨v, e, r⟩ := hT.slot (j := 14) (t := 100) (by kernel_rfl) (by kernel_rfl); obtain rfl : v = .bool true := r; exact wanted_some (ops := (regionIn Try.prog 8 10).toArray) (g := 14) (by kernel_rfl) (by kernel_rfl) e) fun a w hT => by
  obtain ⟨v101, e101, r101⟩ := hT.slot (j := 15) (t := 101) (by kernel_rfl) (by kernel_rfl)
  obtain rfl : v101 = .int .i64 0 := r101
  have f101 := eval_tmp e101
  refine ⟨.bool true, ?_, rfl⟩
  rw [exec_lit (x := .binOp .eql 30 (.tmp 101) (.const (.int .i64 (0))) 30) (by kernel_rfl) rfl]
  have fc := eval_cst a
  have ff := eval_fn a
  clear hT
  generalize a.eval = ρ at f101 fc ff ⊢
  go_simp
theorem ob_17 {p : SanP} {a0 : Act} {w0 : World} {Q : Exit → Act → World → Prop} (H : San p a0 w0) : Duty Try.prog (regionIn Try.prog 8 10).toArray (sanR p) a0 w0.heap.size w0 Q 17 ((regionIn Try.prog 8 10).getD 17 default) := duty_val (fun _ _ _ => wanted_none (by kernel_rfl)) fun a w hT => by
  obtain ⟨v100, e100, r100⟩ := hT.slot (j := 14) (t := 100) (by kernel_rfl) (by kernel_rfl)
  obtain rfl : v100 = .bool true := r100
  have f100 := eval_tmp e100
  obtain ⟨v102, e102, r102⟩ := hT.slot (j := 16) (t := 102) (by kernel_rfl) (by kernel_rfl)
  obtain rfl : v102 = .bool true := r102
  have f102 := eval_tmp e102
  exact ⟨_, exec_pick (c := .tmp 100) (x := .tmp 102) (y := .const (.bool false)) (by kernel_rfl) f100, by rw [f102]; exact rfl⟩
theorem ob_18 {p : SanP} {a0 : Act} {w0 : World} {Q : Exit → Act → World → Prop} (H : San p a0 w0) : Duty Try.prog (regionIn Try.prog 8 10).toArray (sanR p) a0 w0.heap.size w0 Q 18 ((regionIn Try.prog 8 10).getD 18 default) := duty_val (fun _ _ _ => wanted_none (by kernel_rfl)) fun a w hT => by
  obtain ⟨v103, e103, r103⟩ := hT.slot (j := 17) (t := 103) (by kernel_rfl) (by kernel_rfl)
  obtain rfl : v103 = .bool true := r103
  have f103 := eval_tmp e103
  exact ⟨_, exec_move (x := .tmp 103) (by kernel_rfl), by rw [f103]; exact rfl⟩
theorem ob_19 {p : SanP} {a0 : Act} {w0 : World} {Q : Exit → Act → World → Prop} (H : San p a0 w0) : Duty Try.prog (regionIn Try.prog 8 10).toArray (sanR p) a0 w0.heap.size w0 Q 19 ((regionIn Try.prog 8 10).getD 19 default) := duty_val (fun a w hT => by obtain ⟨v, e, r⟩ := hT.slot (j := 18) (t := 104) (by kernel_rfl) (by kernel_rfl); obtain rfl : v = .bool true := r; exact wanted_some (ops := (regionIn Try.prog 8 10).toArray) (g := 18) (by kernel_rfl) (by kernel_rfl) e) fun a w hT => by
  have e2 := hT.was (t := 2) (by kernel_rfl) H.s2
  have f2 := eval_tmp e2
  have c0 : w.cell? ⟨p.d4, 0, none⟩ = some (.slice (some ⟨p.d0, 0, none⟩) 1 1) := (H.B2.grows hT.below).cell 0 rfl
  have c1 : w.cell? ⟨p.d4, 1, none⟩ = some (.slice (some ⟨p.d3, 0, none⟩) 2 2) := (H.B2.grows hT.below).cell 1 rfl
  refine ⟨.agg #[.slice (some ⟨p.d0, 0, none⟩) 1 1, .slice (some ⟨p.d3, 0, none⟩) 2 2], ?_, rfl⟩
  rw [exec_lit (x := .load 25 (.tmp 2)) (by kernel_rfl) rfl]
  have fc := eval_cst a
  have ff := eval_fn a
  clear hT
  generalize a.eval = ρ at f2 fc ff ⊢
  go_simp
theorem ob_20 {p : SanP} {a0 : Act} {w0 : World} {Q : Exit → Act → World → Prop} (H : San p a0 w0) : Duty Try.prog (regionIn Try.prog 8 10).toArray (sanR p) a0 w0.heap.size w0 Q 20 ((regionIn Try.prog 8 10).getD 20 default) := duty_val (fun a w hT => by obtain ⟨v, e, r⟩ := hT.slot (j := 18) (t := 104) (by kernel_rfl) (by kernel_rfl); obtain rfl : v = .bool true := r; exact wanted_some (ops := (regionIn Try.prog 8 10).toArray) (g := 18) (by kernel_rfl) (by kernel_rfl) e) fun a w hT => by
  have e9 := hT.was (t := 9) (by kernel_rfl) H.s9
  have f9 := eval_tmp e9
  exact ⟨_, exec_move (x := .tmp 9) (by kernel_rfl), by rw [f9]; exact rfl⟩
theorem ob_21 {p : SanP} {a0 : Act} {w0 : World} {Q : Exit → Act → World → Prop} (H : San p a0 w0) : Duty Try.prog (regionIn Try.prog 8 10).toArray (sanR p) a0 w0.heap.size w0 Q 21 ((regionIn Try.prog 8 10).getD 21 default) := duty_call (fun a w hT => by obtain ⟨v, e, r⟩ := hT.slot (j := 18) (t := 104) (by kernel_rfl) (by kernel_rfl); obtain rfl : v = .bool true := r; exact wanted_some (ops := (regionIn Try.prog 8 10).toArray) (g := 18) (by kernel_rfl) (by kernel_rfl) e) fun a w hT => by
  obtain ⟨v105, e105, r105⟩ := hT.slot (j := 19) (t := 105) (by kernel_rfl) (by kernel_rfl)
  obtain rfl : v105 = .agg #[.slice (some ⟨p.d0, 0, none⟩) 1 1, .slice (some ⟨p.d3, 0, none⟩) 2 2] := r105
  have f105 := eval_tmp e105
  obtain ⟨v106, e106, r106⟩ := hT.slot (j := 20) (t := 106) (by kernel_rfl) (by kernel_rfl)
  obtain rfl : v106 = .slice p.pq p.N.length p.cq := r106
  have f106 := eval_tmp e106
  have hC := check_any _ _ sysT p.N _ (H.S2.grows hT.below) (H.N.grows hT.below) (by have := H.Nl; omega) (mod_of valT)
  refine ⟨12, #[.agg #[.slice (some ⟨p.d0, 0, none⟩) 1 1, .slice (some ⟨p.d3, 0, none⟩) 2 2], .slice p.pq p.N.length p.cq], ?_, hC.mono fun e w1 he => ?_⟩
  · clear hC
    rw [exec_lit (x := .call { callee := .value (.func 12), args := #[.tmp 105, .tmp 106], argTypes := #[25, 29] }) (by kernel_rfl) rfl]
    have fc := eval_cst a
    have ff := eval_fn a
    clear hT
    generalize a.eval = ρ at f105 f106 fc ff ⊢
    go_simp
  · obtain ⟨rfl, hb⟩ := he
    exact ⟨_, rfl, hb, by rw [H.Nc]; exact rfl⟩
theorem ob_22 {p : SanP} {a0 : Act} {w0 : World} {Q : Exit → Act → World → Prop} (H : San p a0 w0) : Duty Try.prog (regionIn Try.prog 8 10).toArray (sanR p) a0 w0.heap.size w0 Q 22 ((regionIn Try.prog 8 10).getD 22 default) := duty_val (fun _ _ _ => wanted_none (by kernel_rfl)) fun a w hT => by
  obtain ⟨v104, e104, r104⟩ := hT.slot (j := 18) (t := 104) (by kernel_rfl) (by kernel_rfl)
  obtain rfl : v104 = .bool true := r104
  have f104 := eval_tmp e104
  obtain ⟨v107, e107, r107⟩ := hT.slot (j := 21) (t := 107) (by kernel_rfl) (by kernel_rfl)
  obtain rfl : v107 = .bool true := r107
  have f107 := eval_tmp e107
  exact ⟨_, exec_pick (c := .tmp 104) (x := .tmp 107) (y := .const (.bool false)) (by kernel_rfl) f104, by rw [f107]; exact rfl⟩
theorem ob_23 {p : SanP} {a0 : Act} {w0 : World} {Q : Exit → Act → World → Prop} (H : San p a0 w0) : Duty Try.prog (regionIn Try.prog 8 10).toArray (sanR p) a0 w0.heap.size w0 Q 23 ((regionIn Try.prog 8 10).getD 23 default) := duty_val (fun _ _ _ => wanted_none (by kernel_rfl)) fun a w hT => by
  obtain ⟨v108, e108, r108⟩ := hT.slot (j := 22) (t := 108) (by kernel_rfl) (by kernel_rfl)
  obtain rfl : v108 = .bool true := r108
  have f108 := eval_tmp e108
  exact ⟨_, exec_move (x := .tmp 108) (by kernel_rfl), by rw [f108]; exact rfl⟩
theorem ob_24 {p : SanP} {a0 : Act} {w0 : World} {Q : Exit → Act → World → Prop} (H : San p a0 w0) : Duty Try.prog (regionIn Try.prog 8 10).toArray (sanR p) a0 w0.heap.size w0 Q 24 ((regionIn Try.prog 8 10).getD 24 default) := duty_val (fun a w hT => by obtain ⟨v, e, r⟩ := hT.slot (j := 23) (t := 109) (by kernel_rfl) (by kernel_rfl); obtain rfl : v = .bool true := r; exact wanted_some (ops := (regionIn Try.prog 8 10).toArray) (g := 23) (by kernel_rfl) (by kernel_rfl) e) fun a w hT => by
  have e2 := hT.was (t := 2) (by kernel_rfl) H.s2
  have f2 := eval_tmp e2
  have c0 : w.cell? ⟨p.d4, 0, none⟩ = some (.slice (some ⟨p.d0, 0, none⟩) 1 1) := (H.B2.grows hT.below).cell 0 rfl
  have c1 : w.cell? ⟨p.d4, 1, none⟩ = some (.slice (some ⟨p.d3, 0, none⟩) 2 2) := (H.B2.grows hT.below).cell 1 rfl
  refine ⟨.agg #[.slice (some ⟨p.d0, 0, none⟩) 1 1, .slice (some ⟨p.d3, 0, none⟩) 2 2], ?_, rfl⟩
  rw [exec_lit (x := .load 25 (.tmp 2)) (by kernel_rfl) rfl]
  have fc := eval_cst a
  have ff := eval_fn a
  clear hT
  generalize a.eval = ρ at f2 fc ff ⊢
  go_simp
theorem ob_25 {p : SanP} {a0 : Act} {w0 : World} {Q : Exit → Act → World → Prop} (H : San p a0 w0) : Duty Try.prog (regionIn Try.prog 8 10).toArray (sanR p) a0 w0.heap.size w0 Q 25 ((regionIn Try.prog 8 10).getD 25 default) := duty_val (fun a w hT => by obtain ⟨v, e, r⟩ := hT.slot (j := 23) (t := 109) (by kernel_rfl) (by kernel_rfl); obtain rfl : v = .bool true := r; exact wanted_some (ops := (regionIn Try.prog 8 10).toArray) (g := 23) (by kernel_rfl) (by kernel_rfl) e) fun a w hT => by
  have e3 := hT.was (t := 3) (by kernel_rfl) H.s3
  have f3 := eval_tmp e3
  exact ⟨_, exec_move (x := .tmp 3) (by kernel_rfl), by rw [f3]; exact rfl⟩
theorem ob_26 {p : SanP} {a0 : Act} {w0 : World} {Q : Exit → Act → World → Prop} (H : San p a0 w0) : Duty Try.prog (regionIn Try.prog 8 10).toArray (sanR p) a0 w0.heap.size w0 Q 26 ((regionIn Try.prog 8 10).getD 26 default) := duty_call (fun a w hT => by obtain ⟨v, e, r⟩ := hT.slot (j := 23) (t := 109) (by kernel_rfl) (by kernel_rfl); obtain rfl : v = .bool true := r; exact wanted_some (ops := (regionIn Try.prog 8 10).toArray) (g := 23) (by kernel_rfl) (by kernel_rfl) e) fun a w hT => by
  obtain ⟨v110, e110, r110⟩ := hT.slot (j := 24) (t := 110) (by kernel_rfl) (by kernel_rfl)
  obtain rfl : v110 = .agg #[.slice (some ⟨p.d0, 0, none⟩) 1 1, .slice (some ⟨p.d3, 0, none⟩) 2 2] := r110
  have f110 := eval_tmp e110
  obtain ⟨v111, e111, r111⟩ := hT.slot (j := 25) (t := 111) (by kernel_rfl) (by kernel_rfl)
  obtain rfl : v111 = .slice (some ⟨p.q1, 0, none⟩) 3 3 := r111
  have f111 := eval_tmp e111
  have hC := check_any _ _ sysT prfP _ (H.S2.grows hT.below) (H.P.grows hT.below) (by decide) (mod_of valT)
  refine ⟨12, #[.agg #[.slice (some ⟨p.d0, 0, none⟩) 1 1, .slice (some ⟨p.d3, 0, none⟩) 2 2], .slice (some ⟨p.q1, 0, none⟩) 3 3], ?_, hC.mono fun e w1 he => ?_⟩
  · clear hC
    rw [exec_lit (x := .call { callee := .value (.func 12), args := #[.tmp 110, .tmp 111], argTypes := #[25, 29] }) (by kernel_rfl) rfl]
    have fc := eval_cst a
    have ff := eval_fn a
    clear hT
    generalize a.eval = ρ at f110 f111 fc ff ⊢
    go_simp
  · obtain ⟨rfl, hb⟩ := he
    exact ⟨_, rfl, hb, by rw [chkTP]; exact rfl⟩
theorem ob_27 {p : SanP} {a0 : Act} {w0 : World} {Q : Exit → Act → World → Prop} (H : San p a0 w0) : Duty Try.prog (regionIn Try.prog 8 10).toArray (sanR p) a0 w0.heap.size w0 Q 27 ((regionIn Try.prog 8 10).getD 27 default) := duty_val (fun _ _ _ => wanted_none (by kernel_rfl)) fun a w hT => by
  obtain ⟨v109, e109, r109⟩ := hT.slot (j := 23) (t := 109) (by kernel_rfl) (by kernel_rfl)
  obtain rfl : v109 = .bool true := r109
  have f109 := eval_tmp e109
  obtain ⟨v112, e112, r112⟩ := hT.slot (j := 26) (t := 112) (by kernel_rfl) (by kernel_rfl)
  obtain rfl : v112 = .bool true := r112
  have f112 := eval_tmp e112
  exact ⟨_, exec_pick (c := .tmp 109) (x := .tmp 112) (y := .const (.bool false)) (by kernel_rfl) f109, by rw [f112]; exact rfl⟩
theorem ob_28 {p : SanP} {a0 : Act} {w0 : World} {Q : Exit → Act → World → Prop} (H : San p a0 w0) : Duty Try.prog (regionIn Try.prog 8 10).toArray (sanR p) a0 w0.heap.size w0 Q 28 ((regionIn Try.prog 8 10).getD 28 default) := duty_val (fun _ _ _ => wanted_none (by kernel_rfl)) fun a w hT => by
  obtain ⟨v113, e113, r113⟩ := hT.slot (j := 27) (t := 113) (by kernel_rfl) (by kernel_rfl)
  obtain rfl : v113 = .bool true := r113
  have f113 := eval_tmp e113
  exact ⟨_, exec_move (x := .tmp 113) (by kernel_rfl), by rw [f113]; exact rfl⟩
theorem ob_29 {p : SanP} {a0 : Act} {w0 : World} {Q : Exit → Act → World → Prop} (H : San p a0 w0) : Duty Try.prog (regionIn Try.prog 8 10).toArray (sanR p) a0 w0.heap.size w0 Q 29 ((regionIn Try.prog 8 10).getD 29 default) := duty_val (fun a w hT => by obtain ⟨v, e, r⟩ := hT.slot (j := 28) (t := 114) (by kernel_rfl) (by kernel_rfl); obtain rfl : v = .bool true := r; exact wanted_some (ops := (regionIn Try.prog 8 10).toArray) (g := 28) (by kernel_rfl) (by kernel_rfl) e) fun a w hT => by
  have e1 := hT.was (t := 1) (by kernel_rfl) H.s1
  have f1 := eval_tmp e1
  have c0 : w.cell? ⟨p.a4, 0, none⟩ = some (.slice (some ⟨p.a0, 0, none⟩) 2 2) := (H.B1.grows hT.below).cell 0 rfl
  have c1 : w.cell? ⟨p.a4, 1, none⟩ = some (.slice (some ⟨p.a3, 0, none⟩) 2 2) := (H.B1.grows hT.below).cell 1 rfl
  refine ⟨.agg #[.slice (some ⟨p.a0, 0, none⟩) 2 2, .slice (some ⟨p.a3, 0, none⟩) 2 2], ?_, rfl⟩
  rw [exec_lit (x := .load 25 (.tmp 1)) (by kernel_rfl) rfl]
  have fc := eval_cst a
  have ff := eval_fn a
  clear hT
  generalize a.eval = ρ at f1 fc ff ⊢
  go_simp
theorem ob_30 {p : SanP} {a0 : Act} {w0 : World} {Q : Exit → Act → World → Prop} (H : San p a0 w0) : Duty Try.prog (regionIn Try.prog 8 10).toArray (sanR p) a0 w0.heap.size w0 Q 30 ((regionIn Try.prog 8 10).getD 30 default) := duty_val (fun a w hT => by obtain ⟨v, e, r⟩ := hT.slot (j := 28) (t := 114) (by kernel_rfl) (by kernel_rfl); obtain rfl : v = .bool true := r; exact wanted_some (ops := (regionIn Try.prog 8 10).toArray) (g := 28) (by kernel_rfl) (by kernel_rfl) e) fun a w hT => by
  have e3 := hT.was (t := 3) (by kernel_rfl) H.s3
  have f3 := eval_tmp e3
  exact ⟨_, exec_move (x := .tmp 3) (by kernel_rfl), by rw [f3]; exact rfl⟩
theorem ob_31 {p : SanP} {a0 : Act} {w0 : World} {Q : Exit → Act → World → Prop} (H : San p a0 w0) : Duty Try.prog (regionIn Try.prog 8 10).toArray (sanR p) a0 w0.heap.size w0 Q 31 ((regionIn Try.prog 8 10).getD 31 default) := duty_call (fun a w hT => by obtain ⟨v, e, r⟩ := hT.slot (j := 28) (t := 114) (by kernel_rfl) (by kernel_rfl); obtain rfl : v = .bool true := r; exact wanted_some (ops := (regionIn Try.prog 8 10).toArray) (g := 28) (by kernel_rfl) (by kernel_rfl) e) fun a w hT => by
  obtain ⟨v115, e115, r115⟩ := hT.slot (j := 29) (t := 115) (by kernel_rfl) (by kernel_rfl)
  obtain rfl : v115 = .agg #[.slice (some ⟨p.a0, 0, none⟩) 2 2, .slice (some ⟨p.a3, 0, none⟩) 2 2] := r115
  have f115 := eval_tmp e115
  obtain ⟨v116, e116, r116⟩ := hT.slot (j := 30) (t := 116) (by kernel_rfl) (by kernel_rfl)
  obtain rfl : v116 = .slice (some ⟨p.q1, 0, none⟩) 3 3 := r116
  have f116 := eval_tmp e116
  have hC := check_any _ _ sysS prfP _ (H.S1.grows hT.below) (H.P.grows hT.below) (by decide) (mod_of valS)
  refine ⟨12, #[.agg #[.slice (some ⟨p.a0, 0, none⟩) 2 2, .slice (some ⟨p.a3, 0, none⟩) 2 2], .slice (some ⟨p.q1, 0, none⟩) 3 3], ?_, hC.mono fun e w1 he => ?_⟩
  · clear hC
    rw [exec_lit (x := .call { callee := .value (.func 12), args := #[.tmp 115, .tmp 116], argTypes := #[25, 29] }) (by kernel_rfl) rfl]
    have fc := eval_cst a
    have ff := eval_fn a
    clear hT
    generalize a.eval = ρ at f115 f116 fc ff ⊢
    go_simp
  · obtain ⟨rfl, hb⟩ := he
    exact ⟨_, rfl, hb, by rw [chkSP]; exact rfl⟩
theorem ob_32 {p : SanP} {a0 : Act} {w0 : World} {Q : Exit → Act → World → Prop} (H : San p a0 w0) : Duty Try.prog (regionIn Try.prog 8 10).toArray (sanR p) a0 w0.heap.size w0 Q 32 ((regionIn Try.prog 8 10).getD 32 default) := duty_val (fun a w hT => by obtain ⟨v, e, r⟩ := hT.slot (j := 28) (t := 114) (by kernel_rfl) (by kernel_rfl); obtain rfl : v = .bool true := r; exact wanted_some (ops := (regionIn Try.prog 8 10).toArray) (g := 28) (by kernel_rfl) (by kernel_rfl) e) fun a w hT => by
  obtain ⟨v117, e117, r117⟩ := hT.slot (j := 31) (t := 117) (by kernel_rfl) (by kernel_rfl)
  obtain rfl : v117 = .bool false := r117
  have f117 := eval_tmp e117
  exact ⟨_, exec_not (t := 4) (x := .tmp 117) (by kernel_rfl) f117, rfl⟩
theorem ob_33 {p : SanP} {a0 : Act} {w0 : World} {Q : Exit → Act → World → Prop} (H : San p a0 w0) : Duty Try.prog (regionIn Try.prog 8 10).toArray (sanR p) a0 w0.heap.size w0 Q 33 ((regionIn Try.prog 8 10).getD 33 default) := duty_val (fun _ _ _ => wanted_none (by kernel_rfl)) fun a w hT => by
  obtain ⟨v114, e114, r114⟩ := hT.slot (j := 28) (t := 114) (by kernel_rfl) (by kernel_rfl)
  obtain rfl : v114 = .bool true := r114
  have f114 := eval_tmp e114
  obtain ⟨v118, e118, r118⟩ := hT.slot (j := 32) (t := 118) (by kernel_rfl) (by kernel_rfl)
  obtain rfl : v118 = .bool true := r118
  have f118 := eval_tmp e118
  exact ⟨_, exec_pick (c := .tmp 114) (x := .tmp 118) (y := .const (.bool false)) (by kernel_rfl) f114, by rw [f118]; exact rfl⟩
theorem ob_34 {p : SanP} {a0 : Act} {w0 : World} {Q : Exit → Act → World → Prop} (H : San p a0 w0) : Duty Try.prog (regionIn Try.prog 8 10).toArray (sanR p) a0 w0.heap.size w0 Q 34 ((regionIn Try.prog 8 10).getD 34 default) := duty_val (fun _ _ _ => wanted_none (by kernel_rfl)) fun a w hT => by
  obtain ⟨v119, e119, r119⟩ := hT.slot (j := 33) (t := 119) (by kernel_rfl) (by kernel_rfl)
  obtain rfl : v119 = .bool true := r119
  have f119 := eval_tmp e119
  exact ⟨_, exec_move (x := .tmp 119) (by kernel_rfl), by rw [f119]; exact rfl⟩
theorem ob_35 {p : SanP} {a0 : Act} {w0 : World} {Q : Exit → Act → World → Prop} (H : San p a0 w0) : Duty Try.prog (regionIn Try.prog 8 10).toArray (sanR p) a0 w0.heap.size w0 Q 35 ((regionIn Try.prog 8 10).getD 35 default) := duty_val (fun a w hT => by obtain ⟨v, e, r⟩ := hT.slot (j := 34) (t := 120) (by kernel_rfl) (by kernel_rfl); obtain rfl : v = .bool true := r; exact wanted_some (ops := (regionIn Try.prog 8 10).toArray) (g := 34) (by kernel_rfl) (by kernel_rfl) e) fun a w hT => by
  have e2 := hT.was (t := 2) (by kernel_rfl) H.s2
  have f2 := eval_tmp e2
  have c0 : w.cell? ⟨p.d4, 0, none⟩ = some (.slice (some ⟨p.d0, 0, none⟩) 1 1) := (H.B2.grows hT.below).cell 0 rfl
  have c1 : w.cell? ⟨p.d4, 1, none⟩ = some (.slice (some ⟨p.d3, 0, none⟩) 2 2) := (H.B2.grows hT.below).cell 1 rfl
  refine ⟨.agg #[.slice (some ⟨p.d0, 0, none⟩) 1 1, .slice (some ⟨p.d3, 0, none⟩) 2 2], ?_, rfl⟩
  rw [exec_lit (x := .load 25 (.tmp 2)) (by kernel_rfl) rfl]
  have fc := eval_cst a
  have ff := eval_fn a
  clear hT
  generalize a.eval = ρ at f2 fc ff ⊢
  go_simp
theorem ob_36 {p : SanP} {a0 : Act} {w0 : World} {Q : Exit → Act → World → Prop} (H : San p a0 w0) : Duty Try.prog (regionIn Try.prog 8 10).toArray (sanR p) a0 w0.heap.size w0 Q 36 ((regionIn Try.prog 8 10).getD 36 default) := duty_val (fun a w hT => by obtain ⟨v, e, r⟩ := hT.slot (j := 34) (t := 120) (by kernel_rfl) (by kernel_rfl); obtain rfl : v = .bool true := r; exact wanted_some (ops := (regionIn Try.prog 8 10).toArray) (g := 34) (by kernel_rfl) (by kernel_rfl) e) fun a w hT => by
  have e3 := hT.was (t := 3) (by kernel_rfl) H.s3
  have f3 := eval_tmp e3
  exact ⟨_, exec_move (x := .tmp 3) (by kernel_rfl), by rw [f3]; exact rfl⟩
theorem ob_37 {p : SanP} {a0 : Act} {w0 : World} {Q : Exit → Act → World → Prop} (H : San p a0 w0) : Duty Try.prog (regionIn Try.prog 8 10).toArray (sanR p) a0 w0.heap.size w0 Q 37 ((regionIn Try.prog 8 10).getD 37 default) := duty_val (fun a w hT => by obtain ⟨v, e, r⟩ := hT.slot (j := 34) (t := 120) (by kernel_rfl) (by kernel_rfl); obtain rfl : v = .bool true := r; exact wanted_some (ops := (regionIn Try.prog 8 10).toArray) (g := 34) (by kernel_rfl) (by kernel_rfl) e) fun a w hT => by
  obtain ⟨v122, e122, r122⟩ := hT.slot (j := 36) (t := 122) (by kernel_rfl) (by kernel_rfl)
  obtain rfl : v122 = .slice (some ⟨p.q1, 0, none⟩) 3 3 := r122
  have f122 := eval_tmp e122
  refine ⟨.slice (some ⟨p.q1, 0, none⟩) 2 3, ?_, rfl⟩
  rw [exec_lit (x := .slice 29 (.tmp 122) none (some (.const (.int .i64 (2)))) none) (by kernel_rfl) rfl]
  have fc := eval_cst a
  have ff := eval_fn a
  clear hT
  generalize a.eval = ρ at f122 fc ff ⊢
  go_simp
theorem ob_38 {p : SanP} {a0 : Act} {w0 : World} {Q : Exit → Act → World → Prop} (H : San p a0 w0) : Duty Try.prog (regionIn Try.prog 8 10).toArray (sanR p) a0 w0.heap.size w0 Q 38 ((regionIn Try.prog 8 10).getD 38 default) := duty_call (fun a w hT => by obtain ⟨v, e, r⟩ := hT.slot (j := 34) (t := 120) (by kernel_rfl) (by kernel_rfl); obtain rfl : v = .bool true := r; exact wanted_some (ops := (regionIn Try.prog 8 10).toArray) (g := 34) (by kernel_rfl) (by kernel_rfl) e) fun a w hT => by
  obtain ⟨v121, e121, r121⟩ := hT.slot (j := 35) (t := 121) (by kernel_rfl) (by kernel_rfl)
  obtain rfl : v121 = .agg #[.slice (some ⟨p.d0, 0, none⟩) 1 1, .slice (some ⟨p.d3, 0, none⟩) 2 2] := r121
  have f121 := eval_tmp e121
  obtain ⟨v123, e123, r123⟩ := hT.slot (j := 37) (t := 123) (by kernel_rfl) (by kernel_rfl)
  obtain rfl : v123 = .slice (some ⟨p.q1, 0, none⟩) 2 3 := r123
  have f123 := eval_tmp e123
  have hC := check_any _ _ sysT (prfP.take 2) _ (H.S2.grows hT.below) (H.P.grows hT.below).two (by decide) (mod_of valT)
  refine ⟨12, #[.agg #[.slice (some ⟨p.d0, 0, none⟩) 1 1, .slice (some ⟨p.d3, 0, none⟩) 2 2], .slice (some ⟨p.q1, 0, none⟩) 2 3], ?_, hC.mono fun e w1 he => ?_⟩
  · clear hC
    rw [exec_lit (x := .call { callee := .value (.func 12), args := #[.tmp 121, .tmp 123], argTypes := #[25, 29] }) (by kernel_rfl) rfl]
    have fc := eval_cst a
    have ff := eval_fn a
    clear hT
    generalize a.eval = ρ at f121 f123 fc ff ⊢
    go_simp
  · obtain ⟨rfl, hb⟩ := he
    exact ⟨_, rfl, hb, by rw [chkTP2]; exact rfl⟩
theorem ob_39 {p : SanP} {a0 : Act} {w0 : World} {Q : Exit → Act → World → Prop} (H : San p a0 w0) : Duty Try.prog (regionIn Try.prog 8 10).toArray (sanR p) a0 w0.heap.size w0 Q 39 ((regionIn Try.prog 8 10).getD 39 default) := duty_val (fun a w hT => by obtain ⟨v, e, r⟩ := hT.slot (j := 34) (t := 120) (by kernel_rfl) (by kernel_rfl); obtain rfl : v = .bool true := r; exact wanted_some (ops := (regionIn Try.prog 8 10).toArray) (g := 34) (by kernel_rfl) (by kernel_rfl) e) fun a w hT => by
  obtain ⟨v124, e124, r124⟩ := hT.slot (j := 38) (t := 124) (by kernel_rfl) (by kernel_rfl)
  obtain rfl : v124 = .bool false := r124
  have f124 := eval_tmp e124
  exact ⟨_, exec_not (t := 4) (x := .tmp 124) (by kernel_rfl) f124, rfl⟩
theorem ob_40 {p : SanP} {a0 : Act} {w0 : World} {Q : Exit → Act → World → Prop} (H : San p a0 w0) : Duty Try.prog (regionIn Try.prog 8 10).toArray (sanR p) a0 w0.heap.size w0 Q 40 ((regionIn Try.prog 8 10).getD 40 default) := duty_val (fun _ _ _ => wanted_none (by kernel_rfl)) fun a w hT => by
  obtain ⟨v120, e120, r120⟩ := hT.slot (j := 34) (t := 120) (by kernel_rfl) (by kernel_rfl)
  obtain rfl : v120 = .bool true := r120
  have f120 := eval_tmp e120
  obtain ⟨v125, e125, r125⟩ := hT.slot (j := 39) (t := 125) (by kernel_rfl) (by kernel_rfl)
  obtain rfl : v125 = .bool true := r125
  have f125 := eval_tmp e125
  exact ⟨_, exec_pick (c := .tmp 120) (x := .tmp 125) (y := .const (.bool false)) (by kernel_rfl) f120, by rw [f125]; exact rfl⟩
theorem ob_41 {p : SanP} {a0 : Act} {w0 : World} {Q : Exit → Act → World → Prop} (H : San p a0 w0) : Duty Try.prog (regionIn Try.prog 8 10).toArray (sanR p) a0 w0.heap.size w0 Q 41 ((regionIn Try.prog 8 10).getD 41 default) := duty_val (fun _ _ _ => wanted_none (by kernel_rfl)) fun a w hT => by
  obtain ⟨v126, e126, r126⟩ := hT.slot (j := 40) (t := 126) (by kernel_rfl) (by kernel_rfl)
  obtain rfl : v126 = .bool true := r126
  have f126 := eval_tmp e126
  exact ⟨_, exec_move (x := .tmp 126) (by kernel_rfl), by rw [f126]; exact rfl⟩
theorem ob_42 {p : SanP} {a0 : Act} {w0 : World} {Q : Exit → Act → World → Prop} (H : San p a0 w0) : Duty Try.prog (regionIn Try.prog 8 10).toArray (sanR p) a0 w0.heap.size w0 Q 42 ((regionIn Try.prog 8 10).getD 42 default) := duty_val (fun a w hT => by obtain ⟨v, e, r⟩ := hT.slot (j := 41) (t := 127) (by kernel_rfl) (by kernel_rfl); obtain rfl : v = .bool true := r; exact wanted_some (ops := (regionIn Try.prog 8 10).toArray) (g := 41) (by kernel_rfl) (by kernel_rfl) e) fun a w hT => by
  have e14 := hT.was (t := 14) (by kernel_rfl) H.s14
  have f14 := eval_tmp e14
  exact ⟨_, exec_move (x := .tmp 14) (by kernel_rfl), by rw [f14]; exact rfl⟩
theorem ob_43 {p : SanP} {a0 : Act} {w0 : World} {Q : Exit → Act → World → Prop} (H : San p a0 w0) : Duty Try.prog (regionIn Try.prog 8 10).toArray (sanR p) a0 w0.heap.size w0 Q 43 ((regionIn Try.prog 8 10).getD 43 default) := duty_val (fun _ _ _ => wanted_none (by kernel_rfl)) fun a w hT => by
  obtain ⟨v127, e127, r127⟩ := hT.slot (j := 41) (t := 127) (by kernel_rfl) (by kernel_rfl)
  obtain rfl : v127 = .bool true := r127
  have f127 := eval_tmp e127
  obtain ⟨v128, e128, r128⟩ := hT.slot (j := 42) (t := 128) (by kernel_rfl) (by kernel_rfl)
  obtain rfl : v128 = .bool true := r128
  have f128 := eval_tmp e128
  exact ⟨_, exec_pick (c := .tmp 127) (x := .tmp 128) (y := .const (.bool false)) (by kernel_rfl) f127, by rw [f128]; exact rfl⟩
theorem ob_44 {p : SanP} {a0 : Act} {w0 : World} {Q : Exit → Act → World → Prop} (H : San p a0 w0) : Duty Try.prog (regionIn Try.prog 8 10).toArray (sanR p) a0 w0.heap.size w0 Q 44 ((regionIn Try.prog 8 10).getD 44 default) := duty_val (fun _ _ _ => wanted_none (by kernel_rfl)) fun a w hT => by
  obtain ⟨v129, e129, r129⟩ := hT.slot (j := 43) (t := 129) (by kernel_rfl) (by kernel_rfl)
  obtain rfl : v129 = .bool true := r129
  have f129 := eval_tmp e129
  exact ⟨_, exec_move (x := .tmp 129) (by kernel_rfl), by rw [f129]; exact rfl⟩
theorem ob_45 {p : SanP} {a0 : Act} {w0 : World} {Q : Exit → Act → World → Prop} (H : San p a0 w0) : Duty Try.prog (regionIn Try.prog 8 10).toArray (sanR p) a0 w0.heap.size w0 Q 45 ((regionIn Try.prog 8 10).getD 45 default) := duty_val (fun a w hT => by obtain ⟨v, e, r⟩ := hT.slot (j := 44) (t := 130) (by kernel_rfl) (by kernel_rfl); obtain rfl : v = .bool true := r; exact wanted_some (ops := (regionIn Try.prog 8 10).toArray) (g := 44) (by kernel_rfl) (by kernel_rfl) e) fun a w hT => by
  have e12 := hT.was (t := 12) (by kernel_rfl) H.s12
  have f12 := eval_tmp e12
  exact ⟨_, exec_move (x := .tmp 12) (by kernel_rfl), by rw [f12]; exact rfl⟩
theorem ob_46 {p : SanP} {a0 : Act} {w0 : World} {Q : Exit → Act → World → Prop} (H : San p a0 w0) : Duty Try.prog (regionIn Try.prog 8 10).toArray (sanR p) a0 w0.heap.size w0 Q 46 ((regionIn Try.prog 8 10).getD 46 default) := duty_val (fun a w hT => by obtain ⟨v, e, r⟩ := hT.slot (j := 44) (t := 130) (by kernel_rfl) (by kernel_rfl); obtain rfl : v = .bool true := r; exact wanted_some (ops := (regionIn Try.prog 8 10).toArray) (g := 44) (by kernel_rfl) (by kernel_rfl) e) fun a w hT => by
  obtain ⟨v131, e131, r131⟩ := hT.slot (j := 45) (t := 131) (by kernel_rfl) (by kernel_rfl)
  obtain rfl : v131 = .int .i64 1 := r131
  have f131 := eval_tmp e131
  refine ⟨.bool true, ?_, rfl⟩
  rw [exec_lit (x := .binOp .eql 3 (.tmp 131) (.const (.int .i64 (1))) 3) (by kernel_rfl) rfl]
  have fc := eval_cst a
  have ff := eval_fn a
  clear hT
  generalize a.eval = ρ at f131 fc ff ⊢
  go_simp
theorem ob_47 {p : SanP} {a0 : Act} {w0 : World} {Q : Exit → Act → World → Prop} (H : San p a0 w0) : Duty Try.prog (regionIn Try.prog 8 10).toArray (sanR p) a0 w0.heap.size w0 Q 47 ((regionIn Try.prog 8 10).getD 47 default) := duty_val (fun _ _ _ => wanted_none (by kernel_rfl)) fun a w hT => by
  obtain ⟨v130, e130, r130⟩ := hT.slot (j := 44) (t := 130) (by kernel_rfl) (by kernel_rfl)
  obtain rfl : v130 = .bool true := r130
  have f130 := eval_tmp e130
  obtain ⟨v132, e132, r132⟩ := hT.slot (j := 46) (t := 132) (by kernel_rfl) (by kernel_rfl)
  obtain rfl : v132 = .bool true := r132
  have f132 := eval_tmp e132
  exact ⟨_, exec_pick (c := .tmp 130) (x := .tmp 132) (y := .const (.bool false)) (by kernel_rfl) f130, by rw [f132]; exact rfl⟩
theorem ob_48 {p : SanP} {a0 : Act} {w0 : World} {Q : Exit → Act → World → Prop} (H : San p a0 w0) : Duty Try.prog (regionIn Try.prog 8 10).toArray (sanR p) a0 w0.heap.size w0 Q 48 ((regionIn Try.prog 8 10).getD 48 default) := duty_val (fun _ _ _ => wanted_none (by kernel_rfl)) fun a w hT => by
  obtain ⟨v133, e133, r133⟩ := hT.slot (j := 47) (t := 133) (by kernel_rfl) (by kernel_rfl)
  obtain rfl : v133 = .bool true := r133
  have f133 := eval_tmp e133
  exact ⟨_, exec_move (x := .tmp 133) (by kernel_rfl), by rw [f133]; exact rfl⟩
theorem ob_49 {p : SanP} {a0 : Act} {w0 : World} {Q : Exit → Act → World → Prop} (H : San p a0 w0) : Duty Try.prog (regionIn Try.prog 8 10).toArray (sanR p) a0 w0.heap.size w0 Q 49 ((regionIn Try.prog 8 10).getD 49 default) := duty_val (fun a w hT => by obtain ⟨v, e, r⟩ := hT.slot (j := 48) (t := 134) (by kernel_rfl) (by kernel_rfl); obtain rfl : v = .bool true := r; exact wanted_some (ops := (regionIn Try.prog 8 10).toArray) (g := 48) (by kernel_rfl) (by kernel_rfl) e) fun a w hT => by
  have e13 := hT.was (t := 13) (by kernel_rfl) H.s13
  have f13 := eval_tmp e13
  exact ⟨_, exec_move (x := .tmp 13) (by kernel_rfl), by rw [f13]; exact rfl⟩
theorem ob_50 {p : SanP} {a0 : Act} {w0 : World} {Q : Exit → Act → World → Prop} (H : San p a0 w0) : Duty Try.prog (regionIn Try.prog 8 10).toArray (sanR p) a0 w0.heap.size w0 Q 50 ((regionIn Try.prog 8 10).getD 50 default) := duty_val (fun a w hT => by obtain ⟨v, e, r⟩ := hT.slot (j := 48) (t := 134) (by kernel_rfl) (by kernel_rfl); obtain rfl : v = .bool true := r; exact wanted_some (ops := (regionIn Try.prog 8 10).toArray) (g := 48) (by kernel_rfl) (by kernel_rfl) e) fun a w hT => by
  obtain ⟨v135, e135, r135⟩ := hT.slot (j := 49) (t := 135) (by kernel_rfl) (by kernel_rfl)
  obtain rfl : v135 = .int .i64 3 := r135
  have f135 := eval_tmp e135
  refine ⟨.bool true, ?_, rfl⟩
  rw [exec_lit (x := .binOp .eql 3 (.tmp 135) (.const (.int .i64 (3))) 3) (by kernel_rfl) rfl]
  have fc := eval_cst a
  have ff := eval_fn a
  clear hT
  generalize a.eval = ρ at f135 fc ff ⊢
  go_simp
theorem ob_51 {p : SanP} {a0 : Act} {w0 : World} {Q : Exit → Act → World → Prop} (H : San p a0 w0) : Duty Try.prog (regionIn Try.prog 8 10).toArray (sanR p) a0 w0.heap.size w0 Q 51 ((regionIn Try.prog 8 10).getD 51 default) := duty_val (fun _ _ _ => wanted_none (by kernel_rfl)) fun a w hT => by
  obtain ⟨v134, e134, r134⟩ := hT.slot (j := 48) (t := 134) (by kernel_rfl) (by kernel_rfl)
  obtain rfl : v134 = .bool true := r134
  have f134 := eval_tmp e134
  obtain ⟨v136, e136, r136⟩ := hT.slot (j := 50) (t := 136) (by kernel_rfl) (by kernel_rfl)
  obtain rfl : v136 = .bool true := r136
  have f136 := eval_tmp e136
  exact ⟨_, exec_pick (c := .tmp 134) (x := .tmp 136) (y := .const (.bool false)) (by kernel_rfl) f134, by rw [f136]; exact rfl⟩
theorem ob_52 {p : SanP} {a0 : Act} {w0 : World} {Q : Exit → Act → World → Prop} (H : San p a0 w0) : Duty Try.prog (regionIn Try.prog 8 10).toArray (sanR p) a0 w0.heap.size w0 Q 52 ((regionIn Try.prog 8 10).getD 52 default) := duty_val (fun _ _ _ => wanted_none (by kernel_rfl)) fun a w hT => by
  obtain ⟨v137, e137, r137⟩ := hT.slot (j := 51) (t := 137) (by kernel_rfl) (by kernel_rfl)
  obtain rfl : v137 = .bool true := r137
  have f137 := eval_tmp e137
  exact ⟨_, exec_move (x := .tmp 137) (by kernel_rfl), by rw [f137]; exact rfl⟩
theorem ob_53 {p : SanP} {a0 : Act} {w0 : World} {Q : Exit → Act → World → Prop} (H : San p a0 w0) : Duty Try.prog (regionIn Try.prog 8 10).toArray (sanR p) a0 w0.heap.size w0 Q 53 ((regionIn Try.prog 8 10).getD 53 default) := duty_val (fun a w hT => by obtain ⟨v, e, r⟩ := hT.slot (j := 52) (t := 138) (by kernel_rfl) (by kernel_rfl); obtain rfl : v = .bool true := r; exact wanted_some (ops := (regionIn Try.prog 8 10).toArray) (g := 52) (by kernel_rfl) (by kernel_rfl) e) fun a w hT => by
  have e17 := hT.was (t := 17) (by kernel_rfl) H.s17
  have f17 := eval_tmp e17
  exact ⟨_, exec_move (x := .tmp 17) (by kernel_rfl), by rw [f17]; exact rfl⟩
theorem ob_54 {p : SanP} {a0 : Act} {w0 : World} {Q : Exit → Act → World → Prop} (H : San p a0 w0) : Duty Try.prog (regionIn Try.prog 8 10).toArray (sanR p) a0 w0.heap.size w0 Q 54 ((regionIn Try.prog 8 10).getD 54 default) := duty_val (fun a w hT => by obtain ⟨v, e, r⟩ := hT.slot (j := 52) (t := 138) (by kernel_rfl) (by kernel_rfl); obtain rfl : v = .bool true := r; exact wanted_some (ops := (regionIn Try.prog 8 10).toArray) (g := 52) (by kernel_rfl) (by kernel_rfl) e) fun a w hT => by
  obtain ⟨v139, e139, r139⟩ := hT.slot (j := 53) (t := 139) (by kernel_rfl) (by kernel_rfl)
  obtain rfl : v139 = .bool false := r139
  have f139 := eval_tmp e139
  exact ⟨_, exec_not (t := 4) (x := .tmp 139) (by kernel_rfl) f139, rfl⟩
theorem ob_55 {p : SanP} {a0 : Act} {w0 : World} {Q : Exit → Act → World → Prop} (H : San p a0 w0) : Duty Try.prog (regionIn Try.prog 8 10).toArray (sanR p) a0 w0.heap.size w0 Q 55 ((regionIn Try.prog 8 10).getD 55 default) := duty_val (fun _ _ _ => wanted_none (by kernel_rfl)) fun a w hT => by
  obtain ⟨v138, e138, r138⟩ := hT.slot (j := 52) (t := 138) (by kernel_rfl) (by kernel_rfl)
  obtain rfl : v138 = .bool true := r138
  have f138 := eval_tmp e138
  obtain ⟨v140, e140, r140⟩ := hT.slot (j := 54) (t := 140) (by kernel_rfl) (by kernel_rfl)
  obtain rfl : v140 = .bool true := r140
  have f140 := eval_tmp e140
  exact ⟨_, exec_pick (c := .tmp 138) (x := .tmp 140) (y := .const (.bool false)) (by kernel_rfl) f138, by rw [f140]; exact rfl⟩
theorem ob_56 {p : SanP} {a0 : Act} {w0 : World} {Q : Exit → Act → World → Prop} (H : San p a0 w0) : Duty Try.prog (regionIn Try.prog 8 10).toArray (sanR p) a0 w0.heap.size w0 Q 56 ((regionIn Try.prog 8 10).getD 56 default) := duty_val (fun _ _ _ => wanted_none (by kernel_rfl)) fun a w hT => by
  obtain ⟨v141, e141, r141⟩ := hT.slot (j := 55) (t := 141) (by kernel_rfl) (by kernel_rfl)
  obtain rfl : v141 = .bool true := r141
  have f141 := eval_tmp e141
  exact ⟨_, exec_move (x := .tmp 141) (by kernel_rfl), by rw [f141]; exact rfl⟩
theorem ob_57 {p : SanP} {a0 : Act} {w0 : World} {Q : Exit → Act → World → Prop} (H : San p a0 w0) : Duty Try.prog (regionIn Try.prog 8 10).toArray (sanR p) a0 w0.heap.size w0 Q 57 ((regionIn Try.prog 8 10).getD 57 default) := duty_val (fun a w hT => by obtain ⟨v, e, r⟩ := hT.slot (j := 56) (t := 142) (by kernel_rfl) (by kernel_rfl); obtain rfl : v = .bool true := r; exact wanted_some (ops := (regionIn Try.prog 8 10).toArray) (g := 56) (by kernel_rfl) (by kernel_rfl) e) fun a w hT => by
  have e21 := hT.was (t := 21) (by kernel_rfl) H.s21
  have f21 := eval_tmp e21
  exact ⟨_, exec_move (x := .tmp 21) (by kernel_rfl), by rw [f21]; exact rfl⟩
theorem ob_58 {p : SanP} {a0 : Act} {w0 : World} {Q : Exit → Act → World → Prop} (H : San p a0 w0) : Duty Try.prog (regionIn Try.prog 8 10).toArray (sanR p) a0 w0.heap.size w0 Q 58 ((regionIn Try.prog 8 10).getD 58 default) := duty_val (fun a w hT => by obtain ⟨v, e, r⟩ := hT.slot (j := 56) (t := 142) (by kernel_rfl) (by kernel_rfl); obtain rfl : v = .bool true := r; exact wanted_some (ops := (regionIn Try.prog 8 10).toArray) (g := 56) (by kernel_rfl) (by kernel_rfl) e) fun a w hT => by
  obtain ⟨v143, e143, r143⟩ := hT.slot (j := 57) (t := 143) (by kernel_rfl) (by kernel_rfl)
  obtain rfl : v143 = .int .i64 1 := r143
  have f143 := eval_tmp e143
  refine ⟨.bool true, ?_, rfl⟩
  rw [exec_lit (x := .binOp .eql 30 (.tmp 143) (.const (.int .i64 (1))) 30) (by kernel_rfl) rfl]
  have fc := eval_cst a
  have ff := eval_fn a
  clear hT
  generalize a.eval = ρ at f143 fc ff ⊢
  go_simp
theorem ob_59 {p : SanP} {a0 : Act} {w0 : World} {Q : Exit → Act → World → Prop} (H : San p a0 w0) : Duty Try.prog (regionIn Try.prog 8 10).toArray (sanR p) a0 w0.heap.size w0 Q 59 ((regionIn Try.prog 8 10).getD 59 default) := duty_val (fun _ _ _ => wanted_none (by kernel_rfl)) fun a w hT => by
  obtain ⟨v142, e142, r142⟩ := hT.slot (j := 56) (t := 142) (by kernel_rfl) (by kernel_rfl)
  obtain rfl : v142 = .bool true := r142
  have f142 := eval_tmp e142
  obtain ⟨v144, e144, r144⟩ := hT.slot (j := 58) (t := 144) (by kernel_rfl) (by kernel_rfl)
  obtain rfl : v144 = .bool true := r144
  have f144 := eval_tmp e144
  exact ⟨_, exec_pick (c := .tmp 142) (x := .tmp 144) (y := .const (.bool false)) (by kernel_rfl) f142, by rw [f144]; exact rfl⟩
theorem ob_60 {p : SanP} {a0 : Act} {w0 : World} {Q : Exit → Act → World → Prop} (H : San p a0 w0) : Duty Try.prog (regionIn Try.prog 8 10).toArray (sanR p) a0 w0.heap.size w0 Q 60 ((regionIn Try.prog 8 10).getD 60 default) := duty_val (fun _ _ _ => wanted_none (by kernel_rfl)) fun a w hT => by
  obtain ⟨v145, e145, r145⟩ := hT.slot (j := 59) (t := 145) (by kernel_rfl) (by kernel_rfl)
  obtain rfl : v145 = .bool true := r145
  have f145 := eval_tmp e145
  exact ⟨_, exec_move (x := .tmp 145) (by kernel_rfl), by rw [f145]; exact rfl⟩
theorem ob_61 {p : SanP} {a0 : Act} {w0 : World} {Q : Exit → Act → World → Prop} (H : San p a0 w0) : Duty Try.prog (regionIn Try.prog 8 10).toArray (sanR p) a0 w0.heap.size w0 Q 61 ((regionIn Try.prog 8 10).getD 61 default) := duty_val (fun a w hT => by obtain ⟨v, e, r⟩ := hT.slot (j := 60) (t := 146) (by kernel_rfl) (by kernel_rfl); obtain rfl : v = .bool true := r; exact wanted_some (ops := (regionIn Try.prog 8 10).toArray) (g := 60) (by kernel_rfl) (by kernel_rfl) e) fun a w hT => by
  have e25 := hT.was (t := 25) (by kernel_rfl) H.s25
  have f25 := eval_tmp e25
  exact ⟨_, exec_move (x := .tmp 25) (by kernel_rfl), by rw [f25]; exact rfl⟩
theorem ob_62 {p : SanP} {a0 : Act} {w0 : World} {Q : Exit → Act → World → Prop} (H : San p a0 w0) : Duty Try.prog (regionIn Try.prog 8 10).toArray (sanR p) a0 w0.heap.size w0 Q 62 ((regionIn Try.prog 8 10).getD 62 default) := duty_val (fun a w hT => by obtain ⟨v, e, r⟩ := hT.slot (j := 60) (t := 146) (by kernel_rfl) (by kernel_rfl); obtain rfl : v = .bool true := r; exact wanted_some (ops := (regionIn Try.prog 8 10).toArray) (g := 60) (by kernel_rfl) (by kernel_rfl) e) fun a w hT => by
  obtain ⟨v147, e147, r147⟩ := hT.slot (j := 61) (t := 147) (by kernel_rfl) (by kernel_rfl)
  obtain rfl : v147 = .int .i64 2 := r147
  have f147 := eval_tmp e147
  refine ⟨.bool true, ?_, rfl⟩
  rw [exec_lit (x := .binOp .eql 30 (.tmp 147) (.const (.int .i64 (2))) 30) (by kernel_rfl) rfl]
  have fc := eval_cst a
  have ff := eval_fn a
  clear hT
  generalize a.eval = ρ at f147 fc ff ⊢
  go_simp
theorem ob_63 {p : SanP} {a0 : Act} {w0 : World} {Q : Exit → Act → World → Prop} (H : San p a0 w0) : Duty Try.prog (regionIn Try.prog 8 10).toArray (sanR p) a0 w0.heap.size w0 Q 63 ((regionIn Try.prog 8 10).getD 63 default) := duty_val (fun _ _ _ => wanted_none (by kernel_rfl)) fun a w hT => by
  obtain ⟨v146, e146, r146⟩ := hT.slot (j := 60) (t := 146) (by kernel_rfl) (by kernel_rfl)
  obtain rfl : v146 = .bool true := r146
  have f146 := eval_tmp e146
  obtain ⟨v148, e148, r148⟩ := hT.slot (j := 62) (t := 148) (by kernel_rfl) (by kernel_rfl)
  obtain rfl : v148 = .bool true := r148
  have f148 := eval_tmp e148
  exact ⟨_, exec_pick (c := .tmp 146) (x := .tmp 148) (y := .const (.bool false)) (by kernel_rfl) f146, by rw [f148]; exact rfl⟩
theorem ob_64 {p : SanP} {a0 : Act} {w0 : World} {Q : Exit → Act → World → Prop} (H : San p a0 w0) : Duty Try.prog (regionIn Try.prog 8 10).toArray (sanR p) a0 w0.heap.size w0 Q 64 ((regionIn Try.prog 8 10).getD 64 default) := duty_val (fun _ _ _ => wanted_none (by kernel_rfl)) fun a w hT => by
  obtain ⟨v149, e149, r149⟩ := hT.slot (j := 63) (t := 149) (by kernel_rfl) (by kernel_rfl)
  obtain rfl : v149 = .bool true := r149
  have f149 := eval_tmp e149
  exact ⟨_, exec_move (x := .tmp 149) (by kernel_rfl), by rw [f149]; exact rfl⟩
theorem ob_65 {p : SanP} {a0 : Act} {w0 : World} {Q : Exit → Act → World → Prop} (H : San p a0 w0) : Duty Try.prog (regionIn Try.prog 8 10).toArray (sanR p) a0 w0.heap.size w0 Q 65 ((regionIn Try.prog 8 10).getD 65 default) := duty_val (fun a w hT => by obtain ⟨v, e, r⟩ := hT.slot (j := 64) (t := 150) (by kernel_rfl) (by kernel_rfl); obtain rfl : v = .bool true := r; exact wanted_some (ops := (regionIn Try.prog 8 10).toArray) (g := 64) (by kernel_rfl) (by kernel_rfl) e) fun a w hT => by
  have e1 := hT.was (t := 1) (by kernel_rfl) H.s1
  have f1 := eval_tmp e1
  refine ⟨.pointer (some ⟨p.a4, 1, none⟩), ?_, rfl⟩
  rw [exec_lit (x := .fieldAddr 25 (.tmp 1) 1) (by kernel_rfl) rfl]
  have fc := eval_cst a
  have ff := eval_fn a
  clear hT
  generalize a.eval = ρ at f1 fc ff ⊢
  go_simp
theorem ob_66 {p : SanP} {a0 : Act} {w0 : World} {Q : Exit → Act → World → Prop} (H : San p a0 w0) : Duty Try.prog (regionIn Try.prog 8 10).toArray (sanR p) a0 w0.heap.size w0 Q 66 ((regionIn Try.prog 8 10).getD 66 default) := duty_val (fun a w hT => by obtain ⟨v, e, r⟩ := hT.slot (j := 64) (t := 150) (by kernel_rfl) (by kernel_rfl); obtain rfl : v = .bool true := r; exact wanted_some (ops := (regionIn Try.prog 8 10).toArray) (g := 64) (by kernel_rfl) (by kernel_rfl) e) fun a w hT => by
  obtain ⟨v151, e151, r151⟩ := hT.slot (j := 65) (t := 151) (by kernel_rfl) (by kernel_rfl)
  obtain rfl : v151 = .pointer (some ⟨p.a4, 1, none⟩) := r151
  have f151 := eval_tmp e151
  have c1 : w.cell? ⟨p.a4, 1, none⟩ = some (.slice (some ⟨p.a3, 0, none⟩) 2 2) := (H.B1.grows hT.below).cell 1 rfl
  refine ⟨.slice (some ⟨p.a3, 0, none⟩) 2 2, ?_, rfl⟩
  rw [exec_lit (x := .load 23 (.tmp 151)) (by kernel_rfl) rfl]
  have fc := eval_cst a
  have ff := eval_fn a
  clear hT
  generalize a.eval = ρ at f151 fc ff ⊢
  go_simp
theorem ob_67 {p : SanP} {a0 : Act} {w0 : World} {Q : Exit → Act → World → Prop} (H : San p a0 w0) : Duty Try.prog (regionIn Try.prog 8 10).toArray (sanR p) a0 w0.heap.size w0 Q 67 ((regionIn Try.prog 8 10).getD 67 default) := duty_val (fun a w hT => by obtain ⟨v, e, r⟩ := hT.slot (j := 64) (t := 150) (by kernel_rfl) (by kernel_rfl); obtain rfl : v = .bool true := r; exact wanted_some (ops := (regionIn Try.prog 8 10).toArray) (g := 64) (by kernel_rfl) (by kernel_rfl) e) fun a w hT => by
  obtain ⟨v152, e152, r152⟩ := hT.slot (j := 66) (t := 152) (by kernel_rfl) (by kernel_rfl)
  obtain rfl : v152 = .slice (some ⟨p.a3, 0, none⟩) 2 2 := r152
  have f152 := eval_tmp e152
  refine ⟨.pointer (some ⟨p.a3, 0, none⟩), ?_, rfl⟩
  rw [exec_lit (x := .indexAddr 23 (.tmp 152) (.const (.int .i64 (0)))) (by kernel_rfl) rfl]
  have fc := eval_cst a
  have ff := eval_fn a
  clear hT
  generalize a.eval = ρ at f152 fc ff ⊢
  go_simp
theorem ob_68 {p : SanP} {a0 : Act} {w0 : World} {Q : Exit → Act → World → Prop} (H : San p a0 w0) : Duty Try.prog (regionIn Try.prog 8 10).toArray (sanR p) a0 w0.heap.size w0 Q 68 ((regionIn Try.prog 8 10).getD 68 default) := duty_val (fun a w hT => by obtain ⟨v, e, r⟩ := hT.slot (j := 64) (t := 150) (by kernel_rfl) (by kernel_rfl); obtain rfl : v = .bool true := r; exact wanted_some (ops := (regionIn Try.prog 8 10).toArray) (g := 64) (by kernel_rfl) (by kernel_rfl) e) fun a w hT => by
  obtain ⟨v153, e153, r153⟩ := hT.slot (j := 67) (t := 153) (by kernel_rfl) (by kernel_rfl)
  obtain rfl : v153 = .pointer (some ⟨p.a3, 0, none⟩) := r153
  have f153 := eval_tmp e153
  have c0 : w.cell? ⟨p.a3, 0, none⟩ = some (.slice (some ⟨p.a1, 0, none⟩) 2 2) := (H.R1.grows hT.below).cell 0 rfl
  have c1 : w.cell? ⟨p.a3, 1, none⟩ = some (.int .i64 (-4)) := (H.R1.grows hT.below).cell 1 rfl
  refine ⟨.agg #[.slice (some ⟨p.a1, 0, none⟩) 2 2, .int .i64 (-4)], ?_, rfl⟩
  rw [exec_lit (x := .load 37 (.tmp 153)) (by kernel_rfl) rfl]
  have fc := eval_cst a
  have ff := eval_fn a
  clear hT
  generalize a.eval = ρ at f153 fc ff ⊢
  go_simp
theorem ob_69 {p : SanP} {a0 : Act} {w0 : World} {Q : Exit → Act → World → Prop} (H : San p a0 w0) : Duty Try.prog (regionIn Try.prog 8 10).toArray (sanR p) a0 w0.heap.size w0 Q 69 ((regionIn Try.prog 8 10).getD 69 default) := duty_new (fun a w hT => by obtain ⟨v, e, r⟩ := hT.slot (j := 64) (t := 150) (by kernel_rfl) (by kernel_rfl); obtain rfl : v = .bool true := r; exact wanted_some (ops := (regionIn Try.prog 8 10).toArray) (g := 64) (by kernel_rfl) (by kernel_rfl) e) fun a w hT => by
  refine ⟨.slice (some ⟨w.heap.size, 0, none⟩) 2 2, w.alloc (.cells #[.int .i64 (2), .int .i64 (2)] 3), ?_, by go_grown, isI_blk (n := 2) (l := [2, 2]) (blk_at rfl) rfl (by omega)⟩
  rw [exec_lit (x := .buildSlice 22 2 #[(0, .const (.int .i64 (2))), (1, .const (.int .i64 (2)))]) (by kernel_rfl) rfl]
  have fc := eval_cst a
  have ff := eval_fn a
  clear hT
  generalize a.eval = ρ at fc ff ⊢
  go_simp
theorem ob_70 {p : SanP} {a0 : Act} {w0 : World} {Q : Exit → Act → World → Prop} (H : San p a0 w0) : Duty Try.prog (regionIn Try.prog 8 10).toArray (sanR p) a0 w0.heap.size w0 Q 70 ((regionIn Try.prog 8 10).getD 70 default) := duty_call (fun a w hT => by obtain ⟨v, e, r⟩ := hT.slot (j := 64) (t := 150) (by kernel_rfl) (by kernel_rfl); obtain rfl : v = .bool true := r; exact wanted_some (ops := (regionIn Try.prog 8 10).toArray) (g := 64) (by kernel_rfl) (by kernel_rfl) e) fun a w hT => by
  obtain ⟨v154, e154, r154⟩ := hT.slot (j := 68) (t := 154) (by kernel_rfl) (by kernel_rfl)
  obtain rfl : v154 = .agg #[.slice (some ⟨p.a1, 0, none⟩) 2 2, .int .i64 (-4)] := r154
  have f154 := eval_tmp e154
  obtain ⟨v155, e155, r155⟩ := hT.slot (j := 69) (t := 155) (by kernel_rfl) (by kernel_rfl)
  have r155 : IsI w v155 [2, 2] := r155
  have f155 := eval_tmp e155
  have hC := holds_any _ _ ⟨[1, 1], -4⟩ [2, 2] _ (H.I1.grows hT.below) r155 (by simp) (by simp)
  refine ⟨13, #[.agg #[.slice (some ⟨p.a1, 0, none⟩) 2 2, .int .i64 (-4)], v155], ?_, hC.mono fun e w1 he => ?_⟩
  · clear hC
    rw [exec_lit (x := .call { callee := .value (.func 13), args := #[.tmp 154, .tmp 155], argTypes := #[37, 22] }) (by kernel_rfl) rfl]
    have fc := eval_cst a
    have ff := eval_fn a
    clear hT
    generalize a.eval = ρ at f154 f155 fc ff ⊢
    go_simp
  · obtain ⟨rfl, hb⟩ := he
    exact ⟨_, rfl, hb, by rw [show holdsB ⟨[1, 1], -4⟩ [2, 2] = true by decide]; exact rfl⟩
theorem ob_71 {p : SanP} {a0 : Act} {w0 : World} {Q : Exit → Act → World → Prop} (H : San p a0 w0) : Duty Try.prog (regionIn Try.prog 8 10).toArray (sanR p) a0 w0.heap.size w0 Q 71 ((regionIn Try.prog 8 10).getD 71 default) := duty_val (fun _ _ _ => wanted_none (by kernel_rfl)) fun a w hT => by
  obtain ⟨v150, e150, r150⟩ := hT.slot (j := 64) (t := 150) (by kernel_rfl) (by kernel_rfl)
  obtain rfl : v150 = .bool true := r150
  have f150 := eval_tmp e150
  obtain ⟨v156, e156, r156⟩ := hT.slot (j := 70) (t := 156) (by kernel_rfl) (by kernel_rfl)
  obtain rfl : v156 = .bool true := r156
  have f156 := eval_tmp e156
  exact ⟨_, exec_pick (c := .tmp 150) (x := .tmp 156) (y := .const (.bool false)) (by kernel_rfl) f150, by rw [f156]; exact rfl⟩
theorem ob_72 {p : SanP} {a0 : Act} {w0 : World} {Q : Exit → Act → World → Prop} (H : San p a0 w0) : Duty Try.prog (regionIn Try.prog 8 10).toArray (sanR p) a0 w0.heap.size w0 Q 72 ((regionIn Try.prog 8 10).getD 72 default) := duty_val (fun _ _ _ => wanted_none (by kernel_rfl)) fun a w hT => by
  obtain ⟨v157, e157, r157⟩ := hT.slot (j := 71) (t := 157) (by kernel_rfl) (by kernel_rfl)
  obtain rfl : v157 = .bool true := r157
  have f157 := eval_tmp e157
  exact ⟨_, exec_move (x := .tmp 157) (by kernel_rfl), by rw [f157]; exact rfl⟩
theorem ob_73 {p : SanP} {a0 : Act} {w0 : World} {Q : Exit → Act → World → Prop} (H : San p a0 w0) : Duty Try.prog (regionIn Try.prog 8 10).toArray (sanR p) a0 w0.heap.size w0 Q 73 ((regionIn Try.prog 8 10).getD 73 default) := duty_val (fun a w hT => by obtain ⟨v, e, r⟩ := hT.slot (j := 72) (t := 158) (by kernel_rfl) (by kernel_rfl); obtain rfl : v = .bool true := r; exact wanted_some (ops := (regionIn Try.prog 8 10).toArray) (g := 72) (by kernel_rfl) (by kernel_rfl) e) fun a w hT => by
  have e1 := hT.was (t := 1) (by kernel_rfl) H.s1
  have f1 := eval_tmp e1
  refine ⟨.pointer (some ⟨p.a4, 1, none⟩), ?_, rfl⟩
  rw [exec_lit (x := .fieldAddr 25 (.tmp 1) 1) (by kernel_rfl) rfl]
  have fc := eval_cst a
  have ff := eval_fn a
  clear hT
  generalize a.eval = ρ at f1 fc ff ⊢
  go_simp
theorem ob_74 {p : SanP} {a0 : Act} {w0 : World} {Q : Exit → Act → World → Prop} (H : San p a0 w0) : Duty Try.prog (regionIn Try.prog 8 10).toArray (sanR p) a0 w0.heap.size w0 Q 74 ((regionIn Try.prog 8 10).getD 74 default) := duty_val (fun a w hT => by obtain ⟨v, e, r⟩ := hT.slot (j := 72) (t := 158) (by kernel_rfl) (by kernel_rfl); obtain rfl : v = .bool true := r; exact wanted_some (ops := (regionIn Try.prog 8 10).toArray) (g := 72) (by kernel_rfl) (by kernel_rfl) e) fun a w hT => by
  obtain ⟨v159, e159, r159⟩ := hT.slot (j := 73) (t := 159) (by kernel_rfl) (by kernel_rfl)
  obtain rfl : v159 = .pointer (some ⟨p.a4, 1, none⟩) := r159
  have f159 := eval_tmp e159
  have c1 : w.cell? ⟨p.a4, 1, none⟩ = some (.slice (some ⟨p.a3, 0, none⟩) 2 2) := (H.B1.grows hT.below).cell 1 rfl
  refine ⟨.slice (some ⟨p.a3, 0, none⟩) 2 2, ?_, rfl⟩
  rw [exec_lit (x := .load 23 (.tmp 159)) (by kernel_rfl) rfl]
  have fc := eval_cst a
  have ff := eval_fn a
  clear hT
  generalize a.eval = ρ at f159 fc ff ⊢
  go_simp
theorem ob_75 {p : SanP} {a0 : Act} {w0 : World} {Q : Exit → Act → World → Prop} (H : San p a0 w0) : Duty Try.prog (regionIn Try.prog 8 10).toArray (sanR p) a0 w0.heap.size w0 Q 75 ((regionIn Try.prog 8 10).getD 75 default) := duty_val (fun a w hT => by obtain ⟨v, e, r⟩ := hT.slot (j := 72) (t := 158) (by kernel_rfl) (by kernel_rfl); obtain rfl : v = .bool true := r; exact wanted_some (ops := (regionIn Try.prog 8 10).toArray) (g := 72) (by kernel_rfl) (by kernel_rfl) e) fun a w hT => by
  obtain ⟨v160, e160, r160⟩ := hT.slot (j := 74) (t := 160) (by kernel_rfl) (by kernel_rfl)
  obtain rfl : v160 = .slice (some ⟨p.a3, 0, none⟩) 2 2 := r160
  have f160 := eval_tmp e160
  refine ⟨.pointer (some ⟨p.a3, 0, none⟩), ?_, rfl⟩
  rw [exec_lit (x := .indexAddr 23 (.tmp 160) (.const (.int .i64 (0)))) (by kernel_rfl) rfl]
  have fc := eval_cst a
  have ff := eval_fn a
  clear hT
  generalize a.eval = ρ at f160 fc ff ⊢
  go_simp
theorem ob_76 {p : SanP} {a0 : Act} {w0 : World} {Q : Exit → Act → World → Prop} (H : San p a0 w0) : Duty Try.prog (regionIn Try.prog 8 10).toArray (sanR p) a0 w0.heap.size w0 Q 76 ((regionIn Try.prog 8 10).getD 76 default) := duty_val (fun a w hT => by obtain ⟨v, e, r⟩ := hT.slot (j := 72) (t := 158) (by kernel_rfl) (by kernel_rfl); obtain rfl : v = .bool true := r; exact wanted_some (ops := (regionIn Try.prog 8 10).toArray) (g := 72) (by kernel_rfl) (by kernel_rfl) e) fun a w hT => by
  obtain ⟨v161, e161, r161⟩ := hT.slot (j := 75) (t := 161) (by kernel_rfl) (by kernel_rfl)
  obtain rfl : v161 = .pointer (some ⟨p.a3, 0, none⟩) := r161
  have f161 := eval_tmp e161
  have c0 : w.cell? ⟨p.a3, 0, none⟩ = some (.slice (some ⟨p.a1, 0, none⟩) 2 2) := (H.R1.grows hT.below).cell 0 rfl
  have c1 : w.cell? ⟨p.a3, 1, none⟩ = some (.int .i64 (-4)) := (H.R1.grows hT.below).cell 1 rfl
  refine ⟨.agg #[.slice (some ⟨p.a1, 0, none⟩) 2 2, .int .i64 (-4)], ?_, rfl⟩
  rw [exec_lit (x := .load 37 (.tmp 161)) (by kernel_rfl) rfl]
  have fc := eval_cst a
  have ff := eval_fn a
  clear hT
  generalize a.eval = ρ at f161 fc ff ⊢
  go_simp
theorem ob_77 {p : SanP} {a0 : Act} {w0 : World} {Q : Exit → Act → World → Prop} (H : San p a0 w0) : Duty Try.prog (regionIn Try.prog 8 10).toArray (sanR p) a0 w0.heap.size w0 Q 77 ((regionIn Try.prog 8 10).getD 77 default) := duty_new (fun a w hT => by obtain ⟨v, e, r⟩ := hT.slot (j := 72) (t := 158) (by kernel_rfl) (by kernel_rfl); obtain rfl : v = .bool true := r; exact wanted_some (ops := (regionIn Try.prog 8 10).toArray) (g := 72) (by kernel_rfl) (by kernel_rfl) e) fun a w hT => by
  refine ⟨.slice (some ⟨w.heap.size, 0, none⟩) 2 2, w.alloc (.cells #[.int .i64 (2), .int .i64 (1)] 3), ?_, by go_grown, isI_blk (n := 2) (l := [2, 1]) (blk_at rfl) rfl (by omega)⟩
  rw [exec_lit (x := .buildSlice 22 2 #[(0, .const (.int .i64 (2))), (1, .const (.int .i64 (1)))]) (by kernel_rfl) rfl]
  have fc := eval_cst a
  have ff := eval_fn a
  clear hT
  generalize a.eval = ρ at fc ff ⊢
  go_simp
theorem ob_78 {p : SanP} {a0 : Act} {w0 : World} {Q : Exit → Act → World → Prop} (H : San p a0 w0) : Duty Try.prog (regionIn Try.prog 8 10).toArray (sanR p) a0 w0.heap.size w0 Q 78 ((regionIn Try.prog 8 10).getD 78 default) := duty_call (fun a w hT => by obtain ⟨v, e, r⟩ := hT.slot (j := 72) (t := 158) (by kernel_rfl) (by kernel_rfl); obtain rfl : v = .bool true := r; exact wanted_some (ops := (regionIn Try.prog 8 10).toArray) (g := 72) (by kernel_rfl) (by kernel_rfl) e) fun a w hT => by
  obtain ⟨v162, e162, r162⟩ := hT.slot (j := 76) (t := 162) (by kernel_rfl) (by kernel_rfl)
  obtain rfl : v162 = .agg #[.slice (some ⟨p.a1, 0, none⟩) 2 2, .int .i64 (-4)] := r162
  have f162 := eval_tmp e162
  obtain ⟨v163, e163, r163⟩ := hT.slot (j := 77) (t := 163) (by kernel_rfl) (by kernel_rfl)
  have r163 : IsI w v163 [2, 1] := r163
  have f163 := eval_tmp e163
  have hC := holds_any _ _ ⟨[1, 1], -4⟩ [2, 1] _ (H.I1.grows hT.below) r163 (by simp) (by simp)
  refine ⟨13, #[.agg #[.slice (some ⟨p.a1, 0, none⟩) 2 2, .int .i64 (-4)], v163], ?_, hC.mono fun e w1 he => ?_⟩
  · clear hC
    rw [exec_lit (x := .call { callee := .value (.func 13), args := #[.tmp 162, .tmp 163], argTypes := #[37, 22] }) (by kernel_rfl) rfl]
    have fc := eval_cst a
    have ff := eval_fn a
    clear hT
    generalize a.eval = ρ at f162 f163 fc ff ⊢
    go_simp
  · obtain ⟨rfl, hb⟩ := he
    exact ⟨_, rfl, hb, by rw [show holdsB ⟨[1, 1], -4⟩ [2, 1] = false by decide]; exact rfl⟩
theorem ob_79 {p : SanP} {a0 : Act} {w0 : World} {Q : Exit → Act → World → Prop} (H : San p a0 w0) : Duty Try.prog (regionIn Try.prog 8 10).toArray (sanR p) a0 w0.heap.size w0 Q 79 ((regionIn Try.prog 8 10).getD 79 default) := duty_val (fun a w hT => by obtain ⟨v, e, r⟩ := hT.slot (j := 72) (t := 158) (by kernel_rfl) (by kernel_rfl); obtain rfl : v = .bool true := r; exact wanted_some (ops := (regionIn Try.prog 8 10).toArray) (g := 72) (by kernel_rfl) (by kernel_rfl) e) fun a w hT => by
  obtain ⟨v164, e164, r164⟩ := hT.slot (j := 78) (t := 164) (by kernel_rfl) (by kernel_rfl)
  obtain rfl : v164 = .bool false := r164
  have f164 := eval_tmp e164
  exact ⟨_, exec_not (t := 4) (x := .tmp 164) (by kernel_rfl) f164, rfl⟩
theorem ob_80 {p : SanP} {a0 : Act} {w0 : World} {Q : Exit → Act → World → Prop} (H : San p a0 w0) : Duty Try.prog (regionIn Try.prog 8 10).toArray (sanR p) a0 w0.heap.size w0 Q 80 ((regionIn Try.prog 8 10).getD 80 default) := duty_val (fun _ _ _ => wanted_none (by kernel_rfl)) fun a w hT => by
  obtain ⟨v158, e158, r158⟩ := hT.slot (j := 72) (t := 158) (by kernel_rfl) (by kernel_rfl)
  obtain rfl : v158 = .bool true := r158
  have f158 := eval_tmp e158
  obtain ⟨v165, e165, r165⟩ := hT.slot (j := 79) (t := 165) (by kernel_rfl) (by kernel_rfl)
  obtain rfl : v165 = .bool true := r165
  have f165 := eval_tmp e165
  exact ⟨_, exec_pick (c := .tmp 158) (x := .tmp 165) (y := .const (.bool false)) (by kernel_rfl) f158, by rw [f165]; exact rfl⟩
theorem ob_81 {p : SanP} {a0 : Act} {w0 : World} {Q : Exit → Act → World → Prop} (H : San p a0 w0) : Duty Try.prog (regionIn Try.prog 8 10).toArray (sanR p) a0 w0.heap.size w0 Q 81 ((regionIn Try.prog 8 10).getD 81 default) := duty_val (fun _ _ _ => wanted_none (by kernel_rfl)) fun a w hT => by
  obtain ⟨v166, e166, r166⟩ := hT.slot (j := 80) (t := 166) (by kernel_rfl) (by kernel_rfl)
  obtain rfl : v166 = .bool true := r166
  have f166 := eval_tmp e166
  exact ⟨_, exec_move (x := .tmp 166) (by kernel_rfl), by rw [f166]; exact rfl⟩
theorem ob_82 {p : SanP} {a0 : Act} {w0 : World} {Q : Exit → Act → World → Prop} (H : San p a0 w0) : Duty Try.prog (regionIn Try.prog 8 10).toArray (sanR p) a0 w0.heap.size w0 Q 82 ((regionIn Try.prog 8 10).getD 82 default) := duty_val (fun a w hT => by obtain ⟨v, e, r⟩ := hT.slot (j := 81) (t := 167) (by kernel_rfl) (by kernel_rfl); obtain rfl : v = .bool true := r; exact wanted_some (ops := (regionIn Try.prog 8 10).toArray) (g := 81) (by kernel_rfl) (by kernel_rfl) e) fun a w hT => by
  have e1 := hT.was (t := 1) (by kernel_rfl) H.s1
  have f1 := eval_tmp e1
  have c0 : w.cell? ⟨p.a4, 0, none⟩ = some (.slice (some ⟨p.a0, 0, none⟩) 2 2) := (H.B1.grows hT.below).cell 0 rfl
  have c1 : w.cell? ⟨p.a4, 1, none⟩ = some (.slice (some ⟨p.a3, 0, none⟩) 2 2) := (H.B1.grows hT.below).cell 1 rfl
  refine ⟨.agg #[.slice (some ⟨p.a0, 0, none⟩) 2 2, .slice (some ⟨p.a3, 0, none⟩) 2 2], ?_, rfl⟩
  rw [exec_lit (x := .load 25 (.tmp 1)) (by kernel_rfl) rfl]
  have fc := eval_cst a
  have ff := eval_fn a
  clear hT
  generalize a.eval = ρ at f1 fc ff ⊢
  go_simp
theorem ob_83 {p : SanP} {a0 : Act} {w0 : World} {Q : Exit → Act → World → Prop} (H : San p a0 w0) : Duty Try.prog (regionIn Try.prog 8 10).toArray (sanR p) a0 w0.heap.size w0 Q 83 ((regionIn Try.prog 8 10).getD 83 default) := duty_call (fun a w hT => by obtain ⟨v, e, r⟩ := hT.slot (j := 81) (t := 167) (by kernel_rfl) (by kernel_rfl); obtain rfl : v = .bool true := r; exact wanted_some (ops := (regionIn Try.prog 8 10).toArray) (g := 81) (by kernel_rfl) (by kernel_rfl) e) fun a w hT => by
  obtain ⟨v168, e168, r168⟩ := hT.slot (j := 82) (t := 168) (by kernel_rfl) (by kernel_rfl)
  obtain rfl : v168 = .agg #[.slice (some ⟨p.a0, 0, none⟩) 2 2, .slice (some ⟨p.a3, 0, none⟩) 2 2] := r168
  have f168 := eval_tmp e168
  have hC := valid_any _ sysS _ (H.S1.grows hT.below) (mod_of valS)
  refine ⟨11, #[.agg #[.slice (some ⟨p.a0, 0, none⟩) 2 2, .slice (some ⟨p.a3, 0, none⟩) 2 2]], ?_, hC.mono fun e w1 he => ?_⟩
  · clear hC
    rw [exec_lit (x := .call { callee := .value (.func 11), args := #[.tmp 168], argTypes := #[25] }) (by kernel_rfl) rfl]
    have fc := eval_cst a
    have ff := eval_fn a
    clear hT
    generalize a.eval = ρ at f168 fc ff ⊢
    go_simp
  · obtain ⟨rfl, hb⟩ := he
    exact ⟨_, rfl, hb, by rw [valS]; exact rfl⟩
theorem ob_84 {p : SanP} {a0 : Act} {w0 : World} {Q : Exit → Act → World → Prop} (H : San p a0 w0) : Duty Try.prog (regionIn Try.prog 8 10).toArray (sanR p) a0 w0.heap.size w0 Q 84 ((regionIn Try.prog 8 10).getD 84 default) := duty_val (fun _ _ _ => wanted_none (by kernel_rfl)) fun a w hT => by
  obtain ⟨v167, e167, r167⟩ := hT.slot (j := 81) (t := 167) (by kernel_rfl) (by kernel_rfl)
  obtain rfl : v167 = .bool true := r167
  have f167 := eval_tmp e167
  obtain ⟨v169, e169, r169⟩ := hT.slot (j := 83) (t := 169) (by kernel_rfl) (by kernel_rfl)
  obtain rfl : v169 = .bool true := r169
  have f169 := eval_tmp e169
  exact ⟨_, exec_pick (c := .tmp 167) (x := .tmp 169) (y := .const (.bool false)) (by kernel_rfl) f167, by rw [f169]; exact rfl⟩
theorem ob_85 {p : SanP} {a0 : Act} {w0 : World} {Q : Exit → Act → World → Prop} (H : San p a0 w0) : Duty Try.prog (regionIn Try.prog 8 10).toArray (sanR p) a0 w0.heap.size w0 Q 85 ((regionIn Try.prog 8 10).getD 85 default) := duty_val (fun _ _ _ => wanted_none (by kernel_rfl)) fun a w hT => by
  obtain ⟨v170, e170, r170⟩ := hT.slot (j := 84) (t := 170) (by kernel_rfl) (by kernel_rfl)
  obtain rfl : v170 = .bool true := r170
  have f170 := eval_tmp e170
  exact ⟨_, exec_move (x := .tmp 170) (by kernel_rfl), by rw [f170]; exact rfl⟩
theorem ob_86 {p : SanP} {a0 : Act} {w0 : World} {Q : Exit → Act → World → Prop} (H : San p a0 w0) : Duty Try.prog (regionIn Try.prog 8 10).toArray (sanR p) a0 w0.heap.size w0 Q 86 ((regionIn Try.prog 8 10).getD 86 default) := duty_new (fun a w hT => by obtain ⟨v, e, r⟩ := hT.slot (j := 85) (t := 171) (by kernel_rfl) (by kernel_rfl); obtain rfl : v = .bool true := r; exact wanted_some (ops := (regionIn Try.prog 8 10).toArray) (g := 85) (by kernel_rfl) (by kernel_rfl) e) fun a w hT => by
  refine ⟨.slice (some ⟨w.heap.size, 0, none⟩) 1 1, w.alloc (.cells #[.int .i64 (65)] 3), ?_, by go_grown, isI_blk (n := 1) (l := [65]) (blk_at rfl) rfl (by omega)⟩
  rw [exec_lit (x := .buildSlice 22 1 #[(0, .const (.int .i64 (65)))]) (by kernel_rfl) rfl]
  have fc := eval_cst a
  have ff := eval_fn a
  clear hT
  generalize a.eval = ρ at fc ff ⊢
  go_simp
theorem ob_87 {p : SanP} {a0 : Act} {w0 : World} {Q : Exit → Act → World → Prop} (H : San p a0 w0) : Duty Try.prog (regionIn Try.prog 8 10).toArray (sanR p) a0 w0.heap.size w0 Q 87 ((regionIn Try.prog 8 10).getD 87 default) := duty_val (fun a w hT => by obtain ⟨v, e, r⟩ := hT.slot (j := 85) (t := 171) (by kernel_rfl) (by kernel_rfl); obtain rfl : v = .bool true := r; exact wanted_some (ops := (regionIn Try.prog 8 10).toArray) (g := 85) (by kernel_rfl) (by kernel_rfl) e) fun a w hT => by
  obtain ⟨v172, e172, r172⟩ := hT.slot (j := 86) (t := 172) (by kernel_rfl) (by kernel_rfl)
  have r172 : IsI w v172 [65] := r172
  have f172 := eval_tmp e172
  refine ⟨.agg #[v172, .slice none 0 0], ?_, ⟨_, _, rfl, r172, IsRs.nil _⟩⟩
  obtain ⟨pt, ct, rfl, -⟩ := r172.shape
  rw [exec_lit (x := .build 25 #[(0, .tmp 172)]) (by kernel_rfl) rfl]
  have fc := eval_cst a
  have ff := eval_fn a
  clear hT
  generalize a.eval = ρ at f172 fc ff ⊢
  go_simp
theorem ob_88 {p : SanP} {a0 : Act} {w0 : World} {Q : Exit → Act → World → Prop} (H : San p a0 w0) : Duty Try.prog (regionIn Try.prog 8 10).toArray (sanR p) a0 w0.heap.size w0 Q 88 ((regionIn Try.prog 8 10).getD 88 default) := duty_call (fun a w hT => by obtain ⟨v, e, r⟩ := hT.slot (j := 85) (t := 171) (by kernel_rfl) (by kernel_rfl); obtain rfl : v = .bool true := r; exact wanted_some (ops := (regionIn Try.prog 8 10).toArray) (g := 85) (by kernel_rfl) (by kernel_rfl) e) fun a w hT => by
  obtain ⟨v173, e173, r173⟩ := hT.slot (j := 87) (t := 173) (by kernel_rfl) (by kernel_rfl)
  have r173 : IsS w v173 ⟨[65], []⟩ := r173
  have f173 := eval_tmp e173
  have hC := valid_any _ ⟨[65], []⟩ _ r173 ⟨by simp, by simp, by simp⟩
  refine ⟨11, #[v173], ?_, hC.mono fun e w1 he => ?_⟩
  · clear hC
    rw [exec_lit (x := .call { callee := .value (.func 11), args := #[.tmp 173], argTypes := #[25] }) (by kernel_rfl) rfl]
    have fc := eval_cst a
    have ff := eval_fn a
    clear hT
    generalize a.eval = ρ at f173 fc ff ⊢
    go_simp
  · obtain ⟨rfl, hb⟩ := he
    exact ⟨_, rfl, hb, by rw [val65]; exact rfl⟩
theorem ob_89 {p : SanP} {a0 : Act} {w0 : World} {Q : Exit → Act → World → Prop} (H : San p a0 w0) : Duty Try.prog (regionIn Try.prog 8 10).toArray (sanR p) a0 w0.heap.size w0 Q 89 ((regionIn Try.prog 8 10).getD 89 default) := duty_val (fun a w hT => by obtain ⟨v, e, r⟩ := hT.slot (j := 85) (t := 171) (by kernel_rfl) (by kernel_rfl); obtain rfl : v = .bool true := r; exact wanted_some (ops := (regionIn Try.prog 8 10).toArray) (g := 85) (by kernel_rfl) (by kernel_rfl) e) fun a w hT => by
  obtain ⟨v174, e174, r174⟩ := hT.slot (j := 88) (t := 174) (by kernel_rfl) (by kernel_rfl)
  obtain rfl : v174 = .bool false := r174
  have f174 := eval_tmp e174
  exact ⟨_, exec_not (t := 4) (x := .tmp 174) (by kernel_rfl) f174, rfl⟩
theorem ob_90 {p : SanP} {a0 : Act} {w0 : World} {Q : Exit → Act → World → Prop} (H : San p a0 w0) : Duty Try.prog (regionIn Try.prog 8 10).toArray (sanR p) a0 w0.heap.size w0 Q 90 ((regionIn Try.prog 8 10).getD 90 default) := duty_val (fun _ _ _ => wanted_none (by kernel_rfl)) fun a w hT => by
  obtain ⟨v171, e171, r171⟩ := hT.slot (j := 85) (t := 171) (by kernel_rfl) (by kernel_rfl)
  obtain rfl : v171 = .bool true := r171
  have f171 := eval_tmp e171
  obtain ⟨v175, e175, r175⟩ := hT.slot (j := 89) (t := 175) (by kernel_rfl) (by kernel_rfl)
  obtain rfl : v175 = .bool true := r175
  have f175 := eval_tmp e175
  exact ⟨_, exec_pick (c := .tmp 171) (x := .tmp 175) (y := .const (.bool false)) (by kernel_rfl) f171, by rw [f175]; exact rfl⟩
theorem ob_91 {p : SanP} {a0 : Act} {w0 : World} {Q : Exit → Act → World → Prop} (H : San p a0 w0) : Duty Try.prog (regionIn Try.prog 8 10).toArray (sanR p) a0 w0.heap.size w0 Q 91 ((regionIn Try.prog 8 10).getD 91 default) := duty_val (fun _ _ _ => wanted_none (by kernel_rfl)) fun a w hT => by
  obtain ⟨v176, e176, r176⟩ := hT.slot (j := 90) (t := 176) (by kernel_rfl) (by kernel_rfl)
  obtain rfl : v176 = .bool true := r176
  have f176 := eval_tmp e176
  exact ⟨_, exec_assign (x := .tmp 176) (by kernel_rfl), by rw [f176]; exact rfl⟩
theorem san_duties {p : SanP} {a0 : Act} {w0 : World} {Q : Exit → Act → World → Prop} (H : San p a0 w0) : Duties Try.prog (regionIn Try.prog 8 10).toArray (sanR p) a0 w0.heap.size w0 Q 0 (regionIn Try.prog 8 10) := by
  have e : (regionIn Try.prog 8 10) = [(regionIn Try.prog 8 10).getD 0 default, (regionIn Try.prog 8 10).getD 1 default, (regionIn Try.prog 8 10).getD 2 default, (regionIn Try.prog 8 10).getD 3 default, (regionIn Try.prog 8 10).getD 4 default, (regionIn Try.prog 8 10).getD 5 default, (regionIn Try.prog 8 10).getD 6 default, (regionIn Try.prog 8 10).getD 7 default, (regionIn Try.prog 8 10).getD 8 default, (regionIn Try.prog 8 10).getD 9 default, (regionIn Try.prog 8 10).getD 10 default, (regionIn Try.prog 8 10).getD 11 default, (regionIn Try.prog 8 10).getD 12 default, (regionIn Try.prog 8 10).getD 13 default, (regionIn Try.prog 8 10).getD 14 default, (regionIn Try.prog 8 10).getD 15 default, (regionIn Try.prog 8 10).getD 16 default, (regionIn Try.prog 8 10).getD 17 default, (regionIn Try.prog 8 10).getD 18 default, (regionIn Try.prog 8 10).getD 19 default, (regionIn Try.prog 8 10).getD 20 default, (regionIn Try.prog 8 10).getD 21 default, (regionIn Try.prog 8 10).getD 22 default, (regionIn Try.prog 8 10).getD 23 default, (regionIn Try.prog 8 10).getD 24 default, (regionIn Try.prog 8 10).getD 25 default, (regionIn Try.prog 8 10).getD 26 default, (regionIn Try.prog 8 10).getD 27 default, (regionIn Try.prog 8 10).getD 28 default, (regionIn Try.prog 8 10).getD 29 default, (regionIn Try.prog 8 10).getD 30 default, (regionIn Try.prog 8 10).getD 31 default, (regionIn Try.prog 8 10).getD 32 default, (regionIn Try.prog 8 10).getD 33 default, (regionIn Try.prog 8 10).getD 34 default, (regionIn Try.prog 8 10).getD 35 default, (regionIn Try.prog 8 10).getD 36 default, (regionIn Try.prog 8 10).getD 37 default, (regionIn Try.prog 8 10).getD 38 default, (regionIn Try.prog 8 10).getD 39 default, (regionIn Try.prog 8 10).getD 40 default, (regionIn Try.prog 8 10).getD 41 default, (regionIn Try.prog 8 10).getD 42 default, (regionIn Try.prog 8 10).getD 43 default, (regionIn Try.prog 8 10).getD 44 default, (regionIn Try.prog 8 10).getD 45 default, (regionIn Try.prog 8 10).getD 46 default, (regionIn Try.prog 8 10).getD 47 default, (regionIn Try.prog 8 10).getD 48 default, (regionIn Try.prog 8 10).getD 49 default, (regionIn Try.prog 8 10).getD 50 default, (regionIn Try.prog 8 10).getD 51 default, (regionIn Try.prog 8 10).getD 52 default, (regionIn Try.prog 8 10).getD 53 default, (regionIn Try.prog 8 10).getD 54 default, (regionIn Try.prog 8 10).getD 55 default, (regionIn Try.prog 8 10).getD 56 default, (regionIn Try.prog 8 10).getD 57 default, (regionIn Try.prog 8 10).getD 58 default, (regionIn Try.prog 8 10).getD 59 default, (regionIn Try.prog 8 10).getD 60 default, (regionIn Try.prog 8 10).getD 61 default, (regionIn Try.prog 8 10).getD 62 default, (regionIn Try.prog 8 10).getD 63 default, (regionIn Try.prog 8 10).getD 64 default, (regionIn Try.prog 8 10).getD 65 default, (regionIn Try.prog 8 10).getD 66 default, (regionIn Try.prog 8 10).getD 67 default, (regionIn Try.prog 8 10).getD 68 default, (regionIn Try.prog 8 10).getD 69 default, (regionIn Try.prog 8 10).getD 70 default, (regionIn Try.prog 8 10).getD 71 default, (regionIn Try.prog 8 10).getD 72 default, (regionIn Try.prog 8 10).getD 73 default, (regionIn Try.prog 8 10).getD 74 default, (regionIn Try.prog 8 10).getD 75 default, (regionIn Try.prog 8 10).getD 76 default, (regionIn Try.prog 8 10).getD 77 default, (regionIn Try.prog 8 10).getD 78 default, (regionIn Try.prog 8 10).getD 79 default, (regionIn Try.prog 8 10).getD 80 default, (regionIn Try.prog 8 10).getD 81 default, (regionIn Try.prog 8 10).getD 82 default, (regionIn Try.prog 8 10).getD 83 default, (regionIn Try.prog 8 10).getD 84 default, (regionIn Try.prog 8 10).getD 85 default, (regionIn Try.prog 8 10).getD 86 default, (regionIn Try.prog 8 10).getD 87 default, (regionIn Try.prog 8 10).getD 88 default, (regionIn Try.prog 8 10).getD 89 default, (regionIn Try.prog 8 10).getD 90 default, (regionIn Try.prog 8 10).getD 91 default] := by kernel_rfl
  rw [show Duties Try.prog (regionIn Try.prog 8 10).toArray (sanR p) a0 w0.heap.size w0 Q 0 (regionIn Try.prog 8 10) = Duties Try.prog (regionIn Try.prog 8 10).toArray (sanR p) a0 w0.heap.size w0 Q 0 [(regionIn Try.prog 8 10).getD 0 default, (regionIn Try.prog 8 10).getD 1 default, (regionIn Try.prog 8 10).getD 2 default, (regionIn Try.prog 8 10).getD 3 default, (regionIn Try.prog 8 10).getD 4 default, (regionIn Try.prog 8 10).getD 5 default, (regionIn Try.prog 8 10).getD 6 default, (regionIn Try.prog 8 10).getD 7 default, (regionIn Try.prog 8 10).getD 8 default, (regionIn Try.prog 8 10).getD 9 default, (regionIn Try.prog 8 10).getD 10 default, (regionIn Try.prog 8 10).getD 11 default, (regionIn Try.prog 8 10).getD 12 default, (regionIn Try.prog 8 10).getD 13 default, (regionIn Try.prog 8 10).getD 14 default, (regionIn Try.prog 8 10).getD 15 default, (regionIn Try.prog 8 10).getD 16 default, (regionIn Try.prog 8 10).getD 17 default, (regionIn Try.prog 8 10).getD 18 default, (regionIn Try.prog 8 10).getD 19 default, (regionIn Try.prog 8 10).getD 20 default, (regionIn Try.prog 8 10).getD 21 default, (regionIn Try.prog 8 10).getD 22 default, (regionIn Try.prog 8 10).getD 23 default, (regionIn Try.prog 8 10).getD 24 default, (regionIn Try.prog 8 10).getD 25 default, (regionIn Try.prog 8 10).getD 26 default, (regionIn Try.prog 8 10).getD 27 default, (regionIn Try.prog 8 10).getD 28 default, (regionIn Try.prog 8 10).getD 29 default, (regionIn Try.prog 8 10).getD 30 default, (regionIn Try.prog 8 10).getD 31 default, (regionIn Try.prog 8 10).getD 32 default, (regionIn Try.prog 8 10).getD 33 default, (regionIn Try.prog 8 10).getD 34 default, (regionIn Try.prog 8 10).getD 35 default, (regionIn Try.prog 8 10).getD 36 default, (regionIn Try.prog 8 10).getD 37 default, (regionIn Try.prog 8 10).getD 38 default, (regionIn Try.prog 8 10).getD 39 default, (regionIn Try.prog 8 10).getD 40 default, (regionIn Try.prog 8 10).getD 41 default, (regionIn Try.prog 8 10).getD 42 default, (regionIn Try.prog 8 10).getD 43 default, (regionIn Try.prog 8 10).getD 44 default, (regionIn Try.prog 8 10).getD 45 default, (regionIn Try.prog 8 10).getD 46 default, (regionIn Try.prog 8 10).getD 47 default, (regionIn Try.prog 8 10).getD 48 default, (regionIn Try.prog 8 10).getD 49 default, (regionIn Try.prog 8 10).getD 50 default, (regionIn Try.prog 8 10).getD 51 default, (regionIn Try.prog 8 10).getD 52 default, (regionIn Try.prog 8 10).getD 53 default, (regionIn Try.prog 8 10).getD 54 default, (regionIn Try.prog 8 10).getD 55 default, (regionIn Try.prog 8 10).getD 56 default, (regionIn Try.prog 8 10).getD 57 default, (regionIn Try.prog 8 10).getD 58 default, (regionIn Try.prog 8 10).getD 59 default, (regionIn Try.prog 8 10).getD 60 default, (regionIn Try.prog 8 10).getD 61 default, (regionIn Try.prog 8 10).getD 62 default, (regionIn Try.prog 8 10).getD 63 default, (regionIn Try.prog 8 10).getD 64 default, (regionIn Try.prog 8 10).getD 65 default, (regionIn Try.prog 8 10).getD 66 default, (regionIn Try.prog 8 10).getD 67 default, (regionIn Try.prog 8 10).getD 68 default, (regionIn Try.prog 8 10).getD 69 default, (regionIn Try.prog 8 10).getD 70 default, (regionIn Try.prog 8 10).getD 71 default, (regionIn Try.prog 8 10).getD 72 default, (regionIn Try.prog 8 10).getD 73 default, (regionIn Try.prog 8 10).getD 74 default, (regionIn Try.prog 8 10).getD 75 default, (regionIn Try.prog 8 10).getD 76 default, (regionIn Try.prog 8 10).getD 77 default, (regionIn Try.prog 8 10).getD 78 default, (regionIn Try.prog 8 10).getD 79 default, (regionIn Try.prog 8 10).getD 80 default, (regionIn Try.prog 8 10).getD 81 default, (regionIn Try.prog 8 10).getD 82 default, (regionIn Try.prog 8 10).getD 83 default, (regionIn Try.prog 8 10).getD 84 default, (regionIn Try.prog 8 10).getD 85 default, (regionIn Try.prog 8 10).getD 86 default, (regionIn Try.prog 8 10).getD 87 default, (regionIn Try.prog 8 10).getD 88 default, (regionIn Try.prog 8 10).getD 89 default, (regionIn Try.prog 8 10).getD 90 default, (regionIn Try.prog 8 10).getD 91 default] from congrArg (Duties Try.prog (regionIn Try.prog 8 10).toArray (sanR p) a0 w0.heap.size w0 Q 0) e]
  exact ⟨ob_0 H, ob_1 H, ob_2 H, ob_3 H, ob_4 H, ob_5 H, ob_6 H, ob_7 H, ob_8 H, ob_9 H, ob_10 H, ob_11 H, ob_12 H, ob_13 H, ob_14 H, ob_15 H, ob_16 H, ob_17 H, ob_18 H, ob_19 H, ob_20 H, ob_21 H, ob_22 H, ob_23 H, ob_24 H, ob_25 H, ob_26 H, ob_27 H, ob_28 H, ob_29 H, ob_30 H, ob_31 H, ob_32 H, ob_33 H, ob_34 H, ob_35 H, ob_36 H, ob_37 H, ob_38 H, ob_39 H, ob_40 H, ob_41 H, ob_42 H, ob_43 H, ob_44 H, ob_45 H, ob_46 H, ob_47 H, ob_48 H, ob_49 H, ob_50 H, ob_51 H, ob_52 H, ob_53 H, ob_54 H, ob_55 H, ob_56 H, ob_57 H, ob_58 H, ob_59 H, ob_60 H, ob_61 H, ob_62 H, ob_63 H, ob_64 H, ob_65 H, ob_66 H, ob_67 H, ob_68 H, ob_69 H, ob_70 H, ob_71 H, ob_72 H, ob_73 H, ob_74 H, ob_75 H, ob_76 H, ob_77 H, ob_78 H, ob_79 H, ob_80 H, ob_81 H, ob_82 H, ob_83 H, ob_84 H, ob_85 H, ob_86 H, ob_87 H, ob_88 H, ob_89 H, ob_90 H, ob_91 H, trivial⟩
end Go.Proofs.Ytmhhfommgdljkaa
