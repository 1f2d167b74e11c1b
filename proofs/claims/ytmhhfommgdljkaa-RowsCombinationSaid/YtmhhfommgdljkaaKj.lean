/-
  The stack of a checker: plain mathematics.
-/
import Derived.Test.YtmhhfommgdljkaaKi
set_option linter.unusedSimpArgs false
set_option linter.unusedVariables false
namespace Go.Proofs.Ytmhhfommgdljkaa
open Go.RowKit Go.Lib

/-- a step that waits: its number, how many rows stand before it, the row that its parent adds. -/
structure Vis where
  i : Nat
  b : Nat
  r : Rw
/-- what the stack holds about the branch. -/
structure Stk (p : List Sp) (G n : Nat) (B : List Rw) (S : List Vis) : Prop where
  ok : ∀ x ∈ S, x.i < p.length ∧ x.b ≤ B.length ∧ x.b + 1 ≤ G + x.i ∧ x.r.A.length = n ∧ withinB x.r big = true
  deep : ∀ (j : Nat) (x : Vis), S[j]? = some x → j ≤ 2 * x.b + 1
  up : ∀ (j k : Nat) (x y : Vis), j ≤ k → S[j]? = some x → S[k]? = some y → x.b ≤ y.b
def stVal (p : List Sp) (B : List Rw) (S : List Vis) : Bool := S.all fun x => clP p x.i (B.take x.b ++ [x.r])
def pot (p : List Sp) (S : List Vis) : Nat := (S.map fun x => 3 ^ (p.length - x.i)).sum
theorem pot_append (p : List Sp) (A C : List Vis) : pot p (A ++ C) = pot p A + pot p C := by unfold pot; rw [List.map_append, List.sum_append]
theorem pow_pos3 (k : Nat) : 0 < 3 ^ k := Nat.pow_pos (by decide)
/-- what a step adds is no worse than the branch. -/
theorem sumS_good {n : Nat} : ∀ {M : List Int} {br : List Rw} {acc r : Rw}, Good n br → acc.A.length = n → withinB acc big = true → sumS M br acc = some r → r.A.length = n ∧ withinB r big = true
  | [], [], acc, r, _, h1, h2, h => by
    simp only [sumS, Option.some.injEq] at h
    subst h; exact ⟨h1, h2⟩
  | [], _ :: _, _, _, _, _, _, h => by simp [sumS] at h
  | _ :: _, [], _, _, _, _, _, h => by simp [sumS] at h
  | m :: M, q :: br, acc, r, hG, h1, h2, h => by
    unfold sumS at h
    split at h
    · split at h
      · rename_i _ hw
        refine sumS_good (fun x hx => hG x (List.mem_cons_of_mem _ hx)) ?_ hw h
        have := (hG q (List.mem_cons_self ..)).1
        simp only [addS, List.length_zipWith]; omega
      · cases h
    · cases h
theorem zeroR_good (n : Nat) : (zeroR n).A.length = n ∧ withinB (zeroR n) big = true := by
  refine ⟨by simp [zeroR], within_iff.2 ⟨fun a ha => ?_, by simp [zeroR, big], by simp [zeroR, big]⟩⟩
  simp only [zeroR] at ha
  have := List.eq_of_mem_replicate ha
  subst this
  simp [big]
theorem unit_good {n i : Nat} {x k : Int} (hx : x = 1 ∨ x = -1) (hk : -big ≤ k ∧ k ≤ big) : ((⟨(List.replicate n 0).set i x, k⟩ : Rw)).A.length = n ∧ withinB ⟨(List.replicate n 0).set i x, k⟩ big = true := by
  refine ⟨by simp, within_iff.2 ⟨fun a ha => ?_, hk.1, hk.2⟩⟩
  rcases List.mem_or_eq_of_mem_set ha with h | h
  · have := List.eq_of_mem_replicate h
    subst this; simp [big]
  · subst h; unfold big; omega
theorem added_good {t : Sp} {br : List Rw} {n : Nat} {rs : List Rw} (hG : Good n br) (h0 : 0 < br.length) (h : addedS t br = some rs) : Good n rs := by
  unfold addedS at h
  split at h
  · rw [width_good hG h0] at h
    obtain ⟨r, hr, rfl⟩ := Option.map_eq_some_iff.1 h
    intro q hq
    rw [List.mem_singleton] at hq; subst hq
    exact sumS_good hG (zeroR_good n).1 (zeroR_good n).2 hr
  · split at h
    · obtain ⟨r, hr, rfl⟩ := Option.map_eq_some_iff.1 h
      intro q hq
      rw [List.mem_singleton] at hq; subst hq
      unfold cutS at hr
      split at hr
      · rename_i hkd
        split at hr
        · cases hr
        · rename_i r0 h0'
          split at hr
          · cases hr
            obtain ⟨hl, hw⟩ := hG r0 (List.mem_of_getElem? h0')
            obtain ⟨ha, hc1, hc2⟩ := within_iff.1 hw
            unfold big at *
            refine ⟨by simp [hl], within_iff.2 ⟨fun a ha' => ?_, ?_⟩⟩
            · obtain ⟨y, hy, rfl⟩ := List.mem_map.1 ha'
              have hb := ha y hy
              have := div_in (a := y) (d := t.D) (B := 1099511627776) (by omega) (by omega) ⟨hb.1, hb.2⟩
              omega
            · have := div_in (a := r0.C) (d := t.D) (B := 1099511627776) (by omega) (by omega) ⟨hc1, hc2⟩
              simp only
              omega
          · cases hr
      · cases hr
    · split at h
      · obtain ⟨q, hq, rfl⟩ := Option.map_eq_some_iff.1 h
        unfold splitS at hq
        split at hq
        · rename_i hk
          cases hq
          intro r hr
          rcases List.mem_cons.1 hr with rfl | hr
          · rw [width_good hG h0]
            exact unit_good (.inr rfl) (by unfold big; omega)
          · rw [List.mem_singleton] at hr; subst hr
            rw [width_good hG h0]
            exact unit_good (.inl rfl) (by unfold big; omega)
        · cases hq
      · split at h
        · cases h
        · split at h
          · cases h; intro r hr; cases hr
          · cases h
theorem added_len {t : Sp} {br rs : List Rw} (h : addedS t br = some rs) : rs.length = (childs t).length := by
  unfold addedS at h
  unfold childs
  by_cases h1 : t.k = 1
  · rw [if_pos h1] at h; rw [if_pos (.inl h1)]
    obtain ⟨r, _, rfl⟩ := Option.map_eq_some_iff.1 h; rfl
  · rw [if_neg h1] at h
    by_cases h2 : t.k = 2
    · rw [if_pos h2] at h; rw [if_pos (.inr h2)]
      obtain ⟨r, _, rfl⟩ := Option.map_eq_some_iff.1 h; rfl
    · rw [if_neg h2] at h; rw [if_neg (by omega)]
      by_cases h3 : t.k = 3
      · rw [if_pos h3] at h; rw [if_pos h3]
        obtain ⟨r, _, rfl⟩ := Option.map_eq_some_iff.1 h; rfl
      · rw [if_neg h3] at h; rw [if_neg h3]
        split at h
        · cases h
        · split at h
          · cases h; rfl
          · cases h
/-- the visits that a step pushes. -/
def kids (cs : List Int) (rs : List Rw) (b : Nat) : List Vis := (cs.zip rs).map fun q => ⟨q.1.toNat, b, q.2⟩
theorem take_take_le {α : Type} (l : List α) {a b : Nat} (h : a ≤ b) : (l.take b).take a = l.take a := by rw [List.take_take, Nat.min_eq_left h]
/-- the top of the stack is taken. -/
theorem Stk.pop {p : List Sp} {G n : Nat} {B : List Rw} {A : List Vis} {x : Vis} (h : Stk p G n B (A ++ [x])) (hG : Good n B) :
    (B.take x.b ++ [x.r]).length = x.b + 1 ∧ Good n (B.take x.b ++ [x.r]) ∧ Stk p G n (B.take x.b ++ [x.r]) A ∧ stVal p B (A ++ [x]) = (stVal p (B.take x.b ++ [x.r]) A && clP p x.i (B.take x.b ++ [x.r])) ∧ (∀ y ∈ A, y.b ≤ x.b) ∧ A.length ≤ 2 * x.b + 1 ∧ x.i < p.length ∧ x.b ≤ B.length ∧ x.b + 1 ≤ G + x.i := by
  obtain ⟨hok, hdeep, hup⟩ := h
  obtain ⟨x1, x2, x3, x4, x5⟩ := hok x (by simp)
  have hlast : (A ++ [x])[A.length]? = some x := by simp
  have hlen : (B.take x.b ++ [x.r]).length = x.b + 1 := by rw [List.length_append, List.length_take, Nat.min_eq_left x2]; rfl
  have hA : ∀ y ∈ A, y.b ≤ x.b := by
    intro y hy
    obtain ⟨j, hj, he⟩ := List.getElem_of_mem hy
    have hj2 : (A ++ [x])[j]? = some y := by rw [List.getElem?_append_left hj, List.getElem?_eq_getElem hj, he]
    exact hup j A.length y x (by omega) hj2 hlast
  have hl : ∀ (j : Nat) (y : Vis), A[j]? = some y → (A ++ [x])[j]? = some y := fun j y hj => by rw [List.getElem?_append_left (lt_of_get hj)]; exact hj
  refine ⟨hlen, fun r hr => ?_, ⟨fun y hy => ?_, fun j y hj => hdeep j y (hl j y hj), fun j k y z hjk hj hk => hup j k y z hjk (hl j y hj) (hl k z hk)⟩, ?_, hA, hdeep _ _ hlast, x1, x2, x3⟩
  · rcases List.mem_append.1 hr with h | h
    · exact hG r (List.mem_of_mem_take h)
    · rw [List.mem_singleton] at h; subst h; exact ⟨x4, x5⟩
  · obtain ⟨y1, y2, y3, y4, y5⟩ := hok y (by simp [hy])
    exact ⟨y1, by rw [hlen]; have := hA y hy; omega, y3, y4, y5⟩
  · unfold stVal
    rw [List.all_append]
    congr 1
    · rw [Bool.eq_iff_iff, List.all_eq_true, List.all_eq_true]
      refine forall_congr' fun y => forall_congr' fun hy => ?_
      have e : (B.take x.b ++ [x.r]).take y.b = B.take y.b := by
        have h1 := hA y hy
        rw [List.take_append_of_le_length (by rw [List.length_take]; omega), take_take_le _ h1]
      rw [e]
    · simp
theorem kids_len {cs : List Int} {rs : List Rw} {b : Nat} (h : rs.length = cs.length) : (kids cs rs b).length = cs.length := by unfold kids; rw [List.length_map, List.length_zip]; omega
theorem kids_b {cs : List Int} {rs : List Rw} {b : Nat} : ∀ y ∈ kids cs rs b, y.b = b := by
  intro y hy
  obtain ⟨q, _, rfl⟩ := List.mem_map.1 hy
  rfl
/-- the children are pushed. -/
theorem Stk.push {p : List Sp} {G n xb xi : Nat} {B : List Rw} {A : List Vis} {cs : List Int} {rs : List Rw} (h : Stk p G n B A) (hB : B.length = xb + 1) (hA : ∀ y ∈ A, y.b ≤ xb) (hd : A.length ≤ 2 * xb + 1) (hx : xb + 1 ≤ G + xi) (hcs : ∀ c ∈ cs, (xi : Int) < c ∧ c < p.length) (hc2 : cs.length ≤ 2) (hrs : Good n rs) (hl : rs.length = cs.length) :
    Stk p G n B (A ++ kids cs rs B.length) ∧ stVal p B (A ++ kids cs rs B.length) = (stVal p B A && (cs.zip rs).all fun q => clP p q.1.toNat (B ++ [q.2])) := by
  obtain ⟨hok, hdeep, hup⟩ := h
  have hk := kids_len (b := B.length) hl
  have hget : ∀ (j : Nat) (y : Vis), (A ++ kids cs rs B.length)[j]? = some y → (j < A.length ∧ A[j]? = some y) ∨ (A.length ≤ j ∧ j < A.length + cs.length ∧ y.b = B.length) := by
    intro j y hj
    by_cases hlt : j < A.length
    · rw [List.getElem?_append_left hlt] at hj; exact .inl ⟨hlt, hj⟩
    · have hjl := lt_of_get hj
      rw [List.length_append, hk] at hjl
      rw [List.getElem?_append_right (by omega)] at hj
      exact .inr ⟨by omega, hjl, kids_b y (List.mem_of_getElem? hj)⟩
  refine ⟨⟨fun y hy => ?_, fun j y hj => ?_, fun j k y z hjk hj hk2 => ?_⟩, ?_⟩
  · rcases List.mem_append.1 hy with h | h
    · exact hok y h
    · obtain ⟨q, hq, rfl⟩ := List.mem_map.1 h
      have h1 := hcs q.1 (List.of_mem_zip hq).1
      have h2 := hrs q.2 (List.of_mem_zip hq).2
      exact ⟨by simp only; omega, Nat.le_refl _, by simp only; omega, h2.1, h2.2⟩
  · rcases hget j y hj with ⟨_, h⟩ | ⟨h1, h2, h3⟩
    · exact hdeep j y h
    · omega
  · rcases hget j y hj with ⟨a1, a2⟩ | ⟨a1, a2, a3⟩
    · rcases hget k z hk2 with ⟨b1, b2⟩ | ⟨b1, b2, b3⟩
      · exact hup j k y z hjk a2 b2
      · have := hA y (List.mem_of_getElem? a2); omega
    · rcases hget k z hk2 with ⟨b1, b2⟩ | ⟨b1, b2, b3⟩
      · omega
      · omega
  · unfold stVal
    rw [List.all_append]
    congr 1
    unfold kids
    rw [List.all_map]
    rw [Bool.eq_iff_iff, List.all_eq_true, List.all_eq_true]
    refine forall_congr' fun q => forall_congr' fun hq => ?_
    simp
theorem pot_push {p : List Sp} {A : List Vis} {x : Vis} {cs : List Int} {rs : List Rw} {b : Nat} (hx : x.i < p.length) (hcs : ∀ c ∈ cs, (x.i : Int) < c ∧ c < p.length) (hc2 : cs.length ≤ 2) (hl : rs.length = cs.length) : pot p (A ++ kids cs rs b) < pot p (A ++ [x]) := by
  rw [pot_append, pot_append]
  have h1 : pot p [x] = 3 ^ (p.length - x.i) := by simp [pot]
  have h2 : ∀ c ∈ cs, 3 ^ (p.length - c.toNat) * 3 ≤ 3 ^ (p.length - x.i) := by
    intro c hc
    have := hcs c hc
    rw [← Nat.pow_succ]
    exact Nat.pow_le_pow_right (by decide) (by omega)
  rw [h1]
  have hp := pow_pos3 (p.length - x.i)
  match cs, rs, hl, hc2 with
  | [], [], _, _ => simp only [kids, pot, List.zip_nil_left, List.map_nil, List.sum_nil]; omega
  | [c], [r], _, _ =>
    have := h2 c (by simp)
    have h3 : pot p (kids [c] [r] b) = 3 ^ (p.length - c.toNat) := by simp [pot, kids]
    rw [h3]; omega
  | [c, d], [r, q], _, _ =>
    have e1 := h2 c (by simp)
    have e2 := h2 d (by simp)
    have h3 : pot p (kids [c, d] [r, q] b) = 3 ^ (p.length - c.toNat) + 3 ^ (p.length - d.toNat) := by simp [pot, kids]
    rw [h3]; omega
  | _ :: _ :: _ :: _, _, _, h => simp at h
/-- the system's own rows. -/
theorem given_good {s : Sy} (h : validB s = true) : Good s.T.length (givenS s) ∧ 0 < (givenS s).length ∧ (givenS s).length ≤ 1000 := by
  obtain ⟨⟨h1, h2, h3⟩, hT, hR⟩ := valid_iff.1 h
  refine ⟨fun r hr => ?_, by rw [given_length]; omega, by rw [given_length]; omega⟩
  unfold givenS at hr
  rcases List.mem_append.1 hr with hr | hr
  · obtain ⟨e1, e2⟩ := okRow_iff.1 (hR r hr)
    obtain ⟨a1, a2, a3⟩ := within_iff.1 e2
    refine ⟨e1, within_iff.2 ⟨fun a ha => ?_, by unfold big; omega, by unfold big; omega⟩⟩
    have := a1 a ha
    unfold big; omega
  · rcases List.mem_append.1 hr with hr | hr
    · obtain ⟨i, hi, rfl⟩ := List.mem_map.1 hr
      exact unit_good (.inl rfl) (by unfold big; omega)
    · obtain ⟨i, hi, rfl⟩ := List.mem_mapIdx.1 hr
      have := hT _ (List.getElem_mem hi)
      exact unit_good (.inr rfl) (by unfold big; omega)
end Go.Proofs.Ytmhhfommgdljkaa
