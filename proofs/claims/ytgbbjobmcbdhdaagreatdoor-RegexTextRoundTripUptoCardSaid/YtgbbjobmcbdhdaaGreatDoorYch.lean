/-
  Texts of the proof, one behind another: Fd.
-/
import Derived.Test.YtgbbjobmcbdhdaaGreatDoorYba
set_option linter.unusedSimpArgs false
set_option linter.unusedVariables false
/-
  Plain: what the parser returns is a tree in postorder. No program is named here.
-/
namespace Go.Proofs.YtgbbjobmcbdhdaaGreatDoor
section
variable {s : List UInt8}
theorem numberS_le {p n q : Nat} (h : numberS s p = .ok n q) : n ≤ 16 := by
  unfold numberS at h
  split at h
  · cases h
  · split at h
    · dsimp only at h
      split at h
      · cases h
      · cases h; omega
    · cases h
theorem boundsS_ok {p q : Nat} {b : Int × Int} (h : boundsS s p = .ok b q) : ∃ lo hi, b = (((lo : Nat) : Int), hiI hi) ∧ lo ≤ 16 ∧ ∀ h, hi = some h → lo ≤ h ∧ h ≤ 16 := by
  unfold boundsS at h
  split at h
  · cases h
  · rename_i a q1 hn
    have e1 := numberS_le hn
    split at h
    · cases h
    · split at h
      · cases h
        exact ⟨a, none, rfl, e1, fun h e => by cases e⟩
      · split at h
        · cases h
        · rename_i m q2 hm
          have e2 := numberS_le hm
          split at h
          · cases h
          · rename_i hlt
            split at h
            · cases h
            · cases h
              exact ⟨a, some m, rfl, e1, fun h e => by cases e; omega⟩
theorem repeatS_ok {p q : Nat} {b : Int × Int} (h : repeatS s p = .ok (some b) q) : ∃ lo hi, b = (((lo : Nat) : Int), hiI hi) ∧ lo ≤ 16 ∧ ∀ h, hi = some h → lo ≤ h ∧ h ≤ 16 := by
  unfold repeatS at h
  split at h
  · cases h; exact ⟨0, none, rfl, by omega, fun h e => by cases e⟩
  split at h
  · cases h; exact ⟨1, none, rfl, by omega, fun h e => by cases e⟩
  split at h
  · cases h; exact ⟨0, some 1, rfl, by omega, fun h e => by cases e; omega⟩
  split at h
  · split at h
    · cases h
    · rename_i hb
      cases h
      exact boundsS_ok hb
  · cases h
theorem putS_ok {n : Nd} {p l q : Nat} {xs ys : List Nd} (h : putS n p xs = .ok l q ys) : l = xs.length ∧ q = p ∧ ys = xs ++ [n] := by
  unfold putS at h
  split at h
  · cases h; exact ⟨rfl, rfl, rfl⟩
  · cases h
/-- the nodes ys are xs and a tree behind them, whose root is l. -/
def Made (xs : List Nd) (l : Nat) (ys : List Nd) : Prop := ∃ t, OkT t ∧ ys = xs ++ flat t xs.length ∧ l = xs.length + t.size - 1
def Makes (op : Nat → List Nd → PR) : Prop := ∀ p xs l q ys, op p xs = .ok l q ys → Made xs l ys
theorem made_leaf {xs : List Nd} {n : Nd} {t : Rx} (ht : OkT t) (hs : t.size = 1) (hn : flat t xs.length = [n]) : Made xs xs.length (xs ++ [n]) := ⟨t, ht, by rw [hn], by omega⟩
theorem made_un {xs ys : List Nd} {l : Nat} {n : Nd} (f : Rx → Rx) (h : Made xs l ys) (hs : ∀ t, (f t).size = t.size + 1) (hok : ∀ t, OkT t → OkT (f t)) (hf : ∀ t, flat (f t) xs.length = flat t xs.length ++ [n] ∨ l ≠ xs.length + t.size - 1) :
    Made xs ys.length (ys ++ [n]) := by
  obtain ⟨t, ht, rfl, hl⟩ := h
  refine ⟨f t, hok t ht, ?_, ?_⟩
  · rcases hf t with e | e
    · rw [e, List.append_assoc]
    · exact absurd hl e
  · rw [hs, List.length_append, flatT_len]; omega
theorem made_bin {xs ys zs : List Nd} {l r : Nat} {k : Int} (f : Rx → Rx → Rx) (h : Made xs l ys) (h2 : Made ys r zs) (hs : ∀ t u, (f t u).size = t.size + u.size + 1) (hok : ∀ t u, OkT t → OkT u → OkT (f t u))
    (hf : ∀ t u o, flat (f t u) o = flat t o ++ (flat u (o + t.size) ++ [⟨k, 0, ((o + t.size - 1 : Nat) : Int), ((o + t.size + u.size - 1 : Nat) : Int), 0, 0⟩])) :
    Made xs zs.length (zs ++ [⟨k, 0, (l : Int), (r : Int), 0, 0⟩]) := by
  obtain ⟨t, ht, rfl, rfl⟩ := h
  obtain ⟨u, hu, rfl, rfl⟩ := h2
  refine ⟨f t u, hok t u ht hu, ?_, ?_⟩
  · rw [hf, List.length_append, flatT_len, List.append_assoc, List.append_assoc]
  · rw [hs, List.length_append, flatT_len, List.length_append, flatT_len]; omega
theorem atom_makes {alt : Nat → List Nd → PR} (ha : Makes alt) (f : Nat) : Makes (atomS s alt f) := by
  intro p xs l q ys h
  unfold atomS at h
  split at h
  · obtain ⟨rfl, _, rfl⟩ := putS_ok h
    exact made_leaf (t := .cls (rngQ 0 256)) trivial rfl rfl
  split at h
  · obtain ⟨rfl, _, rfl⟩ := putS_ok h
    exact made_leaf (t := .none) trivial rfl rfl
  split at h
  · unfold groupS at h
    split at h
    · obtain ⟨rfl, _, rfl⟩ := putS_ok h
      exact made_leaf (t := .empty) trivial rfl rfl
    · split at h
      · rename_i l1 q1 ys1 e1
        split at h
        · cases h
        · cases h
          exact ha _ _ _ _ _ e1
      · rename_i e1 hne
        exact absurd h (hne _ _ _)
  split at h
  · split at h
    · cases h
    · cases h
    · rename_i c q1 _
      obtain ⟨rfl, _, rfl⟩ := putS_ok h
      exact made_leaf (t := .cls c) trivial rfl rfl
  · split at h
    · cases h
    · rename_i y q1 _
      obtain ⟨rfl, _, rfl⟩ := putS_ok h
      exact made_leaf (t := .cls (ofQ [(y : Int)])) trivial rfl rfl
theorem rep_makes : ∀ (f l p : Nat) (zs xs : List Nd) (l2 q : Nat) (ys : List Nd), Made zs l xs → repLoop s f l p xs = .ok l2 q ys → Made zs l2 ys
  | 0, _, _, _, _, _, _, _, _, h => by cases h
  | f + 1, l, p, zs, xs, l2, q, ys, hm, h => by
    rw [repLoop] at h
    split at h
    · cases h
    · cases h; exact hm
    · rename_i b q1 hb
      obtain ⟨lo, hi, rfl, hlo, hhi⟩ := repeatS_ok hb
      split at h
      · rename_i l3 q3 ys3 e3
        obtain ⟨rfl, _, rfl⟩ := putS_ok e3
        refine rep_makes f _ _ zs _ _ _ _ ?_ h
        refine made_un (fun t => .rep t lo hi) hm (fun t => rfl) (fun t ht => ⟨ht, hlo, hhi⟩) (fun t => ?_)
        by_cases e : l = zs.length + t.size - 1
        · exact .inl (by rw [e]; rfl)
        · exact .inr e
      · rename_i e3 hne
        exact absurd h (hne _ _ _)
theorem item_makes {alt : Nat → List Nd → PR} (ha : Makes alt) (f : Nat) : ∀ m, Makes (itemS s alt f m)
  | 0 => fun _ _ _ _ _ h => by cases h
  | m + 1 => by
    intro p xs l q ys h
    rw [itemS] at h
    split at h
    · split at h
      · rename_i l1 q1 ys1 e1
        have hm := item_makes ha f m _ _ _ _ _ e1
        obtain ⟨rfl, _, rfl⟩ := putS_ok h
        refine made_un (fun t => .not t) hm (fun t => rfl) (fun t ht => ht) (fun t => ?_)
        by_cases e : l1 = xs.length + t.size - 1
        · exact .inl (by rw [e]; rfl)
        · exact .inr e
      · rename_i e1 hne
        exact absurd h (hne _ _ _)
    · split at h
      · rename_i l1 q1 ys1 e1
        exact rep_makes f _ _ xs _ _ _ _ (atom_makes ha f _ _ _ _ _ e1) h
      · rename_i e1 hne
        exact absurd h (hne _ _ _)
theorem join_makes {k : Int} (g : Rx → Rx → Rx) (hs : ∀ t u, (g t u).size = t.size + u.size + 1) (hok : ∀ t u, OkT t → OkT u → OkT (g t u))
    (hf : ∀ t u o, flat (g t u) o = flat t o ++ (flat u (o + t.size) ++ [⟨k, 0, ((o + t.size - 1 : Nat) : Int), ((o + t.size + u.size - 1 : Nat) : Int), 0, 0⟩]))
    {op : Nat → List Nd → PR} (ho : Makes op) {more : Nat → Option Nat} : ∀ (f l p : Nat) (zs xs : List Nd) (l2 q : Nat) (ys : List Nd), Made zs l xs → joinS k op more f l p xs = .ok l2 q ys → Made zs l2 ys
  | 0, _, _, _, _, _, _, _, _, h => by cases h
  | f + 1, l, p, zs, xs, l2, q, ys, hm, h => by
    rw [joinS] at h
    split at h
    · cases h; exact hm
    · split at h
      · rename_i r q2 ys2 e2
        split at h
        · rename_i l3 q3 ys3 e3
          obtain ⟨rfl, _, rfl⟩ := putS_ok e3
          exact join_makes g hs hok hf ho f _ _ zs _ _ _ _ (made_bin g hm (ho _ _ _ _ _ e2) hs hok hf) h
        · rename_i e3 hne
          exact absurd h (hne _ _ _)
      · rename_i e2 hne
        exact absurd h (hne _ _ _)
theorem chain_makes {k : Int} (g : Rx → Rx → Rx) (hs : ∀ t u, (g t u).size = t.size + u.size + 1) (hok : ∀ t u, OkT t → OkT u → OkT (g t u))
    (hf : ∀ t u o, flat (g t u) o = flat t o ++ (flat u (o + t.size) ++ [⟨k, 0, ((o + t.size - 1 : Nat) : Int), ((o + t.size + u.size - 1 : Nat) : Int), 0, 0⟩]))
    {op : Nat → List Nd → PR} (ho : Makes op) {more : Nat → Option Nat} (f : Nat) : Makes (chainS k op more f) := by
  intro p xs l q ys h
  unfold chainS at h
  split at h
  · rename_i l1 q1 ys1 e1
    exact join_makes g hs hok hf ho f _ _ xs _ _ _ _ (ho _ _ _ _ _ e1) h
  · rename_i e1 hne
    exact absurd h (hne _ _ _)
theorem alt_makes : ∀ f, Makes (altS s f)
  | 0 => fun _ _ _ _ _ h => by cases h
  | f + 1 => by
    have ha := alt_makes f
    have h1 : Makes (catS s (altS s f) f) := chain_makes Rx.cat (fun _ _ => rfl) (fun _ _ a b => ⟨a, b⟩) (fun _ _ _ => rfl) (item_makes ha f f) f
    have h2 : Makes (andS s (altS s f) f) := chain_makes Rx.and (fun _ _ => rfl) (fun _ _ a b => ⟨a, b⟩) (fun _ _ _ => rfl) h1 f
    exact chain_makes Rx.alt (fun _ _ => rfl) (fun _ _ a b => ⟨a, b⟩) (fun _ _ _ => rfl) h2 f
end
theorem parse_makes {s : List UInt8} {f : Nat} {ys : List Nd} (h : parseS s f = some (.ok ys)) : ∃ t, OkT t ∧ ys = flat t 0 ∧ t.size ≤ 200 := by
  unfold parseS at h
  split at h
  · cases h
  · split at h
    · cases h
    · cases h
    · rename_i l q zs e
      obtain ⟨t, ht, hz, _⟩ := alt_makes _ _ _ _ _ _ e
      split at h
      · cases h
      · split at h
        · cases h
        · rename_i h2
          have e0 : zs = ys := by cases h; rfl
          rw [← e0]
          rw [List.nil_append] at hz
          rw [hz] at h2 ⊢
          have h3 : (flat t ([] : List Nd).length).length = t.size := flatT_len t _
          rw [h3] at h2
          exact ⟨t, ht, rfl, by omega⟩
end Go.Proofs.YtgbbjobmcbdhdaaGreatDoor
