/-
  The law on invalid sets: the walk.
-/
import Derived.Test.YtepncbbegpeilaaDoorSn
import Derived.Test.YtepncbbegpeilaaDoorMd
set_option linter.unusedSimpArgs false
set_option linter.unusedVariables false
namespace Go.Proofs.YtepncbbegpeilaaDoor
open Go.RowKit Go.Lib

theorem opres_no {B : Nat} {f : Nat → Bool} {W : World} {e : Ending} (r : OpRes B false f W e) : e = .returned (.tuple #[.agg #[.slice none 0 0, .slice none 0 0], .int .i64 1]) := by
  rcases r with ⟨_, h⟩ | ⟨h, _⟩
  · exact h
  · cases h
theorem IsB.al {w : World} {v : Value} {l : List Bool} (a : IsB w v l) (os : List Obj) : IsB (Go.Proofs.YtepncbbegpeilaaDoor.al w os) v l := a.grows (al_below os w)
theorem okLen_no {h c : Nat} (hb : c = 0 ∨ 512 < c) : okLen h c = false := decide_eq_false fun e => by omega
theorem valid_no (hp cp : Option Addr) (hn hk cn ck : Nat) (w : World) (hb : okLen hn cn = false) (h1 : hn ≤ 1152921504606846976) (h2 : cn ≤ 1152921504606846976) :
    Calls Tryd.prog 24 #[.agg #[.slice hp hn hk, .slice cp cn ck]] w fun e w' => e = .returned (.bool false) ∧ Below w.heap.size w w' := hb ▸ valid_any hp cp hn hk cn ck w h1 h2
theorem has_no (v : Value) (h c : List Bool) (n : Int) (w : World) (hv : IsSet w v h c) (hb : okLen h.length c.length = false) (h1 : h.length ≤ 1152921504606846976) (h2 : c.length ≤ 1152921504606846976) (hn : n ≤ 9223372036854775807) :
    Calls Tryd.prog 14 #[v, .int .i64 n] w fun e w' => e = .returned (.bool false) ∧ Below w.heap.size w w' := by
  have h0 := has_any v h c n w hv h1 h2 hn
  rwa [show hasB h c n = false by unfold hasB; rw [hb]; rfl] at h0
theorem least_no (v : Value) (h c : List Bool) (n : Int) (w : World) (hv : IsSet w v h c) (hb : okLen h.length c.length = false) (h1 : h.length ≤ 1152921504606846976) (h2 : c.length ≤ 1152921504606846976) (hn : (-9223372036854775808 : Int) ≤ n) :
    Calls Tryd.prog 13 #[v, .int .i64 n] w fun e w' => e = .returned (.int .i64 (-1)) ∧ Below w.heap.size w w' := by
  have h0 := least_any v h c n w hv h1 h2 hn
  rwa [show leastS h c n = -1 by unfold leastS; rw [hb]; rfl] at h0
theorem canon_no (v : Value) (h c : List Bool) (w : World) (hv : IsSet w v h c) (hb : okLen h.length c.length = false) (h1 : h.length ≤ 1152921504606846976) (h2 : c.length ≤ 1152921504606846976) :
    Calls Tryd.prog 9 #[v] w fun e w' => e = .returned (.tuple #[.agg #[.slice none 0 0, .slice none 0 0], .int .i64 1]) ∧ Below w.heap.size w w' :=
  (canon_any v h c w hv h1 h2).mono fun e w' ⟨r, hb'⟩ => ⟨opres_no (hb ▸ r), hb'⟩
theorem and_no (v u : Value) (h c h' c' : List Bool) (w : World) (hv : IsSet w v h c) (hu : IsSet w u h' c') (hb : (okLen h.length c.length && okLen h'.length c'.length) = false) (h1 : h.length ≤ 1152921504606846976) (h2 : c.length ≤ 1152921504606846976) (h3 : h'.length ≤ 1152921504606846976) (h4 : c'.length ≤ 1152921504606846976) :
    Calls Tryd.prog 11 #[v, u] w fun e w' => e = .returned (.tuple #[.agg #[.slice none 0 0, .slice none 0 0], .int .i64 1]) ∧ Below w.heap.size w w' :=
  (and_any v u h c h' c' w hv hu h1 h2 h3 h4).mono fun e w' ⟨r, hb'⟩ => ⟨opres_no (hb ▸ r), hb'⟩
theorem or_no (v u : Value) (h c h' c' : List Bool) (w : World) (hv : IsSet w v h c) (hu : IsSet w u h' c') (hb : (okLen h.length c.length && okLen h'.length c'.length) = false) (h1 : h.length ≤ 1152921504606846976) (h2 : c.length ≤ 1152921504606846976) (h3 : h'.length ≤ 1152921504606846976) (h4 : c'.length ≤ 1152921504606846976) :
    Calls Tryd.prog 12 #[v, u] w fun e w' => e = .returned (.tuple #[.agg #[.slice none 0 0, .slice none 0 0], .int .i64 1]) ∧ Below w.heap.size w w' :=
  (or_any v u h c h' c' w hv hu h1 h2 h3 h4).mono fun e w' ⟨r, hb'⟩ => ⟨opres_no (hb ▸ r), hb'⟩
theorem sum_no (v u : Value) (h c h' c' : List Bool) (w : World) (hv : IsSet w v h c) (hu : IsSet w u h' c') (hb : (okLen h.length c.length && okLen h'.length c'.length) = false) (h1 : h.length ≤ 1152921504606846976) (h2 : c.length ≤ 1152921504606846976) (h3 : h'.length ≤ 1152921504606846976) (h4 : c'.length ≤ 1152921504606846976) :
    Calls Tryd.prog 10 #[v, u] w fun e w' => e = .returned (.tuple #[.agg #[.slice none 0 0, .slice none 0 0], .int .i64 1]) ∧ Below w.heap.size w w' :=
  (sum_any v u h c h' c' w hv hu h1 h2 h3 h4).mono fun e w' ⟨r, hb'⟩ => ⟨opres_no (hb ▸ r), hb'⟩
theorem made_falses (W : World) (g m : Nat) (h : Blk W g (rowB m 0 fun _ => false) 4) : IsB W (.slice (some ⟨g, 0, none⟩) m m) ((List.range m).map fun _ => false) := by
  have h2 := h.cast (rowB_start m fun _ => false)
  refine .inr ⟨g, 0, m, by simp, by simp, ?_⟩
  exact rowB_reads h2
end Go.Proofs.YtepncbbegpeilaaDoor
