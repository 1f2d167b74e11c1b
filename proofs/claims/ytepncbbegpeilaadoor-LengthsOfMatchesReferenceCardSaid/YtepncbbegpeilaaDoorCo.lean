/-
  Walks: the code's Canon.
-/
import Derived.Test.YtepncbbegpeilaaDoorCn
import Derived.Test.YtepncbbegpeilaaDoorHa
set_option linter.unusedSimpArgs false
set_option linter.unusedVariables false
namespace Go.Proofs.YtepncbbegpeilaaDoor
open Go.RowKit Go.Lib
open Go.Sort hiding Below

/-- what a function with a set and an error for its results returns: ErrArg, or the canonical form of the members of f, or ErrBig. -/
def OpRes (B : Nat) (ok : Bool) (f : Nat → Bool) (W' : World) (e : Ending) : Prop :=
  (ok = false ∧ e = .returned (.tuple #[.agg #[.slice none 0 0, .slice none 0 0], .int .i64 1])) ∨ (ok = true ∧ ∃ h c, IsCanon f h c ∧ SetRes B W' e h c)
theorem OpRes.shape {B : Nat} {ok : Bool} {f : Nat → Bool} {W : World} {e : Ending} (r : OpRes B ok f W e) : ∃ hp hl hk cp cl ck n, e = .returned (.tuple #[.agg #[.slice hp hl hk, .slice cp cl ck], .int .i64 n]) := by
  rcases r with ⟨_, rfl⟩ | ⟨_, h, c, _, r⟩
  · exact ⟨_, _, _, _, _, _, _, rfl⟩
  · exact r.shape
theorem OpRes.set {B : Nat} {ok : Bool} {f : Nat → Bool} {W : World} {e : Ending} (r : OpRes B ok f W e) {p : Addr} (hp : p.block < B) (u : Value) : OpRes B ok f (W.setCell p u) e := by
  rcases r with r | ⟨h0, h, c, h1, r⟩
  · exact .inl r
  · exact .inr ⟨h0, h, c, h1, r.set hp u⟩
theorem OpRes.mono {B B' : Nat} {ok : Bool} {f : Nat → Bool} {W : World} {e : Ending} (r : OpRes B ok f W e) (hB : B' ≤ B) : OpRes B' ok f W e := by
  rcases r with r | ⟨h0, h, c, h1, r⟩
  · exact .inl r
  · exact .inr ⟨h0, h, c, h1, r.mono hB⟩
theorem OpRes.below {B : Nat} {ok : Bool} {f : Nat → Bool} {W W' : World} {e : Ending} (r : OpRes B ok f W e) (hb : Below W.heap.size W W') : OpRes B ok f W' e := by
  rcases r with r | ⟨h0, h, c, h1, r⟩
  · exact .inl r
  · exact .inr ⟨h0, h, c, h1, r.below hb⟩
theorem OpRes.congr {B : Nat} {ok ok' : Bool} {f g : Nat → Bool} {W : World} {e : Ending} (r : OpRes B ok f W e) (hok : ok = ok') (hf : ∀ n, f n = g n) : OpRes B ok' g W e := by
  subst hok
  obtain rfl : f = g := funext hf
  exact r

theorem own_some {w : World} {base : Nat} {v : Value} {l : List Bool} (h : w.ownsRow base 4 1 v l.length (l.map Value.bool)) (h0 : 0 < l.length) :
    ∃ g cap, v = .slice (some ⟨g, 0, none⟩) l.length cap ∧ base ≤ g ∧ l.length ≤ cap ∧ cap ≤ 9223372036854775807 ∧ ReadsB w g 0 l := by
  have hb := own_isB h
  obtain ⟨hl, ⟨rfl, hn⟩ | ⟨g, cap, cur, rfl, hg, hh, hcap, hm, hsz, htk⟩⟩ := h
  · omega
  · obtain ⟨blk, off, cap', he, hc, hr⟩ := hb.some h0
    simp only [Value.slice.injEq, Option.some.injEq, Addr.mk.injEq] at he
    obtain ⟨⟨rfl, rfl, _⟩, _, rfl⟩ := he
    exact ⟨_, _, rfl, hg, hcap, by unfold maxLen at hm; omega, hr⟩
theorem isL_two {W : World} {b : Nat} {hp cp : Option Addr} {hk ck : Nat} {h c : List Bool} {t : TypeId} (hB : Blk W b #[.slice hp h.length hk, .slice cp c.length ck] t) (a1 : IsB W (.slice hp h.length hk) h) (a2 : IsB W (.slice cp c.length ck) c) :
    IsL W (.slice (some ⟨b, 0, none⟩) 2 2) [h, c] := by
  refine .inr ⟨b, 0, 2, rfl, fun j l hj => ?_⟩
  match j, hj with
  | 0, hj => cases hj; exact ⟨hp, hk, hB.cell 0 rfl, a1⟩
  | 1, hj => cases hj; exact ⟨cp, ck, hB.cell 1 rfl, a2⟩
theorem concat_two (b : Nat) (hp cp : Option Addr) (hk ck : Nat) (h c : List Bool) (t : TypeId) (W : World) (hB : Blk W b #[.slice hp h.length hk, .slice cp c.length ck] t) (a1 : IsB W (.slice hp h.length hk) h) (a2 : IsB W (.slice cp c.length ck) c) (hc : 0 < c.length) (hs : h.length + c.length ≤ 1048576) :
    Calls Tryd.prog 25 #[.slice (some ⟨b, 0, none⟩) 2 2] W fun e W' =>
      (∃ g cap, e = .returned (.slice (some ⟨g, 0, none⟩) (h.length + c.length) cap) ∧ h.length + c.length ≤ cap ∧ cap ≤ 9223372036854775807 ∧ ReadsB W' g 0 (h ++ c)) ∧ Below W.heap.size W W' := by
  have hf : [h, c].flatten = h ++ c := by simp
  refine (concat_any _ [h, c] W (isL_two hB a1 a2) (by rw [hf, List.length_append]; omega) (by simp)).mono ?_
  rintro e W' ⟨⟨v', rfl, hown⟩, hb⟩
  rw [hf] at hown
  obtain ⟨g, cap, rfl, _, h3, h4, h5⟩ := own_some hown (by rw [List.length_append]; omega)
  rw [List.length_append] at h3
  exact ⟨⟨g, cap, by rw [List.length_append], h3, h4, h5⟩, hb⟩
theorem canonical_at (g cap n : Nat) (l : List Bool) (H : Nat) (f : Nat → Bool) (w : World) (hR : ReadsB w g 0 l) (hr : Rep f l H) (hn : l.length = n) (hcap : n ≤ cap) (hl : n ≤ 1048576) (hcp : cap ≤ 9223372036854775807) :
    Calls Tryd.prog 17 #[.slice (some ⟨g, 0, none⟩) n cap, .int .i64 (H : Int)] w fun e w' => OpRes w.heap.size true f w' e ∧ Below w.heap.size w w' := by
  subst hn
  refine (canonical_any g 0 cap l H f w hR hr hcap hl hcp).mono ?_
  rintro e w' ⟨⟨h, c, h1, h2⟩, hb⟩
  exact ⟨.inr ⟨rfl, h, c, h1, h2⟩, hb⟩
set_option maxRecDepth 100000 in
set_option maxHeartbeats 1000000 in
theorem canon_any (v : Value) (h c : List Bool) (w : World) (hv : IsSet w v h c) (h1 : h.length ≤ 1152921504606846976) (h2 : c.length ≤ 1152921504606846976) :
    Calls Tryd.prog 9 #[v] w fun e w' => OpRes w.heap.size (okLen h.length c.length) (atL h c) w' e ∧ Below w.heap.size w w' := by
  obtain ⟨hp, hk, cp, ck, rfl, a1, a2⟩ := hv.shape
  cases ho : okLen h.length c.length
  · have HV := Lib.hid (fun W => ho ▸ valid_any hp cp h.length hk c.length ck W h1 h2)
    clear ho hv a1 a2
    go_enter Tryd.func9, Tryd.ntmps9
    go_wp2_with (go_at_call 24; refine (HV.out _).mono ?_; rintro e w1 ⟨rfl, hb1⟩; have hB1 := (Blk.alloc1 w _ _ _ _).grows hb1; have r0 := hB1.cell 0 rfl; have r1 := hB1.cell 1 rfl; have z0 := hB1.free 0; have z1 := hB1.free 1)
    have q0 : (w1.setCell ⟨w.heap.size + 1, 0, none⟩ (.slice none 0 0)).cell? ⟨w.heap.size + 1, 0, none⟩ = some (.slice none 0 0) := (hB1.set 0 _).cell 0 rfl
    have q1 : ((w1.setCell ⟨w.heap.size + 1, 0, none⟩ (.slice none 0 0)).setCell ⟨w.heap.size + 1, 1, none⟩ (.slice none 0 0)).cell? ⟨w.heap.size + 1, 1, none⟩ = some (.slice none 0 0) := ((hB1.set 0 _).set 1 _).cell 1 rfl
    refine bodyPost_ret (v := .tuple #[.agg #[.slice none 0 0, .slice none 0 0], .int .i64 1]) (by simp [results, Tryd.results9, go_sem, q0, q1]) rfl ⟨.inl ⟨rfl, rfl⟩, ((below_one (below_one hb1)).setCell (by simp) _).setCell (by simp) _⟩
  · obtain ⟨hc, hs⟩ := okLen_pos ho
    have HV := Lib.hid (fun W => ho ▸ valid_any hp cp h.length hk c.length ck W h1 h2)
    have HA := Lib.hid (And.intro a1 a2)
    have hlen : (h ++ c).length = h.length + c.length := List.length_append
    have HRep := Lib.hid (rep_of_set h c hc)
    clear ho hv a1 a2
    go_enter Tryd.func9, Tryd.ntmps9
    go_wp2_with (go_at_call 24; refine (HV.out _).mono ?_; rintro e w1 ⟨rfl, hb1⟩)
    have hB1 := (Blk.alloc1 w #[.slice hp h.length hk, .slice cp c.length ck] #[.slice none 0 0, .slice none 0 0] 31 31).grows hb1
    have hX1 := ((Blk.new w #[.slice hp h.length hk, .slice cp c.length ck] 31).alloc (.cells #[.slice none 0 0, .slice none 0 0] 31)).grows hb1
    have hbw1 : Below w.heap.size w w1 := below_one (below_one hb1)
    have S0 : w1.drew.cell? ⟨w.heap.size, 0, none⟩ = some (.slice hp h.length hk) ∧ w1.drew.cell? ⟨w.heap.size, 1, none⟩ = some (.slice cp c.length ck) := ⟨hX1.drew.cell 0 rfl, hX1.drew.cell 1 rfl⟩
    have X1 := (hX1.alloc (.cells #[.slice hp h.length hk, .slice cp c.length ck] 26)).drew
    have R1 := (hB1.alloc (.cells #[.slice hp h.length hk, .slice cp c.length ck] 26)).drew
    have N1 := (Blk.new w1 #[.slice hp h.length hk, .slice cp c.length ck] 26).drew
    have hbw2 : Below w.heap.size w (w1.alloc (.cells #[.slice hp h.length hk, .slice cp c.length ck] 26)).drew := (hbw1.alloc hbw1.size _).drew
    have hsz1 : w.heap.size + 1 < (w1.alloc (.cells #[.slice hp h.length hk, .slice cp c.length ck] 26)).drew.heap.size := R1.lt
    go_region_held3 (fun W => W.cell? ⟨w.heap.size, 0, none⟩ = some (.slice hp h.length hk) ∧ W.cell? ⟨w.heap.size, 1, none⟩ = some (.slice cp c.length ck)) (first | exact S0 | exact ⟨X1.cell 0 rfl, X1.cell 1 rfl⟩ | exact ⟨X2.cell 0 rfl, X2.cell 1 rfl⟩ | exact ⟨X3.cell 0 rfl, X3.cell 1 rfl⟩ | exact ⟨X4.cell 0 rfl, X4.cell 1 rfl⟩) (first
      | (go_at_call 25; refine (concat_two w1.heap.size hp cp hk ck h c _ _ N1 (HA.out.1.grows hbw2) (HA.out.2.grows hbw2) hc (by omega)).mono ?_; rintro e w2 ⟨⟨g, gcap, rfl, hcap, hm, hrd⟩, hb2⟩; have X2 := X1.grows hb2; have R2 := R1.grows hb2)
      | (go_at_call 17; refine (canonical_at g gcap (h.length + c.length) (h ++ c) h.length (atL h c) w2 hrd HRep.out hlen hcap (by omega) hm).mono ?_; rintro e w3 ⟨hres, hb3⟩; obtain ⟨hp', hl', hk', cp', cl', ck', n', rfl⟩ := hres.shape; have X3 := X2.grows hb3; have R3 := R2.grows hb3; have s0 := R3.cell 0 rfl; have s1 := R3.cell 1 rfl; have y0 := R3.free 0; have y1 := R3.free 1; have X4 := (X3.other (a := ⟨w.heap.size + 1, 0, none⟩) (by simp) (.slice hp' hl' hk')).other (a := ⟨w.heap.size + 1, 1, none⟩) (by simp) (.slice cp' cl' ck')))
    go_wp2
    have q0 : (w3.setCell ⟨w.heap.size + 1, 0, none⟩ (.slice hp' hl' hk')).cell? ⟨w.heap.size + 1, 0, none⟩ = some (.slice hp' hl' hk') := (R3.set 0 _).cell 0 rfl
    have q1 : ((w3.setCell ⟨w.heap.size + 1, 0, none⟩ (.slice hp' hl' hk')).setCell ⟨w.heap.size + 1, 1, none⟩ (.slice cp' cl' ck')).cell? ⟨w.heap.size + 1, 1, none⟩ = some (.slice cp' cl' ck') := ((R3.set 0 _).set 1 _).cell 1 rfl
    have hlt : w.heap.size + 1 < w2.heap.size := Nat.lt_of_lt_of_le hsz1 hb2.size
    refine bodyPost_ret (v := .tuple #[.agg #[.slice hp' hl' hk', .slice cp' cl' ck'], .int .i64 n']) (by simp [results, Tryd.results9, go_sem, q0, q1]) rfl ⟨((hres.set (p := ⟨w.heap.size + 1, 0, none⟩) hlt _).set (p := ⟨w.heap.size + 1, 1, none⟩) hlt _).mono (by omega), ((below_two (below_two hbw2 hb2) hb3).setCell (by simp) _).setCell (by simp) _⟩
end Go.Proofs.YtepncbbegpeilaaDoor
