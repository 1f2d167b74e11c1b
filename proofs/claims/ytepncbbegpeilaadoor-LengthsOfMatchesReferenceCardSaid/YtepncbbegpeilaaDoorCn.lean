/-
  Walks: the canonical form of a row whose last part repeats.
-/
import Derived.Test.YtepncbbegpeilaaDoorPe
import Derived.Test.YtepncbbegpeilaaDoorCc
import Derived.Deep.RegionHeld3
set_option linter.unusedSimpArgs false
set_option linter.unusedVariables false
namespace Go.Proofs.YtepncbbegpeilaaDoor
open Go.RowKit Go.Lib
open Go.Sort hiding Below

/-- the value is a set with this head and cycle, in rows of its own from there on. -/
def OwnSet (w : World) (B : Nat) (v : Value) (h c : List Bool) : Prop := ∃ vh vc, v = .agg #[vh, vc] ∧ w.ownsRow B 4 1 vh h.length (h.map Value.bool) ∧ w.ownsRow B 4 1 vc c.length (c.map Value.bool)
theorem OwnSet.isSet {w : World} {B : Nat} {v : Value} {h c : List Bool} (a : OwnSet w B v h c) : IsSet w v h c := by
  obtain ⟨vh, vc, rfl, a1, a2⟩ := a
  exact ⟨vh, vc, rfl, own_isB a1, own_isB a2⟩
theorem OwnSet.set {w : World} {B : Nat} {v : Value} {h c : List Bool} (a : OwnSet w B v h c) {p : Addr} (hp : p.block < B) (u : Value) : OwnSet (w.setCell p u) B v h c := by
  obtain ⟨vh, vc, rfl, a1, a2⟩ := a
  exact ⟨vh, vc, rfl, own_set a1 hp u, own_set a2 hp u⟩
theorem OwnSet.below {w w' : World} {B : Nat} {v : Value} {h c : List Bool} (a : OwnSet w B v h c) (hb : Below w.heap.size w w') : OwnSet w' B v h c := by
  obtain ⟨vh, vc, rfl, a1, a2⟩ := a
  exact ⟨vh, vc, rfl, own_below a1 hb, own_below a2 hb⟩
theorem OwnSet.mono {w : World} {B B' : Nat} {v : Value} {h c : List Bool} (a : OwnSet w B v h c) (hB : B' ≤ B) : OwnSet w B' v h c := by
  obtain ⟨vh, vc, rfl, a1, a2⟩ := a
  exact ⟨vh, vc, rfl, own_mono a1 hB, own_mono a2 hB⟩
/-- what a function with a set for its result returns, if these are the result's head and cycle. -/
def SetRes (B : Nat) (W' : World) (e : Ending) (h c : List Bool) : Prop :=
  (h.length + c.length ≤ 512 ∧ ∃ v, e = .returned (.tuple #[v, .int .i64 0]) ∧ OwnSet W' B v h c) ∨ (512 < h.length + c.length ∧ e = .returned (.tuple #[.agg #[.slice none 0 0, .slice none 0 0], .int .i64 2]))
theorem SetRes.below {B : Nat} {W W' : World} {e : Ending} {h c : List Bool} (r : SetRes B W e h c) (hb : Below W.heap.size W W') : SetRes B W' e h c := by
  rcases r with ⟨h1, v, h2, h3⟩ | h1
  · exact .inl ⟨h1, v, h2, h3.below hb⟩
  · exact .inr h1
theorem SetRes.set {B : Nat} {W : World} {e : Ending} {h c : List Bool} (r : SetRes B W e h c) {p : Addr} (hp : p.block < B) (u : Value) : SetRes B (W.setCell p u) e h c := by
  rcases r with ⟨h1, v, h2, h3⟩ | h1
  · exact .inl ⟨h1, v, h2, h3.set hp u⟩
  · exact .inr h1
theorem SetRes.mono {B B' : Nat} {W : World} {e : Ending} {h c : List Bool} (r : SetRes B W e h c) (hB : B' ≤ B) : SetRes B' W e h c := by
  rcases r with ⟨h1, v, h2, h3⟩ | h1
  · exact .inl ⟨h1, v, h2, h3.mono hB⟩
  · exact .inr h1
theorem SetRes.shape {B : Nat} {W : World} {e : Ending} {h c : List Bool} (r : SetRes B W e h c) : ∃ hp hl hk cp cl ck n, e = .returned (.tuple #[.agg #[.slice hp hl hk, .slice cp cl ck], .int .i64 n]) := by
  rcases r with ⟨_, v, rfl, vh, vc, rfl, a1, a2⟩ | ⟨_, rfl⟩
  · obtain ⟨p, k, rfl⟩ := own_shape a1
    obtain ⟨p', k', rfl⟩ := own_shape a2
    exact ⟨_, _, _, _, _, _, _, rfl⟩
  · exact ⟨_, _, _, _, _, _, _, rfl⟩
theorem sizeBool : ∀ w, (Go.sizeOf 4).run Tryd.prog w = .ok 1 w := fun _ => by kernel_rfl
theorem slice_lh (blk off len cap l h : Nat) (L H : Int) (hL : L = l) (hH : H = h) (h1 : l ≤ h) (h2 : h ≤ cap) (h3 : l < cap) (W : World) :
    (Instr.slice 26 (.slice (some ⟨blk, off, none⟩) len cap) (some (.int .i64 L)) (some (.int .i64 H)) none).run Tryd.prog W = .ok (.slice (some ⟨blk, off + l, none⟩) (h - l) (cap - l)) W := by
  subst hL; subst hH
  rw [run_slice_lh (w := W) 26 (some ⟨blk, off, none⟩) len cap (by kernel_rfl) .i64 .i64 l h (by omega) (by omega) (by omega)]
  rw [show Tryd.prog.elem 26 = 4 by kernel_rfl, sizeBool]
  have hne : ¬ cap = l := by omega
  simp only [Result.andThen, sliced, Int.toNat_natCast, if_neg hne, Nat.mul_one, Option.map_some]
  congr 3
  unfold Addr.add; split <;> simp_all
theorem clone_at (blk off cap n : Nat) (l : List Bool) (w : World) (hR : ReadsB w blk off l) (hn : l.length = n) (hl : n ≤ 1048576) :
    Calls Tryd.prog 35 #[.slice (some ⟨blk, off, none⟩) n cap] w fun e w' =>
      (∃ v, e = .returned v ∧ w'.ownsRow w.heap.size 4 1 v l.length (l.map Value.bool)) ∧ Below w.heap.size w w' := by
  subst hn; exact clone_any blk off cap l w hR hl
set_option maxRecDepth 100000 in
set_option maxHeartbeats 1000000 in
theorem canonical_any (blk off cap : Nat) (l : List Bool) (H : Nat) (f : Nat → Bool) (w : World) (hR : ReadsB w blk off l) (hr : Rep f l H) (hcap : l.length ≤ cap) (hl : l.length ≤ 1048576) (hcp : cap ≤ 9223372036854775807) :
    Calls Tryd.prog 17 #[.slice (some ⟨blk, off, none⟩) l.length cap, .int .i64 (H : Int)] w fun e w' => (∃ h c, IsCanon f h c ∧ SetRes w.heap.size w' e h c) ∧ Below w.heap.size w w' := by
  have hlt := hr.lt
  have hlen : (l.drop H).length = l.length - H := by simp
  have HPer := Lib.hid (fun W (hW : Below w.heap.size w W) => hlen ▸ period_any blk (off + H) (cap - H) (l.drop H) W (ReadsB.drop (fun j hj => (hW.cell (lt_of_cell (hR j hj))).trans (hR j hj)) H) (by omega) (by omega) (by omega) (by omega))
  have HR := Lib.hid hr
  have HRd := Lib.hid (fun W (hW : Below w.heap.size w W) => (show ReadsB W blk off l from fun j hj => (hW.cell (lt_of_cell (hR j hj))).trans (hR j hj)))
  clear hr hR hlen
  go_enter Tryd.func17, Tryd.ntmps17
  go_wp2_with (go_at_call 34; refine (HPer.out _ (by go_grown)).mono ?_; rintro e w1 ⟨⟨p, rfl, hp⟩, hb1⟩)
  obtain ⟨hpH, hpmin⟩ := per_least HR.out hp
  have hpl : p ≤ l.length - H := by have := hp.le; simpa using this
  have hpp := hp.pos
  have HP := Lib.hid hp
  have HPm := Lib.hid hpmin
  clear hpmin hp
  go_loopw [1] (fun i wr => ∃ N : Nat, i = .int .i64 N ∧ N ≤ H ∧ From f p N ∧ Blk wr w.heap.size #[.slice none 0 0, .slice none 0 0] 31 ∧ Below w.heap.size w wr) (fun i _ => (RowKit.intOf i).toNat)
  case atStart => exact ⟨H, rfl, Nat.le_refl _, hpH, (Blk.new w _ _).grows hb1, below_one hb1⟩
  case round =>
    clear hb1 hpH
    obtain ⟨N, rfl, hN, hF, hB, hb⟩ := hrel
    have HF := Lib.hid hF
    clear hF
    by_cases hex : 0 < N ∧ f (N - 1) = f (N - 1 + p)
    · obtain ⟨hN0, hff⟩ := hex
      have c0 := (HRd.out _ hb) (N - 1) (by omega)
      have c1 := (HRd.out _ hb) (N - 1 + p) (by omega)
      rw [HR.out.val _ (by omega)] at c0 c1
      rw [← hff] at c1
      have HN := Lib.hid (show From f p (N - 1) from fun n hn => by
        rcases Nat.lt_or_ge n N with h | h
        · obtain rfl : n = N - 1 := by omega
          exact hff.symm
        · exact HF.out n h)
      clear hff HF
      generalize f (N - 1) = b at c0 c1
      go_wp2_with fail
      go_quiet (fail)
      go_wp2
      go_roundw
      case rel => exact ⟨N - 1, by go_num, by omega, HN.out, ⟨hB.is⟩, below_drews hb _⟩
      case measure => simp [RowKit.intOf]; omega
    · have HC := Lib.hid (canon_of HR.out HP.out hN HF.out (by
        rcases Nat.eq_zero_or_pos N with h | h
        · exact .inl h
        · exact .inr fun h2 => hex ⟨h, h2⟩))
      have hl1 : (l.take N).length = N := by rw [List.length_take]; omega
      have hl2 : ((l.drop N).take p).length = p := by rw [List.length_take, List.length_drop]; omega
      have HRt := Lib.hid (fun W (hW : Below w.heap.size w W) => (HRd.out W hW).take N)
      have HRu := Lib.hid (fun W (hW : Below w.heap.size w W) => ((HRd.out W hW).drop N).take p)
      have hg : (0 < N ∧ f (N - 1) ≠ f (N - 1 + p)) ∨ N = 0 := by
        rcases Nat.eq_zero_or_pos N with h | h
        · exact .inr h
        · exact .inl ⟨h, fun h2 => hex ⟨h, h2⟩⟩
      generalize l.take N = hh at HC hl1 HRt
      generalize (l.drop N).take p = cc at HC hl2 HRu
      clear hex HF
      have HX := Lib.hid (And.intro hl1 hl2)
      clear hl1 hl2
      have hbig : N + p ≤ 512 ∨ 512 < N + p := by omega
      have r0 := hB.cell 0 rfl
      have r1 := hB.cell 1 rfl
      have z0 := hB.free 0
      have z1 := hB.free 1
      rcases hg with ⟨hN0, hff⟩ | rfl
      · have c0 := (HRd.out _ hb) (N - 1) (by omega)
        have c1 := (HRd.out _ hb) (N - 1 + p) (by omega)
        rw [HR.out.val _ (by omega)] at c0 c1
        generalize f (N - 1) = b at c0 hff
        generalize f (N - 1 + p) = b' at c1 hff
        obtain rfl : b' = !b := by cases b <;> cases b' <;> simp_all
        clear hff
        go_wp2_with fail
        go_quiet (fail)
        clear c0 c1 hN0
        have hbq : Below w.heap.size w (wr.drewN nq) := below_drews hb _
        have hBq : Blk (wr.drewN nq) w.heap.size #[.slice none 0 0, .slice none 0 0] 31 := ⟨hB.is⟩
        clear r0 r1 z0 z1 hb hB
        generalize wr.drewN nq = wq at hbq hBq ⊢
        have r0 := hBq.cell 0 rfl
        have r1 := hBq.cell 1 rfl
        have z0 := hBq.free 0
        have z1 := hBq.free 1
        rcases hbig with hbig | hbig
        · have b1 : N ≤ cap := by omega
          have hs9 : ∀ W : World, (Instr.slice 26 (.slice (some ⟨blk, off, none⟩) l.length cap) (some (.int .i64 (N : Int))) (some (.int .i64 ((N : Int) + (p : Int)))) none).run Tryd.prog W = .ok (.slice (some ⟨blk, off + N, none⟩) p (cap - N)) W := fun W => by
            rw [slice_lh blk off l.length cap N (N + p) _ _ rfl (by omega) (by omega) (by omega) (by omega) W, Nat.add_sub_cancel_left]
          have b2 : (N : Int) + (p : Int) ≤ (cap : Int) := by omega
          have b4 : ¬ cap = N := by omega
          have w1 : IntKind.i64.wrap ((N : Int) + (p : Int)) = (N : Int) + (p : Int) := IntWalk.i64_in _ (by omega)
          have w2 : wrap64 ((N : Int) + (p : Int)) = (N : Int) + (p : Int) := IntWalk.wrap64_in _ (by omega)
          go_wp2_with fail
          go_region_held3 (fun _ => True) (first | exact trivial) (first
            | (go_at_call 35; refine (clone_at blk off cap N hh _ (HRt.out _ hbq.drew) HX.out.1 (by omega)).mono ?_; rintro e w3 ⟨⟨v3, rfl, hown3⟩, hb3⟩; obtain ⟨p3, k3, rfl⟩ := own_shape hown3)
            | (go_at_call 35; refine (clone_at blk (off + N) (cap - N) p cc _ (HRu.out _ (below_two hbq.drew hb3)) HX.out.2 (by omega)).mono ?_; rintro e w4 ⟨⟨v4, rfl, hown4⟩, hb4⟩; obtain ⟨p4, k4, rfl⟩ := own_shape hown4; have hB4 := (hBq.drew.grows hb3).grows hb4; have s0 := hB4.cell 0 rfl; have s1 := hB4.cell 1 rfl; have y0 := hB4.free 0; have y1 := hB4.free 1))
          go_wp2
          have q0 : (w4.setCell ⟨w.heap.size, 0, none⟩ (.slice p3 hh.length k3)).cell? ⟨w.heap.size, 0, none⟩ = some (.slice p3 hh.length k3) := (hB4.set 0 _).cell 0 rfl
          have q1 : ((w4.setCell ⟨w.heap.size, 0, none⟩ (.slice p3 hh.length k3)).setCell ⟨w.heap.size, 1, none⟩ (.slice p4 cc.length k4)).cell? ⟨w.heap.size, 1, none⟩ = some (.slice p4 cc.length k4) := ((hB4.set 0 _).set 1 _).cell 1 rfl
          have hlw : w.heap.size < wq.drew.heap.size := hBq.drew.lt
          have hlw3 : w.heap.size < w3.heap.size := (hBq.drew.grows hb3).lt
          have o3 := own_mono (own_set (p := ⟨w.heap.size, 1, none⟩) (own_set (p := ⟨w.heap.size, 0, none⟩) (own_below hown3 hb4) hlw (.slice p3 hh.length k3)) hlw (.slice p4 cc.length k4)) (Nat.le_of_lt hlw)
          have o4 := own_mono (own_set (p := ⟨w.heap.size, 1, none⟩) (own_set (p := ⟨w.heap.size, 0, none⟩) hown4 hlw3 (.slice p3 hh.length k3)) hlw3 (.slice p4 cc.length k4)) (Nat.le_of_lt hlw3)
          refine bodyPost_ret (v := .tuple #[.agg #[.slice p3 hh.length k3, .slice p4 cc.length k4], .int .i64 0]) (by simp [results, Tryd.results17, go_sem, q0, q1]) rfl ⟨⟨hh, cc, HC.out, .inl ⟨by have := HX.out; omega, _, rfl, _, _, rfl, o3, o4⟩⟩, ((below_two (below_two hbq.drew hb3) hb4).setCell (by simp) _).setCell (by simp) _⟩
        · go_wp2_with fail
          have q0 : (wq.setCell ⟨w.heap.size, 0, none⟩ (.slice none 0 0)).cell? ⟨w.heap.size, 0, none⟩ = some (.slice none 0 0) := (hBq.set 0 _).cell 0 rfl
          have q1 : ((wq.setCell ⟨w.heap.size, 0, none⟩ (.slice none 0 0)).setCell ⟨w.heap.size, 1, none⟩ (.slice none 0 0)).cell? ⟨w.heap.size, 1, none⟩ = some (.slice none 0 0) := ((hBq.set 0 _).set 1 _).cell 1 rfl
          refine bodyPost_ret (v := .tuple #[.agg #[.slice none 0 0, .slice none 0 0], .int .i64 2]) (by simp [results, Tryd.results17, go_sem, q0, q1]) rfl ⟨⟨hh, cc, HC.out, .inr ⟨by have := HX.out; omega, rfl⟩⟩, (hbq.setCell (by simp) _).setCell (by simp) _⟩
      · go_wp2_with fail
        go_quiet (fail)
        have hbq : Below w.heap.size w (wr.drewN nq) := below_drews hb _
        have hBq : Blk (wr.drewN nq) w.heap.size #[.slice none 0 0, .slice none 0 0] 31 := ⟨hB.is⟩
        clear r0 r1 z0 z1 hb hB
        generalize wr.drewN nq = wq at hbq hBq ⊢
        have r0 := hBq.cell 0 rfl
        have r1 := hBq.cell 1 rfl
        have z0 := hBq.free 0
        have z1 := hBq.free 1
        rcases hbig with hbig | hbig
        · have b1 : p ≤ cap := by omega
          have b2 : (p : Int) ≤ (cap : Int) := by omega
          have b4 : ¬ cap = 0 := by omega
          have w1 : IntKind.i64.wrap ((p : Int)) = (p : Int) := IntWalk.i64_in _ (by omega)
          have w2 : wrap64 ((p : Int)) = (p : Int) := IntWalk.wrap64_in _ (by omega)
          go_wp2_with fail
          go_region_held3 (fun _ => True) (first | exact trivial) (first
            | (go_at_call 35; refine (clone_at blk off cap 0 hh _ (HRt.out _ hbq.drew) HX.out.1 (by omega)).mono ?_; rintro e w3 ⟨⟨v3, rfl, hown3⟩, hb3⟩; obtain ⟨p3, k3, rfl⟩ := own_shape hown3)
            | (go_at_call 35; refine (clone_at blk (off) (cap) p cc _ (HRu.out _ (below_two hbq.drew hb3)) HX.out.2 (by omega)).mono ?_; rintro e w4 ⟨⟨v4, rfl, hown4⟩, hb4⟩; obtain ⟨p4, k4, rfl⟩ := own_shape hown4; have hB4 := (hBq.drew.grows hb3).grows hb4; have s0 := hB4.cell 0 rfl; have s1 := hB4.cell 1 rfl; have y0 := hB4.free 0; have y1 := hB4.free 1))
          go_wp2
          have q0 : (w4.setCell ⟨w.heap.size, 0, none⟩ (.slice p3 hh.length k3)).cell? ⟨w.heap.size, 0, none⟩ = some (.slice p3 hh.length k3) := (hB4.set 0 _).cell 0 rfl
          have q1 : ((w4.setCell ⟨w.heap.size, 0, none⟩ (.slice p3 hh.length k3)).setCell ⟨w.heap.size, 1, none⟩ (.slice p4 cc.length k4)).cell? ⟨w.heap.size, 1, none⟩ = some (.slice p4 cc.length k4) := ((hB4.set 0 _).set 1 _).cell 1 rfl
          have hlw : w.heap.size < wq.drew.heap.size := hBq.drew.lt
          have hlw3 : w.heap.size < w3.heap.size := (hBq.drew.grows hb3).lt
          have o3 := own_mono (own_set (p := ⟨w.heap.size, 1, none⟩) (own_set (p := ⟨w.heap.size, 0, none⟩) (own_below hown3 hb4) hlw (.slice p3 hh.length k3)) hlw (.slice p4 cc.length k4)) (Nat.le_of_lt hlw)
          have o4 := own_mono (own_set (p := ⟨w.heap.size, 1, none⟩) (own_set (p := ⟨w.heap.size, 0, none⟩) hown4 hlw3 (.slice p3 hh.length k3)) hlw3 (.slice p4 cc.length k4)) (Nat.le_of_lt hlw3)
          refine bodyPost_ret (v := .tuple #[.agg #[.slice p3 hh.length k3, .slice p4 cc.length k4], .int .i64 0]) (by simp [results, Tryd.results17, go_sem, q0, q1]) rfl ⟨⟨hh, cc, HC.out, .inl ⟨by have := HX.out; omega, _, rfl, _, _, rfl, o3, o4⟩⟩, ((below_two (below_two hbq.drew hb3) hb4).setCell (by simp) _).setCell (by simp) _⟩
        · go_wp2_with fail
          have q0 : (wq.setCell ⟨w.heap.size, 0, none⟩ (.slice none 0 0)).cell? ⟨w.heap.size, 0, none⟩ = some (.slice none 0 0) := (hBq.set 0 _).cell 0 rfl
          have q1 : ((wq.setCell ⟨w.heap.size, 0, none⟩ (.slice none 0 0)).setCell ⟨w.heap.size, 1, none⟩ (.slice none 0 0)).cell? ⟨w.heap.size, 1, none⟩ = some (.slice none 0 0) := ((hBq.set 0 _).set 1 _).cell 1 rfl
          refine bodyPost_ret (v := .tuple #[.agg #[.slice none 0 0, .slice none 0 0], .int .i64 2]) (by simp [results, Tryd.results17, go_sem, q0, q1]) rfl ⟨⟨hh, cc, HC.out, .inr ⟨by have := HX.out; omega, rfl⟩⟩, (hbq.setCell (by simp) _).setCell (by simp) _⟩
end Go.Proofs.YtepncbbegpeilaaDoor
