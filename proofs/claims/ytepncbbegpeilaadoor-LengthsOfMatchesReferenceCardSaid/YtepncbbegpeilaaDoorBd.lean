/-
  Walks: the reference's bounded.
-/
import Derived.Test.YtepncbbegpeilaaDoorRp
import Derived.Test.YtepncbbegpeilaaDoorMd
import Derived.Test.YtepncbbegpeilaaDoorLo
import Derived.Deep.RegionHeld3
set_option linter.unusedSimpArgs false
set_option linter.unusedVariables false
namespace Go.Proofs.YtepncbbegpeilaaDoor
open Go.RowKit Go.Lib

/-- what the reference's Shortest does with a set, in any world that has grown. -/
def ShortOf (f : Nat → Bool) (w : World) (v : Value) : Prop := ∀ W, Below w.heap.size w W →
  Calls Tryd.prog 37 #[v] W fun e w' => (∃ h' c' vo, IsCanon f h' c' ∧ e = .returned vo ∧ OwnSet w' W.heap.size vo h' c') ∧ Below W.heap.size W w'

theorem bounded_of (v : Value) (h c : List Bool) (f : Nat → Bool) (w : World) (hv : IsSet w v h c) (hS : ShortOf f w v) {P N : Nat} (hP : 0 < P) (hF : From f P N) (hl : N + P ≤ 1048576) :
    Calls Tryd.prog 20 #[v] w fun e w' => (∃ h' c', IsCanon f h' c' ∧ SetRes w.heap.size w' e h' c') ∧ Below w.heap.size w w' := by
  obtain ⟨hp, hk, cp, ck, rfl, a1, a2⟩ := hv.shape
  have HS := Lib.hid hS
  clear hS hv a1 a2
  have hsB := (Blk.alloc1 w #[.slice hp h.length hk, .slice cp c.length ck] #[.slice none 0 0, .slice none 0 0] 31 31).lt
  go_enter Tryd.func20, Tryd.ntmps20
  go_wp2_with (first
    | (go_at_call 37; refine (HS.out _ (by go_grown)).mono ?_; rintro e w1 ⟨⟨h', c', vo, hC, rfl, hO⟩, hb1⟩; obtain ⟨k1, k2⟩ := hC.head_le hP hF; obtain ⟨vh, vc, rfl, o1, o2⟩ := hO; obtain ⟨hp', hk', rfl⟩ := own_shape o1; obtain ⟨cp', ck', rfl⟩ := own_shape o2; have hB1 := (Blk.alloc1 w #[.slice hp h.length hk, .slice cp c.length ck] #[.slice none 0 0, .slice none 0 0] 31 31).grows hb1; have hbw1 : Below w.heap.size w w1 := below_one (below_one hb1); have HO := Lib.hid (And.intro hC (And.intro o1 o2)); clear hC o1 o2; have r0 := hB1.cell 0 rfl; have r1 := hB1.cell 1 rfl; have z0 := hB1.free 0; have z1 := hB1.free 1)
    | (go_at_call 38; refine (rvalid_any hp' cp' h'.length hk' c'.length ck' _ (by omega) (by omega)).mono ?_; rintro e w2 ⟨rfl, hb2⟩; have hB2 := (hB1.alloc (.cells #[.slice hp' h'.length hk', .slice cp' c'.length ck'] 31)).grows hb2; have hN2 := (Blk.new w1 #[.slice hp' h'.length hk', .slice cp' c'.length ck'] 31).grows hb2; have hbw2 : Below w.heap.size w w2 := below_two (hbw1.alloc hbw1.size _) hb2; clear r0 r1 z0 z1; have r0 := hB2.cell 0 rfl; have r1 := hB2.cell 1 rfl; have z0 := hB2.free 0; have z1 := hB2.free 1; have n0 := hN2.cell 0 rfl; have n1 := hN2.cell 1 rfl; cases hok : okLen h'.length c'.length))
  · have hbig : 512 < h'.length + c'.length := by have h1 := HO.out.1.pos; have h2 := of_decide_eq_false hok; omega
    have q0 : (w2.setCell ⟨w.heap.size + 1, 0, none⟩ (.slice none 0 0)).cell? ⟨w.heap.size + 1, 0, none⟩ = some (.slice none 0 0) := (hB2.set 0 _).cell 0 rfl
    have q1 : ((w2.setCell ⟨w.heap.size + 1, 0, none⟩ (.slice none 0 0)).setCell ⟨w.heap.size + 1, 1, none⟩ (.slice none 0 0)).cell? ⟨w.heap.size + 1, 1, none⟩ = some (.slice none 0 0) := ((hB2.set 0 _).set 1 _).cell 1 rfl
    refine bodyPost_ret (v := .tuple #[.agg #[.slice none 0 0, .slice none 0 0], .int .i64 2]) (by simp [results, Tryd.results20, go_sem, q0, q1]) rfl ⟨⟨_, _, HO.out.1, .inr ⟨hbig, rfl⟩⟩, (hbw2.setCell (by simp) _).setCell (by simp) _⟩
  · have hsm := (okLen_pos hok).2
    have q0 : (w2.setCell ⟨w.heap.size + 1, 0, none⟩ (.slice hp' h'.length hk')).cell? ⟨w.heap.size + 1, 0, none⟩ = some (.slice hp' h'.length hk') := (hB2.set 0 _).cell 0 rfl
    have q1 : ((w2.setCell ⟨w.heap.size + 1, 0, none⟩ (.slice hp' h'.length hk')).setCell ⟨w.heap.size + 1, 1, none⟩ (.slice cp' c'.length ck')).cell? ⟨w.heap.size + 1, 1, none⟩ = some (.slice cp' c'.length ck') := ((hB2.set 0 _).set 1 _).cell 1 rfl
    have hO2 : OwnSet w2 ((w.alloc (.cells #[.slice hp h.length hk, .slice cp c.length ck] 31)).alloc (.cells #[.slice none 0 0, .slice none 0 0] 31)).heap.size (.agg #[.slice hp' h'.length hk', .slice cp' c'.length ck']) h' c' :=
      ⟨_, _, rfl, own_below (own_alloc HO.out.2.1 _) hb2, own_below (own_alloc HO.out.2.2 _) hb2⟩
    refine bodyPost_ret (v := .tuple #[.agg #[.slice hp' h'.length hk', .slice cp' c'.length ck'], .int .i64 0]) (by simp [results, Tryd.results20, go_sem, q0, q1]) rfl ⟨⟨_, _, HO.out.1, .inl ⟨hsm, _, rfl, ((hO2.set (p := ⟨w.heap.size + 1, 0, none⟩) hsB _).set (p := ⟨w.heap.size + 1, 1, none⟩) hsB _).mono (by omega)⟩⟩, (hbw2.setCell (by simp) _).setCell (by simp) _⟩

end Go.Proofs.YtepncbbegpeilaaDoor
