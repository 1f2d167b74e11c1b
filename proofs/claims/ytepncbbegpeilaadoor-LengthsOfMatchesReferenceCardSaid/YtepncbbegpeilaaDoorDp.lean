/-
  Walks: do the classes of an automaton part all bytes?
-/
import Derived.Test.YtepncbbegpeilaaDoorKf
import Derived.Test.YtepncbbegpeilaaDoorKk
import Derived.Test.YtepncbbegpeilaaDoorKx
set_option linter.unusedSimpArgs false
set_option linter.unusedVariables false
namespace Go.Proofs.YtepncbbegpeilaaDoor
open Go.RowKit Go.Lib

/-- a class's four cells. -/
def encC (x : BitVec 256) : List Value := [.int .u64 (wd x 0), .int .u64 (wd x 1), .int .u64 (wd x 2), .int .u64 (wd x 3)]
/-- these classes stand one behind the other from there on. -/
def ReadsC (w : World) (blk off : Nat) (l : List (BitVec 256)) : Prop := ∀ (j : Nat) (x : BitVec 256), l[j]? = some x → ∀ (i : Nat) (v : Value), (encC x)[i]? = some v → w.cell? ⟨blk, off + j * 4 + i, none⟩ = some v
/-- the value is a slice that reads as these classes. -/
def IsC (w : World) (v : Value) (l : List (BitVec 256)) : Prop :=
  (l = [] ∧ ∃ p cap, v = .slice p 0 cap) ∨ ∃ blk off cap, v = .slice (some ⟨blk, off, none⟩) l.length cap ∧ ReadsC w blk off l
theorem IsC.kept {w w' : World} {v : Value} {l : List (BitVec 256)} (h : IsC w v l) (hk : ∀ a u, w.cell? a = some u → w'.cell? a = some u) : IsC w' v l := by
  rcases h with h | ⟨blk, off, cap, rfl, h⟩
  · exact .inl h
  · exact .inr ⟨blk, off, cap, rfl, fun j x hj i v hi => hk _ _ (h j x hj i v hi)⟩
theorem IsC.grows {w w' : World} {v : Value} {l : List (BitVec 256)} (h : IsC w v l) (hb : Below w.heap.size w w') : IsC w' v l :=
  h.kept fun _ _ hc => (hb.cell (lt_of_cell hc)).trans hc
theorem IsC.shape {w : World} {v : Value} {l : List (BitVec 256)} (h : IsC w v l) : ∃ p cap, v = .slice p l.length cap := by
  rcases h with ⟨rfl, p, cap, rfl⟩ | ⟨blk, off, cap, rfl, _⟩
  · exact ⟨p, cap, rfl⟩
  · exact ⟨_, _, rfl⟩
theorem IsC.at {w : World} {p : Option Addr} {n cap : Nat} {l : List (BitVec 256)} (h : IsC w (.slice p n cap) l) {k : Nat} {x : BitVec 256} (hk : l[k]? = some x) :
    ∃ blk off, p = .some ⟨blk, off, none⟩ ∧ w.cell? ⟨blk, off + k * 4, none⟩ = some (.int .u64 (wd x 0)) ∧ w.cell? ⟨blk, off + k * 4 + 1, none⟩ = some (.int .u64 (wd x 1)) ∧
    w.cell? ⟨blk, off + k * 4 + 2, none⟩ = some (.int .u64 (wd x 2)) ∧ w.cell? ⟨blk, off + k * 4 + 3, none⟩ = some (.int .u64 (wd x 3)) := by
  rcases h with ⟨rfl, _⟩ | ⟨blk, off, cap, he, hc⟩
  · cases hk
  · simp only [Value.slice.injEq] at he
    exact ⟨blk, off, he.1, hc k x hk 0 _ rfl, hc k x hk 1 _ rfl, hc k x hk 2 _ rfl, hc k x hk 3 _ rfl⟩

/-- do the classes part what is not seen yet? -/
def partB (seen : BitVec 256) : List (BitVec 256) → Bool
  | [] => decide ((mems seen 256).length = 256)
  | c :: l => !decide (c = 0) && (decide (seen &&& c = 0) && partB (seen ||| c) l)
theorem partB_step {l : List (BitVec 256)} {k : Nat} {c : BitVec 256} (h : l[k]? = some c) (seen : BitVec 256) : partB seen (l.drop k) = (!decide (c = 0) && (decide (seen &&& c = 0) && partB (seen ||| c) (l.drop (k + 1)))) := by
  obtain ⟨h1, h2⟩ := List.getElem?_eq_some_iff.1 h
  rw [List.drop_eq_getElem_cons h1, h2]; rfl
theorem blk4 {W : World} {b : Nat} {u0 u1 u2 u3 : Value} {t : TypeId} (h : Blk W b #[u0, u1, u2, u3] t) :
    W.cell? ⟨b, 0, none⟩ = some u0 ∧ W.cell? ⟨b, 1, none⟩ = some u1 ∧ W.cell? ⟨b, 2, none⟩ = some u2 ∧ W.cell? ⟨b, 3, none⟩ = some u3 :=
  ⟨h.cell 0 rfl, h.cell 1 rfl, h.cell 2 rfl, h.cell 3 rfl⟩
set_option maxRecDepth 100000 in
set_option maxHeartbeats 2000000 in
theorem partition_any (p : Option Addr) (cap : Nat) (l : List (BitVec 256)) (w : World) (hv : IsC w (.slice p l.length cap) l) (hl : l.length ≤ 9223372036854775807) :
    Calls Tryd.prog 33 #[.slice p l.length cap] w fun e w' => e = .returned (.bool (partB 0 l)) ∧ Below w.heap.size w w' := by
  have HV := Lib.hid (fun W (hW : Below w.heap.size w W) k x (hk : l[k]? = some x) => (hv.grows hW).at hk)
  clear hv
  go_enter Tryd.func33, Tryd.ntmps33
  go_wp2
  go_loopw [8] (fun i wr => ∃ (k : Nat) (seen : BitVec 256), i = .int .i64 k ∧ k ≤ l.length ∧ Blk wr w.heap.size #[.int .u64 (wd seen 0), .int .u64 (wd seen 1), .int .u64 (wd seen 2), .int .u64 (wd seen 3)] 41 ∧ partB 0 l = partB seen (l.drop k) ∧ Below w.heap.size w wr) (fun i _ => l.length - (RowKit.intOf i).toNat)
  case atStart => exact ⟨0, 0, rfl, Nat.zero_le _, by simp only [wd_zero]; exact Blk.new w _ _, rfl, by go_grown⟩
  case round =>
    obtain ⟨k, seen, rfl, hk, S, hpart, hbw⟩ := hrel
    have HP := Lib.hid hpart
    clear hpart
    by_cases hlt : k < l.length
    · obtain ⟨c, hc⟩ := get_of_lt hlt
      obtain ⟨blk, off, rfl, a0, a1, a2, a3⟩ := HV.out _ hbw k c hc
      have HS := Lib.hid (partB_step hc seen)
      have C0 := Blk.new wr #[.int .u64 (wd c 0), .int .u64 (wd c 1), .int .u64 (wd c 2), .int .u64 (wd c 3)] 41
      have S0 := S.alloc (.cells #[.int .u64 (wd c 0), .int .u64 (wd c 1), .int .u64 (wd c 2), .int .u64 (wd c 3)] 41)
      obtain ⟨b0, b1, b2, b3⟩ := blk4 C0
      obtain ⟨s0, s1, s2, s3⟩ := blk4 S0
      have hbw0 := hbw.alloc hbw.size (.cells #[.int .u64 (wd c 0), .int .u64 (wd c 1), .int .u64 (wd c 2), .int .u64 (wd c 3)] 41)
      have heq : ∀ W, (Op.equalIn 10000 41 (.agg #[.int .u64 (wd c 0), .int .u64 (wd c 1), .int .u64 (wd c 2), .int .u64 (wd c 3)]) (.agg #[.int .u64 0, .int .u64 0, .int .u64 0, .int .u64 0])).run Tryd.prog W = .ok (decide (c = 0)) W := fun W => eq_cls0 c W
      have hne : ∀ W, (Op.equalIn 10000 41 (.agg #[.int .u64 (wd (seen &&& c) 0), .int .u64 (wd (seen &&& c) 1), .int .u64 (wd (seen &&& c) 2), .int .u64 (wd (seen &&& c) 3)]) (.agg #[.int .u64 0, .int .u64 0, .int .u64 0, .int .u64 0])).run Tryd.prog W = .ok (decide (seen &&& c = 0)) W := fun W => eq_cls0 (seen &&& c) W
      have HI := Lib.hid (fun W => intersect_any seen c W)
      have HU := Lib.hid (fun W => union_any seen c W)
      clear hc
      have hsz := S.lt
      cases h0 : decide (c = 0)
      · rw [h0] at heq HS
        cases h1 : decide (seen &&& c = 0)
        · rw [h1] at hne HS
          have HF := Lib.hid (show false = partB 0 l by rw [HP.out, HS.out]; rfl)
          clear h0 h1 HS HP
          generalize seen &&& c = q at hne HI
          go_wp2_with (go_at_call 40; ((with_reducible refine (HI.out _).mono ?_)); rintro e w1 ⟨rfl, hb1⟩)
          go_ret
          exact ⟨ret_bool HF.out, below_two hbw0 hb1⟩
        · rw [h1] at hne HS
          have HF := Lib.hid (show partB 0 l = partB (seen ||| c) (l.drop (k + 1)) by rw [HP.out, HS.out]; rfl)
          clear h0 h1 HS HP
          generalize seen &&& c = q at hne HI
          generalize seen ||| c = r at HU HF
          go_wp2_with (first
            | (go_at_call 40; ((with_reducible refine (HI.out _).mono ?_)); rintro e w1 ⟨rfl, hb1⟩; have S1 := S0.grows hb1; have C1 := C0.grows hb1; obtain ⟨t0, t1, t2, t3⟩ := blk4 S1; obtain ⟨d0, d1, d2, d3⟩ := blk4 C1)
            | (go_at_call 41; ((with_reducible refine (HU.out _).mono ?_)); rintro e w2 ⟨rfl, hb2⟩; have S2 := S1.grows hb2; obtain ⟨x0, x1, x2, x3⟩ := blk4 S2; have f0 := S2.free 0; have f1 := S2.free 1; have f2 := S2.free 2; have f3 := S2.free 3))
          go_roundw
          case rel => exact ⟨k + 1, r, by go_num, by omega, S2.set4 _ _ _ _, HF.out, below_set4 (below_two (below_two hbw0 hb1) hb2) (Nat.le_refl _) _ _ _ _⟩
          case measure => simp [RowKit.intOf]; omega
      · rw [h0] at heq HS
        have HF := Lib.hid (show false = partB 0 l by rw [HP.out, HS.out]; rfl)
        clear h0 HS HP hne HI HU
        go_wp2
        go_ret
        exact ⟨ret_bool HF.out, hbw0⟩
    · obtain rfl : k = l.length := by omega
      have HF := Lib.hid (show decide ((mems seen 256).length = 256) = partB 0 l by rw [HP.out, List.drop_length]; rfl)
      have HZ := Lib.hid (fun W => size_any seen W)
      obtain ⟨s0, s1, s2, s3⟩ := blk4 S
      have hml := mems_len seen 256
      clear HP
      generalize (mems seen 256).length = m at HF HZ hml
      by_cases hm : m = 256
      · subst hm
        have HF2 := Lib.hid (show true = partB 0 l from HF.out)
        clear HF
        go_wp2_with (go_at_call 42; ((with_reducible refine (HZ.out _).mono ?_)); rintro e w1 ⟨rfl, hb1⟩)
        go_ret
        exact ⟨ret_bool HF2.out, below_two hbw hb1⟩
      · have HF2 := Lib.hid (show false = partB 0 l by rw [← HF.out, decide_eq_false hm])
        have hmi : ((m : Int) == 256) = false := by rw [beq_eq_false_iff_ne]; omega
        clear HF
        go_wp2_with (go_at_call 42; ((with_reducible refine (HZ.out _).mono ?_)); rintro e w1 ⟨rfl, hb1⟩)
        go_ret
        exact ⟨ret_bool HF2.out, below_two hbw hb1⟩
end Go.Proofs.YtepncbbegpeilaaDoor
