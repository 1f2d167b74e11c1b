/-
  Texts of the proof, one behind another: Dp, Rm, Dv, At, Cw.
-/
import Derived.Test.YtkhphiilnplgjaaGreatDoorQbe
import Derived.Test.YtkhphiilnplgjaaGreatDoorQbi
import Derived.Test.YtkhphiilnplgjaaGreatDoorQba
import Derived.Test.YtkhphiilnplgjaaGreatDoorQac
set_option linter.unusedSimpArgs false
set_option linter.unusedVariables false
namespace Go.Proofs.YtkhphiilnplgjaaGreatDoor
open Go.RowKit Go.Lib

/-- a class's four cells. -/
def encC (x : BitVec 256) : List Value := [.int .u64 (wd x 0), .int .u64 (wd x 1), .int .u64 (wd x 2), .int .u64 (wd x 3)]
/-- these classes stand one behind the other from there on. -/
def ReadsC (w : World) (blk off : Nat) (l : List (BitVec 256)) : Prop := ∀ (j : Nat) (x : BitVec 256), l[j]? = some x → ∀ (i : Nat) (v : Value), (encC x)[i]? = some v → w.cell? ⟨blk, off + j * 4 + i, none⟩ = some v
/-- the value is a slice that reads as these classes. -/
def IsC (w : World) (v : Value) (l : List (BitVec 256)) : Prop :=
  (l = [] ∧ ∃ p cap, v = .slice p 0 cap) ∨ ∃ blk off cap, v = .slice (some ⟨blk, off, none⟩) l.length cap ∧ ReadsC w blk off l
theorem IsC.kept {w w' : World} {v : Value} {l : List (BitVec 256)} (h : IsC w v l) (hk : ∀ a u, w.cell? a = some u → w'.cell? a = some u) : IsC w' v l := by
  rcases h with h | ⟨blk, off, cap, rfl, h⟩
  · exact .inl h
  · exact .inr ⟨blk, off, cap, rfl, fun j x hj i v hi => hk _ _ (h j x hj i v hi)⟩
theorem IsC.grows {w w' : World} {v : Value} {l : List (BitVec 256)} (h : IsC w v l) (hb : Below w.heap.size w w') : IsC w' v l :=
  h.kept fun _ _ hc => (hb.cell (lt_of_cell hc)).trans hc
theorem IsC.shape {w : World} {v : Value} {l : List (BitVec 256)} (h : IsC w v l) : ∃ p cap, v = .slice p l.length cap := by
  rcases h with ⟨rfl, p, cap, rfl⟩ | ⟨blk, off, cap, rfl, _⟩
  · exact ⟨p, cap, rfl⟩
  · exact ⟨_, _, rfl⟩
theorem IsC.at {w : World} {p : Option Addr} {n cap : Nat} {l : List (BitVec 256)} (h : IsC w (.slice p n cap) l) {k : Nat} {x : BitVec 256} (hk : l[k]? = some x) :
    ∃ blk off, p = .some ⟨blk, off, none⟩ ∧ w.cell? ⟨blk, off + k * 4, none⟩ = some (.int .u64 (wd x 0)) ∧ w.cell? ⟨blk, off + k * 4 + 1, none⟩ = some (.int .u64 (wd x 1)) ∧
    w.cell? ⟨blk, off + k * 4 + 2, none⟩ = some (.int .u64 (wd x 2)) ∧ w.cell? ⟨blk, off + k * 4 + 3, none⟩ = some (.int .u64 (wd x 3)) := by
  rcases h with ⟨rfl, _⟩ | ⟨blk, off, cap, he, hc⟩
  · cases hk
  · simp only [Value.slice.injEq] at he
    exact ⟨blk, off, he.1, hc k x hk 0 _ rfl, hc k x hk 1 _ rfl, hc k x hk 2 _ rfl, hc k x hk 3 _ rfl⟩

/-- do the classes part what is not seen yet? -/
def partB (seen : BitVec 256) : List (BitVec 256) → Bool
  | [] => decide ((mems seen 256).length = 256)
  | c :: l => !decide (c = 0) && (decide (seen &&& c = 0) && partB (seen ||| c) l)
theorem partB_step {l : List (BitVec 256)} {k : Nat} {c : BitVec 256} (h : l[k]? = some c) (seen : BitVec 256) : partB seen (l.drop k) = (!decide (c = 0) && (decide (seen &&& c = 0) && partB (seen ||| c) (l.drop (k + 1)))) := by
  obtain ⟨h1, h2⟩ := List.getElem?_eq_some_iff.1 h
  rw [List.drop_eq_getElem_cons h1, h2]; rfl
theorem blk4 {W : World} {b : Nat} {u0 u1 u2 u3 : Value} {t : TypeId} (h : Blk W b #[u0, u1, u2, u3] t) :
    W.cell? ⟨b, 0, none⟩ = some u0 ∧ W.cell? ⟨b, 1, none⟩ = some u1 ∧ W.cell? ⟨b, 2, none⟩ = some u2 ∧ W.cell? ⟨b, 3, none⟩ = some u3 :=
  ⟨h.cell 0 rfl, h.cell 1 rfl, h.cell 2 rfl, h.cell 3 rfl⟩
set_option maxRecDepth 100000 in
set_option maxHeartbeats 2000000 in
theorem partition_any (p : Option Addr) (cap : Nat) (l : List (BitVec 256)) (w : World) (hv : IsC w (.slice p l.length cap) l) (hl : l.length ≤ 9223372036854775807) :
    Calls Tryz.prog 53 #[.slice p l.length cap] w fun e w' => e = .returned (.bool (partB 0 l)) ∧ Below w.heap.size w w' := by
  have HV := Lib.hid (fun W (hW : Below w.heap.size w W) k x (hk : l[k]? = some x) => (hv.grows hW).at hk)
  clear hv
  go_enter Tryz.func53, Tryz.ntmps53
  go_wp2
  go_loopw [8] (fun i wr => ∃ (k : Nat) (seen : BitVec 256), i = .int .i64 k ∧ k ≤ l.length ∧ Blk wr w.heap.size #[.int .u64 (wd seen 0), .int .u64 (wd seen 1), .int .u64 (wd seen 2), .int .u64 (wd seen 3)] 27 ∧ partB 0 l = partB seen (l.drop k) ∧ Below w.heap.size w wr) (fun i _ => l.length - (RowKit.intOf i).toNat)
  case atStart => exact ⟨0, 0, rfl, Nat.zero_le _, by simp only [wd_zero]; exact Blk.new w _ _, rfl, by go_grown⟩
  case round =>
    obtain ⟨k, seen, rfl, hk, S, hpart, hbw⟩ := hrel
    have HP := Lib.hid hpart
    clear hpart
    by_cases hlt : k < l.length
    · obtain ⟨c, hc⟩ := get_of_lt hlt
      obtain ⟨blk, off, rfl, a0, a1, a2, a3⟩ := HV.out _ hbw k c hc
      have HS := Lib.hid (partB_step hc seen)
      have C0 := Blk.new wr #[.int .u64 (wd c 0), .int .u64 (wd c 1), .int .u64 (wd c 2), .int .u64 (wd c 3)] 27
      have S0 := S.alloc (.cells #[.int .u64 (wd c 0), .int .u64 (wd c 1), .int .u64 (wd c 2), .int .u64 (wd c 3)] 27)
      obtain ⟨b0, b1, b2, b3⟩ := blk4 C0
      obtain ⟨s0, s1, s2, s3⟩ := blk4 S0
      have hbw0 := hbw.alloc hbw.size (.cells #[.int .u64 (wd c 0), .int .u64 (wd c 1), .int .u64 (wd c 2), .int .u64 (wd c 3)] 27)
      have heq : ∀ W, (Op.equalIn 10000 27 (.agg #[.int .u64 (wd c 0), .int .u64 (wd c 1), .int .u64 (wd c 2), .int .u64 (wd c 3)]) (.agg #[.int .u64 0, .int .u64 0, .int .u64 0, .int .u64 0])).run Tryz.prog W = .ok (decide (c = 0)) W := fun W => eq_cls0 c W
      have hne : ∀ W, (Op.equalIn 10000 27 (.agg #[.int .u64 (wd (seen &&& c) 0), .int .u64 (wd (seen &&& c) 1), .int .u64 (wd (seen &&& c) 2), .int .u64 (wd (seen &&& c) 3)]) (.agg #[.int .u64 0, .int .u64 0, .int .u64 0, .int .u64 0])).run Tryz.prog W = .ok (decide (seen &&& c = 0)) W := fun W => eq_cls0 (seen &&& c) W
      have HI := Lib.hid (fun W => intersect_any seen c W)
      have HU := Lib.hid (fun W => union_any seen c W)
      clear hc
      have hsz := S.lt
      cases h0 : decide (c = 0)
      · rw [h0] at heq HS
        cases h1 : decide (seen &&& c = 0)
        · rw [h1] at hne HS
          have HF := Lib.hid (show false = partB 0 l by rw [HP.out, HS.out]; rfl)
          clear h0 h1 HS HP
          generalize seen &&& c = q at hne HI
          go_wp2_with (go_at_call 74; ((with_reducible refine (HI.out _).mono ?_)); rintro e w1 ⟨rfl, hb1⟩)
          go_ret
          exact ⟨ret_bool HF.out, below_two hbw0 hb1⟩
        · rw [h1] at hne HS
          have HF := Lib.hid (show partB 0 l = partB (seen ||| c) (l.drop (k + 1)) by rw [HP.out, HS.out]; rfl)
          clear h0 h1 HS HP
          generalize seen &&& c = q at hne HI
          generalize seen ||| c = r at HU HF
          go_wp2_with (first
            | (go_at_call 74; ((with_reducible refine (HI.out _).mono ?_)); rintro e w1 ⟨rfl, hb1⟩; have S1 := S0.grows hb1; have C1 := C0.grows hb1; obtain ⟨t0, t1, t2, t3⟩ := blk4 S1; obtain ⟨d0, d1, d2, d3⟩ := blk4 C1)
            | (go_at_call 75; ((with_reducible refine (HU.out _).mono ?_)); rintro e w2 ⟨rfl, hb2⟩; have S2 := S1.grows hb2; obtain ⟨x0, x1, x2, x3⟩ := blk4 S2; have f0 := S2.free 0; have f1 := S2.free 1; have f2 := S2.free 2; have f3 := S2.free 3))
          go_roundw
          case rel => exact ⟨k + 1, r, by go_num, by omega, S2.set4 _ _ _ _, HF.out, below_set4 (below_two (below_two hbw0 hb1) hb2) (Nat.le_refl _) _ _ _ _⟩
          case measure => simp [RowKit.intOf]; omega
      · rw [h0] at heq HS
        have HF := Lib.hid (show false = partB 0 l by rw [HP.out, HS.out]; rfl)
        clear h0 HS HP hne HI HU
        go_wp2
        go_ret
        exact ⟨ret_bool HF.out, hbw0⟩
    · obtain rfl : k = l.length := by omega
      have HF := Lib.hid (show decide ((mems seen 256).length = 256) = partB 0 l by rw [HP.out, List.drop_length]; rfl)
      have HZ := Lib.hid (fun W => size_any seen W)
      obtain ⟨s0, s1, s2, s3⟩ := blk4 S
      have hml := mems_len seen 256
      clear HP
      generalize (mems seen 256).length = m at HF HZ hml
      by_cases hm : m = 256
      · subst hm
        have HF2 := Lib.hid (show true = partB 0 l from HF.out)
        clear HF
        go_wp2_with (go_at_call 76; ((with_reducible refine (HZ.out _).mono ?_)); rintro e w1 ⟨rfl, hb1⟩)
        go_ret
        exact ⟨ret_bool HF2.out, below_two hbw hb1⟩
      · have HF2 := Lib.hid (show false = partB 0 l by rw [← HF.out, decide_eq_false hm])
        have hmi : ((m : Int) == 256) = false := by rw [beq_eq_false_iff_ne]; omega
        clear HF
        go_wp2_with (go_at_call 76; ((with_reducible refine (HZ.out _).mono ?_)); rintro e w1 ⟨rfl, hb1⟩)
        go_ret
        exact ⟨ret_bool HF2.out, below_two hbw hb1⟩
end Go.Proofs.YtkhphiilnplgjaaGreatDoor

namespace Go.Proofs.YtkhphiilnplgjaaGreatDoor

/-- how many of the classes hold the byte. -/
def cntC (l : List (BitVec 256)) (b : Nat) : Nat := (l.filter fun c => mem c b).length
/-- the reference's question: no class is empty, and each byte lies in one of them alone. -/
def rpartB (l : List (BitVec 256)) : Bool := decide (1 ≤ l.length) && (decide (l.length ≤ 256) && ((l.all fun c => !decide (c = 0)) && (List.range 256).all fun b => decide (cntC l b = 1)))
theorem cntC_cons (c : BitVec 256) (l : List (BitVec 256)) (b : Nat) : cntC (c :: l) b = (mem c b).toNat + cntC l b := by
  unfold cntC; rw [List.filter_cons]; cases mem c b <;> simp <;> omega
theorem mem_or (x y : BitVec 256) (b : Nat) : mem (x ||| y) b = (mem x b || mem y b) := by unfold mem; simp
theorem mem_ge (x : BitVec 256) (b : Nat) (h : 256 ≤ b) : mem x b = false := BitVec.getLsbD_of_ge x b h
theorem apart_iff (x y : BitVec 256) : x &&& y = 0 ↔ ∀ b, b < 256 → (mem x b && mem y b) = false := by
  constructor
  · intro h b _
    have := congrArg (fun z => z.getLsbD b) h
    simpa [mem] using this
  · intro h
    apply BitVec.eq_of_getLsbD_eq
    intro i hi
    have := h i hi
    simpa [mem] using this
theorem all_iff (x : BitVec 256) : (mems x 256).length = 256 ↔ ∀ b, b < 256 → mem x b = true := by
  unfold mems
  rw [List.length_map]
  have key : ((List.range 256).filter (mem x)).length = (List.range 256).length ↔ ∀ b ∈ List.range 256, mem x b = true := by
    rw [← List.countP_eq_length_filter, List.countP_eq_length]
  rw [List.length_range] at key
  rw [key]
  simp only [List.mem_range]
theorem partB_iff : ∀ (l : List (BitVec 256)) (seen : BitVec 256), partB seen l = true ↔ (∀ c ∈ l, c ≠ 0) ∧ ∀ b, b < 256 → (mem seen b).toNat + cntC l b = 1
  | [], seen => by
    unfold partB
    rw [decide_eq_true_iff, all_iff]
    constructor
    · intro h; exact ⟨by simp, fun b hb => by rw [h b hb]; rfl⟩
    · rintro ⟨_, h⟩ b hb
      have := h b hb
      cases hm : mem seen b
      · rw [hm] at this; simp [cntC] at this
      · rfl
  | c :: l, seen => by
    unfold partB
    rw [Bool.and_eq_true, Bool.and_eq_true, partB_iff l, Bool.not_eq_true', decide_eq_false_iff_not, decide_eq_true_iff, apart_iff]
    constructor
    · rintro ⟨h0, h1, h2, h3⟩
      refine ⟨fun d hd => ?_, fun b hb => ?_⟩
      · rcases List.mem_cons.1 hd with rfl | hd
        · exact h0
        · exact h2 d hd
      · have e1 := h1 b hb
        have e3 := h3 b hb
        rw [mem_or] at e3
        rw [cntC_cons]
        cases hs : mem seen b <;> cases hc : mem c b <;> rw [hs, hc] at e1 e3 <;> simp at e1 e3 ⊢ <;> omega
    · rintro ⟨h0, h1⟩
      refine ⟨h0 c (by simp), fun b hb => ?_, fun d hd => h0 d (by simp [hd]), fun b hb => ?_⟩
      · have := h1 b hb
        rw [cntC_cons] at this
        cases hs : mem seen b <;> cases hc : mem c b <;> rw [hs, hc] at this <;> simp at this ⊢
      · have := h1 b hb
        rw [cntC_cons] at this
        rw [mem_or]
        cases hs : mem seen b <;> cases hc : mem c b <;> rw [hs, hc] at this <;> simp at this ⊢ <;> omega
theorem filter_grow (p q : Nat → Bool) (hpq : ∀ b, p b = true → q b = true) (x : Nat) (hx : q x = true) (hx' : p x = false) : ∀ (l : List Nat), x ∈ l → (l.filter p).length + 1 ≤ (l.filter q).length
  | [], h => by simp at h
  | y :: l, h => by
    have hle : ∀ l : List Nat, (l.filter p).length ≤ (l.filter q).length := by
      intro l
      induction l with
      | nil => simp
      | cons z l ih =>
        rw [List.filter_cons, List.filter_cons]
        cases hp : p z
        · cases hq : q z <;> simp <;> omega
        · rw [hpq z hp]; simp; omega
    rw [List.filter_cons, List.filter_cons]
    by_cases e : x = y
    · subst e
      rw [hx, hx']
      have := hle l
      simp; omega
    · have ih := filter_grow p q hpq x hx hx' l (by rcases List.mem_cons.1 h with h | h; exact absurd h e; exact h)
      cases hp : p y
      · cases hq : q y <;> simp <;> omega
      · rw [hpq y hp]; simp; omega
theorem partB_len : ∀ (l : List (BitVec 256)) (seen : BitVec 256), partB seen l = true → l.length + ((List.range 256).filter (mem seen)).length ≤ 256
  | [], seen, _ => by have := List.length_filter_le (mem seen) (List.range 256); simp at this ⊢; exact this
  | c :: l, seen, h => by
    unfold partB at h
    rw [Bool.and_eq_true, Bool.and_eq_true, Bool.not_eq_true', decide_eq_false_iff_not, decide_eq_true_iff, apart_iff] at h
    obtain ⟨h0, h1, h2⟩ := h
    have ih := partB_len l _ h2
    have hx : ∃ x, x < 256 ∧ mem c x = true := by
      by_cases hx : ∃ x, x < 256 ∧ mem c x = true
      · exact hx
      · exfalso; apply h0
        apply BitVec.eq_of_getLsbD_eq
        intro i hi
        cases hm : c.getLsbD i
        · simp
        · exact absurd ⟨i, hi, hm⟩ hx
    obtain ⟨x, hx, hxc⟩ := hx
    have hxs : mem seen x = false := by have := h1 x hx; rw [hxc] at this; simpa using this
    have key := filter_grow (mem seen) (mem (seen ||| c)) (fun b hb => by rw [mem_or, hb]; rfl) x (by rw [mem_or, hxc]; simp) hxs (List.range 256) (List.mem_range.2 hx)
    rw [List.length_cons]; omega
theorem rpartB_eq (l : List (BitVec 256)) : rpartB l = partB 0 l := by
  rw [Bool.eq_iff_iff, partB_iff]
  unfold rpartB
  simp only [Bool.and_eq_true, decide_eq_true_iff, List.all_eq_true, Bool.not_eq_true', decide_eq_false_iff_not, List.mem_range]
  have z : ∀ b, (mem 0 b).toNat = 0 := fun b => by simp [mem]
  constructor
  · rintro ⟨_, _, h1, h2⟩
    exact ⟨h1, fun b hb => by rw [z, h2 b hb]⟩
  · rintro ⟨h1, h2⟩
    have hp : partB 0 l = true := (partB_iff l 0).2 ⟨h1, h2⟩
    have hl := partB_len l 0 hp
    refine ⟨?_, by omega, h1, fun b hb => by have := h2 b hb; rw [z] at this; omega⟩
    cases l with
    | nil => have := h2 0 (by decide); rw [z] at this; simp [cntC] at this
    | cons c l => simp
end Go.Proofs.YtkhphiilnplgjaaGreatDoor

namespace Go.Proofs.YtkhphiilnplgjaaGreatDoor
open Go.RowKit Go.Lib

/-- the value is a slice that reads as these integers. -/
def IsI (w : World) (v : Value) (l : List Int) : Prop :=
  (l = [] ∧ ∃ p cap, v = .slice p 0 cap) ∨ ∃ blk off cap, v = .slice (some ⟨blk, off, none⟩) l.length cap ∧ ∀ (j : Nat) (x : Int), l[j]? = some x → w.cell? ⟨blk, off + j, none⟩ = some (.int .i64 x)
theorem IsI.kept {w w' : World} {v : Value} {l : List Int} (h : IsI w v l) (hk : ∀ a u, w.cell? a = some u → w'.cell? a = some u) : IsI w' v l := by
  rcases h with h | ⟨blk, off, cap, rfl, h⟩
  · exact .inl h
  · exact .inr ⟨blk, off, cap, rfl, fun j x hj => hk _ _ (h j x hj)⟩
theorem IsI.grows {w w' : World} {v : Value} {l : List Int} (h : IsI w v l) (hb : Below w.heap.size w w') : IsI w' v l :=
  h.kept fun _ _ hc => (hb.cell (lt_of_cell hc)).trans hc
theorem IsI.at {w : World} {p : Option Addr} {n cap : Nat} {l : List Int} (h : IsI w (.slice p n cap) l) {k : Nat} {x : Int} (hk : l[k]? = some x) :
    ∃ blk off, p = .some ⟨blk, off, none⟩ ∧ w.cell? ⟨blk, off + k, none⟩ = .some (.int .i64 x) := by
  rcases h with ⟨rfl, _⟩ | ⟨blk, off, cap, he, hc⟩
  · cases hk
  · simp only [Value.slice.injEq] at he
    exact ⟨blk, off, he.1, hc k x hk⟩
/-- the value is a slice of slices that read as these rows. -/
def IsM (w : World) (v : Value) (l : List (List Int)) : Prop :=
  (l = [] ∧ ∃ p cap, v = .slice p 0 cap) ∨ ∃ blk off cap, v = .slice (some ⟨blk, off, none⟩) l.length cap ∧ ∀ (j : Nat) (r : List Int), l[j]? = some r → ∃ p c, w.cell? ⟨blk, off + j, none⟩ = some (.slice p r.length c) ∧ IsI w (.slice p r.length c) r
theorem IsM.kept {w w' : World} {v : Value} {l : List (List Int)} (h : IsM w v l) (hk : ∀ a u, w.cell? a = some u → w'.cell? a = some u) : IsM w' v l := by
  rcases h with h | ⟨blk, off, cap, rfl, h⟩
  · exact .inl h
  · refine .inr ⟨blk, off, cap, rfl, fun j r hj => ?_⟩
    obtain ⟨p, c, h1, h2⟩ := h j r hj
    exact ⟨p, c, hk _ _ h1, h2.kept hk⟩
theorem IsM.grows {w w' : World} {v : Value} {l : List (List Int)} (h : IsM w v l) (hb : Below w.heap.size w w') : IsM w' v l :=
  h.kept fun _ _ hc => (hb.cell (lt_of_cell hc)).trans hc
theorem IsM.shape {w : World} {v : Value} {l : List (List Int)} (h : IsM w v l) : ∃ p cap, v = .slice p l.length cap := by
  rcases h with ⟨rfl, p, cap, rfl⟩ | ⟨blk, off, cap, rfl, _⟩
  · exact ⟨p, cap, rfl⟩
  · exact ⟨_, _, rfl⟩
theorem IsM.at {w : World} {p : Option Addr} {n cap : Nat} {l : List (List Int)} (h : IsM w (.slice p n cap) l) {k : Nat} {r : List Int} (hk : l[k]? = some r) :
    ∃ blk off q c, p = .some ⟨blk, off, none⟩ ∧ w.cell? ⟨blk, off + k, none⟩ = .some (.slice q r.length c) ∧ IsI w (.slice q r.length c) r := by
  rcases h with ⟨rfl, _⟩ | ⟨blk, off, cap, he, hc⟩
  · cases hk
  · simp only [Value.slice.injEq] at he
    obtain ⟨q, c, h1, h2⟩ := hc k r hk
    exact ⟨blk, off, q, c, he.1, h1, h2⟩
/-- the value is an automaton of these classes, rows and marks. -/
def IsD (w : World) (v : Value) (cls : List (BitVec 256)) (next : List (List Int)) (acc : List Bool) : Prop :=
  ∃ vc vn va, v = .agg #[vc, vn, va] ∧ IsC w vc cls ∧ IsM w vn next ∧ IsB w va acc
theorem IsD.grows {w w' : World} {v : Value} {cls : List (BitVec 256)} {next : List (List Int)} {acc : List Bool} (h : IsD w v cls next acc) (hb : Below w.heap.size w w') : IsD w' v cls next acc := by
  obtain ⟨vc, vn, va, rfl, h1, h2, h3⟩ := h
  exact ⟨vc, vn, va, rfl, h1.grows hb, h2.grows hb, h3.grows hb⟩
theorem IsD.shape {w : World} {v : Value} {cls : List (BitVec 256)} {next : List (List Int)} {acc : List Bool} (h : IsD w v cls next acc) :
    ∃ pc kc pn kn pa ka, v = .agg #[.slice pc cls.length kc, .slice pn next.length kn, .slice pa acc.length ka] ∧ IsC w (.slice pc cls.length kc) cls ∧ IsM w (.slice pn next.length kn) next ∧ IsB w (.slice pa acc.length ka) acc := by
  obtain ⟨vc, vn, va, rfl, h1, h2, h3⟩ := h
  obtain ⟨pc, kc, rfl⟩ := h1.shape
  obtain ⟨pn, kn, rfl⟩ := h2.shape
  obtain ⟨pa, ka, rfl⟩ := h3.shape
  exact ⟨pc, kc, pn, kn, pa, ka, rfl, h1, h2, h3⟩
def okTo (n : Nat) (t : Int) : Prop := 0 ≤ t ∧ t < n
def okRow (n m : Nat) (r : List Int) : Prop := r.length = m ∧ ∀ t ∈ r, okTo n t
/-- the automaton is valid. -/
def OkD (cls : List (BitVec 256)) (next : List (List Int)) (acc : List Bool) : Prop :=
  partB 0 cls = true ∧ 1 ≤ next.length ∧ next.length ≤ 64 ∧ acc.length = next.length ∧ ∀ r ∈ next, okRow next.length cls.length r
/-- is the automaton valid? -/
def validD (cls : List (BitVec 256)) (next : List (List Int)) (acc : List Bool) : Bool :=
  partB 0 cls && (decide (1 ≤ next.length) && (decide (next.length ≤ 64) && (decide (acc.length = next.length) && next.all fun r => decide (r.length = cls.length) && r.all fun t => decide (0 ≤ t) && decide (t < (next.length : Int)))))
theorem validD_iff {cls : List (BitVec 256)} {next : List (List Int)} {acc : List Bool} : validD cls next acc = true ↔ OkD cls next acc := by
  unfold validD OkD okRow okTo
  simp only [Bool.and_eq_true, decide_eq_true_eq, List.all_eq_true]
theorem validD_yes {cls : List (BitVec 256)} {next : List (List Int)} {acc : List Bool} (h : OkD cls next acc) : true = validD cls next acc := (validD_iff.2 h).symm
theorem validD_no {cls : List (BitVec 256)} {next : List (List Int)} {acc : List Bool} (h : ¬ OkD cls next acc) : false = validD cls next acc := by
  cases hv : validD cls next acc
  · rfl
  · exact absurd (validD_iff.1 hv) h
set_option maxRecDepth 100000 in
set_option maxHeartbeats 2000000 in
theorem dfa_valid_any (v : Value) (cls : List (BitVec 256)) (next : List (List Int)) (acc : List Bool) (w : World) (hv : IsD w v cls next acc) (hc : cls.length ≤ 1152921504606846976) (hn : next.length ≤ 1152921504606846976) (ha : acc.length ≤ 1152921504606846976) (hr : ∀ r ∈ next, r.length ≤ 1152921504606846976) :
    Calls Tryz.prog 42 #[v] w fun e w' => e = .returned (.bool (validD cls next acc)) ∧ Below w.heap.size w w' := by
  obtain ⟨pc, kc, pn, kn, pa, ka, rfl, h1, h2, h3⟩ := hv.shape
  have HPt := Lib.hid (fun W (hW : Below w.heap.size w W) => partition_any pc kc cls W (h1.grows hW) (by omega))
  have HM := Lib.hid (fun W (hW : Below w.heap.size w W) k r (hk : next[k]? = some r) => (h2.grows hW).at hk)
  have HRl := Lib.hid hr
  clear hv h1 h2 h3 hr
  have X0 := Blk.new w #[.slice pc cls.length kc, .slice pn next.length kn, .slice pa acc.length ka] 51
  have hbw0 : Below w.heap.size w (w.alloc (.cells #[.slice pc cls.length kc, .slice pn next.length kn, .slice pa acc.length ka] 51)) := by go_grown
  cases hp : partB 0 cls
  · rw [hp] at HPt
    have HF := Lib.hid (validD_no (cls := cls) (next := next) (acc := acc) fun h => by have h1 := h.1; rw [hp] at h1; cases h1)
    clear hp
    go_enter Tryz.func42, Tryz.ntmps42
    go_wp2_with (go_at_call 53; ((with_reducible refine (HPt.out _ hbw0).mono ?_)); rintro e w1 ⟨rfl, hb1⟩)
    go_ret
    exact ⟨ret_bool HF.out, below_two hbw0 hb1⟩
  · rw [hp] at HPt
    by_cases hall : 1 ≤ next.length ∧ next.length ≤ 64 ∧ acc.length = next.length
    · obtain ⟨hn1, hn2, hn3⟩ := hall
      have HY := Lib.hid (fun (h : ∀ r ∈ next, okRow next.length cls.length r) => validD_yes (cls := cls) (acc := acc) ⟨hp, hn1, hn2, hn3, h⟩)
      have HNo := Lib.hid (fun (h : ¬ ∀ r ∈ next, okRow next.length cls.length r) => validD_no (cls := cls) (acc := acc) fun h5 => h h5.2.2.2.2)
      have hne : ((acc.length : Int) != (next.length : Int)) = false := by rw [hn3]; simp
      clear hp hn3
      go_enter Tryz.func42, Tryz.ntmps42
      go_wp2_with (go_at_call 53; ((with_reducible refine (HPt.out _ hbw0).mono ?_)); rintro e w1 ⟨rfl, hb1⟩; have X1 := X0.grows hb1; have x0 := X1.cell 0 rfl; have x1 := X1.cell 1 rfl; have x2 := X1.cell 2 rfl; have hbw1 := below_two hbw0 hb1)
      clear HPt X0 hbw0 hb1 x0 x1 x2
      go_loopw [33] (fun i wr => ∃ k : Nat, i = .int .i64 k ∧ k ≤ next.length ∧ (∀ (j : Nat) r, j < k → next[j]? = some r → okRow next.length cls.length r) ∧ Blk wr w.heap.size #[.slice pc cls.length kc, .slice pn next.length kn, .slice pa acc.length ka] 51 ∧ Below w.heap.size w wr) (fun i _ => next.length - (RowKit.intOf i).toNat)
      case atStart => exact ⟨0, rfl, Nat.zero_le _, fun j r h => by omega, X1, hbw1⟩
      case round =>
        clear X1 hbw1
        obtain ⟨k, rfl, hk, hok, X, hbw⟩ := hrel
        have HOk := Lib.hid hok
        clear hok
        have x0 := X.cell 0 rfl
        have x1 := X.cell 1 rfl
        by_cases hlt : k < next.length
        · obtain ⟨r, hr⟩ := get_of_lt hlt
          obtain ⟨blk, off, q, qc, rfl, hcell, hI⟩ := HM.out _ hbw k r hr
          have hrl := HRl.out r (List.mem_of_getElem? hr)
          have HI := Lib.hid (fun W (hW : Below wr.heap.size wr W) j x (hj : r[j]? = some x) => (hI.grows hW).at hj)
          have HRr := Lib.hid hr
          clear hI hr
          by_cases hlen : r.length = cls.length
          · have hle : (r.length : Int) = (cls.length : Int) := by omega
            have HLe := Lib.hid hlen
            have hne : ((r.length : Int) != (cls.length : Int)) = false := by rw [hle]; simp
            clear hlen hle
            go_wp2
            go_loop [45] (fun i => ∃ j : Nat, i = .int .i64 j ∧ j ≤ r.length ∧ (∀ (t : Nat) x, t < j → r[t]? = some x → okTo next.length x)) (fun i => r.length - (RowKit.intOf i).toNat)
            case atStart => exact ⟨0, rfl, Nat.zero_le _, fun t x h => by omega⟩
            case round =>
              obtain ⟨j, rfl, hj, hok⟩ := hrel
              have HOj := Lib.hid hok
              clear hok
              by_cases hjl : j < r.length
              · obtain ⟨x, hx⟩ := get_of_lt hjl
                obtain ⟨blk', off', rfl, hcx⟩ := HI.out _ (Below.refl _ _) j x hx
                by_cases hto : 0 ≤ x ∧ x < next.length
                · obtain ⟨hx0, hx1⟩ := hto
                  have HN := Lib.hid (show ∀ (t : Nat) y, t < j + 1 → r[t]? = some y → okTo next.length y from fun t y ht hy => by
                    rcases Nat.lt_or_ge t j with h | h
                    · exact HOj.out t y h hy
                    · obtain rfl : t = j := by omega
                      rw [hx] at hy; cases hy; exact ⟨hx0, hx1⟩)
                  clear hx HOj
                  go_wp2
                  go_round
                  case rel => exact ⟨j + 1, by go_num, by omega, HN.out⟩
                  case measure => simp [RowKit.intOf]; omega
                · have HF := Lib.hid (HNo.out fun hall => hto ((hall r (List.mem_of_getElem? HRr.out)).2 x (List.mem_of_getElem? hx)))
                  have hto2 : x < 0 ∨ (0 ≤ x ∧ (next.length : Int) ≤ x) := by omega
                  clear hx HOj hto
                  rcases hto2 with h | ⟨h, h'⟩
                  all_goals
                    go_wp2
                    go_ret
                    exact ⟨ret_bool HF.out, hbw⟩
              · obtain rfl : j = r.length := by omega
                have HN := Lib.hid (show ∀ (t : Nat) y, t < k + 1 → next[t]? = some y → okRow next.length cls.length y from fun t y ht hy => by
                  rcases Nat.lt_or_ge t k with h | h
                  · exact HOk.out t y h hy
                  · obtain rfl : t = k := by omega
                    rw [HRr.out] at hy; cases hy
                    refine ⟨HLe.out, fun x hx => ?_⟩
                    obtain ⟨u, hu, hu2⟩ := List.getElem_of_mem hx
                    exact HOj.out u x hu (by rw [List.getElem?_eq_getElem hu, hu2]))
                clear HOj HOk
                go_wp2
                go_roundw
                case rel => exact ⟨k + 1, by go_num, by omega, HN.out, X, hbw⟩
                case measure => simp [RowKit.intOf]; omega
          · have HF := Lib.hid (HNo.out fun hall => hlen (hall r (List.mem_of_getElem? HRr.out)).1)
            have hne : ((r.length : Int) != (cls.length : Int)) = true := by rw [bne_iff_ne]; omega
            clear hlen
            go_wp2
            go_ret
            exact ⟨ret_bool HF.out, hbw⟩
        · obtain rfl : k = next.length := by omega
          have HF := Lib.hid (HY.out fun r hr => by
            obtain ⟨u, hu, hu2⟩ := List.getElem_of_mem hr
            exact HOk.out u r hu (by rw [List.getElem?_eq_getElem hu, hu2]))
          clear HOk
          go_wp2
          go_ret
          exact ⟨ret_bool HF.out, hbw⟩
    · have HF := Lib.hid (validD_no (cls := cls) (next := next) (acc := acc) fun h => hall ⟨h.2.1, h.2.2.1, h.2.2.2.1⟩)
      have hthree : next.length < 1 ∨ (1 ≤ next.length ∧ 64 < next.length) ∨ (1 ≤ next.length ∧ next.length ≤ 64 ∧ acc.length ≠ next.length) := by omega
      clear hp hall
      rcases hthree with h | ⟨h, h'⟩ | ⟨h, h', h''⟩
      case' inr.inr => have hne : ((acc.length : Int) != (next.length : Int)) = true := by rw [bne_iff_ne]; omega
      case' inr.inr => clear h''
      all_goals
        go_enter Tryz.func42, Tryz.ntmps42
        go_wp2_with (go_at_call 53; ((with_reducible refine (HPt.out _ hbw0).mono ?_)); rintro e w1 ⟨rfl, hb1⟩; have X1 := X0.grows hb1; have x0 := X1.cell 0 rfl; have x1 := X1.cell 1 rfl; have x2 := X1.cell 2 rfl)
        go_ret
        exact ⟨ret_bool HF.out, below_two hbw0 hb1⟩
end Go.Proofs.YtkhphiilnplgjaaGreatDoor

namespace Go.Proofs.YtkhphiilnplgjaaGreatDoor

/-- lexicographic order of words. -/
def lexW : List Nat → List Nat → Prop
  | [], [] => False
  | [], _ :: _ => True
  | _ :: _, [] => False
  | a :: u, b :: v => a < b ∨ (a = b ∧ lexW u v)
/-- the shorter word is less; of equally long ones the first in byte order. -/
def wlt (u v : List Nat) : Prop := u.length < v.length ∨ (u.length = v.length ∧ lexW u v)
theorem lexW_irrefl : ∀ u, ¬ lexW u u
  | [], h => h
  | a :: u, h => by rcases h with h | ⟨_, h⟩; exact absurd h (Nat.lt_irrefl a); exact lexW_irrefl u h
theorem lexW_trans : ∀ u v z, lexW u v → lexW v z → lexW u z
  | [], [], _, h, _ => h.elim
  | [], _ :: _, [], _, h => h.elim
  | [], _ :: _, _ :: _, _, _ => trivial
  | _ :: _, [], _, h, _ => h.elim
  | _ :: _, _ :: _, [], _, h => h.elim
  | a :: u, b :: v, c :: z, h, h' => by
    rcases h with h | ⟨rfl, h⟩
    · rcases h' with h' | ⟨rfl, _⟩
      · exact .inl (Nat.lt_trans h h')
      · exact .inl h
    · rcases h' with h' | ⟨rfl, h'⟩
      · exact .inl h'
      · exact .inr ⟨rfl, lexW_trans u v z h h'⟩
theorem lexW_total : ∀ u v, u.length = v.length → u = v ∨ lexW u v ∨ lexW v u
  | [], [], _ => .inl rfl
  | [], _ :: _, h => by simp at h
  | _ :: _, [], h => by simp at h
  | a :: u, b :: v, h => by
    rcases Nat.lt_trichotomy a b with h1 | rfl | h1
    · exact .inr (.inl (.inl h1))
    · rcases lexW_total u v (by simpa using h) with rfl | h2 | h2
      · exact .inl rfl
      · exact .inr (.inl (.inr ⟨rfl, h2⟩))
      · exact .inr (.inr (.inr ⟨rfl, h2⟩))
    · exact .inr (.inr (.inl h1))
theorem lexW_snoc : ∀ u v x y, u.length = v.length → (lexW (u ++ [x]) (v ++ [y]) ↔ lexW u v ∨ (u = v ∧ x < y))
  | [], [], x, y, _ => by simp [lexW]
  | [], _ :: _, _, _, h => by simp at h
  | _ :: _, [], _, _, h => by simp at h
  | a :: u, b :: v, x, y, h => by
    have ih := lexW_snoc u v x y (by simpa using h)
    simp only [List.cons_append, lexW, ih, List.cons.injEq]
    constructor
    · rintro (h1 | ⟨h1, h2 | ⟨h2, h3⟩⟩)
      · exact .inl (.inl h1)
      · exact .inl (.inr ⟨h1, h2⟩)
      · exact .inr ⟨⟨h1, h2⟩, h3⟩
    · rintro ((h1 | ⟨h1, h2⟩) | ⟨⟨h1, h2⟩, h3⟩)
      · exact .inl h1
      · exact .inr ⟨h1, .inl h2⟩
      · exact .inr ⟨h1, .inr ⟨h2, h3⟩⟩
theorem wlt_irrefl (u : List Nat) : ¬ wlt u u := by rintro (h | ⟨_, h⟩); exact absurd h (Nat.lt_irrefl _); exact lexW_irrefl u h
theorem wlt_trans {u v z : List Nat} (h : wlt u v) (h' : wlt v z) : wlt u z := by
  rcases h with h | ⟨e, h⟩
  · rcases h' with h' | ⟨e', _⟩
    · exact .inl (Nat.lt_trans h h')
    · exact .inl (e' ▸ h)
  · rcases h' with h' | ⟨e', h'⟩
    · exact .inl (e ▸ h')
    · exact .inr ⟨e.trans e', lexW_trans _ _ _ h h'⟩
theorem wlt_total (u v : List Nat) : u = v ∨ wlt u v ∨ wlt v u := by
  rcases Nat.lt_trichotomy u.length v.length with h | h | h
  · exact .inr (.inl (.inl h))
  · rcases lexW_total u v h with h1 | h1 | h1
    · exact .inl h1
    · exact .inr (.inl (.inr ⟨h, h1⟩))
    · exact .inr (.inr (.inr ⟨h.symm, h1⟩))
  · exact .inr (.inr (.inl h))
theorem wlt_snoc {u v : List Nat} (h : wlt u v) (x y : Nat) : wlt (u ++ [x]) (v ++ [y]) := by
  rcases h with h | ⟨e, h⟩
  · exact .inl (by simpa using h)
  · exact .inr ⟨by simp [e], (lexW_snoc u v x y e).2 (.inl h)⟩
theorem wlt_last (u : List Nat) {x y : Nat} (h : x < y) : wlt (u ++ [x]) (u ++ [y]) := .inr ⟨by simp, (lexW_snoc u u x y rfl).2 (.inr ⟨rfl, h⟩)⟩
theorem wlt_nil (u : List Nat) (x : Nat) : wlt [] (u ++ [x]) := .inl (by simp)
/-- less or the same. -/
def wle (u v : List Nat) : Prop := u = v ∨ wlt u v
theorem wle_refl (u : List Nat) : wle u u := .inl rfl
theorem wle_trans {u v z : List Nat} (h : wle u v) (h' : wle v z) : wle u z := by
  rcases h with rfl | h
  · exact h'
  · rcases h' with rfl | h'
    · exact .inr h
    · exact .inr (wlt_trans h h')
theorem wle_antisymm {u v : List Nat} (h : wle u v) (h' : wle v u) : u = v := by
  rcases h with rfl | h
  · rfl
  · rcases h' with rfl | h'
    · rfl
    · exact absurd (wlt_trans h h') (wlt_irrefl _)
theorem wle_snoc {u v : List Nat} (h : wle u v) {x y : Nat} (hxy : x ≤ y) : wle (u ++ [x]) (v ++ [y]) := by
  rcases h with rfl | h
  · rcases Nat.lt_or_eq_of_le hxy with h1 | rfl
    · exact .inr (wlt_last u h1)
    · exact .inl rfl
  · exact .inr (wlt_snoc h x y)

/-- all smaller labels occur earlier. -/
def RG (f : Nat → Nat) (n : Nat) : Prop := ∀ b, b < n → ∀ k, k < f b → ∃ a, a < b ∧ f a = k
theorem RG.unique {f g : Nat → Nat} {n : Nat} (hf : RG f n) (hg : RG g n) (h : ∀ a b, a < n → b < n → (f a = f b ↔ g a = g b)) : ∀ b, b < n → f b = g b := by
  intro b
  induction b using Nat.strongRecOn with
  | _ b ih =>
    intro hb
    by_cases hx : ∃ a, a < b ∧ f a = f b
    · obtain ⟨a, ha, e⟩ := hx
      rw [← e, ih a ha (by omega)]
      exact (h a b (by omega) hb).1 e
    · rcases Nat.lt_trichotomy (f b) (g b) with h1 | h1 | h1
      · obtain ⟨a, ha, e⟩ := hg b hb _ h1
        exact absurd ⟨a, ha, (ih a ha (by omega)).trans e⟩ hx
      · exact h1
      · obtain ⟨a, ha, e⟩ := hf b hb _ h1
        have e2 := (ih a ha (by omega)).symm.trans e
        exact absurd ⟨a, ha, (h a b (by omega) hb).2 e2⟩ hx
/-- labels that grow so are all used below the greatest. -/
theorem RG.onto {f : Nat → Nat} {n : Nat} (hf : RG f n) {b : Nat} (hb : b < n) {k : Nat} (hk : k ≤ f b) : ∃ a, a ≤ b ∧ f a = k := by
  rcases Nat.lt_or_eq_of_le hk with h | h
  · obtain ⟨a, ha, e⟩ := hf b hb k h; exact ⟨a, by omega, e⟩
  · exact ⟨b, Nat.le_refl _, h.symm⟩
/-- the states after a word. -/
def runW (d : Nat → Nat → Nat) (s : Nat) (u : List Nat) : Nat := u.foldl d s
theorem runW_snoc (d : Nat → Nat → Nat) (s : Nat) (u : List Nat) (x : Nat) : runW d s (u ++ [x]) = d (runW d s u) x := by unfold runW; rw [List.foldl_append]; rfl
def Bytes (u : List Nat) : Prop := ∀ b ∈ u, b < 256
theorem bytes_snoc {u : List Nat} {x : Nat} : Bytes (u ++ [x]) ↔ Bytes u ∧ x < 256 := by
  unfold Bytes
  constructor
  · intro h; exact ⟨fun b hb => h b (by simp [hb]), h x (by simp)⟩
  · rintro ⟨h1, h2⟩ b hb
    rcases List.mem_append.1 hb with hb | hb
    · exact h1 b hb
    · simp at hb; omega
theorem snoc_ind {P : List Nat → Prop} (h0 : P []) (h1 : ∀ u x, P u → P (u ++ [x])) (u : List Nat) : P u := by
  have key : ∀ v : List Nat, P v.reverse := by
    intro v
    induction v with
    | nil => exact h0
    | cons a v ih => rw [List.reverse_cons]; exact h1 _ _ ih
  have := key u.reverse
  rwa [List.reverse_reverse] at this
/-- the words by which a search reaches the numbered states: state 0 by the empty one. -/
def wordOf (fr : Nat → Nat × Nat) (lb : Nat → Nat) (j : Nat) : List Nat := if h : (fr j).1 < j then wordOf fr lb (fr j).1 ++ [lb (fr j).2] else []
termination_by j
theorem wordOf_zero (fr : Nat → Nat × Nat) (lb : Nat → Nat) : wordOf fr lb 0 = [] := by
  rw [wordOf, dif_neg (by omega)]
theorem wordOf_step {fr : Nat → Nat × Nat} {lb : Nat → Nat} {j : Nat} (h : (fr j).1 < j) : wordOf fr lb j = wordOf fr lb (fr j).1 ++ [lb (fr j).2] := by
  rw [wordOf, dif_pos h]
/-- col gives each byte its cell, lb each cell its least byte. -/
structure Cellular (m : Nat) (col lb : Nat → Nat) : Prop where
  lt : ∀ b, b < 256 → col b < m
  byte : ∀ c, c < m → lb c < 256
  back : ∀ c, c < m → col (lb c) = c
  least : ∀ b, b < 256 → lb (col b) ≤ b
  mono : ∀ c c', c < c' → c' < m → lb c < lb c'
theorem Cellular.rg {m : Nat} {col lb : Nat → Nat} (h : Cellular m col lb) : RG col 256 := by
  intro b hb k hk
  have h1 := h.lt b hb
  have h2 := h.mono k (col b) hk h1
  have h3 := h.least b hb
  exact ⟨lb k, by omega, h.back k (by omega)⟩
/-- what a breadth-first search leaves: n states, their targets by each of m cells, and the state and cell by which each was reached first. -/
structure Bfs (n m : Nat) (nx : Nat → Nat → Nat) (fr : Nat → Nat × Nat) : Prop where
  pos : 0 < n
  tgt : ∀ i c, i < n → c < m → nx i c < n
  back : ∀ j, 0 < j → j < n → (fr j).1 < j ∧ (fr j).2 < m ∧ nx (fr j).1 (fr j).2 = j
  first : ∀ j, 0 < j → j < n → ∀ i c, i < n → c < m → nx i c = j → (fr j).1 < i ∨ ((fr j).1 = i ∧ (fr j).2 ≤ c)
  mono : ∀ j k, 0 < j → j < k → k < n → (fr j).1 < (fr k).1 ∨ ((fr j).1 = (fr k).1 ∧ (fr j).2 < (fr k).2)
/-- a machine whose states are numbered in the order of their least words. -/
structure Ordered (n m : Nat) (col : Nat → Nat) (nx : Nat → Nat → Nat) (word : Nat → List Nat) : Prop where
  bytes : ∀ j, j < n → Bytes (word j)
  run : ∀ j, j < n → runW (fun s b => nx s (col b)) 0 (word j) = j
  least : ∀ j, j < n → ∀ u, Bytes u → runW (fun s b => nx s (col b)) 0 u = j → wle (word j) u
  mono : ∀ j k, j < k → k < n → wlt (word j) (word k)
theorem runIn_lt {n m : Nat} {nx : Nat → Nat → Nat} {col : Nat → Nat} (htgt : ∀ i c, i < n → c < m → nx i c < n) (hcol : ∀ b, b < 256 → col b < m) {s : Nat} (hs : s < n) (u : List Nat) : Bytes u → runW (fun s b => nx s (col b)) s u < n := by
  refine snoc_ind (P := fun u => Bytes u → runW (fun s b => nx s (col b)) s u < n) (fun _ => hs) (fun u x ih hb => ?_) u
  rw [bytes_snoc] at hb
  rw [runW_snoc]
  exact htgt _ _ (ih hb.1) (hcol x hb.2)
theorem Bfs.ordered {n m : Nat} {nx : Nat → Nat → Nat} {fr : Nat → Nat × Nat} {col lb : Nat → Nat} (h : Bfs n m nx fr) (hc : Cellular m col lb) : Ordered n m col nx (wordOf fr lb) := by
  have hb : ∀ j, j < n → Bytes (wordOf fr lb j) := by
    intro j
    induction j using Nat.strongRecOn with
    | _ j ih =>
      intro hj
      rcases Nat.eq_zero_or_pos j with rfl | h0
      · rw [wordOf_zero]; intro b hb; simp at hb
      · obtain ⟨h1, h2, h3⟩ := h.back j h0 hj
        rw [wordOf_step h1, bytes_snoc]
        exact ⟨ih _ h1 (by omega), hc.byte _ h2⟩
  have hr : ∀ j, j < n → runW (fun s b => nx s (col b)) 0 (wordOf fr lb j) = j := by
    intro j
    induction j using Nat.strongRecOn with
    | _ j ih =>
      intro hj
      rcases Nat.eq_zero_or_pos j with rfl | h0
      · rw [wordOf_zero]; rfl
      · obtain ⟨h1, h2, h3⟩ := h.back j h0 hj
        rw [wordOf_step h1, runW_snoc, ih _ h1 (by omega), hc.back _ h2, h3]
  have hm : ∀ k, k < n → ∀ j, j < k → wlt (wordOf fr lb j) (wordOf fr lb k) := by
    intro k
    induction k using Nat.strongRecOn with
    | _ k ih =>
      intro hk j hj
      obtain ⟨h1, h2, h3⟩ := h.back k (by omega) hk
      rw [wordOf_step h1]
      rcases Nat.eq_zero_or_pos j with rfl | h0
      · rw [wordOf_zero]; exact wlt_nil _ _
      · obtain ⟨g1, g2, g3⟩ := h.back j h0 (by omega)
        rw [wordOf_step g1]
        rcases h.mono j k h0 hj hk with h4 | ⟨h4, h5⟩
        · exact wlt_snoc (ih _ h1 (by omega) _ h4) _ _
        · rw [h4]; exact wlt_last _ (hc.mono _ _ h5 h2)
  refine ⟨hb, hr, fun j hj u => ?_, fun j k hjk hk => hm k hk j hjk⟩
  revert j
  refine snoc_ind (P := fun u => ∀ j, j < n → Bytes u → runW (fun s b => nx s (col b)) 0 u = j → wle (wordOf fr lb j) u) ?_ ?_ u
  · intro j hj _ e
    have e0 : j = 0 := e.symm
    subst e0
    rw [wordOf_zero]; exact wle_refl _
  · intro u x ih j hj hbu e
    rw [bytes_snoc] at hbu
    rw [runW_snoc] at e
    have hi := runIn_lt h.tgt hc.lt h.pos u hbu.1
    have hle := ih _ hi hbu.1 rfl
    generalize runW (fun s b => nx s (col b)) 0 u = i at e hi hle
    rcases Nat.eq_zero_or_pos j with rfl | h0
    · rw [wordOf_zero]; exact .inr (wlt_nil _ _)
    · obtain ⟨h1, h2, h3⟩ := h.back j h0 hj
      rw [wordOf_step h1]
      rcases h.first j h0 hj i (col x) hi (hc.lt x hbu.2) e with h4 | ⟨h4, h5⟩
      · refine wle_trans (.inr ?_) (wle_snoc hle (Nat.le_refl x))
        exact wlt_snoc (hm i hi _ h4) _ _
      · rw [h4]
        refine wle_snoc hle ?_
        have h6 := hc.least x hbu.2
        rcases Nat.lt_or_eq_of_le h5 with h7 | h7
        · have := hc.mono _ _ h7 (hc.lt x hbu.2); omega
        · rw [h7]; exact h6
/-- the class of each byte. -/
def colOf (cls : List (BitVec 256)) (b : Nat) : Nat := cls.findIdx fun c => mem c b
/-- the target of a state by a cell, as the rows have it. -/
def nxR (next : List (List Nat)) (i c : Nat) : Nat := (next.getD i []).getD c 0
def stepR (cls : List (BitVec 256)) (next : List (List Nat)) (s b : Nat) : Nat := nxR next s (colOf cls b)
def accR (cls : List (BitVec 256)) (next : List (List Nat)) (acc : List Bool) (u : List Nat) : Bool := acc.getD (runW (stepR cls next) 0 u) false
/-- the classes part all bytes. -/
structure Parts (cls : List (BitVec 256)) : Prop where
  ne : ∀ c ∈ cls, c ≠ 0
  one : ∀ b, b < 256 → cntC cls b = 1
theorem parts_iff3 {cls : List (BitVec 256)} : partB 0 cls = true ↔ Parts cls := by
  rw [partB_iff]
  have z : ∀ b, (mem 0 b).toNat = 0 := fun b => by simp [mem]
  constructor
  · rintro ⟨h1, h2⟩; exact ⟨h1, fun b hb => by have := h2 b hb; rw [z] at this; omega⟩
  · rintro ⟨h1, h2⟩; exact ⟨h1, fun b hb => by rw [z, h2 b hb]⟩
theorem cnt_pos : ∀ {l : List (BitVec 256)} {b : Nat}, 0 < cntC l b → ∃ (k : Nat) (c : BitVec 256), l[k]? = some c ∧ mem c b = true
  | [], b, h => by simp [cntC] at h
  | c :: l, b, h => by
    rw [cntC_cons] at h
    cases hm : mem c b
    · rw [hm] at h
      obtain ⟨k, d, h1, h2⟩ := cnt_pos (l := l) (b := b) (by simpa using h)
      exact ⟨k + 1, d, by simpa using h1, h2⟩
    · exact ⟨0, c, rfl, hm⟩
theorem cnt_two : ∀ {l : List (BitVec 256)} {b i j : Nat} {c d : BitVec 256}, i < j → l[i]? = some c → l[j]? = some d → mem c b = true → mem d b = true → 2 ≤ cntC l b
  | [], _, _, _, _, _, _, h, _, _, _ => by simp at h
  | e :: l, b, 0, j + 1, c, d, _, h1, h2, h3, h4 => by
    simp at h1 h2
    subst h1
    rw [cntC_cons, h3]
    have : 0 < cntC l b := by
      unfold cntC
      exact List.length_pos_of_mem (List.mem_filter.2 ⟨List.mem_of_getElem? h2, h4⟩)
    simp; omega
  | e :: l, b, i + 1, j + 1, c, d, h, h1, h2, h3, h4 => by
    rw [cntC_cons]
    have := cnt_two (l := l) (b := b) (i := i) (j := j) (c := c) (d := d) (by omega) (by simpa using h1) (by simpa using h2) h3 h4
    omega
theorem Parts.col_lt {cls : List (BitVec 256)} (h : Parts cls) {b : Nat} (hb : b < 256) : colOf cls b < cls.length := by
  obtain ⟨k, c, h1, h2⟩ := cnt_pos (l := cls) (b := b) (by rw [h.one b hb]; decide)
  exact List.findIdx_lt_length_of_exists ⟨c, List.mem_of_getElem? h1, h2⟩
theorem Parts.col_iff {cls : List (BitVec 256)} (h : Parts cls) {b k : Nat} {c : BitVec 256} (hb : b < 256) (hk : cls[k]? = some c) : mem c b = true ↔ colOf cls b = k := by
  have hl := h.col_lt hb
  have hm : mem (cls[colOf cls b]'hl) b = true := List.findIdx_getElem (p := fun c => mem c b) (w := hl)
  have hcol : cls[colOf cls b]? = some (cls[colOf cls b]'hl) := List.getElem?_eq_getElem hl
  constructor
  · intro h1
    rcases Nat.lt_trichotomy (colOf cls b) k with h2 | h2 | h2
    · have := cnt_two h2 hcol hk hm h1; rw [h.one b hb] at this; omega
    · exact h2
    · have := cnt_two h2 hk hcol h1 hm; rw [h.one b hb] at this; omega
  · intro h1
    subst h1
    rw [hcol] at hk; cases hk; exact hm
theorem Parts.some_byte {cls : List (BitVec 256)} (h : Parts cls) {k : Nat} (hk : k < cls.length) : ∃ b, b < 256 ∧ colOf cls b = k := by
  have hc := h.ne _ (List.getElem_mem hk)
  by_cases hx : ∃ b, b < 256 ∧ mem (cls[k]'hk) b = true
  · obtain ⟨b, hb, hm⟩ := hx
    exact ⟨b, hb, (h.col_iff hb (List.getElem?_eq_getElem hk)).1 hm⟩
  · exfalso; apply hc
    apply BitVec.eq_of_getLsbD_eq
    intro i hi
    cases hm : (cls[k]'hk).getLsbD i
    · simp
    · exact absurd ⟨i, hi, hm⟩ hx
/-- an automaton of the language in canonical form, with any number of states. -/
structure IsCan (L : List Nat → Bool) (cls : List (BitVec 256)) (next : List (List Nat)) (acc : List Bool) : Prop where
  parts : Parts cls
  rg : RG (colOf cls) 256
  pos : 0 < next.length
  len : acc.length = next.length
  rows : ∀ r ∈ next, r.length = cls.length ∧ ∀ t ∈ r, t < next.length
  lang : ∀ u, Bytes u → accR cls next acc u = L u
  words : ∃ word, Ordered next.length cls.length (colOf cls) (nxR next) word
  apart : ∀ i j, i < next.length → j < next.length → i ≠ j → ∃ u, Bytes u ∧ acc.getD (runW (stepR cls next) i u) false ≠ acc.getD (runW (stepR cls next) j u) false
  cols : ∀ k k', k < cls.length → k' < cls.length → k ≠ k' → ∃ s, s < next.length ∧ nxR next s k ≠ nxR next s k'
theorem runW_append (d : Nat → Nat → Nat) (s : Nat) (u v : List Nat) : runW d s (u ++ v) = runW d (runW d s u) v := by unfold runW; rw [List.foldl_append]
theorem bytes_append {u v : List Nat} : Bytes (u ++ v) ↔ Bytes u ∧ Bytes v := by
  unfold Bytes
  constructor
  · intro h; exact ⟨fun b hb => h b (by simp [hb]), fun b hb => h b (by simp [hb])⟩
  · rintro ⟨h1, h2⟩ b hb
    rcases List.mem_append.1 hb with hb | hb
    · exact h1 b hb
    · exact h2 b hb
theorem nxR_lt {next : List (List Nat)} {m : Nat} (hrows : ∀ r ∈ next, r.length = m ∧ ∀ t ∈ r, t < next.length) {i c : Nat} (hi : i < next.length) (hc : c < m) : nxR next i c < next.length := by
  unfold nxR
  have hm := List.getElem_mem hi
  obtain ⟨h1, h2⟩ := hrows _ hm
  rw [List.getD_eq_getElem?_getD (l := next), List.getElem?_eq_getElem hi, Option.getD_some, List.getD_eq_getElem?_getD, List.getElem?_eq_getElem (by omega), Option.getD_some]
  exact h2 _ (List.getElem_mem _)
theorem IsCan.run_lt {L : List Nat → Bool} {cls : List (BitVec 256)} {next : List (List Nat)} {acc : List Bool} (h : IsCan L cls next acc) {s : Nat} (hs : s < next.length) {u : List Nat} (hu : Bytes u) : runW (stepR cls next) s u < next.length :=
  @runIn_lt next.length cls.length (nxR next) (colOf cls) (fun _ _ h1 h2 => nxR_lt h.rows h1 h2) (fun _ h1 => h.parts.col_lt h1) s hs u hu
/-- two words lead to the same state if and only if they admit the same rests. -/
theorem IsCan.same_iff {L : List Nat → Bool} {cls : List (BitVec 256)} {next : List (List Nat)} {acc : List Bool} (h : IsCan L cls next acc) {u v : List Nat} (hu : Bytes u) (hv : Bytes v) :
    runW (stepR cls next) 0 u = runW (stepR cls next) 0 v ↔ ∀ z, Bytes z → L (u ++ z) = L (v ++ z) := by
  constructor
  · intro e z hz
    rw [← h.lang _ (bytes_append.2 ⟨hu, hz⟩), ← h.lang _ (bytes_append.2 ⟨hv, hz⟩)]
    unfold accR
    rw [runW_append, runW_append, e]
  · intro hz
    rcases Nat.decEq (runW (stepR cls next) 0 u) (runW (stepR cls next) 0 v) with hne | e
    · exfalso
      obtain ⟨z, hz1, hz2⟩ := h.apart _ _ (h.run_lt h.pos hu) (h.run_lt h.pos hv) hne
      apply hz2
      have := hz z hz1
      rw [← h.lang _ (bytes_append.2 ⟨hu, hz1⟩), ← h.lang _ (bytes_append.2 ⟨hv, hz1⟩)] at this
      unfold accR at this
      rwa [runW_append, runW_append] at this
    · exact e
theorem sorted_eq : ∀ {a b : List (List Nat)}, a.Pairwise wlt → b.Pairwise wlt → (∀ x, x ∈ a ↔ x ∈ b) → a = b
  | [], [], _, _, _ => rfl
  | [], y :: b, _, _, h => by have := (h y).2 (by simp); simp at this
  | x :: a, [], _, _, h => by have := (h x).1 (by simp); simp at this
  | x :: a, y :: b, ha, hb, h => by
    rw [List.pairwise_cons] at ha hb
    have e : x = y := by
      have h1 := (h x).1 (by simp)
      have h2 := (h y).2 (by simp)
      rcases List.mem_cons.1 h1 with h1 | h1
      · exact h1
      · rcases List.mem_cons.1 h2 with h2 | h2
        · exact h2.symm
        · exact absurd (wlt_trans (ha.1 _ h2) (hb.1 _ h1)) (wlt_irrefl _)
    subst e
    congr 1
    refine sorted_eq ha.2 hb.2 fun z => ?_
    constructor
    · intro hz
      rcases List.mem_cons.1 ((h z).1 (by simp [hz])) with e | h1
      · subst e; exact absurd (ha.1 _ hz) (wlt_irrefl _)
      · exact h1
    · intro hz
      rcases List.mem_cons.1 ((h z).2 (by simp [hz])) with e | h1
      · subst e; exact absurd (hb.1 _ hz) (wlt_irrefl _)
      · exact h1
theorem words_sorted {n m : Nat} {col : Nat → Nat} {nx : Nat → Nat → Nat} {word : Nat → List Nat} (h : Ordered n m col nx word) : ((List.range n).map word).Pairwise wlt := by
  rw [List.pairwise_map]
  refine List.Pairwise.imp_of_mem (R := (· < ·)) (fun {a b} ha hb hab => h.mono a b hab (List.mem_range.1 hb)) List.pairwise_lt_range
/-- the canonical automaton of a language is determined. -/
theorem IsCan.unique {L L' : List Nat → Bool} {cls cls' : List (BitVec 256)} {next next' : List (List Nat)} {acc acc' : List Bool} (h : IsCan L cls next acc) (h' : IsCan L' cls' next' acc') (hL : ∀ u, Bytes u → L u = L' u) :
    cls = cls' ∧ next = next' ∧ acc = acc' := by
  obtain ⟨word, ho⟩ := h.words
  obtain ⟨word', ho'⟩ := h'.words
  have same : ∀ u v, Bytes u → Bytes v → (runW (stepR cls next) 0 u = runW (stepR cls next) 0 v ↔ runW (stepR cls' next') 0 u = runW (stepR cls' next') 0 v) := fun u v hu hv => by
    rw [h.same_iff hu hv, h'.same_iff hu hv]
    constructor
    · intro hz z hb; rw [← hL _ (bytes_append.2 ⟨hu, hb⟩), ← hL _ (bytes_append.2 ⟨hv, hb⟩)]; exact hz z hb
    · intro hz z hb; rw [hL _ (bytes_append.2 ⟨hu, hb⟩), hL _ (bytes_append.2 ⟨hv, hb⟩)]; exact hz z hb
  -- the least words of states
  have key : ∀ {cls : List (BitVec 256)} {next : List (List Nat)} {word : Nat → List Nat}, Ordered next.length cls.length (colOf cls) (nxR next) word → (∀ u, Bytes u → runW (stepR cls next) 0 u < next.length) → ∀ x, x ∈ (List.range next.length).map word ↔ Bytes x ∧ ∀ u, Bytes u → runW (stepR cls next) 0 u = runW (stepR cls next) 0 x → wle x u := by
    intro cls next word ho hlt x
    constructor
    · intro hx
      obtain ⟨j, hj, rfl⟩ := List.mem_map.1 hx
      have hj := List.mem_range.1 hj
      exact ⟨ho.bytes j hj, fun u hu e => ho.least j hj u hu (e.trans (ho.run j hj))⟩
    · rintro ⟨hb, hx⟩
      have hj := hlt x hb
      refine List.mem_map.2 ⟨runW (stepR cls next) 0 x, List.mem_range.2 hj, ?_⟩
      exact wle_antisymm (ho.least _ hj x hb rfl) (hx _ (ho.bytes _ hj) (ho.run _ hj))
  have hws : (List.range next.length).map word = (List.range next'.length).map word' := by
    refine sorted_eq (words_sorted ho) (words_sorted ho') fun x => ?_
    rw [key ho (fun u hu => h.run_lt h.pos hu), key ho' (fun u hu => h'.run_lt h'.pos hu)]
    constructor
    · rintro ⟨hb, hx⟩; exact ⟨hb, fun u hu e => hx u hu ((same u x hu hb).2 e)⟩
    · rintro ⟨hb, hx⟩; exact ⟨hb, fun u hu e => hx u hu ((same u x hu hb).1 e)⟩
  have hn : next.length = next'.length := by have := congrArg List.length hws; simpa using this
  have hw : ∀ j, j < next.length → word j = word' j := fun j hj => by
    have := congrArg (fun l => l[j]?) hws
    simpa [hj, hn ▸ hj] using this
  have hrun : ∀ u, Bytes u → runW (stepR cls next) 0 u = runW (stepR cls' next') 0 u := fun u hu => by
    have hj := h.run_lt h.pos hu
    have e1 : runW (stepR cls next) 0 u = runW (stepR cls next) 0 (word (runW (stepR cls next) 0 u)) := (ho.run _ hj).symm
    have e2 := (same u _ hu (ho.bytes _ hj)).1 e1
    rw [hw _ hj] at e2
    exact (e2.trans (ho'.run _ (hn ▸ hj))).symm
  have hacc : acc = acc' := by
    apply List.ext_getElem?
    intro j
    rcases Nat.lt_or_ge j next.length with hj | hj
    · have e1 := h.lang _ (ho.bytes j hj)
      have e2 := h'.lang _ (ho.bytes j hj)
      rw [← hL _ (ho.bytes j hj)] at e2
      unfold accR at e1 e2
      rw [← hrun _ (ho.bytes j hj)] at e2
      have e3 : runW (stepR cls next) 0 (word j) = j := ho.run j hj
      rw [e3] at e1 e2
      rw [List.getElem?_eq_getElem (by have := h.len; omega), List.getElem?_eq_getElem (by have := h'.len; omega)]
      rw [List.getD_eq_getElem?_getD, List.getElem?_eq_getElem (by have := h.len; omega)] at e1
      rw [List.getD_eq_getElem?_getD, List.getElem?_eq_getElem (by have := h'.len; omega)] at e2
      simp at e1 e2 ⊢
      rw [e1, e2]
    · rw [List.getElem?_eq_none (by have := h.len; omega), List.getElem?_eq_none (by have := h'.len; omega)]
  have hstep : ∀ i b, i < next.length → b < 256 → nxR next i (colOf cls b) = nxR next' i (colOf cls' b) := fun i b hi hb => by
    have e := hrun (word i ++ [b]) (bytes_snoc.2 ⟨ho.bytes i hi, hb⟩)
    rw [runW_snoc, runW_snoc, ← hrun _ (ho.bytes i hi)] at e
    have e3 : runW (stepR cls next) 0 (word i) = i := ho.run i hi
    rw [e3] at e
    exact e
  have hcol : ∀ b, b < 256 → colOf cls b = colOf cls' b := by
    refine RG.unique h.rg h'.rg fun a b ha hb => ?_
    have ker : ∀ {L : List Nat → Bool} {cls : List (BitVec 256)} {next : List (List Nat)} {acc : List Bool}, IsCan L cls next acc → (colOf cls a = colOf cls b ↔ ∀ i, i < next.length → nxR next i (colOf cls a) = nxR next i (colOf cls b)) := by
      intro L cls next acc h
      constructor
      · intro e i _; rw [e]
      · intro hx
        rcases Nat.decEq (colOf cls a) (colOf cls b) with hne | e
        · exfalso
          obtain ⟨s, hs1, hs2⟩ := h.cols _ _ (h.parts.col_lt ha) (h.parts.col_lt hb) hne
          exact hs2 (hx s hs1)
        · exact e
    rw [ker h, ker h', ← hn]
    constructor
    · intro hx i hi; rw [← hstep i a hi ha, ← hstep i b hi hb]; exact hx i hi
    · intro hx i hi; rw [hstep i a hi ha, hstep i b hi hb]; exact hx i hi
  have hm : cls.length = cls'.length := by
    have le : ∀ {cls cls' : List (BitVec 256)}, Parts cls → Parts cls' → (∀ b, b < 256 → colOf cls b = colOf cls' b) → cls.length ≤ cls'.length := by
      intro cls cls' p p' hc
      rcases Nat.lt_or_ge cls'.length cls.length with hlt | hge
      · obtain ⟨b, hb, e⟩ := p.some_byte hlt
        have := p'.col_lt hb
        rw [← hc b hb, e] at this
        omega
      · exact hge
    exact Nat.le_antisymm (le h.parts h'.parts hcol) (le h'.parts h.parts fun b hb => (hcol b hb).symm)
  have hcls : cls = cls' := by
    apply List.ext_getElem?
    intro k
    rcases Nat.lt_or_ge k cls.length with hk | hk
    · rw [List.getElem?_eq_getElem hk, List.getElem?_eq_getElem (hm ▸ hk)]
      congr 1
      apply BitVec.eq_of_getLsbD_eq
      intro b hb
      have e1 := h.parts.col_iff hb (List.getElem?_eq_getElem hk)
      have e2 := h'.parts.col_iff hb (List.getElem?_eq_getElem (hm ▸ hk))
      rw [← hcol b hb] at e2
      have := e1.trans e2.symm
      rw [Bool.eq_iff_iff]
      exact this
    · rw [List.getElem?_eq_none hk, List.getElem?_eq_none (by omega)]
  refine ⟨hcls, ?_, hacc⟩
  subst hcls
  apply List.ext_getElem?
  intro i
  rcases Nat.lt_or_ge i next.length with hi | hi
  · have hi' : i < next'.length := hn ▸ hi
    rw [List.getElem?_eq_getElem hi, List.getElem?_eq_getElem hi']
    congr 1
    have r1 := (h.rows _ (List.getElem_mem hi)).1
    have r2 := (h'.rows _ (List.getElem_mem hi')).1
    apply List.ext_getElem (r1.trans r2.symm)
    intro k hk hk'
    obtain ⟨b, hb, e⟩ := h.parts.some_byte (k := k) (by omega)
    have := hstep i b hi hb
    rw [e] at this
    unfold nxR at this
    rw [List.getD_eq_getElem?_getD (l := next), List.getElem?_eq_getElem hi, List.getD_eq_getElem?_getD (l := next'), List.getElem?_eq_getElem hi', Option.getD_some, Option.getD_some, List.getD_eq_getElem?_getD, List.getElem?_eq_getElem hk, List.getD_eq_getElem?_getD, List.getElem?_eq_getElem hk'] at this
    exact this
  · rw [List.getElem?_eq_none hi, List.getElem?_eq_none (by omega)]
/-- labels in the order of first occurrence that tell keys apart. -/
structure Numb {α : Type} (key : Nat → α) (n : Nat) (f : Nat → Nat) (cnt : Nat) : Prop where
  ker : ∀ a b, a < n → b < n → (f a = f b ↔ key a = key b)
  rg : RG f n
  lt : ∀ a, a < n → f a < cnt
  onto : ∀ k, k < cnt → ∃ a, a < n ∧ f a = k
/-- the numbering on its way: the keys seen, in the order of their labels. -/
structure NumbS {α : Type} (key : Nat → α) (q : Nat) (ks : List α) (f : Nat → Nat) : Prop where
  nodup : ks.Nodup
  at_ : ∀ a, a < q → ks[f a]? = some (key a)
  onto : ∀ k, k < ks.length → ∃ a, a < q ∧ f a = k
  rg : RG f q
theorem NumbS.zero {α : Type} (key : Nat → α) (f : Nat → Nat) : NumbS key 0 [] f := ⟨List.nodup_nil, fun a h => by omega, fun k h => by simp at h, fun a h => by omega⟩
theorem NumbS.known {α : Type} {key : Nat → α} {q : Nat} {ks : List α} {f : Nat → Nat} (h : NumbS key q ks f) {i : Nat} (hi : ks[i]? = some (key q)) : NumbS key (q + 1) ks (fun a => if a = q then i else f a) := by
  have hil : i < ks.length := (List.getElem?_eq_some_iff.1 hi).1
  refine ⟨h.nodup, fun a ha => ?_, fun k hk => ?_, fun b hb k hk => ?_⟩
  · by_cases e : a = q
    · subst e; simpa using hi
    · simp only [e, if_false]; exact h.at_ a (by omega)
  · obtain ⟨a, ha, e⟩ := h.onto k hk
    exact ⟨a, by omega, by rw [if_neg (by omega)]; exact e⟩
  · by_cases e : b = q
    · subst e
      simp only [if_true] at hk
      obtain ⟨a, ha, e⟩ := h.onto k (by omega)
      exact ⟨a, ha, by rw [if_neg (by omega)]; exact e⟩
    · simp only [e, if_false] at hk
      obtain ⟨a, ha, e2⟩ := h.rg b (by omega) k hk
      exact ⟨a, ha, by rw [if_neg (by omega)]; exact e2⟩
theorem NumbS.new {α : Type} {key : Nat → α} {q : Nat} {ks : List α} {f : Nat → Nat} (h : NumbS key q ks f) (hi : key q ∉ ks) : NumbS key (q + 1) (ks ++ [key q]) (fun a => if a = q then ks.length else f a) := by
  refine ⟨?_, fun a ha => ?_, fun k hk => ?_, fun b hb k hk => ?_⟩
  · rw [List.nodup_append]; exact ⟨h.nodup, by simp, fun x hx y hy => by simp at hy; subst hy; intro e; subst e; exact hi hx⟩
  · by_cases e : a = q
    · subst e; simp
    · simp only [e, if_false]
      have := h.at_ a (by omega)
      rw [List.getElem?_append_left (List.getElem?_eq_some_iff.1 this).1]; exact this
  · rw [List.length_append] at hk
    by_cases hk2 : k < ks.length
    · obtain ⟨a, ha, e⟩ := h.onto k hk2
      exact ⟨a, by omega, by rw [if_neg (by omega)]; exact e⟩
    · exact ⟨q, by omega, by simp at hk ⊢; omega⟩
  · by_cases e : b = q
    · subst e
      simp only [if_true] at hk
      obtain ⟨a, ha, e⟩ := h.onto k (by omega)
      exact ⟨a, ha, by rw [if_neg (by omega)]; exact e⟩
    · simp only [e, if_false] at hk
      obtain ⟨a, ha, e2⟩ := h.rg b (by omega) k hk
      exact ⟨a, ha, by rw [if_neg (by omega)]; exact e2⟩
theorem NumbS.done {α : Type} {key : Nat → α} {n : Nat} {ks : List α} {f : Nat → Nat} (h : NumbS key n ks f) : Numb key n f ks.length := by
  refine ⟨fun a b ha hb => ?_, h.rg, fun a ha => (List.getElem?_eq_some_iff.1 (h.at_ a ha)).1, h.onto⟩
  have h1 := h.at_ a ha
  have h2 := h.at_ b hb
  constructor
  · intro e; rw [e, h2] at h1; exact (Option.some.inj h1).symm
  · intro e
    rw [← e] at h2
    obtain ⟨l1, e1⟩ := List.getElem?_eq_some_iff.1 h1
    obtain ⟨l2, e2⟩ := List.getElem?_eq_some_iff.1 h2
    rcases Nat.lt_trichotomy (f a) (f b) with h3 | h3 | h3
    · exact absurd (e1.trans e2.symm) ((List.pairwise_iff_getElem.1 h.nodup) _ _ l1 l2 h3)
    · exact h3
    · exact absurd (e2.trans e1.symm) ((List.pairwise_iff_getElem.1 h.nodup) _ _ l2 l1 h3)
theorem Numb.congr {α : Type} {key : Nat → α} {n : Nat} {f g : Nat → Nat} {cnt : Nat} (h : Numb key n f cnt) (e : ∀ a, a < n → f a = g a) : Numb key n g cnt := by
  refine ⟨fun a b ha hb => by rw [← e a ha, ← e b hb]; exact h.ker a b ha hb, fun b hb k hk => ?_, fun a ha => by rw [← e a ha]; exact h.lt a ha, fun k hk => ?_⟩
  · rw [← e b hb] at hk
    obtain ⟨a, ha, e2⟩ := h.rg b hb k hk
    exact ⟨a, ha, by rw [← e a (by omega)]; exact e2⟩
  · obtain ⟨a, ha, e2⟩ := h.onto k hk
    exact ⟨a, ha, by rw [← e a ha]; exact e2⟩
theorem cover_le : ∀ (m : Nat) (l : List Nat), (∀ k, k < m → k ∈ l) → m ≤ l.length
  | 0, _, _ => Nat.zero_le _
  | m + 1, l, h => by
    have ih := cover_le m (l.filter fun x => decide (x ≠ m)) fun k hk => List.mem_filter.2 ⟨h k (by omega), by simp; omega⟩
    have : (l.filter fun x => decide (x ≠ m)).length < l.length := List.length_filter_lt_length_iff_exists.2 ⟨m, h m (by omega), by simp⟩
    omega
/-- a finer numbering with as many labels is the same one. -/
theorem finer_same {n cnt : Nat} {f f' : Nat → Nat} (h1 : ∀ a, a < n → f a < cnt) (h2 : ∀ k, k < cnt → ∃ a, a < n ∧ f a = k) (h3 : ∀ a, a < n → f' a < cnt) (h4 : ∀ k, k < cnt → ∃ a, a < n ∧ f' a = k)
    (hr : ∀ a b, a < n → b < n → f' a = f' b → f a = f b) {a b : Nat} (ha : a < n) (hb : b < n) (e : f a = f b) : f' a = f' b := by
  rcases Nat.decEq (f' a) (f' b) with hne | e'
  · exfalso
    have hrep : ∀ k, ∃ x, k < cnt → x < n ∧ f' x = k := fun k => by
      by_cases hk : k < cnt
      · obtain ⟨x, hx⟩ := h4 k hk; exact ⟨x, fun _ => hx⟩
      · exact ⟨0, fun h => absurd h hk⟩
    obtain ⟨rep, hrep⟩ := Classical.axiomOfChoice hrep
    have key := cover_le cnt (((List.range cnt).filter fun k => decide (k ≠ f' b)).map fun k => f (rep k)) fun k hk => by
      obtain ⟨x, hx, ex⟩ := h2 k hk
      by_cases hxb : f' x = f' b
      · refine List.mem_map.2 ⟨f' a, List.mem_filter.2 ⟨List.mem_range.2 (h3 a ha), by simpa using hne⟩, ?_⟩
        obtain ⟨r1, r2⟩ := hrep _ (h3 a ha)
        rw [hr _ _ r1 ha r2, e, ← ex]
        exact (hr _ _ hx hb hxb).symm
      · refine List.mem_map.2 ⟨f' x, List.mem_filter.2 ⟨List.mem_range.2 (h3 x hx), by simpa using hxb⟩, ?_⟩
        obtain ⟨r1, r2⟩ := hrep _ (h3 x hx)
        rw [hr _ _ r1 hx r2, ex]
    have hlt : ((List.range cnt).filter fun k => decide (k ≠ f' b)).length < (List.range cnt).length := List.length_filter_lt_length_iff_exists.2 ⟨f' b, List.mem_range.2 (h3 b hb), by simp⟩
    simp only [List.length_map, List.length_range] at key hlt
    omega
  · exact e'
theorem finer_le {n cnt cnt' : Nat} {f f' : Nat → Nat} (h2 : ∀ k, k < cnt → ∃ a, a < n ∧ f a = k) (h3 : ∀ a, a < n → f' a < cnt') (h4 : ∀ k, k < cnt' → ∃ a, a < n ∧ f' a = k)
    (hr : ∀ a b, a < n → b < n → f' a = f' b → f a = f b) : cnt ≤ cnt' := by
  have hrep : ∀ k, ∃ x, k < cnt' → x < n ∧ f' x = k := fun k => by
    by_cases hk : k < cnt'
    · obtain ⟨x, hx⟩ := h4 k hk; exact ⟨x, fun _ => hx⟩
    · exact ⟨0, fun h => absurd h hk⟩
  obtain ⟨rep, hrep⟩ := Classical.axiomOfChoice hrep
  have key := cover_le cnt ((List.range cnt').map fun k => f (rep k)) fun k hk => by
    obtain ⟨x, hx, ex⟩ := h2 k hk
    refine List.mem_map.2 ⟨f' x, List.mem_range.2 (h3 x hx), ?_⟩
    obtain ⟨r1, r2⟩ := hrep _ (h3 x hx)
    rw [hr _ _ r1 hx r2, ex]
  simpa using key

/-- states that no word of cells tells apart. -/
def Equi (n m : Nat) (nx : Nat → Nat → Nat) (ac : Nat → Bool) (a b : Nat) : Prop := ∀ u : List Nat, (∀ c ∈ u, c < m) → ac (u.foldl nx a) = ac (u.foldl nx b)
/-- the blocks of a division on its way. -/
structure Blocks (n m : Nat) (nx : Nat → Nat → Nat) (ac : Nat → Bool) (f : Nat → Nat) (cnt : Nat) : Prop where
  rg : RG f n
  lt : ∀ a, a < n → f a < cnt
  onto : ∀ k, k < cnt → ∃ a, a < n ∧ f a = k
  coarse : ∀ a b, a < n → b < n → Equi n m nx ac a b → f a = f b
  marks : ∀ a b, a < n → b < n → f a = f b → ac a = ac b
theorem Blocks.start {n m : Nat} {nx : Nat → Nat → Nat} {ac : Nat → Bool} {f : Nat → Nat} {cnt : Nat} (h : Numb (fun a => (0, if ac a then 1 else 0)) n f cnt) : Blocks n m nx ac f cnt := by
  have key : ∀ a b, (((0 : Nat), if ac a then (1 : Nat) else 0) = (0, if ac b then 1 else 0)) ↔ ac a = ac b := fun a b => by
    cases ac a <;> cases ac b <;> simp
  refine ⟨h.rg, h.lt, h.onto, fun a b ha hb he => ?_, fun a b ha hb e => ?_⟩
  · exact (h.ker a b ha hb).2 ((key a b).2 (he [] (by simp)))
  · exact (key a b).1 ((h.ker a b ha hb).1 e)
theorem Blocks.step {n m : Nat} {nx : Nat → Nat → Nat} {ac : Nat → Bool} {f f' : Nat → Nat} {cnt cnt' c : Nat} (h : Blocks n m nx ac f cnt) (hn : ∀ i c, i < n → c < m → nx i c < n) (hc : c < m) (h' : Numb (fun a => (f a, f (nx a c))) n f' cnt') : Blocks n m nx ac f' cnt' := by
  refine ⟨h'.rg, h'.lt, h'.onto, fun a b ha hb he => ?_, fun a b ha hb e => ?_⟩
  · refine (h'.ker a b ha hb).2 (Prod.ext (h.coarse a b ha hb he) (h.coarse _ _ (hn a c ha hc) (hn b c hb hc) fun u hu => ?_))
    exact he (c :: u) (by simpa using ⟨hc, hu⟩)
  · exact h.marks a b ha hb (congrArg Prod.fst ((h'.ker a b ha hb).1 e))
/-- within a round: nothing was divided as long as the number is the same. -/
structure Round (n m : Nat) (nx : Nat → Nat → Nat) (f0 : Nat → Nat) (cnt0 : Nat) (c : Nat) (f : Nat → Nat) (cnt : Nat) : Prop where
  le : cnt0 ≤ cnt
  fine : ∀ a b, a < n → b < n → f a = f b → f0 a = f0 b
  same : cnt = cnt0 → (∀ a, a < n → f a = f0 a) ∧ ∀ c', c' < c → ∀ a b, a < n → b < n → f0 a = f0 b → f0 (nx a c') = f0 (nx b c')
theorem Round.start {n m : Nat} (nx : Nat → Nat → Nat) (f0 : Nat → Nat) (cnt0 : Nat) : Round n m nx f0 cnt0 0 f0 cnt0 :=
  ⟨Nat.le_refl _, fun _ _ _ _ e => e, fun _ => ⟨fun _ _ => rfl, fun c' h => by omega⟩⟩
theorem Round.step {n m : Nat} {nx : Nat → Nat → Nat} {ac : Nat → Bool} {f0 f f' : Nat → Nat} {cnt0 cnt cnt' c : Nat} (h : Round n m nx f0 cnt0 c f cnt) (h0 : Blocks n m nx ac f0 cnt0) (hb : Blocks n m nx ac f cnt) (hb' : Blocks n m nx ac f' cnt') (hn : ∀ i c, i < n → c < m → nx i c < n) (hc : c < m) (h' : Numb (fun a => (f a, f (nx a c))) n f' cnt') : Round n m nx f0 cnt0 (c + 1) f' cnt' := by
  have hfine : ∀ a b, a < n → b < n → f' a = f' b → f a = f b := fun a b ha hb e => congrArg Prod.fst ((h'.ker a b ha hb).1 e)
  have hle : cnt ≤ cnt' := finer_le hb.onto hb'.lt hb'.onto hfine
  refine ⟨Nat.le_trans h.le hle, fun a b ha hb e => h.fine a b ha hb (hfine a b ha hb e), fun e => ?_⟩
  have e1 : cnt = cnt0 := by have := h.le; omega
  have e2 : cnt' = cnt := by omega
  subst e2
  obtain ⟨s1, s2⟩ := h.same e1
  have ker : ∀ a b, a < n → b < n → (f' a = f' b ↔ f a = f b) := fun a b ha hb2 => ⟨hfine a b ha hb2, fun e => finer_same hb.lt hb.onto hb'.lt hb'.onto hfine ha hb2 e⟩
  have e3 : ∀ a, a < n → f' a = f a := RG.unique hb'.rg hb.rg ker
  refine ⟨fun a ha => (e3 a ha).trans (s1 a ha), fun c' hc' a b ha hb2 e => ?_⟩
  rcases Nat.lt_or_ge c' c with h1 | h1
  · exact s2 c' h1 a b ha hb2 e
  · obtain rfl : c' = c := by omega
    have e4 : f a = f b := by rw [s1 a ha, s1 b hb2]; exact e
    have e5 := congrArg Prod.snd ((h'.ker a b ha hb2).1 ((ker a b ha hb2).2 e4))
    have e6 : f (nx a c') = f (nx b c') := e5
    rw [s1 _ (hn a c' ha hc), s1 _ (hn b c' hb2 hc)] at e6
    exact e6
theorem Round.wide {n m : Nat} {nx : Nat → Nat → Nat} {f0 f : Nat → Nat} {cnt0 cnt : Nat} (h : Round n m nx f0 cnt0 m f cnt) (hn : ∀ i c, i < n → c < m → nx i c < n) (e : cnt = cnt0) : ∀ c, c < m → ∀ a b, a < n → b < n → f a = f b → f (nx a c) = f (nx b c) := by
  obtain ⟨s1, s2⟩ := h.same e
  intro c hc a b ha hb e2
  rw [s1 _ (hn a c ha hc), s1 _ (hn b c hb hc)]
  exact s2 c hc a b ha hb (by rw [← s1 a ha, ← s1 b hb]; exact e2)
/-- what a division says of its result: stable blocks, or too many. -/
structure Divided (n m : Nat) (nx : Nat → Nat → Nat) (ac : Nat → Bool) (f : Nat → Nat) (cnt : Nat) : Prop where
  is : Blocks n m nx ac f cnt
  stable : cnt ≤ 64 → ∀ c, c < m → ∀ a b, a < n → b < n → f a = f b → f (nx a c) = f (nx b c)
theorem nodup_lt : ∀ {m : Nat} {l : List Nat}, l.Nodup → (∀ x ∈ l, x < m) → l.length ≤ m
  | 0, l, _, h => by
    cases l with
    | nil => simp
    | cons a l => have := h a (by simp); omega
  | m + 1, l, hd, h => by
    have ih := nodup_lt (m := m) (l := l.filter fun x => decide (x ≠ m)) (hd.filter _) fun x hx => by
      obtain ⟨h1, h2⟩ := List.mem_filter.1 hx
      have := h x h1
      simp at h2; omega
    have key : ∀ l : List Nat, l.Nodup → l.length ≤ (l.filter fun x => decide (x ≠ m)).length + 1 := by
      intro l
      induction l with
      | nil => intro _; simp
      | cons a l ih =>
        intro hd
        rw [List.nodup_cons] at hd
        rw [List.filter_cons]
        by_cases e : a = m
        · subst e
          have : l.filter (fun x => decide (x ≠ a)) = l := List.filter_eq_self.2 fun x hx => by simp; intro e; subst e; exact hd.1 hx
          rw [this]; simp
        · simp only [ne_eq, e, not_false_eq_true, decide_true, if_true, List.length_cons]
          have := ih hd.2
          simp only [ne_eq] at this
          omega
    have := key l hd
    omega
theorem stable_equi {n m : Nat} {nx : Nat → Nat → Nat} {ac : Nat → Bool} {f : Nat → Nat} {cnt : Nat} (h : Blocks n m nx ac f cnt) (hn : ∀ i c, i < n → c < m → nx i c < n) (hs : ∀ c, c < m → ∀ a b, a < n → b < n → f a = f b → f (nx a c) = f (nx b c)) {a b : Nat} (ha : a < n) (hb : b < n) (e : f a = f b) : Equi n m nx ac a b := by
  intro u
  revert a b
  induction u with
  | nil => intro a b ha hb e _; exact h.marks a b ha hb e
  | cons c u ih =>
    intro a b ha hb e hu
    have hc := hu c (by simp)
    exact ih (hn a c ha hc) (hn b c hb hc) (hs c hc a b ha hb e) fun d hd => hu d (by simp [hd])
/-- the first state of each block, on its way. -/
structure Firsts (f : Nat → Nat) (q : Nat) (fl : List Nat) : Prop where
  at_ : ∀ k x, fl[k]? = some x → x < q ∧ f x = k ∧ ∀ a, f a = k → x ≤ a
  lt : ∀ a, a < q → f a < fl.length
theorem Firsts.zero (f : Nat → Nat) : Firsts f 0 [] := ⟨fun k x h => by simp at h, fun a h => by omega⟩
theorem Firsts.old {f : Nat → Nat} {q : Nat} {fl : List Nat} (h : Firsts f q fl) (hq : f q ≠ fl.length) {n : Nat} (hr : RG f n) (hqn : q < n) : Firsts f (q + 1) fl := by
  have h1 : f q < fl.length := by
    rcases Nat.lt_or_ge (f q) fl.length with h1 | h1
    · exact h1
    · obtain ⟨a, ha, e⟩ := hr q hqn fl.length (by omega)
      have := h.lt a ha; omega
  refine ⟨fun k x hx => ?_, fun a ha => ?_⟩
  · obtain ⟨a1, a2, a3⟩ := h.at_ k x hx; exact ⟨by omega, a2, a3⟩
  · by_cases e : a = q
    · subst e; exact h1
    · exact h.lt a (by omega)
theorem Firsts.new {f : Nat → Nat} {q : Nat} {fl : List Nat} (h : Firsts f q fl) (hq : f q = fl.length) : Firsts f (q + 1) (fl ++ [q]) := by
  refine ⟨fun k x hx => ?_, fun a ha => ?_⟩
  · rcases Nat.lt_trichotomy k fl.length with h1 | h1 | h1
    · rw [List.getElem?_append_left h1] at hx
      obtain ⟨a1, a2, a3⟩ := h.at_ k x hx; exact ⟨by omega, a2, a3⟩
    · subst h1
      simp at hx
      subst hx
      refine ⟨by omega, hq, fun a ha => ?_⟩
      rcases Nat.lt_or_ge a q with h2 | h2
      · have := h.lt a h2; omega
      · exact h2
    · rw [List.getElem?_eq_none (by simp; omega)] at hx; cases hx
  · rw [List.length_append]
    by_cases e : a = q
    · subst e; simp; omega
    · have := h.lt a (by omega); simp; omega
/-- the union of the cells with a label. -/
def unionC (cells : List (BitVec 256)) (g : Nat → Nat) (c k : Nat) : BitVec 256 := (List.range c).foldl (fun x i => if g i = k then x ||| cells.getD i 0 else x) 0
theorem unionC_succ (cells : List (BitVec 256)) (g : Nat → Nat) (c k : Nat) : unionC cells g (c + 1) k = if g c = k then unionC cells g c k ||| cells.getD c 0 else unionC cells g c k := by
  unfold unionC; rw [List.range_succ, List.foldl_append]; rfl
theorem unionC_mem (cells : List (BitVec 256)) (g : Nat → Nat) (k b : Nat) : ∀ c, mem (unionC cells g c k) b = true ↔ ∃ i, i < c ∧ g i = k ∧ mem (cells.getD i 0) b = true
  | 0 => by simp [unionC, mem]
  | c + 1 => by
    rw [unionC_succ]
    have ih := unionC_mem cells g k b c
    by_cases e : g c = k
    · rw [if_pos e, mem_or, Bool.or_eq_true, ih]
      constructor
      · rintro (⟨i, h1, h2, h3⟩ | h)
        · exact ⟨i, by omega, h2, h3⟩
        · exact ⟨c, by omega, e, h⟩
      · rintro ⟨i, h1, h2, h3⟩
        by_cases ei : i = c
        · subst ei; exact .inr h3
        · exact .inl ⟨i, by omega, h2, h3⟩
    · rw [if_neg e, ih]
      constructor
      · rintro ⟨i, h1, h2, h3⟩; exact ⟨i, by omega, h2, h3⟩
      · rintro ⟨i, h1, h2, h3⟩
        by_cases ei : i = c
        · subst ei; exact absurd h2 e
        · exact ⟨i, by omega, h2, h3⟩
/-- the machine that is brought into canonical form: cells that part all bytes, in the order of their least ones, and states in the order of their least words. -/
structure GoodM (L : List Nat → Bool) (cells : List (BitVec 256)) (n : Nat) (nx : Nat → Nat → Nat) (ac : Nat → Bool) (word : Nat → List Nat) : Prop where
  parts : Parts cells
  rg : RG (colOf cells) 256
  pos : 0 < n
  tgt : ∀ i c, i < n → c < cells.length → nx i c < n
  ord : Ordered n cells.length (colOf cells) nx word
  lang : ∀ u, Bytes u → ac (runW (fun s b => nx s (colOf cells b)) 0 u) = L u
/-- the merged classes, rows and marks. -/
def clsC (cells : List (BitVec 256)) (g : Nat → Nat) (K : Nat) : List (BitVec 256) := (List.range K).map fun k => unionC cells g cells.length k
def rowC (f : Nat → Nat) (nx : Nat → Nat → Nat) (x : Nat) (cl : List Nat) : List Nat := cl.map fun c => f (nx x c)
def nextC (f : Nat → Nat) (nx : Nat → Nat → Nat) (fl cl : List Nat) : List (List Nat) := fl.map fun x => rowC f nx x cl
def accC (ac : Nat → Bool) (fl : List Nat) : List Bool := fl.map ac
theorem colOf_cells {cells : List (BitVec 256)} {g : Nat → Nat} {K : Nat} (hp : Parts cells) (hlt : ∀ c, c < cells.length → g c < K) (hon : ∀ k, k < K → ∃ c, c < cells.length ∧ g c = k) :
    Parts (clsC cells g K) ∧ ∀ b, b < 256 → colOf (clsC cells g K) b = g (colOf cells b) := by
  have hmem : ∀ k b, b < 256 → (mem (unionC cells g cells.length k) b = true ↔ g (colOf cells b) = k) := fun k b hb => by
    rw [unionC_mem]
    have hl := hp.col_lt hb
    constructor
    · rintro ⟨i, h1, h2, h3⟩
      rw [List.getD_eq_getElem?_getD, List.getElem?_eq_getElem h1] at h3
      have := (hp.col_iff hb (List.getElem?_eq_getElem h1)).1 h3
      rw [this]; exact h2
    · intro e
      refine ⟨colOf cells b, hl, e, ?_⟩
      rw [List.getD_eq_getElem?_getD, List.getElem?_eq_getElem hl]
      exact (hp.col_iff hb (List.getElem?_eq_getElem hl)).2 rfl
  have hcnt : ∀ b, b < 256 → cntC (clsC cells g K) b = 1 := fun b hb => by
    unfold cntC clsC
    rw [List.filter_map, List.length_map]
    have e1 : (fun k => mem (unionC cells g cells.length k) b) = fun k => decide (k = g (colOf cells b)) := by
      funext k
      rw [Bool.eq_iff_iff, hmem k b hb, decide_eq_true_iff]
      exact eq_comm
    have e2 : ((fun c => mem c b) ∘ fun k => unionC cells g cells.length k) = fun k => decide (k = g (colOf cells b)) := e1
    rw [e2]
    have hx := hlt _ (hp.col_lt hb)
    generalize g (colOf cells b) = x at hx
    have key : ∀ K, x < K → ((List.range K).filter fun k => decide (k = x)).length = 1 := by
      intro K hx
      induction K with
      | zero => omega
      | succ K ih =>
        rw [List.range_succ, List.filter_append, List.length_append]
        by_cases e : K = x
        · subst e
          have : (List.range K).filter (fun k => decide (k = K)) = [] := by
            rw [List.filter_eq_nil_iff]; intro a ha; have := List.mem_range.1 ha; simp; omega
          rw [this]; simp
        · rw [ih (by omega)]; simp [e]
    exact key K hx
  have hP : Parts (clsC cells g K) := by
    refine ⟨fun c hc => ?_, hcnt⟩
    obtain ⟨k, hk, rfl⟩ := List.mem_map.1 hc
    have hk := List.mem_range.1 hk
    obtain ⟨c, hc1, e⟩ := hon k hk
    obtain ⟨b, hb, eb⟩ := hp.some_byte hc1
    have h1 := (hmem k b hb).2 (by rw [eb]; exact e)
    intro e0
    rw [e0] at h1
    simp [mem] at h1
  refine ⟨hP, fun b hb => ?_⟩
  have hx := hlt _ (hp.col_lt hb)
  have hk : (clsC cells g K)[g (colOf cells b)]? = some (unionC cells g cells.length (g (colOf cells b))) := by simp [clsC, hx]
  exact (hP.col_iff hb hk).1 ((hmem _ b hb).2 rfl)
/-- merging the cells that lead all blocks alike, with the stable blocks as states, gives the canonical automaton. -/
theorem GoodM.canon {L : List Nat → Bool} {cells : List (BitVec 256)} {n : Nat} {nx : Nat → Nat → Nat} {ac : Nat → Bool} {word : Nat → List Nat} (h : GoodM L cells n nx ac word) {f : Nat → Nat} {cnt : Nat} (hb : Blocks n cells.length nx ac f cnt)
    (hs : ∀ c, c < cells.length → ∀ a b, a < n → b < n → f a = f b → f (nx a c) = f (nx b c)) {fl : List Nat} (hf : Firsts f n fl) (hfl : fl.length = cnt) {g : Nat → Nat} {K : Nat}
    (hg : Numb (fun c => fl.map fun x => f (nx x c)) cells.length g K) {cl : List Nat} (hcl : Firsts g cells.length cl) (hK : cl.length = K) :
    IsCan L (clsC cells g K) (nextC f nx fl cl) (accC ac fl) := by
  obtain ⟨hP, hcol⟩ := colOf_cells h.parts hg.lt hg.onto
  have hlen : (nextC f nx fl cl).length = cnt := by simp [nextC, hfl]
  have hclen : (clsC cells g K).length = K := by simp [clsC]
  have hx : ∀ k, k < cnt → ∃ x, fl[k]? = some x ∧ x < n ∧ f x = k ∧ ∀ a, f a = k → x ≤ a := fun k hk => by
    have hk' : k < fl.length := by omega
    exact ⟨fl[k], List.getElem?_eq_getElem hk', hf.at_ k _ (List.getElem?_eq_getElem hk')⟩
  have hy : ∀ k, k < K → ∃ c, cl[k]? = some c ∧ c < cells.length ∧ g c = k := fun k hk => by
    have hk' : k < cl.length := by omega
    obtain ⟨h1, h2, _⟩ := hcl.at_ k _ (List.getElem?_eq_getElem hk')
    exact ⟨cl[k], List.getElem?_eq_getElem hk', h1, h2⟩
  have hnx : ∀ k c x, k < cnt → c < cells.length → fl[k]? = some x → nxR (nextC f nx fl cl) k (g c) = f (nx x c) := fun k c x hk hc hxk => by
    obtain ⟨c', h1, h2, h3⟩ := hy (g c) (hg.lt c hc)
    unfold nxR nextC rowC
    rw [List.getD_eq_getElem?_getD (l := List.map _ _), List.getElem?_map, hxk]
    simp only [Option.map_some, Option.getD_some]
    rw [List.getD_eq_getElem?_getD, List.getElem?_map, h1]
    simp only [Option.map_some, Option.getD_some]
    have e := (hg.ker c' c h2 hc).1 h3
    have e2 := congrArg (fun l => l[k]?) e
    simp only [List.getElem?_map, hxk, Option.map_some, Option.some.injEq] at e2
    exact e2
  have hf0 : f 0 = 0 := by
    rcases Nat.eq_zero_or_pos (f 0) with e | e
    · exact e
    · obtain ⟨a, ha, _⟩ := hb.rg 0 h.pos 0 e; omega
  have hcnt : 0 < cnt := by have := hb.lt 0 h.pos; omega
  have hstep : ∀ q b, q < n → b < 256 → stepR (clsC cells g K) (nextC f nx fl cl) (f q) b = f (nx q (colOf cells b)) := fun q b hq hb2 => by
    unfold stepR
    have hc := h.parts.col_lt hb2
    obtain ⟨x, h1, h2, h3, _⟩ := hx (f q) (hb.lt q hq)
    rw [hcol b hb2, hnx (f q) _ x (hb.lt q hq) hc h1]
    exact hs _ hc x q h2 hq h3
  have hrunq : ∀ q u, q < n → Bytes u → runW (fun s b => nx s (colOf cells b)) q u < n := fun q u hq hu => runIn_lt (m := cells.length) h.tgt (fun b hb => h.parts.col_lt hb) hq u hu
  have hrun : ∀ q, q < n → ∀ u, Bytes u → runW (stepR (clsC cells g K) (nextC f nx fl cl)) (f q) u = f (runW (fun s b => nx s (colOf cells b)) q u) := fun q hq u => by
    refine snoc_ind (P := fun u => Bytes u → runW (stepR (clsC cells g K) (nextC f nx fl cl)) (f q) u = f (runW (fun s b => nx s (colOf cells b)) q u)) (fun _ => rfl) (fun u x ih hu => ?_) u
    rw [bytes_snoc] at hu
    rw [runW_snoc, runW_snoc, ih hu.1]
    exact hstep _ x (hrunq q u hq hu.1) hu.2
  have hrun0 : ∀ u, Bytes u → runW (stepR (clsC cells g K) (nextC f nx fl cl)) 0 u = f (runW (fun s b => nx s (colOf cells b)) 0 u) := fun u hu => by
    have := hrun 0 h.pos u hu
    rwa [hf0] at this
  have hac : ∀ q, q < n → (accC ac fl).getD (f q) false = ac q := fun q hq => by
    obtain ⟨x, h1, h2, h3, _⟩ := hx (f q) (hb.lt q hq)
    unfold accC
    rw [List.getD_eq_getElem?_getD, List.getElem?_map, h1]
    exact hb.marks x q h2 hq h3
  -- cells of bytes
  have hcb : ∀ c, c < cells.length → ∃ b, b < 256 ∧ colOf cells b = c := fun c hc => h.parts.some_byte hc
  have hword : ∀ u : List Nat, (∀ c ∈ u, c < cells.length) → ∃ v, Bytes v ∧ v.map (colOf cells) = u := by
    intro u
    induction u with
    | nil => intro _; exact ⟨[], fun b hb => by simp at hb, rfl⟩
    | cons c u ih =>
      intro hu
      obtain ⟨v, h1, h2⟩ := ih fun d hd => hu d (by simp [hd])
      obtain ⟨b, h3, h4⟩ := hcb c (hu c (by simp))
      refine ⟨b :: v, fun x hx => ?_, by simp [h2, h4]⟩
      rcases List.mem_cons.1 hx with rfl | hx
      · exact h3
      · exact h1 x hx
  refine ⟨hP, ?_, by omega, by rw [hlen]; simp [accC, hfl], ?_, ?_, ?_, ?_, ?_⟩
  · intro b hb2 k hk
    rw [hcol b hb2] at hk
    have hc := h.parts.col_lt hb2
    obtain ⟨c', h1, h2⟩ := hg.rg _ hc k hk
    obtain ⟨b', h3, h4⟩ := h.rg b hb2 c' h1
    exact ⟨b', h3, by rw [hcol b' (by omega), h4]; exact h2⟩
  · intro r hr
    obtain ⟨x, hxm, rfl⟩ := List.mem_map.1 hr
    rw [hlen, hclen]
    refine ⟨by simp [rowC, hK], fun t ht => ?_⟩
    obtain ⟨c, hc, rfl⟩ := List.mem_map.1 ht
    obtain ⟨kx, hkx⟩ := List.getElem?_of_mem hxm
    obtain ⟨kc, hkc⟩ := List.getElem?_of_mem hc
    exact hb.lt _ (h.tgt x c (hf.at_ kx x hkx).1 (hcl.at_ kc c hkc).1)
  · intro u hu
    unfold accR
    rw [hrun0 u hu, hac _ (hrunq 0 u h.pos hu)]
    exact h.lang u hu
  · refine ⟨fun k => word (fl.getD k 0), ⟨fun k hk => ?_, fun k hk => ?_, fun k hk u hu e => ?_, fun k k' hkk hk => ?_⟩⟩
    · obtain ⟨x, h1, h2, h3, _⟩ := hx k (by omega)
      simp only [List.getD_eq_getElem?_getD, h1, Option.getD_some]
      exact h.ord.bytes x h2
    · obtain ⟨x, h1, h2, h3, _⟩ := hx k (by omega)
      simp only [List.getD_eq_getElem?_getD, h1, Option.getD_some]
      have := hrun0 (word x) (h.ord.bytes x h2)
      rw [h.ord.run x h2, h3] at this
      exact this
    · obtain ⟨x, h1, h2, h3, h4⟩ := hx k (by omega)
      simp only [List.getD_eq_getElem?_getD, h1, Option.getD_some]
      have e2 := hrun0 u hu
      have e3 : f (runW (fun s b => nx s (colOf cells b)) 0 u) = k := e2.symm.trans e
      have hle := h4 _ e3
      have hq := hrunq 0 u h.pos hu
      refine wle_trans ?_ (h.ord.least _ hq u hu rfl)
      rcases Nat.lt_or_eq_of_le hle with h5 | h5
      · exact .inr (h.ord.mono _ _ h5 hq)
      · rw [h5]; exact wle_refl _
    · obtain ⟨x, h1, h2, h3, h4⟩ := hx k (by omega)
      obtain ⟨x', h1', h2', h3', h4'⟩ := hx k' (by omega)
      simp only [List.getD_eq_getElem?_getD, h1, h1', Option.getD_some]
      refine h.ord.mono _ _ ?_ h2'
      obtain ⟨a, ha, e⟩ := hb.rg x' h2' k (by omega)
      have := h4 a e
      omega
  · intro i j hi hj hne
    obtain ⟨x, h1, h2, h3, _⟩ := hx i (by omega)
    obtain ⟨y, g1, g2, g3, _⟩ := hx j (by omega)
    have hnot : ¬ Equi n cells.length nx ac x y := fun he => hne (by rw [← h3, ← g3]; exact hb.coarse x y h2 g2 he)
    have hex : ∃ u : List Nat, (∀ c ∈ u, c < cells.length) ∧ ac (u.foldl nx x) ≠ ac (u.foldl nx y) := by
      rcases Classical.em (∃ u : List Nat, (∀ c ∈ u, c < cells.length) ∧ ac (u.foldl nx x) ≠ ac (u.foldl nx y)) with h5 | h5
      · exact h5
      · exfalso; apply hnot; intro u hu
        rcases Classical.em (ac (u.foldl nx x) = ac (u.foldl nx y)) with h6 | h6
        · exact h6
        · exact absurd ⟨u, hu, h6⟩ h5
    obtain ⟨u, hu, hd⟩ := hex
    obtain ⟨v, hv, rfl⟩ := hword u hu
    refine ⟨v, hv, ?_⟩
    rw [← h3, ← g3, hrun x h2 v hv, hrun y g2 v hv, hac _ (hrunq x v h2 hv), hac _ (hrunq y v g2 hv)]
    rw [List.foldl_map, List.foldl_map] at hd
    exact hd
  · intro k k' hk hk' hne
    rw [hclen] at hk hk'
    obtain ⟨c, h1, h2, h3⟩ := hy k hk
    obtain ⟨c', g1, g2, g3⟩ := hy k' hk'
    have hd : (fl.map fun x => f (nx x c)) ≠ (fl.map fun x => f (nx x c')) := fun e => hne (by rw [← h3, ← g3]; exact (hg.ker c c' h2 g2).2 e)
    have hex : ∃ (s x : Nat), fl[s]? = some x ∧ f (nx x c) ≠ f (nx x c') := by
      rcases Classical.em (∃ (s x : Nat), fl[s]? = some x ∧ f (nx x c) ≠ f (nx x c')) with h5 | h5
      · exact h5
      · exfalso; apply hd
        apply List.ext_getElem?
        intro s
        simp only [List.getElem?_map]
        cases hsx : fl[s]? with
        | none => rfl
        | some x =>
          simp only [Option.map_some, Option.some.injEq]
          rcases Nat.decEq (f (nx x c)) (f (nx x c')) with h6 | h6
          · exact absurd ⟨s, x, hsx, h6⟩ h5
          · exact h6
    obtain ⟨s, x, hsx, hd2⟩ := hex
    have hsl : s < cnt := by have := (List.getElem?_eq_some_iff.1 hsx).1; omega
    refine ⟨s, by omega, ?_⟩
    rw [← h3, ← g3, hnx s c x hsl h2 hsx, hnx s c' x hsl g2 hsx]
    exact hd2
/-- with more than 64 blocks there is no canonical automaton of 64 states. -/
theorem GoodM.big {L : List Nat → Bool} {cells : List (BitVec 256)} {n : Nat} {nx : Nat → Nat → Nat} {ac : Nat → Bool} {word : Nat → List Nat} (h : GoodM L cells n nx ac word) {f : Nat → Nat} {cnt : Nat} (hb : Blocks n cells.length nx ac f cnt)
    {cls : List (BitVec 256)} {next : List (List Nat)} {acc : List Bool} (hC : IsCan L cls next acc) : cnt ≤ next.length := by
  have hrep : ∀ k, ∃ x, k < cnt → x < n ∧ f x = k := fun k => by
    by_cases hk : k < cnt
    · obtain ⟨x, hx⟩ := hb.onto k hk; exact ⟨x, fun _ => hx⟩
    · exact ⟨0, fun h => absurd h hk⟩
  obtain ⟨rep, hrep⟩ := Classical.axiomOfChoice hrep
  have hrunq : ∀ q u, q < n → Bytes u → runW (fun s b => nx s (colOf cells b)) q u < n := fun q u hq hu => runIn_lt (m := cells.length) h.tgt (fun b hb => h.parts.col_lt hb) hq u hu
  have hinj : ∀ a b, a < n → b < n → runW (stepR cls next) 0 (word a) = runW (stepR cls next) 0 (word b) → f a = f b := fun a b ha hb2 e => by
    refine hb.coarse a b ha hb2 fun u hu => ?_
    have hword : ∃ v, Bytes v ∧ v.map (colOf cells) = u := by
      clear e
      induction u with
      | nil => exact ⟨[], fun b hb => by simp at hb, rfl⟩
      | cons c u ih =>
        obtain ⟨v, h1, h2⟩ := ih fun d hd => hu d (by simp [hd])
        obtain ⟨b, h3, h4⟩ := h.parts.some_byte (hu c (by simp))
        refine ⟨b :: v, fun x hx => ?_, by simp [h2, h4]⟩
        rcases List.mem_cons.1 hx with rfl | hx
        · exact h3
        · exact h1 x hx
    obtain ⟨v, hv, rfl⟩ := hword
    have e2 := (hC.same_iff (h.ord.bytes a ha) (h.ord.bytes b hb2)).1 e v hv
    rw [← h.lang _ (bytes_append.2 ⟨h.ord.bytes a ha, hv⟩), ← h.lang _ (bytes_append.2 ⟨h.ord.bytes b hb2, hv⟩), runW_append, runW_append, h.ord.run a ha, h.ord.run b hb2] at e2
    rw [List.foldl_map, List.foldl_map]
    exact e2
  have hnd : ((List.range cnt).map fun k => runW (stepR cls next) 0 (word (rep k))).Nodup := by
    rw [List.Nodup, List.pairwise_map]
    refine List.Pairwise.imp_of_mem (R := (· ≠ ·)) (fun {a b} ha hb hab e => ?_) List.nodup_range
    obtain ⟨a1, a2⟩ := hrep a (List.mem_range.1 ha)
    obtain ⟨b1, b2⟩ := hrep b (List.mem_range.1 hb)
    have := hinj _ _ a1 b1 e
    exact hab (by rw [← a2, ← b2]; exact this)
  have hall : ∀ x ∈ (List.range cnt).map fun k => runW (stepR cls next) 0 (word (rep k)), x < next.length := fun x hx => by
    obtain ⟨k, hk, rfl⟩ := List.mem_map.1 hx
    exact hC.run_lt hC.pos (h.ord.bytes _ (hrep k (List.mem_range.1 hk)).1)
  have := nodup_lt hnd hall
  simpa using this
end Go.Proofs.YtkhphiilnplgjaaGreatDoor

namespace Go.Proofs.YtkhphiilnplgjaaGreatDoor

theorem mem_ext {x y : BitVec 256} (h : ∀ j, j < 256 → mem x j = mem y j) : x = y := BitVec.eq_of_getLsbD_eq h
theorem mem_and (x y : BitVec 256) (j : Nat) : mem (x &&& y) j = (mem x j && mem y j) := BitVec.getLsbD_and
theorem mem_not (x : BitVec 256) (j : Nat) (hj : j < 256) : mem (~~~x) j = !mem x j := by unfold mem; rw [BitVec.getLsbD_not]; simp [hj]
theorem mem_zero (j : Nat) : mem 0 j = false := by unfold mem; simp
theorem mem_bit (b j : Nat) (hb : b < 256) : mem (bit b) j = decide (b = j) := bit_getLsbD b j hb
theorem mem_sel (p : Nat → Bool) (j : Nat) (hj : j < 256) : mem (sel p 256) j = p j := by unfold mem; rw [sel_bit p j 256 (Nat.le_refl _)]; simp [hj]
theorem mem_lt {x : BitVec 256} {j : Nat} (h : mem x j = true) : j < 256 := by
  rcases Nat.lt_or_ge j 256 with hl | hl
  · exact hl
  · unfold mem at h; rw [BitVec.getLsbD_of_ge _ _ hl] at h; cases h
theorem exists_mem {x : BitVec 256} (h : x ≠ 0) : ∃ j, mem x j = true := by
  by_cases e : ∃ j, mem x j = true
  · exact e
  · exfalso
    apply h
    apply mem_ext; intro j _
    rw [mem_zero]
    cases hm : mem x j with
    | false => rfl
    | true => exact (e ⟨j, hm⟩).elim
theorem ne_zero_of_mem {x : BitVec 256} {j : Nat} (h : mem x j = true) : x ≠ 0 := by
  rintro rfl; rw [mem_zero] at h; cases h

/-- the least member, or -1. -/
def leastOf (x : BitVec 256) : Int := (mems x 256).headD (-1)
theorem mems_head (x : BitVec 256) (i : Nat) (hi : mem x i = true) (hlt : ∀ j, j < i → mem x j = false) : ∀ k, i < k → (mems x k).head? = some (i : Int) := by
  intro k hk
  unfold mems
  rw [filter_first (mem x) i hi hlt k hk]; rfl
theorem leastOf_eq (x : BitVec 256) (i : Nat) (hi : mem x i = true) (hlt : ∀ j, j < i → mem x j = false) : leastOf x = i := by
  have h := mems_head x i hi hlt 256 (mem_lt hi)
  unfold leastOf
  cases hm : mems x 256 with
  | nil => rw [hm] at h; cases h
  | cons z r => rw [hm] at h; simpa using h
theorem first_mem (x : BitVec 256) : ∀ n, (∃ j, j < n ∧ mem x j = true) → ∃ i, i < n ∧ mem x i = true ∧ ∀ j, j < i → mem x j = false
  | 0, h => by obtain ⟨j, hj, _⟩ := h; omega
  | n + 1, h => by
    by_cases e : ∃ j, j < n ∧ mem x j = true
    · obtain ⟨i, h1, h2, h3⟩ := first_mem x n e
      exact ⟨i, by omega, h2, h3⟩
    · obtain ⟨j, hj, hm⟩ := h
      have hjn : j = n := by
        rcases Nat.lt_or_ge j n with hl | hl
        · exact (e ⟨j, hl, hm⟩).elim
        · omega
      subst hjn
      refine ⟨j, by omega, hm, fun i hi => ?_⟩
      cases hmi : mem x i with
      | false => rfl
      | true => exact (e ⟨i, hi, hmi⟩).elim
theorem least_spec (x : BitVec 256) (h : x ≠ 0) : ∃ i, i < 256 ∧ mem x i = true ∧ (∀ j, j < i → mem x j = false) ∧ leastOf x = i := by
  obtain ⟨j, hj⟩ := exists_mem h
  obtain ⟨i, h1, h2, h3⟩ := first_mem x 256 ⟨j, mem_lt hj, hj⟩
  exact ⟨i, h1, h2, h3, leastOf_eq x i h2 h3⟩

/-- two bytes are members of the same classes. -/
def alike (cs : List (BitVec 256)) (i j : Nat) : Bool := cs.all fun c => mem c i == mem c j
theorem alike_iff (cs : List (BitVec 256)) (i j : Nat) : alike cs i j = true ↔ ∀ c ∈ cs, mem c i = mem c j := by
  unfold alike; rw [List.all_eq_true]; simp
theorem alike_refl (cs : List (BitVec 256)) (i : Nat) : alike cs i i = true := (alike_iff cs i i).2 fun _ _ => rfl
theorem alike_symm (cs : List (BitVec 256)) (i j : Nat) : alike cs i j = alike cs j i := by
  rw [Bool.eq_iff_iff, alike_iff, alike_iff]
  exact ⟨fun h c hc => (h c hc).symm, fun h c hc => (h c hc).symm⟩
theorem alike_trans {cs : List (BitVec 256)} {i j k : Nat} (h : alike cs i j = true) : alike cs i k = alike cs j k := by
  rw [Bool.eq_iff_iff, alike_iff, alike_iff]
  have h' := (alike_iff cs i j).1 h
  exact ⟨fun g c hc => (h' c hc).symm.trans (g c hc), fun g c hc => (h' c hc).trans (g c hc)⟩
theorem alike_snoc (cs : List (BitVec 256)) (c : BitVec 256) (i j : Nat) : alike (cs ++ [c]) i j = (alike cs i j && (mem c i == mem c j)) := by
  unfold alike; rw [List.all_append]; simp

def cls (cs : List (BitVec 256)) (i : Nat) : BitVec 256 := sel (fun j => alike cs i j) 256
def isRep (cs : List (BitVec 256)) (i : Nat) : Bool := (List.range i).all fun j => !alike cs j i
def reps (cs : List (BitVec 256)) (k : Nat) : List Nat := (List.range k).filter (isRep cs)
/-- the cells, in the order of their least members. -/
def canon (cs : List (BitVec 256)) : List (BitVec 256) := (reps cs 256).map (cls cs)

theorem mem_cls (cs : List (BitVec 256)) (i j : Nat) (hj : j < 256) : mem (cls cs i) j = alike cs i j := mem_sel _ j hj
theorem isRep_iff (cs : List (BitVec 256)) (i : Nat) : isRep cs i = true ↔ ∀ j, j < i → alike cs j i = false := by
  unfold isRep; rw [List.all_eq_true]; simp
theorem least_cls (cs : List (BitVec 256)) (i : Nat) (hi : i < 256) (hr : isRep cs i = true) : leastOf (cls cs i) = i := by
  apply leastOf_eq
  · rw [mem_cls _ _ _ hi]; exact alike_refl cs i
  · intro j hj; rw [mem_cls _ _ _ (by omega), alike_symm]; exact (isRep_iff cs i).1 hr j hj
/-- every byte is alike to a representative. -/
theorem rep_of (cs : List (BitVec 256)) (j : Nat) : ∃ i, i ≤ j ∧ isRep cs i = true ∧ alike cs i j = true := by
  induction j using Nat.strongRecOn with
  | _ j ih =>
    by_cases h : isRep cs j = true
    · exact ⟨j, Nat.le_refl _, h, alike_refl cs j⟩
    · have : ∃ i, i < j ∧ alike cs i j = true := by
        by_cases e : ∃ i, i < j ∧ alike cs i j = true
        · exact e
        · exfalso; apply h; rw [isRep_iff]; intro i hi
          cases ha : alike cs i j with
          | false => rfl
          | true => exact (e ⟨i, hi, ha⟩).elim
      obtain ⟨i, hi, ha⟩ := this
      obtain ⟨r, h1, h2, h3⟩ := ih i hi
      exact ⟨r, by omega, h2, by rw [alike_trans h3]; exact ha⟩

def disj (p q : BitVec 256) : Prop := ∀ j, ¬ (mem p j = true ∧ mem q j = true)
/-- l is the partition that cs induces, in whatever order. -/
structure Inv (cs l : List (BitVec 256)) : Prop where
  cover : ∀ j, j < 256 → ∃ p ∈ l, mem p j = true
  ne : ∀ p ∈ l, p ≠ 0
  same : ∀ p ∈ l, ∀ i j, j < 256 → mem p i = true → mem p j = alike cs i j
  apart : l.Pairwise disj

def isZ (q : BitVec 256) : Bool := decide (q = 0)
def parts2 (c p : BitVec 256) : List (BitVec 256) := [p &&& c, p &&& ~~~c].filter (fun q => !isZ q)
def splitL (c : BitVec 256) (l : List (BitVec 256)) : List (BitVec 256) := l.flatMap (parts2 c)
theorem mem_parts2 (c p q : BitVec 256) : q ∈ parts2 c p ↔ (q = p &&& c ∨ q = p &&& ~~~c) ∧ q ≠ 0 := by
  unfold parts2 isZ; simp
theorem Inv.split {cs l : List (BitVec 256)} (h : Inv cs l) (c : BitVec 256) : Inv (cs ++ [c]) (splitL c l) where
  cover j hj := by
    obtain ⟨p, hp, hm⟩ := h.cover j hj
    cases hc : mem c j with
    | true =>
      have hq : mem (p &&& c) j = true := by rw [mem_and, hm, hc]; rfl
      exact ⟨p &&& c, List.mem_flatMap.2 ⟨p, hp, (mem_parts2 _ _ _).2 ⟨.inl rfl, ne_zero_of_mem hq⟩⟩, hq⟩
    | false =>
      have hq : mem (p &&& ~~~c) j = true := by rw [mem_and, mem_not _ _ hj, hm, hc]; rfl
      exact ⟨p &&& ~~~c, List.mem_flatMap.2 ⟨p, hp, (mem_parts2 _ _ _).2 ⟨.inr rfl, ne_zero_of_mem hq⟩⟩, hq⟩
  ne q hq := by
    obtain ⟨p, _, hp⟩ := List.mem_flatMap.1 hq
    exact ((mem_parts2 _ _ _).1 hp).2
  same q hq i j hj hi := by
    obtain ⟨p, hp, hpq⟩ := List.mem_flatMap.1 hq
    have hi256 := mem_lt hi
    rcases ((mem_parts2 _ _ _).1 hpq).1 with rfl | rfl
    · rw [mem_and, Bool.and_eq_true] at hi
      rw [mem_and, alike_snoc, h.same p hp i j hj hi.1, hi.2]; cases mem c j <;> rfl
    · rw [mem_and, Bool.and_eq_true, mem_not _ _ hi256] at hi
      have hci : mem c i = false := by simpa using hi.2
      rw [mem_and, mem_not _ _ hj, alike_snoc, h.same p hp i j hj hi.1, hci]; cases mem c j <;> rfl
  apart := by
    unfold splitL
    rw [List.pairwise_flatMap]
    have hsub : ∀ p q, q ∈ parts2 c p → ∀ j, mem q j = true → mem p j = true := by
      intro p q hq j hj
      rcases ((mem_parts2 _ _ _).1 hq).1 with rfl | rfl <;> (rw [mem_and, Bool.and_eq_true] at hj; exact hj.1)
    refine ⟨fun p _ => ?_, h.apart.imp fun {a b} hab x hx y hy j hj => hab j ⟨hsub a x hx j hj.1, hsub b y hy j hj.2⟩⟩
    unfold parts2
    refine List.Pairwise.filter _ ?_
    refine List.pairwise_cons.2 ⟨fun q hq => ?_, List.pairwise_singleton _ _⟩
    obtain rfl : q = p &&& ~~~c := by simpa using hq
    rintro j ⟨h1, h2⟩
    have hj := mem_lt h1
    rw [mem_and, Bool.and_eq_true] at h1 h2
    rw [mem_not _ _ hj, h1.2] at h2
    simp at h2
theorem Inv.perm {cs l m : List (BitVec 256)} (h : Inv cs l) (hp : l.Perm m) : Inv cs m where
  cover j hj := by obtain ⟨p, h1, h2⟩ := h.cover j hj; exact ⟨p, hp.mem_iff.1 h1, h2⟩
  ne p h1 := h.ne p (hp.mem_iff.2 h1)
  same p h1 := h.same p (hp.mem_iff.2 h1)
  apart := (hp.pairwise_iff (fun {a b} hab j hj => hab j ⟨hj.2, hj.1⟩)).1 h.apart
theorem Inv.cls_of {cs l : List (BitVec 256)} (h : Inv cs l) {p : BitVec 256} (hp : p ∈ l) {i : Nat} (hi : mem p i = true) : p = cls cs i :=
  mem_ext fun j hj => by rw [mem_cls _ _ _ hj]; exact h.same p hp i j hj hi
theorem least_lt_of_disj {p q : BitVec 256} (hp : p ≠ 0) (hq : q ≠ 0) (hd : disj p q) : leastOf p ≠ leastOf q := by
  obtain ⟨i, _, h1, _, e1⟩ := least_spec p hp
  obtain ⟨j, _, h2, _, e2⟩ := least_spec q hq
  intro e
  have : i = j := by omega
  subst this
  exact hd i ⟨h1, h2⟩
/-- two strictly sorted lists with the same elements. -/
theorem eq_of_incr {α : Type} (f : α → Int) : ∀ l m : List α, l.Pairwise (fun a b => f a < f b) → m.Pairwise (fun a b => f a < f b) → (∀ x, x ∈ l ↔ x ∈ m) → l = m
  | [], [], _, _, _ => rfl
  | [], b :: m, _, _, h => by have := (h b).2 (by simp); simp at this
  | a :: l, [], _, _, h => by have := (h a).1 (by simp); simp at this
  | a :: l, b :: m, hl, hm, h => by
    obtain ⟨ha, hl'⟩ := List.pairwise_cons.1 hl
    obtain ⟨hb, hm'⟩ := List.pairwise_cons.1 hm
    have hab : a = b := by
      rcases List.mem_cons.1 ((h a).1 (by simp)) with e | e
      · exact e
      · rcases List.mem_cons.1 ((h b).2 (by simp)) with e' | e'
        · exact e'.symm
        · have h1 := hb a e; have h2 := ha b e'; omega
    subst hab
    refine congrArg (a :: ·) (eq_of_incr f l m hl' hm' fun x => ⟨fun hx => ?_, fun hx => ?_⟩)
    · rcases List.mem_cons.1 ((h x).1 (List.mem_cons_of_mem _ hx)) with e | e
      · subst e; have := ha x hx; omega
      · exact e
    · rcases List.mem_cons.1 ((h x).2 (List.mem_cons_of_mem _ hx)) with e | e
      · subst e; have := hb x hx; omega
      · exact e
theorem canon_mem (cs : List (BitVec 256)) (p : BitVec 256) : p ∈ canon cs ↔ ∃ i, i < 256 ∧ isRep cs i = true ∧ p = cls cs i := by
  unfold canon reps
  simp only [List.mem_map, List.mem_filter, List.mem_range]
  exact ⟨fun ⟨i, ⟨h1, h2⟩, h3⟩ => ⟨i, h1, h2, h3.symm⟩, fun ⟨i, h1, h2, h3⟩ => ⟨i, ⟨h1, h2⟩, h3.symm⟩⟩
theorem canon_incr (cs : List (BitVec 256)) : (canon cs).Pairwise (fun a b => leastOf a < leastOf b) := by
  unfold canon
  rw [List.pairwise_map]
  have h1 : (reps cs 256).Pairwise (· < ·) := List.Pairwise.filter _ List.pairwise_lt_range
  refine List.Pairwise.imp_of_mem ?_ h1
  intro a b ha hb hab
  simp only [reps, List.mem_filter, List.mem_range] at ha hb
  rw [least_cls cs a ha.1 ha.2, least_cls cs b hb.1 hb.2]; omega
theorem Inv.mem_canon {cs l : List (BitVec 256)} (h : Inv cs l) (p : BitVec 256) : p ∈ l ↔ p ∈ canon cs := by
  rw [canon_mem]
  constructor
  · intro hp
    obtain ⟨i, hi, h1, h2, _⟩ := least_spec p (h.ne p hp)
    refine ⟨i, hi, (isRep_iff cs i).2 fun j hj => ?_, h.cls_of hp h1⟩
    have := h.same p hp i j (by omega) h1
    rw [alike_symm, ← this]; exact h2 j hj
  · rintro ⟨i, hi, hr, rfl⟩
    obtain ⟨p, hp, hm⟩ := h.cover i hi
    rw [← h.cls_of hp hm]; exact hp
theorem Inv.eq_canon {cs l : List (BitVec 256)} (h : Inv cs l) (hs : l.Pairwise (fun a b => leastOf a < leastOf b)) : l = canon cs :=
  eq_of_incr leastOf _ _ hs (canon_incr cs) h.mem_canon
theorem Inv.incr_of_le {cs l : List (BitVec 256)} (h : Inv cs l) (hs : l.Pairwise (fun a b => leastOf a ≤ leastOf b)) : l.Pairwise (fun a b => leastOf a < leastOf b) := by
  have h2 := List.Pairwise.and hs h.apart
  refine List.Pairwise.imp_of_mem ?_ h2
  intro a b ha hb hab
  have := least_lt_of_disj (h.ne a ha) (h.ne b hb) hab.2
  have := hab.1
  omega
theorem canon_len (cs : List (BitVec 256)) : (canon cs).length ≤ 256 := by
  unfold canon reps; rw [List.length_map]; exact Nat.le_trans (List.length_filter_le _ _) (by simp)
theorem Inv.len {cs l : List (BitVec 256)} (h : Inv cs l) : l.length ≤ 256 := by
  let m := l.mergeSort fun a b => decide (leastOf a ≤ leastOf b)
  have hp : l.Perm m := (List.mergeSort_perm _ _).symm
  have hs : m.Pairwise (fun a b => leastOf a ≤ leastOf b) := by
    have := List.pairwise_mergeSort (le := fun a b : BitVec 256 => decide (leastOf a ≤ leastOf b)) (fun a b c h1 h2 => by simp at *; omega) (fun a b => by simp; omega) l
    exact this.imp fun hab => by simpa using hab
  have hi := h.perm hp
  rw [hp.length_eq, hi.eq_canon (hi.incr_of_le hs)]
  exact canon_len cs
theorem canon_congr {cs ds : List (BitVec 256)} (h : ∀ i j, i < 256 → j < 256 → alike cs i j = alike ds i j) : canon cs = canon ds := by
  have h1 : ∀ i, i < 256 → isRep cs i = isRep ds i := by
    intro i hi
    rw [Bool.eq_iff_iff, isRep_iff, isRep_iff]
    exact ⟨fun g j hj => by rw [← h j i (by omega) hi]; exact g j hj, fun g j hj => by rw [h j i (by omega) hi]; exact g j hj⟩
  have h2 : reps cs 256 = reps ds 256 := List.filter_congr fun i hi => h1 i (List.mem_range.1 hi)
  unfold canon
  rw [h2]
  refine List.map_congr_left fun i hi => ?_
  simp only [reps, List.mem_filter, List.mem_range] at hi
  exact mem_ext fun j hj => by rw [mem_cls _ _ _ hj, mem_cls _ _ _ hj, h i j hi.1 hj]
/-- the canonical list is the partition. -/
theorem canon_inv (cs : List (BitVec 256)) : Inv cs (canon cs) where
  cover j hj := by
    obtain ⟨i, h1, h2, h3⟩ := rep_of cs j
    exact ⟨cls cs i, (canon_mem _ _).2 ⟨i, by omega, h2, rfl⟩, by rw [mem_cls _ _ _ hj]; exact h3⟩
  ne p hp := by
    obtain ⟨i, hi, _, rfl⟩ := (canon_mem _ _).1 hp
    exact ne_zero_of_mem (j := i) (by rw [mem_cls _ _ _ hi]; exact alike_refl _ _)
  same p hp i j hj hi := by
    obtain ⟨r, _, _, rfl⟩ := (canon_mem _ _).1 hp
    have hi256 := mem_lt hi
    rw [mem_cls _ _ _ hi256] at hi
    rw [mem_cls _ _ _ hj, alike_trans hi]
  apart := by
    unfold canon
    rw [List.pairwise_map]
    have h1 : (reps cs 256).Pairwise (· < ·) := List.Pairwise.filter _ List.pairwise_lt_range
    refine List.Pairwise.imp_of_mem ?_ h1
    rintro a b ha hb hab j ⟨h2, h3⟩
    have hj := mem_lt h2
    simp only [reps, List.mem_filter, List.mem_range] at ha hb
    rw [mem_cls _ _ _ hj] at h2 h3
    have := (isRep_iff cs b).1 hb.2 a hab
    rw [alike_trans h2, alike_symm, h3] at this
    cases this
end Go.Proofs.YtkhphiilnplgjaaGreatDoor
