/-
  Walks: the automata reference asks whether classes part all bytes, and whether an automaton is valid: no condition.
-/
import Derived.Test.YtepncbbegpeilaaDoorDp
import Derived.Test.YtepncbbegpeilaaDoorDv
import Derived.BigQuiet
import Derived.Deep.QuietTactic
set_option linter.unusedSimpArgs false
set_option linter.unusedVariables false
namespace Go.Proofs.YtepncbbegpeilaaDoor

/-- how many of the classes hold the byte. -/
def cntC (l : List (BitVec 256)) (b : Nat) : Nat := (l.filter fun c => mem c b).length
/-- the reference's question: no class is empty, and each byte lies in one of them alone. -/
def rpartB (l : List (BitVec 256)) : Bool := decide (1 ≤ l.length) && (decide (l.length ≤ 256) && ((l.all fun c => !decide (c = 0)) && (List.range 256).all fun b => decide (cntC l b = 1)))
theorem cntC_cons (c : BitVec 256) (l : List (BitVec 256)) (b : Nat) : cntC (c :: l) b = (mem c b).toNat + cntC l b := by
  unfold cntC; rw [List.filter_cons]; cases mem c b <;> simp <;> omega
theorem mem_or (x y : BitVec 256) (b : Nat) : mem (x ||| y) b = (mem x b || mem y b) := by unfold mem; simp
theorem mem_ge (x : BitVec 256) (b : Nat) (h : 256 ≤ b) : mem x b = false := BitVec.getLsbD_of_ge x b h
theorem apart_iff (x y : BitVec 256) : x &&& y = 0 ↔ ∀ b, b < 256 → (mem x b && mem y b) = false := by
  constructor
  · intro h b _
    have := congrArg (fun z => z.getLsbD b) h
    simpa [mem] using this
  · intro h
    apply BitVec.eq_of_getLsbD_eq
    intro i hi
    have := h i hi
    simpa [mem] using this
theorem all_iff (x : BitVec 256) : (mems x 256).length = 256 ↔ ∀ b, b < 256 → mem x b = true := by
  unfold mems
  rw [List.length_map]
  have key : ((List.range 256).filter (mem x)).length = (List.range 256).length ↔ ∀ b ∈ List.range 256, mem x b = true := by
    rw [← List.countP_eq_length_filter, List.countP_eq_length]
  rw [List.length_range] at key
  rw [key]
  simp only [List.mem_range]
theorem partB_iff : ∀ (l : List (BitVec 256)) (seen : BitVec 256), partB seen l = true ↔ (∀ c ∈ l, c ≠ 0) ∧ ∀ b, b < 256 → (mem seen b).toNat + cntC l b = 1
  | [], seen => by
    unfold partB
    rw [decide_eq_true_iff, all_iff]
    constructor
    · intro h; exact ⟨by simp, fun b hb => by rw [h b hb]; rfl⟩
    · rintro ⟨_, h⟩ b hb
      have := h b hb
      cases hm : mem seen b
      · rw [hm] at this; simp [cntC] at this
      · rfl
  | c :: l, seen => by
    unfold partB
    rw [Bool.and_eq_true, Bool.and_eq_true, partB_iff l, Bool.not_eq_true', decide_eq_false_iff_not, decide_eq_true_iff, apart_iff]
    constructor
    · rintro ⟨h0, h1, h2, h3⟩
      refine ⟨fun d hd => ?_, fun b hb => ?_⟩
      · rcases List.mem_cons.1 hd with rfl | hd
        · exact h0
        · exact h2 d hd
      · have e1 := h1 b hb
        have e3 := h3 b hb
        rw [mem_or] at e3
        rw [cntC_cons]
        cases hs : mem seen b <;> cases hc : mem c b <;> rw [hs, hc] at e1 e3 <;> simp at e1 e3 ⊢ <;> omega
    · rintro ⟨h0, h1⟩
      refine ⟨h0 c (by simp), fun b hb => ?_, fun d hd => h0 d (by simp [hd]), fun b hb => ?_⟩
      · have := h1 b hb
        rw [cntC_cons] at this
        cases hs : mem seen b <;> cases hc : mem c b <;> rw [hs, hc] at this <;> simp at this ⊢
      · have := h1 b hb
        rw [cntC_cons] at this
        rw [mem_or]
        cases hs : mem seen b <;> cases hc : mem c b <;> rw [hs, hc] at this <;> simp at this ⊢ <;> omega
theorem filter_grow (p q : Nat → Bool) (hpq : ∀ b, p b = true → q b = true) (x : Nat) (hx : q x = true) (hx' : p x = false) : ∀ (l : List Nat), x ∈ l → (l.filter p).length + 1 ≤ (l.filter q).length
  | [], h => by simp at h
  | y :: l, h => by
    have hle : ∀ l : List Nat, (l.filter p).length ≤ (l.filter q).length := by
      intro l
      induction l with
      | nil => simp
      | cons z l ih =>
        rw [List.filter_cons, List.filter_cons]
        cases hp : p z
        · cases hq : q z <;> simp <;> omega
        · rw [hpq z hp]; simp; omega
    rw [List.filter_cons, List.filter_cons]
    by_cases e : x = y
    · subst e
      rw [hx, hx']
      have := hle l
      simp; omega
    · have ih := filter_grow p q hpq x hx hx' l (by rcases List.mem_cons.1 h with h | h; exact absurd h e; exact h)
      cases hp : p y
      · cases hq : q y <;> simp <;> omega
      · rw [hpq y hp]; simp; omega
theorem partB_len : ∀ (l : List (BitVec 256)) (seen : BitVec 256), partB seen l = true → l.length + ((List.range 256).filter (mem seen)).length ≤ 256
  | [], seen, _ => by have := List.length_filter_le (mem seen) (List.range 256); simp at this ⊢; exact this
  | c :: l, seen, h => by
    unfold partB at h
    rw [Bool.and_eq_true, Bool.and_eq_true, Bool.not_eq_true', decide_eq_false_iff_not, decide_eq_true_iff, apart_iff] at h
    obtain ⟨h0, h1, h2⟩ := h
    have ih := partB_len l _ h2
    have hx : ∃ x, x < 256 ∧ mem c x = true := by
      by_cases hx : ∃ x, x < 256 ∧ mem c x = true
      · exact hx
      · exfalso; apply h0
        apply BitVec.eq_of_getLsbD_eq
        intro i hi
        cases hm : c.getLsbD i
        · simp
        · exact absurd ⟨i, hi, hm⟩ hx
    obtain ⟨x, hx, hxc⟩ := hx
    have hxs : mem seen x = false := by have := h1 x hx; rw [hxc] at this; simpa using this
    have key := filter_grow (mem seen) (mem (seen ||| c)) (fun b hb => by rw [mem_or, hb]; rfl) x (by rw [mem_or, hxc]; simp) hxs (List.range 256) (List.mem_range.2 hx)
    rw [List.length_cons]; omega
theorem rpartB_eq (l : List (BitVec 256)) : rpartB l = partB 0 l := by
  rw [Bool.eq_iff_iff, partB_iff]
  unfold rpartB
  simp only [Bool.and_eq_true, decide_eq_true_iff, List.all_eq_true, Bool.not_eq_true', decide_eq_false_iff_not, List.mem_range]
  have z : ∀ b, (mem 0 b).toNat = 0 := fun b => by simp [mem]
  constructor
  · rintro ⟨_, _, h1, h2⟩
    exact ⟨h1, fun b hb => by rw [z, h2 b hb]⟩
  · rintro ⟨h1, h2⟩
    have hp : partB 0 l = true := (partB_iff l 0).2 ⟨h1, h2⟩
    have hl := partB_len l 0 hp
    refine ⟨?_, by omega, h1, fun b hb => by have := h2 b hb; rw [z] at this; omega⟩
    cases l with
    | nil => have := h2 0 (by decide); rw [z] at this; simp [cntC] at this
    | cons c l => simp
end Go.Proofs.YtepncbbegpeilaaDoor
namespace Go.Proofs.YtepncbbegpeilaaDoor
open Go.RowKit Go.Lib

set_option maxHeartbeats 400000 in
theorem rhas3_any (x : BitVec 256) (b : Int) (w : World) (h0 : 0 ≤ b) (h1 : b < 256) :
    Calls Tryd.prog 51 #[.agg #[.int .u64 (wd x 0), .int .u64 (wd x 1), .int .u64 (wd x 2), .int .u64 (wd x 3)], .int .i64 b] w fun e w' => e = .returned (.bool (mem x b.toNat)) ∧ Below w.heap.size w w' := by
  have hq : b / 64 = 0 ∨ b / 64 = 1 ∨ b / 64 = 2 ∨ b / 64 = 3 := by omega
  rcases hq with hq | hq | hq | hq
  all_goals
    go_enter Tryd.func51, Tryd.ntmps51
    go_wp2
    go_returns
    refine ⟨ret_bool (has_mod' x b h0 _ hq), ?_⟩
    go_grown
theorem rhas3_nat (x : BitVec 256) (b : Nat) (w : World) (h1 : b < 256) :
    Calls Tryd.prog 51 #[.agg #[.int .u64 (wd x 0), .int .u64 (wd x 1), .int .u64 (wd x 2), .int .u64 (wd x 3)], .int .i64 (b : Int)] w fun e w' => e = .returned (.bool (mem x b)) ∧ Below w.heap.size w w' :=
  rhas3_any x (b : Int) w (by omega) (by omega)
theorem cntC_take {l : List (BitVec 256)} {k : Nat} {c : BitVec 256} (h : l[k]? = some c) (b : Nat) : cntC (l.take (k + 1)) b = cntC (l.take k) b + (mem c b).toNat := by
  unfold cntC
  rw [List.take_add_one, h, List.filter_append, List.length_append]
  congr 1
  show (List.filter _ [c]).length = _
  rw [List.filter_cons]; cases mem c b <;> rfl
theorem cntC_le (l : List (BitVec 256)) (k b : Nat) : cntC (l.take k) b ≤ k := by
  unfold cntC
  exact Nat.le_trans (List.length_filter_le _ _) (by rw [List.length_take]; omega)
theorem rpartB_no {l : List (BitVec 256)} (h : ¬ (1 ≤ l.length ∧ l.length ≤ 256 ∧ (∀ c ∈ l, c ≠ 0) ∧ ∀ b, b < 256 → cntC l b = 1)) : false = rpartB l := by
  cases hb : rpartB l
  · rfl
  · exfalso; apply h
    unfold rpartB at hb
    simpa only [Bool.and_eq_true, decide_eq_true_iff, List.all_eq_true, Bool.not_eq_true', decide_eq_false_iff_not, List.mem_range] using hb
theorem rpartB_yes {l : List (BitVec 256)} (h : 1 ≤ l.length ∧ l.length ≤ 256 ∧ (∀ c ∈ l, c ≠ 0) ∧ ∀ b, b < 256 → cntC l b = 1) : true = rpartB l := by
  symm
  unfold rpartB
  simpa only [Bool.and_eq_true, decide_eq_true_iff, List.all_eq_true, Bool.not_eq_true', decide_eq_false_iff_not, List.mem_range] using h
set_option maxRecDepth 100000 in
set_option maxHeartbeats 4000000 in
theorem rpartition_any (p : Option Addr) (cap : Nat) (l : List (BitVec 256)) (w : World) (hv : IsC w (.slice p l.length cap) l) (hl : l.length ≤ 9223372036854775807) :
    Calls Tryd.prog 44 #[.slice p l.length cap] w fun e w' => e = .returned (.bool (partB 0 l)) ∧ Below w.heap.size w w' := by
  rw [← rpartB_eq]
  have HV := Lib.hid (fun W (hW : Below w.heap.size w W) k x (hk : l[k]? = some x) => (hv.grows hW).at hk)
  clear hv
  by_cases hlen : 1 ≤ l.length ∧ l.length ≤ 256
  · have HN := Lib.hid (fun (h : ¬ ((∀ c ∈ l, c ≠ 0) ∧ ∀ b, b < 256 → cntC l b = 1)) => rpartB_no (l := l) fun h' => h h'.2.2)
    have HY := Lib.hid (fun (h : (∀ c ∈ l, c ≠ 0) ∧ ∀ b, b < 256 → cntC l b = 1) => rpartB_yes (l := l) ⟨hlen.1, hlen.2, h⟩)
    obtain ⟨hlen1, hlen2⟩ := hlen
    go_enter Tryd.func44, Tryd.ntmps44
    go_wp2_with fail
    go_loopw [3] (fun i wr => ∃ k : Nat, i = .int .i64 k ∧ k ≤ l.length ∧ (∀ (j : Nat) c, j < k → l[j]? = some c → c ≠ 0) ∧ Below w.heap.size w wr) (fun i _ => l.length - (RowKit.intOf i).toNat)
    case atStart => exact ⟨0, rfl, Nat.zero_le _, fun j c h => by omega, by first | exact Below.refl _ _ | go_grown⟩
    case round =>
      obtain ⟨k, rfl, hk, hok, hbw⟩ := hrel
      have HOk := Lib.hid hok
      clear hok
      by_cases hlt : k < l.length
      · obtain ⟨c, hc⟩ := get_of_lt hlt
        obtain ⟨blk, off, rfl, a0, a1, a2, a3⟩ := HV.out _ hbw k c hc
        have heq : ∀ W, (Op.equalIn 10000 41 (.agg #[.int .u64 (wd c 0), .int .u64 (wd c 1), .int .u64 (wd c 2), .int .u64 (wd c 3)]) (.agg #[.int .u64 0, .int .u64 0, .int .u64 0, .int .u64 0])).run Tryd.prog W = .ok (decide (c = 0)) W := fun W => eq_cls0 c W
        cases h0 : decide (c = 0)
        · rw [h0] at heq
          have HNx := Lib.hid (show ∀ (j : Nat) d, j < k + 1 → l[j]? = some d → d ≠ 0 from fun j d hj hd => by
            rcases Nat.lt_or_ge j k with h | h
            · exact HOk.out j d h hd
            · obtain rfl : j = k := by omega
              rw [hc] at hd; cases hd; exact of_decide_eq_false h0)
          clear h0 hc HOk
          go_wp2_with fail
          go_roundw
          case rel => exact ⟨k + 1, by go_num, by omega, HNx.out, by first | exact hbw | go_grown⟩
          case measure => simp [RowKit.intOf]; omega
        · rw [h0] at heq
          have HF := Lib.hid (HN.out fun h => (h.1 c (List.mem_of_getElem? hc)) (of_decide_eq_true h0))
          clear h0 hc HOk
          go_wp2_with fail
          go_ret
          exact ⟨ret_bool HF.out, by first | exact hbw | go_grown⟩
      · obtain rfl : k = l.length := by omega
        have HNe := Lib.hid (show ∀ c ∈ l, c ≠ 0 from fun c hc => by
          obtain ⟨u, hu, hu2⟩ := List.getElem_of_mem hc
          exact HOk.out u c hu (by rw [List.getElem?_eq_getElem hu, hu2]))
        clear HOk
        go_wp2_with fail
        go_loopw [4] (fun i wr => ∃ b : Nat, i = .int .i64 b ∧ b ≤ 256 ∧ (∀ j, j < b → cntC l j = 1) ∧ Below w.heap.size w wr) (fun i _ => 256 - (RowKit.intOf i).toNat)
        case atStart => exact ⟨0, rfl, Nat.zero_le _, fun j h => by omega, hbw⟩
        case round =>
          clear hbw
          obtain ⟨b, rfl, hb, hok, hbw⟩ := hrel
          have HOk := Lib.hid hok
          clear hok
          by_cases hlt : b < 256
          · have hd : decide ((b : Int) < 256) = true := decide_eq_true (by omega)
            go_wp2_with fail
            try simp only [hd]
            go_loopw [5, 6] (fun n i wi => ∃ k : Nat, n = .int .i64 ((cntC (l.take k) b : Nat) : Int) ∧ i = .int .i64 k ∧ k ≤ l.length ∧ Below w.heap.size w wi) (fun _ i _ => l.length - (RowKit.intOf i).toNat)
            case atStart => exact ⟨0, rfl, rfl, Nat.zero_le _, hbw⟩
            case round =>
              clear hbw
              obtain ⟨k, rfl, rfl, hk, hbw⟩ := hrel
              have hcl := cntC_le l k b
              by_cases hkl : k < l.length
              · obtain ⟨c, hc⟩ := get_of_lt hkl
                obtain ⟨blk, off, rfl, a0, a1, a2, a3⟩ := HV.out _ hbw k c hc
                have HH := Lib.hid (fun W => rhas3_nat c b W hlt)
                have HT := Lib.hid (cntC_take hc b)
                clear hc
                generalize cntC (l.take k) b = n0 at HT hcl ⊢
                cases hm : mem c b
                · rw [hm] at HH HT
                  clear hm
                  go_wp2_with (go_at_call 51; ((with_reducible refine (HH.out _).mono ?_)); rintro e w1 ⟨rfl, hb1⟩)
                  go_roundw
                  case rel => exact ⟨k + 1, by rw [HT.out]; rfl, by go_num, by omega, below_two hbw hb1⟩
                  case measure => simp [RowKit.intOf]; omega
                · rw [hm] at HH HT
                  clear hm
                  go_wp2_with (go_at_call 51; ((with_reducible refine (HH.out _).mono ?_)); rintro e w1 ⟨rfl, hb1⟩)
                  go_roundw
                  case rel => exact ⟨k + 1, by rw [HT.out]; go_num, by go_num, by omega, below_two hbw hb1⟩
                  case measure => simp [RowKit.intOf]; omega
              · obtain rfl : k = l.length := by omega
                rw [List.take_length]
                rw [List.take_length] at hcl
                by_cases h1 : cntC l b = 1
                · have HNx := Lib.hid (show ∀ j, j < b + 1 → cntC l j = 1 from fun j hj => by
                    rcases Nat.lt_or_ge j b with h | h
                    · exact HOk.out j h
                    · obtain rfl : j = b := by omega
                      exact h1)
                  rw [h1]
                  clear h1 HOk hcl
                  go_wp2_with fail
                  go_roundw
                  case rel => exact ⟨b + 1, by go_num, by omega, HNx.out, hbw⟩
                  case measure => simp [RowKit.intOf]; omega
                · have HF := Lib.hid (HN.out fun h => h1 (h.2 b hlt))
                  generalize cntC l b = n0 at h1 hcl ⊢
                  have hne : ((n0 : Int) != 1) = true := by rw [bne_iff_ne]; omega
                  clear h1 HOk
                  go_wp2_with fail
                  go_ret
                  exact ⟨ret_bool HF.out, hbw⟩
          · obtain rfl : b = 256 := by omega
            have HF := Lib.hid (HY.out ⟨HNe.out, HOk.out⟩)
            clear HOk
            go_wp2_with fail
            go_ret
            exact ⟨ret_bool HF.out, hbw⟩
  · have HF := Lib.hid (rpartB_no (l := l) fun h => hlen ⟨h.1, h.2.1⟩)
    have h2 : l.length < 1 ∨ (1 ≤ l.length ∧ 256 < l.length) := by omega
    clear hlen
    rcases h2 with h | ⟨h, h'⟩
    all_goals
      go_enter Tryd.func44, Tryd.ntmps44
      go_wp2_with fail
      go_ret
      exact ⟨ret_bool HF.out, by first | exact Below.refl _ _ | go_grown⟩
end Go.Proofs.YtepncbbegpeilaaDoor
namespace Go.Proofs.YtepncbbegpeilaaDoor
open Go.RowKit Go.Lib

/-- valid but for the number of states. -/
def OkS (cls : List (BitVec 256)) (next : List (List Int)) (acc : List Bool) : Prop :=
  partB 0 cls = true ∧ 1 ≤ next.length ∧ acc.length = next.length ∧ ∀ r ∈ next, okRow next.length cls.length r
def soundD (cls : List (BitVec 256)) (next : List (List Int)) (acc : List Bool) : Bool :=
  partB 0 cls && (decide (1 ≤ next.length) && (decide (acc.length = next.length) && next.all fun r => decide (r.length = cls.length) && r.all fun t => decide (0 ≤ t) && decide (t < (next.length : Int))))
theorem soundD_iff {cls : List (BitVec 256)} {next : List (List Int)} {acc : List Bool} : soundD cls next acc = true ↔ OkS cls next acc := by
  unfold soundD OkS okRow okTo
  simp only [Bool.and_eq_true, decide_eq_true_eq, List.all_eq_true]
theorem soundD_yes {cls : List (BitVec 256)} {next : List (List Int)} {acc : List Bool} (h : OkS cls next acc) : true = soundD cls next acc := (soundD_iff.2 h).symm
theorem soundD_no {cls : List (BitVec 256)} {next : List (List Int)} {acc : List Bool} (h : ¬ OkS cls next acc) : false = soundD cls next acc := by
  cases hv : soundD cls next acc
  · rfl
  · exact absurd (soundD_iff.1 hv) h
theorem validD_sound (cls : List (BitVec 256)) (next : List (List Int)) (acc : List Bool) : validD cls next acc = (decide (next.length ≤ 64) && soundD cls next acc) := by
  rw [Bool.eq_iff_iff, Bool.and_eq_true, validD_iff, soundD_iff, decide_eq_true_iff]
  unfold OkD OkS
  constructor
  · rintro ⟨h1, h2, h3, h4, h5⟩; exact ⟨h3, h1, h2, h4, h5⟩
  · rintro ⟨h3, h1, h2, h4, h5⟩; exact ⟨h1, h2, h3, h4, h5⟩
set_option maxRecDepth 100000 in
set_option maxHeartbeats 4000000 in
theorem rsound_any (v : Value) (cls : List (BitVec 256)) (next : List (List Int)) (acc : List Bool) (w : World) (hv : IsD w v cls next acc) (hc : cls.length ≤ 1152921504606846976) (hn : next.length ≤ 1152921504606846976) (ha : acc.length ≤ 1152921504606846976) (hr : ∀ r ∈ next, r.length ≤ 1152921504606846976) :
    Calls Tryd.prog 36 #[v] w fun e w' => e = .returned (.bool (soundD cls next acc)) ∧ Below w.heap.size w w' := by
  obtain ⟨pc, kc, pn, kn, pa, ka, rfl, h1, h2, h3⟩ := hv.shape
  have HPt := Lib.hid (fun W (hW : Below w.heap.size w W) => rpartition_any pc kc cls W (h1.grows hW) (by omega))
  have HM := Lib.hid (fun W (hW : Below w.heap.size w W) k r (hk : next[k]? = some r) => (h2.grows hW).at hk)
  have HRl := Lib.hid hr
  clear hv h1 h2 h3 hr
  have X0 := Blk.new w #[.slice pc cls.length kc, .slice pn next.length kn, .slice pa acc.length ka] 28
  have hbw0 : Below w.heap.size w (w.alloc (.cells #[.slice pc cls.length kc, .slice pn next.length kn, .slice pa acc.length ka] 28)) := by go_grown
  by_cases hall : 1 ≤ next.length ∧ acc.length = next.length
  · obtain ⟨hn1, hn3⟩ := hall
    have hne : ((acc.length : Int) != (next.length : Int)) = false := by rw [hn3]; simp
    cases hp : partB 0 cls
    · rw [hp] at HPt
      have HF := Lib.hid (soundD_no (cls := cls) (next := next) (acc := acc) fun h => by have h1 := h.1; rw [hp] at h1; cases h1)
      clear hp hn3
      go_enter Tryd.func36, Tryd.ntmps36
      go_wp2_with (go_at_call 44; ((with_reducible refine (HPt.out _ hbw0).mono ?_)); rintro e w1 ⟨rfl, hb1⟩)
      go_ret
      exact ⟨ret_bool HF.out, below_two hbw0 hb1⟩
    · rw [hp] at HPt
      have HY := Lib.hid (fun (h : ∀ r ∈ next, okRow next.length cls.length r) => soundD_yes (cls := cls) (acc := acc) ⟨hp, hn1, hn3, h⟩)
      have HNo := Lib.hid (fun (h : ¬ ∀ r ∈ next, okRow next.length cls.length r) => soundD_no (cls := cls) (acc := acc) fun h5 => h h5.2.2.2)
      clear hp hn3
      go_enter Tryd.func36, Tryd.ntmps36
      go_wp2_with (go_at_call 44; ((with_reducible refine (HPt.out _ hbw0).mono ?_)); rintro e w1 ⟨rfl, hb1⟩; have X1 := X0.grows hb1; have x0 := X1.cell 0 rfl; have x1 := X1.cell 1 rfl; have x2 := X1.cell 2 rfl; have hbw1 := below_two hbw0 hb1)
      clear HPt X0 hbw0 hb1 x0 x1 x2
      go_loopw [4] (fun i wr => ∃ k : Nat, i = .int .i64 k ∧ k ≤ next.length ∧ (∀ (j : Nat) r, j < k → next[j]? = some r → okRow next.length cls.length r) ∧ Blk wr w.heap.size #[.slice pc cls.length kc, .slice pn next.length kn, .slice pa acc.length ka] 28 ∧ Below w.heap.size w wr) (fun i _ => next.length - (RowKit.intOf i).toNat)
      case atStart => exact ⟨0, rfl, Nat.zero_le _, fun j r h => by omega, X1, hbw1⟩
      case round =>
        clear X1 hbw1
        obtain ⟨k, rfl, hk, hok, X, hbw⟩ := hrel
        have HOk := Lib.hid hok
        clear hok
        have x0 := X.cell 0 rfl
        have x1 := X.cell 1 rfl
        by_cases hlt : k < next.length
        · obtain ⟨r, hr⟩ := get_of_lt hlt
          obtain ⟨blk, off, q, qc, rfl, hcell, hI⟩ := HM.out _ hbw k r hr
          have hrl := HRl.out r (List.mem_of_getElem? hr)
          have HI := Lib.hid (fun W (hW : Below wr.heap.size wr W) j x (hj : r[j]? = some x) => (hI.grows hW).at hj)
          have HRr := Lib.hid hr
          clear hI hr
          by_cases hlen : r.length = cls.length
          · have hle : (r.length : Int) = (cls.length : Int) := by omega
            have HLe := Lib.hid hlen
            have hne : ((r.length : Int) != (cls.length : Int)) = false := by rw [hle]; simp
            clear hlen hle
            go_wp2
            go_quiet (fail)
            go_wp2
            go_loop [5] (fun i => ∃ j : Nat, i = .int .i64 j ∧ j ≤ r.length ∧ (∀ (t : Nat) x, t < j → r[t]? = some x → okTo next.length x)) (fun i => r.length - (RowKit.intOf i).toNat)
            case atStart => exact ⟨0, rfl, Nat.zero_le _, fun t x h => by omega⟩
            case round =>
              obtain ⟨j, rfl, hj, hok⟩ := hrel
              have HOj := Lib.hid hok
              clear hok
              by_cases hjl : j < r.length
              · obtain ⟨x, hx⟩ := get_of_lt hjl
                obtain ⟨blk', off', rfl, hcx⟩ := HI.out _ (Below.refl _ _) j x hx
                by_cases hto : 0 ≤ x ∧ x < next.length
                · obtain ⟨hx0, hx1⟩ := hto
                  have HN := Lib.hid (show ∀ (t : Nat) y, t < j + 1 → r[t]? = some y → okTo next.length y from fun t y ht hy => by
                    rcases Nat.lt_or_ge t j with h | h
                    · exact HOj.out t y h hy
                    · obtain rfl : t = j := by omega
                      rw [hx] at hy; cases hy; exact ⟨hx0, hx1⟩)
                  clear hx HOj
                  go_wp2
                  go_round
                  case rel => exact ⟨j + 1, by go_num, by omega, HN.out⟩
                  case measure => simp [RowKit.intOf]; omega
                · have HF := Lib.hid (HNo.out fun hall => hto ((hall r (List.mem_of_getElem? HRr.out)).2 x (List.mem_of_getElem? hx)))
                  have hto2 : x < 0 ∨ (0 ≤ x ∧ (next.length : Int) ≤ x) := by omega
                  clear hx HOj hto
                  rcases hto2 with h | ⟨h, h'⟩
                  all_goals
                    go_wp2
                    go_ret
                    exact ⟨ret_bool HF.out, below_drews hbw _⟩
              · obtain rfl : j = r.length := by omega
                have HN := Lib.hid (show ∀ (t : Nat) y, t < k + 1 → next[t]? = some y → okRow next.length cls.length y from fun t y ht hy => by
                  rcases Nat.lt_or_ge t k with h | h
                  · exact HOk.out t y h hy
                  · obtain rfl : t = k := by omega
                    rw [HRr.out] at hy; cases hy
                    refine ⟨HLe.out, fun x hx => ?_⟩
                    obtain ⟨u, hu, hu2⟩ := List.getElem_of_mem hx
                    exact HOj.out u x hu (by rw [List.getElem?_eq_getElem hu, hu2]))
                clear HOj HOk
                go_wp2
                go_roundw
                case rel => exact ⟨k + 1, by go_num, by omega, HN.out, ⟨X.is⟩, below_drews hbw _⟩
                case measure => simp [RowKit.intOf]; omega
          · have HF := Lib.hid (HNo.out fun hall => hlen (hall r (List.mem_of_getElem? HRr.out)).1)
            have hne : ((r.length : Int) != (cls.length : Int)) = true := by rw [bne_iff_ne]; omega
            clear hlen
            go_wp2
            go_quiet (fail)
            go_wp2
            go_ret
            exact ⟨ret_bool HF.out, below_drews hbw _⟩
        · obtain rfl : k = next.length := by omega
          have HF := Lib.hid (HY.out fun r hr => by
            obtain ⟨u, hu, hu2⟩ := List.getElem_of_mem hr
            exact HOk.out u r hu (by rw [List.getElem?_eq_getElem hu, hu2]))
          clear HOk
          go_wp2
          go_ret
          exact ⟨ret_bool HF.out, hbw⟩
  · have HF := Lib.hid (soundD_no (cls := cls) (next := next) (acc := acc) fun h => hall ⟨h.2.1, h.2.2.1⟩)
    have hthree : next.length < 1 ∨ (1 ≤ next.length ∧ acc.length ≠ next.length) := by omega
    clear hall
    rcases hthree with h | ⟨h, h''⟩
    case' inr => have hne : ((acc.length : Int) != (next.length : Int)) = true := by rw [bne_iff_ne]; omega
    case' inr => clear h''
    all_goals
      go_enter Tryd.func36, Tryd.ntmps36
      go_wp2
      go_ret
      exact ⟨ret_bool HF.out, hbw0⟩
theorem rvalid3_any (v : Value) (cls : List (BitVec 256)) (next : List (List Int)) (acc : List Bool) (w : World) (hv : IsD w v cls next acc) (hc : cls.length ≤ 1152921504606846976) (hn : next.length ≤ 1152921504606846976) (ha : acc.length ≤ 1152921504606846976) (hr : ∀ r ∈ next, r.length ≤ 1152921504606846976) :
    Calls Tryd.prog 18 #[v] w fun e w' => e = .returned (.bool (validD cls next acc)) ∧ Below w.heap.size w w' := by
  have HS := Lib.hid (fun W (hW : Below w.heap.size w W) => rsound_any v cls next acc W (hv.grows hW) hc hn ha hr)
  rw [validD_sound]
  obtain ⟨pc, kc, pn, kn, pa, ka, rfl, h1, h2, h3⟩ := hv.shape
  clear hv h1 h2 h3 hr
  have X0 := Blk.new w #[.slice pc cls.length kc, .slice pn next.length kn, .slice pa acc.length ka] 28
  have hbw0 : Below w.heap.size w (w.alloc (.cells #[.slice pc cls.length kc, .slice pn next.length kn, .slice pa acc.length ka] 28)) := by go_grown
  generalize soundD cls next acc = b at HS ⊢
  by_cases hle : next.length ≤ 64
  · rw [decide_eq_true hle, Bool.true_and]
    go_enter Tryd.func18, Tryd.ntmps18
    go_wp2_with (go_at_call 36; ((with_reducible refine (HS.out _ hbw0).mono ?_)); rintro e w1 ⟨rfl, hb1⟩)
    go_ret
    exact ⟨rfl, below_two hbw0 hb1⟩
  · rw [decide_eq_false hle, Bool.false_and]
    go_enter Tryd.func18, Tryd.ntmps18
    go_wp2
    go_ret
    exact ⟨rfl, hbw0⟩
end Go.Proofs.YtepncbbegpeilaaDoor
