/-
  Walks: the code's check of an automaton.
-/
import Derived.Test.YtepncbbegpeilaaDoorDp
set_option linter.unusedSimpArgs false
set_option linter.unusedVariables false
namespace Go.Proofs.YtepncbbegpeilaaDoor
open Go.RowKit Go.Lib

/-- the value is a slice that reads as these integers. -/
def IsI (w : World) (v : Value) (l : List Int) : Prop :=
  (l = [] ∧ ∃ p cap, v = .slice p 0 cap) ∨ ∃ blk off cap, v = .slice (some ⟨blk, off, none⟩) l.length cap ∧ ∀ (j : Nat) (x : Int), l[j]? = some x → w.cell? ⟨blk, off + j, none⟩ = some (.int .i64 x)
theorem IsI.kept {w w' : World} {v : Value} {l : List Int} (h : IsI w v l) (hk : ∀ a u, w.cell? a = some u → w'.cell? a = some u) : IsI w' v l := by
  rcases h with h | ⟨blk, off, cap, rfl, h⟩
  · exact .inl h
  · exact .inr ⟨blk, off, cap, rfl, fun j x hj => hk _ _ (h j x hj)⟩
theorem IsI.grows {w w' : World} {v : Value} {l : List Int} (h : IsI w v l) (hb : Below w.heap.size w w') : IsI w' v l :=
  h.kept fun _ _ hc => (hb.cell (lt_of_cell hc)).trans hc
theorem IsI.at {w : World} {p : Option Addr} {n cap : Nat} {l : List Int} (h : IsI w (.slice p n cap) l) {k : Nat} {x : Int} (hk : l[k]? = some x) :
    ∃ blk off, p = .some ⟨blk, off, none⟩ ∧ w.cell? ⟨blk, off + k, none⟩ = .some (.int .i64 x) := by
  rcases h with ⟨rfl, _⟩ | ⟨blk, off, cap, he, hc⟩
  · cases hk
  · simp only [Value.slice.injEq] at he
    exact ⟨blk, off, he.1, hc k x hk⟩
/-- the value is a slice of slices that read as these rows. -/
def IsM (w : World) (v : Value) (l : List (List Int)) : Prop :=
  (l = [] ∧ ∃ p cap, v = .slice p 0 cap) ∨ ∃ blk off cap, v = .slice (some ⟨blk, off, none⟩) l.length cap ∧ ∀ (j : Nat) (r : List Int), l[j]? = some r → ∃ p c, w.cell? ⟨blk, off + j, none⟩ = some (.slice p r.length c) ∧ IsI w (.slice p r.length c) r
theorem IsM.kept {w w' : World} {v : Value} {l : List (List Int)} (h : IsM w v l) (hk : ∀ a u, w.cell? a = some u → w'.cell? a = some u) : IsM w' v l := by
  rcases h with h | ⟨blk, off, cap, rfl, h⟩
  · exact .inl h
  · refine .inr ⟨blk, off, cap, rfl, fun j r hj => ?_⟩
    obtain ⟨p, c, h1, h2⟩ := h j r hj
    exact ⟨p, c, hk _ _ h1, h2.kept hk⟩
theorem IsM.grows {w w' : World} {v : Value} {l : List (List Int)} (h : IsM w v l) (hb : Below w.heap.size w w') : IsM w' v l :=
  h.kept fun _ _ hc => (hb.cell (lt_of_cell hc)).trans hc
theorem IsM.shape {w : World} {v : Value} {l : List (List Int)} (h : IsM w v l) : ∃ p cap, v = .slice p l.length cap := by
  rcases h with ⟨rfl, p, cap, rfl⟩ | ⟨blk, off, cap, rfl, _⟩
  · exact ⟨p, cap, rfl⟩
  · exact ⟨_, _, rfl⟩
theorem IsM.at {w : World} {p : Option Addr} {n cap : Nat} {l : List (List Int)} (h : IsM w (.slice p n cap) l) {k : Nat} {r : List Int} (hk : l[k]? = some r) :
    ∃ blk off q c, p = .some ⟨blk, off, none⟩ ∧ w.cell? ⟨blk, off + k, none⟩ = .some (.slice q r.length c) ∧ IsI w (.slice q r.length c) r := by
  rcases h with ⟨rfl, _⟩ | ⟨blk, off, cap, he, hc⟩
  · cases hk
  · simp only [Value.slice.injEq] at he
    obtain ⟨q, c, h1, h2⟩ := hc k r hk
    exact ⟨blk, off, q, c, he.1, h1, h2⟩
/-- the value is an automaton of these classes, rows and marks. -/
def IsD (w : World) (v : Value) (cls : List (BitVec 256)) (next : List (List Int)) (acc : List Bool) : Prop :=
  ∃ vc vn va, v = .agg #[vc, vn, va] ∧ IsC w vc cls ∧ IsM w vn next ∧ IsB w va acc
theorem IsD.grows {w w' : World} {v : Value} {cls : List (BitVec 256)} {next : List (List Int)} {acc : List Bool} (h : IsD w v cls next acc) (hb : Below w.heap.size w w') : IsD w' v cls next acc := by
  obtain ⟨vc, vn, va, rfl, h1, h2, h3⟩ := h
  exact ⟨vc, vn, va, rfl, h1.grows hb, h2.grows hb, h3.grows hb⟩
theorem IsD.shape {w : World} {v : Value} {cls : List (BitVec 256)} {next : List (List Int)} {acc : List Bool} (h : IsD w v cls next acc) :
    ∃ pc kc pn kn pa ka, v = .agg #[.slice pc cls.length kc, .slice pn next.length kn, .slice pa acc.length ka] ∧ IsC w (.slice pc cls.length kc) cls ∧ IsM w (.slice pn next.length kn) next ∧ IsB w (.slice pa acc.length ka) acc := by
  obtain ⟨vc, vn, va, rfl, h1, h2, h3⟩ := h
  obtain ⟨pc, kc, rfl⟩ := h1.shape
  obtain ⟨pn, kn, rfl⟩ := h2.shape
  obtain ⟨pa, ka, rfl⟩ := h3.shape
  exact ⟨pc, kc, pn, kn, pa, ka, rfl, h1, h2, h3⟩
def okTo (n : Nat) (t : Int) : Prop := 0 ≤ t ∧ t < n
def okRow (n m : Nat) (r : List Int) : Prop := r.length = m ∧ ∀ t ∈ r, okTo n t
/-- the automaton is valid. -/
def OkD (cls : List (BitVec 256)) (next : List (List Int)) (acc : List Bool) : Prop :=
  partB 0 cls = true ∧ 1 ≤ next.length ∧ next.length ≤ 64 ∧ acc.length = next.length ∧ ∀ r ∈ next, okRow next.length cls.length r
/-- is the automaton valid? -/
def validD (cls : List (BitVec 256)) (next : List (List Int)) (acc : List Bool) : Bool :=
  partB 0 cls && (decide (1 ≤ next.length) && (decide (next.length ≤ 64) && (decide (acc.length = next.length) && next.all fun r => decide (r.length = cls.length) && r.all fun t => decide (0 ≤ t) && decide (t < (next.length : Int)))))
theorem validD_iff {cls : List (BitVec 256)} {next : List (List Int)} {acc : List Bool} : validD cls next acc = true ↔ OkD cls next acc := by
  unfold validD OkD okRow okTo
  simp only [Bool.and_eq_true, decide_eq_true_eq, List.all_eq_true]
theorem validD_yes {cls : List (BitVec 256)} {next : List (List Int)} {acc : List Bool} (h : OkD cls next acc) : true = validD cls next acc := (validD_iff.2 h).symm
theorem validD_no {cls : List (BitVec 256)} {next : List (List Int)} {acc : List Bool} (h : ¬ OkD cls next acc) : false = validD cls next acc := by
  cases hv : validD cls next acc
  · rfl
  · exact absurd (validD_iff.1 hv) h
set_option maxRecDepth 100000 in
set_option maxHeartbeats 2000000 in
theorem dfa_valid_any (v : Value) (cls : List (BitVec 256)) (next : List (List Int)) (acc : List Bool) (w : World) (hv : IsD w v cls next acc) (hc : cls.length ≤ 1152921504606846976) (hn : next.length ≤ 1152921504606846976) (ha : acc.length ≤ 1152921504606846976) (hr : ∀ r ∈ next, r.length ≤ 1152921504606846976) :
    Calls Tryd.prog 15 #[v] w fun e w' => e = .returned (.bool (validD cls next acc)) ∧ Below w.heap.size w w' := by
  obtain ⟨pc, kc, pn, kn, pa, ka, rfl, h1, h2, h3⟩ := hv.shape
  have HPt := Lib.hid (fun W (hW : Below w.heap.size w W) => partition_any pc kc cls W (h1.grows hW) (by omega))
  have HM := Lib.hid (fun W (hW : Below w.heap.size w W) k r (hk : next[k]? = some r) => (h2.grows hW).at hk)
  have HRl := Lib.hid hr
  clear hv h1 h2 h3 hr
  have X0 := Blk.new w #[.slice pc cls.length kc, .slice pn next.length kn, .slice pa acc.length ka] 28
  have hbw0 : Below w.heap.size w (w.alloc (.cells #[.slice pc cls.length kc, .slice pn next.length kn, .slice pa acc.length ka] 28)) := by go_grown
  cases hp : partB 0 cls
  · rw [hp] at HPt
    have HF := Lib.hid (validD_no (cls := cls) (next := next) (acc := acc) fun h => by have h1 := h.1; rw [hp] at h1; cases h1)
    clear hp
    go_enter Tryd.func15, Tryd.ntmps15
    go_wp2_with (go_at_call 33; ((with_reducible refine (HPt.out _ hbw0).mono ?_)); rintro e w1 ⟨rfl, hb1⟩)
    go_ret
    exact ⟨ret_bool HF.out, below_two hbw0 hb1⟩
  · rw [hp] at HPt
    by_cases hall : 1 ≤ next.length ∧ next.length ≤ 64 ∧ acc.length = next.length
    · obtain ⟨hn1, hn2, hn3⟩ := hall
      have HY := Lib.hid (fun (h : ∀ r ∈ next, okRow next.length cls.length r) => validD_yes (cls := cls) (acc := acc) ⟨hp, hn1, hn2, hn3, h⟩)
      have HNo := Lib.hid (fun (h : ¬ ∀ r ∈ next, okRow next.length cls.length r) => validD_no (cls := cls) (acc := acc) fun h5 => h h5.2.2.2.2)
      have hne : ((acc.length : Int) != (next.length : Int)) = false := by rw [hn3]; simp
      clear hp hn3
      go_enter Tryd.func15, Tryd.ntmps15
      go_wp2_with (go_at_call 33; ((with_reducible refine (HPt.out _ hbw0).mono ?_)); rintro e w1 ⟨rfl, hb1⟩; have X1 := X0.grows hb1; have x0 := X1.cell 0 rfl; have x1 := X1.cell 1 rfl; have x2 := X1.cell 2 rfl; have hbw1 := below_two hbw0 hb1)
      clear HPt X0 hbw0 hb1 x0 x1 x2
      go_loopw [33] (fun i wr => ∃ k : Nat, i = .int .i64 k ∧ k ≤ next.length ∧ (∀ (j : Nat) r, j < k → next[j]? = some r → okRow next.length cls.length r) ∧ Blk wr w.heap.size #[.slice pc cls.length kc, .slice pn next.length kn, .slice pa acc.length ka] 28 ∧ Below w.heap.size w wr) (fun i _ => next.length - (RowKit.intOf i).toNat)
      case atStart => exact ⟨0, rfl, Nat.zero_le _, fun j r h => by omega, X1, hbw1⟩
      case round =>
        clear X1 hbw1
        obtain ⟨k, rfl, hk, hok, X, hbw⟩ := hrel
        have HOk := Lib.hid hok
        clear hok
        have x0 := X.cell 0 rfl
        have x1 := X.cell 1 rfl
        by_cases hlt : k < next.length
        · obtain ⟨r, hr⟩ := get_of_lt hlt
          obtain ⟨blk, off, q, qc, rfl, hcell, hI⟩ := HM.out _ hbw k r hr
          have hrl := HRl.out r (List.mem_of_getElem? hr)
          have HI := Lib.hid (fun W (hW : Below wr.heap.size wr W) j x (hj : r[j]? = some x) => (hI.grows hW).at hj)
          have HRr := Lib.hid hr
          clear hI hr
          by_cases hlen : r.length = cls.length
          · have hle : (r.length : Int) = (cls.length : Int) := by omega
            have HLe := Lib.hid hlen
            have hne : ((r.length : Int) != (cls.length : Int)) = false := by rw [hle]; simp
            clear hlen hle
            go_wp2
            go_loop [45] (fun i => ∃ j : Nat, i = .int .i64 j ∧ j ≤ r.length ∧ (∀ (t : Nat) x, t < j → r[t]? = some x → okTo next.length x)) (fun i => r.length - (RowKit.intOf i).toNat)
            case atStart => exact ⟨0, rfl, Nat.zero_le _, fun t x h => by omega⟩
            case round =>
              obtain ⟨j, rfl, hj, hok⟩ := hrel
              have HOj := Lib.hid hok
              clear hok
              by_cases hjl : j < r.length
              · obtain ⟨x, hx⟩ := get_of_lt hjl
                obtain ⟨blk', off', rfl, hcx⟩ := HI.out _ (Below.refl _ _) j x hx
                by_cases hto : 0 ≤ x ∧ x < next.length
                · obtain ⟨hx0, hx1⟩ := hto
                  have HN := Lib.hid (show ∀ (t : Nat) y, t < j + 1 → r[t]? = some y → okTo next.length y from fun t y ht hy => by
                    rcases Nat.lt_or_ge t j with h | h
                    · exact HOj.out t y h hy
                    · obtain rfl : t = j := by omega
                      rw [hx] at hy; cases hy; exact ⟨hx0, hx1⟩)
                  clear hx HOj
                  go_wp2
                  go_round
                  case rel => exact ⟨j + 1, by go_num, by omega, HN.out⟩
                  case measure => simp [RowKit.intOf]; omega
                · have HF := Lib.hid (HNo.out fun hall => hto ((hall r (List.mem_of_getElem? HRr.out)).2 x (List.mem_of_getElem? hx)))
                  have hto2 : x < 0 ∨ (0 ≤ x ∧ (next.length : Int) ≤ x) := by omega
                  clear hx HOj hto
                  rcases hto2 with h | ⟨h, h'⟩
                  all_goals
                    go_wp2
                    go_ret
                    exact ⟨ret_bool HF.out, hbw⟩
              · obtain rfl : j = r.length := by omega
                have HN := Lib.hid (show ∀ (t : Nat) y, t < k + 1 → next[t]? = some y → okRow next.length cls.length y from fun t y ht hy => by
                  rcases Nat.lt_or_ge t k with h | h
                  · exact HOk.out t y h hy
                  · obtain rfl : t = k := by omega
                    rw [HRr.out] at hy; cases hy
                    refine ⟨HLe.out, fun x hx => ?_⟩
                    obtain ⟨u, hu, hu2⟩ := List.getElem_of_mem hx
                    exact HOj.out u x hu (by rw [List.getElem?_eq_getElem hu, hu2]))
                clear HOj HOk
                go_wp2
                go_roundw
                case rel => exact ⟨k + 1, by go_num, by omega, HN.out, X, hbw⟩
                case measure => simp [RowKit.intOf]; omega
          · have HF := Lib.hid (HNo.out fun hall => hlen (hall r (List.mem_of_getElem? HRr.out)).1)
            have hne : ((r.length : Int) != (cls.length : Int)) = true := by rw [bne_iff_ne]; omega
            clear hlen
            go_wp2
            go_ret
            exact ⟨ret_bool HF.out, hbw⟩
        · obtain rfl : k = next.length := by omega
          have HF := Lib.hid (HY.out fun r hr => by
            obtain ⟨u, hu, hu2⟩ := List.getElem_of_mem hr
            exact HOk.out u r hu (by rw [List.getElem?_eq_getElem hu, hu2]))
          clear HOk
          go_wp2
          go_ret
          exact ⟨ret_bool HF.out, hbw⟩
    · have HF := Lib.hid (validD_no (cls := cls) (next := next) (acc := acc) fun h => hall ⟨h.2.1, h.2.2.1, h.2.2.2.1⟩)
      have hthree : next.length < 1 ∨ (1 ≤ next.length ∧ 64 < next.length) ∨ (1 ≤ next.length ∧ next.length ≤ 64 ∧ acc.length ≠ next.length) := by omega
      clear hp hall
      rcases hthree with h | ⟨h, h'⟩ | ⟨h, h', h''⟩
      case' inr.inr => have hne : ((acc.length : Int) != (next.length : Int)) = true := by rw [bne_iff_ne]; omega
      case' inr.inr => clear h''
      all_goals
        go_enter Tryd.func15, Tryd.ntmps15
        go_wp2_with (go_at_call 33; ((with_reducible refine (HPt.out _ hbw0).mono ?_)); rintro e w1 ⟨rfl, hb1⟩; have X1 := X0.grows hb1; have x0 := X1.cell 0 rfl; have x1 := X1.cell 1 rfl; have x2 := X1.cell 2 rfl)
        go_ret
        exact ⟨ret_bool HF.out, below_two hbw0 hb1⟩
end Go.Proofs.YtepncbbegpeilaaDoor
