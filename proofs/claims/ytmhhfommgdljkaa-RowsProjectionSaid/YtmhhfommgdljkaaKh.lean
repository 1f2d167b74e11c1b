/-
  A refutation that came in; walk: shaped.
-/
import Derived.Test.YtmhhfommgdljkaaKg
set_option linter.unusedSimpArgs false
set_option linter.unusedVariables false
namespace Go.Proofs.Ytmhhfommgdljkaa
open Go.RowKit Go.Lib

/-- the value is a slice of these steps. -/
def IsP (w : World) (v : Value) (p : List Sp) : Prop :=
  ∃ q cap, v = .slice q p.length cap ∧ p.length ≤ cap ∧ ∀ (j : Nat) (t : Sp), p[j]? = some t → ∃ b o u, q = some ⟨b, o, none⟩ ∧ (∀ (i : Nat) (x : Value), (spL u t)[i]? = some x → w.cell? ⟨b, o + j * 8 + i, none⟩ = some x) ∧ IsI w u t.M
theorem IsP.shape {w : World} {v : Value} {p : List Sp} (h : IsP w v p) : ∃ q cap, v = .slice q p.length cap ∧ p.length ≤ cap := by
  obtain ⟨q, cap, e, h1, _⟩ := h
  exact ⟨q, cap, e, h1⟩
theorem IsP.kept {w w' : World} {v : Value} {p : List Sp} (h : IsP w v p) (hk : ∀ a u, w.cell? a = some u → w'.cell? a = some u) : IsP w' v p := by
  obtain ⟨q, cap, e, h1, h2⟩ := h
  exact ⟨q, cap, e, h1, fun j t ht => by obtain ⟨b, o, u, e1, h3, h4⟩ := h2 j t ht; exact ⟨b, o, u, e1, fun i x hx => hk _ _ (h3 i x hx), h4.kept hk⟩⟩
theorem IsP.grows {w w' : World} {v : Value} {p : List Sp} (h : IsP w v p) (hb : Below w.heap.size w w') : IsP w' v p :=
  h.kept fun _ _ hc => (hb.cell (lt_of_cell hc)).trans hc
theorem IsP.at {w : World} {q : Option Addr} {n cap : Nat} {p : List Sp} (h : IsP w (.slice q n cap) p) {j : Nat} {t : Sp} (ht : p[j]? = some t) :
    ∃ b o u, q = some ⟨b, o, none⟩ ∧ IsI w u t.M ∧ w.cell? ⟨b, o + j * 8, none⟩ = some (.int .i64 t.k) ∧ w.cell? ⟨b, o + j * 8 + 1, none⟩ = some u ∧ w.cell? ⟨b, o + j * 8 + 2, none⟩ = some (.int .i64 t.R) ∧ w.cell? ⟨b, o + j * 8 + 3, none⟩ = some (.int .i64 t.D) ∧
      w.cell? ⟨b, o + j * 8 + 4, none⟩ = some (.int .i64 t.X) ∧ w.cell? ⟨b, o + j * 8 + 5, none⟩ = some (.int .i64 t.K) ∧ w.cell? ⟨b, o + j * 8 + 6, none⟩ = some (.int .i64 t.N) ∧ w.cell? ⟨b, o + j * 8 + 7, none⟩ = some (.int .i64 t.E) := by
  obtain ⟨q2, c, e, _, h2⟩ := h
  simp only [Value.slice.injEq] at e
  obtain ⟨rfl, -, -⟩ := e
  obtain ⟨b, o, u, e1, h3, h4⟩ := h2 j t ht
  exact ⟨b, o, u, e1, h4, h3 0 _ rfl, h3 1 _ rfl, h3 2 _ rfl, h3 3 _ rfl, h3 4 _ rfl, h3 5 _ rfl, h3 6 _ rfl, h3 7 _ rfl⟩
/-- a refutation of one's own reads as its steps. -/
theorem PfAt.isP {base : Nat} {w : World} {v : Value} {p : List Sp} (h : PfAt base w v p) : IsP w v p := by
  obtain ⟨L, rfl, ho, hp⟩ := h
  have ho2 := ho
  obtain ⟨hl, ⟨rfl, hn⟩ | ⟨g, cap, cur, rfl, hg, hh, hcap, hm, hsz, htk⟩⟩ := ho
  · obtain rfl : L = [] := List.length_eq_zero_iff.1 hn
    exact ⟨none, 0, rfl, Nat.le_refl _, fun j t ht => by simp at ht⟩
  · refine ⟨some ⟨g, 0, none⟩, cap, by rw [List.length_map], by rw [List.length_map]; exact hcap, fun j t ht => ?_⟩
    rw [List.getElem?_map] at ht
    obtain ⟨q, hq, rfl⟩ := Option.map_eq_some_iff.1 ht
    refine ⟨g, 0, q.1, rfl, fun i x hx => ?_, (hp q (List.mem_of_getElem? hq)).isI⟩
    rw [Nat.zero_add]
    exact (own_cell ho2 (cellsOf_at hq i x hx)).1
/-- which steps were used. -/
def usedA (n : Nat) (S : List Int) : Array Value := ((List.range n).map fun (c : Nat) => Value.bool (decide ((c : Int) ∈ S))).toArray
theorem usedA_size (n : Nat) (S : List Int) : (usedA n S).size = n := by simp [usedA]
theorem usedA_get {n c : Nat} (S : List Int) (h : c < n) : (usedA n S)[c]? = some (.bool (decide ((c : Int) ∈ S))) := by simp [usedA, h]
theorem usedA_set {n c : Nat} (S : List Int) (h : c < n) : (usedA n S).setIfInBounds c (.bool true) = usedA n ((c : Int) :: S) := by
  apply Array.ext
  · simp [usedA]
  · intro j h1 h2
    simp only [usedA, List.setIfInBounds_toArray, List.getElem_toArray, List.getElem_set, List.getElem_map, List.getElem_range]
    by_cases e : c = j
    · subst e; simp
    · rw [if_neg e]
      have : ¬ ((j : Int) = (c : Int)) := by omega
      simp [this]
theorem made_used (n : Nat) : madeCells #[Value.bool false] n = usedA n [] := by
  unfold usedA
  apply Array.ext
  · simp [madeCells]
  · intro j h1 h2
    simp [madeCells, Nat.mod_one]
theorem childs_le (t : Sp) : (childs t).length ≤ 2 := by
  unfold childs
  split
  · simp
  · split <;> simp
theorem infoB : (Try.prog.info? 4).map (fun i => (i.zero, i.size, i.bytes)) = some (some (.bool false), 1, 1) := by rfl
set_option maxRecDepth 100000 in
set_option maxHeartbeats 1000000 in
theorem shaped_any (v : Value) (p : List Sp) (w : World) (hv : IsP w v p) (hl : p.length ≤ 140737488351232) :
    Calls Try.prog 26 #[v] w fun e w' => e = .returned (.bool (shapedB p)) ∧ Below w.heap.size w w' := by
  obtain ⟨q, cap, rfl, hcp⟩ := hv.shape
  by_cases h1 : p.length < 1
  · have HS := Lib.hid (show shapedB p = false by unfold shapedB; rw [decide_eq_false (by omega)]; rfl)
    obtain ⟨n, hn⟩ : ∃ n, p.length = n := ⟨_, rfl⟩
    rw [hn] at h1 ⊢
    obtain rfl : n = 0 := by omega
    clear hn hv hl h1 hcp
    go_enter Try.func26, Try.ntmps26
    go_wp2
    go_ret
    exact ⟨ret_bool HS.out.symm, Below.refl _ _⟩
  by_cases h2 : 65536 < p.length
  · have HS := Lib.hid (show shapedB p = false by unfold shapedB; rw [decide_eq_false (by omega)]; rfl)
    obtain ⟨n, hn⟩ : ∃ n, p.length = n := ⟨_, rfl⟩
    rw [hn] at h1 h2 ⊢
    clear hn hv hl hcp
    go_enter Try.func26, Try.ntmps26
    go_wp2
    go_ret
    exact ⟨ret_bool HS.out.symm, Below.refl _ _⟩
  have HS := Lib.hid (show shapedB p = shB p.length 0 [] p by unfold shapedB; rw [decide_eq_true (by omega)]; rfl)
  obtain ⟨n, hn⟩ : ∃ n, p.length = n := ⟨_, rfl⟩
  rw [hn] at h1 h2 hv ⊢
  rw [hn] at HS
  have HN := Lib.hid hn
  have HV := Lib.hid (fun W (hW : Below w.heap.size w W) => hv.grows hW)
  obtain ⟨ii, hii, hi0, hi1, hi2⟩ := info_parts infoB
  have HMd := Lib.hid (made_used n)
  clear hv hn hl hcp
  go_enter Try.func26, Try.ntmps26
  go_upto_region 4 with (first
    | (at_make; go_loud (refine wpList_make_row _ rfl _ _ 80 rfl 4 ii _ Try.underlying80 hii hi0 hi1 rfl _ _ n rfl rfl (by rw [hi2]; omega) (by omega) ?_); rw [HMd.out])
    | fail)
  have U1 : Blk (w.alloc (.cells (usedA n []) 4)) w.heap.size (usedA n []) 4 := Blk.new w _ _
  have hb1 : Below w.heap.size w (w.alloc (.cells (usedA n []) 4)) := by go_grown
  generalize w.alloc (.cells (usedA n []) 4) = w1 at U1 hb1 ⊢
  have HU1 := Lib.hid U1
  have HB1 := Lib.hid hb1
  clear U1 hb1
  go_wp2
  go_loopw [21] (fun s21 wr => ∃ (i : Nat) (S : List Int), i ≤ n ∧ s21 = .int .i64 i ∧ Blk wr w.heap.size (usedA n S) 4 ∧ shB n 0 [] p = shB n i S (p.drop i) ∧ Below w.heap.size w wr) (fun s21 _ => n - (RowKit.intOf s21).toNat)
  case atStart => exact ⟨0, [], Nat.zero_le _, rfl, HU1.out, rfl, HB1.out⟩
  case round =>
    obtain ⟨i, S, hi, rfl, hU, hS, hb⟩ := hrel
    have HSr := Lib.hid hS
    have HUr := Lib.hid hU
    have HBr := Lib.hid hb
    by_cases hlt : i < n
    · obtain ⟨t, ht⟩ := get_of_lt (show i < p.length by have := HN.out; omega)
      obtain ⟨b, o, u, rfl, hI, c0, c1, c2, c3, c4, c5, c6, c7⟩ := (HV.out _ HBr.out).at ht
      have HT := Lib.hid (show shB n i S (p.drop i) = (plainB t && (match chB n i S (childs t) with | none => false | some s => shB n (i + 1) s (p.drop (i + 1)))) by
        rw [List.drop_eq_getElem_cons (lt_of_get ht), (List.getElem?_eq_some_iff.1 ht).2, shB]; rfl)
      have HI := Lib.hid hI
      have HTt := Lib.hid ht
      obtain ⟨pu, cu, rfl, -⟩ := hI.shape
      clear ht hI hS hU hb
      go_upto_region 7 with fail
      have T1 : Blk (wr.alloc (.cells #[.int .i64 t.k, .slice pu t.M.length cu, .int .i64 t.R, .int .i64 t.D, .int .i64 t.X, .int .i64 t.K, .int .i64 t.N, .int .i64 t.E] 49)) wr.heap.size #[.int .i64 t.k, .slice pu t.M.length cu, .int .i64 t.R, .int .i64 t.D, .int .i64 t.X, .int .i64 t.K, .int .i64 t.N, .int .i64 t.E] 49 := Blk.new wr _ _
      have hb2 : Below wr.heap.size wr (wr.alloc (.cells #[.int .i64 t.k, .slice pu t.M.length cu, .int .i64 t.R, .int .i64 t.D, .int .i64 t.X, .int .i64 t.K, .int .i64 t.N, .int .i64 t.E] 49)) := by go_grown
      generalize wr.alloc (.cells #[.int .i64 t.k, .slice pu t.M.length cu, .int .i64 t.R, .int .i64 t.D, .int .i64 t.X, .int .i64 t.K, .int .i64 t.N, .int .i64 t.E] 49) = w2 at T1 hb2 ⊢
      have HT2 := Lib.hid T1
      have HI2 := Lib.hid (HI.out.grows hb2)
      have HB2 := Lib.hid (HBr.out.trans (hb2.mono HBr.out.size))
      have HU2 := Lib.hid (HUr.out.grows hb2)
      clear c0 c1 c2 c3 c4 c5 c6 c7 HI hb2
      have c0 := T1.cell 0 rfl
      have c1 := T1.cell 1 rfl
      have c2 := T1.cell 2 rfl
      have c3 := T1.cell 3 rfl
      have c4 := T1.cell 4 rfl
      have c5 := T1.cell 5 rfl
      have c6 := T1.cell 6 rfl
      have c7 := T1.cell 7 rfl
      clear T1
      go_wp2_with fail
      refine (plain_any _ t w2 HI2.out).mono ?_
      rintro e w3 ⟨rfl, hb3⟩
      have HT3 := Lib.hid (HT2.out.grows hb3)
      have HI3 := Lib.hid (HI2.out.grows hb3)
      have HB3 := Lib.hid (HB2.out.trans (hb3.mono HB2.out.size))
      have HU3 := Lib.hid (HU2.out.grows hb3)
      clear c0 c1 c2 c3 c4 c5 c6 c7 HT2 HI2 HB2 HU2 hb3
      by_cases hpl : plainB t = true
      · rw [hpl]
        have HPl := Lib.hid hpl
        clear hpl
        have c0 := HT3.out.cell 0 rfl
        have c1 := HT3.out.cell 1 rfl
        have c2 := HT3.out.cell 2 rfl
        have c3 := HT3.out.cell 3 rfl
        have c4 := HT3.out.cell 4 rfl
        have c5 := HT3.out.cell 5 rfl
        have c6 := HT3.out.cell 6 rfl
        have c7 := HT3.out.cell 7 rfl
        go_wp2_with fail
        refine (children_any _ t w3 HI3.out).mono ?_
        rintro e w4 ⟨vc, rfl, hcs, hb4⟩
        have HC4 := Lib.hid hcs
        have HB4 := Lib.hid (HB3.out.trans (hb4.mono HB3.out.size))
        have HU4 := Lib.hid (HU3.out.grows hb4)
        clear c0 c1 c2 c3 c4 c5 c6 c7 HT3 HI3 HB3 HU3 hb4
        obtain ⟨pc, cc, rfl, -⟩ := hcs.isI.shape
        clear hcs
        obtain ⟨cs, hcs⟩ : ∃ cs, childs t = cs := ⟨_, rfl⟩
        have hcl : cs.length ≤ 2 := by rw [← hcs]; exact childs_le t
        rw [hcs] at HC4 HT ⊢
        clear hcs
        go_wp2
        go_loopw [32] (fun s32 wx => ∃ (k : Nat) (S2 : List Int), k ≤ cs.length ∧ s32 = .int .i64 k ∧ Blk wx w.heap.size (usedA n S2) 4 ∧ chB n i S cs = chB n i S2 (cs.drop k) ∧ OwnI 0 wx (.slice pc cs.length cc) cs ∧ Below w.heap.size w wx) (fun s32 _ => cs.length - (RowKit.intOf s32).toNat)
        case atStart => exact ⟨0, S, Nat.zero_le _, rfl, HU4.out, rfl, HC4.out, HB4.out⟩
        case round =>
          obtain ⟨k, S2, hk, rfl, hU2, hS2, hO2, hb2⟩ := hrel
          have HS2 := Lib.hid hS2
          have HU2 := Lib.hid hU2
          have HO2 := Lib.hid hO2
          have HB2 := Lib.hid hb2
          clear hU2 hS2 hO2 hb2
          by_cases hkl : k < cs.length
          · obtain ⟨c, hc⟩ := get_of_lt hkl
            obtain ⟨bc, oc, rfl, cc0⟩ := HO2.out.isI.at hc
            have HCh := Lib.hid (show chB n i S2 (cs.drop k) = if c ≤ i ∨ (n : Int) ≤ c ∨ c ∈ S2 then none else chB n i (c :: S2) (cs.drop (k + 1)) by
              rw [List.drop_eq_getElem_cons (lt_of_get hc), (List.getElem?_eq_some_iff.1 hc).2, chB])
            clear hc
            by_cases e1 : c ≤ (i : Int)
            · have HX := Lib.hid (show shapedB p = false by rw [HS.out, HSr.out, HT.out, HPl.out, HS2.out, HCh.out, if_pos (.inl e1)]; rfl)
              go_wp2
              go_ret
              exact ⟨ret_bool HX.out.symm, HB2.out⟩
            · by_cases e2 : (n : Int) ≤ c
              · have HX := Lib.hid (show shapedB p = false by rw [HS.out, HSr.out, HT.out, HPl.out, HS2.out, HCh.out, if_pos (.inr (.inl e2))]; rfl)
                go_wp2
                go_ret
                exact ⟨ret_bool HX.out.symm, HB2.out⟩
              · obtain ⟨c, rfl⟩ : ∃ m : Nat, c = (m : Int) := ⟨c.toNat, by omega⟩
                have hcn : c < n := by omega
                have d1 : decide ((c : Int) ≤ (i : Int)) = false := by rw [decide_eq_false_iff_not]; exact e1
                have d2 : decide ((n : Int) ≤ (c : Int)) = false := by rw [decide_eq_false_iff_not]; exact e2
                have d3 : decide (c ≤ i) = false := by rw [decide_eq_false_iff_not]; omega
                have d4 : decide (n ≤ c) = false := by rw [decide_eq_false_iff_not]; omega
                have cu := HU2.out.cell c (usedA_get S2 hcn)
                by_cases e3 : (c : Int) ∈ S2
                · have HX := Lib.hid (show shapedB p = false by rw [HS.out, HSr.out, HT.out, HPl.out, HS2.out, HCh.out, if_pos (.inr (.inr e3))]; rfl)
                  rw [decide_eq_true e3] at cu
                  go_wp2
                  go_ret
                  exact ⟨ret_bool HX.out.symm, HB2.out⟩
                · have HX := Lib.hid (HS2.out.trans (HCh.out.trans (if_neg (fun h => h.elim e1 (fun h => h.elim e2 e3)))))
                  rw [decide_eq_false e3] at cu
                  have fu := HU2.out.free c
                  have hul := HU2.out.lt
                  go_wp2
                  have hUs := HU2.out.set c (.bool true)
                  rw [usedA_set S2 hcn] at hUs
                  exact ⟨⟨k + 1, (c : Int) :: S2, by omega, by go_num, hUs, HX.out, HO2.out.keep (KeptTy.set (p := ⟨w.heap.size, c, none⟩) HU2.out (by unfold KS; decide) _), HB2.out.setCell (p := ⟨w.heap.size, c, none⟩) (Nat.le_refl _) _⟩, by simp [RowKit.intOf]; omega⟩
          · have HX := Lib.hid (show chB n i S cs = some S2 by rw [HS2.out, List.drop_eq_nil_of_le (by omega), chB])
            have HY := Lib.hid (show shB n 0 [] p = shB n (i + 1) S2 (p.drop (i + 1)) by rw [HSr.out, HT.out, HPl.out, HX.out]; rfl)
            go_wp2
            exact ⟨⟨i + 1, S2, by omega, by go_num, HU2.out, HY.out, HB2.out⟩, by simp [RowKit.intOf]; omega⟩
      · rw [Bool.not_eq_true] at hpl
        rw [hpl]
        have HX := Lib.hid (show shapedB p = false by rw [HS.out, HSr.out, HT.out, hpl]; rfl)
        clear hpl
        go_wp2
        go_ret
        exact ⟨ret_bool HX.out.symm, HB3.out⟩
    · have HX := Lib.hid (show shapedB p = true by rw [HS.out, HSr.out, List.drop_eq_nil_of_le (by have := HN.out; omega)]; rfl)
      clear hU hS hb
      go_wp2
      go_ret
      exact ⟨ret_bool HX.out.symm, HBr.out⟩
end Go.Proofs.Ytmhhfommgdljkaa
