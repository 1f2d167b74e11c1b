/-
  A branch as a row of its own; walk: given.
-/
import Derived.Test.YtmhhfommgdljkaaKf
import Derived.Laws.AppendOwnNone
import Derived.Maps.AppendAt
set_option linter.unusedSimpArgs false
set_option linter.unusedVariables false
namespace Go.Proofs.Ytmhhfommgdljkaa
open Go.RowKit Go.Lib

def rwL (u : Value) (r : Rw) : List Value := [u, .int .i64 r.C]
def rwCells (L : List (Value × Rw)) : List Value := L.flatMap fun q => rwL q.1 q.2
theorem rwCells_append (A B : List (Value × Rw)) : rwCells (A ++ B) = rwCells A ++ rwCells B := by unfold rwCells; rw [List.flatMap_append]
theorem rwCells_at : ∀ {L : List (Value × Rw)} {j : Nat} {q : Value × Rw}, L[j]? = some q → (rwCells L)[j * 2]? = some q.1 ∧ (rwCells L)[j * 2 + 1]? = some (.int .i64 q.2.C)
  | [], j, q, h => by simp at h
  | x :: L, 0, q, h => by
    simp at h; subst h
    exact ⟨rfl, rfl⟩
  | x :: L, j + 1, q, h => by
    have h2 : L[j]? = some q := by simpa using h
    have ih := rwCells_at h2
    have e : rwCells (x :: L) = x.1 :: .int .i64 x.2.C :: rwCells L := rfl
    rw [e, show (j + 1) * 2 = j * 2 + 1 + 1 by omega]
    exact ⟨by simpa using ih.1, by simpa using ih.2⟩
/-- a row's numbers: they came in, or are the call's own. -/
def RowV (w0 w : World) (u : Value) (l : List Int) : Prop := IsI w0 u l ∨ OwnI w0.heap.size w u l
theorem RowV.keep {w0 W W' : World} {u : Value} {l : List Int} (h : RowV w0 W u l) (hk : KeptTy KS W W') : RowV w0 W' u l := h.imp id fun h => h.keep hk
theorem RowV.isI {w0 w : World} {u : Value} {l : List Int} (h : RowV w0 w u l) (hb : Below w0.heap.size w0 w) : IsI w u l := by
  rcases h with h | h
  · exact h.grows hb
  · exact h.isI
/-- a branch as a row of its own. -/
def BrAt (w0 w : World) (v : Value) (br : List Rw) : Prop :=
  ∃ L : List (Value × Rw), L.map (·.2) = br ∧ w.ownsRow w0.heap.size 37 2 v L.length (rwCells L) ∧ ∀ q ∈ L, RowV w0 w q.1 q.2.A
theorem KS_row : ¬ KS 37 := by unfold KS; decide
theorem BrAt.nil (w0 w : World) : BrAt w0 w (.slice none 0 0) [] := ⟨[], rfl, World.ownsRow_nil _ _ _ _, fun _ h => by cases h⟩
theorem BrAt.grows {w0 w w' : World} {v : Value} {br : List Rw} (h : BrAt w0 w v br) (hb : Below w.heap.size w w') : BrAt w0 w' v br := by
  obtain ⟨L, hL, ho, hp⟩ := h
  exact ⟨L, hL, own_keep (S := fun _ => True) ho (KeptTy.below hb) trivial, fun q hq => (hp q hq).keep (KeptTy.below hb)⟩
theorem BrAt.len {w0 w : World} {v : Value} {br : List Rw} (h : BrAt w0 w v br) : ∃ p cap, v = .slice p br.length cap := by
  obtain ⟨L, rfl, ho, -⟩ := h
  obtain ⟨p, cap, e⟩ := own_shape ho
  exact ⟨p, cap, by rw [e, List.length_map]⟩
/-- a branch reads as rows. -/
theorem BrAt.isRs {w0 w : World} {v : Value} {br : List Rw} (h : BrAt w0 w v br) (hb : Below w0.heap.size w0 w) : IsRs w v br := by
  obtain ⟨L, rfl, ho, hp⟩ := h
  have ho2 := ho
  obtain ⟨hl, ⟨rfl, hn⟩ | ⟨g, cap, cur, rfl, hg, hh, hcap, hm, hsz, htk⟩⟩ := ho
  · obtain rfl : L = [] := List.length_eq_zero_iff.1 hn
    exact IsRs.nil w
  · refine ⟨some ⟨g, 0, none⟩, cap, by rw [List.length_map], by rw [List.length_map]; exact hcap, fun e => (by cases e), fun j r hj => ?_⟩
    rw [List.getElem?_map] at hj
    obtain ⟨q, hq, rfl⟩ := Option.map_eq_some_iff.1 hj
    obtain ⟨h1, h2⟩ := rwCells_at hq
    exact ⟨g, 0, q.1, rfl, by rw [Nat.zero_add]; exact (own_cell ho2 h1).1, by rw [Nat.zero_add]; exact (own_cell ho2 h2).1, (hp q (List.mem_of_getElem? hq)).isI hb⟩
/-- a row was appended. -/
theorem BrAt.push {w0 w w' : World} {v v' : Value} {L : List (Value × Rw)} {r : Rw} {u : Value} (hp : ∀ q ∈ L, RowV w0 w q.1 q.2.A) (ho : w.ownsRow w0.heap.size 37 2 v L.length (rwCells L)) (hr : RowV w0 w u r.A)
    (hown : w'.ownsRow w0.heap.size 37 2 v' (L.length + 1) (rwCells L ++ [u, .int .i64 r.C])) (hg : w.grownBy w' v.ownBlock) : BrAt w0 w' v' (L.map (·.2) ++ [r]) := by
  have hk : KeptTy KS w w' := KeptTy.grown hg ho KS_row
  refine ⟨L ++ [(u, r)], by rw [List.map_append]; rfl, ?_, fun q hq => ?_⟩
  · rw [rwCells_append, List.length_append]
    exact hown
  · rcases List.mem_append.1 hq with h | h
    · exact (hp q h).keep hk
    · rw [List.mem_singleton] at h; subst h; exact hr.keep hk
theorem addr_add (b o j : Nat) : (⟨b, o, none⟩ : Addr).add j = ⟨b, o + j, none⟩ := by unfold Addr.add; split <;> simp_all
/-- all the system's rows were appended to nothing. -/
theorem BrAt.first {w0 : World} {u : Value} {l : List Rw} (h : IsRs w0 u l) : ∃ L : List (Value × Rw), L.map (·.2) = l ∧ (∀ q ∈ L, IsI w0 q.1 q.2.A) ∧ ∀ ad cap n, u = .slice (some ad) n cap → ∀ j x, (rwCells L)[j]? = some x → w0.cell? (ad.add j) = some x := by
  obtain ⟨p, cap, rfl, h1, h0, h2⟩ := h.is
  have hc : ∀ j : Nat, ∃ q : Value × Rw, ∀ r, l[j]? = some r → q.2 = r ∧ IsI w0 q.1 r.A ∧ ∃ b o, p = some ⟨b, o, none⟩ ∧ w0.cell? ⟨b, o + j * 2, none⟩ = some q.1 ∧ w0.cell? ⟨b, o + j * 2 + 1, none⟩ = some (.int .i64 r.C) := by
    intro j
    by_cases hj : ∃ r, l[j]? = some r
    · obtain ⟨r, hr⟩ := hj
      obtain ⟨b, o, u, e, c0, c1, hI⟩ := h2 j r hr
      exact ⟨(u, r), fun r2 hr2 => by rw [hr] at hr2; cases hr2; exact ⟨rfl, hI, b, o, e, c0, c1⟩⟩
    · exact ⟨(.bool false, ⟨[], 0⟩), fun r hr => absurd ⟨r, hr⟩ hj⟩
  obtain ⟨f, hf⟩ : ∃ f : Nat → Value × Rw, ∀ j r, l[j]? = some r → (f j).2 = r ∧ IsI w0 (f j).1 r.A ∧ ∃ b o, p = some ⟨b, o, none⟩ ∧ w0.cell? ⟨b, o + j * 2, none⟩ = some (f j).1 ∧ w0.cell? ⟨b, o + j * 2 + 1, none⟩ = some (.int .i64 r.C) :=
    ⟨fun j => (hc j).choose, fun j => (hc j).choose_spec⟩
  have hg : ∀ j : Nat, ((List.range l.length).map f)[j]? = if j < l.length then some (f j) else none := by
    intro j
    rw [List.getElem?_map]
    by_cases hj : j < l.length
    · rw [if_pos hj, List.getElem?_range hj]; rfl
    · rw [if_neg hj, List.getElem?_eq_none (by rw [List.length_range]; omega)]; rfl
  refine ⟨(List.range l.length).map f, List.ext_getElem? fun j => ?_, fun q hq => ?_, fun ad cap2 n e j x hx => ?_⟩
  · rw [List.getElem?_map, hg]
    by_cases hj : j < l.length
    · rw [if_pos hj]
      obtain ⟨r, hr⟩ := get_of_lt hj
      rw [hr, Option.map_some, (hf j r hr).1]
    · rw [if_neg hj, List.getElem?_eq_none (by omega)]; rfl
  · obtain ⟨j, hj, rfl⟩ := List.mem_map.1 hq
    obtain ⟨r, hr⟩ := get_of_lt (List.mem_range.1 hj)
    rw [(hf j r hr).1]
    exact (hf j r hr).2.1
  · simp only [Value.slice.injEq] at e
    have hlen : ∀ M : List (Value × Rw), (rwCells M).length = M.length * 2 := fun M => by
      induction M with
      | nil => rfl
      | cons y M ih => show (rwCells M).length + 1 + 1 = _; rw [ih, List.length_cons]; omega
    have hjl := lt_of_get hx
    rw [hlen, List.length_map, List.length_range] at hjl
    have hk : j / 2 < l.length := by omega
    obtain ⟨r, hr⟩ := get_of_lt hk
    obtain ⟨q1, q2, b2, o2, e2, c0, c1⟩ := hf _ r hr
    rw [e2] at e
    obtain ⟨e3, -, -⟩ := e
    cases e3
    have hat := rwCells_at (show ((List.range l.length).map f)[j / 2]? = some (f (j / 2)) by rw [hg, if_pos hk])
    rcases Nat.mod_two_eq_zero_or_one j with hm | hm
    · rw [show j / 2 * 2 = j by omega] at hat c0
      rw [hat.1] at hx; cases hx
      rw [addr_add]; exact c0
    · rw [show j / 2 * 2 + 1 = j by omega] at hat
      rw [hat.2] at hx; cases hx
      rw [q1]
      rw [show o2 + j / 2 * 2 + 1 = o2 + j by omega] at c1
      rw [addr_add]; exact c1
theorem infoRow : (Try.prog.info? 37).map (fun i => (i.zero, i.size, i.bytes)) = some (some (.agg #[.slice none 0 0, .int .i64 0]), 2, 32) := by rfl
theorem rwCells_len (L : List (Value × Rw)) : (rwCells L).length = L.length * 2 := by
  induction L with
  | nil => rfl
  | cons x L ih => show (rwCells L).length + 1 + 1 = _; rw [ih, List.length_cons]; omega
theorem rwCells_one {w : World} {L : List (Value × Rw)} (h : ∀ q ∈ L, IsI w q.1 q.2.A) : ∀ u ∈ rwCells L, u.oneCell' = true := by
  intro u hu
  obtain ⟨q, hq, hu⟩ := List.mem_flatMap.1 hu
  unfold rwL at hu
  rcases List.mem_cons.1 hu with rfl | hu
  · obtain ⟨p, c, e, -⟩ := (h q hq).shape
    rw [e]; rfl
  · rw [List.mem_singleton] at hu; subst hu; rfl
set_option maxRecDepth 100000 in
set_option maxHeartbeats 1000000 in
theorem given_any (v : Value) (s : Sy) (w : World) (hv : IsS w v s) (hn : s.T.length ≤ 1000) (hl : s.R.length ≤ 1000000) (ht : ∀ t ∈ s.T, -1000000 ≤ t ∧ t ≤ 1000000) :
    Calls Try.prog 27 #[v] w fun e w' => ∃ u, e = .returned u ∧ BrAt w w' u (givenS s) ∧ Below w.heap.size w w' := by
  obtain ⟨t, u, rfl, hT, hR⟩ := hv
  obtain ⟨pt, ct, rfl, hct⟩ := hT.shape
  obtain ⟨p, cp, rfl, hcp, hp0, -⟩ := hR.is
  obtain ⟨L, hL, hLi, hLc⟩ := BrAt.first hR
  have hLl : L.length = s.R.length := by rw [← hL, List.length_map]
  obtain ⟨ii, hii, hi0, hi1, hi2⟩ := info_parts infoRow
  have HTt := Lib.hid (fun W (hW : Below w.heap.size w W) => hT.grows hW)
  have HLi := Lib.hid hLi
  have HLc := Lib.hid hLc
  have HLL := Lib.hid hLl
  have HL := Lib.hid hL
  have HAt := Lib.hid ht
  clear hT hR hLi hLc hLl hL ht
  go_enter Try.func27, Try.ntmps27
  go_upto_region 2 with fail
  have S1 : Blk (w.alloc (.cells #[.slice pt s.T.length ct, .slice p s.R.length cp] 25)) w.heap.size #[.slice pt s.T.length ct, .slice p s.R.length cp] 25 := Blk.new w _ _
  have hb1 : Below w.heap.size w (w.alloc (.cells #[.slice pt s.T.length ct, .slice p s.R.length cp] 25)) := by go_grown
  generalize hw1 : w.alloc (.cells #[.slice pt s.T.length ct, .slice p s.R.length cp] 25) = w1 at S1 hb1 ⊢
  have hz1 : w1.heap.size = w.heap.size + 1 := by rw [← hw1]; simp
  clear hw1
  have HZ1 := Lib.hid hz1
  have HS1 := Lib.hid S1
  have HB1 := Lib.hid hb1
  clear hz1
  go_cut [4] (fun s4 wx => BrAt w wx s4 s.R ∧ Blk wx w.heap.size #[.slice pt s.T.length ct, .slice p s.R.length cp] 25 ∧ Below w.heap.size w wx)
  case first =>
    have c1 := S1.cell 1 rfl
    clear S1 hb1
    rcases p with _ | ad
    · obtain rfl : cp = 0 := hp0 rfl
      have hRl : s.R.length = 0 := by omega
      have hs0 : s.R = [] := List.length_eq_zero_iff.1 hRl
      have HR0 := Lib.hid hs0
      clear hs0
      rw [hRl] at c1
      clear hRl
      go_wp2_with (first
        | (at_builtin; (refine wpList_append_own_none rfl _ _ 23 rfl w.heap.size 37 ii 2 Try.underlying23 hii (.slice none 0 0) 0 [] rfl (World.ownsRow_nil _ _ _ _) rfl ?_))
        | fail)
      go_meet
      rw [HR0.out]
      exact ⟨BrAt.nil _ _, by rw [← HR0.out]; exact HS1.out, HB1.out⟩
    · go_wp2_with (first
        | (at_builtin; go_loud (refine wpList_append_own _ rfl _ _ 23 rfl w.heap.size 37 ii (.agg #[.slice none 0 0, .int .i64 0]) 2 32 Try.underlying23 hii hi0 hi1 hi2 rfl (by decide) (.slice none 0 0) 0 [] rfl (World.ownsRow_nil _ _ _ _) ad s.R.length cp (rwCells L) rfl (by rw [rwCells_len, HLL.out]) (fun j x hx => by have h := HLc.out ad cp s.R.length rfl j x hx; exact (HB1.out.cell (lt_of_cell h)).trans h) (rwCells_one HLi.out) (by unfold maxLen; omega) (by omega) HB1.out.size ?_); intro v7 w7 hown7 hg7 _)
        | fail)
      go_meet
      exact ⟨⟨L, HL.out, by rw [HLL.out]; simpa using hown7, fun q hq => .inl (HLi.out q hq)⟩, HS1.out.grownBy hg7 (fun k hk => by cases hk), HB1.out.grown hg7 HB1.out.size (fun k hk => by cases hk)⟩
  case rest =>
    obtain ⟨hbr, hS, hb⟩ := hcut
    have HQ := Lib.hid hbr
    have HSc := Lib.hid hS
    have HBc := Lib.hid hb
    clear hbr hS hb S1 hb1
    go_wp2
    go_loopw [4, 15] (fun s4 s15 wr => ∃ i : Nat, i ≤ s.T.length ∧ s15 = .int .i64 i ∧ BrAt w wr s4 (s.R ++ (List.range i).map fun i => atLeast s.T.length i 0) ∧ Blk wr w.heap.size #[.slice pt s.T.length ct, .slice p s.R.length cp] 25 ∧ Below w.heap.size w wr) (fun _ s15 _ => s.T.length - (RowKit.intOf s15).toNat)
    case atStart => exact ⟨0, Nat.zero_le _, rfl, by simpa using HQ.out, HSc.out, HBc.out⟩
    case round =>
      obtain ⟨i, hi, rfl, hbr, hS, hb⟩ := hrel
      have HQr := Lib.hid hbr
      have HSr := Lib.hid hS
      have HBr := Lib.hid hb
      obtain ⟨L2, hL2, ho2, hp2⟩ := hbr
      obtain ⟨pv, cv, rfl⟩ := own_shape ho2
      have hm0 : L2.length = s.R.length + i := by rw [← List.length_map (f := (·.2)), hL2, List.length_append, List.length_map, List.length_range]
      have HM0 := Lib.hid hm0
      obtain ⟨m, hm⟩ : ∃ m, L2.length = m := ⟨_, rfl⟩
      have hmm : m ≤ 1001000 := by omega
      rw [hm] at ho2 ⊢
      have HM := Lib.hid hm
      have HL2 := Lib.hid hL2
      have HP2 := Lib.hid hp2
      have HO2 := Lib.hid ho2
      clear hm hL2 hp2 ho2 hm0
      by_cases hlt : i < s.T.length
      · clear hS hb
        go_wp2_with fail
        refine (atLeast_any s.T.length i 0 wr hlt hn (by omega)).mono ?_
        rintro e w2 ⟨u, rfl, hu, hb2⟩
        obtain ⟨pu, cu, rfl, -⟩ := hu.isI.shape
        have HU := Lib.hid hu
        have HB2 := Lib.hid (And.intro hb2 (HBr.out.trans (hb2.mono HBr.out.size)))
        have HS2 := Lib.hid (HSr.out.grows hb2)
        have HO3 := Lib.hid (own_keep (S := fun _ => True) HO2.out (KeptTy.below hb2) trivial)
        have hws := HB2.out.2.size
        clear hu hb2
        go_wp2_with (first
          | (at_builtin; go_loud (refine wpList_append_own _ rfl _ _ 23 rfl w.heap.size 37 ii (.agg #[.slice none 0 0, .int .i64 0]) 2 32 Try.underlying23 hii hi0 hi1 hi2 rfl (by decide) (.slice pv m cv) m (rwCells L2) rfl (own_alloc HO3.out _) ⟨w2.heap.size, 0, none⟩ 1 1 _ rfl rfl (cells_new _ _ _ _ rfl) (one_all rfl) (by unfold maxLen; omega) (by omega) (by simp; omega) ?_); intro v7 w7 hown7 hg7 _)
          | fail)
        refine ⟨⟨i + 1, by omega, by go_num, ?_, ?_, ?_⟩, by simp [RowKit.intOf]; omega⟩
        · rw [List.range_succ, List.map_append, ← List.append_assoc, ← HL2.out]
          exact BrAt.push (w := w2.alloc _) (fun q hq => (HP2.out q hq).keep ((KeptTy.below HB2.out.1).trans (KeptTy.below ((Below.refl _ w2).alloc (Nat.le_refl _) _)))) (by rw [HM.out]; exact own_alloc HO3.out _) (.inr ((HU.out.low HBr.out.size).grows ((Below.refl _ w2).alloc (Nat.le_refl _) _))) (by rw [HM.out]; exact hown7) hg7
        · exact (HS2.out.alloc _).grownBy hg7 (own_ne HO3.out HS2.out (by decide))
        · exact (HB2.out.2.alloc hws _).grown hg7 (by simp; omega) (own_ge HO3.out)
      · obtain rfl : i = s.T.length := by omega
        clear hS hb
        have c0 := HSr.out.cell 0 rfl
        have HBase := Lib.hid HL2.out
        have hsz := HBr.out.size
        go_wp2
        clear c0
        go_loopw [4, 28] (fun s4 s28 wx => ∃ i : Nat, i ≤ s.T.length ∧ s28 = .int .i64 i ∧ BrAt w wx s4 ((s.R ++ (List.range s.T.length).map fun i => atLeast s.T.length i 0) ++ (s.T.mapIdx fun i t => atMost s.T.length i t).take i) ∧ Below w.heap.size w wx) (fun _ s28 _ => s.T.length - (RowKit.intOf s28).toNat)
        case atStart => exact ⟨0, Nat.zero_le _, rfl, by rw [List.take_zero, List.append_nil, HM.out.symm]; exact HQr.out, HBr.out⟩
        case round =>
          clear HQr HSr HBr HL2 HP2 HO2 HM HM0
          obtain ⟨i, hi, rfl, hbr, hb⟩ := hrel
          have HQr := Lib.hid hbr
          have HBr := Lib.hid hb
          obtain ⟨L3, hL3, ho3, hp3⟩ := hbr
          obtain ⟨pv3, cv3, rfl⟩ := own_shape ho3
          have hm0 : L3.length = s.R.length + s.T.length + i := by
            rw [← List.length_map (f := (·.2)), hL3, List.length_append, List.length_append, List.length_map, List.length_range, List.length_take, List.length_mapIdx]; omega
          have HM0 := Lib.hid hm0
          obtain ⟨n3, hn3⟩ : ∃ m, L3.length = m := ⟨_, rfl⟩
          have hmm3 : n3 ≤ 1002000 := by omega
          rw [hn3] at ho3 ⊢
          have HM := Lib.hid hn3
          have HL3 := Lib.hid hL3
          have HP3 := Lib.hid hp3
          have HO3 := Lib.hid ho3
          have hsz3 := hb.size
          clear hn3 hL3 hp3 ho3 hm0 hb
          by_cases hlt : i < s.T.length
          · obtain ⟨x, hx⟩ := get_of_lt hlt
            obtain ⟨ub, uo, hue, cx⟩ := (HTt.out _ HBr.out).at hx
            subst hue
            have hx2 := HAt.out x (List.mem_of_getElem? hx)
            have HX := Lib.hid (show (s.T.mapIdx fun i t => atMost s.T.length i t)[i]? = some (atMost s.T.length i x) by rw [List.getElem?_mapIdx, hx]; rfl)
            clear hx
            go_wp2_with fail
            refine (atMost_any s.T.length i x _ hlt hn (by omega)).mono ?_
            rintro e w2 ⟨u, rfl, hu, hb2⟩
            obtain ⟨pu, cu, rfl, -⟩ := hu.isI.shape
            have HU := Lib.hid hu
            have HB2 := Lib.hid (And.intro hb2 (HBr.out.trans (hb2.mono HBr.out.size)))
            have HO4 := Lib.hid (own_keep (S := fun _ => True) HO3.out (KeptTy.below hb2) trivial)
            have hws := HB2.out.2.size
            clear hu hb2 cx
            go_wp2_with (first
              | (at_builtin; go_loud (refine wpList_append_own _ rfl _ _ 23 rfl w.heap.size 37 ii (.agg #[.slice none 0 0, .int .i64 0]) 2 32 Try.underlying23 hii hi0 hi1 hi2 rfl (by decide) (.slice pv3 n3 cv3) n3 (rwCells L3) rfl (own_alloc HO4.out _) ⟨w2.heap.size, 0, none⟩ 1 1 _ rfl rfl (cells_new _ _ _ _ rfl) (one_all rfl) (by unfold maxLen; omega) (by omega) (by simp; omega) ?_); intro v7 w7 hown7 hg7 _)
              | fail)
            refine ⟨⟨i + 1, by omega, by go_num, ?_, ?_⟩, by simp [RowKit.intOf]; omega⟩
            · rw [take_snoc HX.out, ← List.append_assoc, ← HL3.out]
              exact BrAt.push (w := w2.alloc _) (fun q hq => (HP3.out q hq).keep ((KeptTy.below HB2.out.1).trans (KeptTy.below ((Below.refl _ w2).alloc (Nat.le_refl _) _)))) (by rw [HM.out]; exact own_alloc HO4.out _) (.inr ((HU.out.low HBr.out.size).grows ((Below.refl _ w2).alloc (Nat.le_refl _) _))) (by rw [HM.out]; exact hown7) hg7
            · exact (HB2.out.2.alloc hws _).grown hg7 (by simp; omega) (own_ge HO4.out)
          · obtain rfl : i = s.T.length := by omega
            go_wp2
            go_ret
            refine ⟨_, rfl, ?_, HBr.out⟩
            have h := HQr.out
            rw [HM.out, List.take_of_length_le (by rw [List.length_mapIdx]; exact Nat.le_refl _), List.append_assoc] at h
            exact h
end Go.Proofs.Ytmhhfommgdljkaa
