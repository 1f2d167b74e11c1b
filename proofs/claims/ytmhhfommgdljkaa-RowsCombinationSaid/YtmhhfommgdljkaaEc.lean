/-
  Walk: exclude.
-/
import Derived.Test.YtmhhfommgdljkaaSp
set_option linter.unusedSimpArgs false
set_option linter.unusedVariables false
namespace Go.Proofs.Ytmhhfommgdljkaa
open Go.RowKit Go.Lib

theorem PfAt.keepM {base : Nat} {W W' : World} {L : List (Value × Sp)} (h : ∀ q ∈ L, OwnI base W q.1 q.2.M) (hk : KeptTy KS W W') : ∀ q ∈ L, OwnI base W' q.1 q.2.M := fun q hq => (h q hq).keep hk
theorem cellsOf_append (A B : List (Value × Sp)) : cellsOf (A ++ B) = cellsOf A ++ cellsOf B := by unfold cellsOf; rw [List.flatMap_append]
theorem one_all {l : List Value} (h : l.all (·.oneCell') = true) : ∀ u ∈ l, u.oneCell' = true := List.all_eq_true.1 h
theorem own_ne {w : World} {base : Nat} {e t : TypeId} {size : Nat} {v : Value} {n : Nat} {xs : List Value} {F : Nat} {vs : Array Value} (h : w.ownsRow base e size v n xs) (hF : Blk w F vs t) (hne : t ≠ e) : ∀ k, v.ownBlock = some k → k ≠ F := by
  intro k hk e2
  subst e2
  rcases h.2 with ⟨rfl, _⟩ | ⟨g, cap, cur, rfl, _, hh, _⟩
  · cases hk
  · simp only [Value.ownBlock, Option.some.injEq] at hk
    subst hk
    rw [hF.is] at hh
    simp only [Option.some.injEq, Obj.cells.injEq] at hh
    exact hne hh.2.1
theorem own_ints {w : World} {b base : Nat} {m : List Int} (h : Blk w b (intsA m) 3) (hm : m.length ≤ maxLen) (hb : base ≤ b) : OwnI base w (.slice (some ⟨b, 0, none⟩) m.length m.length) m := by
  have := own_of_blk (base := base) h m.length 1 (by rw [intsA_size]; omega) hm hb
  unfold OwnI
  simpa [intsA] using this
/-- what exclude leaves. -/
def ExcRes (base : Nat) (w : World) (F : Nat) (vt vr : Value) (P N : List Sp) (e : Ending) (w' : World) : Prop :=
  e = .returned (.tuple #[]) ∧ (∃ vs, Blk w' F #[vt, vr, vs] 54 ∧ PfAt base w' vs (P ++ N)) ∧ KeptTy KS w w' ∧ Below base w w'
set_option maxRecDepth 100000 in
set_option maxHeartbeats 4000000 in
theorem exclude_any (F base k size n : Nat) (vt vr vs : Value) (rs : List Rw) (r : Rw) (B : List Iv) (P : List Sp) (w : World) (hF : Blk w F #[vt, vr, vs] 54) (hbF : base ≤ F) (hP : PfAt base w vs P) (hR : IsRs w vr rs) (hr : rs[k]? = some r)
    (hok : okRow n r = true) (hB : B.length = 12) (hn : n ≤ 12) (hk : k < size) (hsz : size ≤ 1000000) (hPl : P.length ≤ 1000000)
    (hpos : ∀ (i : Nat) (v : Iv), (B.take n)[i]? = some v → (0 ≤ v.lr ∧ v.lr < size) ∧ 0 ≤ v.hr ∧ v.hr < size) :
    Calls Try.prog 33 #[.pointer (some ⟨F, 0, none⟩), .int .i64 k, .agg (boxA B), .int .i64 size] w (ExcRes base w F vt vr P [sumStep P.length (leafM r (B.take n) k size), closeStep]) := by
  obtain ⟨ii, hii, hi0, hi1, hi2⟩ := info_parts infoI
  obtain ⟨is, his, hs0, hs1, hs2⟩ := info_parts infoSt
  obtain ⟨rp, rc, rfl, hrc⟩ := hR.shape
  obtain ⟨rb, ro, u, rfl, cx, cy, hu⟩ := hR.at hr
  obtain ⟨pu, cu, rfl, hcu⟩ := hu.shape
  obtain ⟨hlen, hwi⟩ := okRow_iff.1 hok
  have hwa := (within_iff.1 hwi).1
  have hkl := lt_of_get hr
  have hbF2 := hF.lt
  have HF := Lib.hid hF
  have HP := Lib.hid hP
  have HU := Lib.hid hu
  have HB := Lib.hid hB
  have HPos := Lib.hid hpos
  have HA := Lib.hid hwa
  have HL := Lib.hid hlen
  have hlen12 : r.A.length ≤ 12 := by omega
  have hrl : rs.length ≤ rc := hrc
  have HMd := Lib.hid (made_ints size)
  have hb1 : Below w.heap.size w (w.alloc (.cells (boxA B) 58)) := by go_grown
  have D1 : BxAt (w.alloc (.cells (boxA B) 58)) w.heap.size B := ⟨Blk.new w _ _, hB⟩
  have f1 := (HF.out.grows hb1).cell 1 rfl
  have HW1 := Lib.hid hb1
  have HD1 := Lib.hid D1
  clear hF hP hu hB hpos hwa hlen hb1 D1 hwi hok hR
  go_enter Try.func33, Try.ntmps33
  go_upto_region 2 with (first
    | (at_make; refine wpList_make_row _ rfl _ _ 22 rfl 3 ii _ Try.underlying22 hii hi0 hi1 rfl _ _ size rfl rfl (by rw [hi2]; omega) (by omega) ?_; rw [HMd.out])
    | fail)
  refine wp_world fun w2 hw2 => ?_
  have M2 : Blk w2 (w.heap.size + 1) (intsA (List.replicate size 0)) 3 := by rw [hw2]; exact Blk.alloc1 w _ _ _ _
  have D2 : BxAt w2 w.heap.size B := by rw [hw2]; exact HD1.out.grows (by go_grown)
  have hb2 : Below w.heap.size w w2 := by rw [hw2]; exact HW1.out.alloc HW1.out.size _
  clear hw2 f1
  have HD2 := Lib.hid D2
  have c1 := M2.cell k (intsA_get (x := 0) (by rw [List.getElem?_replicate, if_pos hk]))
  have g1 := M2.free k
  have hml := M2.lt
  have HM2 := Lib.hid M2
  have HW2 := Lib.hid hb2
  clear M2 D2 hb2
  go_upto_region 3 with fail
  refine wp_world fun w3 hw3 => ?_
  have M3 : Blk w3 (w.heap.size + 1) (intsA ((List.replicate size 0).set k 1)) 3 := by rw [hw3, ← intsA_set]; exact HM2.out.set k _
  have D3 : BxAt w3 w.heap.size B := by rw [hw3]; exact HD2.out.other (by show _ ≠ w.heap.size + 1; omega) _
  have hb3 : Below w.heap.size w w3 := by rw [hw3]; exact HW2.out.setCell (p := ⟨w.heap.size + 1, k, none⟩) (by show _ ≤ w.heap.size + 1; omega) _
  clear hw3 c1 g1 hml HM2 HW2 HD2
  have HD3 := Lib.hid D3
  have HM3 := Lib.hid M3
  have HW3 := Lib.hid hb3
  have f1 := (HF.out.grows hb3).cell 1 rfl
  have cx3 := (hb3.cell (lt_of_cell cx)).trans cx
  have cy3 := (hb3.cell (lt_of_cell cy)).trans cy
  clear D3 M3 hb3 cx cy
  go_wp2
  clear f1 cx3 cy3
  go_loopw [27] (fun iv wr => ∃ i : Nat, i ≤ r.A.length ∧ iv = .int .i64 i ∧ Blk wr (w.heap.size + 1) (intsA (mk (r.A.take i) (B.take n) ((List.replicate size 0).set k 1))) 3 ∧ BxAt wr w.heap.size B ∧ Below w.heap.size w wr) (fun iv _ => r.A.length - (RowKit.intOf iv).toNat)
  case atStart => exact ⟨0, Nat.zero_le _, rfl, by simpa [mk] using HM3.out, HD3.out, HW3.out⟩
  case round =>
    obtain ⟨i, hi, rfl, M, D, hb⟩ := hrel
    clear HM3 HD3 HW3
    have hmlen : (mk (r.A.take i) (B.take n) ((List.replicate size (0 : Int)).set k 1)).length = size := by rw [mk_length]; simp
    by_cases hlt : i < r.A.length
    · obtain ⟨a, ha⟩ := get_of_lt hlt
      obtain ⟨ub, uo, hue, ca⟩ := (HU.out.grows hb).at ha
      subst hue
      have hin : i < n := by have := HL.out; omega
      obtain ⟨v, hv⟩ := get_of_lt (l := B) (k := i) (by have := HB.out; omega)
      have hvt : (B.take n)[i]? = some v := by rw [List.getElem?_take_of_lt hin]; exact hv
      obtain ⟨x0, x1, x2, x3⟩ := D.cells hv
      obtain ⟨⟨p1, p2⟩, p3, p4⟩ := HPos.out i v hvt
      have HS := Lib.hid (mk_take ((List.replicate size (0 : Int)).set k 1) ha hvt)
      obtain ⟨ha1, ha2⟩ := HA.out a (List.mem_of_getElem? ha)
      generalize mk (r.A.take i) (B.take n) ((List.replicate size (0 : Int)).set k 1) = m at M HS hmlen
      have HML := Lib.hid hmlen
      have i12 : i < 12 := by omega
      have i12' : (i : Int) < 12 := by omega
      obtain ⟨ql, hql⟩ : ∃ q : Nat, v.lr = (q : Int) := ⟨v.lr.toNat, by omega⟩
      obtain ⟨qh, hqh⟩ : ∃ q : Nat, v.hr = (q : Int) := ⟨v.hr.toNat, by omega⟩
      rw [hql] at x2 p1 p2
      rw [hqh] at x3 p3 p4
      have hql2 : ql < size := by omega
      have hqh2 : qh < size := by omega
      have HQ := Lib.hid (show posn a v = (if 0 < a then qh else ql) by unfold posn; rw [hql, hqh]; simp)
      have HM := Lib.hid M
      have HD := Lib.hid D
      have HW := Lib.hid hb
      have hml := M.lt
      obtain ⟨zl, hzl⟩ := get_of_lt (l := m) (k := ql) (by omega)
      obtain ⟨zh, hzh⟩ := get_of_lt (l := m) (k := qh) (by omega)
      have cl := M.cell ql (intsA_get hzl)
      have ch := M.cell qh (intsA_get hzh)
      have gl := M.free ql
      have gh := M.free qh
      clear M D hb hv hvt ha hmlen hql hqh hzl hzh
      by_cases hpa : 0 < a
      · have HP2 := Lib.hid (show (mk (r.A.take (i + 1)) (B.take n) ((List.replicate size (0 : Int)).set k 1)) = m.set qh a by rw [HS.out, HQ.out, if_pos hpa]; unfold mult; rw [if_pos hpa])
        go_wp2
        go_roundw
        case rel => exact ⟨i + 1, by omega, by go_num, by rw [HP2.out, ← intsA_set]; exact HM.out.set qh _, HD.out.other (by show _ ≠ w.heap.size + 1; omega) _, HW.out.setCell (p := ⟨w.heap.size + 1, qh, none⟩) (by show _ ≤ w.heap.size + 1; omega) _⟩
        case measure => simp [RowKit.intOf]; omega
      · have HP2 := Lib.hid (show (mk (r.A.take (i + 1)) (B.take n) ((List.replicate size (0 : Int)).set k 1)) = m.set ql (-a) by rw [HS.out, HQ.out, if_neg hpa]; unfold mult; rw [if_neg hpa])
        go_wp2
        go_roundw
        case rel => exact ⟨i + 1, by omega, by go_num, by rw [HP2.out, ← intsA_set]; exact HM.out.set ql _, HD.out.other (by show _ ≠ w.heap.size + 1; omega) _, HW.out.setCell (p := ⟨w.heap.size + 1, ql, none⟩) (by show _ ≤ w.heap.size + 1; omega) _⟩
        case measure => simp [RowKit.intOf]; omega
    · have hE : mk (r.A.take i) (B.take n) ((List.replicate size (0 : Int)).set k 1) = leafM r (B.take n) k size := by unfold leafM; rw [show r.A.take i = r.A from List.take_of_length_le (by omega)]
      rw [hE] at M hmlen
      generalize hLM : leafM r (B.take n) k size = m at M hmlen
      have HLM := Lib.hid hLM
      clear hE hLM
      have HF4 := Lib.hid (HF.out.grows hb)
      obtain ⟨L, hL, ho, hp⟩ := HP.out.below hb
      have hLl : L.length = P.length := by rw [← hL, List.length_map]
      obtain ⟨sp, sc, rfl⟩ := HP.out.shape
      have f2 := HF4.out.cell 2 rfl
      have g2 := HF4.out.free 2
      have hfl := HF4.out.lt
      have HM := Lib.hid M
      have HW := Lib.hid hb
      have HML := Lib.hid hmlen
      have HLl := Lib.hid hLl
      have HO := Lib.hid ho
      have HPp := Lib.hid hp
      have HLm := Lib.hid hL
      have hwz := hb.size
      have hLb : L.length ≤ 1000000 := by omega
      have HF5 := Lib.hid (fun (o : Obj) (w6 : World) (hg : (wr.alloc o).grownBy w6 (Value.slice sp P.length sc).ownBlock) => (show Blk w6 F #[vt, .slice (some ⟨rb, ro, none⟩) rs.length rc, .slice sp P.length sc] 54 from (HF4.out.alloc o).grownBy hg (own_ne (own_alloc HO.out o) (HF4.out.alloc o) (by decide))))
      have HN := Lib.hid (show cellsOf (L ++ [(.slice (some ⟨w.heap.size + 1, 0, none⟩) size size, sumStep P.length m), (.slice none 0 0, closeStep)]) = cellsOf L ++ [.int .i64 1, .slice (some ⟨w.heap.size + 1, 0, none⟩) size size, .int .i64 0, .int .i64 0, .int .i64 0, .int .i64 0, .int .i64 ((P.length : Int) + 1), .int .i64 0, .int .i64 4, .slice none 0 0, .int .i64 0, .int .i64 0, .int .i64 0, .int .i64 0, .int .i64 0, .int .i64 0] by
        rw [cellsOf_append]; rfl)
      clear M hb D hmlen hLl ho hp hL
      go_upto_region 11 with fail
      go_wp2_with (first
        | (at_builtin; go_loud (refine wpList_append_own _ rfl _ _ 29 rfl base 49 is _ 8 80 Try.underlying29 his hs0 hs1 hs2 rfl (by decide) _ L.length (cellsOf L) rfl (own_alloc HO.out _) ⟨wr.heap.size, 0, none⟩ 2 2 [.int .i64 1, .slice (some ⟨w.heap.size + 1, 0, none⟩) size size, .int .i64 0, .int .i64 0, .int .i64 0, .int .i64 0, .int .i64 ((P.length : Int) + 1), .int .i64 0, .int .i64 4, .slice none 0 0, .int .i64 0, .int .i64 0, .int .i64 0, .int .i64 0, .int .i64 0, .int .i64 0] rfl rfl (cells_new _ _ _ _ rfl) (one_all rfl) (by unfold maxLen; omega) (by omega) (by simp; omega) ?_; intro v6 w6 hown6 hg6 _; obtain ⟨p6, c6, rfl⟩ := own_shape hown6; have hF6 := HF5.out _ _ hg6; have f6 := hF6.cell 2 rfl; have g6 := hF6.free 2; have hl6 := hF6.lt; have HO6 := Lib.hid hown6; have HG6 := Lib.hid hg6; have HF6 := Lib.hid hF6; clear hown6 hg6 hF6))
        | fail)
      go_end0
      have hG := HG6.out
      have hs6 := hG.size
      have k1 : KeptTy KS w wr := KeptTy.below HW.out
      have k2 : KeptTy KS wr (w6.setCell ⟨F, 2, none⟩ (.slice p6 (L.length + 2) c6)) :=
        ((KeptTy.below ((Below.refl _ wr).alloc (Nat.le_refl _) _)).trans (KeptTy.grown hG (own_alloc HO.out _) KS_step)).trans (KeptTy.set HF6.out KS_search _)
      refine ⟨rfl, ⟨.slice p6 (L.length + 2) c6, HF6.out.set 2 _, L ++ [(.slice (some ⟨w.heap.size + 1, 0, none⟩) size size, sumStep P.length m), (.slice none 0 0, closeStep)], ?_, ?_, ?_⟩, k1.trans k2, ?_⟩
      · rw [HLM.out, List.map_append, HLm.out]; rfl
      · rw [HN.out, List.length_append]
        exact own_keep (S := fun t => t = 49) HO6.out (KeptTy.set HF6.out (by decide) _) rfl
      · intro q hq
        rcases List.mem_append.1 hq with h | h
        · exact (HPp.out q h).keep k2
        · simp only [List.mem_cons, List.mem_nil_iff, or_false] at h
          rcases h with rfl | rfl
          · have := (own_ints (base := base) HM.out (by rw [HML.out]; unfold maxLen; omega) (by omega)).keep k2
            rw [HML.out] at this
            exact this
          · exact OwnI.nil _ _
      · exact (((HW.out.mono (by omega)).alloc (by omega) _).grown hG (by simp; omega) (own_ge HO.out)).setCell (p := ⟨F, 2, none⟩) hbF _
end Go.Proofs.Ytmhhfommgdljkaa
