/-
  Texts of the proof, one behind another: Zh, Yt, Yu, Zi, Zj, Zk, Zl.
-/
import Derived.Test.YtlhbhcfpbhnkeaaGreatDoorQcf
import Derived.Test.YtlhbhcfpbhnkeaaGreatDoorQce
import Derived.Test.YtlhbhcfpbhnkeaaGreatDoorQai
import Derived.Test.YtlhbhcfpbhnkeaaGreatDoorQcc
import Derived.Test.YtlhbhcfpbhnkeaaGreatDoorQbf
import Derived.Laws.IdiomStrings
set_option linter.unusedSimpArgs false
set_option linter.unusedVariables false
namespace Go.Proofs.YtlhbhcfpbhnkeaaGreatDoor
open Go.RowKit Go.Lib

def mvT (rows : List (List (Int × Pcs))) (p c : Nat) : Int × Pcs := (rows.getD p []).getD c (-1, [])
def outS (cls : List (BitVec 256)) (rows : List (List (Int × Pcs))) (fins : List Bool) (ends : List (List Int)) : Nat → List Int → Option (List Int)
  | p, [] => if fins.getD p false = true then some (ends.getD p []) else none
  | p, x :: b => if (mvT rows p (ix cls x.toNat).toNat).1 < 0 then none else (outS cls rows fins ends (mvT rows p (ix cls x.toNat).toNat).1.toNat b).map ((mvT rows p (ix cls x.toNat).toNat).2.map (outB x) ++ ·)
structure RunT (cls : List (BitVec 256)) (rows : List (List (Int × Pcs))) : Prop where
  ix_ : ∀ b, b < 256 → 0 ≤ ix cls b ∧ ix cls b < (cls.length : Int)
  row : ∀ r ∈ rows, r.length = cls.length
  to_ : ∀ r ∈ rows, ∀ m ∈ r, m.1 < (rows.length : Int)
  by_ : ∀ r ∈ rows, ∀ m ∈ r, ∀ q ∈ m.2, 0 ≤ q.2 ∧ q.2 < 256
theorem out_byt {x : Int} {l : Pcs} (hx : 0 ≤ x ∧ x < 256) (h : ∀ q ∈ l, 0 ≤ q.2 ∧ q.2 < 256) : Byt (l.map (outB x)) := by
  intro z hz
  obtain ⟨q, hq, rfl⟩ := List.mem_map.1 hz
  unfold outB
  split
  · exact hx
  · exact h q hq
theorem wpAnyZ_two {z : Nat} {P : Program} {md : Region.Mode} {ops : Array Oper} {Q : Exit → Act → World → Prop} {S : World → Prop} {j k : Nat} {o o' : Oper} {fuel : Nat} {listed : Array Bool} {a : Act} {w : World} (hr : Region.ready md ops listed = [j, k]) (ho : ops[j]? = some o) (ho' : ops[k]? = some o')
    (h : ∀ K' : Act → World → Prop, Shut (∀ a w, (j = z ∨ S w) → wpAnyZ z P md ops Q S fuel (listed.setIfInBounds j true) a w → K' a w) → if Region.wanted o (yielded ops a.tmps) = true then Oper.wp P o a w K' Q else K' (a.put o.dst undef) w)
    (h' : ∀ K' : Act → World → Prop, Shut (∀ a w, (k = z ∨ S w) → wpAnyZ z P md ops Q S fuel (listed.setIfInBounds k true) a w → K' a w) → if Region.wanted o' (yielded ops a.tmps) = true then Oper.wp P o' a w K' Q else K' (a.put o'.dst undef) w) :
    wpAnyZ z P md ops Q S (fuel + 1) listed a w := by
  refine ⟨fun e => (by rw [hr] at e; cases e), fun i hi => ?_⟩
  rw [hr, List.mem_cons, List.mem_singleton] at hi
  rcases hi with rfl | rfl
  · exact wpOp_step ho (fun K' hK => h K' (fun a w h1 h2 => hK a w ⟨h1, h2⟩))
  · exact wpOp_step ho' (fun K' hK => h' K' (fun a w h1 h2 => hK a w ⟨h1, h2⟩))
set_option maxRecDepth 100000 in
set_option maxHeartbeats 4000000 in
theorem output_any (v u : Value) (cls : List (BitVec 256)) (rows : List (List (Int × Pcs))) (fins : List Bool) (ends : List (List Int)) (p0 : Nat) (b : List Int) (w : World) (hv : IsT w v cls rows fins ends) (hu : IsY w u b) (ho : OkT cls rows fins ends) (hr : RunT cls rows) (hp : p0 < rows.length) (hb : b.length ≤ 1073741824) :
    Calls Tryz.prog 47 #[v, .int .i64 (p0 : Int), u] w (DoRes w (outS cls rows fins ends p0 b)) := by
  obtain ⟨i0, hi, hz0, hz1, hz2⟩ := info_parts infoU8
  obtain ⟨vc, vm, vf, ve, rfl, h1, h2, h3, h4⟩ := hv.is
  obtain ⟨pc, kc, rfl⟩ := h1.shape
  obtain ⟨pm, km, rfl, hm⟩ := h2
  obtain ⟨pf, kf, rfl⟩ := h3.shape
  obtain ⟨pe, ke, rfl, he⟩ := h4
  obtain ⟨pb, cb, rfl, hcb⟩ := hu.shape
  have B0 := Blk.new w #[.slice pc cls.length kc, .slice pm rows.length km, .slice pf fins.length kf, .slice pe ends.length ke] 43
  have hbw : Below w.heap.size w (w.alloc (.cells #[.slice pc cls.length kc, .slice pm rows.length km, .slice pf fins.length kf, .slice pe ends.length ke] 43)) := by go_grown
  have hsz : (w.alloc (.cells #[.slice pc cls.length kc, .slice pm rows.length km, .slice pf fins.length kf, .slice pe ends.length ke] 43)).heap.size = w.heap.size + 1 := by simp
  have H1 := Lib.hid h1
  have HM := Lib.hid hm
  have H3 := Lib.hid h3
  have HE := Lib.hid he
  have HO := Lib.hid ho
  have HR := Lib.hid hr
  have HU := Lib.hid hu
  have hcl := ho.cl
  clear hv h1 hm h3 he ho hr hu
  go_enter Tryz.func47, Tryz.ntmps47
  go_wp2
  generalize (w.alloc (.cells #[.slice pc cls.length kc, .slice pm rows.length km, .slice pf fins.length kf, .slice pe ends.length ke] 43)) = w1 at B0 hbw hsz ⊢
  go_loopw [1, 8, 14] (fun pv rv iv wr => ∃ (i p : Nat) (acc : List Int), pv = .int .i64 (p : Int) ∧ iv = .int .i64 (i : Int) ∧ i ≤ b.length ∧ p < rows.length ∧ wr.ownsRow (w.heap.size + 1) 5 1 rv acc.length (acc.map (Value.int .u8)) ∧ Byt acc ∧ (outS cls rows fins ends p (b.drop i)).map (acc ++ ·) = outS cls rows fins ends p0 b ∧
    Blk wr w.heap.size #[.slice pc cls.length kc, .slice pm rows.length km, .slice pf fins.length kf, .slice pe ends.length ke] 43 ∧ Below w.heap.size w wr ∧ acc.length ≤ 8 * i ∧ w.heap.size + 1 ≤ wr.heap.size) (fun _ _ iv _ => b.length - (RowKit.intOf iv).toNat)
  case atStart =>
    exact ⟨0, p0, [], rfl, rfl, Nat.zero_le _, hp, World.ownsRow_nil _ _ _ _, Byt.nil, by simp, B0, hbw, by simp, by omega⟩
  case round =>
    obtain ⟨i, p, acc, rfl, rfl, hi', hpl, hown, hY, hS, hB, hbl, hac, hz⟩ := hrel
    by_cases hlt : i < b.length
    · obtain ⟨x, hx⟩ := get_of_lt hlt
      obtain ⟨xb, xo, rfl, hcell⟩ := (HU.out.grows hbl).at hx
      have hxb := HU.out.byt.at hx
      obtain ⟨r, hr⟩ : ∃ r, rows[p]? = some r := ⟨_, List.getElem?_eq_getElem hpl⟩
      have hrm := List.mem_of_getElem? hr
      obtain ⟨gb, go, u2, rfl, g0, ⟨pr, kr, rfl, hrow⟩⟩ := HM.out p r hr
      obtain ⟨hix1, hix2⟩ := HR.out.ix_ x.toNat (by omega)
      have hcl2 := HR.out.row r hrm
      obtain ⟨c, hc⟩ : ∃ c : Nat, ix cls x.toNat = (c : Int) := ⟨(ix cls x.toNat).toNat, by omega⟩
      have hcr : c < r.length := by omega
      obtain ⟨m, hm⟩ : ∃ m, r[c]? = some m := ⟨_, List.getElem?_eq_getElem hcr⟩
      have hmm := List.mem_of_getElem? hm
      obtain ⟨rb, ro, u3, rfl, m0, m1, hpcs⟩ := hrow c m hm
      have hmv : mvT rows p (ix cls x.toNat).toNat = m := by
        unfold mvT
        rw [hc, List.getD_eq_getElem?_getD, List.getD_eq_getElem?_getD, hr]
        show (r[(c : Int).toNat]?).getD (-1, []) = m
        rw [Int.toNat_natCast, hm]; rfl
      have hm8 := (HO.out.mv r hrm m hmm)
      have hmto := HR.out.to_ r hrm m hmm
      have hmby := HR.out.by_ r hrm m hmm
      have hpc' := hpcs.grows hbl
      obtain ⟨pp, pk, rfl, hpl2⟩ := hpcs
      have n0 := (hbl.cell (lt_of_cell g0)).trans g0
      have n1 := (hbl.cell (lt_of_cell m0)).trans m0
      have n2 := (hbl.cell (lt_of_cell m1)).trans m1
      obtain ⟨t, pl⟩ := m
      dsimp only at n1 n2 hmto hmby hpc'
      have hSx : (outS cls rows fins ends p (b.drop i)) = if t < 0 then none else (outS cls rows fins ends t.toNat (b.drop (i + 1))).map (pl.map (outB x) ++ ·) := by
        rw [drop_cons hx]
        show (if (mvT rows p (ix cls x.toNat).toNat).1 < 0 then _ else _) = _
        rw [hmv]
      rw [hSx] at hS
      have HCi := Lib.hid (fun W (hW : Below w.heap.size w W) => hc ▸ index_any (.slice pc cls.length kc) cls x hxb.1 hxb.2 W (H1.out.grows hW) (by omega))
      have b0 := hB.cell 0 rfl
      have b1 := hB.cell 1 rfl
      have HS := Lib.hid hS
      have HB := Lib.hid hB
      have Hbl := Lib.hid hbl
      have Hown := Lib.hid hown
      have HY := Lib.hid hY
      have HP := Lib.hid hpc'
      clear hS hB hbl hown hY hpc' hSx hmv hm hmm hr hrm hcl2 g0 m0 m1 hpl2 hrow hix1 hix2 hc
      go_wp2
      refine wp_mono (Q := fun e a' w' => e = .normal ∧ ∃ mb, a' = (fun mb : Nat => ({ tmps := #[.agg #[.slice pc cls.length kc, .slice (some ⟨gb, go, none⟩) rows.length km, .slice pf fins.length kf, .slice pe ends.length ke], .int .i64 (p : Int), .slice (some ⟨xb, xo, none⟩) b.length cb, .pointer (some ⟨w.heap.size, 0, none⟩), undef, undef, u6, u7, u8, undef, .int .u8 x, .pointer (some ⟨mb, 0, none⟩), .slice (some ⟨xb, xo, none⟩) b.length cb, .int .i64 (b.length : Int), .int .i64 (i : Int), .bool true, .pointer (some ⟨xb, xo + i, none⟩), .int .u8 x, .pointer (some ⟨w.heap.size, 1, none⟩), .slice (some ⟨gb, go, none⟩) rows.length km, .int .i64 (p : Int), .pointer (some ⟨gb, go + p, none⟩), .slice (some ⟨rb, ro, none⟩) r.length kr, .pointer (some ⟨w.heap.size, 0, none⟩), .slice pc cls.length kc, .int .u8 x, .int .i64 (c : Int), .pointer (some ⟨rb, ro + c * 2, none⟩), .agg #[.int .i64 t, .slice pp pl.length pk], u29, u30, u31, u32, u33, u34, u35, u36, u37, u38, u39, undef, undef, undef, undef, undef, undef, undef, undef, undef, undef, undef, undef, undef], defers := [] } : Act)) mb ∧ Blk w' mb #[.int .i64 t, .slice pp pl.length pk] 82 ∧ Below wr.heap.size wr w' ∧ wr.heap.size ≤ mb) ?region ?cont
      case region =>
        refine wp_held 12 (fun W' => W'.cell? ⟨w.heap.size, 0, none⟩ = some (.slice pc cls.length kc) ∧ W'.cell? ⟨w.heap.size, 1, none⟩ = some (.slice (some ⟨gb, go, none⟩) rows.length km) ∧ W'.cell? ⟨gb, go + p, none⟩ = some (.slice (some ⟨rb, ro, none⟩) r.length kr) ∧ W'.cell? ⟨rb, ro + c * 2, none⟩ = some (.int .i64 t) ∧ W'.cell? ⟨rb, ro + c * 2 + 1, none⟩ = some (.slice pp pl.length pk)) (by kernel_rfl) ⟨b0, b1, n0, n1, n2⟩ (fun hHeld => ?_)
        refine wpAnyZ_take (i := 0) (v := .pointer (some ⟨w.heap.size, 1, none⟩)) rfl (by kernel_rfl) (by decide) (by kernel_rfl) (fun _ _ _ h => by cases h.1) _ _ _ _ (by kernel_rfl) (by kernel_rfl) (Or.inl ⟨by rfl, by intro w hSw; obtain ⟨s0, s1, s2, s3, s4⟩ := hSw; go_simp⟩) hHeld ?_
        simp only [Act.put, List.setIfInBounds_toArray, List.set_cons_zero, List.set_cons_succ]
        refine wpAnyZ_take (i := 1) (v := .slice (some ⟨gb, go, none⟩) rows.length km) rfl (by kernel_rfl) (by decide) (by kernel_rfl) (fun _ _ _ h => by cases h.1) _ _ _ _ (by kernel_rfl) (by kernel_rfl) (Or.inl ⟨by rfl, by intro w hSw; obtain ⟨s0, s1, s2, s3, s4⟩ := hSw; go_simp⟩) hHeld ?_
        simp only [Act.put, List.setIfInBounds_toArray, List.set_cons_zero, List.set_cons_succ]
        refine wpAnyZ_take (i := 2) (v := .int .i64 (p : Int)) rfl (by kernel_rfl) (by decide) (by kernel_rfl) (fun _ _ _ h => by cases h.1) _ _ _ _ (by kernel_rfl) (by kernel_rfl) (Or.inl ⟨by rfl, by intro w hSw; obtain ⟨s0, s1, s2, s3, s4⟩ := hSw; go_simp⟩) hHeld ?_
        simp only [Act.put, List.setIfInBounds_toArray, List.set_cons_zero, List.set_cons_succ]
        refine wpAnyZ_take (i := 3) (v := .pointer (some ⟨gb, go + p, none⟩)) rfl (by kernel_rfl) (by decide) (by kernel_rfl) (fun _ _ _ h => by cases h.1) _ _ _ _ (by kernel_rfl) (by kernel_rfl) (Or.inl ⟨by rfl, by intro w hSw; obtain ⟨s0, s1, s2, s3, s4⟩ := hSw; go_simp⟩) hHeld ?_
        simp only [Act.put, List.setIfInBounds_toArray, List.set_cons_zero, List.set_cons_succ]
        refine wpAnyZ_take (i := 4) (v := .slice (some ⟨rb, ro, none⟩) r.length kr) rfl (by kernel_rfl) (by decide) (by kernel_rfl) (fun _ _ _ h => by cases h.1) _ _ _ _ (by kernel_rfl) (by kernel_rfl) (Or.inl ⟨by rfl, by intro w hSw; obtain ⟨s0, s1, s2, s3, s4⟩ := hSw; go_simp⟩) hHeld ?_
        simp only [Act.put, List.setIfInBounds_toArray, List.set_cons_zero, List.set_cons_succ]
        refine wpAnyZ_take (i := 5) (v := .pointer (some ⟨w.heap.size, 0, none⟩)) rfl (by kernel_rfl) (by decide) (by kernel_rfl) (fun _ _ _ h => by cases h.1) _ _ _ _ (by kernel_rfl) (by kernel_rfl) (Or.inl ⟨by rfl, by intro w hSw; obtain ⟨s0, s1, s2, s3, s4⟩ := hSw; go_simp⟩) hHeld ?_
        simp only [Act.put, List.setIfInBounds_toArray, List.set_cons_zero, List.set_cons_succ]
        refine wpAnyZ_take (i := 6) (v := .slice pc cls.length kc) rfl (by kernel_rfl) (by decide) (by kernel_rfl) (fun _ _ _ h => by cases h.1) _ _ _ _ (by kernel_rfl) (by kernel_rfl) (Or.inl ⟨by rfl, by intro w hSw; obtain ⟨s0, s1, s2, s3, s4⟩ := hSw; go_simp⟩) hHeld ?_
        simp only [Act.put, List.setIfInBounds_toArray, List.set_cons_zero, List.set_cons_succ]
        refine wpAnyZ_take (i := 7) (v := .int .u8 x) rfl (by kernel_rfl) (by decide) (by kernel_rfl) (fun _ _ _ h => by cases h.1) _ _ _ _ (by kernel_rfl) (by kernel_rfl) (Or.inl ⟨by rfl, by intro w hSw; obtain ⟨s0, s1, s2, s3, s4⟩ := hSw; go_simp⟩) hHeld ?_
        simp only [Act.put, List.setIfInBounds_toArray, List.set_cons_zero, List.set_cons_succ]
        have hbd := Hbl.out.drew
        have hdd : Below wr.heap.size wr wr.drew := (Below.refl _ _).drew
        refine wpAnyZ_two (j := 8) (k := 11) (by kernel_rfl) rfl rfl (fun K hK => ?_) (fun K hK => ?_)
        · go_simp
          go_wp2_with (go_at_call 50; refine (HCi.out _ hbd).mono ?_; rintro e w2 ⟨rfl, hb2⟩)
          have hb2' := hdd.trans hb2
          have hHeld2 : w2.cell? ⟨w.heap.size, 0, none⟩ = some (.slice pc cls.length kc) ∧ w2.cell? ⟨w.heap.size, 1, none⟩ = some (.slice (some ⟨gb, go, none⟩) rows.length km) ∧ w2.cell? ⟨gb, go + p, none⟩ = some (.slice (some ⟨rb, ro, none⟩) r.length kr) ∧ w2.cell? ⟨rb, ro + c * 2, none⟩ = some (.int .i64 t) ∧ w2.cell? ⟨rb, ro + c * 2 + 1, none⟩ = some (.slice pp pl.length pk) :=
            ⟨(hb2'.cell (lt_of_cell b0)).trans b0, (hb2'.cell (lt_of_cell b1)).trans b1, (hb2'.cell (lt_of_cell n0)).trans n0, (hb2'.cell (lt_of_cell n1)).trans n1, (hb2'.cell (lt_of_cell n2)).trans n2⟩
          refine hK.out _ _ (.inr hHeld2) ?_
          clear hK K hHeld
          have hHeld := hHeld2
          try simp only [Act.put, List.setIfInBounds_toArray, List.set_cons_zero, List.set_cons_succ]
          refine wpAnyZ_take (i := 9) (v := .pointer (some ⟨rb, ro + c * 2, none⟩)) rfl (by kernel_rfl) (by decide) (by kernel_rfl) (fun _ _ _ h => by cases h.1) _ _ _ _ (by kernel_rfl) (by kernel_rfl) (Or.inl ⟨by rfl, by intro w hSw; obtain ⟨s0, s1, s2, s3, s4⟩ := hSw; go_simp⟩) hHeld ?_
          simp only [Act.put, List.setIfInBounds_toArray, List.set_cons_zero, List.set_cons_succ]
          refine wpAnyZ_take (i := 10) (v := .agg #[.int .i64 t, .slice pp pl.length pk]) rfl (by kernel_rfl) (by decide) (by kernel_rfl) (fun _ _ _ h => by cases h.1) _ _ _ _ (by kernel_rfl) (by kernel_rfl) (Or.inl ⟨by rfl, by intro w hSw; obtain ⟨s0, s1, s2, s3, s4⟩ := hSw; go_simp⟩) hHeld ?_
          simp only [Act.put, List.setIfInBounds_toArray, List.set_cons_zero, List.set_cons_succ]
          obtain ⟨y0, y1, y2, y3, y4⟩ := hHeld
          have z0 := cell_al (o := .cells #[.int .i64 0, .slice none 0 0] 82) y0
          have z1 := cell_al (o := .cells #[.int .i64 0, .slice none 0 0] 82) y1
          have z2 := cell_al (o := .cells #[.int .i64 0, .slice none 0 0] 82) y2
          have z3 := cell_al (o := .cells #[.int .i64 0, .slice none 0 0] 82) y3
          have z4 := cell_al (o := .cells #[.int .i64 0, .slice none 0 0] 82) y4
          have hz2'' := hb2'.size
          have hb3 : Below wr.heap.size wr (w2.alloc (.cells #[.int .i64 t, .slice pp pl.length pk] 82)) := hb2'.alloc hz2'' _
          have hB3 := Blk.new w2 #[.int .i64 t, .slice pp pl.length pk] 82
          refine wpAnyZ_one (j := 11) (by kernel_rfl) rfl (fun K hK => ?_)
          go_simp
          refine hK.out _ _ (.inr ⟨z0, z1, z2, z3, z4⟩) ?_
          clear hK K z0 z1 z2 z3 z4 y0 y1 y2 y3 y4
          try simp only [Act.put, List.setIfInBounds_toArray, List.set_cons_zero, List.set_cons_succ]
          refine wpAnyZ_one (j := 12) (by kernel_rfl) rfl (fun K hK => ?_)
          go_simp
          refine hK.out _ _ (.inl rfl) ?_
          clear hK K
          refine wpAnyZ_done (by kernel_rfl) ?_
          try simp only [Act.put, List.setIfInBounds_toArray, List.set_cons_zero, List.set_cons_succ]
          exact ⟨by simp, w2.heap.size, rfl, hB3, hb3, hz2''⟩
        · have hbA := ((Below.refl wr.heap.size wr).alloc (Nat.le_refl _) (.cells #[.int .i64 0, .slice none 0 0] 82)).drew
          have hBA := (Blk.new wr #[.int .i64 0, .slice none 0 0] 82).drew
          go_simp
          refine hK.out _ _ (.inr ⟨(hbA.cell (lt_of_cell b0)).trans b0, (hbA.cell (lt_of_cell b1)).trans b1, (hbA.cell (lt_of_cell n0)).trans n0, (hbA.cell (lt_of_cell n1)).trans n1, (hbA.cell (lt_of_cell n2)).trans n2⟩) ?_
          clear hK K hHeld
          have hsA : ((wr.alloc (.cells #[.int .i64 0, .slice none 0 0] 82)).drew).heap.size = wr.heap.size + 1 := by show (wr.alloc _).heap.size = _; simp
          generalize ((wr.alloc (.cells #[.int .i64 0, .slice none 0 0] 82)).drew) = wA at hbA hBA hsA ⊢
          have hbwA := Hbl.out.trans (hbA.mono Hbl.out.size)
          try simp only [Act.put, List.setIfInBounds_toArray, List.set_cons_zero, List.set_cons_succ]
          refine wpAnyZ_one (j := 8) (by kernel_rfl) rfl (fun K hK => ?_)
          go_simp
          go_wp2_with (go_at_call 50; go_loud (refine (HCi.out _ hbwA).mono ?_); rintro e w2 ⟨rfl, hb2⟩)
          have hb2' := hbA.trans (hb2.mono (by omega))
          have hB2 := hBA.grows hb2
          have hHeld2 : w2.cell? ⟨w.heap.size, 0, none⟩ = some (.slice pc cls.length kc) ∧ w2.cell? ⟨w.heap.size, 1, none⟩ = some (.slice (some ⟨gb, go, none⟩) rows.length km) ∧ w2.cell? ⟨gb, go + p, none⟩ = some (.slice (some ⟨rb, ro, none⟩) r.length kr) ∧ w2.cell? ⟨rb, ro + c * 2, none⟩ = some (.int .i64 t) ∧ w2.cell? ⟨rb, ro + c * 2 + 1, none⟩ = some (.slice pp pl.length pk) :=
            ⟨(hb2'.cell (lt_of_cell b0)).trans b0, (hb2'.cell (lt_of_cell b1)).trans b1, (hb2'.cell (lt_of_cell n0)).trans n0, (hb2'.cell (lt_of_cell n1)).trans n1, (hb2'.cell (lt_of_cell n2)).trans n2⟩
          refine hK.out _ _ (.inr hHeld2) ?_
          clear hK K
          have hHeld := hHeld2
          try simp only [Act.put, List.setIfInBounds_toArray, List.set_cons_zero, List.set_cons_succ]
          refine wpAnyZ_take (i := 9) (v := .pointer (some ⟨rb, ro + c * 2, none⟩)) rfl (by kernel_rfl) (by decide) (by kernel_rfl) (fun _ _ _ h => by cases h.1) _ _ _ _ (by kernel_rfl) (by kernel_rfl) (Or.inl ⟨by rfl, by intro w hSw; obtain ⟨s0, s1, s2, s3, s4⟩ := hSw; go_simp⟩) hHeld ?_
          simp only [Act.put, List.setIfInBounds_toArray, List.set_cons_zero, List.set_cons_succ]
          refine wpAnyZ_take (i := 10) (v := .agg #[.int .i64 t, .slice pp pl.length pk]) rfl (by kernel_rfl) (by decide) (by kernel_rfl) (fun _ _ _ h => by cases h.1) _ _ _ _ (by kernel_rfl) (by kernel_rfl) (Or.inl ⟨by rfl, by intro w hSw; obtain ⟨s0, s1, s2, s3, s4⟩ := hSw; go_simp⟩) hHeld ?_
          simp only [Act.put, List.setIfInBounds_toArray, List.set_cons_zero, List.set_cons_succ]
          clear hHeld hHeld2
          have f0 := hB2.free 0
          have f1 := hB2.free 1
          have g0 := hB2.cell 0 rfl
          have g1 := hB2.cell 1 rfl
          refine wpAnyZ_one (j := 12) (by kernel_rfl) rfl (fun K hK => ?_)
          go_simp
          refine hK.out _ _ (.inl rfl) ?_
          clear hK K
          refine wpAnyZ_done (by kernel_rfl) ?_
          try simp only [Act.put, List.setIfInBounds_toArray, List.set_cons_zero, List.set_cons_succ]
          exact ⟨by simp, wr.heap.size, rfl, ((hB2.set 0 _).set 1 _).cast (by simp), (hb2'.setCell (p := ⟨wr.heap.size, 0, none⟩) (Nat.le_refl _) _).setCell (p := ⟨wr.heap.size, 1, none⟩) (Nat.le_refl _) _, Nat.le_refl _⟩
      case cont =>
        rintro e a' w5 ⟨rfl, mb, rfl, hMb, hb5, hmbge⟩
        have m0 := hMb.cell 0 rfl
        have m1 := hMb.cell 1 rfl
        have hbl5 := Hbl.out.trans (hb5.mono Hbl.out.size)
        have hS5 := HS.out
        have hs5 := hb5.size
        by_cases ht : t < 0
        · rw [if_pos ht] at hS5
          have HF := Lib.hid (And.intro hS5 hbl5)
          have hdt : decide (t < 0) = true := decide_eq_true ht
          clear hS5 hbl5 hb5
          dsimp only
          go_wp2
          go_ret2
          rw [← HF.out.1]
          exact DoRes.none rfl HF.out.2
        · rw [if_neg ht] at hS5
          have hdt : decide (t < 0) = false := decide_eq_false ht
          have HF := Lib.hid hS5
          have Hbl5 := Lib.hid hbl5
          have HW := Lib.hid (twritten_any t x (.slice pp pl.length pk) pl w5 (HP.out.grows hb5) (by have := hm8.len; dsimp only at this; omega))
          have hB5 := Lib.hid (HB.out.grows hb5)
          have hO5 := own_below Hown.out hb5
          have hpl8 : pl.length ≤ 8 := hm8.len
          clear hS5 hbl5 hb5
          dsimp only
          have Hby := Lib.hid (out_byt hxb hmby)
          have holl : (pl.map (outB x)).length = pl.length := List.length_map _
          rw [← holl] at hpl8
          have HMb := Lib.hid hMb
          clear hMb hmby holl
          generalize hol : pl.map (outB x) = ol at Hby HF hpl8
          have Hol := Lib.hid hol
          clear hol
          go_wp2_with (first | (at_builtin; go_loud (refine app_list rfl _ _ rfl rfl (w.heap.size + 1) _ acc ol p6 c6 rfl rfl HO6.out HY6.out (by omega) (by omega) ?_); intro u7 w7 G7; have HG7 := Lib.hid G7; obtain ⟨hown7, hgrow7, hat7⟩ := G7; have HK7 := Lib.hid (KeptTy.grown (S := fun t => t ≠ 5) hgrow7 HO6.out (fun h => h rfl)); have hM7 := (⟨HK7.out _ _ _ (by decide) HM6.out.is⟩ : Blk w7 mb _ _); have m70 := hM7.cell 0 rfl; have hz7 := hgrow7.size; clear hown7 hgrow7 hat7 hM7) | (go_at_call 57; refine HW.out.mono ?_; rintro e w6 ⟨r6, rfl, ho6, hb6⟩; have ho6' := own_cast ho6 (show pl.length = (pl.map (outB x)).length by rw [List.length_map]) rfl; rw [Hol.out] at ho6'; obtain ⟨p6, c6, rfl⟩ := own_shape ho6'; have HY6 := Lib.hid (own_isY Hby.out ho6'); have HO6 := Lib.hid (own_below hO5 hb6); have HM6 := Lib.hid (HMb.out.grows hb6); have HB6 := Lib.hid (hB5.out.grows hb6); have Hbl6 := Lib.hid (Hbl5.out.trans (hb6.mono Hbl5.out.size)); have hz6 := hb6.size; clear ho6 ho6' hb6) | fail)
          go_roundw
          case rel =>
            refine ⟨i + 1, t.toNat, acc ++ ol, ?_, by go_num, by omega, by omega, HG7.out.own, HY.out.append Hby.out, ?_, ⟨HK7.out _ _ _ (by decide) HB6.out.is⟩, Hbl6.out.grown HG7.out.grown (by omega) (fun k e => by have := own_ge HO6.out k e; omega), by rw [List.length_append]; omega, by omega⟩
            · rw [Int.toNat_of_nonneg (by omega)]
            · rw [← HF.out]
              cases outS cls rows fins ends t.toNat (b.drop (i + 1)) with
              | none => rfl
              | some l => simp
          case measure => simp [RowKit.intOf]; omega
    · obtain rfl : i = b.length := by omega
      rw [List.drop_eq_nil_of_le (Nat.le_refl _)] at hS
      have hpf : p < fins.length := by have := HO.out.rl; omega
      have hpe' : p < ends.length := by have := HO.out.el; omega
      obtain ⟨en, hen⟩ : ∃ en, ends[p]? = some en := ⟨_, List.getElem?_eq_getElem hpe'⟩
      obtain ⟨bf, of', rfl, z0⟩ := (H3.out.grows hbl).at (k := p) hpf
      obtain ⟨be, oe, u, rfl, k0, hy⟩ := HE.out p en hen
      have y0 := (hbl.cell (lt_of_cell k0)).trans k0
      have hY2 := hy.grows hbl
      obtain ⟨pv, kv, rfl, _⟩ := hy.shape
      have h8 := (HO.out.end_ p en hen).1
      have c2 := hB.cell 2 rfl
      have c3 := hB.cell 3 rfl
      have hgd : ends.getD p [] = en := by rw [List.getD_eq_getElem?_getD, hen]; rfl
      have hS2 : (if fins.getD p false = true then some (acc ++ en) else none) = outS cls rows fins ends p0 b := by
        rw [← hS]
        show _ = (if fins.getD p false = true then some (ends.getD p []) else none).map (acc ++ ·)
        rw [hgd]
        split <;> rfl
      clear hS k0 hy hgd hen
      have HF := Lib.hid hS2
      have HB := Lib.hid (And.intro hbl hY)
      have HO' := Lib.hid hown
      have HY2 := Lib.hid hY2
      clear hS2 hbl hY hown hY2 hB
      generalize fins.getD p false = q at z0 HF
      cases q with
      | true =>
        go_wp2_with (first | (at_builtin; refine app_list rfl _ _ rfl rfl (w.heap.size + 1) _ acc en pv kv rfl rfl HO'.out HY2.out (by omega) (by omega) ?_; intro u7 w7 G7; have HG7 := Lib.hid G7; clear G7) | fail)
        go_ret2
        rw [← HF.out, if_pos trivial]
        exact ⟨_, rfl, own_isY (HB.out.2.append HY2.out.byt) HG7.out.own, HB.out.1.grown HG7.out.grown (by omega) (fun k e => by have := own_ge HO'.out k e; omega)⟩
      | false =>
        go_wp2
        go_ret2
        rw [← HF.out, if_neg (by simp)]
        exact DoRes.none rfl HB.out.1
set_option maxRecDepth 100000 in
set_option maxHeartbeats 1000000 in
theorem run_any (v u : Value) (cls : List (BitVec 256)) (rows : List (List (Int × Pcs))) (fins : List Bool) (ends : List (List Int)) (b : List Int) (w : World) (hv : IsT w v cls rows fins ends) (hu : IsY w u b) (ho : OkT cls rows fins ends) (hr : RunT cls rows) (hp : 0 < rows.length) (hb : b.length ≤ 1073741824) :
    Calls Tryz.prog 24 #[v, u] w (DoRes w (outS cls rows fins ends 0 b)) := by
  obtain ⟨vc, vm, vf, ve, rfl, h1, ⟨pm, km, rfl, hm⟩, h3, ⟨pe, ke, rfl, he⟩⟩ := hv.is
  obtain ⟨pc, kc, rfl⟩ := h1.shape
  obtain ⟨pf, kf, rfl⟩ := h3.shape
  have hbw : Below w.heap.size w (w.alloc (.cells #[.slice pc cls.length kc, .slice pm rows.length km, .slice pf fins.length kf, .slice pe ends.length ke] 43)) := by go_grown
  have B0 := Blk.new w #[.slice pc cls.length kc, .slice pm rows.length km, .slice pf fins.length kf, .slice pe ends.length ke] 43
  have hsz : (w.alloc (.cells #[.slice pc cls.length kc, .slice pm rows.length km, .slice pf fins.length kf, .slice pe ends.length ke] 43)).heap.size = w.heap.size + 1 := by simp
  have hv1 := hv.grows hbw
  have hu1 := hu.grows hbw
  have HV := Lib.hid (tvalid_yes _ cls rows fins ends _ hv1 ho)
  have H := Lib.hid (And.intro hv1 (And.intro hu1 (And.intro ho hr)))
  clear hv hu h1 hm h3 he ho hr hv1 hu1
  go_enter Tryz.func24, Tryz.ntmps24
  go_wp2_with fail
  generalize (w.alloc (.cells #[.slice pc cls.length kc, .slice pm rows.length km, .slice pf fins.length kf, .slice pe ends.length ke] 43)) = w1 at B0 hbw hsz HV H ⊢
  refine HV.out.mono ?_
  rintro e w2 ⟨rfl, hb2⟩
  obtain ⟨d0, d1, d2, d3, _, _, _, _⟩ := (B0.grows hb2).four
  have hbw2 := hbw.trans (hb2.mono (by omega))
  have HO := Lib.hid (output_any _ u cls rows fins ends 0 b w2 (H.out.1.grows hb2) (H.out.2.1.grows hb2) H.out.2.2.1 H.out.2.2.2 hp hb)
  have Hbw2 := Lib.hid hbw2
  clear hbw2 hb2 hbw B0 H HV
  go_wp2_with fail
  refine HO.out.mono ?_
  rintro e w3 ⟨r, rfl, hy, hb3⟩
  have HF := Lib.hid (And.intro hy (Hbw2.out.trans (hb3.mono Hbw2.out.size)))
  clear hy hb3
  go_wp2
  go_ret2
  exact ⟨_, rfl, HF.out.1, HF.out.2⟩
end Go.Proofs.YtlhbhcfpbhnkeaaGreatDoor

namespace Go.Proofs.YtlhbhcfpbhnkeaaGreatDoor
open Go.RowKit Go.Lib Go.Shelf
attribute [local go_sem] Oper.semAt_some

theorem app_listIn {F : Fence} {n : Nat} {ops : Array Oper} {rest : List Oper} {o : Oper} {a : Act} {w : World} {Q : Exit → Act → World → Prop} (hgd : o.guard = none) (s x : Operand)
    (ho : o.op = .call { callee := .builtin .append, args := #[s, x], argTypes := #[22, 22] }) (hty : o.type = 22)
    (base : Nat) (v : Value) (xs l : List Int) (p : Option Addr) (c : Nat) (hs : a.eval s = v) (hx : a.eval x = .slice p l.length c) (hown : w.ownsRow base 5 1 v xs.length (xs.map (Value.int .u8))) (hy : IsY w (.slice p l.length c) l)
    (hm : xs.length + l.length ≤ 140737488355328) (hb : base ≤ w.heap.size) (h : ∀ u w', Grew w base v xs l u w' → wpListIn F n Tryz.prog ops Q rest (a.put o.dst u) w') : wpListIn F n Tryz.prog ops Q (o :: rest) a w := by
  refine wpListIn_plain hgd fun K hK' => ?_
  obtain ⟨u, w', hrun, hg⟩ := app_run w base v xs l p c hown hy hm hb
  unfold Oper.wpIn
  refine ⟨?_, ?_⟩
  · simp [Oper.about, ho, resolve, Target.leads, Sem.run_pure]
  · rw [Oper.semAt_plain F _ _ (by rw [ho]; intro c hc'; cases hc')]
    simp [execOp, ho, hty, resolve, invoke, builtin, hs, hx, hrun, Result.andThen]
    exact hK' _ _ (h u w' hg)
theorem wpIn_held_wide (z : Nat) {n : Nat} {P : Program} {id : Nat} {Q : Exit → Act → World → Prop} {a : Act} {w : World} {l : List Oper} (S : World → Prop) (hm : P.follows .mixedOrders = true) (hS : S w.drew)
    (h : S w.drew → wpAnyZ z P .any l.toArray (Ends Q) S l.toArray.size (Array.replicate l.toArray.size false) a w.drew) : (Code.region id l.toArray true).wpIn Fence.wide n P Q a w :=
  wpIn_mono (wpIn_region_any hm (wpAnyIn_plain Ends.closed _ _ _ _ (wpAny_of_z _ _ _ _ (h hS)))) Ends.imp
/-! What abides the turn of a block that is no cells. -/
theorem Blk.turn {W W' : World} {b : Nat} {vs : Array Value} {t : TypeId} {row : Option Nat} (h : Blk W b vs t) (hg : W.grownBy W' row) (hr : ∀ r, row = some r → ∃ o : Obj, W.heap[r]? = some o ∧ o.isCells = false) : Blk W' b vs t :=
  h.grownBy hg fun k e hk => by
    subst hk
    obtain ⟨o, ho, hc⟩ := hr k e
    rw [h.is] at ho; cases ho; cases hc
theorem own_turn {W W' : World} {base : Nat} {e : TypeId} {size : Nat} {v : Value} {n : Nat} {xs : List Value} {row : Option Nat} (h : W.ownsRow base e size v n xs) (hg : W.grownBy W' row) (hr : ∀ r, row = some r → ∃ o : Obj, W.heap[r]? = some o ∧ o.isCells = false) : W'.ownsRow base e size v n xs := by
  refine ⟨h.1, ?_⟩
  rcases h.2 with h2 | ⟨g, cap, cur, hv, hb, hh, r⟩
  · exact .inl h2
  · exact .inr ⟨g, cap, cur, hv, hb, (Blk.turn (t := e) ⟨hh⟩ hg hr).is, r⟩
theorem KpC.turn {S : Nat → Prop} {W0 W W' : World} {row : Option Nat} (h : KpC S W0 W) (hg : W.grownBy W' row) (hr : ∀ r, row = some r → ∃ o : Obj, W.heap[r]? = some o ∧ o.isCells = false) : KpC S W0 W' := fun a u hs hu => by
  have h1 := h a u hs hu
  have hne : row ≠ some a.block := fun e => by
    obtain ⟨o, ho, hc⟩ := hr a.block e
    unfold World.cell? at h1
    rw [ho] at h1
    cases o <;> simp_all [Obj.isCells]
  have hlt := lt_of_cell h1
  unfold World.cell? at h1 ⊢
  rw [hg.block a.block hlt (fun e => hne e.symm)]; exact h1
/-- what lies in memory when the search goes on from f: what has been written so far, and how far. -/
structure RepI (N : Nat) (W0 : World) (S : Nat → Prop) (w : World) (b : List Int) (R : List Int → Nat → Prop) (f : Nat) (W : World) : Prop where
  fle : f ≤ b.length
  kp : KpC S W0 W
  below : Below N w W
  end_ : Blk W (N + 3) #[.int .i64 (f : Int)] 3
  size : N + 6 ≤ W.heap.size
  out : ∃ acc v, Blk W (N + 2) #[v] 22 ∧ W.ownsRow (N + 6) 5 1 v acc.length (acc.map (Value.int .u8)) ∧ Byt acc ∧ R acc f ∧ acc.length ≤ 4 * f + 4
theorem RepI.turn {N : Nat} {W0 : World} {S : Nat → Prop} {w : World} {b : List Int} {R : List Int → Nat → Prop} {f B : Nat} {W W' : World} {row : Option Nat} (hN : N ≤ B) (h : RepI N W0 S w b R f W) (hg : W.grownBy W' row)
    (hr : ∀ r, row = some r → B ≤ r ∧ ∃ o : Obj, W.heap[r]? = some o ∧ o.isCells = false) : RepI N W0 S w b R f W' := by
  have hr2 : ∀ r, row = some r → ∃ o : Obj, W.heap[r]? = some o ∧ o.isCells = false := fun r e => (hr r e).2
  obtain ⟨acc, v, h1, h2, h3⟩ := h.out
  exact ⟨h.fle, h.kp.turn hg hr2, h.below.grown hg (by have := h.size; omega) (fun k e => by have := (hr k e).1; omega), h.end_.turn hg hr2, Nat.le_trans h.size hg.size, acc, v, h1.turn hg hr2, own_turn h2 hg hr2, h3⟩
theorem RepI.own {N : Nat} {W0 : World} {S : Nat → Prop} {w : World} {b : List Int} {R : List Int → Nat → Prop} {B : Nat} (hN : N ≤ B) : OwnFrom B (RepI N W0 S w b R) := fun _ _ _ _ hs hg hr => hs.turn hN hg hr
theorem IsY.keep {w W W' : World} {S : Nat → Prop} {v : Value} {l : List Int} (h : IsY w v l) (hW : IsY W v l) (hk : KpC S W W') (hS : ∀ k, k < w.heap.size → S k) : IsY W' v l := by
  obtain ⟨p, cap, rfl, hc⟩ := h.shape
  refine ⟨h.byt, h.nl, p, cap, rfl, hc, fun j x hx => ?_⟩
  obtain ⟨b, o, e1, h1⟩ := h.at hx
  obtain ⟨b', o', e2, h2⟩ := hW.at hx
  rw [e1] at e2
  simp only [Option.some.injEq, Addr.mk.injEq, and_true] at e2
  obtain ⟨rfl, rfl⟩ := e2
  exact ⟨b, o, e1, hk _ _ (hS _ (lt_of_cell h1)) h2⟩
/-- the blocks that the body of the loop leaves alone. -/
def SRep (N : Nat) (k : Nat) : Prop := k < N + 2 ∨ k = N + 4 ∨ k = N + 5
/-- what has been written, and what is left, make this. -/
def Rest (b T acc : List Int) (f : Nat) : Prop := acc ++ b.drop f = T
def RInv (all : Bool) (old new b acc : List Int) (f : Nat) : Prop := match all with
  | true => acc ++ rep old new b.length (b.drop f) = rep old new b.length b
  | false => f = 0 ∧ acc = []
def RTgt (all : Bool) (old new b : List Int) : List Int := match all with
  | true => rep old new b.length b
  | false => rep old new 1 b
theorem rest_mid (b : List Int) {f x : Nat} (h : f ≤ x) : (b.take x).drop f = (b.drop f).take (x - f) := by rw [List.drop_take]
theorem inv_step {old new b acc : List Int} {f x : Nat} (h0 : 0 < old.length) (hx : NextO old b f (some x)) (h : RInv true old new b acc f) : RInv true old new b (acc ++ (b.take x).drop f ++ new) (x + old.length) := by
  have hr := hit_room hx.2.2.1 h0
  show _ = _
  rw [← (show _ = _ from h), rep_next h0 (by omega) rfl hx, rest_mid b hx.1, rep_enough h0 b.length (b.drop (x + old.length)) b.length (b.length - 1) (by rw [List.length_drop]; omega) (by rw [List.length_drop]; omega) (by rw [List.length_drop]; omega)]
  simp [List.append_assoc]
theorem inv_exit {old new b acc : List Int} {f x : Nat} (h0 : 0 < old.length) (hx : NextO old b f (some x)) (h : RInv false old new b acc f) : Rest b (rep old new 1 b) (acc ++ (b.take x).drop f ++ new) (x + old.length) := by
  obtain ⟨rfl, rfl⟩ : f = 0 ∧ acc = [] := h
  have := rep_next (new := new) h0 (m := 1) (by omega) rfl hx
  rw [List.drop_zero] at this
  show _ = _
  rw [this, rep_zero, rest_mid b hx.1, List.drop_zero]
  simp [List.append_assoc]
theorem inv_done {all : Bool} {old new b acc : List Int} {f : Nat} (hx : NextO old b f none) (h : RInv all old new b acc f) : Rest b (RTgt all old new b) acc f := by
  cases all with
  | true =>
    show _ = rep old new b.length b
    rw [← (show _ = _ from h), rep_never rfl hx]
  | false =>
    obtain ⟨rfl, rfl⟩ : f = 0 ∧ acc = [] := h
    show _ = rep old new 1 b
    have := rep_never (new := new) (m := 1) rfl hx
    rw [List.drop_zero] at this
    rw [this]; rfl
theorem inv_start {all : Bool} {old new b : List Int} : RInv all old new b [] 0 := by
  cases all with
  | true => show _ = _; rw [List.drop_zero, List.nil_append]
  | false => exact ⟨rfl, rfl⟩
/-- a stretch of the loop's body: it leaves alone what it must. -/
structure Tr (B N : Nat) (W W' : World) : Prop where
  keeps : KeepsFrom B W W'
  kp : KpC (SRep N) W W'
  below : Below N W W'
theorem Tr.trans {B N : Nat} {X Y Z : World} (h : Tr B N X Y) (k : Tr B N Y Z) : Tr B N X Z := ⟨h.keeps.trans k.keeps, h.kp.trans k.kp, h.below.trans k.below⟩
theorem Tr.drew (B N : Nat) (W : World) : Tr B N W W.drew := ⟨⟨Nat.le_refl _, fun _ _ _ h _ => h⟩, fun _ _ _ h => h, (Below.refl _ _).drew⟩
theorem Tr.set {B N : Nat} {W : World} {q : Nat} (hq : q = N + 2 ∨ q = N + 3) (v : Value) : Tr B N W (W.setCell ⟨q, 0, none⟩ v) :=
  ⟨(KeepsOthers.setCell W ⟨q, 0, none⟩ v).from B, KpC.set (by show ¬ SRep N q; unfold SRep; omega) v, (Below.refl _ _).setCell (by show N ≤ q; omega) v⟩
theorem Tr.app {B N : Nat} {W W' : World} {v u : Value} {xs l : List Int} (h : W.ownsRow (N + 6) 5 1 v xs.length (xs.map (Value.int .u8))) (hN : N ≤ W.heap.size) (hg : Grew W (N + 6) v xs l u W') : Tr B N W W' := by
  have hge := own_ge h
  refine ⟨⟨hg.grown.size, fun k o _ hk ho => ?_⟩, KpC.grown hg.grown (fun k e => by have := hge k e; unfold SRep; omega), (Below.refl N W).grown hg.grown hN (fun k e => by have := hge k e; omega)⟩
  refine (hg.grown.block k (Array.getElem?_eq_some_iff.1 hk).1 (fun e => ?_)).trans hk
  rcases h.2 with ⟨rfl, _⟩ | ⟨g, cap, cur, rfl, _, hh, _⟩
  · cases e
  · simp only [Value.ownBlock, Option.some.injEq] at e
    subst e
    rw [hh] at hk; cases hk; cases ho
theorem Blk.at {W : World} {m : Nat} (vs : Array Value) (t : TypeId) (hm : W.heap.size = m) : Blk (W.alloc (.cells vs t)) m vs t := hm ▸ Blk.new W vs t
set_option maxRecDepth 100000 in
set_option maxHeartbeats 4000000 in
theorem replacement_any (v u : Value) (k : Int) (old new b : List Int) (all : Bool) (ab : Nat) (w : World) (hv : IsOp w v k old new) (hu : IsY w u b) (hA : Blk w ab #[.bool all] 4) (h0 : 0 < old.length) (h4 : old.length ≤ 8) (hn4 : new.length ≤ 4) (hb : b.length ≤ 4294967280) (hM : MaxOk w) :
    Calls Tryz.prog 100 #[v, u, .pointer (some ⟨ab, 0, none⟩)] w (DoRes w (some (RTgt all old new b))) := by
  obtain ⟨po, co, pn, cn, rfl, h1, h2, c1, c2⟩ := hv.shape
  obtain ⟨pb, cb, rfl, c3⟩ := hu.shape
  have HV := Lib.hid (And.intro hu (And.intro h1 h2))
  have HA := Lib.hid hA
  have HM := Lib.hid hM
  have D0 := Blk.new w #[.int .i64 k, .slice po old.length co, .slice pn new.length cn] 24
  clear hv hu h1 h2 hA hM
  refine (callsIn_wide (n := 5)).1 ?_
  have hfn : ∀ k, Fence.wide.fn k := fun _ => trivial
  refine callsIn_of_wp_marks Tryz.func100 rfl trivial ?_ rfl
  simp only [Tryz.ntmps100, List.size_toArray, List.length_cons, List.length_nil, Nat.reduceAdd, Nat.reduceSub, Array.replicate_succ, Array.replicate_zero, List.push_toArray, List.append_toArray, List.nil_append, List.cons_append]
  gi_wp2_with (gi_at_call 101; refine (occurrences_in _ _ _ _ ⟨_, _, _, rfl⟩ ⟨_, _, _, rfl⟩).mono ?_; rintro e w' ⟨rfl, rfl⟩)
  simp only [Nat.add_assoc, Nat.reduceAdd]
  have A1 := (((((D0.alloc (.cells #[.slice pb b.length cb] 22)).alloc (.cells #[.slice none 0 0] 22)).alloc (.cells #[.int .i64 0] 3)).alloc (.cells #[.slice po old.length co] 22)).alloc (.cells #[.slice pb b.length cb] 22))
  have A2 := ((((Blk.at (W := w.alloc (.cells #[.int .i64 k, .slice po old.length co, .slice pn new.length cn] 24)) (m := w.heap.size + 1) #[.slice pb b.length cb] 22 (by simp)).alloc (.cells #[.slice none 0 0] 22)).alloc (.cells #[.int .i64 0] 3)).alloc (.cells #[.slice po old.length co] 22)).alloc (.cells #[.slice pb b.length cb] 22)
  have A3 := (((Blk.at (W := (w.alloc (.cells #[.int .i64 k, .slice po old.length co, .slice pn new.length cn] 24)).alloc (.cells #[.slice pb b.length cb] 22)) (m := w.heap.size + 2) #[.slice none 0 0] 22 (by simp)).alloc (.cells #[.int .i64 0] 3)).alloc (.cells #[.slice po old.length co] 22)).alloc (.cells #[.slice pb b.length cb] 22)
  have A4 := ((Blk.at (W := ((w.alloc (.cells #[.int .i64 k, .slice po old.length co, .slice pn new.length cn] 24)).alloc (.cells #[.slice pb b.length cb] 22)).alloc (.cells #[.slice none 0 0] 22)) (m := w.heap.size + 3) #[.int .i64 0] 3 (by simp)).alloc (.cells #[.slice po old.length co] 22)).alloc (.cells #[.slice pb b.length cb] 22)
  have A5 := (Blk.at (W := (((w.alloc (.cells #[.int .i64 k, .slice po old.length co, .slice pn new.length cn] 24)).alloc (.cells #[.slice pb b.length cb] 22)).alloc (.cells #[.slice none 0 0] 22)).alloc (.cells #[.int .i64 0] 3)) (m := w.heap.size + 4) #[.slice po old.length co] 22 (by simp)).alloc (.cells #[.slice pb b.length cb] 22)
  have A6 := Blk.at (W := ((((w.alloc (.cells #[.int .i64 k, .slice po old.length co, .slice pn new.length cn] 24)).alloc (.cells #[.slice pb b.length cb] 22)).alloc (.cells #[.slice none 0 0] 22)).alloc (.cells #[.int .i64 0] 3)).alloc (.cells #[.slice po old.length co] 22)) (m := w.heap.size + 5) #[.slice pb b.length cb] 22 (by simp)
  have hB0 : Below w.heap.size w ((((((w.alloc (.cells #[.int .i64 k, .slice po old.length co, .slice pn new.length cn] 24)).alloc (.cells #[.slice pb b.length cb] 22)).alloc (.cells #[.slice none 0 0] 22)).alloc (.cells #[.int .i64 0] 3)).alloc (.cells #[.slice po old.length co] 22)).alloc (.cells #[.slice pb b.length cb] 22)) := by go_grown
  have hZ0 : ((((((w.alloc (.cells #[.int .i64 k, .slice po old.length co, .slice pn new.length cn] 24)).alloc (.cells #[.slice pb b.length cb] 22)).alloc (.cells #[.slice none 0 0] 22)).alloc (.cells #[.int .i64 0] 3)).alloc (.cells #[.slice po old.length co] 22)).alloc (.cells #[.slice pb b.length cb] 22)).heap.size = w.heap.size + 6 := by simp
  generalize ((((((w.alloc (.cells #[.int .i64 k, .slice po old.length co, .slice pn new.length cn] 24)).alloc (.cells #[.slice pb b.length cb] 22)).alloc (.cells #[.slice none 0 0] 22)).alloc (.cells #[.int .i64 0] 3)).alloc (.cells #[.slice po old.length co] 22)).alloc (.cells #[.slice pb b.length cb] 22)) = W0 at A1 A2 A3 A4 A5 A6 hB0 hZ0 ⊢
  have hOc : OccSt (w.heap.size + 4) (w.heap.size + 5) po co pb cb old b W0 := ⟨A5.cell 0 rfl, A6.cell 0 rfl, HV.out.2.1.grows hB0, HV.out.1.grows hB0, HM.out.grows hB0 HM.out.lt⟩
  have hSl : ∀ k, k < w.heap.size → SRep w.heap.size k := fun k hk => Or.inl (by omega)
  have hKp : ∀ W W', OccSt (w.heap.size + 4) (w.heap.size + 5) po co pb cb old b W → KpC (SRep w.heap.size) W W' → OccSt (w.heap.size + 4) (w.heap.size + 5) po co pb cb old b W' := fun W W' h hk =>
    ⟨hk _ _ (.inr (.inl rfl)) h.bo, hk _ _ (.inr (.inr rfl)) h.bb, HV.out.2.1.keep h.old_ hk hSl, HV.out.1.keep h.b_ hk hSl, by obtain ⟨m, hm⟩ := h.max; exact ⟨m, hk _ _ (hSl _ HM.out.lt) hm⟩⟩
  have hA0 := HA.out.grows hB0
  have HI := Lib.hid (show RepI w.heap.size W0 (SRep w.heap.size) w b (RInv all old new b) 0 W0 from ⟨Nat.zero_le _, KpC.refl _ _, hB0, A4, by omega, [], _, A3, World.ownsRow_nil _ _ _ _, Byt.nil, inv_start, by simp⟩)
  have HC := Lib.hid (And.intro (A1.cell 1 rfl : W0.cell? ⟨w.heap.size, 1, none⟩ = some (.slice po old.length co)) (And.intro (A1.cell 2 rfl : W0.cell? ⟨w.heap.size, 2, none⟩ = some (.slice pn new.length cn)) (And.intro (A2.cell 0 rfl : W0.cell? ⟨w.heap.size + 1, 0, none⟩ = some (.slice pb b.length cb)) (hA0.cell 0 rfl : W0.cell? ⟨ab, 0, none⟩ = some (.bool all)))))
  have hab := HA.out.lt
  clear A1 A2 A3 A4 A5 A6 hA0 D0
  refine wpIn_range_st (n := 5) (by decide) (gf := 129) (lb := #[.pointer (some ⟨w.heap.size + 4, 0, none⟩), .pointer (some ⟨w.heap.size + 5, 0, none⟩)]) rfl (enters_of Tryz.func129 (by kernel_rfl) rfl) (enc := encO) (fun _ => rfl)
    (V := occV old b) (Dn := fun f => NextO old b f none) (s0 := 0) (Kp := KpC (SRep w.heap.size)) (fun h h2 => h.trans h2) (fun W l o o' hl h hc => KpC.put _ W l o o' h hc) (occ_seq 4 (by decide) (KpC (SRep w.heap.size)) (w.heap.size + 4) (w.heap.size + 5) po co pb cb old b W0 hOc hKp h0 h4 hb)
    (RepI w.heap.size W0 (SRep w.heap.size) w b (RInv all old new b)) (fun c f W => c = .exit 0 ∧ RepI w.heap.size W0 (SRep w.heap.size) w b (Rest b (RTgt all old new b)) f W)
    (RepI.own (by omega)) (fun c s W W' row hs hg hr => ⟨hs.1, hs.2.turn (B := W0.heap.size) (by omega) hg hr⟩) HI.out
    (fun x => { tmps := #[.agg #[.int .i64 k, .slice po old.length co, .slice pn new.length cn], .slice pb b.length cb, .pointer (some ⟨ab, 0, none⟩), .pointer (some ⟨w.heap.size, 0, none⟩), .pointer (some ⟨w.heap.size + 1, 0, none⟩), .slice none 0 0, .bool false, .pointer (some ⟨w.heap.size + 2, 0, none⟩), .pointer (some ⟨w.heap.size + 3, 0, none⟩), .int .i64 (x : Int), .pointer (some ⟨w.heap.size, 1, none⟩), .slice po old.length co, .slice pb b.length cb, .func (.func 129) #[] #[.pointer (some ⟨w.heap.size + 4, 0, none⟩), .pointer (some ⟨w.heap.size + 5, 0, none⟩)], .int .i64 (x : Int), undef, undef, undef, undef, undef, undef, undef, undef, undef, undef, undef, undef, undef, undef, undef, undef, undef, undef, undef, undef, undef, undef], defers := [] }) ?assign ?body ?done ?stop
  case assign =>
    intro l x W K hK
    gi_wp2
    simp only [encO, List.zip_toArray, List.zip_cons_cons, List.zip_nil_right, List.foldl_toArray, List.foldl_cons, List.foldl_nil, List.setIfInBounds_toArray, List.set_cons_zero, List.set_cons_succ]
    exact hK
  case body =>
    rintro l f x f' W ⟨hx, rfl⟩ hI
    obtain ⟨acc, v, hO, hR, hY, hRi, hl⟩ := hI.out
    obtain ⟨q1, q2, q3, q4⟩ := HC.out
    have c1 := hI.kp ⟨w.heap.size, 1, none⟩ _ (.inl (by show w.heap.size < _; omega)) q1
    have c2 := hI.kp ⟨w.heap.size, 2, none⟩ _ (.inl (by show w.heap.size < _; omega)) q2
    have c3 := hI.kp ⟨w.heap.size + 1, 0, none⟩ _ (.inl (by show w.heap.size + 1 < _; omega)) q3
    have c4 := hI.kp ⟨ab, 0, none⟩ _ (.inl (by show ab < _; omega)) q4
    have cO := hO.cell 0 rfl
    have cE := hI.end_.cell 0 rfl
    have hroom := hit_room hx.2.2.1 h0
    have hfx := hx.1
    have hsz := hI.size
    have HX := Lib.hid hx
    have HIw := Lib.hid hI
    have HO := Lib.hid hO
    have HR := Lib.hid hR
    have HY := Lib.hid hY
    have HRi := Lib.hid hRi
    clear hx hI hO hR hY hRi q1 q2 q3 q4
    gi_wp2
    refine wpIn_held_round l 6 (fun W' => W'.cell? ⟨w.heap.size + 2, 0, none⟩ = some v ∧ W'.cell? ⟨w.heap.size + 1, 0, none⟩ = some (.slice pb b.length cb) ∧ W'.cell? ⟨w.heap.size + 3, 0, none⟩ = some (.int .i64 (f : Int))) (by kernel_rfl) (by kernel_rfl) ⟨cO, c3, cE⟩ (fun hHeld => ?_)
    refine wpAnyZ_take (i := 0) (v := v) rfl (by kernel_rfl) (by decide) (by kernel_rfl) (fun _ _ _ h => h) _ _ _ _ (by kernel_rfl) (by kernel_rfl) (Or.inl ⟨by rfl, by intro w hSw; obtain ⟨s1, s2, s3⟩ := hSw; go_simp⟩) hHeld ?_
    simp only [Act.put, List.setIfInBounds_toArray, List.set_cons_zero, List.set_cons_succ]
    refine wpAnyZ_take (i := 1) (v := .slice pb b.length cb) rfl (by kernel_rfl) (by decide) (by kernel_rfl) (fun _ _ _ h => h) _ _ _ _ (by kernel_rfl) (by kernel_rfl) (Or.inl ⟨by rfl, by intro w hSw; obtain ⟨s1, s2, s3⟩ := hSw; go_simp⟩) hHeld ?_
    simp only [Act.put, List.setIfInBounds_toArray, List.set_cons_zero, List.set_cons_succ]
    refine wpAnyZ_take (i := 2) (v := .int .i64 (f : Int)) rfl (by kernel_rfl) (by decide) (by kernel_rfl) (fun _ _ _ h => h) _ _ _ _ (by kernel_rfl) (by kernel_rfl) (Or.inl ⟨by rfl, by intro w hSw; obtain ⟨s1, s2, s3⟩ := hSw; go_simp⟩) hHeld ?_
    simp only [Act.put, List.setIfInBounds_toArray, List.set_cons_zero, List.set_cons_succ]
    refine wpAnyZ_take (i := 3) (v := .int .i64 (x : Int)) rfl (by kernel_rfl) (by decide) (by kernel_rfl) (fun _ _ _ h => h) _ _ _ _ (by kernel_rfl) (by kernel_rfl) (Or.inl ⟨by rfl, by intro w hSw; obtain ⟨s1, s2, s3⟩ := hSw; go_simp⟩) hHeld ?_
    simp only [Act.put, List.setIfInBounds_toArray, List.set_cons_zero, List.set_cons_succ]
    refine wpAnyZ_take (i := 4) (v := .slice (tailA pb cb f) (x - f) (cb - f)) rfl (by kernel_rfl) (by decide) (by kernel_rfl) (fun _ _ _ h => h) _ _ _ _ (by kernel_rfl) (by kernel_rfl) (Or.inl ⟨by rfl, by intro w hSw; have hsl := slice_lh pb b.length cb f x hfx (by omega) w; go_simp⟩) hHeld ?_
    simp only [Act.put, List.setIfInBounds_toArray, List.set_cons_zero, List.set_cons_succ]
    have T0 := Tr.drew W0.heap.size w.heap.size W
    have hR0 : W.drew.ownsRow (w.heap.size + 6) 5 1 v acc.length (acc.map (Value.int .u8)) := HR.out
    have hmid : IsY W.drew (.slice (tailA pb cb f) ((b.take x).drop f).length (cb - f)) ((b.take x).drop f) := by
      have := (HV.out.1.grows HIw.out.below.drew).mid f x hfx (by omega)
      rw [List.length_drop, List.length_take, Nat.min_eq_left (by omega)]
      exact this
    have hmlen : ((b.take x).drop f).length = x - f := by rw [List.length_drop, List.length_take, Nat.min_eq_left (by omega)]
    have Hmid := Lib.hid hmid
    have HmL := Lib.hid hmlen
    have HT0 := Lib.hid T0
    clear hmid hmlen T0
    obtain ⟨s1, s2, s3⟩ := hHeld
    generalize hmd : (b.take x).drop f = mid at Hmid HmL
    rw [← HmL.out]
    have Hmd := Lib.hid hmd
    clear hmd
    refine wpAnyZ_one (j := 5) (by kernel_rfl) rfl (fun K hK => ?_)
    refine app_step rfl _ _ rfl rfl (w.heap.size + 6) v acc mid (tailA pb cb f) (cb - f) rfl rfl hR0 Hmid.out (by have := HmL.out; omega) (by simpa using hsz) ?_
    intro u5 w5 hg5
    have hown5 := hg5.own
    generalize hac5 : acc ++ mid = acc5 at hown5
    obtain ⟨p5, c5, rfl⟩ := own_shape hown5
    have Hac5 := Lib.hid hac5
    have Hown5 := Lib.hid hown5
    clear hac5 hown5
    have T5 := Tr.app (B := W0.heap.size) hR0 (by simp; omega) hg5
    have d1 := (HT0.out.trans T5).kp ⟨w.heap.size, 1, none⟩ _ (.inl (by show w.heap.size < _; omega)) c1
    have d2 := (HT0.out.trans T5).kp ⟨w.heap.size, 2, none⟩ _ (.inl (by show w.heap.size < _; omega)) c2
    have d3 := (HT0.out.trans T5).kp ⟨w.heap.size + 1, 0, none⟩ _ (.inl (by show w.heap.size + 1 < _; omega)) c3
    have d4 := (HT0.out.trans T5).kp ⟨ab, 0, none⟩ _ (.inl (by show ab < _; omega)) c4
    have hO5 : Blk w5 (w.heap.size + 2) #[v] 22 := HO.out.drew.grownBy hg5.grown (fun k e => by have := own_ge hR0 k e; omega)
    have hE5 : Blk w5 (w.heap.size + 3) #[.int .i64 (f : Int)] 3 := HIw.out.end_.drew.grownBy hg5.grown (fun k e => by have := own_ge hR0 k e; omega)
    refine hK.out _ _ (.inr ⟨hO5.cell 0 rfl, d3, hE5.cell 0 rfl⟩) ?_
    clear hK K
    have f5 := hO5.free 0
    have k5 := hO5.cell 0 rfl
    simp only [Act.put, List.setIfInBounds_toArray, List.set_cons_zero, List.set_cons_succ]
    have Hg5 := Lib.hid hg5
    have HT5 := Lib.hid T5
    have HO5 := Lib.hid hO5
    have HE5 := Lib.hid hE5
    clear hg5 T5 hO5 hE5
    refine wpAnyZ_one (j := 6) (by kernel_rfl) rfl (fun K hK => ?_)
    go_simp
    refine hK.out _ _ (.inl rfl) ?_
    clear hK K
    refine wpAnyZ_done (by kernel_rfl) ?_
    try simp only [Ends, Act.put, List.setIfInBounds_toArray, List.set_cons_zero, List.set_cons_succ]
    have hR6 := own_set Hown5.out (p := ⟨w.heap.size + 2, 0, none⟩) (by show w.heap.size + 2 < w.heap.size + 6; omega) (.slice p5 acc5.length c5)
    have HO6 := Lib.hid (HO5.out.set 0 (.slice p5 acc5.length c5))
    have HE6 := Lib.hid (HE5.out.other (a := ⟨w.heap.size + 2, 0, none⟩) (by show w.heap.size + 3 ≠ w.heap.size + 2; omega) (.slice p5 acc5.length c5))
    have T6 := HT0.out.trans (HT5.out.trans (Tr.set (B := W0.heap.size) (N := w.heap.size) (W := w5) (q := w.heap.size + 2) (.inl rfl) (.slice p5 acc5.length c5)))
    have hz6 : w.heap.size + 6 ≤ (w5.setCell ⟨w.heap.size + 2, 0, none⟩ (.slice p5 acc5.length c5)).heap.size := Nat.le_trans hsz T6.keeps.size
    generalize w5.setCell ⟨w.heap.size + 2, 0, none⟩ (.slice p5 acc5.length c5) = w6 at hR6 HO6 HE6 T6 hz6 ⊢
    clear d1 d2 d3 d4 f5 k5 HT5 HO5 HE5 Hg5 Hown5 HR s1 s2 s3 HT0 hR0 Hmid
    have e1 := T6.kp ⟨w.heap.size, 1, none⟩ _ (.inl (by show w.heap.size < _; omega)) c1
    have e2 := T6.kp ⟨w.heap.size, 2, none⟩ _ (.inl (by show w.heap.size < _; omega)) c2
    have e4 := T6.kp ⟨ab, 0, none⟩ _ (.inl (by show ab < _; omega)) c4
    have g6 : w6.cell? ⟨w.heap.size + 2, 0, none⟩ = some (.slice p5 acc5.length c5) := HO6.out.cell 0 rfl
    have f6 := HO6.out.free 0
    have HT6 := Lib.hid T6
    have HR6 := Lib.hid hR6
    clear T6 hR6 c1 c2 c3 c4 cO cE
    have hnew : IsY w6 (.slice pn new.length cn) new := HV.out.2.2.grows (HIw.out.below.trans HT6.out.below)
    have Hnew := Lib.hid hnew
    clear hnew
    have na2 : ¬ ab = w.heap.size + 2 := by omega
    have na3 : ¬ ab = w.heap.size + 3 := by omega
    gi_wp2_with (gi_at_builtin; refine app_listIn rfl _ _ rfl rfl (w.heap.size + 6) _ acc5 new pn cn rfl rfl HR6.out Hnew.out (by rw [← Hac5.out, List.length_append]; have := HmL.out; omega) hz6 ?_; intro u7 w7 hg7; have hown7 := hg7.own; generalize hac7 : acc5 ++ new = acc7 at hown7; obtain ⟨p7, c7, rfl⟩ := own_shape hown7; have T7 := Tr.app (B := W0.heap.size) (N := w.heap.size) HR6.out (by omega) hg7; have f7 := T7.kp ⟨w.heap.size, 1, none⟩ _ (.inl (by show w.heap.size < _; omega)) e1; have i4 := T7.kp ⟨ab, 0, none⟩ _ (.inl (by show ab < _; omega)) e4; have hO7 := HO6.out.grownBy hg7.grown (fun k e => by have := own_ge HR6.out k e; omega); have hE7 := HE6.out.grownBy hg7.grown (fun k e => by have := own_ge HR6.out k e; omega); have fr7 := hO7.free 0; have fe7 := hE7.free 0; have gr7 := hO7.cell 0 rfl; have ge7 := hE7.cell 0 rfl; have Hac7 := Lib.hid hac7; have Hown7 := Lib.hid hown7; have HT7 := Lib.hid T7; have HO7 := Lib.hid hO7; have HE7 := Lib.hid hE7; clear hac7 hown7 T7 hO7 hE7 hg7)
    all_goals
      have T9 := HT6.out.trans (HT7.out.trans ((Tr.set (B := W0.heap.size) (N := w.heap.size) (W := w7) (q := w.heap.size + 2) (.inl rfl) (.slice p7 acc7.length c7)).trans (Tr.set (B := W0.heap.size) (N := w.heap.size) (q := w.heap.size + 3) (.inr rfl) (.int .i64 ((x : Int) + (old.length : Int))))))
      have hmk : ∀ R : List Int → Nat → Prop, R acc7 (x + old.length) → RepI w.heap.size W0 (SRep w.heap.size) w b R (x + old.length) ((w7.setCell ⟨w.heap.size + 2, 0, none⟩ (.slice p7 acc7.length c7)).setCell ⟨w.heap.size + 3, 0, none⟩ (.int .i64 ((x : Int) + (old.length : Int)))) := fun R hRR =>
        ⟨by omega, HIw.out.kp.trans T9.kp, HIw.out.below.trans T9.below, ((HE7.out.other (a := ⟨w.heap.size + 2, 0, none⟩) (by show w.heap.size + 3 ≠ w.heap.size + 2; omega) _).set 0 _).cast (by simp), Nat.le_trans hz6 (Nat.le_trans HT7.out.keeps.size (by simp)),
          acc7, _, (HO7.out.set 0 (.slice p7 acc7.length c7)).other (a := ⟨w.heap.size + 3, 0, none⟩) (by show w.heap.size + 2 ≠ w.heap.size + 3; omega) _,
          own_set (own_set Hown7.out (p := ⟨w.heap.size + 2, 0, none⟩) (by show w.heap.size + 2 < w.heap.size + 6; omega) _) (p := ⟨w.heap.size + 3, 0, none⟩) (by show w.heap.size + 3 < w.heap.size + 6; omega) _,
          by rw [← Hac7.out, ← Hac5.out, ← Hmd.out]; exact ((HY.out.append ((HV.out.1.byt.take x).drop f)).append HV.out.2.2.byt), hRR, by rw [← Hac7.out, ← Hac5.out, List.length_append, List.length_append, HmL.out]; omega⟩
      have hac : acc7 = acc ++ (b.take x).drop f ++ new := by rw [← Hac7.out, ← Hac5.out, Hmd.out]
    · have h9 : (!all) = true := by assumption
      obtain rfl : all = false := by simpa using h9
      exact ⟨T9.keeps, rfl, hmk _ (by rw [hac]; exact inv_exit h0 HX.out HRi.out)⟩
    · have h9 : (!all) = false := by assumption
      obtain rfl : all = true := by simpa using h9
      exact ⟨T9.keeps, T9.kp, hmk _ (by rw [hac]; exact inv_step h0 HX.out HRi.out)⟩
  case done =>
    rintro D f W hD hN hI hK
    obtain ⟨acc, v, hO, hR, hY, hRj, hl⟩ := hI.out
    have hRi := inv_done hN hRj
    have HD := Lib.hid hK
    have HDl := Lib.hid hD
    clear hK hN hRj hD
    have cO := hO.cell 0 rfl
    have cE := hI.end_.cell 0 rfl
    have c3 := hI.kp ⟨w.heap.size + 1, 0, none⟩ _ (.inl (by show w.heap.size + 1 < _; omega)) HC.out.2.2.1
    have hsz := hI.size
    have hfb := hI.fle
    have HIw := Lib.hid hI
    have HO := Lib.hid hO
    have HR := Lib.hid hR
    have HY := Lib.hid hY
    have HRi := Lib.hid hRi
    clear hI hO hR hY hRi
    gi_wp2
    refine wpIn_held_wide 6 (fun W' => W'.cell? ⟨w.heap.size + 2, 0, none⟩ = some v ∧ W'.cell? ⟨w.heap.size + 1, 0, none⟩ = some (.slice pb b.length cb) ∧ W'.cell? ⟨w.heap.size + 3, 0, none⟩ = some (.int .i64 (f : Int))) (by kernel_rfl) ⟨cO, c3, cE⟩ (fun hHeld => ?_)
    refine wpAnyZ_take (i := 0) (v := v) rfl (by kernel_rfl) (by decide) (by kernel_rfl) (fun _ _ _ h => h) _ _ _ _ (by kernel_rfl) (by kernel_rfl) (Or.inl ⟨by rfl, by intro w hSw; obtain ⟨s1, s2, s3⟩ := hSw; go_simp⟩) hHeld ?_
    simp only [Act.put, List.setIfInBounds_toArray, List.set_cons_zero, List.set_cons_succ]
    refine wpAnyZ_take (i := 1) (v := .slice pb b.length cb) rfl (by kernel_rfl) (by decide) (by kernel_rfl) (fun _ _ _ h => h) _ _ _ _ (by kernel_rfl) (by kernel_rfl) (Or.inl ⟨by rfl, by intro w hSw; obtain ⟨s1, s2, s3⟩ := hSw; go_simp⟩) hHeld ?_
    simp only [Act.put, List.setIfInBounds_toArray, List.set_cons_zero, List.set_cons_succ]
    refine wpAnyZ_take (i := 2) (v := .int .i64 (f : Int)) rfl (by kernel_rfl) (by decide) (by kernel_rfl) (fun _ _ _ h => h) _ _ _ _ (by kernel_rfl) (by kernel_rfl) (Or.inl ⟨by rfl, by intro w hSw; obtain ⟨s1, s2, s3⟩ := hSw; go_simp⟩) hHeld ?_
    simp only [Act.put, List.setIfInBounds_toArray, List.set_cons_zero, List.set_cons_succ]
    refine wpAnyZ_take (i := 3) (v := .slice (tailA pb cb f) (b.length - f) (cb - f)) rfl (by kernel_rfl) (by decide) (by kernel_rfl) (fun _ _ _ h => h) _ _ _ _ (by kernel_rfl) (by kernel_rfl) (Or.inl ⟨by rfl, by intro w hSw; have hsl := slice_from pb b.length cb f hfb w; go_simp⟩) hHeld ?_
    simp only [Act.put, List.setIfInBounds_toArray, List.set_cons_zero, List.set_cons_succ]
    have hR0 : W.drew.ownsRow (w.heap.size + 6) 5 1 v acc.length (acc.map (Value.int .u8)) := HR.out
    have hmid : IsY W.drew (.slice (tailA pb cb f) (b.drop f).length (cb - f)) (b.drop f) := by
      have := (HV.out.1.grows HIw.out.below.drew).drop f hfb
      rw [List.length_drop]
      exact this
    have hmlen : (b.drop f).length = b.length - f := List.length_drop
    have Hmid := Lib.hid hmid
    have HmL := Lib.hid hmlen
    clear hmid hmlen
    have HR0 := Lib.hid hR0
    obtain ⟨s1, s2, s3⟩ := hHeld
    generalize hmd : b.drop f = mid at Hmid HmL
    rw [← HmL.out]
    have Hmd := Lib.hid hmd
    clear hmd hR0
    refine wpAnyZ_one (j := 4) (by kernel_rfl) rfl (fun K hK => ?_)
    refine app_step rfl _ _ rfl rfl (w.heap.size + 6) v acc mid (tailA pb cb f) (cb - f) rfl rfl HR0.out Hmid.out (by have := HmL.out; omega) (by simpa using hsz) ?_
    intro u5 w5 hg5
    have hd5 := (Below.refl w.heap.size w).trans HIw.out.below.drew |>.grown hg5.grown (by have := hsz; simp; omega) (fun k e => by have := own_ge HR0.out k e; omega)
    have T5 := Tr.app (B := W0.heap.size) HR0.out (by simp; omega) hg5
    have hD5 := ((Tr.drew W0.heap.size w.heap.size W).keeps.trans T5.keeps).same D _ HDl.out HD.out rfl
    have d3 := T5.kp ⟨w.heap.size + 1, 0, none⟩ _ (.inl (by show w.heap.size + 1 < _; omega)) s2
    have hO5 : Blk w5 (w.heap.size + 2) #[v] 22 := HO.out.drew.grownBy hg5.grown (fun k e => by have := own_ge HR0.out k e; omega)
    have hE5 : Blk w5 (w.heap.size + 3) #[.int .i64 (f : Int)] 3 := HIw.out.end_.drew.grownBy hg5.grown (fun k e => by have := own_ge HR0.out k e; omega)
    have hy5 : IsY w5 u5 (RTgt all old new b) := by
      have := own_isY ((HY.out.append ((HV.out.1.byt.drop f)))) (by rw [Hmd.out]; exact hg5.own)
      rwa [(show acc ++ b.drop f = _ from HRi.out)] at this
    have S5 := Lib.hid (And.intro (hO5.cell 0 rfl) (And.intro d3 (hE5.cell 0 rfl)))
    refine hK.out _ _ (.inr S5.out) ?_
    clear hK K
    have Hy5 := Lib.hid hy5
    have Hd5 := Lib.hid hd5
    have HD5 := Lib.hid hD5
    clear hy5 hd5 hD5 d3 hO5 hE5 T5 hg5 s1 s2 s3
    simp only [Act.put, List.setIfInBounds_toArray, List.set_cons_zero, List.set_cons_succ]
    refine wpAnyZ_one (j := 5) (by kernel_rfl) rfl (fun K hK => ?_)
    go_simp
    refine hK.out _ _ (.inr S5.out) ?_
    clear hK K
    try simp only [Act.put, List.setIfInBounds_toArray, List.set_cons_zero, List.set_cons_succ]
    refine wpAnyZ_one (j := 6) (by kernel_rfl) rfl (fun K hK => ?_)
    go_simp
    refine hK.out _ _ (.inl rfl) ?_
    clear hK K
    refine wpAnyZ_done (by kernel_rfl) ?_
    try simp only [Ends, Act.put, List.setIfInBounds_toArray, List.set_cons_zero, List.set_cons_succ]
    gi_wp2
    refine ⟨by simp, .inl ⟨_, _, rfl, run_takeDeferred HD5.out, ?_⟩⟩
    have hb6 := belowK_b (n₀ := w.heap.size) (w := W0) (by omega) w5 D _ (.deferred none) HDl.out HD5.out rfl rfl
    exact ⟨_, results_tmp2 rfl _ _ _, u5, rfl, Hy5.out.kept (fun a u ha => (KpC.put (fun _ => True) w5 D _ (.deferred none) HD5.out rfl) a u trivial ha), Hd5.out.trans hb6⟩
  case stop =>
    rintro D id f W hD ⟨hid, hI⟩ hK
    cases hid
    obtain ⟨acc, v, hO, hR, hY, hRi, hl⟩ := hI.out
    have HD := Lib.hid hK
    have HDl := Lib.hid hD
    clear hK hD
    have cO := hO.cell 0 rfl
    have cE := hI.end_.cell 0 rfl
    have c3 := hI.kp ⟨w.heap.size + 1, 0, none⟩ _ (.inl (by show w.heap.size + 1 < _; omega)) HC.out.2.2.1
    have hsz := hI.size
    have hfb := hI.fle
    have HIw := Lib.hid hI
    have HO := Lib.hid hO
    have HR := Lib.hid hR
    have HY := Lib.hid hY
    have HRi := Lib.hid hRi
    clear hI hO hR hY hRi
    gi_wp2
    refine wpIn_held_wide 6 (fun W' => W'.cell? ⟨w.heap.size + 2, 0, none⟩ = some v ∧ W'.cell? ⟨w.heap.size + 1, 0, none⟩ = some (.slice pb b.length cb) ∧ W'.cell? ⟨w.heap.size + 3, 0, none⟩ = some (.int .i64 (f : Int))) (by kernel_rfl) ⟨cO, c3, cE⟩ (fun hHeld => ?_)
    refine wpAnyZ_take (i := 0) (v := v) rfl (by kernel_rfl) (by decide) (by kernel_rfl) (fun _ _ _ h => h) _ _ _ _ (by kernel_rfl) (by kernel_rfl) (Or.inl ⟨by rfl, by intro w hSw; obtain ⟨s1, s2, s3⟩ := hSw; go_simp⟩) hHeld ?_
    simp only [Act.put, List.setIfInBounds_toArray, List.set_cons_zero, List.set_cons_succ]
    refine wpAnyZ_take (i := 1) (v := .slice pb b.length cb) rfl (by kernel_rfl) (by decide) (by kernel_rfl) (fun _ _ _ h => h) _ _ _ _ (by kernel_rfl) (by kernel_rfl) (Or.inl ⟨by rfl, by intro w hSw; obtain ⟨s1, s2, s3⟩ := hSw; go_simp⟩) hHeld ?_
    simp only [Act.put, List.setIfInBounds_toArray, List.set_cons_zero, List.set_cons_succ]
    refine wpAnyZ_take (i := 2) (v := .int .i64 (f : Int)) rfl (by kernel_rfl) (by decide) (by kernel_rfl) (fun _ _ _ h => h) _ _ _ _ (by kernel_rfl) (by kernel_rfl) (Or.inl ⟨by rfl, by intro w hSw; obtain ⟨s1, s2, s3⟩ := hSw; go_simp⟩) hHeld ?_
    simp only [Act.put, List.setIfInBounds_toArray, List.set_cons_zero, List.set_cons_succ]
    refine wpAnyZ_take (i := 3) (v := .slice (tailA pb cb f) (b.length - f) (cb - f)) rfl (by kernel_rfl) (by decide) (by kernel_rfl) (fun _ _ _ h => h) _ _ _ _ (by kernel_rfl) (by kernel_rfl) (Or.inl ⟨by rfl, by intro w hSw; have hsl := slice_from pb b.length cb f hfb w; go_simp⟩) hHeld ?_
    simp only [Act.put, List.setIfInBounds_toArray, List.set_cons_zero, List.set_cons_succ]
    have hR0 : W.drew.ownsRow (w.heap.size + 6) 5 1 v acc.length (acc.map (Value.int .u8)) := HR.out
    have hmid : IsY W.drew (.slice (tailA pb cb f) (b.drop f).length (cb - f)) (b.drop f) := by
      have := (HV.out.1.grows HIw.out.below.drew).drop f hfb
      rw [List.length_drop]
      exact this
    have hmlen : (b.drop f).length = b.length - f := List.length_drop
    have Hmid := Lib.hid hmid
    have HmL := Lib.hid hmlen
    clear hmid hmlen
    have HR0 := Lib.hid hR0
    obtain ⟨s1, s2, s3⟩ := hHeld
    generalize hmd : b.drop f = mid at Hmid HmL
    rw [← HmL.out]
    have Hmd := Lib.hid hmd
    clear hmd hR0
    refine wpAnyZ_one (j := 4) (by kernel_rfl) rfl (fun K hK => ?_)
    refine app_step rfl _ _ rfl rfl (w.heap.size + 6) v acc mid (tailA pb cb f) (cb - f) rfl rfl HR0.out Hmid.out (by have := HmL.out; omega) (by simpa using hsz) ?_
    intro u5 w5 hg5
    have hd5 := (Below.refl w.heap.size w).trans HIw.out.below.drew |>.grown hg5.grown (by have := hsz; simp; omega) (fun k e => by have := own_ge HR0.out k e; omega)
    have T5 := Tr.app (B := W0.heap.size) HR0.out (by simp; omega) hg5
    have hD5 := ((Tr.drew W0.heap.size w.heap.size W).keeps.trans T5.keeps).same D _ HDl.out HD.out rfl
    have d3 := T5.kp ⟨w.heap.size + 1, 0, none⟩ _ (.inl (by show w.heap.size + 1 < _; omega)) s2
    have hO5 : Blk w5 (w.heap.size + 2) #[v] 22 := HO.out.drew.grownBy hg5.grown (fun k e => by have := own_ge HR0.out k e; omega)
    have hE5 : Blk w5 (w.heap.size + 3) #[.int .i64 (f : Int)] 3 := HIw.out.end_.drew.grownBy hg5.grown (fun k e => by have := own_ge HR0.out k e; omega)
    have hy5 : IsY w5 u5 (RTgt all old new b) := by
      have := own_isY ((HY.out.append ((HV.out.1.byt.drop f)))) (by rw [Hmd.out]; exact hg5.own)
      rwa [(show acc ++ b.drop f = _ from HRi.out)] at this
    have S5 := Lib.hid (And.intro (hO5.cell 0 rfl) (And.intro d3 (hE5.cell 0 rfl)))
    refine hK.out _ _ (.inr S5.out) ?_
    clear hK K
    have Hy5 := Lib.hid hy5
    have Hd5 := Lib.hid hd5
    have HD5 := Lib.hid hD5
    clear hy5 hd5 hD5 d3 hO5 hE5 T5 hg5 s1 s2 s3
    simp only [Act.put, List.setIfInBounds_toArray, List.set_cons_zero, List.set_cons_succ]
    refine wpAnyZ_one (j := 5) (by kernel_rfl) rfl (fun K hK => ?_)
    go_simp
    refine hK.out _ _ (.inr S5.out) ?_
    clear hK K
    try simp only [Act.put, List.setIfInBounds_toArray, List.set_cons_zero, List.set_cons_succ]
    refine wpAnyZ_one (j := 6) (by kernel_rfl) rfl (fun K hK => ?_)
    go_simp
    refine hK.out _ _ (.inl rfl) ?_
    clear hK K
    refine wpAnyZ_done (by kernel_rfl) ?_
    try simp only [Ends, Act.put, List.setIfInBounds_toArray, List.set_cons_zero, List.set_cons_succ]
    gi_wp2
    refine ⟨by simp, .inl ⟨_, _, rfl, run_takeDeferred HD5.out, ?_⟩⟩
    have hb6 := belowK_b (n₀ := w.heap.size) (w := W0) (by omega) w5 D _ (.deferred none) HDl.out HD5.out rfl rfl
    exact ⟨_, results_tmp2 rfl _ _ _, u5, rfl, Hy5.out.kept (fun a u ha => (KpC.put (fun _ => True) w5 D _ (.deferred none) HD5.out rfl) a u trivial ha), Hd5.out.trans hb6⟩
end Go.Proofs.YtlhbhcfpbhnkeaaGreatDoor

namespace Go.Proofs.YtlhbhcfpbhnkeaaGreatDoor
open Go.RowKit Go.Lib

theorem swI_low {z : Int} (h : 0 ≤ z ∧ z < 256) : swI (rng 65 26) z = lowI z := by
  have ha : ((List.range 256).all fun n => decide (swI (rng 65 26) (n : Int) = lowI (n : Int))) = true := by kernel_rfl
  have := List.all_eq_true.1 ha z.toNat (List.mem_range.2 (by omega))
  rw [decide_eq_true_iff, Int.toNat_of_nonneg h.1] at this
  exact this
theorem swI_up {z : Int} (h : 0 ≤ z ∧ z < 256) : swI (rng 97 26) z = upI z := by
  have ha : ((List.range 256).all fun n => decide (swI (rng 97 26) (n : Int) = upI (n : Int))) = true := by kernel_rfl
  have := List.all_eq_true.1 ha z.toNat (List.mem_range.2 (by omega))
  rw [decide_eq_true_iff, Int.toNat_of_nonneg h.1] at this
  exact this
theorem map_sw {c : BitVec 256} {f : Int → Int} {l : List Int} (hf : ∀ z, 0 ≤ z ∧ z < 256 → swI c z = f z) (hl : Byt l) : l.map (swI c) = l.map f := List.map_congr_left fun z hz => hf z (hl z hz)
theorem calls_args {P : Program} {g : Nat} {a b : Array Value} {w : World} {Q : Ending → World → Prop} (h : a = b) (hc : Calls P g b w Q) : Calls P g a w Q := h ▸ hc
theorem doI_form {k : Int} {old new b : List Int} {x y z : Nat} {r : Option (List Int)} (hval : valI k old new = decide (x ≤ old.length ∧ old.length ≤ y ∧ new.length ≤ z)) (hr : r = doK k old new b) : (if x ≤ old.length ∧ old.length ≤ y ∧ new.length ≤ z then r else none) = doI k old new b := by
  unfold doI
  rw [hval, hr]
  by_cases h : x ≤ old.length ∧ old.length ≤ y ∧ new.length ≤ z <;> simp [h]
theorem len_iff0 {old new : List Int} : decide (old.length = 0 ∧ new.length = 0) = decide (0 ≤ old.length ∧ old.length ≤ 0 ∧ new.length ≤ 0) := decide_eq_decide.2 (by omega)
set_option maxRecDepth 100000 in
theorem do_any (v u : Value) (k : Int) (old new b : List Int) (w : World) (hv : IsOp w v k old new) (hu : IsY w u b) (ho : old.length ≤ 140737488351232) (hn : new.length ≤ 140737488351232) (hb : b.length ≤ 4294967280) (hM : MaxOk w) :
    Calls Tryz.prog 14 #[v, u] w (DoRes w (doI k old new b)) := by
  by_cases hk : 1 ≤ k ∧ k ≤ 8
  · have hcases : k = 1 ∨ k = 2 ∨ k = 3 ∨ k = 4 ∨ k = 5 ∨ k = 6 ∨ k = 7 ∨ k = 8 := by omega
    rcases hcases with rfl | rfl | rfl | rfl | rfl | rfl | rfl | rfl
    · rw [← doI_form (x := 0) (y := 0) (z := 0) (r := some (b.map lowI)) ((valI_1 _ _ _ (by omega)).trans len_iff0) rfl]
      refine do_gen 1 0 0 0 87 88 (fun bl _ _ _ _ _ => #[.pointer (some ⟨bl, 0, none⟩)]) (fun bl _ _ _ _ _ => #[.pointer (some ⟨bl, 0, none⟩)]) v u old new b _ w hv hu (by omega) (by omega) (fun _ _ _ _ _ _ => ⟨rfl, rfl, rfl, rfl, rfl⟩) (by omega) (by omega) (by omega) ho hn
        (enters_of Tryz.func87 (by kernel_rfl) rfl) ?_
      intro _ _ _ W v2 bl bu p1 p2 r1 r2 _ hB hv2 hu2
      refine calls_args (by simp) ((letters_any v2 u _ old new _ bl b W hv2 hu2 hB.low (by omega) (fun z hz => by rw [swI_low hz]; exact lowI_byte hz)).mono ?_)
      rintro e w' ⟨r, rfl, h1, h2⟩
      exact ⟨r, rfl, by rw [← map_sw (fun z hz => swI_low hz) hu.byt]; exact h1, h2⟩
    · rw [← doI_form (x := 0) (y := 0) (z := 0) (r := some (b.map upI)) ((valI_1 _ _ _ (by omega)).trans len_iff0) rfl]
      refine do_gen 2 0 0 0 87 88 (fun _ bu _ _ _ _ => #[.pointer (some ⟨bu, 0, none⟩)]) (fun _ bu _ _ _ _ => #[.pointer (some ⟨bu, 0, none⟩)]) v u old new b _ w hv hu (by omega) (by omega) (fun _ _ _ _ _ _ => ⟨rfl, rfl, rfl, rfl, rfl⟩) (by omega) (by omega) (by omega) ho hn
        (enters_of Tryz.func87 (by kernel_rfl) rfl) ?_
      intro _ _ _ W v2 bl bu p1 p2 r1 r2 _ hB hv2 hu2
      refine calls_args (by simp) ((letters_any v2 u _ old new _ bu b W hv2 hu2 hB.up (by omega) (fun z hz => by rw [swI_up hz]; exact upI_byte hz)).mono ?_)
      rintro e w' ⟨r, rfl, h1, h2⟩
      exact ⟨r, rfl, by rw [← map_sw (fun z hz => swI_up hz) hu.byt]; exact h1, h2⟩
    · rw [← doI_form (x := 0) (y := 0) (z := 0) (r := dec false b) ((valI_1 _ _ _ (by omega)).trans len_iff0) rfl]
      refine do_gen 3 0 0 0 96 98 (fun _ _ p1 _ _ _ => #[.pointer (some ⟨p1, 0, none⟩)]) (fun _ _ p1 _ _ _ => #[.pointer (some ⟨p1, 0, none⟩)]) v u old new b _ w hv hu (by omega) (by omega) (fun _ _ _ _ _ _ => ⟨rfl, rfl, rfl, rfl, rfl⟩) (by omega) (by omega) (by omega) ho hn
        (enters_of Tryz.func96 (by kernel_rfl) rfl) ?_
      intro _ _ _ W v2 bl bu p1 p2 r1 r2 _ hB hv2 hu2
      exact calls_args (by simp) (percent1_any v2 u _ old new b false p1 W hv2 hu2 hB.strict (by omega))
    · rw [← doI_form (x := 0) (y := 0) (z := 0) (r := dec true b) ((valI_1 _ _ _ (by omega)).trans len_iff0) rfl]
      refine do_gen 4 0 0 0 96 98 (fun _ _ _ p2 _ _ => #[.pointer (some ⟨p2, 0, none⟩)]) (fun _ _ _ p2 _ _ => #[.pointer (some ⟨p2, 0, none⟩)]) v u old new b _ w hv hu (by omega) (by omega) (fun _ _ _ _ _ _ => ⟨rfl, rfl, rfl, rfl, rfl⟩) (by omega) (by omega) (by omega) ho hn
        (enters_of Tryz.func96 (by kernel_rfl) rfl) ?_
      intro _ _ _ W v2 bl bu p1 p2 r1 r2 _ hB hv2 hu2
      exact calls_args (by simp) (percent1_any v2 u _ old new b true p2 W hv2 hu2 hB.lax (by omega))
    · rw [← doI_form (x := 1) (y := 4) (z := 4) (r := some (rep old new 1 b)) (valI_5 _ _ _ (by omega)) rfl]
      refine do_gen 5 1 4 4 100 102 (fun _ _ _ _ r1 _ => #[.pointer (some ⟨r1, 0, none⟩)]) (fun _ _ _ _ r1 _ => #[.pointer (some ⟨r1, 0, none⟩)]) v u old new b _ w hv hu (by omega) (by omega) (fun _ _ _ _ _ _ => ⟨rfl, rfl, rfl, rfl, rfl⟩) (by omega) (by omega) (by omega) ho hn
        (enters_of Tryz.func100 (by kernel_rfl) rfl) ?_
      intro q1 q2 q3 W v2 bl bu p1 p2 r1 r2 hW hB hv2 hu2
      exact calls_args (by simp) (replacement_any v2 u _ old new b false r1 W hv2 hu2 hB.first (by omega) (by omega) (by omega) hb (hM.grows hW hM.lt))
    · rw [← doI_form (x := 1) (y := 4) (z := 4) (r := some (rep old new b.length b)) (valI_5 _ _ _ (by omega)) rfl]
      refine do_gen 6 1 4 4 100 102 (fun _ _ _ _ _ r2 => #[.pointer (some ⟨r2, 0, none⟩)]) (fun _ _ _ _ _ r2 => #[.pointer (some ⟨r2, 0, none⟩)]) v u old new b _ w hv hu (by omega) (by omega) (fun _ _ _ _ _ _ => ⟨rfl, rfl, rfl, rfl, rfl⟩) (by omega) (by omega) (by omega) ho hn
        (enters_of Tryz.func100 (by kernel_rfl) rfl) ?_
      intro q1 q2 q3 W v2 bl bu p1 p2 r1 r2 hW hB hv2 hu2
      exact calls_args (by simp) (replacement_any v2 u _ old new b true r2 W hv2 hu2 hB.all (by omega) (by omega) (by omega) hb (hM.grows hW hM.lt))
    · rw [← doI_form (x := 1) (y := 8) (z := 0) (r := some (b.filter fun z => !old.contains z)) ((valI_7 _ _).trans (decide_eq_decide.2 (by omega))) rfl]
      refine do_gen 7 1 8 0 105 107 (fun _ _ _ _ _ _ => #[]) (fun _ _ _ _ _ _ => #[]) v u old new b _ w hv hu (by omega) (by omega) (fun _ _ _ _ _ _ => ⟨rfl, rfl, rfl, rfl, rfl⟩) (by omega) (by omega) (by omega) ho hn
        (enters_of Tryz.func105 (by kernel_rfl) rfl) ?_
      intro q1 q2 q3 W v2 bl bu p1 p2 r1 r2 hW hB hv2 hu2
      exact calls_args (by simp) (drop_any v2 u _ old new b W hv2 hu2 ho (by omega))
    · rw [← doI_form (x := 1) (y := 1) (z := 0) (r := some (sqz (old.getD 0 0) false b)) ((valI_8 _ _).trans (decide_eq_decide.2 (by omega))) rfl]
      refine do_gen 8 1 1 0 109 110 (fun _ _ _ _ _ _ => #[]) (fun _ _ _ _ _ _ => #[]) v u old new b _ w hv hu (by omega) (by omega) (fun _ _ _ _ _ _ => ⟨rfl, rfl, rfl, rfl, rfl⟩) (by omega) (by omega) (by omega) ho hn
        (enters_of Tryz.func109 (by kernel_rfl) rfl) ?_
      intro q1 q2 q3 W v2 bl bu p1 p2 r1 r2 hW hB hv2 hu2
      have hc : old[0]? = some (old.getD 0 0) := by
        rw [List.getD_eq_getElem?_getD, List.getElem?_eq_getElem (by omega)]; rfl
      exact calls_args (by simp) (squeeze_any v2 u _ _ old new b W hv2 hu2 hc ho (by omega))
  · have : doI k old new b = none := by unfold doI; rw [valI_no k old new hk]; rfl
    rw [this]
    exact do_bad v u k old new w hv hk
theorem rdo_any (v u : Value) (k : Int) (old new b : List Int) (w : World) (hv : IsOp w v k old new) (hu : IsY w u b) (ho : old.length ≤ 140737488351232) (hn : new.length ≤ 140737488351232) (hb : b.length ≤ 4294967280) :
    Calls Tryz.prog 15 #[v, u] w (DoRes w (doI k old new b)) := by
  by_cases hval : valI k old new = true
  · have hk : 1 ≤ k ∧ k ≤ 8 := by
      by_cases hk : 1 ≤ k ∧ k ≤ 8
      · exact hk
      · rw [valI_no k old new hk] at hval; cases hval
    have hdo : doI k old new b = doK k old new b := by unfold doI; rw [if_pos hval]
    rw [hdo]
    have hcases : k = 1 ∨ k = 2 ∨ k = 3 ∨ k = 4 ∨ k = 5 ∨ k = 6 ∨ k = 7 ∨ k = 8 := by omega
    rcases hcases with rfl | rfl | rfl | rfl | rfl | rfl | rfl | rfl
    · exact rdo_1 v u old new b w hv hu ho hn (by omega) hval
    · exact rdo_2 v u old new b w hv hu ho hn (by omega) hval
    · exact rdo_3 v u old new b w hv hu ho hn (by omega) hval
    · exact rdo_4 v u old new b w hv hu ho hn (by omega) hval
    · exact rdo_5 v u old new b w hv hu ho hn (by omega) hval
    · exact rdo_6 v u old new b w hv hu ho hn (by omega) hval
    · exact rdo_7 v u old new b w hv hu ho hn (by omega) hval
    · have h1 : old.length = 1 := by rw [valI_8, decide_eq_true_iff] at hval; exact hval.1
      have hc : old[0]? = some (old.getD 0 0) := by
        rw [List.getD_eq_getElem?_getD, List.getElem?_eq_getElem (by omega)]; rfl
      exact rdo_8 _ v u old new b hc w hv hu ho hn (by omega) hval
  · have : doI k old new b = none := by unfold doI; rw [if_neg hval]
    rw [this]
    exact rdo_bad k v u old new b w hv hu ho hn (by omega) (by simpa using hval)
end Go.Proofs.YtlhbhcfpbhnkeaaGreatDoor

namespace Go.Proofs.YtlhbhcfpbhnkeaaGreatDoor
open Go.RowKit Go.Lib

theorem results_mach (tmps : Array Value) (w : World) (g : Nat) (cs : Array Value) (hp : tmps.getD 2 undef = .pointer (some ⟨g, 0, none⟩)) (hg : Blk w g cs 43) (hs : cs.size = 4) :
    (results Tryz.f22 tmps).run Tryz.prog w = .ok (.tuple #[.agg cs, tmps.getD 3 undef]) w := by
  rw [results_cell_tmp (p := 2) (u := 3) (ty := 43) rfl, hp]
  have h2 := run_loadVar_row (P := Tryz.prog) w g 43 43 cs (0, 0) _ hg.is Tryz.underlying43 rfl (by rw [trSize, hs])
  simp [asAddr, Result.andThen, h2]
def zeroT : Value := .agg #[.slice none 0 0, .slice none 0 0, .slice none 0 0, .slice none 0 0]
set_option maxRecDepth 100000 in
set_option maxHeartbeats 4000000 in
theorem mach_gen (k a b c F3 F4 : Nat) (C3 C4 : Nat → Nat → Nat → Nat → Nat → Nat → Array Value) (v : Value) (old new : List Int) (cs : List (BitVec 256)) (rows : List (List (Int × Pcs))) (fins : List Bool) (ends : List (List Int)) (w : World) (hv : IsOp w v (k : Int) old new) (hk : 1 ≤ k) (hk8 : k ≤ 8)
    (hC : ∀ bl bu p1 p2 r1 r2, (kindC bl bu p1 p2 r1 r2)[k * 5]? = some (.int .i64 (a : Int)) ∧ (kindC bl bu p1 p2 r1 r2)[k * 5 + 1]? = some (.int .i64 (b : Int)) ∧ (kindC bl bu p1 p2 r1 r2)[k * 5 + 2]? = some (.int .i64 (c : Int)) ∧
      (kindC bl bu p1 p2 r1 r2)[k * 5 + 3]? = some (.func (.func F3) #[] (C3 bl bu p1 p2 r1 r2)) ∧ (kindC bl bu p1 p2 r1 r2)[k * 5 + 4]? = some (.func (.func F4) #[] (C4 bl bu p1 p2 r1 r2)))
    (ha : a ≤ 100) (hb : b ≤ 100) (hc : c ≤ 100) (ho : old.length ≤ 140737488351232) (hn : new.length ≤ 140737488351232) (hF : ∀ args w, (callFunc F4 args).run Tryz.prog w = .ok (.enter F4 args) w)
    (hok : a ≤ old.length ∧ old.length ≤ b ∧ new.length ≤ c)
    (hD : ∀ W v2 bl bu p1 p2 r1 r2, Below w.heap.size w W → Boxes W bl bu p1 p2 r1 r2 → IsOp W v2 (k : Int) old new → Calls Tryz.prog F4 (#[v2] ++ C4 bl bu p1 p2 r1 r2) W fun e w' => ∃ u, e = .returned u ∧ TrAt W.heap.size w' u cs rows fins ends ∧ Below W.heap.size W w') :
    Calls Tryz.prog 22 #[v] w fun e w' => ∃ u, e = .returned (.tuple #[u, .int .i64 0]) ∧ TrAt w.heap.size w' u cs rows fins ends ∧ Below w.heap.size w w' := by
  obtain ⟨po, co, pn, cn, rfl, h1, h2, c1, c2⟩ := hv.shape
  have D0 := (Blk.new w #[.int .i64 k, .slice po old.length co, .slice pn new.length cn] 24).alloc (.cells #[.slice none 0 0, .slice none 0 0, .slice none 0 0, .slice none 0 0] 43)
  have R0 := Blk.alloc1 w #[.int .i64 k, .slice po old.length co, .slice pn new.length cn] #[.slice none 0 0, .slice none 0 0, .slice none 0 0, .slice none 0 0] 24 43
  have hbw1 : Below w.heap.size w ((w.alloc (.cells #[.int .i64 k, .slice po old.length co, .slice pn new.length cn] 24)).alloc (.cells #[.slice none 0 0, .slice none 0 0, .slice none 0 0, .slice none 0 0] 43)) := by go_grown
  have hsz : ((w.alloc (.cells #[.int .i64 k, .slice po old.length co, .slice pn new.length cn] 24)).alloc (.cells #[.slice none 0 0, .slice none 0 0, .slice none 0 0, .slice none 0 0] 43)).heap.size = w.heap.size + 2 := by simp
  obtain ⟨x0, x1, x2⟩ := (⟨D0.cell 0 rfl, D0.cell 1 rfl, D0.cell 2 rfl⟩ : _ ∧ _ ∧ _)
  have HI := Lib.hid (fun W (hW : Below w.heap.size w W) => hv.grows hW)
  have HD := Lib.hid hD
  have HCC := Lib.hid hC
  have HX := Lib.hid (decide_eq_true hok)
  clear hv h1 h2 hD hC hok
  go_enter Tryz.func22, Tryz.ntmps22
  go_wp2_with fail
  generalize ((w.alloc (.cells #[.int .i64 k, .slice po old.length co, .slice pn new.length cn] 24)).alloc (.cells #[.slice none 0 0, .slice none 0 0, .slice none 0 0, .slice none 0 0] 43)) = w1 at D0 R0 hbw1 hsz x0 x1 x2 ⊢
  refine (kindOf_gen k a b c F3 F4 C3 C4 _ old new w1 (HI.out w1 hbw1) hk hk8 HCC.out ha hb hc ho hn).mono ?_
  rintro e w2 ⟨bl, bu, p1, p2, r1, r2, rfl, HB, hb2⟩
  have D2 := D0.grows hb2
  have R2 := R0.grows hb2
  have hbw2 := below_two hbw1 hb2
  have hDl := D2.lt
  have hz2 := hb2.size
  have HB2 := Lib.hid HB
  have hsf := @run_store_func
  clear D0 R0 hb2 hbw1 HB HCC x0 x1 x2
  have x0 : w2.cell? ⟨w.heap.size, 0, none⟩ = some (.int .i64 k) := D2.cell 0 rfl
  have x1 : w2.cell? ⟨w.heap.size, 1, none⟩ = some (.slice po old.length co) := D2.cell 1 rfl
  have x2 : w2.cell? ⟨w.heap.size, 2, none⟩ = some (.slice pn new.length cn) := D2.cell 2 rfl
  generalize C3 bl bu p1 p2 r1 r2 = G3
  generalize h4 : C4 bl bu p1 p2 r1 r2 = G4
  have H4 := Lib.hid h4
  clear h4
  rw [HX.out]
  clear HX
  go_wp2_with fail
  have hbw3 := hbw2.alloc hbw2.size (.cells #[.int .i64 (a : Int), .int .i64 (b : Int), .int .i64 (c : Int), .func (.func F3) #[] G3, .func (.func F4) #[] G4] 70)
  have hq := HD.out _ (.agg #[.int .i64 k, .slice po old.length co, .slice pn new.length cn]) bl bu p1 p2 r1 r2 hbw3 (HB2.out.grows (by go_grown)) (HI.out _ hbw3)
  rw [H4.out] at hq
  have R3 := R2.alloc (.cells #[.int .i64 (a : Int), .int .i64 (b : Int), .int .i64 (c : Int), .func (.func F3) #[] G3, .func (.func F4) #[] G4] 70)
  clear x0 x1 x2 D2 R2
  refine hq.mono ?_
  rintro e w4 ⟨u4, rfl, hTr, hb4⟩
  obtain ⟨q1, n1, k1, q2, n2, k2, q3, n3, k3, q4, n4, k4, rfl⟩ := hTr.shape
  have R4 := R3.grows hb4
  have hb04 := below_two hbw3 hb4
  have hz4 := hb4.size
  simp at hz4
  obtain ⟨d0, d1, d2, d3, e0, e1, e2, e3⟩ := R4.four
  have KS : KeptTy (fun t => t ≠ 43) w4 ((((w4.setCell ⟨w.heap.size + 1, 0, none⟩ (.slice q1 n1 k1)).setCell ⟨w.heap.size + 1, 1, none⟩ (.slice q2 n2 k2)).setCell ⟨w.heap.size + 1, 2, none⟩ (.slice q3 n3 k3)).setCell ⟨w.heap.size + 1, 3, none⟩ (.slice q4 n4 k4)) :=
    (KeptTy.set (p := ⟨w.heap.size + 1, 0, none⟩) R4 (fun h => h rfl) _).trans ((KeptTy.set (p := ⟨w.heap.size + 1, 1, none⟩) (R4.set 0 _) (fun h => h rfl) _).trans ((KeptTy.set (p := ⟨w.heap.size + 1, 2, none⟩) ((R4.set 0 _).set 1 _) (fun h => h rfl) _).trans (KeptTy.set (p := ⟨w.heap.size + 1, 3, none⟩) (((R4.set 0 _).set 1 _).set 2 _) (fun h => h rfl) _)))
  have FIN := Lib.hid ((hTr.keep KS).mono (base' := w.heap.size) (by simp; omega))
  have HDs := Lib.hid (R4.set4 (.slice q1 n1 k1) (.slice q2 n2 k2) (.slice q3 n3 k3) (.slice q4 n4 k4))
  have HBs := Lib.hid (below_set4 hb04 (show w.heap.size ≤ w.heap.size + 1 by omega) (.slice q1 n1 k1) (.slice q2 n2 k2) (.slice q3 n3 k3) (.slice q4 n4 k4))
  clear KS hTr hb04 R4 R3 hb4 hq hbw3 hbw2
  go_wp2
  exact bodyPost_ret (results_mach _ _ (w.heap.size + 1) #[.slice q1 n1 k1, .slice q2 n2 k2, .slice q3 n3 k3, .slice q4 n4 k4] rfl HDs.out rfl) rfl ⟨_, rfl, FIN.out, HBs.out⟩
end Go.Proofs.YtlhbhcfpbhnkeaaGreatDoor

namespace Go.Proofs.YtlhbhcfpbhnkeaaGreatDoor
open Go.RowKit Go.Lib

set_option maxRecDepth 100000 in
set_option maxHeartbeats 4000000 in
theorem pv_gen (k a b c F3 F4 : Nat) (C3 C4 : Nat → Nat → Nat → Nat → Nat → Nat → Array Value) (v : Value) (old new : List Int) (w : World) (hv : IsOp w v (k : Int) old new) (hk : 1 ≤ k) (hk8 : k ≤ 8)
    (hC : ∀ bl bu p1 p2 r1 r2, (kindC bl bu p1 p2 r1 r2)[k * 5]? = some (.int .i64 (a : Int)) ∧ (kindC bl bu p1 p2 r1 r2)[k * 5 + 1]? = some (.int .i64 (b : Int)) ∧ (kindC bl bu p1 p2 r1 r2)[k * 5 + 2]? = some (.int .i64 (c : Int)) ∧
      (kindC bl bu p1 p2 r1 r2)[k * 5 + 3]? = some (.func (.func F3) #[] (C3 bl bu p1 p2 r1 r2)) ∧ (kindC bl bu p1 p2 r1 r2)[k * 5 + 4]? = some (.func (.func F4) #[] (C4 bl bu p1 p2 r1 r2)))
    (ha : a ≤ 100) (hb : b ≤ 100) (hc : c ≤ 100) (ho : old.length ≤ 140737488351232) (hn : new.length ≤ 140737488351232) :
    Calls Tryz.prog 16 #[v] w fun e w' => e = .returned (.int .i64 (errI (decide (a ≤ old.length ∧ old.length ≤ b ∧ new.length ≤ c)))) ∧ Below w.heap.size w w' := by
  obtain ⟨po, co, pn, cn, rfl, h1, h2, c1, c2⟩ := hv.shape
  have D0 := Blk.new w #[.int .i64 k, .slice po old.length co, .slice pn new.length cn] 24
  have hbw1 : Below w.heap.size w (w.alloc (.cells #[.int .i64 k, .slice po old.length co, .slice pn new.length cn] 24)) := by go_grown
  have HI := Lib.hid (fun W (hW : Below w.heap.size w W) => hv.grows hW)
  have HCC := Lib.hid hC
  clear hv h1 h2 hC
  generalize hq : decide (a ≤ old.length ∧ old.length ≤ b ∧ new.length ≤ c) = q
  have HQ := Lib.hid hq
  clear hq
  go_enter Tryz.func16, Tryz.ntmps16
  go_wp2_with fail
  generalize (w.alloc (.cells #[.int .i64 k, .slice po old.length co, .slice pn new.length cn] 24)) = w1 at D0 hbw1 ⊢
  refine (kindOf_gen k a b c F3 F4 C3 C4 _ old new w1 (HI.out w1 hbw1) hk hk8 HCC.out ha hb hc ho hn).mono ?_
  rintro e w2 ⟨bl, bu, p1, p2, r1, r2, rfl, HB, hb2⟩
  have hbw2 := below_two hbw1 hb2
  have hsf := @run_store_func
  clear D0 hb2 hbw1 HB HCC
  generalize C3 bl bu p1 p2 r1 r2 = G3
  generalize C4 bl bu p1 p2 r1 r2 = G4
  rw [HQ.out]
  clear HQ
  cases q with
  | true =>
    go_wp2
    go_ret
    exact ⟨rfl, hbw2.alloc hbw2.size _⟩
  | false =>
    go_wp2
    go_ret
    exact ⟨rfl, hbw2.alloc hbw2.size _⟩
set_option maxRecDepth 100000 in
set_option maxHeartbeats 4000000 in
theorem pv_bad (v : Value) (k : Int) (old new : List Int) (w : World) (hv : IsOp w v k old new) (hk : ¬ (1 ≤ k ∧ k ≤ 8)) :
    Calls Tryz.prog 16 #[v] w fun e w' => e = .returned (.int .i64 1) ∧ Below w.heap.size w w' := by
  obtain ⟨po, co, pn, cn, rfl, h1, h2, c1, c2⟩ := hv.shape
  have hbw1 : Below w.heap.size w (w.alloc (.cells #[.int .i64 k, .slice po old.length co, .slice pn new.length cn] 24)) := by go_grown
  have D0 := Blk.new w #[.int .i64 k, .slice po old.length co, .slice pn new.length cn] 24
  have HI := Lib.hid (hv.grows hbw1)
  clear hv h1 h2
  go_enter Tryz.func16, Tryz.ntmps16
  go_wp2_with fail
  generalize (w.alloc (.cells #[.int .i64 k, .slice po old.length co, .slice pn new.length cn] 24)) = w1 at D0 hbw1 HI ⊢
  refine (kindOf_bad _ k old new w1 HI.out hk).mono ?_
  rintro e w2 ⟨rfl, hb2⟩
  unfold zeroK
  have hbw2 := below_two hbw1 hb2
  have hsf := @run_store_func
  clear D0 hb2 hbw1 HI
  go_wp2
  go_ret
  exact ⟨rfl, hbw2.alloc hbw2.size _⟩
set_option maxRecDepth 100000 in
set_option maxHeartbeats 4000000 in
theorem mach_no (k a b c F3 F4 : Nat) (C3 C4 : Nat → Nat → Nat → Nat → Nat → Nat → Array Value) (v : Value) (old new : List Int) (w : World) (hv : IsOp w v (k : Int) old new) (hk : 1 ≤ k) (hk8 : k ≤ 8)
    (hC : ∀ bl bu p1 p2 r1 r2, (kindC bl bu p1 p2 r1 r2)[k * 5]? = some (.int .i64 (a : Int)) ∧ (kindC bl bu p1 p2 r1 r2)[k * 5 + 1]? = some (.int .i64 (b : Int)) ∧ (kindC bl bu p1 p2 r1 r2)[k * 5 + 2]? = some (.int .i64 (c : Int)) ∧
      (kindC bl bu p1 p2 r1 r2)[k * 5 + 3]? = some (.func (.func F3) #[] (C3 bl bu p1 p2 r1 r2)) ∧ (kindC bl bu p1 p2 r1 r2)[k * 5 + 4]? = some (.func (.func F4) #[] (C4 bl bu p1 p2 r1 r2)))
    (ha : a ≤ 100) (hb : b ≤ 100) (hc : c ≤ 100) (ho : old.length ≤ 140737488351232) (hn : new.length ≤ 140737488351232) (hno : ¬ (a ≤ old.length ∧ old.length ≤ b ∧ new.length ≤ c)) :
    Calls Tryz.prog 22 #[v] w fun e w' => e = .returned (.tuple #[zeroT, .int .i64 1]) ∧ Below w.heap.size w w' := by
  obtain ⟨po, co, pn, cn, rfl, h1, h2, c1, c2⟩ := hv.shape
  have R0 := Blk.alloc1 w #[.int .i64 k, .slice po old.length co, .slice pn new.length cn] #[.slice none 0 0, .slice none 0 0, .slice none 0 0, .slice none 0 0] 24 43
  have D0 := (Blk.new w #[.int .i64 k, .slice po old.length co, .slice pn new.length cn] 24).alloc (.cells #[.slice none 0 0, .slice none 0 0, .slice none 0 0, .slice none 0 0] 43)
  have hbw1 : Below w.heap.size w ((w.alloc (.cells #[.int .i64 k, .slice po old.length co, .slice pn new.length cn] 24)).alloc (.cells #[.slice none 0 0, .slice none 0 0, .slice none 0 0, .slice none 0 0] 43)) := by go_grown
  obtain ⟨x0, x1, x2⟩ := (⟨D0.cell 0 rfl, D0.cell 1 rfl, D0.cell 2 rfl⟩ : _ ∧ _ ∧ _)
  have HI := Lib.hid (fun W (hW : Below w.heap.size w W) => hv.grows hW)
  have HCC := Lib.hid hC
  have HX := Lib.hid (decide_eq_false hno)
  clear hv h1 h2 hC hno
  go_enter Tryz.func22, Tryz.ntmps22
  go_wp2_with fail
  generalize ((w.alloc (.cells #[.int .i64 k, .slice po old.length co, .slice pn new.length cn] 24)).alloc (.cells #[.slice none 0 0, .slice none 0 0, .slice none 0 0, .slice none 0 0] 43)) = w1 at D0 R0 hbw1 x0 x1 x2 ⊢
  refine (kindOf_gen k a b c F3 F4 C3 C4 _ old new w1 (HI.out w1 hbw1) hk hk8 HCC.out ha hb hc ho hn).mono ?_
  rintro e w2 ⟨bl, bu, p1, p2, r1, r2, rfl, HB, hb2⟩
  have R2 := R0.grows hb2
  have hbw2 := below_two hbw1 hb2
  have hDl := R2.lt
  have hsf := @run_store_func
  clear D0 R0 hb2 hbw1 HB HCC x0 x1 x2
  generalize C3 bl bu p1 p2 r1 r2 = G3
  generalize C4 bl bu p1 p2 r1 r2 = G4
  rw [HX.out]
  clear HX
  have hs2 := hbw2.size
  obtain ⟨d0, d1, d2, d3, e0, e1, e2, e3⟩ := R2.four
  have HDs := Lib.hid fun o => (R2.set4 (.slice none 0 0) (.slice none 0 0) (.slice none 0 0) (.slice none 0 0)).alloc o
  have HBs := Lib.hid fun o => (below_set4 hbw2 (show w.heap.size ≤ w.heap.size + 1 by omega) (.slice none 0 0) (.slice none 0 0) (.slice none 0 0) (.slice none 0 0)).alloc (by simp; omega) o
  clear R2 hbw2
  go_wp2
  exact bodyPost_ret (results_mach _ _ (w.heap.size + 1) #[.slice none 0 0, .slice none 0 0, .slice none 0 0, .slice none 0 0] rfl (HDs.out _) rfl) rfl ⟨rfl, HBs.out _⟩
set_option maxRecDepth 100000 in
set_option maxHeartbeats 4000000 in
theorem mach_bad (v : Value) (k : Int) (old new : List Int) (w : World) (hv : IsOp w v k old new) (hk : ¬ (1 ≤ k ∧ k ≤ 8)) :
    Calls Tryz.prog 22 #[v] w fun e w' => e = .returned (.tuple #[zeroT, .int .i64 1]) ∧ Below w.heap.size w w' := by
  obtain ⟨po, co, pn, cn, rfl, h1, h2, c1, c2⟩ := hv.shape
  have R0 := Blk.alloc1 w #[.int .i64 k, .slice po old.length co, .slice pn new.length cn] #[.slice none 0 0, .slice none 0 0, .slice none 0 0, .slice none 0 0] 24 43
  have D0 := (Blk.new w #[.int .i64 k, .slice po old.length co, .slice pn new.length cn] 24).alloc (.cells #[.slice none 0 0, .slice none 0 0, .slice none 0 0, .slice none 0 0] 43)
  have hbw1 : Below w.heap.size w ((w.alloc (.cells #[.int .i64 k, .slice po old.length co, .slice pn new.length cn] 24)).alloc (.cells #[.slice none 0 0, .slice none 0 0, .slice none 0 0, .slice none 0 0] 43)) := by go_grown
  obtain ⟨x0, x1, x2⟩ := (⟨D0.cell 0 rfl, D0.cell 1 rfl, D0.cell 2 rfl⟩ : _ ∧ _ ∧ _)
  have HI := Lib.hid (fun W (hW : Below w.heap.size w W) => hv.grows hW)
  clear hv h1 h2
  go_enter Tryz.func22, Tryz.ntmps22
  go_wp2_with fail
  generalize ((w.alloc (.cells #[.int .i64 k, .slice po old.length co, .slice pn new.length cn] 24)).alloc (.cells #[.slice none 0 0, .slice none 0 0, .slice none 0 0, .slice none 0 0] 43)) = w1 at D0 R0 hbw1 x0 x1 x2 ⊢
  refine (kindOf_bad _ k old new w1 (HI.out w1 hbw1) hk).mono ?_
  rintro e w2 ⟨rfl, hb2⟩
  unfold zeroK
  have R2 := R0.grows hb2
  have hbw2 := below_two hbw1 hb2
  have hDl := R2.lt
  have hsf := @run_store_func
  clear D0 R0 hb2 hbw1 x0 x1 x2
  have hs2 := hbw2.size
  obtain ⟨d0, d1, d2, d3, e0, e1, e2, e3⟩ := R2.four
  have HDs := Lib.hid fun o => (R2.set4 (.slice none 0 0) (.slice none 0 0) (.slice none 0 0) (.slice none 0 0)).alloc o
  have HBs := Lib.hid fun o => (below_set4 hbw2 (show w.heap.size ≤ w.heap.size + 1 by omega) (.slice none 0 0) (.slice none 0 0) (.slice none 0 0) (.slice none 0 0)).alloc (by simp; omega) o
  clear R2 hbw2
  go_wp2
  exact bodyPost_ret (results_mach _ _ (w.heap.size + 1) #[.slice none 0 0, .slice none 0 0, .slice none 0 0, .slice none 0 0] rfl (HDs.out _) rfl) rfl ⟨rfl, HBs.out _⟩
end Go.Proofs.YtlhbhcfpbhnkeaaGreatDoor

namespace Go.Proofs.YtlhbhcfpbhnkeaaGreatDoor
open Go.RowKit Go.Lib

def nums (s : ByteArray) : List Int := s.data.toList.map fun x => (x.toNat : Int)
theorem nums_len (s : ByteArray) : (nums s).length = s.size := by unfold nums; rw [List.length_map]; rfl
theorem nums_byt (s : ByteArray) : Byt (nums s) := by
  intro z hz
  obtain ⟨x, _, rfl⟩ := List.mem_map.1 hz
  have := x.toNat_lt
  omega
theorem nums_row {w : World} {g cap : Nat} {s : ByteArray} {e : TypeId} {fr : Nat × Nat} (hc : s.size ≤ cap) (h : w.heap[g]? = some (.cells (bytesRow s cap) e fr)) : IsY w (.slice (some ⟨g, 0, none⟩) s.size cap) (nums s) := by
  refine ⟨nums_byt s, fun p n c e h => by (cases e; cases h), some ⟨g, 0, none⟩, cap, by rw [nums_len], by rw [nums_len]; exact hc, fun j x hx => ⟨g, 0, rfl, ?_⟩⟩
  unfold nums at hx
  rw [List.getElem?_map] at hx
  obtain ⟨y, hy, rfl⟩ := Option.map_eq_some_iff.1 hx
  rw [Array.getElem?_toList] at hy
  obtain ⟨hj, rfl⟩ := Array.getElem?_eq_some_iff.1 hy
  rw [Nat.zero_add]
  simp only [World.cell?, h]
  exact bytesRow_at s cap j hj
/-- what comes of does. -/
def doesB (k : Int) (old new : List Int) (s want : ByteArray) : Bool := match doI k old new (nums s) with
  | some l => ((strOfNums l).toList == want.toList)
  | none => false
set_option maxRecDepth 100000 in
set_option maxHeartbeats 4000000 in
theorem does_any (v : Value) (k : Int) (old new : List Int) (s want : ByteArray) (w : World) (hv : IsOp w v k old new) (ho : old.length ≤ 1000) (hn : new.length ≤ 1000) (hs : s.size ≤ 1000) (hM : MaxOk w) :
    Calls Tryz.prog 32 #[v, .string s, .string want] w fun e w' => e = .returned (.bool (doesB k old new s want)) ∧ Below w.heap.size w w' := by
  obtain ⟨po, co, pn, cn, rfl, h1, h2, c1, c2⟩ := hv.shape
  have D0 := Blk.new w #[.int .i64 k, .slice po old.length co, .slice pn new.length cn] 24
  have hbw : Below w.heap.size w (w.alloc (.cells #[.int .i64 k, .slice po old.length co, .slice pn new.length cn] 24)) := by go_grown
  have hcv := fun (w : World) (s : ByteArray) => run_bytes_of_string (P := Tryz.prog) w 9 22 5 s Tryz.underlying9 Tryz.underlying22 Tryz.underlying5
  have HI := Lib.hid (fun W (hW : Below w.heap.size w W) => hv.grows hW)
  have HM := Lib.hid (fun W (hW : Below w.heap.size w W) => hM.grows hW hM.lt)
  clear hv h1 h2 hM
  go_enter Tryz.func32, Tryz.ntmps32
  go_wp2_with fail
  have hC := grownCap_ge (w.alloc (.cells #[.int .i64 k, .slice po old.length co, .slice pn new.length cn] 24)) s.size 0 5
  generalize grownCap (w.alloc (.cells #[.int .i64 k, .slice po old.length co, .slice pn new.length cn] 24)) s.size 0 5 = C at hC ⊢
  have hb1 : Below w.heap.size w ((w.alloc (.cells #[.int .i64 k, .slice po old.length co, .slice pn new.length cn] 24)).alloc (.cells (bytesRow s C) 5 ((bytesRow s C).size, (bytesRow s C).size + 1))).drew := by go_grown
  have hy1 : IsY ((w.alloc (.cells #[.int .i64 k, .slice po old.length co, .slice pn new.length cn] 24)).alloc (.cells (bytesRow s C) 5 ((bytesRow s C).size, (bytesRow s C).size + 1))).drew (.slice (some ⟨w.heap.size + 1, 0, none⟩) s.size C) (nums s) := by
    refine nums_row hC (e := 5) (fr := ((bytesRow s C).size, (bytesRow s C).size + 1)) ?_
    have h := World.alloc_heap_new (w.alloc (.cells #[.int .i64 k, .slice po old.length co, .slice pn new.length cn] 24)) (.cells (bytesRow s C) 5 ((bytesRow s C).size, (bytesRow s C).size + 1))
    rw [World.size_alloc] at h
    exact h
  generalize ((w.alloc (.cells #[.int .i64 k, .slice po old.length co, .slice pn new.length cn] 24)).alloc (.cells (bytesRow s C) 5 ((bytesRow s C).size, (bytesRow s C).size + 1))).drew = w1 at hb1 hy1 ⊢
  refine (do_any _ _ k old new (nums s) w1 (HI.out w1 hb1) hy1 (by omega) (by omega) (by rw [nums_len]; omega) (HM.out w1 hb1)).mono ?_
  rintro e w2 ⟨u, rfl, hyr, hb2⟩
  have hst := isY_str hyr
  have hbw2 := hb1.trans (hb2.mono hb1.size)
  have HQ : Hid (doesB k old new s want = (match doI k old new (nums s) with | some l => ((strOfNums l).toList == want.toList) | none => false)) := Lib.hid rfl
  clear hb1 hy1 hb2 D0 hbw hyr
  generalize doI k old new (nums s) = r at hst HQ ⊢
  cases r with
  | none =>
    go_wp2
    go_ret
    exact ⟨by rw [HQ.out]; rfl, hbw2⟩
  | some l =>
    go_wp2
    go_ret
    refine ⟨?_, hbw2⟩
    rw [HQ.out]
    rfl
end Go.Proofs.YtlhbhcfpbhnkeaaGreatDoor

namespace Go.Proofs.YtlhbhcfpbhnkeaaGreatDoor
open Go.RowKit Go.Lib

def cA : BitVec 256 := BitVec.ofNat 256 (2 ^ 256 - 1 - 2 ^ 97)
def cB : BitVec 256 := BitVec.ofNat 256 (2 ^ 97)
set_option maxRecDepth 100000 in
set_option maxHeartbeats 4000000 in
theorem canon_aa : canon (sgS [97, 97]) = [cA, cB] := by kernel_rfl
def rowsA : List (List (Int × Pcs)) := [[(0, [(true, 0)]), (1, [])], [(0, [(false, 97), (true, 0)]), (0, [(false, 98)])]]
theorem rows_aa : rowsR [97, 97] [98] [cA, cB] = rowsA := by kernel_rfl
theorem ends_aa : ((List.range 2).map fun j => ([97, 97] : List Int).take j) = [[], [97]] := by kernel_rfl
theorem okT_aa : OkT [cA, cB] rowsA [true, true] [[], [97]] where
  dfa := by kernel_rfl
  el := rfl
  rl := rfl
  end_ := fun j e h => by
    match j, h with
    | 0, h => simp at h; subst h; simp
    | 1, h => simp at h; subst h; simp
  mv := fun r hr m hm => by
    unfold rowsA at hr
    simp at hr
    rcases hr with rfl | rfl <;> simp at hm <;> rcases hm with rfl | rfl <;> exact ⟨by simp, by simp, by simp [pcOk]⟩
  cl := by simp
  rs := by simp [rowsA]
  rr := fun r hr => by
    unfold rowsA at hr
    simp at hr
    rcases hr with rfl | rfl <;> simp
theorem runT_aa : RunT [cA, cB] rowsA where
  ix_ := fun b hb => by
    have ha : ((List.range 256).all fun b => decide (0 ≤ ix [cA, cB] b) && decide (ix [cA, cB] b < 2)) = true := by kernel_rfl
    have := List.all_eq_true.1 ha b (List.mem_range.2 hb)
    rw [Bool.and_eq_true, decide_eq_true_iff, decide_eq_true_iff] at this
    exact this
  row := fun r hr => by
    unfold rowsA at hr
    simp at hr
    rcases hr with rfl | rfl <;> rfl
  to_ := fun r hr m hm => by
    unfold rowsA at hr ⊢
    simp at hr
    rcases hr with rfl | rfl <;> simp at hm <;> rcases hm with rfl | rfl <;> simp
  by_ := fun r hr m hm => by
    unfold rowsA at hr
    simp at hr
    rcases hr with rfl | rfl <;> simp at hm <;> rcases hm with rfl | rfl <;> simp
theorem out_aa : outS [cA, cB] rowsA [true, true] [[], [97]] 0 [97, 97, 97, 97, 97] = some [98, 98, 97] := by kernel_rfl
end Go.Proofs.YtlhbhcfpbhnkeaaGreatDoor
