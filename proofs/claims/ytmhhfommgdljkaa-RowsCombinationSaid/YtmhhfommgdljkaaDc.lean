/-
  Walk: the law RowsFewerSolutions.
-/
import Derived.Test.YtmhhfommgdljkaaDb
set_option linter.unusedSimpArgs false
set_option linter.unusedVariables false
namespace Go.Proofs.Ytmhhfommgdljkaa
open Go.RowKit Go.Lib

theorem grow_none {ops : Array Oper} {o : Oper} {a : Act} {w : World} {K : Act → World → Prop} {Q : Exit → Act → World → Prop} {E : Prop} (hgd : o.guard = none) (s x : Operand) (t : TypeId)
    (ho : o.op = .call { callee := .builtin .append, args := #[s, x], argTypes := #[t, t] })
    (base : Nat) (e : TypeId) (i : TypeInfo) (size : Nat) (ht : Try.prog.underlying t = some (.slice e)) (hi : Try.prog.info? e = some i)
    (v : Value) (n : Nat) (xs : List Value) (hs : a.eval s = v) (hown : w.ownsRow base e size v n xs) (hx : a.eval x = .slice none 0 0)
    (h : K (a.put o.dst v) w) : if Region.wanted o (yielded ops a.tmps) = true then Oper.wp Try.prog o a w K Q else E := by
  rw [if_pos (by simp [Region.wanted, hgd])]
  have hrun := run_append_owned_none (P := Try.prog) (w := w) base t o.type e i size ht hi v n xs hown
  unfold Oper.wp execOp
  simp only [ho, resolve, invoke, builtin, Sem.run_bind, Sem.run_pure, Result.andThen_ok, List.map_toArray, List.map_cons, List.map_nil, hs, hx, hrun]
  exact h
/-- a system's rows were copied. -/
theorem copy_grown {w4 W w7 : World} {g k : Nat} {v7 : Value} {R : List Rw} {L : List (Value × Rw)} (hb : Below w4.heap.size w4 W) (hg0 : w4.heap.size ≤ g) (hg : W.grownBy w7 (Value.slice (some ⟨g, 0, none⟩) 0 0).ownBlock)
    (hown : w7.ownsRow w4.heap.size 37 2 v7 k ([] ++ rwCells L)) (h1 : L.map (·.2) = R) (h2 : ∀ q ∈ L, IsI w4 q.1 q.2.A) (h3 : L.length = k) : Below w4.heap.size w4 w7 ∧ BrAt w4 w7 v7 R := by
  refine ⟨hb.grown hg hb.size (fun j hj => ?_), L, h1, by rw [h3]; simpa using hown, fun q hq => .inl (h2 q hq)⟩
  simp only [Value.ownBlock, Option.some.injEq] at hj
  omega
/-- a row was appended to a branch in a box. -/
theorem push_grown {w4 wr wm w7 : World} {o : Obj} {L : List (Value × Rw)} {br : List Rw} {q : Rw} {k g : Nat} {vp : Option Addr} {vc : Nat} {v7 x uq : Value}
    (h1 : L.map (·.2) = br) (h2 : L.length = k) (h3 : wr.ownsRow w4.heap.size 37 2 (.slice vp k vc) k (rwCells L)) (h4 : ∀ q ∈ L, RowV w4 wr q.1 q.2.A) (hw : Below w4.heap.size w4 wr) (hb : Below wr.heap.size wr wm) (hq : RowV w4 wm uq q.A)
    (hO : Blk wr g #[x, .slice vp k vc] 25)
    (hown : w7.ownsRow w4.heap.size 37 2 v7 (k + 1) (rwCells L ++ [uq, .int .i64 q.C])) (hg : (wm.alloc o).grownBy w7 (Value.slice vp k vc).ownBlock) :
    BrAt w4 w7 v7 (br ++ [q]) ∧ Blk w7 g #[x, .slice vp k vc] 25 ∧ Below w4.heap.size w4 w7 := by
  have ho4 := own_keep (S := fun _ => True) h3 (KeptTy.below hb) trivial
  have hoa := own_alloc ho4 o
  have hba : Below wm.heap.size wm (wm.alloc o) := (Below.refl _ wm).alloc (Nat.le_refl _) o
  have hb2 := below_two hb hba
  refine ⟨?_, ((hO.grows hb).alloc o).grownBy hg (own_ne hoa ((hO.grows hb).alloc o) (by decide)), (below_two hw hb2).grown hg (by have h1 := hw.size; have h2 := hb2.size; omega) (own_ge hoa)⟩
  rw [← h1]
  exact BrAt.push (w := wm.alloc o) (fun q hq => (h4 q hq).keep (KeptTy.below hb2)) (by rw [h2]; exact hoa) (hq.keep (KeptTy.below hba)) (by rw [h2]; exact hown) hg
theorem BrAt.parts {w0 w : World} {v : Value} {br : List Rw} (h : BrAt w0 w v br) : ∃ (p : Option Addr) (c : Nat) (L : List (Value × Rw)), v = .slice p br.length c ∧ L.map (·.2) = br ∧ L.length = br.length ∧ w.ownsRow w0.heap.size 37 2 (.slice p br.length c) br.length (rwCells L) ∧ ∀ q ∈ L, RowV w0 w q.1 q.2.A := by
  obtain ⟨L, rfl, ho, hp⟩ := h
  obtain ⟨p, c, rfl⟩ := own_shape ho
  exact ⟨p, c, L, by rw [List.length_map], rfl, by rw [List.length_map], by rw [List.length_map]; exact ho, hp⟩
set_option maxRecDepth 100000 in
set_option maxHeartbeats 4000000 in
theorem fewer_walk (v u : Value) (r : Rw) (s : Sy) (w : World) (hs : IsS w v s) (hu : IsI w u r.A) :
    Calls Try.prog 5 #[v, .agg #[u, .int .i64 r.C]] w fun e w' => e = .returned (.bool true) ∧ Below w.heap.size w w' := by
  obtain ⟨up, uc, rfl, huc⟩ := hu.shape
  have HUt := Lib.hid (fun W (hW : Below w.heap.size w W) => hu.grows hW)
  clear hu
  obtain ⟨tp, tc, rp, rc, rfl, htc, hrc, -, -⟩ := hs.shape
  have HS := Lib.hid (fun W (hW : Below w.heap.size w W) => hs.grows hW)
  clear hs
  go_enter Try.func5, Try.ntmps5
  go_upto_region 1 with fail
  have hb1 : Below w.heap.size w ((w.alloc (.cells #[.slice tp s.T.length tc, .slice rp s.R.length rc] 25)).alloc (.cells #[.slice up r.A.length uc, .int .i64 r.C] 37)) := by go_grown
  have B1 := (Blk.new w #[.slice tp s.T.length tc, .slice rp s.R.length rc] 25).alloc (.cells #[.slice up r.A.length uc, .int .i64 r.C] 37)
  have R1 : Blk ((w.alloc (.cells #[.slice tp s.T.length tc, .slice rp s.R.length rc] 25)).alloc (.cells #[.slice up r.A.length uc, .int .i64 r.C] 37)) (w.heap.size + 1) #[.slice up r.A.length uc, .int .i64 r.C] 37 := blk_at (by simp)
  generalize (w.alloc (.cells #[.slice tp s.T.length tc, .slice rp s.R.length rc] 25)).alloc (.cells #[.slice up r.A.length uc, .int .i64 r.C] 37) = w1 at hb1 B1 R1 ⊢
  go_wp2_with fail
  refine (sanity_any w1).mono ?_
  rintro e w2 ⟨rfl, hb2⟩
  have HB2 := Lib.hid (below_two hb1 hb2)
  have c0 := (B1.grows hb2).cell 0 rfl
  have c1 := (B1.grows hb2).cell 1 rfl
  have HR2 := Lib.hid (R1.grows hb2)
  clear hb1 hb2 B1 R1
  go_wp2_with fail
  refine (made_any _ s w2 (HS.out w2 HB2.out)).mono ?_
  rintro e w3 ⟨u, m, rfl, hm, hsm, hb3⟩
  obtain ⟨mp, mc, np, nc, rfl, hmc, hnc, hmT, hmR⟩ := hm.shape
  have HM := Lib.hid hm
  have HSm := Lib.hid hsm
  have HB3 := Lib.hid (below_two HB2.out hb3)
  have HR3 := Lib.hid (HR2.out.grows hb3)
  have HMp := Lib.hid hmR
  clear hm hsm hb3 c0 c1 hmT hmR HR2
  go_upto_region 3 with fail
  have hb4 : Below w3.heap.size w3 (w3.alloc (.cells #[.slice mp m.T.length mc, .slice np m.R.length nc] 25)) := by go_grown
  have B4 := Blk.new w3 #[.slice mp m.T.length mc, .slice np m.R.length nc] 25
  obtain ⟨q, hq⟩ : ∃ q, w3.heap.size = q := ⟨_, rfl⟩
  have HM4 := Lib.hid (HM.out.grows hb4)
  have HB4 := Lib.hid (below_two HB3.out hb4)
  have HR4 := Lib.hid (HR3.out.grows hb4)
  have HMp4 := Lib.hid (HMp.out.grows hb4)
  clear hb4 HM HB3 HR3 HMp
  generalize w3.alloc (.cells #[.slice mp m.T.length mc, .slice np m.R.length nc] 25) = w4 at B4 HM4 HB4 HR4 HMp4 ⊢
  rw [hq] at B4
  simp only [hq]
  clear hq
  have c0 := B4.cell 0 rfl
  have c1 := B4.cell 1 rfl
  have HB := Lib.hid B4
  clear B4
  obtain ⟨ir, hir, hr0, hr1, hr2⟩ := info_parts infoRow
  go_cut [7] (fun s7 wx => ∃ (g : Nat) (vt : Value), s7 = .pointer (some ⟨g, 0, none⟩) ∧ w4.heap.size ≤ g ∧ Blk wx g #[.slice mp m.T.length mc, vt] 25 ∧ BrAt w4 wx vt m.R ∧ Below w4.heap.size w4 wx)
  case first =>
    have hqlt := HB.out.lt
    obtain ⟨np', nc', he, hnc', hnp, -⟩ := HMp4.out.is
    simp only [Value.slice.injEq, true_and] at he
    obtain ⟨rfl, rfl⟩ := he
    have hr6 : m.R.length ≤ 6 := HSm.out.rows
    obtain ⟨L, hL, hLi, hLc⟩ := BrAt.first HMp4.out
    have hLl : L.length = m.R.length := by rw [← hL, List.length_map]
    have HL := Lib.hid (And.intro hL (And.intro hLi (And.intro hLc hLl)))
    clear hL hLi hLc hLl
    have hS : ∀ W, Below w4.heap.size w4 W → W.cell? ⟨q, 0, none⟩ = some (.slice mp m.T.length mc) ∧ W.cell? ⟨q, 1, none⟩ = some (.slice np m.R.length nc) := fun W hW => ⟨(HB.out.grows hW).cell 0 rfl, (HB.out.grows hW).cell 1 rfl⟩
    have HS := Lib.hid hS
    clear hS
    rcases np with _ | ad
    · obtain rfl : nc = 0 := hnp rfl
      have hRl : m.R.length = 0 := by omega
      have HR0 := Lib.hid (List.length_eq_zero_iff.1 hRl)
      rw [hRl] at c1 HS ⊢
      clear hRl hr6 hnc'
      go_region_held3 (fun W => W.cell? ⟨q, 0, none⟩ = some (.slice mp m.T.length mc) ∧ W.cell? ⟨q, 1, none⟩ = some (.slice none 0 0))
        (first | exact HS.out _ (below_drew (Below.refl _ _)) | exact HS.out _ (by go_grown) | fail)
        (first | fail)
      all_goals go_wp2_with fail
      all_goals go_meet
      all_goals rw [HR0.out]
      all_goals first
        | exact ⟨w4.heap.size + 1, _, rfl, by omega, (blk_at (by simp)).drew, ⟨[], rfl, own_of_blk (cs := #[]) (e := 37) ((blk_at rfl).alloc _).drew 0 2 rfl (by decide) (Nat.le_refl _), fun q hq => (by cases hq)⟩, by go_grown⟩
        | exact ⟨w4.heap.size, _, rfl, by omega, ((blk_at rfl).alloc _).drew, ⟨[], rfl, own_of_blk (cs := #[]) (e := 37) (blk_at (by simp)).drew 0 2 rfl (by decide) (by omega), fun q hq => (by cases hq)⟩, by go_grown⟩
        | fail
    · go_region_held3 (fun W => W.cell? ⟨q, 0, none⟩ = some (.slice mp m.T.length mc) ∧ W.cell? ⟨q, 1, none⟩ = some (.slice (some ad) m.R.length nc))
        (first | (with_reducible exact HS.out _ H7.out.1) | (with_reducible exact HS.out _ (H7.out.1.alloc H7.out.1.size _)) | (with_reducible exact HS.out _ ((H7.out.1.setCell (p := ⟨w4.heap.size, 0, none⟩) (Nat.le_refl _) _).setCell (p := ⟨w4.heap.size, 1, none⟩) (Nat.le_refl _) _)) | (with_reducible exact HS.out _ ((H7.out.1.setCell (p := ⟨w4.heap.size + 1, 0, none⟩) (Nat.le_succ _) _).setCell (p := ⟨w4.heap.size + 1, 1, none⟩) (Nat.le_succ _) _)) | exact HS.out _ (below_drew (Below.refl _ _)) | exact HS.out _ (by go_grown) | fail)
        (first
          | ((refine grow_step rfl _ _ 23 rfl rfl w4.heap.size 37 ir (.agg #[.slice none 0 0, .int .i64 0]) 2 32 Try.underlying23 hir hr0 hr1 hr2 rfl (by decide) _ 0 [] rfl (own_of_blk (base := w4.heap.size) (cs := #[]) (e := 37) (by first | exact (blk_at rfl).drew | exact ((blk_at rfl).alloc _).drew | exact (blk_at (by simp)).drew) 0 2 rfl (by decide) (by omega)) ad m.R.length nc (rwCells L) rfl (by rw [rwCells_len, HL.out.2.2.2]) (fun j x hx => by have h := HL.out.2.2.1 ad nc m.R.length rfl j x hx; exact (Below.cell (B := w4.heap.size) (by go_grown) (lt_of_cell h)).trans h) (rwCells_one HL.out.2.1) (by unfold maxLen; omega) (by omega) (by simp; try omega) ?_); intro v7 w7 hown7 hg7; rw [Nat.zero_add] at hown7; (try (have Z7 : Blk w7 (w4.heap.size + 1) #[.slice none 0 0, .slice none 0 0] 25 := Blk.grownBy (blk_at (by simp)).drew hg7 (fun k hk => by have h9 : w4.heap.size = k := Option.some.inj hk; omega); have z0 := Z7.cell 0 rfl; have z1 := Z7.cell 1 rfl; have y0 := Z7.free 0; have y1 := Z7.free 1; have zl := Z7.lt; have HZ7 := Lib.hid Z7; clear Z7)); (try (have Z7 : Blk w7 (w4.heap.size) #[.slice none 0 0, .slice none 0 0] 25 := Blk.grownBy ((blk_at rfl).alloc _).drew hg7 (fun k hk => by have h9 : w4.heap.size + 1 = k := Option.some.inj hk; omega); have z0 := Z7.cell 0 rfl; have z1 := Z7.cell 1 rfl; have y0 := Z7.free 0; have y1 := Z7.free 1; have zl := Z7.lt; have HZ7 := Lib.hid Z7; clear Z7)); have H7 := Lib.hid (copy_grown (by go_grown) (by omega) hg7 hown7 HL.out.1 HL.out.2.1 HL.out.2.2.2); have hs7 := HS.out _ H7.out.1; have s70 := hs7.1; have s71 := hs7.2; have l7 := lt_of_cell s70; clear hs7; obtain ⟨p7, c7, rfl⟩ := own_shape hown7; clear hown7 hg7)
          | fail)
      all_goals go_wp2_with fail
      all_goals go_meet
      all_goals first
        | exact ⟨w7.heap.size, _, rfl, H7.out.1.size, blk_at rfl, H7.out.2.grows ((Below.refl _ w7).alloc (Nat.le_refl _) _), H7.out.1.alloc H7.out.1.size _⟩
        | exact ⟨w4.heap.size + 1, _, rfl, by omega, (HZ7.out.set 0 _).set 1 _, BrAt.keepS H7.out.2 ((KeptTy.set (p := ⟨w4.heap.size + 1, 0, none⟩) HZ7.out KS_sys _).trans (KeptTy.set (p := ⟨w4.heap.size + 1, 1, none⟩) (HZ7.out.set 0 _) KS_sys _)) ((KeptTy.set (p := ⟨w4.heap.size + 1, 0, none⟩) HZ7.out (by decide) _).trans (KeptTy.set (p := ⟨w4.heap.size + 1, 1, none⟩) (HZ7.out.set 0 _) (by decide) _)), (H7.out.1.setCell (p := ⟨w4.heap.size + 1, 0, none⟩) (Nat.le_succ _) _).setCell (p := ⟨w4.heap.size + 1, 1, none⟩) (Nat.le_succ _) _⟩
        | exact ⟨w4.heap.size, _, rfl, by omega, (HZ7.out.set 0 _).set 1 _, BrAt.keepS H7.out.2 ((KeptTy.set (p := ⟨w4.heap.size, 0, none⟩) HZ7.out KS_sys _).trans (KeptTy.set (p := ⟨w4.heap.size, 1, none⟩) (HZ7.out.set 0 _) KS_sys _)) ((KeptTy.set (p := ⟨w4.heap.size, 0, none⟩) HZ7.out (by decide) _).trans (KeptTy.set (p := ⟨w4.heap.size, 1, none⟩) (HZ7.out.set 0 _) (by decide) _)), (H7.out.1.setCell (p := ⟨w4.heap.size, 0, none⟩) (Nat.le_refl _) _).setCell (p := ⟨w4.heap.size, 1, none⟩) (Nat.le_refl _) _⟩
        | fail
  case rest =>
    obtain ⟨g, vt, rfl, hg4, hG, hBr, hbw⟩ := hcut
    have hgq : g ≠ q := by have := HB.out.lt; omega
    have HG := Lib.hid hG
    have HBr := Lib.hid hBr
    have HW := Lib.hid hbw
    obtain ⟨vp, vc, L, rfl, hL⟩ := hBr.parts
    have HL := Lib.hid hL
    obtain ⟨n, hn⟩ : ∃ n, m.T.length = n := ⟨_, rfl⟩
    obtain ⟨k, hk⟩ : ∃ k, m.R.length = k := ⟨_, rfl⟩
    have hn4 : n ≤ 4 := by have := HSm.out.len; omega
    have hk6 : k ≤ 6 := by have := HSm.out.rows; omega
    rw [hk] at HL HG
    rw [hn] at HG
    rw [hn, hk] at HB HM4
    have HNK := Lib.hid (And.intro hn hk)
    clear hG hBr hbw hL c0 c1
    rw [hn] at hmc
    rw [hk] at hnc
    clear hn hk
    have c0 := (HB.out.grows HW.out).cell 0 rfl
    have c1 := (HB.out.grows HW.out).cell 1 rfl
    have g0 := HG.out.cell 0 rfl
    have g1 := HG.out.cell 1 rfl
    have r0 := (HR4.out.grows HW.out).cell 0 rfl
    have r1 := (HR4.out.grows HW.out).cell 1 rfl
    have f1 := HG.out.free 1
    have glt := HG.out.lt
    go_wp2_with fail
    go_cut [] (fun wx => ∃ (vt : Value) (z : Rw), Blk wx g #[.slice mp n mc, vt] 25 ∧ BrAt w4 wx vt (m.R ++ [z]) ∧ z.A.length = n ∧ SmallR z ∧ Below w4.heap.size w4 wx)
    case first =>
      have HUq := Lib.hid ((HUt.out w4 HB4.out).grows HW.out)
      have HWd := Lib.hid (below_drew (Below.refl wc.heap.size wc))
      go_region_law (first
        | ((refine grow_step rfl _ _ 23 rfl rfl w4.heap.size 37 ir (.agg #[.slice none 0 0, .int .i64 0]) 2 32 Try.underlying23 hir hr0 hr1 hr2 rfl (by decide) (.slice vp k vc) k (rwCells L) rfl (own_alloc HO5.out _) ⟨w5.heap.size, 0, none⟩ 1 1 _ rfl rfl (cells_new _ _ _ _ rfl) (one_all rfl) (by unfold maxLen; omega) (by omega) (by simp; omega) ?_); intro v7 w7 hown7 hg7; obtain ⟨p7, c7, rfl⟩ := own_shape hown7; have hF7 := push_grown HL.out.1 HL.out.2.1 HL.out.2.2.1 HL.out.2.2.2 HW.out HB5.out (.inr HQ5.out.1) HG.out hown7 hg7; have y1 := hF7.2.1.cell 1 rfl; have z1 := hF7.2.1.free 1; have l7 := hF7.2.1.lt; have HF7 := Lib.hid hF7; clear hown7 hg7 hF7)
        | (go_simp; go_at_call 16; (refine (madeRow_any (.slice up r.A.length uc) r n _ (HUq.out.grows HWd.out) (by omega)).mono ?_); rintro e w5 ⟨z, ⟨uz, rfl, hz, hbz⟩, hzl, hzs⟩; have hb5 := below_two HWd.out hbz; have HB5 := Lib.hid hb5; have o4 := (HG.out.grows hb5).cell 0 rfl; have o5 := (HG.out.grows hb5).cell 1 rfl; have l4 := (HG.out.grows hb5).lt; have HO5 := Lib.hid (own_keep (S := fun _ => True) HL.out.2.2.1 (KeptTy.below hb5) trivial); have HQ5 := Lib.hid (And.intro (hz.low HW.out.size) (And.intro hzl hzs)); have hws5 := Nat.le_trans HW.out.size hb5.size; obtain ⟨pz, cz, rfl, -⟩ := hz.isI.shape; clear hz hzl hzs hbz hb5)
        | fail)
      all_goals go_wp2_with fail
      all_goals go_meet
      all_goals exact ⟨_, z, HF7.out.2.1.set 1 _, BrAt.keepS HF7.out.1 (KeptTy.set (p := ⟨g, 1, none⟩) HF7.out.2.1 KS_sys _) (KeptTy.set (p := ⟨g, 1, none⟩) HF7.out.2.1 (by decide) _), HQ5.out.2.1, HQ5.out.2.2, HF7.out.2.2.setCell (p := ⟨g, 1, none⟩) hg4 _⟩
    case rest =>
      obtain ⟨vt, z, hG, hBr, hzl, hzs, hbx⟩ := hcut
      have hRs := hBr.isRs hbx
      obtain ⟨vp2, vc2, rfl, -⟩ := hRs.shape
      have hMx := HM4.out.grows hbx
      obtain ⟨tv, nv, he, hTx, hRx⟩ := hMx
      simp only [Value.agg.injEq, Array.mk.injEq, List.cons.injEq, and_true] at he
      obtain ⟨rfl, rfl⟩ := he
      have HT := Lib.hid (show IsS wc (.agg #[.slice mp n mc, .slice vp2 (m.R ++ [z]).length vc2]) ⟨m.T, m.R ++ [z]⟩ from ⟨_, _, rfl, hTx, hRs⟩)
      have hval : validB ⟨m.T, m.R ++ [z]⟩ = true := valid_of HSm.out.pos HSm.out.len HSm.out.top (by have := HSm.out.rows; simp; omega) (fun y hy => by
        rcases List.mem_append.1 hy with h1 | h1
        · exact SmallR.big (HSm.out.row y h1)
        · rw [List.mem_singleton] at h1; subst h1; exact SmallR.big ⟨by rw [HNK.out.1]; exact hzl, hzs⟩)
      have HV := Lib.hid hval
      have HMx := Lib.hid (HM4.out.grows hbx)
      have HBx := Lib.hid (HB.out.grows hbx)
      have HGx := Lib.hid hG
      have HWx := Lib.hid (HB4.out.trans (hbx.mono HB4.out.size))
      obtain ⟨k2, hk2⟩ : ∃ j, (m.R ++ [z]).length = j := ⟨_, rfl⟩
      rw [hk2] at HT HGx
      clear hG hBr hzl hzs hbx hRs hTx hRx hval hk2 c0 c1 g0 g1 r0 r1 f1 glt
      have c0 := HBx.out.cell 0 rfl
      have c1 := HBx.out.cell 1 rfl
      go_wp2_with fail
      refine (solve_any _ m _ HMx.out HSm.out.valid HSm.out.small).mono ?_
      rintro e w6 ⟨hb6, hres6⟩
      have HR6 := Lib.hid hres6
      have HT6 := Lib.hid (HT.out.grows hb6)
      have HG6 := Lib.hid (HGx.out.grows hb6)
      have HW6 := Lib.hid (HWx.out.trans (hb6.mono HWx.out.size))
      have g0 := HG6.out.cell 0 rfl
      have g1 := HG6.out.cell 1 rfl
      clear hres6 hb6 c0 c1
      rcases HR6.out with ⟨x, vx, hL, rfl, hx⟩ | ⟨hN, vq, N0, rfl, -, -⟩
      · obtain ⟨xp, xc, rfl, hxc⟩ := hx.shape
        have HX := Lib.hid hx
        have HLx := Lib.hid hL
        clear hx hL HR6
        go_wp2_with fail
        refine (solve_any _ ⟨m.T, m.R ++ [z]⟩ _ HT6.out HV.out HSm.out.small).mono ?_
        rintro e w7 ⟨hb7, ⟨y, vy, hL, rfl, hy⟩ | ⟨hN, vq, N, rfl, hP, hC⟩⟩
        · obtain ⟨yp, yc, rfl, hyc⟩ := hy.shape
          have HY := Lib.hid hy
          have hcy := cand_iff.1 hL.inb
          have hcx := cand_iff.1 HLx.out.inb
          have hless := HLx.out.least y (cand_iff.2 hcy) (fun q hq => hL.sol q (List.mem_append_left _ hq))
          have HLs := Lib.hid hless
          have HX7 := Lib.hid (HX.out.grows hb7)
          have HW7 := Lib.hid (HW6.out.trans (hb7.mono HW6.out.size))
          have HLn := Lib.hid (show y.length ≤ 4 ∧ x.length ≤ 4 from ⟨by rw [hcy.1]; exact HSm.out.len, by rw [hcx.1]; exact HSm.out.len⟩)
          clear hy hL hb7 hcy hcx hless g0 g1
          go_wp2_with fail
          refine (less_any _ _ y x _ HY.out HX7.out (by have := HLn.out; omega) (by have := HLn.out; omega)).mono ?_
          rintro e w8 ⟨rfl, hb8⟩
          rw [HLs.out]
          have HW8 := Lib.hid (HW7.out.trans (hb8.mono HW7.out.size))
          clear hb8
          go_wp2
          go_ret
          exact ⟨rfl, HW8.out⟩
        · have HP := Lib.hid hP.isP
          have HC := Lib.hid hC
          obtain ⟨pp, pc, rfl, -⟩ := hP.isP.shape
          have HT7 := Lib.hid (HT6.out.grows hb7)
          have HG7 := Lib.hid (HG6.out.grows hb7)
          have HW7 := Lib.hid (HW6.out.trans (hb7.mono HW6.out.size))
          clear hP hC hN hb7 g0 g1
          have g0 := HG7.out.cell 0 rfl
          have g1 := HG7.out.cell 1 rfl
          go_wp2_with fail
          refine (check_any _ _ ⟨m.T, m.R ++ [z]⟩ N _ HT7.out HP.out (by have := check_len HC.out; omega) (mod_of HV.out)).mono ?_
          rintro e w8 ⟨rfl, hb8⟩
          rw [HC.out]
          have HW8 := Lib.hid (HW7.out.trans (hb8.mono HW7.out.size))
          clear hb8 g0 g1
          go_wp2
          go_ret
          exact ⟨rfl, HW8.out⟩
      · have HN0 := Lib.hid hN
        clear hN HR6
        go_wp2_with fail
        refine (solve_any _ ⟨m.T, m.R ++ [z]⟩ _ HT6.out HV.out HSm.out.small).mono ?_
        rintro e w7 ⟨hb7, ⟨y, vy, hL, -, -⟩ | ⟨hN, vq2, N, rfl, hP, hC⟩⟩
        · exact (HN0.out y ((cand_iff (s := m)).2 ((cand_iff (s := ⟨m.T, m.R ++ [z]⟩)).1 hL.inb)) (fun q hq => hL.sol q (List.mem_append_left _ hq))).elim
        · have HP := Lib.hid hP.isP
          have HC := Lib.hid hC
          obtain ⟨pp, pc, rfl, -⟩ := hP.isP.shape
          have HT7 := Lib.hid (HT6.out.grows hb7)
          have HG7 := Lib.hid (HG6.out.grows hb7)
          have HW7 := Lib.hid (HW6.out.trans (hb7.mono HW6.out.size))
          clear hP hC hN hb7 g0 g1
          have g0 := HG7.out.cell 0 rfl
          have g1 := HG7.out.cell 1 rfl
          go_wp2_with fail
          refine (check_any _ _ ⟨m.T, m.R ++ [z]⟩ N _ HT7.out HP.out (by have := check_len HC.out; omega) (mod_of HV.out)).mono ?_
          rintro e w8 ⟨rfl, hb8⟩
          rw [HC.out]
          have HW8 := Lib.hid (HW7.out.trans (hb8.mono HW7.out.size))
          clear hb8 g0 g1
          go_wp2
          go_ret
          exact ⟨rfl, HW8.out⟩
end Go.Proofs.Ytmhhfommgdljkaa
