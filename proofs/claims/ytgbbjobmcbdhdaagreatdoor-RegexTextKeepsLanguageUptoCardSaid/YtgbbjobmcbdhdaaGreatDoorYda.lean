/-
  Texts of the proof, one behind another: Ga, Fj, Fp, Fq.
-/
import Derived.Test.YtgbbjobmcbdhdaaGreatDoorYcf
import Derived.Test.YtgbbjobmcbdhdaaGreatDoorYcg
import Derived.Test.YtgbbjobmcbdhdaaGreatDoorYcj
import Derived.Test.YtgbbjobmcbdhdaaGreatDoorYbi
import Derived.Test.YtgbbjobmcbdhdaaGreatDoorYci
set_option linter.unusedSimpArgs false
set_option linter.unusedVariables false
/-
  Plain: whether a word matches an expression; the document's examples.
-/
namespace Go.Proofs.YtgbbjobmcbdhdaaGreatDoor

/-- the word matches the expression. -/
noncomputable def matchB (xs : List Nd) (b : List Int) : Bool := @decide (validE xs = 0 ∧ sp b (tr xs (xs.length - 1)) 0 b.length) (Classical.propDecidable _)
theorem matchB_true {xs : List Nd} {b : List Int} : matchB xs b = true ↔ validE xs = 0 ∧ sp b (tr xs (xs.length - 1)) 0 b.length := by
  unfold matchB
  exact @decide_eq_true_iff _ (Classical.propDecidable _)
theorem matchB_false {xs : List Nd} {b : List Int} (h : ¬ sp b (tr xs (xs.length - 1)) 0 b.length) : matchB xs b = false := by
  cases hm : matchB xs b
  · rfl
  · exact absurd (matchB_true.1 hm).2 h
def nCls (y : Nat) : Nd := ⟨3, bit y, 0, 0, 0, 0⟩
def exGroup : List Nd := [nCls 97, nCls 98, nCls 99, ⟨5, 0, 1, 2, 0, 0⟩, ⟨8, 0, 3, 0, 0, -1⟩, ⟨4, 0, 0, 4, 0, 0⟩]
def exBoth : List Nd := [nCls 97, ⟨8, 0, 0, 0, 0, -1⟩, ⟨7, 0, 1, 0, 0, 0⟩, ⟨3, BitVec.allOnes 256, 0, 0, 0, 0⟩, ⟨8, 0, 3, 0, 2, 2⟩, ⟨6, 0, 2, 4, 0, 0⟩]
def exStar : List Nd := [nCls 97, nCls 98, ⟨8, 0, 1, 0, 0, -1⟩, ⟨5, 0, 0, 2, 0, 0⟩]
theorem ex_group : parseS [97, 40, 98, 124, 99, 41, 42] 60 = some (.ok exGroup) := by kernel_rfl
theorem ex_both : parseS [126, 97, 42, 38, 46, 123, 50, 44, 50, 125] 60 = some (.ok exBoth) := by kernel_rfl
theorem ex_star : parseS [97, 124, 98, 42] 60 = some (.ok exStar) := by kernel_rfl
theorem ex_bar : parseS [97, 124, 124, 98] 60 = some (.error (2, 20)) := by kernel_rfl
theorem ex_open : parseS [40, 97] 60 = some (.error (2, 21)) := by kernel_rfl
theorem ex_bounds : parseS [97, 123, 51, 44, 50, 125] 60 = some (.error (4, 20)) := by kernel_rfl
theorem ex_big : parseS [97, 123, 49, 55, 44, 125] 60 = some (.error (2, 2)) := by kernel_rfl
theorem ex_ranges : parseS [91, 94, 92, 120, 48, 48, 45, 92, 120, 54, 48, 92, 120, 54, 50, 45, 92, 120, 102, 102, 93] 60 = some (.ok [nCls 97]) := by kernel_rfl
theorem tr_group : tr exGroup 5 = .cat (.cls (bit 97)) (.rep (.alt (.cls (bit 98)) (.cls (bit 99))) 0 none) := by kernel_rfl
theorem tr_both : tr exBoth 5 = .and (.not (.rep (.cls (bit 97)) 0 none)) (.rep (.cls (BitVec.allOnes 256)) 2 (some 2)) := by kernel_rfl
theorem sp_rep {b : List Int} {t : Rx} {lo : Nat} {hi : Option Nat} {i j : Nat} (k : Nat) (h0 : i ≤ b.length) (h1 : lo ≤ k) (h2 : ∀ h, hi = some h → k ≤ h) (hp : pow (sp b t) k i j) : sp b (.rep t lo hi) i j := ⟨h0, k, h1, h2, hp⟩
theorem match_abcb : matchB exGroup [97, 98, 99, 98] = true := by
  refine matchB_true.2 ⟨by kernel_rfl, ?_⟩
  rw [show exGroup.length - 1 = 5 from rfl, tr_group]
  refine ⟨1, ⟨rfl, 97, rfl, by kernel_rfl⟩, sp_rep 3 (by decide) (by omega) (fun h e => by cases e) ⟨2, .inl ⟨rfl, 98, rfl, by kernel_rfl⟩, 3, .inr ⟨rfl, 99, rfl, by kernel_rfl⟩, 4, .inl ⟨rfl, 98, rfl, by kernel_rfl⟩, rfl⟩⟩
theorem match_ba : matchB exGroup [98, 97] = false := by
  refine matchB_false ?_
  rw [show exGroup.length - 1 = 5 from rfl, tr_group]
  rintro ⟨m, ⟨_, y, hy, hm⟩, _⟩
  obtain rfl : 98 = y := by simpa using hy
  exact absurd hm (by decide +kernel)
theorem match_ab : matchB exBoth [97, 98] = true := by
  refine matchB_true.2 ⟨by kernel_rfl, ?_⟩
  rw [show exBoth.length - 1 = 5 from rfl, tr_both]
  refine ⟨⟨by decide, by decide, ?_⟩, by decide, 2, by omega, fun h e => by cases e; omega, 1, ⟨rfl, 97, rfl, by kernel_rfl⟩, 2, ⟨rfl, 98, rfl, by kernel_rfl⟩, rfl⟩
  rintro ⟨_, k, _, _, hp⟩
  rcases k with _ | _ | k
  · cases hp
  · obtain ⟨m, ⟨rfl, _⟩, h⟩ := hp
    cases h
  · obtain ⟨m, ⟨rfl, _⟩, m', ⟨_, y, hy, hm⟩, _⟩ := hp
    obtain rfl : 98 = y := by simpa using hy
    exact absurd hm (by decide +kernel)
theorem match_aa : matchB exBoth [97, 97] = false := by
  refine matchB_false ?_
  rw [show exBoth.length - 1 = 5 from rfl, tr_both]
  rintro ⟨⟨_, _, h⟩, _⟩
  exact h (sp_rep 2 (by decide) (by omega) (fun h e => by cases e) ⟨1, ⟨rfl, 97, rfl, by kernel_rfl⟩, 2, ⟨rfl, 97, rfl, by kernel_rfl⟩, rfl⟩)
end Go.Proofs.YtgbbjobmcbdhdaaGreatDoor

/-
  Walks: Format, where the text is known; Format of what is not valid; the examples' texts.
-/
namespace Go.Proofs.YtgbbjobmcbdhdaaGreatDoor
open Go.RowKit Go.Shelf Go.Lib

set_option maxRecDepth 100000 in
set_option maxHeartbeats 1000000 in
theorem format_bad (v : Value) (xs : List Nd) (W : World) (hv : IsX W v xs) (hm : xs.length ≤ maxLen) (h0 : validE xs ≠ 0) :
    Calls Tryz.prog 15 #[v] W fun e W' => e = .returned (.tuple #[.string ⟨#[]⟩, .int .i64 (validE xs)]) ∧ Below W.heap.size W W' := by
  have HV := Lib.hid (valid_any v xs W hv hm)
  have hv0 : (validE xs != 0) = true := by simp [h0]
  obtain ⟨p, c, rfl⟩ := hv.shape
  clear hv
  go_enter Tryz.func15, Tryz.ntmps15
  go_wp2_with (go_at_call 17; refine HV.out.mono ?_; rintro e W1 ⟨rfl, hb1⟩)
  go_returns
  exact ⟨rfl, hb1⟩
set_option maxRecDepth 100000 in
set_option maxHeartbeats 1000000 in
theorem format_ok (v : Value) (xs : List Nd) (W : World) (hv : IsX W v xs) (h0 : validE xs = 0) (T : ByteArray) (hTs : T.size ≤ 4000) (hC : TextC xs (xs.length - 1) T)
    (hT : TabAt 0 Lib.deBruijn64tab W) (hg : 0 < W.heap.size) :
    Calls Tryz.prog 15 #[v] W fun e W' => e = .returned (.tuple #[.string T, .int .i64 0]) ∧ Below W.heap.size W W' := by
  have hlx := (okX_of h0).len
  have hne : xs.length ≠ 0 := by
    intro h
    unfold validE at h0
    rw [if_neg (by omega), if_pos h] at h0
    cases h0
  have HV := Lib.hid (valid_any v xs W hv (by unfold maxLen; omega))
  rw [h0] at HV
  have hwl : IntKind.i64.wrap ((xs.length : Int) - 1) = ((xs.length - 1 : Nat) : Int) := by rw [IntWalk.i64_in _ (by omega)]; omega
  have tb : decide ((4000 : Int) < (T.size : Int)) = false := by simp; omega
  have HC := Lib.hid (fun w (hb : Below W.heap.size W w) => hC v w (hv.grows hb) (tab_below hT hb hg) (by have := hb.size; omega))
  obtain ⟨p, c, rfl⟩ := hv.shape
  clear hv hT hC
  go_enter Tryz.func15, Tryz.ntmps15
  go_wp2_with (first | (go_at_call 17; refine HV.out.mono ?_; rintro e W1 ⟨rfl, hb1⟩) | (go_at_call 34; refine (HC.out _ hb1).mono ?_; rintro e W2 ⟨rfl, hb2⟩))
  go_returns
  exact ⟨rfl, hb1.trans (hb2.mono hb1.size)⟩
def exForm : List Nd := [nCls 45, ⟨7, 0, 0, 0, 0, 0⟩, ⟨8, 0, 1, 0, 0, -1⟩]
def exEmpty : List Nd := [⟨3, 0, 0, 0, 0, 0⟩]
theorem exForm_ok : validE exForm = 0 := by kernel_rfl
theorem exEmpty_ok : validE exEmpty = 0 := by kernel_rfl
theorem mems_dash : mems (bit 45) 256 = [45] := by kernel_rfl
theorem mems_none : mems 0 256 = [] := by kernel_rfl
theorem form_text : TextC exForm 2 ⟨#[40, 126, 92, 120, 50, 100, 41, 42]⟩ := by
  have hX := okX_of exForm_ok
  have h0 : TextC exForm 0 ⟨#[92, 120, 50, 100]⟩ := text_cls exForm 0 (nCls 45) rfl rfl _ fun W hT hg => class_one _ 45 _ mems_dash char_dash W hT hg
  have h1 : TextC exForm 1 (⟨#[126]⟩ ++ opndT [4, 5, 6] 3 ⟨#[92, 120, 50, 100]⟩) := text_not exForm hX 1 ⟨7, 0, 0, 0, 0, 0⟩ rfl rfl (nCls 45) rfl _ (by decide) h0
  have h2 : TextC exForm 2 (opndT [4, 5, 6, 7] 7 (⟨#[126]⟩ ++ opndT [4, 5, 6] 3 ⟨#[92, 120, 50, 100]⟩) ++ ⟨#[42]⟩) := text_rep exForm hX 2 ⟨8, 0, 1, 0, 0, -1⟩ rfl rfl ⟨#[42]⟩ (by decide) rep_star ⟨7, 0, 0, 0, 0, 0⟩ rfl _ (by decide +kernel) h1
  exact (show opndT [4, 5, 6, 7] 7 (⟨#[126]⟩ ++ opndT [4, 5, 6] 3 ⟨#[92, 120, 50, 100]⟩) ++ ⟨#[42]⟩ = (⟨#[40, 126, 92, 120, 50, 100, 41, 42]⟩ : ByteArray) by kernel_rfl) ▸ h2
theorem empty_text : TextC exEmpty 0 ⟨#[91, 93]⟩ := text_cls exEmpty 0 ⟨3, 0, 0, 0, 0, 0⟩ rfl rfl _ fun W hT hg => class_none _ mems_none W hT hg
end Go.Proofs.YtgbbjobmcbdhdaaGreatDoor

/-
  Walks: the canonical text of any tree that stands in postorder; Format of it.
-/
namespace Go.Proofs.YtgbbjobmcbdhdaaGreatDoor
open Go.RowKit Go.Shelf Go.Lib

/-- the kind of a tree's root. -/
def kindT : Rx → Int
  | .none => 1
  | .empty => 2
  | .cls _ => 3
  | .cat _ _ => 4
  | .alt _ _ => 5
  | .and _ _ => 6
  | .not _ => 7
  | .rep _ _ _ => 8
theorem root_kind {xs : List Nd} : ∀ (t : Rx) (o : Nat), Holds xs o t → ∃ m, xs[o + t.size - 1]? = some m ∧ m.k = kindT t
  | .none, o, h => ⟨_, h 0 _ rfl, rfl⟩
  | .empty, o, h => ⟨_, h 0 _ rfl, rfl⟩
  | .cls c, o, h => ⟨_, h 0 _ rfl, rfl⟩
  | .cat l r, o, h => by
    have h1 := h (l.size + r.size) _ (last_two (by rw [flatT_len, flatT_len]))
    rw [show o + (l.size + r.size) = o + (Rx.cat l r).size - 1 by simp only [Rx.size]; omega] at h1
    exact ⟨_, h1, rfl⟩
  | .alt l r, o, h => by
    have h1 := h (l.size + r.size) _ (last_two (by rw [flatT_len, flatT_len]))
    rw [show o + (l.size + r.size) = o + (Rx.alt l r).size - 1 by simp only [Rx.size]; omega] at h1
    exact ⟨_, h1, rfl⟩
  | .and l r, o, h => by
    have h1 := h (l.size + r.size) _ (last_two (by rw [flatT_len, flatT_len]))
    rw [show o + (l.size + r.size) = o + (Rx.and l r).size - 1 by simp only [Rx.size]; omega] at h1
    exact ⟨_, h1, rfl⟩
  | .not l, o, h => by
    have h1 := h l.size _ (last_one (flatT_len _ _))
    rw [show o + l.size = o + (Rx.not l).size - 1 by simp only [Rx.size]; omega] at h1
    exact ⟨_, h1, rfl⟩
  | .rep l lo hi, o, h => by
    have h1 := h l.size _ (last_one (flatT_len _ _))
    rw [show o + l.size = o + (Rx.rep l lo hi).size - 1 by simp only [Rx.size]; omega] at h1
    exact ⟨_, h1, rfl⟩
theorem par_yes (T : List UInt8) : (⟨#[40]⟩ : ByteArray) ++ bs T ++ ⟨#[41]⟩ = bs (parB true T) := by
  rw [show (⟨#[40]⟩ : ByteArray) = bs [40] from rfl, show (⟨#[41]⟩ : ByteArray) = bs [41] from rfl, bs_app, bs_app]
  simp [parB]
theorem opnd_is {ks : List Int} {k : Int} {b : Bool} (h : ks.contains k = b) (T : List UInt8) : opndT ks k (bs T) = bs (parB b T) := by
  unfold opndT
  rw [h]
  cases b
  · rfl
  · exact par_yes T
theorem k_none (t : Rx) (T : List UInt8) : opndT [] (kindT t) (bs T) = bs T := rfl
theorem k_5 (t : Rx) (T : List UInt8) : opndT [5] (kindT t) (bs T) = bs (parB t.isAlt T) := opnd_is (by cases t <;> rfl) T
theorem k_56 (t : Rx) (T : List UInt8) : opndT [5, 6] (kindT t) (bs T) = bs (parB (t.isAlt || t.isAnd) T) := opnd_is (by cases t <;> rfl) T
theorem k_456 (t : Rx) (T : List UInt8) : opndT [4, 5, 6] (kindT t) (bs T) = bs (parB (t.isCat || t.isAlt || t.isAnd) T) := opnd_is (by cases t <;> rfl) T
theorem k_4567 (t : Rx) (T : List UInt8) : opndT [4, 5, 6, 7] (kindT t) (bs T) = bs (parB (t.isCat || t.isAlt || t.isAnd || t.isNot) T) := opnd_is (by cases t <;> rfl) T
theorem fmt_size {t : Rx} (h : t.size ≤ 200) : (bs (fmtT t)).size ≤ 1099511627776 := by
  rw [bs_size]
  have := fmt_len t
  omega
theorem text_flat {xs : List Nd} (hX : OkX xs) : ∀ (t : Rx) (o : Nat), OkT t → t.size ≤ 200 → Holds xs o t → TextC xs (o + t.size - 1) (bs (fmtT t))
  | .none, o, _, _, h => text_none xs o _ (h 0 _ rfl) rfl
  | .empty, o, _, _, h => text_empty xs o _ (h 0 _ rfl) rfl
  | .cls c, o, _, _, h => text_cls xs o _ (h 0 _ rfl) rfl _ fun W hT hg => cltext_any c W hT hg
  | .cat l r, o, hok, hs, h => by
    have hl := size_pos l
    have hr := size_pos r
    simp only [Rx.size] at hs
    have hi := h (l.size + r.size) _ (last_two (by rw [flatT_len, flatT_len]))
    have hL := Holds.left h rfl
    have hR := Holds.right h (flatT_len _ _) rfl
    obtain ⟨m1, e1, k1⟩ := root_kind l o hL
    obtain ⟨m2, e2, k2⟩ := root_kind r (o + l.size) hR
    have t1 := text_flat hX l o hok.1 (by omega) hL
    have t2 := text_flat hX r (o + l.size) hok.2 (by omega) hR
    have h2 := text_two4 xs hX _ _ hi rfl m1 m2 (by rw [Int.toNat_natCast]; exact e1) (by rw [Int.toNat_natCast]; exact e2) _ _ (fmt_size (t := l) (by omega)) (fmt_size (t := r) (by omega)) (by rw [Int.toNat_natCast]; exact t1) (by rw [Int.toNat_natCast]; exact t2)
    rw [k1, k2, k_56, k_456, bs_app] at h2
    rw [show o + (Rx.cat l r).size - 1 = o + (l.size + r.size) by simp only [Rx.size]; omega]
    exact h2
  | .alt l r, o, hok, hs, h => by
    have hl := size_pos l
    have hr := size_pos r
    simp only [Rx.size] at hs
    have hi := h (l.size + r.size) _ (last_two (by rw [flatT_len, flatT_len]))
    have hL := Holds.left h rfl
    have hR := Holds.right h (flatT_len _ _) rfl
    obtain ⟨m1, e1, k1⟩ := root_kind l o hL
    obtain ⟨m2, e2, k2⟩ := root_kind r (o + l.size) hR
    have t1 := text_flat hX l o hok.1 (by omega) hL
    have t2 := text_flat hX r (o + l.size) hok.2 (by omega) hR
    have h2 := text_two5 xs hX _ _ hi rfl m1 m2 (by rw [Int.toNat_natCast]; exact e1) (by rw [Int.toNat_natCast]; exact e2) _ _ (fmt_size (t := l) (by omega)) (fmt_size (t := r) (by omega)) (by rw [Int.toNat_natCast]; exact t1) (by rw [Int.toNat_natCast]; exact t2)
    rw [k1, k2, k_none, k_5, show (⟨#[124]⟩ : ByteArray) = bs [124] from rfl, bs_app, bs_app] at h2
    rw [show o + (Rx.alt l r).size - 1 = o + (l.size + r.size) by simp only [Rx.size]; omega]
    have e : fmtT l ++ [124] ++ parB r.isAlt (fmtT r) = fmtT (.alt l r) := by simp [fmtT]
    rw [e] at h2
    exact h2
  | .and l r, o, hok, hs, h => by
    have hl := size_pos l
    have hr := size_pos r
    simp only [Rx.size] at hs
    have hi := h (l.size + r.size) _ (last_two (by rw [flatT_len, flatT_len]))
    have hL := Holds.left h rfl
    have hR := Holds.right h (flatT_len _ _) rfl
    obtain ⟨m1, e1, k1⟩ := root_kind l o hL
    obtain ⟨m2, e2, k2⟩ := root_kind r (o + l.size) hR
    have t1 := text_flat hX l o hok.1 (by omega) hL
    have t2 := text_flat hX r (o + l.size) hok.2 (by omega) hR
    have h2 := text_two6 xs hX _ _ hi rfl m1 m2 (by rw [Int.toNat_natCast]; exact e1) (by rw [Int.toNat_natCast]; exact e2) _ _ (fmt_size (t := l) (by omega)) (fmt_size (t := r) (by omega)) (by rw [Int.toNat_natCast]; exact t1) (by rw [Int.toNat_natCast]; exact t2)
    rw [k1, k2, k_5, k_56, show (⟨#[38]⟩ : ByteArray) = bs [38] from rfl, bs_app, bs_app] at h2
    rw [show o + (Rx.and l r).size - 1 = o + (l.size + r.size) by simp only [Rx.size]; omega]
    have e : parB l.isAlt (fmtT l) ++ [38] ++ parB (r.isAlt || r.isAnd) (fmtT r) = fmtT (.and l r) := by simp [fmtT]
    rw [e] at h2
    exact h2
  | .not l, o, hok, hs, h => by
    have hl := size_pos l
    simp only [Rx.size] at hs
    have hi := h l.size _ (last_one (flatT_len _ _))
    have hL := Holds.left h rfl
    obtain ⟨m1, e1, k1⟩ := root_kind l o hL
    have t1 := text_flat hX l o hok (by omega) hL
    have h2 := text_not xs hX _ _ hi rfl m1 (by rw [Int.toNat_natCast]; exact e1) _ (fmt_size (t := l) (by omega)) (by rw [Int.toNat_natCast]; exact t1)
    rw [k1, k_456, show (⟨#[126]⟩ : ByteArray) = bs [126] from rfl, bs_app] at h2
    rw [show o + (Rx.not l).size - 1 = o + l.size by simp only [Rx.size]; omega]
    exact h2
  | .rep l lo hi, o, hok, hs, h => by
    have hl := size_pos l
    simp only [Rx.size] at hs
    have hi2 := h l.size _ (last_one (flatT_len _ _))
    have hL := Holds.left h rfl
    obtain ⟨m1, e1, k1⟩ := root_kind l o hL
    have t1 := text_flat hX l o hok.1 (by omega) hL
    have h2 := text_rep xs hX _ _ hi2 rfl (bs (repT lo hi)) (by rw [bs_size]; have := (repT_len lo hi).2; omega) (fun w => reptext_any lo hi hok.2.1 hok.2.2 w) m1 (by rw [Int.toNat_natCast]; exact e1) _ (fmt_size (t := l) (by omega)) (by rw [Int.toNat_natCast]; exact t1)
    rw [k1, k_4567, bs_app] at h2
    rw [show o + (Rx.rep l lo hi).size - 1 = o + l.size by simp only [Rx.size]; omega]
    exact h2
end Go.Proofs.YtgbbjobmcbdhdaaGreatDoor

/-
  Walks: Format of any tree that stands in postorder.
-/
namespace Go.Proofs.YtgbbjobmcbdhdaaGreatDoor
open Go.RowKit Go.Shelf Go.Lib

theorem L_bs (l : List UInt8) : L (bs l) = l := by
  simp [bs, L]
set_option maxRecDepth 100000 in
set_option maxHeartbeats 1000000 in
theorem format_big (v : Value) (xs : List Nd) (W : World) (hv : IsX W v xs) (h0 : validE xs = 0) (T : ByteArray) (hTs : 4000 < T.size) (hC : TextC xs (xs.length - 1) T)
    (hT : TabAt 0 Lib.deBruijn64tab W) (hg : 0 < W.heap.size) :
    Calls Tryz.prog 15 #[v] W fun e W' => e = .returned (.tuple #[.string ⟨#[]⟩, .int .i64 2]) ∧ Below W.heap.size W W' := by
  have hlx := (okX_of h0).len
  have hne : xs.length ≠ 0 := by
    intro h
    unfold validE at h0
    rw [if_neg (by omega), if_pos h] at h0
    cases h0
  have HV := Lib.hid (valid_any v xs W hv (by unfold maxLen; omega))
  rw [h0] at HV
  have hwl : IntKind.i64.wrap ((xs.length : Int) - 1) = ((xs.length - 1 : Nat) : Int) := by rw [IntWalk.i64_in _ (by omega)]; omega
  have tb : decide ((4000 : Int) < (T.size : Int)) = true := by simp; omega
  have HC := Lib.hid (fun w (hb : Below W.heap.size W w) => hC v w (hv.grows hb) (tab_below hT hb hg) (by have := hb.size; omega))
  obtain ⟨p, c, rfl⟩ := hv.shape
  clear hv hT hC
  go_enter Tryz.func15, Tryz.ntmps15
  go_wp2_with (first | (go_at_call 17; refine HV.out.mono ?_; rintro e W1 ⟨rfl, hb1⟩) | (go_at_call 34; refine (HC.out _ hb1).mono ?_; rintro e W2 ⟨rfl, hb2⟩))
  go_returns
  exact ⟨rfl, hb1.trans (hb2.mono hb1.size)⟩
theorem flat_last (t : Rx) (o : Nat) : 0 + t.size - 1 = (flat t o).length - 1 := by rw [flatT_len]; omega
/-- Format of a tree in postorder. -/
theorem format_any (t : Rx) (hok : OkT t) (hs : t.size ≤ 200) (v : Value) (W : World) (hv : IsX W v (flat t 0))
    (hT : TabAt 0 Lib.deBruijn64tab W) (hg : 0 < W.heap.size) :
    Calls Tryz.prog 15 #[v] W fun e W' => e = .returned (.tuple (if (fmtT t).length ≤ 4000 then #[.string (bs (fmtT t)), .int .i64 0] else #[.string ⟨#[]⟩, .int .i64 2])) ∧ Below W.heap.size W W' := by
  have h0 := flat_valid hok hs
  have hC := text_flat (okX_of h0) t 0 hok hs (holds_self t)
  rw [flat_last t 0] at hC
  split
  · exact format_ok v (flat t 0) W hv h0 (bs (fmtT t)) (by rw [bs_size]; assumption) hC hT hg
  · exact format_big v (flat t 0) W hv h0 (bs (fmtT t)) (by rw [bs_size]; omega) hC hT hg
end Go.Proofs.YtgbbjobmcbdhdaaGreatDoor
