/-
  Texts of the proof, one behind another: Mg.
-/
import Derived.Test.YtgbbjobmcbdhdaaGreatDoorYcb
import Derived.Laws.BytesArg
import Derived.Laws.IdiomStrings
import Derived.Lib.SlBytesConst
set_option linter.unusedSimpArgs false
set_option linter.unusedVariables false
/-
  Walks: a set's key: its text; different sets have different ones.
-/
namespace Go.Proofs.YtgbbjobmcbdhdaaGreatDoor
open Go.RowKit Go.Shelf
open Go.Sort hiding Below

def keyS (l : List (Nat × Nat)) : List UInt8 := l.flatMap fun s => Lib.itoa (s.1 : Int) ++ [32] ++ (Lib.itoa (s.2 : Int) ++ [32])
theorem keyS_take (l : List (Nat × Nat)) (k : Nat) (s : Nat × Nat) (h : l[k]? = some s) : keyS (l.take (k + 1)) = keyS (l.take k) ++ (Lib.itoa (s.1 : Int) ++ [32] ++ (Lib.itoa (s.2 : Int) ++ [32])) := by
  unfold keyS; rw [List.take_add_one, h, List.flatMap_append]; simp
theorem digits_len : ∀ (n u : Nat), u < 10 ^ n → 0 < n → (Lib.decDigits u).length ≤ n
  | 0, _, _, h => by omega
  | n + 1, u, h, _ => by
    rw [Lib.decDigits]
    split
    · simp
    · rename_i h10
      have hn : 0 < n := by
        rcases Nat.eq_zero_or_pos n with rfl | hn
        · simp at h; omega
        · exact hn
      have := digits_len n (u / 10) (by rw [Nat.pow_succ] at h; omega) hn
      rw [List.length_append]; simp; omega
theorem itoa_len (n : Nat) (h : n < 10000000000000000000) : (Lib.itoa (n : Int)).length ≤ 19 := by
  unfold Lib.itoa
  rw [if_neg (by omega)]
  exact digits_len 19 _ (by simpa using h) (by omega)
theorem keyS_len : ∀ (l : List (Nat × Nat)), (∀ s ∈ l, s.1 < 10000000000000000000 ∧ s.2 < 10000000000000000000) → (keyS l).length ≤ 40 * l.length
  | [], _ => by simp [keyS]
  | s :: l, h => by
    have ih := keyS_len l (fun u hu => h u (by simp [hu]))
    have h1 := itoa_len s.1 (h s (by simp)).1
    have h2 := itoa_len s.2 (h s (by simp)).2
    unfold keyS at ih ⊢
    rw [List.flatMap_cons, List.length_append]
    simp only [List.length_append, List.length_cons, List.length_nil]
    omega
theorem infoB : (Tryz.prog.info? 5).map (fun i => (i.zero, i.size, i.bytes)) = some (some (.int .u8 0), 1, 1) := by kernel_rfl
theorem byteCells_one (l : List UInt8) (u : UInt8) : Lib.byteCells l ++ [.int .u8 (u.toNat : Int)] = Lib.byteCells (l ++ [u]) := by rw [Lib.byteCells_append]; rfl

theorem own_box {w : World} {base b : Nat} {e t : TypeId} {size : Nat} {v : Value} {n : Nat} {xs : List Value} {vs : Array Value} (h : w.ownsRow base e size v n xs) (hb : Blk w b vs t) (ht : t ≠ e) : ∀ k, v.ownBlock = some k → k ≠ b := by
  intro k hk e2
  subst e2
  obtain ⟨cur, m, hc⟩ := own_isN h k hk
  rw [hb.is] at hc
  simp only [Option.some.injEq, Obj.cells.injEq] at hc
  exact ht hc.2.1
theorem own_text {w : World} {base : Nat} {v : Value} {K : List UInt8} (h : w.ownsRow base 5 1 v K.length (Lib.byteCells K)) : ∀ dst, Tryz.prog.underlying dst = some .string → (convert 24 dst v).run Tryz.prog w = .ok (.string ⟨K.toArray⟩) w := by
  intro dst hd
  rcases h.2 with ⟨rfl, h0⟩ | ⟨g, cap, cur, rfl, hg, hh, hcap, hm, hsz, htk⟩
  · have hK : K = [] := List.length_eq_zero_iff.1 h0
    subst hK
    exact run_convert_bytes_nil w 24 5 Tryz.underlying24 Tryz.underlying5 0 0 dst hd
  · refine run_convert_bytes_back w 24 dst 5 ⟨g, 0, none⟩ cap K Tryz.underlying24 Tryz.underlying5 hd fun j hj => ?_
    have hb : Blk w g cur 5 := ⟨hh⟩
    have hadd : (⟨g, 0, none⟩ : Addr).add j = ⟨g, j, none⟩ := by unfold Addr.add; split <;> simp_all
    rw [hadd]
    refine hb.cell j ?_
    have h2 := congrArg (fun q => q[j]?) htk
    simp only [Nat.mul_one] at h2
    rw [List.getElem?_take_of_lt hj] at h2
    rw [← Array.getElem?_toList, h2]
    simp [Lib.byteCells, hj]
set_option maxRecDepth 100000 in
set_option maxHeartbeats 2000000 in
theorem key_any (v : Value) (l : List (Nat × Nat)) (W : World) (hv : IsS W v l) (hl : l.length ≤ 1099511627776) (hls : ∀ s ∈ l, s.1 ≤ 4611686018427387904 ∧ s.2 ≤ 4611686018427387904) (htab : Lib.TabBelow Tryz.prog W.heap.size W "internal/strconv.uint64pow10" .u64 Lib.pow10Tab) :
    Calls Tryz.prog 88 #[v] W fun e W' => e = .returned (.string ⟨(keyS l).toArray⟩) ∧ Below W.heap.size W W' := by
  obtain ⟨j0, hj, hy0, hy1, hy2⟩ := info_parts infoB
  obtain ⟨sp, sc, rfl⟩ := hv.shape
  have HV := Lib.hid (fun k s (hk : l[k]? = some s) => hv.at hk)
  have HL := Lib.hid hls
  have HTab := Lib.hid htab
  have HT := Lib.hid (keyS_take l)
  have HLen := Lib.hid (fun k => keyS_len (l.take k) (fun s hs => by have := hls s (List.mem_of_mem_take hs); omega))
  clear hv hls htab
  go_enter Tryz.func88, Tryz.ntmps88
  go_wp2
  go_loopw [3, 8] (fun v i wr => ∃ k : Nat, k ≤ l.length ∧ i = .int .i64 k ∧ wr.ownsRow W.heap.size 5 1 v (keyS (l.take k)).length (Lib.byteCells (keyS (l.take k))) ∧ Below W.heap.size W wr) (fun _ i _ => l.length - (intOf i).toNat)
  case atStart => exact ⟨0, Nat.zero_le _, rfl, World.ownsRow_nil _ _ _ _, Below.refl _ _⟩
  case round =>
    obtain ⟨k, hk, rfl, hown, hbw⟩ := hrel
    by_cases hlt : k < l.length
    · obtain ⟨s, hs⟩ : ∃ s, l[k]? = some s := ⟨_, List.getElem?_eq_getElem hlt⟩
      obtain ⟨blk, off, rfl, a0, a1⟩ := HV.out k s hs
      have a0 := (hbw.cell (lt_of_cell a0)).trans a0
      have a1 := (hbw.cell (lt_of_cell a1)).trans a1
      have hsb := HL.out s (List.mem_of_getElem? hs)
      obtain ⟨hs1, hs2⟩ := hsb
      have HK := Lib.hid (HT.out k s hs)
      have hln := HLen.out k
      rw [List.length_take] at hln
      have HO := Lib.hid hown
      have HB := Lib.hid hbw
      have hsz := hbw.size
      have hi1 := itoa_len s.1 (by omega)
      have hi2 := itoa_len s.2 (by omega)
      clear hs hown hbw
      generalize keyS (l.take k) = K at HK HO hln
      have hal : Below W.heap.size W (wr.alloc (.cells #[.int .i64 (s.1 : Int), .int .i64 (s.2 : Int)] 66)) := HB.out.alloc hsz _
      have HAL := Lib.hid hal
      clear hal
      have hbx0 := Blk.new wr #[.int .i64 (s.1 : Int), .int .i64 (s.2 : Int)] 66
      have HA1 := Lib.hid (Tryz.strconv_AppendInt_10 W.heap.size K.length (s.1 : Int) (by omega) (by omega) _ (Lib.byteCells K) (wr.alloc (.cells #[.int .i64 (s.1 : Int), .int .i64 (s.2 : Int)] 66)) (own_alloc HO.out _) (by simp; omega) (by omega) (HTab.out.on HAL.out))
      have e32 : ∀ (W9 : World) (w9 : Nat), (w9 = W9.heap.size) → ∀ (j : Nat) (u : Value), [Value.int .u8 32][j]? = some u → (W9.alloc (.cells #[.int .u8 32] 5)).cell? ((⟨w9, 0, none⟩ : Addr).add j) = some u := by
        intro W9 w9 h9 j u hu
        subst h9
        exact cell_one_new _ _ _ j u hu
      have E32 := Lib.hid e32
      clear e32
      go_wp2_with (first
        | (go_at_call 108; refine HA1.out.mono ?_; clear HA1; rintro e W2 ⟨v2, rfl, hown2, hb2, hk2⟩; have HO2 := Lib.hid hown2; have hbx2 : Blk W2 wr.heap.size #[.int .i64 (s.1 : Int), .int .i64 (s.2 : Int)] 66 := ⟨hk2 _ _ hbx0.is (by simp) (by intro c fz e2; cases e2)⟩; have HB2 := Lib.hid (HAL.out.trans hb2); have hz2 := (HAL.out.trans hb2).size; have hz2' := hbx2.lt; clear hk2 hb2 hown2)
        | (at_builtin; refine wpList_append_own _ rfl _ _ 24 rfl W.heap.size 5 j0 (.int .u8 0) 1 1 Tryz.underlying24 hj hy0 hy1 hy2 rfl (by decide) _ _ _ rfl (own_alloc HO2.out _) ⟨W2.heap.size, 0, none⟩ 1 1 [.int .u8 32] rfl rfl (E32.out W2 _ rfl) (by simp [Value.oneCell']) (by unfold maxLen; omega) (by omega) (by simp; omega) ?_; intro v3 W3 hown3 hg3 _; have HO3 := Lib.hid hown3; have hbx3 := (hbx2.alloc (.cells #[.int .u8 32] 5)).grownBy hg3 (fun k2 e2 => own_box HO2.out hbx2 (by decide) k2 e2); have HB3 := Lib.hid ((HB2.out.alloc hz2 _).grown hg3 (by simp; omega) (fun k2 e2 => own_ge HO2.out k2 e2)); have hz3 := HB3.out.size; have hz3' := hbx3.lt; have d1 := hbx3.cell 1 rfl; clear HO2 hg3 hown3)
        | (go_at_call 108; refine (Tryz.strconv_AppendInt_10 W.heap.size _ (s.2 : Int) (by omega) (by omega) _ _ _ HO3.out hz3 (by omega) (HTab.out.on HB3.out)).mono ?_; rintro e W4 ⟨v4, rfl, hown4, hb4, hk4⟩; have HO4 := Lib.hid hown4; have HB4 := Lib.hid (HB3.out.trans hb4); have hz4 := (HB3.out.trans hb4).size; clear hown4 hk4 hb4)
        | (at_builtin; refine wpList_append_own _ rfl _ _ 24 rfl W.heap.size 5 j0 (.int .u8 0) 1 1 Tryz.underlying24 hj hy0 hy1 hy2 rfl (by decide) _ _ _ rfl (own_alloc HO4.out _) ⟨W4.heap.size, 0, none⟩ 1 1 [.int .u8 32] rfl rfl (E32.out W4 _ rfl) (by simp [Value.oneCell']) (by unfold maxLen; omega) (by omega) (by simp; omega) ?_; intro v5 W5 hown5 hg5 _; have HO5 := Lib.hid hown5; have HB5 := Lib.hid ((HB4.out.alloc hz4 _).grown hg5 (by simp; omega) (fun k2 e2 => own_ge HO4.out k2 e2)); clear hg5 hown5))
      go_roundw
      case rel =>
        refine ⟨k + 1, by omega, by go_num, ?_, HB5.out⟩
        rw [HK.out]
        refine own_cast HO5.out (by simp; omega) ?_
        simp [Lib.byteCells]
      case measure => simp [intOf]; omega
    · obtain rfl : k = l.length := by omega
      rw [List.take_length] at hown
      have hcv := own_text hown
      have hcv2 := fun (dst : TypeId) (hd : Tryz.prog.underlying dst = some .string) => hcv dst hd
      have HO := Lib.hid hbw
      clear hown hbw
      have hc9 := hcv2 9 Tryz.underlying9
      clear hcv hcv2
      go_wp2
      go_ret
      exact ⟨rfl, HO.out⟩
end Go.Proofs.YtgbbjobmcbdhdaaGreatDoor
