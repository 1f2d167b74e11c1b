/-
  Walks: the laws' sanity test.
-/
import Derived.Test.YthhlehhienndeaaDoorZd
import Derived.Test.YthhlehhienndeaaDoorK
import Derived.Lib.SlBytesConst
import Derived.Lib.SmallJoins
set_option linter.unusedSimpArgs false
set_option linter.unusedVariables false


namespace Go.Proofs.YthhlehhienndeaaDoor
open Go.RowKit Go.Shelf Go.Lib

theorem up_call {a w w1 : World} (h : Below a.heap.size a w) (h1 : Below w.heap.size w w1) : Below a.heap.size a w1 := h.trans (h1.mono h.size)
theorem up_al {a w : World} (h : Below a.heap.size a w) (o : Obj) : Below a.heap.size a (w.alloc o) := h.alloc h.size o

/-- the class of the bytes from one to another. -/
def rg (lo hi : Int) : BitVec 256 := rng lo (hi + 1 - lo).toNat
/-- the class of these cells' bytes. -/
def ofV (vs : Array Value) : BitVec 256 := ofL (vs.toList.map intOf)
def hasI (x : BitVec 256) (b : Int) : Bool := mem x b.toNat
def ixI (l : List (BitVec 256)) (b : Int) : Int := ix l b.toNat
def sizeI (x : BitVec 256) : Int := (mems x 256).length

theorem range_rg (lo hi : Int) (W : World) (h : 0 ≤ lo ∧ lo < 256 ∧ 0 ≤ hi ∧ hi < 256) : Calls Tryd.prog 36 #[.int .u8 lo, .int .u8 hi] W fun e w' => e = .returned (.agg #[.int .u64 (wd (rg lo hi) 0), .int .u64 (wd (rg lo hi) 1), .int .u64 (wd (rg lo hi) 2), .int .u64 (wd (rg lo hi) 3)]) ∧ Below W.heap.size W w' := range_any lo hi W h.1 h.2.1 h.2.2.1 h.2.2.2
theorem has_i (x : BitVec 256) (b : Int) (W : World) (h : 0 ≤ b ∧ b < 256) : Calls Tryd.prog 35 #[.agg #[.int .u64 (wd x 0), .int .u64 (wd x 1), .int .u64 (wd x 2), .int .u64 (wd x 3)], .int .u8 b] W fun e w' => e = .returned (.bool (hasI x b)) ∧ Below W.heap.size W w' := has_any x b W h.1 h.2
theorem size_i (x : BitVec 256) (W : World) : Calls Tryd.prog 24 #[.agg #[.int .u64 (wd x 0), .int .u64 (wd x 1), .int .u64 (wd x 2), .int .u64 (wd x 3)]] W fun e w' => e = .returned (.int .i64 (sizeI x)) ∧ Below W.heap.size W w' := size_any x W
theorem least_i (x : BitVec 256) {a W : World} (hT : TabAt 0 Lib.deBruijn64tab a) (hg : 0 < a.heap.size) (hb : Below a.heap.size a W) :
    Calls Tryd.prog 26 #[.agg #[.int .u64 (wd x 0), .int .u64 (wd x 1), .int .u64 (wd x 2), .int .u64 (wd x 3)]] W fun e w' => e = .returned (.int .i64 (leastI x)) ∧ Below W.heap.size W w' := least_any x W (tab_below hT hb hg) (Nat.lt_of_lt_of_le hg hb.size)
theorem index_i (v : Value) (l : List (BitVec 256)) (b : Int) {a W : World} (hv : IsC a v l) (hb : Below a.heap.size a W) (hl : l.length ≤ 1000) (h : 0 ≤ b ∧ b < 256) :
    Calls Tryd.prog 33 #[v, .int .u8 b] W fun e w' => e = .returned (.int .i64 (ixI l b)) ∧ Below W.heap.size W w' := index_any v l b h.1 h.2 W (hv.grows hb) hl
/-- cells that are bytes. -/
def bytesOk (vs : Array Value) : Bool := vs.toList.all fun v => match v with | .int .u8 b => decide (0 ≤ b) && decide (b < 256) | _ => false
theorem bytesOk_map : ∀ (l : List Value), (l.all fun v => match v with | .int .u8 b => decide (0 ≤ b) && decide (b < 256) | _ => false) = true → l = (l.map intOf).map (Value.int .u8) ∧ ∀ b ∈ l.map intOf, 0 ≤ b ∧ b < 256
  | [], _ => ⟨rfl, by simp⟩
  | v :: l, h => by
    rw [List.all_cons, Bool.and_eq_true] at h
    obtain ⟨h1, h2⟩ := bytesOk_map l h.2
    have hv := h.1
    split at hv
    · rename_i b
      simp only [Bool.and_eq_true, decide_eq_true_eq] at hv
      refine ⟨by rw [List.map_cons, List.map_cons, ← h1]; rfl, ?_⟩
      intro c hc
      rcases List.mem_cons.1 (show c ∈ b :: l.map intOf from by rw [List.map_cons] at hc; exact hc) with rfl | hc
      · exact hv
      · exact h2 c hc
    · cases hv
theorem of_v (vs : Array Value) (fr : Nat × Nat) (W : World) (n k : Nat) (hn : n = W.heap.size) (hk : k = vs.size) (hm : vs.size ≤ 1000) (hb : bytesOk vs = true) :
    Calls Tryd.prog 14 #[.slice (some ⟨n, 0, none⟩) k k] (W.alloc (.cells vs 5 fr)) fun e w' => e = .returned (.agg #[.int .u64 (wd (ofV vs) 0), .int .u64 (wd (ofV vs) 1), .int .u64 (wd (ofV vs) 2), .int .u64 (wd (ofV vs) 3)]) ∧ Below (W.alloc (.cells vs 5 fr)).heap.size (W.alloc (.cells vs 5 fr)) w' := by
  subst hn; subst hk
  obtain ⟨h1, h2⟩ := bytesOk_map vs.toList hb
  have hlen : (vs.toList.map intOf).length = vs.size := by simp
  have h := of_any W.heap.size 0 vs.size vs.size (vs.toList.map intOf) (W.alloc (.cells vs 5 fr)) (by omega) (by omega) (by simp) (fun k hk => by
    rw [Nat.zero_add, World.cell?_alloc_mark]
    have e := congrArg (fun q => q[k]?) h1
    simp only [List.getElem?_map, Array.getElem?_toList] at e
    rw [List.getD_eq_getElem?_getD, List.getElem?_eq_getElem hk]
    rw [e]
    have hk2 : k < vs.size := by omega
    simp [hk2]) (fun k hk => by
    rw [List.getD_eq_getElem?_getD, List.getElem?_eq_getElem hk]
    exact h2 _ (List.getElem_mem hk))
  have ht : (vs.toList.map intOf).take vs.size = vs.toList.map intOf := List.take_of_length_le (by omega)
  unfold ofV
  rw [ht] at h
  exact h
theorem cells_two (x y : BitVec 256) (W : World) (n : Nat) (hn : n = W.heap.size) {a : World} (hT : TabAt 0 Lib.deBruijn64tab a) (hg : 0 < a.heap.size) (hb : Below a.heap.size a W) :
    Calls Tryd.prog 31 #[.slice (some ⟨n, 0, none⟩) 2 2] (W.alloc (.cells #[.int .u64 (wd x 0), .int .u64 (wd x 1), .int .u64 (wd x 2), .int .u64 (wd x 3), .int .u64 (wd y 0), .int .u64 (wd y 1), .int .u64 (wd y 2), .int .u64 (wd y 3)] 24)) fun e w' =>
      ∃ v, e = .returned v ∧ w'.ownsRow W.heap.size 24 4 v (canon [x, y]).length ((canon [x, y]).flatMap encC) ∧ Below a.heap.size a w' := by
  subst hn
  have hown := own_of_blk (base := W.heap.size) (Blk.new W #[.int .u64 (wd x 0), .int .u64 (wd x 1), .int .u64 (wd x 2), .int .u64 (wd x 3), .int .u64 (wd y 0), .int .u64 (wd y 1), .int .u64 (wd y 2), .int .u64 (wd y 3)] 24) 2 4 rfl (by unfold maxLen; omega) (Nat.le_refl _)
  have hb2 := up_al hb (.cells #[.int .u64 (wd x 0), .int .u64 (wd x 1), .int .u64 (wd x 2), .int .u64 (wd x 3), .int .u64 (wd y 0), .int .u64 (wd y 1), .int .u64 (wd y 2), .int .u64 (wd y 3)] 24)
  refine (cells_any _ [x, y] _ (own_isC (l := [x, y]) hown) (by simp) (tab_below hT hb2 hg) (Nat.lt_of_lt_of_le hg hb2.size)).mono ?_
  rintro e w' ⟨v, rfl, h1, h2⟩
  exact ⟨v, rfl, own_mono h1 (by simp), up_call hb2 h2⟩

set_option maxRecDepth 100000 in
theorem canon_two : canon [rg 97 99, rg 98 100] = [~~~(rng 97 4), bit 97, rng 98 2, bit 100] := by kernel_rfl
theorem canon_none : canon [] = [rng 0 256] := by kernel_rfl
theorem e_has1 : hasI (ofV #[.int .u8 97, .int .u8 98, .int .u8 99, .int .u8 97]) 98 = true := by kernel_rfl
theorem e_has2 : hasI (ofV #[.int .u8 97, .int .u8 98, .int .u8 99, .int .u8 97]) 100 = false := by kernel_rfl
theorem e_size1 : sizeI (ofV #[.int .u8 97, .int .u8 98, .int .u8 99, .int .u8 97]) = 3 := by kernel_rfl
theorem e_least1 : leastI (ofV #[.int .u8 99, .int .u8 97, .int .u8 98]) = 97 := by kernel_rfl
theorem e_bytes : mems (ofV #[.int .u8 99, .int .u8 97, .int .u8 98]) 256 = [97, 98, 99] := by kernel_rfl
theorem e_eq1 : ofV #[.int .u8 99, .int .u8 98, .int .u8 97] = rg 97 99 := by kernel_rfl
theorem e_size2 : sizeI (rg 99 97) = 0 := by kernel_rfl
theorem e_least2 : leastI (rg 99 97) = -1 := by kernel_rfl
theorem e_size3 : sizeI (rg 0 255) = 256 := by kernel_rfl
theorem e_least3 : leastI (~~~(rng 97 4)) = 0 := by kernel_rfl
theorem e_least4 : leastI (bit 97) = 97 := by kernel_rfl
theorem e_size4 : sizeI (rng 98 2) = 2 := by kernel_rfl
theorem e_least5 : leastI (bit 100) = 100 := by kernel_rfl
theorem e_ix1 : ixI [~~~(rng 97 4), bit 97, rng 98 2, bit 100] 99 = 2 := by kernel_rfl
theorem e_ix2 : ixI [~~~(rng 97 4), bit 97, rng 98 2, bit 100] 122 = 0 := by kernel_rfl
theorem e_ix3 : ixI [] 97 = -1 := by kernel_rfl
theorem e_eq2 : rng 0 256 &&& ~~~(0 : BitVec 256) = rg 0 255 := by kernel_rfl

theorem cells_nil_al {a W : World} (hT : TabAt 0 Lib.deBruijn64tab a) (hg : 0 < a.heap.size) (hb : Below a.heap.size a W) (o : Obj) :
    Calls Tryd.prog 31 #[.slice none 0 0] (W.alloc o) fun e w' => (∃ p cp, e = .returned (.slice p 1 cp)) ∧ Below (W.alloc o).heap.size (W.alloc o) w' := by
  have hb2 := up_al hb o
  refine (cells_nil none 0 _ (tab_below hT hb2 hg) (Nat.lt_of_lt_of_le hg hb2.size)).mono ?_
  rintro e w' ⟨v, rfl, h1, h2⟩
  rw [canon_none] at h1
  obtain ⟨p, cp, rfl⟩ := own_shape h1
  exact ⟨⟨p, cp, rfl⟩, h2⟩
theorem bytes_abc (x : BitVec 256) (hx : mems x 256 = [97, 98, 99]) {a W : World} (hT : TabAt 0 Lib.deBruijn64tab a) (hg : 0 < a.heap.size) (hb : Below a.heap.size a W) :
    Calls Tryd.prog 28 #[.agg #[.int .u64 (wd x 0), .int .u64 (wd x 1), .int .u64 (wd x 2), .int .u64 (wd x 3)]] W fun e w' => (∃ g cap, e = .returned (.slice (some ⟨g, 0, none⟩) 3 cap) ∧
      (convert 25 9 (.slice (some ⟨g, 0, none⟩) 3 cap)).run Tryd.prog w' = .ok (.string ⟨#[97, 98, 99]⟩) w') ∧ Below W.heap.size W w' := by
  refine (bytes_any _ W (tab_below hT hb hg) (Nat.lt_of_lt_of_le hg hb.size)).mono ?_
  rintro e w' ⟨⟨v, rfl, hown⟩, hb2⟩
  rw [hx] at hown
  obtain ⟨g, cap, rfl, -, -, -, hc⟩ := own_read hown (by decide)
  refine ⟨⟨g, cap, rfl, ?_⟩, hb2⟩
  refine (run_convert_bytes_arg (P := Tryd.prog) w' 25 5 Tryd.underlying25 Tryd.underlying5 g 0 3 cap [97, 98, 99] rfl (fun i hi => ?_) 9 Tryd.underlying9).trans rfl
  rw [Nat.zero_add]
  refine hc i _ ?_
  have h3 : i = 0 ∨ i = 1 ∨ i = 2 := by omega
  rcases h3 with rfl | rfl | rfl <;> rfl
theorem isC_of4 {a : World} {g cap : Nat} {x0 x1 x2 x3 : BitVec 256} (h : ReadsC a g 0 [x0, x1, x2, x3]) : IsC a (.slice (some ⟨g, 0, none⟩) 4 cap) [x0, x1, x2, x3] := Or.inr ⟨_, _, _, rfl, h⟩
theorem eq_yes {x y : BitVec 256} (h : x = y) (w : World) : (Op.equalIn 10000 24 (.agg #[.int .u64 (wd x 0), .int .u64 (wd x 1), .int .u64 (wd x 2), .int .u64 (wd x 3)]) (.agg #[.int .u64 (wd y 0), .int .u64 (wd y 1), .int .u64 (wd y 2), .int .u64 (wd y 3)])).run Tryd.prog w = .ok true w := by
  rw [eq_cls, decide_eq_true h]
theorem not_n (W : World) : Calls Tryd.prog 22 #[.agg #[.int .u64 0, .int .u64 0, .int .u64 0, .int .u64 0]] W fun e w' => e = .returned (.agg #[.int .u64 (wd (rg 0 255) 0), .int .u64 (wd (rg 0 255) 1), .int .u64 (wd (rg 0 255) 2), .int .u64 (wd (rg 0 255) 3)]) ∧ Below W.heap.size W w' := by
  have h := not_any 0 W
  rw [e_eq2] at h
  simpa only [wd_zero] using h
theorem read16 {a W : World} {g : Nat} {x0 x1 x2 x3 : BitVec 256} (h : ReadsC a g 0 [x0, x1, x2, x3]) (hb : Below a.heap.size a W) :
    (W.cell? ⟨g, 0, none⟩ = some (.int .u64 (wd x0 0)) ∧ W.cell? ⟨g, 1, none⟩ = some (.int .u64 (wd x0 1)) ∧ W.cell? ⟨g, 2, none⟩ = some (.int .u64 (wd x0 2)) ∧ W.cell? ⟨g, 3, none⟩ = some (.int .u64 (wd x0 3))) ∧
    (W.cell? ⟨g, 4, none⟩ = some (.int .u64 (wd x1 0)) ∧ W.cell? ⟨g, 5, none⟩ = some (.int .u64 (wd x1 1)) ∧ W.cell? ⟨g, 6, none⟩ = some (.int .u64 (wd x1 2)) ∧ W.cell? ⟨g, 7, none⟩ = some (.int .u64 (wd x1 3))) ∧
    (W.cell? ⟨g, 8, none⟩ = some (.int .u64 (wd x2 0)) ∧ W.cell? ⟨g, 9, none⟩ = some (.int .u64 (wd x2 1)) ∧ W.cell? ⟨g, 10, none⟩ = some (.int .u64 (wd x2 2)) ∧ W.cell? ⟨g, 11, none⟩ = some (.int .u64 (wd x2 3))) ∧
    W.cell? ⟨g, 12, none⟩ = some (.int .u64 (wd x3 0)) ∧ W.cell? ⟨g, 13, none⟩ = some (.int .u64 (wd x3 1)) ∧ W.cell? ⟨g, 14, none⟩ = some (.int .u64 (wd x3 2)) ∧ W.cell? ⟨g, 15, none⟩ = some (.int .u64 (wd x3 3)) :=
  ⟨(h.grows hb).four 0 _ rfl, (h.grows hb).four 1 _ rfl, (h.grows hb).four 2 _ rfl, (h.grows hb).four 3 _ rfl⟩

attribute [local irreducible] rg ofV hasI ixI sizeI leastI rng mem mems canon ix ofL bit
set_option maxRecDepth 100000 in
set_option maxHeartbeats 1000000 in
theorem sanity_any (w : World) (hT : TabAt 0 Lib.deBruijn64tab w) (hg0 : 0 < w.heap.size) :
    Calls Tryd.prog 13 #[] w fun e w' => e = .returned (.bool true) ∧ Below w.heap.size w w' := by
  have HT := Lib.hid hT
  clear hT
  have HB := Lib.hid (Below.refl w.heap.size w)
  go_enter Tryd.func13, Tryd.ntmps13
  have kc := fun (w : World) (C : Array Value) (n c : Nat) => Lib.run_convert_bytes_const (P := Tryd.prog) w 25 5 C n c Tryd.underlying25 Tryd.underlying5
  have q1 := e_has1
  have q2 := e_has2
  have q3 := e_size1
  have q4 := e_least1
  have q5 := e_size2
  have q6 := e_least2
  have q7 := e_size3
  have q8 := e_least3
  have q9 := e_least4
  have q10 := e_size4
  have q11 := e_least5
  have q12 := e_ix1
  have q13 := e_ix2
  have q14 := e_ix3
  have qe1 := eq_yes e_eq1.symm
  have qe2 := eq_yes (Eq.refl (rg 0 255))
  go_wp2_with (first
    | (go_at_call 36; refine (range_rg _ _ _ (by omega)).mono ?_; rintro e w1 ⟨rfl, hb1⟩; replace HB := Lib.hid (up_call HB.out hb1); (first | replace HC := Lib.hid (And.intro HC.out.1 (up_call HC.out.2 hb1)) | skip); (first | replace HD := Lib.hid (And.intro HD.out.1 (up_call HD.out.2 hb1)) | skip); clear hb1)
    | (go_at_call_of 31 (Value.slice none 0 0); refine (cells_nil_al HT.out hg0 HB.out _).mono ?_; rintro e w2 ⟨⟨p, cp, rfl⟩, hb1⟩; have HD := Lib.hid (And.intro (Blk.new w1 #[.int .u64 (wd (rg 99 97) 0), .int .u64 (wd (rg 99 97) 1), .int .u64 (wd (rg 99 97) 2), .int .u64 (wd (rg 99 97) 3)] 24) hb1); replace HB := Lib.hid (up_call (up_al HB.out _) hb1); replace HC := Lib.hid (And.intro HC.out.1 (up_call (up_al HC.out.2 _) hb1)); clear hb1)
    | (go_at_call 31; refine (cells_two _ _ _ _ rfl HT.out hg0 HB.out).mono ?_; rintro e w1 ⟨v, rfl, hown, hb1⟩; rw [canon_two] at hown; obtain ⟨g, cp, cur, rfl, -, -, -, -, -, -, hread⟩ := own_readC hown (by decide); clear hown; have HC := Lib.hid (And.intro hread (Below.refl w1.heap.size w1)); replace HB := Lib.hid hb1; clear hb1 hread)
    | (go_at_call 14; refine (of_v _ _ _ _ _ ?_ ?_ ?_ ?_).mono ?_; rfl; rfl; decide; decide; rintro e w1 ⟨rfl, hb1⟩; replace HB := Lib.hid (up_call (up_al HB.out _) hb1); (first | replace HC := Lib.hid (And.intro HC.out.1 (up_call (up_al HC.out.2 _) hb1)) | skip); (first | replace HD := Lib.hid (And.intro HD.out.1 (up_call (up_al HD.out.2 _) hb1)) | skip); clear hb1; (try clear c0 c1 c2 c3 c4 c5 c6 c7 c8 c9 c10 c11 c12 c13 c14 c15 d0 d1 d2 d3); (first | obtain ⟨⟨c0, c1, c2, c3⟩, ⟨c4, c5, c6, c7⟩, ⟨c8, c9, c10, c11⟩, c12, c13, c14, c15⟩ := read16 HC.out.1 HC.out.2 | skip); (first | obtain ⟨d0, d1, d2, d3, -⟩ := (HD.out.1.grows HD.out.2).four | skip))
    | (go_at_call 35; refine (has_i _ _ _ (by omega)).mono ?_; rintro e w1 ⟨rfl, hb1⟩; replace HB := Lib.hid (up_call HB.out hb1); (first | replace HC := Lib.hid (And.intro HC.out.1 (up_call HC.out.2 hb1)) | skip); (first | replace HD := Lib.hid (And.intro HD.out.1 (up_call HD.out.2 hb1)) | skip); clear hb1)
    | (go_at_call 24; refine (size_i _ _).mono ?_; rintro e w1 ⟨rfl, hb1⟩; replace HB := Lib.hid (up_call HB.out hb1); (first | replace HC := Lib.hid (And.intro HC.out.1 (up_call HC.out.2 hb1)) | skip); (first | replace HD := Lib.hid (And.intro HD.out.1 (up_call HD.out.2 hb1)) | skip); clear hb1; (try clear c0 c1 c2 c3 c4 c5 c6 c7 c8 c9 c10 c11 c12 c13 c14 c15 d0 d1 d2 d3); (first | obtain ⟨⟨c0, c1, c2, c3⟩, ⟨c4, c5, c6, c7⟩, ⟨c8, c9, c10, c11⟩, c12, c13, c14, c15⟩ := read16 HC.out.1 HC.out.2 | skip); (first | obtain ⟨d0, d1, d2, d3, -⟩ := (HD.out.1.grows HD.out.2).four | skip))
    | (go_at_call 26; refine (least_i _ HT.out hg0 HB.out).mono ?_; rintro e w1 ⟨rfl, hb1⟩; replace HB := Lib.hid (up_call HB.out hb1); (first | replace HC := Lib.hid (And.intro HC.out.1 (up_call HC.out.2 hb1)) | skip); (first | replace HD := Lib.hid (And.intro HD.out.1 (up_call HD.out.2 hb1)) | skip); clear hb1; (try clear c0 c1 c2 c3 c4 c5 c6 c7 c8 c9 c10 c11 c12 c13 c14 c15 d0 d1 d2 d3); (first | obtain ⟨⟨c0, c1, c2, c3⟩, ⟨c4, c5, c6, c7⟩, ⟨c8, c9, c10, c11⟩, c12, c13, c14, c15⟩ := read16 HC.out.1 HC.out.2 | skip); (first | obtain ⟨d0, d1, d2, d3, -⟩ := (HD.out.1.grows HD.out.2).four | skip))
    | (go_at_call 28; refine (bytes_abc _ ?_ HT.out hg0 HB.out).mono ?_; exact e_bytes; rintro e w1 ⟨⟨gb, cb, rfl, hcv⟩, hb1⟩; replace HB := Lib.hid (up_call HB.out hb1); (first | replace HC := Lib.hid (And.intro HC.out.1 (up_call HC.out.2 hb1)) | skip); (first | replace HD := Lib.hid (And.intro HD.out.1 (up_call HD.out.2 hb1)) | skip); clear hb1)
    | (go_at_call_of 33 (Value.slice none 0 0); refine (index_i _ [] _ (a := w) ?_ HB.out ?_ ?_).mono ?_; exact Or.inl ⟨rfl, none, 0, rfl⟩; decide; omega; rintro e w1 ⟨rfl, hb1⟩; replace HB := Lib.hid (up_call HB.out hb1); (first | replace HC := Lib.hid (And.intro HC.out.1 (up_call HC.out.2 hb1)) | skip); (first | replace HD := Lib.hid (And.intro HD.out.1 (up_call HD.out.2 hb1)) | skip); clear hb1)
    | (go_at_call 33; refine (index_i _ [~~~(rng 97 4), bit 97, rng 98 2, bit 100] _ (isC_of4 HC.out.1) HC.out.2 ?_ ?_).mono ?_; decide; omega; rintro e w1 ⟨rfl, hb1⟩; replace HB := Lib.hid (up_call HB.out hb1); (first | replace HC := Lib.hid (And.intro HC.out.1 (up_call HC.out.2 hb1)) | skip); (first | replace HD := Lib.hid (And.intro HD.out.1 (up_call HD.out.2 hb1)) | skip); clear hb1)
    | (go_at_call 22; refine (not_n _).mono ?_; rintro e w1 ⟨rfl, hb1⟩; replace HB := Lib.hid (up_call HB.out hb1); (first | replace HC := Lib.hid (And.intro HC.out.1 (up_call HC.out.2 hb1)) | skip); (first | replace HD := Lib.hid (And.intro HD.out.1 (up_call HD.out.2 hb1)) | skip); clear hb1))
  go_ret
  exact ⟨rfl, HB.out⟩
end Go.Proofs.YthhlehhienndeaaDoor
