/- Two splits of one end, as plain data; what is owned can be read. -/
import Derived.Test.YtclbhbnidodmdaaGOrder
import Derived.Test.YtclbhbnidodmdaaSplitW
import Derived.Test.YtclbhbnidodmdaaSizes
import Derived.Test.YtclbhbnidodmdaaGOut
namespace Go.Proofs.Ytclbhbnidodmdaa
open Go.RowKit Go.Maps

/-- is there a k-th way out of block from -/
def hasM (bs : List BlockM) (from_ k : Int) : Bool :=
  decide (0 ≤ from_) && decide (from_ < bs.length) && decide (0 ≤ k) && (match bs[from_.toNat]? with | some b => decide (k < b.term.to.length) | none => false)

theorem hasM_yes {bs : List BlockM} {from_ k : Int} (h : hasM bs from_ k = true) : ∃ (i j : Nat) (b : BlockM), from_ = i ∧ k = j ∧ bs[i]? = some b ∧ j < b.term.to.length := by
  unfold hasM at h
  simp only [Bool.and_eq_true, decide_eq_true_eq] at h
  obtain ⟨⟨⟨h1, h2⟩, h3⟩, h4⟩ := h
  obtain ⟨i, rfl⟩ := Int.eq_ofNat_of_zero_le h1
  obtain ⟨j, rfl⟩ := Int.eq_ofNat_of_zero_le h3
  rw [Int.toNat_natCast] at h4
  cases hb : bs[i]? with
  | none => rw [hb] at h4; cases h4
  | some b =>
    rw [hb] at h4
    simp only [decide_eq_true_eq] at h4
    exact ⟨i, j, b, rfl, rfl, hb, by omega⟩

def HasPost (bs : List BlockM) (from_ k : Int) (w : World) (e : Ending) (w' : World) : Prop := e = .returned (.bool (hasM bs from_ k)) ∧ Below w.heap.size w w'

set_option maxRecDepth 100000 in
set_option maxHeartbeats 2000000 in
theorem hasEdge_any (bs : List BlockM) (from_ k : Int) (B : Nat) (pv av cv bv : Value) (w : World) (hbv : BlocksR w B bv bs) (hB : B ≤ w.heap.size) :
    Calls Try.prog 56 #[.agg #[pv, av, cv, bv], .int .i64 from_, .int .i64 k] w (HasPost bs from_ k w) := by
  have HBL := hideI hbv
  obtain ⟨A, c, rfl, _, hbm⟩ := hbv
  have HBM := hideI hbm
  have HX := hideI (heap_alloc_new w (.cells #[pv, av, cv, .slice A bs.length c] 81))
  have HB0 : Hid (Below w.heap.size w (w.alloc (.cells #[pv, av, cv, .slice A bs.length c] 81))) := (Below.refl _ w).alloc (Nat.le_refl _) _
  clear hbm
  by_cases h1 : 0 ≤ from_
  · by_cases h2 : from_ < bs.length
    · by_cases h3 : 0 ≤ k
      · obtain ⟨i, rfl⟩ := Int.eq_ofNat_of_zero_le h1
        have hi : i < bs.length := by omega
        obtain ⟨b, hb⟩ : ∃ b, bs[i]? = some b := ⟨_, List.getElem?_eq_getElem hi⟩
        obtain ⟨g, off, _, _, tv, rfl, hg, _, _, _, _, q4, _, _, _, hto, _⟩ := HBM.out i b hb
        obtain ⟨T, tc, rfl, _⟩ := hto
        have HB := hideI hb
        have Q4 : Hid (∀ W, Below w.heap.size w W → W.cell? ⟨g, off + i * 6 + 4, none⟩ = some (.slice T b.term.to.length tc)) := fun W hW => (World.cell?_of_block (a := ⟨g, off + i * 6 + 4, none⟩) (hW.block g (by omega))).trans q4
        have q5 := Q4.out _ HB0.out
        clear hb q4
        by_cases h4 : k < b.term.to.length
        · have hd : decide (k < (b.term.to.length : Int)) = true := by simpa using h4
          go_enter Try.func56, Try.ntmps56
          go_wp2
          go_ret
          exact ⟨by simp [hasM, HB.out, h1, h2, h3, h4], HB0.out⟩
        · have hd : decide (k < (b.term.to.length : Int)) = false := by simpa using h4
          go_enter Try.func56, Try.ntmps56
          go_wp2
          go_ret
          exact ⟨by simp [hasM, HB.out, h1, h2, h3, h4], HB0.out⟩
      · go_enter Try.func56, Try.ntmps56
        go_wp2
        go_ret
        exact ⟨congrArg (fun b => Ending.returned (.bool b)) (show false = hasM bs from_ k by unfold hasM; rw [decide_eq_false (show ¬ (0 : Int) ≤ k by omega)]; simp), HB0.out⟩
    · go_enter Try.func56, Try.ntmps56
      go_wp2
      go_ret
      exact ⟨congrArg (fun b => Ending.returned (.bool b)) (show false = hasM bs from_ k by unfold hasM; rw [decide_eq_false (show ¬ from_ < (bs.length : Int) by omega)]; simp), HB0.out⟩
  · go_enter Try.func56, Try.ntmps56
    go_wp2
    go_ret
    exact ⟨congrArg (fun b => Ending.returned (.bool b)) (show false = hasM bs from_ k by unfold hasM; rw [decide_eq_false (show ¬ (0 : Int) ≤ from_ by omega)]; simp), HB0.out⟩

end Go.Proofs.Ytclbhbnidodmdaa

namespace Go.Proofs.Ytclbhbnidodmdaa
open Go.RowKit

theorem Owned.params {w : World} {base : Nat} {f : FuncM} {val : Vals} (h : Owned w base f val) (hl : f.params.length ≤ 100000) : ∃ A c, val .params = .slice A f.params.length c := by
  obtain ⟨A, c, h, _⟩ := row_read (h.rows .params _ rfl rfl) hl
  exact ⟨A, c, h⟩

theorem Owned.blocks {w : World} {base : Nat} {f : FuncM} {val : Vals} (h : Owned w base f val) (hl : f.blocks.length ≤ 100000) : ∃ A c, val .blocks = .slice A f.blocks.length c := by
  obtain ⟨A, c, h, _⟩ := row_read (h.rows .blocks _ rfl rfl) hl
  exact ⟨A, c, h⟩

/-- what is owned whole, with its two slices written out -/
def OwnedPost (f : FuncM) (w : World) (e : Ending) (w' : World) : Prop :=
  ∃ (v1 : Vals) (base : Nat) (A : Option Addr) (c : Nat) (A' : Option Addr) (c' : Nat), e = .returned (.agg #[.slice A f.params.length c, .int .i64 f.arrays, .int .i64 f.cells, .slice A' f.blocks.length c']) ∧
    v1 .params = .slice A f.params.length c ∧ v1 .blocks = .slice A' f.blocks.length c' ∧ Owned w' base f v1 ∧ w.heap.size ≤ base ∧ base ≤ w'.heap.size ∧ Below w.heap.size w w'

theorem fresh_own (f : FuncM) (B : Nat) (pv bv : Value) (w : World) (hpv : Ints w B pv f.params) (hbv : BlocksR w B bv f.blocks) (hB : B ≤ w.heap.size) (h0 : (lookM f).1 = 0) :
    Calls Try.prog 50 #[.agg #[pv, .int .i64 f.arrays, .int .i64 f.cells, bv]] w (OwnedPost f w) := by
  refine (fresh_any f B pv bv w hpv hbv hB h0).mono ?_
  rintro e w' ⟨v1, rfl, ho, hb⟩
  have hs := look_small h0
  have ho' := Owned.of ho
  obtain ⟨A, c, e1⟩ := ho'.params hs.params
  obtain ⟨A', c', e2⟩ := ho'.blocks hs.blocks
  obtain ⟨g, _, _, h1, h2⟩ := ho'.slice (tp := .blocks) rfl rfl (by have := look_some_block h0; show 0 < f.blocks.length; omega)
  exact ⟨v1, w.heap.size + 2, A, c, A', c', by rw [e1, e2], e1, e2, ho', by omega, by omega, hb⟩

theorem splitM_len (f : FuncM) (i j : Nat) : (splitM f i j).blocks.length = f.blocks.length + 1 := by
  unfold splitM
  simp

theorem split_own {f : FuncM} {w w1 : World} {base : Nat} {v1 : Vals} {q0 : BlockM} {A A' : Option Addr} {c c' : Nat} (i j : Nat) (ho : Owned w1 base f v1) (e1 : v1 .params = .slice A f.params.length c) (e2 : v1 .blocks = .slice A' f.blocks.length c') (h0 : (lookM f).1 = 0) (hq0 : f.blocks[i]? = some q0) (hj : j < q0.term.to.length) (hb : base ≤ w1.heap.size) (hw : w.heap.size ≤ base) (hlow : Below w.heap.size w w1) :
    Calls Try.prog 57 #[.agg #[.slice A f.params.length c, .int .i64 f.arrays, .int .i64 f.cells, .slice A' f.blocks.length c'], .int .i64 i, .int .i64 j] w1 (OwnedPost (splitM f i j) w) := by
  have h := split_any i j ho h0 hq0 hj hb
  rw [e1, e2] at h
  refine h.mono ?_
  rintro e w' ⟨v2, rfl, ho2, hb2⟩
  have hs := look_small h0
  have hl := look_some_block h0
  obtain ⟨B, d, k1⟩ := ho2.params hs.params
  obtain ⟨B', d', k2⟩ := ho2.blocks (by rw [splitM_len]; omega)
  exact ⟨v2, base, B, d, B', d', by rw [k1, k2]; rfl, k1, k2, ho2, hw, Nat.le_trans hb hb2.size, hlow.trans (hb2.mono hw)⟩

/-- the error of a split -/
def splitErr (f : FuncM) (from_ k : Int) : Int :=
  if (lookM f).1 ≠ 0 then (lookM f).1 else if hasM f.blocks from_ k = false then 9 else if 512 ≤ f.blocks.length ∨ 4096 ≤ sizeM f then 2 else 0

def GSplitPost (f : FuncM) (from_ k : Int) (w : World) (e : Ending) (w' : World) : Prop :=
  (∃ c, c ≠ 0 ∧ splitErr f from_ k = c ∧ e = .returned (.tuple #[.agg #[.slice none 0 0, .int .i64 0, .int .i64 0, .slice none 0 0], .int .i64 c]) ∧ Below w.heap.size w w') ∨
  (splitErr f from_ k = 0 ∧ ∃ (i j : Nat) (v1 : Vals) (base : Nat) (A : Option Addr) (c : Nat) (A' : Option Addr) (c' : Nat), from_ = i ∧ k = j ∧ e = .returned (.tuple #[.agg #[.slice A f.params.length c, .int .i64 f.arrays, .int .i64 f.cells, .slice A' (f.blocks.length + 1) c'], .int .i64 0]) ∧
    v1 .params = .slice A f.params.length c ∧ v1 .blocks = .slice A' (f.blocks.length + 1) c' ∧ Owned w' base (splitM f i j) v1 ∧ w.heap.size ≤ base ∧ base ≤ w'.heap.size ∧ Below w.heap.size w w')

set_option maxRecDepth 100000 in
set_option maxHeartbeats 2000000 in
theorem gSplit_any (f : FuncM) (from_ k : Int) (B : Nat) (pv bv : Value) (w : World) (hpv : Ints w B pv f.params) (hbv : BlocksR w B bv f.blocks) (hB : B ≤ w.heap.size) (hid : ∀ u ∈ usesM f, I64 u.1) :
    Calls Try.prog 28 #[.agg #[pv, .int .i64 f.arrays, .int .i64 f.cells, bv], .int .i64 from_, .int .i64 k] w (GSplitPost f from_ k w) := by
  have HP := hideI hpv
  have HBL := hideI hbv
  have HID := hideI hid
  obtain ⟨P, pc, rfl, _⟩ := hpv
  obtain ⟨A, c, rfl, hbm, _⟩ := hbv
  obtain ⟨W0, hW0⟩ : ∃ W0, W0 = (w.alloc (.cells #[.slice P f.params.length pc, .int .i64 f.arrays, .int .i64 f.cells, .slice A f.blocks.length c] 25)).alloc (.cells #[.slice none 0 0, .int .i64 0, .int .i64 0, .slice none 0 0] 25) := ⟨_, rfl⟩
  have hB0 : Below w.heap.size w W0 := by rw [hW0]; exact ((Below.refl _ w).alloc (Nat.le_refl _) _).alloc (by simp) _
  have hs0 : W0.heap.size = w.heap.size + 2 := by rw [hW0]; simp
  have hbox : W0.heap[w.heap.size]? = some (.cells #[.slice P f.params.length pc, .int .i64 f.arrays, .int .i64 f.cells, .slice A f.blocks.length c] 25 (0, 0)) := by
    rw [hW0, Below.heap_alloc _ _ _ (by simp)]
    exact heap_alloc_new w _
  have hres : W0.heap[w.heap.size + 1]? = some (.cells #[.slice none 0 0, .int .i64 0, .int .i64 0, .slice none 0 0] 25 (0, 0)) := by
    rw [hW0]
    have := heap_alloc_new (w.alloc (.cells #[.slice P f.params.length pc, .int .i64 f.arrays, .int .i64 f.cells, .slice A f.blocks.length c] 25)) (.cells #[.slice none 0 0, .int .i64 0, .int .i64 0, .slice none 0 0] 25)
    simpa using this
  have HW0 := hideI hW0
  have HB0 := hideI hB0
  have HS0 := hideI hs0
  have G0 : Hid (∀ W, Below W0.heap.size W0 W → (∀ o, W.cell? ⟨w.heap.size, o, none⟩ = (#[.slice P f.params.length pc, .int .i64 f.arrays, .int .i64 f.cells, .slice A f.blocks.length c] : Array Value)[o]?) ∧ (∀ o, W.cell? ⟨w.heap.size + 1, o, none⟩ = (#[.slice none 0 0, .int .i64 0, .int .i64 0, .slice none 0 0] : Array Value)[o]?) ∧ (∀ o, W.frozen? ⟨w.heap.size + 1, o, none⟩ = false)) := fun W hW => by
    have h1 := hW.block w.heap.size (by omega)
    have h2 := hW.block (w.heap.size + 1) (by omega)
    exact ⟨row_cells hbox h1, row_cells hres h2, free_row' hres h2⟩
  have HPW : Hid (∀ W, Below W0.heap.size W0 W → Ints W B (.slice P f.params.length pc) f.params ∧ BlocksR W B (.slice A f.blocks.length c) f.blocks ∧ Below w.heap.size w W) := fun W hW => by
    have h1 : Below w.heap.size w W := HB0.out.trans (hW.mono (by omega))
    exact ⟨HP.out.keeps (Keeps.of_below (h1.mono hB)), HBL.out.keeps (Keeps.of_below (h1.mono hB)), h1⟩
  obtain ⟨q1, q2, q3⟩ := G0.out W0 (Below.refl _ _)
  have b0 := q1 0
  have b1 := q1 1
  have b2 := q1 2
  have b3 := q1 3
  have s0 := q2 0
  have s1 := q2 1
  have s2 := q2 2
  have s3 := q2 3
  have g0 := q3 0
  have g1 := q3 1
  have g2 := q3 2
  have g3 := q3 3
  clear hid hW0 hB0 hs0 hbox hres q1 q2 q3
  by_cases h0 : (lookM f).1 = 0
  · have H0 := hideI h0
    have hso : sizeOut f = (sizeM f : Int) := by unfold sizeOut; rw [if_pos h0]
    have HSO := hideI hso
    have hnb := look_512 h0
    have hsz : sizeM f ≤ 4096 := look_size h0
    cases hh : hasM f.blocks from_ k
    · have HH := hideI hh
      clear h0 hso hh
      go_enter Try.func28, Try.ntmps28
      go_upto_region 1 with fail
      rw [← HW0.out]
      go_wp2_with (first
        | (go_at_call 55; go_must (refine (size_any f B _ _ _ (HPW.out _ (Below.refl _ _)).1 (HPW.out _ (Below.refl _ _)).2.1 (by have := HS0.out; omega) HID.out).mono ?_); rw [H0.out]; rintro e w1 ⟨rfl, hb⟩; have HB1 := hideI hb; obtain ⟨q1, q2, q3⟩ := G0.out _ hb; have b0 := q1 0; have b1 := q1 1; have b2 := q1 2; have b3 := q1 3; have s0 := q2 0; have s1 := q2 1; have s2 := q2 2; have s3 := q2 3; have g0 := q3 0; have g1 := q3 1; have g2 := q3 2; have g3 := q3 3; clear q1 q2 q3 hb)
        | (go_at_call 56; go_must (refine (hasEdge_any f.blocks _ _ B _ _ _ _ _ (HPW.out _ (by exact HB1.out.alloc HB1.out.size _)).2.1 (by have := HS0.out; have := HB1.out.size; simp; omega)).mono ?_); rintro e w2 ⟨he, hb⟩; rw [HH.out] at he; subst he; have HB2 := hideI ((HB1.out.alloc HB1.out.size _).trans (hb.mono (by have := HB1.out.size; simp; omega))); obtain ⟨q1, q2, q3⟩ := G0.out _ HB2.out; have b0 := q1 0; have b1 := q1 1; have b2 := q1 2; have b3 := q1 3; have s0 := q2 0; have s1 := q2 1; have s2 := q2 2; have s3 := q2 3; have g0 := q3 0; have g1 := q3 1; have g2 := q3 2; have g3 := q3 3; clear q1 q2 q3 hb))
      refine bodyPost_ret (v := .tuple #[.agg #[.slice none 0 0, .int .i64 0, .int .i64 0, .slice none 0 0], .int .i64 9]) (by simp [results, Try.results28, go_sem, s0, s1, s2, s3]) rfl (.inl ⟨9, by decide, by unfold splitErr; rw [if_neg (by simpa using H0.out), if_pos HH.out], rfl, ?_⟩)
      exact ((((HPW.out _ HB2.out).2.2.setCell (by simp) _).setCell (by simp) _).setCell (by simp) _).setCell (by simp) _
    · have HH := hideI hh
      obtain ⟨i, j, q, rfl, rfl, hq, hj⟩ := hasM_yes hh
      have HQ := hideI hq
      clear h0 hso hh hq
      by_cases hl1 : 512 ≤ f.blocks.length
      · have hd1 : decide ((512 : Int) ≤ (f.blocks.length : Int)) = true := by simp; omega
        go_enter Try.func28, Try.ntmps28
        go_upto_region 1 with fail
        rw [← HW0.out]
        go_wp2_with (first
          | (go_at_call 55; go_must (refine (size_any f B _ _ _ (HPW.out _ (Below.refl _ _)).1 (HPW.out _ (Below.refl _ _)).2.1 (by have := HS0.out; omega) HID.out).mono ?_); rw [H0.out, HSO.out]; rintro e w1 ⟨rfl, hb⟩; have HB1 := hideI hb; obtain ⟨q1, q2, q3⟩ := G0.out _ hb; have b0 := q1 0; have b1 := q1 1; have b2 := q1 2; have b3 := q1 3; have s0 := q2 0; have s1 := q2 1; have s2 := q2 2; have s3 := q2 3; have g0 := q3 0; have g1 := q3 1; have g2 := q3 2; have g3 := q3 3; clear q1 q2 q3 hb)
          | (go_at_call 56; go_must (refine (hasEdge_any f.blocks _ _ B _ _ _ _ _ (HPW.out _ (by exact HB1.out.alloc HB1.out.size _)).2.1 (by have := HS0.out; have := HB1.out.size; simp; omega)).mono ?_); rintro e w2 ⟨he, hb⟩; rw [HH.out] at he; subst he; have HB2 := hideI ((HB1.out.alloc HB1.out.size _).trans (hb.mono (by have := HB1.out.size; simp; omega))); obtain ⟨q1, q2, q3⟩ := G0.out _ HB2.out; have b0 := q1 0; have b1 := q1 1; have b2 := q1 2; have b3 := q1 3; have s0 := q2 0; have s1 := q2 1; have s2 := q2 2; have s3 := q2 3; have g0 := q3 0; have g1 := q3 1; have g2 := q3 2; have g3 := q3 3; clear q1 q2 q3 hb))
        refine bodyPost_ret (v := .tuple #[.agg #[.slice none 0 0, .int .i64 0, .int .i64 0, .slice none 0 0], .int .i64 2]) (by simp [results, Try.results28, go_sem, s0, s1, s2, s3]) rfl (.inl ⟨2, by decide, by unfold splitErr; rw [if_neg (by simpa using H0.out), if_neg (by rw [HH.out]; simp), if_pos (.inl hl1)], rfl, ?_⟩)
        exact ((((HPW.out _ HB2.out).2.2.setCell (by simp) _).setCell (by simp) _).setCell (by simp) _).setCell (by simp) _
      · by_cases hl2 : 4096 ≤ sizeM f
        · have hd1 : decide ((512 : Int) ≤ (f.blocks.length : Int)) = false := by simp; omega
          have hd2 : decide ((4096 : Int) ≤ ((sizeM f : Nat) : Int)) = true := by simp; omega
          go_enter Try.func28, Try.ntmps28
          go_upto_region 1 with fail
          rw [← HW0.out]
          go_wp2_with (first
            | (go_at_call 55; go_must (refine (size_any f B _ _ _ (HPW.out _ (Below.refl _ _)).1 (HPW.out _ (Below.refl _ _)).2.1 (by have := HS0.out; omega) HID.out).mono ?_); rw [H0.out, HSO.out]; rintro e w1 ⟨rfl, hb⟩; have HB1 := hideI hb; obtain ⟨q1, q2, q3⟩ := G0.out _ hb; have b0 := q1 0; have b1 := q1 1; have b2 := q1 2; have b3 := q1 3; have s0 := q2 0; have s1 := q2 1; have s2 := q2 2; have s3 := q2 3; have g0 := q3 0; have g1 := q3 1; have g2 := q3 2; have g3 := q3 3; clear q1 q2 q3 hb)
            | (go_at_call 56; go_must (refine (hasEdge_any f.blocks _ _ B _ _ _ _ _ (HPW.out _ (by exact HB1.out.alloc HB1.out.size _)).2.1 (by have := HS0.out; have := HB1.out.size; simp; omega)).mono ?_); rintro e w2 ⟨he, hb⟩; rw [HH.out] at he; subst he; have HB2 := hideI ((HB1.out.alloc HB1.out.size _).trans (hb.mono (by have := HB1.out.size; simp; omega))); obtain ⟨q1, q2, q3⟩ := G0.out _ HB2.out; have b0 := q1 0; have b1 := q1 1; have b2 := q1 2; have b3 := q1 3; have s0 := q2 0; have s1 := q2 1; have s2 := q2 2; have s3 := q2 3; have g0 := q3 0; have g1 := q3 1; have g2 := q3 2; have g3 := q3 3; clear q1 q2 q3 hb))
          refine bodyPost_ret (v := .tuple #[.agg #[.slice none 0 0, .int .i64 0, .int .i64 0, .slice none 0 0], .int .i64 2]) (by simp [results, Try.results28, go_sem, s0, s1, s2, s3]) rfl (.inl ⟨2, by decide, by unfold splitErr; rw [if_neg (by simpa using H0.out), if_neg (by rw [HH.out]; simp), if_pos (.inr hl2)], rfl, ?_⟩)
          exact ((((HPW.out _ HB2.out).2.2.setCell (by simp) _).setCell (by simp) _).setCell (by simp) _).setCell (by simp) _
        · have hd1 : decide ((512 : Int) ≤ (f.blocks.length : Int)) = false := by simp; omega
          have hd2 : decide ((4096 : Int) ≤ ((sizeM f : Nat) : Int)) = false := by simp; omega
          go_enter Try.func28, Try.ntmps28
          go_upto_region 1 with fail
          rw [← HW0.out]
          go_wp2_with (first
            | (go_at_call 55; go_must (refine (size_any f B _ _ _ (HPW.out _ (Below.refl _ _)).1 (HPW.out _ (Below.refl _ _)).2.1 (by have := HS0.out; omega) HID.out).mono ?_); rw [H0.out, HSO.out]; rintro e w1 ⟨rfl, hb⟩; have HB1 := hideI hb; obtain ⟨q1, q2, q3⟩ := G0.out _ hb; have b0 := q1 0; have b1 := q1 1; have b2 := q1 2; have b3 := q1 3; have s0 := q2 0; have s1 := q2 1; have s2 := q2 2; have s3 := q2 3; have g0 := q3 0; have g1 := q3 1; have g2 := q3 2; have g3 := q3 3; clear q1 q2 q3 hb)
            | (go_at_call 56; go_must (refine (hasEdge_any f.blocks _ _ B _ _ _ _ _ (HPW.out _ (by exact HB1.out.alloc HB1.out.size _)).2.1 (by have := HS0.out; have := HB1.out.size; simp; omega)).mono ?_); rintro e w2 ⟨he, hb⟩; rw [HH.out] at he; subst he; have HB2 := hideI ((HB1.out.alloc HB1.out.size _).trans (hb.mono (by have := HB1.out.size; simp; omega))); obtain ⟨q1, q2, q3⟩ := G0.out _ HB2.out; have b0 := q1 0; have b1 := q1 1; have b2 := q1 2; have b3 := q1 3; have s0 := q2 0; have s1 := q2 1; have s2 := q2 2; have s3 := q2 3; have g0 := q3 0; have g1 := q3 1; have g2 := q3 2; have g3 := q3 3; clear q1 q2 q3 hb)
            | (go_at_call 50; go_must (refine (fresh_own f B _ _ _ (HPW.out _ HB2.out).1 (HPW.out _ HB2.out).2.1 (by have := HS0.out; have := HB2.out.size; omega) H0.out).mono ?_); rintro e w3 ⟨v1, base, A1, c1, A2, c2, rfl, e1, e2, hown, hw1, hw2, hb⟩; have HE1 := hideI e1; have HE2 := hideI e2; have HOW := hideI hown; have HB3 := hideI hb; clear e1 e2 hown hb)
            | (go_at_call 57; go_must (refine (split_own (w := w2) i j HOW.out HE1.out HE2.out H0.out HQ.out hj hw2 hw1 HB3.out).mono ?_); rintro e w4 ⟨v3, base2, A3, c3, A4, c4, rfl, e3, e4, hown2, hw3, hw4, hb⟩; have HE3 := hideI e3; have HE4 := hideI e4; have HOW2 := hideI hown2; have HB4 := hideI (HB2.out.trans (hb.mono HB2.out.size)); obtain ⟨q1, q2, q3⟩ := G0.out _ HB4.out; have s0 := q2 0; have s1 := q2 1; have s2 := q2 2; have s3 := q2 3; have g0 := q3 0; have g1 := q3 1; have g2 := q3 2; have g3 := q3 3; clear q1 q2 q3 hb e3 e4 hown2))
          have h2s := HB2.out.size
          have hs0 := HS0.out
          have hno : ∀ t, TI (splitM f i j) t → (v3 t).ownBlock ≠ some (w.heap.size + 1) := fun t ht e => by
            have := (HOW2.out.lt ht e).1
            omega
          have hL := splitM_len f i j
          have hE4 := HE4.out
          have hE3 := HE3.out
          rw [hL] at hE4
          refine bodyPost_ret (v := .tuple #[.agg #[.slice A3 f.params.length c3, .int .i64 f.arrays, .int .i64 f.cells, .slice A4 (f.blocks.length + 1) c4], .int .i64 0]) (by simp [results, Try.results28, go_sem, s0, s1, s2, s3, splitM]) rfl (.inr ⟨?_, i, j, v3, base2, A3, c3, A4, c4, rfl, rfl, rfl, hE3, hE4, ?_, ?_, ?_, ?_⟩)
          · unfold splitErr
            rw [if_neg (by simpa using H0.out), if_neg (by rw [HH.out]; simp), if_neg (by omega)]
          · exact (((OwnG.other HOW2.out hno).other hno).other hno).other hno
          · omega
          · simpa using hw4
          · exact ((((HPW.out _ HB4.out).2.2.setCell (by simp) _).setCell (by simp) _).setCell (by simp) _).setCell (by simp) _
  · have H0 := hideI h0
    have hb0 : ((lookM f).1 != 0) = true := by simpa using h0
    clear h0
    go_enter Try.func28, Try.ntmps28
    go_upto_region 1 with fail
    rw [← HW0.out]
    go_wp2_with (first
      | (go_at_call 55; go_must (refine (size_any f B _ _ _ (HPW.out _ (Below.refl _ _)).1 (HPW.out _ (Below.refl _ _)).2.1 (by have := HS0.out; omega) HID.out).mono ?_); rintro e w1 ⟨rfl, hb⟩; have HB1 := hideI hb; obtain ⟨q1, q2, q3⟩ := G0.out _ hb; have b0 := q1 0; have b1 := q1 1; have b2 := q1 2; have b3 := q1 3; have s0 := q2 0; have s1 := q2 1; have s2 := q2 2; have s3 := q2 3; have g0 := q3 0; have g1 := q3 1; have g2 := q3 2; have g3 := q3 3; clear q1 q2 q3 hb))
    refine bodyPost_ret (v := .tuple #[.agg #[.slice none 0 0, .int .i64 0, .int .i64 0, .slice none 0 0], .int .i64 (lookM f).1]) (by simp [results, Try.results28, go_sem, s0, s1, s2, s3]) rfl (.inl ⟨(lookM f).1, H0.out, by unfold splitErr; rw [if_pos H0.out], rfl, ?_⟩)
    exact ((((HPW.out _ HB1.out).2.2.setCell (by simp) _).setCell (by simp) _).setCell (by simp) _).setCell (by simp) _

end Go.Proofs.Ytclbhbnidodmdaa

namespace Go.Proofs.Ytclbhbnidodmdaa
open Go.RowKit

theorem splitM_at (f : FuncM) (i j k : Nat) : (splitM f i j).blocks[k]? =
    if k = f.blocks.length then some ⟨[], [], ⟨1, -1, [toOf f i j], 0⟩⟩
    else (f.blocks[k]?.map fun b => if k = i then endM j f.blocks.length b else b).map fun b => if k = (toOf f i j).toNat then phisM i f.blocks.length (staysM f i j) b else b := by
  show (_ ++ _)[k]? = _
  by_cases h : k < f.blocks.length
  · rw [List.getElem?_append_left (by simpa using h), if_neg (by omega), modify_at, modify_at]
    cases f.blocks[k]? with
    | none => simp
    | some b =>
      simp only [Option.map_some]
      split <;> split <;> rfl
  · rw [List.getElem?_append_right (by simp; omega)]
    by_cases e : k = f.blocks.length
    · subst e; simp
    · rw [if_neg e, List.getElem?_eq_none (by simp; omega), List.getElem?_eq_none (by omega)]
      rfl

/-- the end of a block of the split function -/
theorem splitM_term {f : FuncM} {i j k : Nat} {q : BlockM} (hk : f.blocks[k]? = some q) : ∃ q1, (splitM f i j).blocks[k]? = some q1 ∧ q1.term.to = (if k = i then q.term.to.set j (f.blocks.length : Int) else q.term.to) := by
  have hl := (List.getElem?_eq_some_iff.1 hk).1
  rw [splitM_at, if_neg (by omega), hk]
  refine ⟨_, rfl, ?_⟩
  split <;> split <;> rfl

/-- the block in the middle -/
theorem splitM_new (f : FuncM) (i j : Nat) : (splitM f i j).blocks[f.blocks.length]? = some ⟨[], [], ⟨1, -1, [toOf f i j], 0⟩⟩ := by rw [splitM_at, if_pos rfl]

structure Apart (f h : FuncM) (b : Nat) (t0 t1 : Int) : Prop where
  len : h.blocks.length = f.blocks.length + 2
  now : ∃ q, h.blocks[b]? = some q ∧ q.term.to = [(f.blocks.length : Int), (f.blocks.length : Int) + 1]
  one : h.blocks[f.blocks.length]? = some ⟨[], [], ⟨1, -1, [t0], 0⟩⟩
  two : h.blocks[f.blocks.length + 1]? = some ⟨[], [], ⟨1, -1, [t1], 0⟩⟩

theorem apart_of {f : FuncM} {b : Nat} {q : BlockM} {t0 t1 : Int} (hq : f.blocks[b]? = some q) (ht : q.term.to = [t0, t1]) (hr : t1 < (f.blocks.length : Int)) (h0 : 0 ≤ t1) : Apart f (splitM (splitM f b 0) b 1) b t0 t1 := by
  have hb := (List.getElem?_eq_some_iff.1 hq).1
  have hl1 := splitM_len f b 0
  have hl2 := splitM_len (splitM f b 0) b 1
  obtain ⟨q1, hq1, ht1⟩ := splitM_term (i := b) (j := 0) hq
  rw [if_pos rfl, ht, List.set_cons_zero] at ht1
  obtain ⟨q2, hq2, ht2⟩ := splitM_term (f := splitM f b 0) (i := b) (j := 1) hq1
  rw [if_pos rfl, ht1, List.set_cons_succ, List.set_cons_zero, hl1] at ht2
  have e0 : toOf f b 0 = t0 := by unfold toOf; rw [hq]; simp only; rw [ht]; rfl
  have e1 : toOf (splitM f b 0) b 1 = t1 := by unfold toOf; rw [hq1]; simp only; rw [ht1]; rfl
  refine ⟨by omega, ⟨q2, hq2, by rw [ht2]; simp⟩, ?_, ?_⟩
  · rw [splitM_at, if_neg (by omega), splitM_new, e0, e1]
    simp only [Option.map_some]
    rw [if_neg (show ¬ f.blocks.length = b by omega), if_neg (show ¬ f.blocks.length = t1.toNat by omega)]
  · have := splitM_new (splitM f b 0) b 1
    rw [hl1, e1] at this
    exact this

theorem split_uses {f : FuncM} {i j : Nat} (h : (lookM f).1 = 0) : ∀ u ∈ usesM (splitM f i j), u ∈ usesM f := by
  have hr : ∀ b ∈ f.blocks, ∀ p ∈ b.phis, phiB f p = true := fun b hb => ((formed_all (look_formed h)).1 b hb).1
  have hv := split_variant (split_wider f i j) (look_some_block h).1 hr
  intro u hu
  unfold usesM at hu ⊢
  rw [List.mem_flatMap] at hu
  obtain ⟨c, hc, hu⟩ := hu
  rcases List.mem_append.1 hc with hc | hc
  · obtain ⟨k, hk⟩ := List.getElem?_of_mem hc
    have hil : k < f.blocks.length := by have := (List.getElem?_eq_some_iff.1 hk).1; simpa using this
    exact List.mem_flatMap.2 ⟨_, List.getElem_mem hil, (hv k _ c (List.getElem?_eq_getElem hil) hk).uses u hu⟩
  · rw [List.mem_singleton] at hc
    subst hc
    simp [usesBlock, usesTerm] at hu

theorem come_same (from_ mid : Int) (s : Bool) (p : PhiM) : (comeM from_ mid s p).id = p.id ∧ (comeM from_ mid s p).typ = p.typ := by
  unfold comeM
  split
  · split <;> exact ⟨rfl, rfl⟩
  · exact ⟨rfl, rfl⟩

theorem split_fits {f : FuncM} {i j : Nat} (h : FnFits f) : FnFits (splitM f i j) := by
  have key : ∀ c ∈ (splitM f i j).blocks, c = ⟨[], [], ⟨1, -1, [toOf f i j], 0⟩⟩ ∨ ∃ b ∈ f.blocks, (∀ p ∈ c.phis, ∃ p' ∈ b.phis, p.id = p'.id ∧ p.typ = p'.typ) ∧ c.code = b.code ∧ c.term.op = b.term.op ∧ c.term.val = b.term.val ∧ c.term.n = b.term.n := by
    intro c hc
    obtain ⟨k, hk⟩ := List.getElem?_of_mem hc
    rw [splitM_at] at hk
    split at hk
    · cases hk; exact .inl rfl
    · right
      cases hb : f.blocks[k]? with
      | none => rw [hb] at hk; cases hk
      | some b =>
        rw [hb] at hk
        simp only [Option.map_some, Option.some.injEq] at hk
        refine ⟨b, List.mem_of_getElem? hb, ?_⟩
        have h1 : ∀ b', (b' = if k = i then endM j f.blocks.length b else b) → b'.phis = b.phis ∧ b'.code = b.code ∧ b'.term.op = b.term.op ∧ b'.term.val = b.term.val ∧ b'.term.n = b.term.n := by
          intro b' e
          subst e
          split <;> exact ⟨rfl, rfl, rfl, rfl, rfl⟩
        obtain ⟨e1, e2, e3, e4, e5⟩ := h1 _ rfl
        subst hk
        split
        · refine ⟨fun p hp => ?_, e2, e3, e4, e5⟩
          unfold phisM at hp
          simp only at hp
          rw [e1] at hp
          obtain ⟨p', hp', rfl⟩ := List.mem_map.1 hp
          exact ⟨p', hp', come_same _ _ _ _⟩
        · refine ⟨fun p hp => ⟨p, by rw [← e1]; exact hp, rfl, rfl⟩, e2, e3, e4, e5⟩
  refine ⟨fun c hc p hp => ?_, fun c hc x hx => ?_, fun c hc => ?_⟩
  · rcases key c hc with rfl | ⟨b, hb, h1, _⟩
    · cases hp
    · obtain ⟨p', hp', e1, e2⟩ := h1 p hp
      rw [e1, e2]
      exact h.phi b hb p' hp'
  · rcases key c hc with rfl | ⟨b, hb, _, e2, _⟩
    · cases hx
    · rw [e2] at hx; exact h.code b hb x hx
  · rcases key c hc with rfl | ⟨b, hb, _, _, e3, e4, e5⟩
    · exact ⟨(by unfold I64; decide : I64 1), (by unfold I64; decide : I64 (-1)), (by unfold I64; decide : I64 0)⟩
    · rw [e3, e4, e5]; exact h.term b hb

theorem Owned.reads {w : World} {base : Nat} {f : FuncM} {val : Vals} (h : Owned w base f val) (h0 : (lookM f).1 = 0) (hf : FnFits f) : Ints w w.heap.size (val .params) f.params ∧ BlocksR w w.heap.size (val .blocks) f.blocks := by
  have hr := OwnG.rd (h.ee fun t ht => ht.ti) (look_small h0)
  exact ⟨hr.params, hr.blocks hf⟩

theorem splitErr_zero {f : FuncM} {a k : Int} (h : splitErr f a k = 0) : (lookM f).1 = 0 ∧ hasM f.blocks a k = true ∧ f.blocks.length < 512 ∧ sizeM f < 4096 := by
  unfold splitErr at h
  split at h
  · rename_i h1; exact absurd h h1
  · rename_i h1
    split at h
    · cases h
    · rename_i h2
      split at h
      · cases h
      · rename_i h3
        exact ⟨by simpa using h1, by simpa using h2, by omega, by omega⟩

end Go.Proofs.Ytclbhbnidodmdaa
