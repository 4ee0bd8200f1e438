/- What is proved: for every function f and number n, in whatever memory they lie, IrMore answers true: with a further block that nothing goes to, and a value that nobody uses, a right function stays right, is greater by two, and the value has no use. No condition. -/
import Derived.Test.YtnfcgafkkjakiaaFacts
import Derived.Test.YtnfcgafkkjakiaaRows6
import Derived.Test.YtnfcgafkkjakiaaAwake
namespace Go.Proofs.Ytnfcgafkkjakiaa.irMore
open Go.ChangeShapes Go.WideShapes Go.ChangeAt Go.RowKit

theorem look_params {f : FuncM} (h : (lookM f).1 = 0) : f.params.length ≤ 16 := by
  have hf := look_formed h
  unfold formedM at hf
  split at hf
  · rename_i hl
    simp only [Bool.and_eq_true] at hl
    exact (limits_bd hl.1.1).1
  · cases hf

theorem look_blocks {f : FuncM} (h : (lookM f).1 = 0) : 1 ≤ f.blocks.length := by
  have hf := look_formed h
  unfold formedM at hf
  split at hf
  · rename_i hl
    simp only [Bool.and_eq_true] at hl
    exact (limits_bd hl.1.1).2.2.2.2.2.1
  · cases hf

theorem block_new (w : World) (o : Obj) (cs : List Value) (t : TypeId) : ∀ (j : Nat) (u : Value), cs[j]? = some u → ((w.alloc o).alloc (.cells cs.toArray t)).cell? ((⟨w.heap.size + 1, 0, none⟩ : Addr).add j) = some u := by
  intro j u hu
  have h := heap_alloc_new (w.alloc o) (.cells cs.toArray t)
  simp only [World.size_alloc] at h
  rw [Go.WideShapes.add_plain, cell_of_row _ _ _ _ _ _ h, Nat.zero_add]
  simpa using hu

theorem own_ne {w : World} {base : Nat} {e t : TypeId} {size n g : Nat} {v : Value} {xs : List Value} {cs : Array Value} (h : w.ownsRow base e size v n xs) (hg : w.heap[g]? = some (.cells cs t (0, 0))) (hne : e ≠ t) : some g ≠ v.ownBlock := by
  rcases h.2 with ⟨rfl, _⟩ | ⟨g', cap, cur, rfl, _, hh, _⟩
  · simp [Value.ownBlock]
  · intro he
    have : g = g' := by simpa [Value.ownBlock] using he
    subst this
    rw [hg] at hh
    injection hh with hh
    injection hh with _ ht
    exact hne ht.symm

theorem row_form {w : World} {base : Nat} {e : TypeId} {size n : Nat} {v : Value} {xs : List Value} (h : w.ownsRow base e size v n xs) (hn : 0 < n) : ∃ g cap, v = .slice (some ⟨g, 0, none⟩) n cap ∧ g < w.heap.size := by
  obtain ⟨g, cap, hv, _, hg⟩ := h.form hn
  exact ⟨g, cap, hv, hg⟩

/-- a block of another type stands as it was behind two appends -/
theorem two_appends {W4 w4 w5 : World} {v1 : Value} {base n g : Nat} {cs : Array Value} {xs : List Value} {o1 o2 : Obj} {l0 c0 : Nat} (hh : W4.heap[g]? = some (.cells cs 25 (0, 0)))
    (h1 : W4.grownBy w4 (Value.slice (some ⟨g + 1, 0, none⟩) l0 c0).ownBlock) (ho : w4.ownsRow base 55 6 v1 n xs) (h2 : ((w4.alloc o1).alloc o2).grownBy w5 v1.ownBlock) : w5.heap[g]? = some (.cells cs 25 (0, 0)) := by
  have e1 : w4.heap[g]? = some (.cells cs 25 (0, 0)) := (h1.block g (lt_of_heap hh) (by simp [Value.ownBlock])).trans hh
  have l1 := lt_of_heap e1
  rw [h2.block g (by simp; omega) (own_ne ho e1 (by decide)), Below.heap_alloc _ _ _ (by simp; omega), Below.heap_alloc _ _ _ l1]
  exact e1

theorem last_at {l : List Int} {x : Int} (h : l.getLast? = some x) : ∃ m, l.length = m + 1 ∧ l[m]? = some x := by
  cases hl : l with
  | nil => rw [hl] at h; cases h
  | cons a r =>
    refine ⟨r.length, rfl, ?_⟩
    rw [hl, List.getLast?_eq_getElem?] at h
    exact h

/-- is f beyond what the law asks? -/
def tooGreat (f : FuncM) : Prop := (lookM f).1 ≠ 0 ∨ ((lookM f).1 = 0 ∧ (4000 < sizeM f ∨ 500 < f.blocks.length))

set_option maxHeartbeats 2000000 in
/-- where f is not right, or too great -/
theorem walk_no (f : FuncM) (pv bv : Value) (n : Int) (w : World) (hF : FnIn w f pv bv) (hno : tooGreat f) :
    Calls Try.prog 6 #[.agg #[pv, .int .i64 f.arrays, .int .i64 f.cells, bv], .int .i64 n] w fun e w' => e = .returned (.bool true) ∧ Below w.heap.size w w' := by
  have HF := hideI hF
  have HID := hideI (uses_i64 hF.ok)
  obtain ⟨P, pc, hpv, _⟩ := hF.par
  obtain ⟨A, c, hbv, _⟩ := hF.blk
  subst hpv hbv
  have HB : Hid (Below w.heap.size w (w.alloc (.cells #[.slice P f.params.length pc, .int .i64 f.arrays, .int .i64 f.cells, .slice A f.blocks.length c] 25))) := (Below.refl _ w).alloc (Nat.le_refl _) _
  have HX := hideI (heap_alloc_new w (.cells #[.slice P f.params.length pc, .int .i64 f.arrays, .int .i64 f.cells, .slice A f.blocks.length c] 25))
  have hcase : ((lookM f).1 != 0) = true ∨ (((lookM f).1 != 0) = false ∧ (4000 < sizeOut f ∨ (sizeOut f ≤ 4000 ∧ 500 < f.blocks.length))) := by
    rcases hno with h | ⟨h, h2⟩
    · exact .inl (by simpa using h)
    · refine .inr ⟨by simpa using h, ?_⟩
      have e : sizeOut f = sizeM f := by unfold sizeOut; rw [if_pos h]
      rw [e]
      omega
  clear hF hno
  rcases hcase with h1 | ⟨h1, h2 | ⟨h2, h3⟩⟩
  all_goals
    go_enter Try.func6, Try.ntmps6
    go_wp2_with (first
      | (go_at_call 9; refine (size_any f w.heap.size _ _ _ (HF.out.par.keeps (Keeps.of_below HB.out)) (HF.out.blk.keeps (Keeps.of_below HB.out)) HB.out.size HID.out).mono ?_; rintro e w1 ⟨rfl, hb⟩; replace HX := hideI ((hb.block _ (lt_of_heap HX.out)).trans HX.out); have hx := row_cells HX.out rfl; replace HB := hideI (HB.out.trans (hb.mono HB.out.size)); clear hb)
      | (go_at_call 8; refine (ids_any f w.heap.size _ _ _ (HF.out.par.keeps (Keeps.of_below HB.out)) (HF.out.blk.keeps (Keeps.of_below HB.out)) HB.out.size HID.out).mono ?_; rintro e w2 ⟨v2, rfl, hv2, hb⟩; obtain ⟨IA, ic, rfl, _⟩ := hv2; replace HX := hideI ((hb.block _ (lt_of_heap HX.out)).trans HX.out); replace hx := row_cells HX.out rfl; replace HB := hideI (HB.out.trans (hb.mono HB.out.size)); clear hb)
      | (go_at_call 12; refine (awake_any _).mono ?_; rintro e w3 ⟨rfl, hb⟩; replace HX := hideI ((hb.block _ (lt_of_heap HX.out)).trans HX.out); replace hx := row_cells HX.out rfl; replace HB := hideI (HB.out.trans (hb.mono HB.out.size)); clear hb))
    go_ret
    exact ⟨rfl, HB.out⟩

set_option maxRecDepth 100000 in
set_option maxHeartbeats 4000000 in
theorem walk_yes (f : FuncM) (pv bv : Value) (n : Int) (w : World) (hF : FnIn w f pv bv) (h0 : (lookM f).1 = 0) (hs : sizeM f ≤ 4000) (hl : f.blocks.length ≤ 500) (hnw : I64 n) :
    Calls Try.prog 6 #[.agg #[pv, .int .i64 f.arrays, .int .i64 f.cells, bv], .int .i64 n] w fun e w' => e = .returned (.bool true) ∧ Below w.heap.size w w' := by
  have HF := hideI hF
  have HID := hideI (uses_i64 hF.ok)
  obtain ⟨P, pc, hpv, _⟩ := hF.par
  obtain ⟨A, c, hbv, _⟩ := hF.blk
  subst hpv hbv
  have HB : Hid (Below w.heap.size w (w.alloc (.cells #[.slice P f.params.length pc, .int .i64 f.arrays, .int .i64 f.cells, .slice A f.blocks.length c] 25))) := (Below.refl _ w).alloc (Nat.le_refl _) _
  have HX := hideI (heap_alloc_new w (.cells #[.slice P f.params.length pc, .int .i64 f.arrays, .int .i64 f.cells, .slice A f.blocks.length c] 25))
  have h1 : ((lookM f).1 != 0) = false := by simpa using h0
  have h2 : sizeOut f ≤ 4000 := by unfold sizeOut; rw [if_pos h0]; omega
  have h3 : 0 ≤ sizeOut f := by unfold sizeOut; rw [if_pos h0]; omega
  have HN := hideI (next_new h0)
  have hnp := look_params h0
  have H0 := hideI h0
  have HS := hideI hs
  have hio : idsOut f = idsS f := by unfold idsOut; rw [if_pos h0]
  have HIO := hideI hio
  clear hF h0 hs hio
  obtain ⟨k, hk⟩ : ∃ k, k = nextId f := ⟨_, rfl⟩
  have HK := hideI hk
  cases hlast : (idsS f).getLast?
  case' none =>
    have hnil : idsS f = [] := List.getLast?_eq_none_iff.1 hlast
    have hk2 : (f.params.length : Int) = k := by rw [hk]; unfold nextId; rw [hlast]
    have HK2 := hideI hk2
    have HNIL := hideI hnil
    clear hlast hnil hk hk2
    go_enter Try.func6, Try.ntmps6
    go_upto_region 8 with (first
      | (go_at_call 9; refine (size_any f w.heap.size _ _ _ (HF.out.par.keeps (Keeps.of_below HB.out)) (HF.out.blk.keeps (Keeps.of_below HB.out)) HB.out.size HID.out).mono ?_; rintro e w1 ⟨rfl, hb⟩; replace HX := hideI ((hb.block _ (lt_of_heap HX.out)).trans HX.out); have hx := row_cells HX.out rfl; replace HB := hideI (HB.out.trans (hb.mono HB.out.size)); clear hb)
      | (go_at_call 8; refine (ids_any f w.heap.size _ _ _ (HF.out.par.keeps (Keeps.of_below HB.out)) (HF.out.blk.keeps (Keeps.of_below HB.out)) HB.out.size HID.out).mono ?_; rintro e w2 ⟨v2, rfl, hv2, hb⟩; obtain ⟨IA, ic, rfl, _⟩ := hv2; rw [HIO.out, HNIL.out]; replace HX := hideI ((hb.block _ (lt_of_heap HX.out)).trans HX.out); replace hx := row_cells HX.out rfl; replace HB := hideI (HB.out.trans (hb.mono HB.out.size)); clear hb)
      | (go_at_call 12; refine (awake_any _).mono ?_; rintro e w3 ⟨rfl, hb⟩; replace HX := hideI ((hb.block _ (lt_of_heap HX.out)).trans HX.out); replace hx := row_cells HX.out rfl; replace HB := hideI (HB.out.trans (hb.mono HB.out.size)); clear hb))
    rw [HK2.out]
  case' some x =>
    obtain ⟨m, hlen, hat⟩ := last_at hlast
    have hk2 : x + 1 = k := by rw [hk]; unfold nextId; rw [hlast]
    have HK2 := hideI hk2
    have HLEN := hideI hlen
    have HAT := hideI hat
    obtain ⟨hx0, hx1⟩ := last_bd H0.out hlast
    have hm5 : m ≤ 5000 := by have h1 := look_len H0.out; rw [← idsS_len] at h1; omega
    clear hlast hk hk2 hlen hat
    go_enter Try.func6, Try.ntmps6
    go_upto_region 8 with (first
      | (go_at_call 9; refine (size_any f w.heap.size _ _ _ (HF.out.par.keeps (Keeps.of_below HB.out)) (HF.out.blk.keeps (Keeps.of_below HB.out)) HB.out.size HID.out).mono ?_; rintro e w1 ⟨rfl, hb⟩; replace HX := hideI ((hb.block _ (lt_of_heap HX.out)).trans HX.out); have hx := row_cells HX.out rfl; replace HB := hideI (HB.out.trans (hb.mono HB.out.size)); clear hb)
      | (go_at_call 8; refine (ids_any f w.heap.size _ _ _ (HF.out.par.keeps (Keeps.of_below HB.out)) (HF.out.blk.keeps (Keeps.of_below HB.out)) HB.out.size HID.out).mono ?_; rintro e w2 ⟨v2, rfl, hv2, hb⟩; obtain ⟨IA, ic, rfl, _, hix⟩ := hv2; rw [HIO.out] at hix ⊢; rw [HLEN.out] at hix ⊢; obtain ⟨gi, ci, rfl, _, hgi, hci⟩ := hix (Nat.succ_pos _); have hcm := hci m (Nat.lt_succ_self _); rw [HAT.out] at hcm; have HGI := hideI hgi; have HCM := hideI hcm; clear hix hgi hci hcm; replace HX := hideI ((hb.block _ (lt_of_heap HX.out)).trans HX.out); replace hx := row_cells HX.out rfl; replace HB := hideI (HB.out.trans (hb.mono HB.out.size)); clear hb)
      | (go_at_call 12; refine (awake_any _).mono ?_; rintro e w3 ⟨rfl, hb⟩; have hlc := (row_cells HGI.out (hb.block _ (lt_of_heap HGI.out)) m).trans HCM.out; simp only [Option.getD_some] at hlc; replace HX := hideI ((hb.block _ (lt_of_heap HX.out)).trans HX.out); replace hx := row_cells HX.out rfl; replace HB := hideI (HB.out.trans (hb.mono HB.out.size)); clear hb))
    rw [HK2.out]
    clear hlc hx0 hx1
  all_goals
    cases hge : decide (1048576 ≤ k)
    · go_upto_region 11 with (fail)
      have HGE := hideI hge
      clear hge
      have hsz := lt_of_heap HX.out
      have hsz2 : w.heap.size < w3.heap.size + 1 := by omega
      have hsz3 : w.heap.size ≠ w3.heap.size := by omega
      have hsz4 : w.heap.size ≠ w3.heap.size + 1 := by omega
      obtain ⟨b, off, cb, xs, hbv, hbb, hxl, hxc, hx1, hxe⟩ := blocks_cells HF.out.blk (by have := look_blocks H0.out; omega)
      injection hbv with hbA hbn hbc
      subst hbA hbc
      obtain ⟨i0, hi, hz0, hz1, hz2⟩ := info_parts blk_info
      obtain ⟨W4, hW4⟩ : ∃ W4 : World, W4 = (w3.alloc (.cells #[.slice P f.params.length pc, .int .i64 f.arrays, .int .i64 f.cells, .slice (some ⟨b, off, none⟩) f.blocks.length c] 25)).alloc (.cells #[] 55) := ⟨_, rfl⟩
      have hown0 : W4.ownsRow w.heap.size 55 6 (.slice (some ⟨w3.heap.size + 1, 0, none⟩) 0 0) 0 [] := by
        rw [hW4]
        have := World.ownsRow_made (base := w.heap.size) (e := 55) (size := 6) (w3.alloc (.cells #[.slice P f.params.length pc, .int .i64 f.arrays, .int .i64 f.cells, .slice (some ⟨b, off, none⟩) f.blocks.length c] 25)) #[] 0 (by have := HB.out.size; simp; omega) (by decide) rfl
        simpa using this
      have hB4 : Below w.heap.size w W4 := by rw [hW4]; exact (HB.out.alloc HB.out.size _).alloc (by have := HB.out.size; simp; omega) _
      have hsrc : ∀ j u, xs[j]? = some u → W4.cell? ((⟨b, off, none⟩ : Addr).add j) = some u := by
        intro j u hu
        rw [Go.WideShapes.add_plain]
        exact (hB4.cell (p := ⟨b, off + j, none⟩) hbb).trans (hxc j u hu)
      have hh4 : W4.heap[w3.heap.size]? = some (.cells #[.slice P f.params.length pc, .int .i64 f.arrays, .int .i64 f.cells, .slice (some ⟨b, off, none⟩) f.blocks.length c] 25 (0, 0)) := by
        rw [hW4, Below.heap_alloc _ _ _ (by simp)]
        exact heap_alloc_new w3 _
      have HOWN := hideI hown0
      have HB4 := hideI hB4
      have HSRC := hideI hsrc
      have HH4 := hideI hh4
      have HX1 := hideI hx1
      have HXL := hideI hxl
      have HXE := hideI hxe
      have HSZ4 : Hid (W4.heap.size = w3.heap.size + 2) := by show W4.heap.size = _; rw [hW4]; simp
      clear hown0 hB4 hsrc hh4 hxc hx1 hxl hxe
      subst hW4
      go_wp2_with (first
        | (at_builtin; refine wpList_append_own _ rfl (.tmp 62) (.tmp 64) _ rfl w.heap.size 55 i0 _ 6 96 Try.underlying23 hi hz0 hz1 hz2 rfl (by decide) (.slice (some ⟨w3.heap.size + 1, 0, none⟩) 0 0) 0 [] rfl HOWN.out ⟨b, off, none⟩ f.blocks.length c xs rfl HXL.out HSRC.out HX1.out (by unfold maxLen; omega) (by omega) (by have := HB4.out.size; exact this) ?_; intro v1 w4 hown1 hgrow1 _; have HG1 := hideI hgrow1; have HO1 := hideI hown1; clear hgrow1 hown1)
        | (at_builtin; refine wpList_append_own _ rfl (.tmp 65) (.tmp 72) _ rfl w.heap.size 55 i0 _ 6 96 Try.underlying23 hi hz0 hz1 hz2 rfl (by decide) v1 (0 + f.blocks.length) ([] ++ xs) rfl ((HO1.out.alloc _).alloc _) ⟨w4.heap.size + 1, 0, none⟩ 1 1 [.slice none 0 0, .slice (some ⟨w4.heap.size, 0, none⟩) 1 1, .int .i64 4, .int .i64 (-1), .slice none 0 0, .int .i64 0] rfl rfl (block_new w4 _ _ _) (by simp [Value.oneCell']) (by unfold maxLen; omega) (by omega) (by have h1 := HB4.out.size; have h2 := HG1.out.size; simp at h2 ⊢; omega) ?_; intro v2 w5 hown2 hgrow2 _; have HG2 := hideI hgrow2; have HO2 := hideI hown2; go_must (obtain ⟨g, cap2, hv2, hgl⟩ := row_form hown2 (Nat.succ_pos _)); clear hgrow2 hown2; go_must (subst hv2); go_must (have HH5 := hideI (two_appends HH4.out HG1.out HO1.out HG2.out)); go_must (have kh := row_cells HH5.out rfl); go_must (have fh := free_row HH5.out rfl)))
      obtain ⟨W6, hW6⟩ : ∃ W6 : World, W6 = w5.setCell ⟨w3.heap.size, 3, none⟩ (.slice (some ⟨g, 0, none⟩) (f.blocks.length + 1) cap2) := ⟨_, rfl⟩
      have h5s : w4.heap.size + 2 ≤ w5.heap.size := by have := HG2.out.size; simp at this; omega
      have h34 : w3.heap.size + 2 ≤ w4.heap.size := by have h1 := HG1.out.size; have h2 := HSZ4.out; omega
      have hB5 : Below w.heap.size w w5 := (((HB4.out.grown HG1.out HB4.out.size (by intro g' hg'; simp [Value.ownBlock] at hg'; omega)).alloc (by omega) _).alloc (by simp; omega) _).grown HG2.out (by simp; omega) (fun g' hg' => (HO1.out.lt g' hg').1)
      have hB6 : Below w.heap.size w W6 := by rw [hW6]; exact hB5.setCell (by simp; omega) _
      have h6s : W6.heap.size = w5.heap.size := by rw [hW6]; simp [World.setCell]
      have hgne : g ≠ w3.heap.size := by
        intro e
        have := own_ne HO2.out HH5.out (by decide)
        simp [Value.ownBlock, e] at this
      have hi6 : W6.heap[w4.heap.size]? = some (.cells #[.int .i64 1, .int .i64 k, .slice none 0 0, .int .i64 n] 49 (0, 0)) := by
        rw [hW6, Below.heap_setCell _ _ _ _ (by simp; omega), HG2.out.block _ (by simp; omega) (fun e => by have := (HO1.out.lt _ e.symm).2; omega), Below.heap_alloc _ _ _ (by simp)]
        exact heap_alloc_new w4 _
      have hrow : ∀ j u, (xs ++ [.slice none 0 0, .slice (some ⟨w4.heap.size, 0, none⟩) 1 1, .int .i64 4, .int .i64 (-1), .slice none 0 0, .int .i64 0])[j]? = some u → W6.cell? ⟨g, 0 + j, none⟩ = some u := by
        intro j u hu
        rw [hW6, World.cell?_of_block (w := w5) (Below.heap_setCell _ _ _ _ (by simpa using hgne)), ← Go.WideShapes.add_plain]
        exact HO2.out.cells (g := g) rfl j u (by simpa using hu)
      have hkk := HN.out
      rw [← HK.out] at hkk
      have hk20 : withinB k f.params.length 1048575 = true := by
        unfold withinB
        have h1 := HGE.out
        simp only [decide_eq_false_iff_not] at h1
        simp only [Bool.and_eq_true, decide_eq_true_eq]
        omega
      have hkw : I64 k := WalkArith.wf_i64 (by have := within_bd hk20; omega)
      have hlk := look_more (n := n) H0.out HS.out hl hkk.1 hk20
      have hbr := blocks_copy (cap := cap2) HF.out.blk rfl (Keeps.of_below hB6) HXL.out HXE.out hrow rfl hi6 hB6.size (by omega) hl hkw hnw
      have hpr := HF.out.par.keeps (Keeps.of_below hB6)
      have hidm : ∀ u ∈ usesM (moreM f k n), I64 u.1 := by rw [uses_more]; exact HID.out
      have e1 : sizeOut (moreM f k n) = sizeOut f + 2 := by
        unfold sizeOut
        rw [hlk, if_pos rfl, if_pos H0.out, size_more]
        rfl
      have hus : usesErr (lookM f).2 (usesM f) = 0 := by
        have h3 := look_some (look_formed H0.out)
        by_cases hu : usesErr (lookM f).2 (usesM f) = 0
        · exact hu
        · have h4 := H0.out
          rw [if_neg hu] at h3
          rw [h3] at h4
          exact absurd h4 hu
      have e2 : useOut (moreM f k n) k = (0, 0) := by
        rw [useOut_some (t := 1) (by rw [hlk]) (by rw [hlk, Defs.at_snoc, hkk.1]; simp), uses_more, count_none hus hkk.1]
      have HSz : Hid (Calls Try.prog 9 #[.agg #[.slice P f.params.length pc, .int .i64 f.arrays, .int .i64 f.cells, .slice (some ⟨g, 0, none⟩) (f.blocks.length + 1) cap2]] W6 fun e w' => e = .returned (.tuple #[.int .i64 (sizeOut f + 2), .int .i64 0]) ∧ Below W6.heap.size W6 w') := by
        have h := size_any (moreM f k n) W6.heap.size (.slice P f.params.length pc) (.slice (some ⟨g, 0, none⟩) (f.blocks.length + 1) cap2) W6 (hpr.more hB6.size) hbr (Nat.le_refl _) hidm
        rw [e1, hlk] at h
        exact h
      have HUs : Hid (∀ W, Below W6.heap.size W6 W → Calls Try.prog 11 #[.agg #[.slice P f.params.length pc, .int .i64 f.arrays, .int .i64 f.cells, .slice (some ⟨g, 0, none⟩) (f.blocks.length + 1) cap2], .int .i64 k] W fun e w' => e = .returned (.tuple #[.int .i64 0, .int .i64 0]) ∧ Below W.heap.size W w') := by
        intro W hW
        have h := uses_any (moreM f k n) W6.heap.size (.slice P f.params.length pc) (.slice (some ⟨g, 0, none⟩) (f.blocks.length + 1) cap2) k W ((hpr.more hB6.size).keep hW) (hbr.keeps (Keeps.of_below hW)) hW.size hidm hkw (fun _ => by show _ < _; rw [uses_more]; exact uses_len HF.out.ok H0.out)
        rw [e2] at h
        exact h
      have hh6 : W6.heap[w3.heap.size]? = some (.cells #[.slice P f.params.length pc, .int .i64 f.arrays, .int .i64 f.cells, .slice (some ⟨g, 0, none⟩) (f.blocks.length + 1) cap2] 25 (0, 0)) := by
        rw [hW6]
        simp [World.setCell, Array.getElem?_modify, HH5.out]
      have HH6 := hideI hh6
      have HB6 := hideI hB6
      have H36 : Hid (w3.heap.size < W6.heap.size) := by show _ < _; omega
      clear h5s h34 hB5 hB6 h6s hgne hi6 hrow hkk hk20 hlk hbr hpr hidm e1 hus e2 hh6 kh fh hgl hx
      subst hW6
      go_wp2_with (first
        | (go_at_call 9; refine HSz.out.mono ?_; rintro e w7 ⟨rfl, hb⟩; have HB7 := hideI hb; have hx7 := row_cells HH6.out (hb.block _ H36.out); clear hb)
        | (go_at_call 11; refine (HUs.out _ HB7.out).mono ?_; rintro e w8 ⟨rfl, hb⟩; have HB8 := hideI hb; clear hb))
      go_ret
      exact ⟨rfl, (HB6.out.trans (HB7.out.mono HB6.out.size)).trans (HB8.out.mono (Nat.le_trans HB6.out.size HB7.out.size))⟩
    · go_wp2
      go_ret
      exact ⟨rfl, HB.out⟩

theorem walk (f : FuncM) (pv bv : Value) (n : Int) (w : World) (hF : FnIn w f pv bv) (hnw : I64 n) :
    Calls Try.prog 6 #[.agg #[pv, .int .i64 f.arrays, .int .i64 f.cells, bv], .int .i64 n] w fun e w' => e = .returned (.bool true) ∧ Below w.heap.size w w' := by
  by_cases h0 : (lookM f).1 = 0
  · by_cases hs : sizeM f ≤ 4000 ∧ f.blocks.length ≤ 500
    · exact walk_yes f pv bv n w hF h0 hs.1 hs.2 hnw
    · exact walk_no f pv bv n w hF (.inr ⟨h0, by omega⟩)
  · exact walk_no f pv bv n w hF (.inl h0)

set_option maxRecDepth 100000 in
theorem lifted (os : Os) (started : os.Started) (H : Type) (enc : TypeId × Value → H) :
    ReturnsInHanded {} Try.checked os 6 .any (Rows.irMoreSpec.pre6 enc Try.prog Try.f6 Rows.irMoreRow.domain false) (Rows.irMoreSpec.post enc Try.prog Try.f6 false true false false) := by
  refine returnsInHanded_of_change_sized (C := Try.checked) own started (by kernel_rfl) Try.func6
    (ChangeSpec.witness6 (enc := enc) (C := Try.checked) false ⟨#[], #[.agg #[.slice none 0 0, .int .i64 0, .int .i64 0, .slice none 0 0], .int .i64 0], []⟩ 8 (by kernel_rfl) (by kernel_rfl) (by kernel_rfl) (by kernel_rfl)) ?_
  intro W base args ds gs before hval0 hW hcnd hsz _
  have hval : ∀ (j : Nat) t v, Try.f6.params[j]? = some t → args[j]? = some v → Value.okWide Try.prog W .any base t v := hval0
  have hW' := hW
  obtain ⟨p, q, hA0, hV, rfl, hfz, hnd⟩ := hW
  have hA : DataW.TrodAll enc Try.prog W 0 (fun _ => true) true Try.f6.params.toList args.toList ds p := hA0
  rw [Try.params6] at hA hval
  obtain ⟨v0, vs0, d0, ds0, p0, q0, hargs, rfl, rfl, h0, r0⟩ := trodAll_cons hA
  obtain ⟨v1, vs1, d1, ds1, p1, q1, rfl, rfl, rfl, h1, r1⟩ := trodAll_cons r0
  obtain ⟨rfl, rfl, rfl⟩ := trodAll_nil r1
  obtain rfl : args = #[v0, v1] := by cases args; simp_all
  obtain ⟨rfl, rfl⟩ := trodVars_none hV
  obtain ⟨a1, rfl, rfl, rfl, w1⟩ := open_int Try.underlying3 (hval 1 3 v1 rfl rfl) h1
  obtain ⟨f, pv, bv, rfl, hF⟩ := open_func (hval 0 25 v0 rfl rfl) h0 hsz (j := 0) rfl rfl
  clear hA0 hval0
  refine (walk f pv bv a1 W hF w1).mono fun e W' ⟨he, hg⟩ => ?_
  subst he
  exact ⟨_, rfl, law_post (by kernel_rfl) hW' rfl (by kernel_rfl) Try.underlying4 rfl rfl rfl (by rw [Try.params6]; decide +kernel) hg⟩

theorem over : Rows.irMoreRow.holds Try.pinned (OpenSpec.ofChange Rows.irMoreSpec) :=
  OpenClaim.holds_of_wide 6 Try.f6 rfl rfl rfl rfl rfl rfl rfl ⟨rfl, rfl, rfl, rfl, rfl⟩ rfl rfl rfl rfl rfl (by kernel_rfl) Try.func6 (by kernel_rfl)
    (of_decide_eq_true (by kernel_rfl)) (by unfold Func.isWrapper; first | (rw [if_pos (by decide +kernel)]; kernel_rfl) | (rw [if_neg (by decide +kernel)]; exact ⟨rfl, rfl⟩))
    (fun os started H enc _ => lifted os started H enc)

theorem proved : Rows.IrMoreSaid := over
#print axioms proved
end Go.Proofs.Ytnfcgafkkjakiaa.irMore
