/- What is proved: for every function f and every two numbers, in whatever memory they lie, DomTrees answers true: Idoms and Dominates answer as the definition of dominance says, and their errors are Check's. No condition. -/
import Derived.Test.YtclbhbnidodmdaaRefIdoms
import Derived.Test.YtclbhbnidodmdaaAwake4
import Derived.Test.YtclbhbnidodmdaaRefCheck
import Derived.Test.YtclbhbnidodmdaaOpen
import Derived.Test.YtclbhbnidodmdaaLaw
namespace Go.Proofs.Ytclbhbnidodmdaa.domTrees
open Go.ChangeShapes Go.WideShapes Go.ChangeAt Go.RowKit

theorem over_bool (bs : List BlockM) (o : List Nat) : ∃ G : Nat → Nat → Bool, ∀ a b, G a b = true ↔ OverP bs o a b := by
  have h : ∀ p : Prop, ∃ r : Bool, r = true ↔ p := fun p => by
    by_cases h : p
    · exact ⟨true, by simp [h]⟩
    · exact ⟨false, by simp [h]⟩
  exact ⟨fun a b => Classical.choose (h (OverP bs o a b)), fun a b => Classical.choose_spec (h (OverP bs o a b))⟩

set_option maxRecDepth 100000 in
set_option maxHeartbeats 2000000 in
theorem walk_no (f : FuncM) (pv bv : Value) (a b : Int) (w : World) (hF : FnIn w f pv bv) (hno : (lookM f).1 ≠ 0) :
    Calls Try.prog 9 #[.agg #[pv, .int .i64 f.arrays, .int .i64 f.cells, bv], .int .i64 a, .int .i64 b] w fun e w' => e = .returned (.bool true) ∧ Below w.heap.size w w' := by
  have HF := hideI hF
  have HID := hideI (uses_i64 hF.ok)
  obtain ⟨P, pc, hpv, _⟩ := hF.par
  obtain ⟨A, cc, hbv, _⟩ := hF.blk
  subst hpv hbv
  have HB : Hid (Below w.heap.size w (w.alloc (.cells #[.slice P f.params.length pc, .int .i64 f.arrays, .int .i64 f.cells, .slice A f.blocks.length cc] 25))) := (Below.refl _ w).alloc (Nat.le_refl _) _
  have HX := hideI (heap_alloc_new w (.cells #[.slice P f.params.length pc, .int .i64 f.arrays, .int .i64 f.cells, .slice A f.blocks.length cc] 25))
  have HNO := hideI hno
  have hn1 : ((lookM f).1 != 0) = true := by simpa using hno
  have hn2 : ((lookM f).1 != (lookM f).1) = false := by simp
  have hn3 : ((lookM f).1 == (lookM f).1) = true := by simp
  clear hF hno
  go_enter Try.func9, Try.ntmps9
  go_wp2_with (first
    | (go_at_call 15; go_must (refine (refCheck_any f w.heap.size _ _ _ (HF.out.par.keeps (Keeps.of_below HB.out)) (HF.out.blk.keeps (Keeps.of_below HB.out)) HB.out.size).mono ?_); rintro e w1 ⟨rfl, hb⟩; replace HX := hideI ((hb.block _ (lt_of_heap HX.out)).trans HX.out); have hx := row_cells HX.out rfl; replace HB := hideI (HB.out.trans (hb.mono HB.out.size)); clear hb)
    | (go_at_call 30; go_must (refine (idoms_any f w.heap.size _ _ _ (HF.out.par.keeps (Keeps.of_below HB.out)) (HF.out.blk.keeps (Keeps.of_below HB.out)) HB.out.size HID.out).mono ?_); rintro e w2 (⟨_, rfl, hb⟩ | ⟨hbad, _⟩); rotate_left; (exact absurd hbad HNO.out); clear hx; replace HX := hideI ((hb.block _ (lt_of_heap HX.out)).trans HX.out); have hx := row_cells HX.out rfl; replace HB := hideI (HB.out.trans (hb.mono HB.out.size)); clear hb)
    | (go_at_call 31; go_must (refine (dominates_no f w.heap.size _ _ _ (HF.out.par.keeps (Keeps.of_below HB.out)) (HF.out.blk.keeps (Keeps.of_below HB.out)) HB.out.size HID.out a b HNO.out).mono ?_); rintro e w3 ⟨rfl, hb⟩; clear hx; replace HB := hideI (HB.out.trans (hb.mono HB.out.size)); clear hb)
    | (go_at_call 32; refine (awake4_any _).mono ?_; rintro e w5 ⟨rfl, hb⟩; replace HB := hideI (HB.out.trans (hb.mono HB.out.size)); clear hb))
  go_ret
  exact ⟨by simp, HB.out⟩

set_option maxRecDepth 100000 in
set_option maxHeartbeats 4000000 in
theorem walk_blocks (f : FuncM) (pv bv : Value) (a b : Nat) (w : World) (hF : FnIn w f pv bv) (h0 : (lookM f).1 = 0) (ha : a < f.blocks.length) (hb : b < f.blocks.length) :
    Calls Try.prog 9 #[.agg #[pv, .int .i64 f.arrays, .int .i64 f.cells, bv], .int .i64 a, .int .i64 b] w fun e w' => e = .returned (.bool true) ∧ Below w.heap.size w w' := by
  have HF := hideI hF
  have HID := hideI (uses_i64 hF.ok)
  obtain ⟨P, pc, hpv, _⟩ := hF.par
  obtain ⟨A, cc, hbv, _⟩ := hF.blk
  subst hpv hbv
  have HB : Hid (Below w.heap.size w (w.alloc (.cells #[.slice P f.params.length pc, .int .i64 f.arrays, .int .i64 f.cells, .slice A f.blocks.length cc] 25))) := (Below.refl _ w).alloc (Nat.le_refl _) _
  have HX := hideI (heap_alloc_new w (.cells #[.slice P f.params.length pc, .int .i64 f.arrays, .int .i64 f.cells, .slice A f.blocks.length cc] 25))
  have H0 := hideI h0
  have hnb := look_some_block h0
  have hn0 := hnb.1
  have hn5 := hnb.2
  clear hF h0 hnb
  go_enter Try.func9, Try.ntmps9
  go_wp2_with (first
    | (go_at_call 15; go_must (refine (refCheck_any f w.heap.size _ _ _ (HF.out.par.keeps (Keeps.of_below HB.out)) (HF.out.blk.keeps (Keeps.of_below HB.out)) HB.out.size).mono ?_); rw [H0.out]; rintro e w1 ⟨rfl, hb⟩; replace HX := hideI ((hb.block _ (lt_of_heap HX.out)).trans HX.out); have hx := row_cells HX.out rfl; replace HB := hideI (HB.out.trans (hb.mono HB.out.size)); clear hb)
    | (go_at_call 30; go_must (refine (idoms_any f w.heap.size _ _ _ (HF.out.par.keeps (Keeps.of_below HB.out)) (HF.out.blk.keeps (Keeps.of_below HB.out)) HB.out.size HID.out).mono ?_); rintro e w2 (⟨hbad, _⟩ | ⟨_, o, pl, par, capo, gi, rfl, hfs, hdone, hown, hb⟩); (exact absurd H0.out hbad); have HFS := hideI hfs; have HDONE := hideI hdone; have HOWN := hideI hown; (obtain ⟨G, hG⟩ := over_bool f.blocks o); (obtain ⟨r, hr⟩ : ∃ r, r = G a b := ⟨_, rfl⟩); have HR : Hid (r = true ↔ OverP f.blocks o a b) := hideI (by rw [hr]; exact hG a b); have HRG := hideI hr; have HG := hideI hG; clear hx hG hr; replace HX := hideI ((hb.block _ (lt_of_heap HX.out)).trans HX.out); have hx := row_cells HX.out rfl; replace HB := hideI (HB.out.trans (hb.mono HB.out.size)); clear hb hfs hdone hown)
    | (go_at_call 31; go_must (refine (dominates_yes f w.heap.size _ _ _ (HF.out.par.keeps (Keeps.of_below HB.out)) (HF.out.blk.keeps (Keeps.of_below HB.out)) HB.out.size HID.out a b o r H0.out HFS.out.order ha ‹b < f.blocks.length› HR.out).mono ?_); rintro e w3 ⟨rfl, hb⟩; clear hx; replace HOWN := hideI (own_kept_below HOWN.out hb (fun k hk => (HOWN.out.lt k hk).2)); replace HX := hideI ((hb.block _ (lt_of_heap HX.out)).trans HX.out); have hx := row_cells HX.out rfl; replace HB := hideI (HB.out.trans (hb.mono HB.out.size)); clear hb)
    | (go_at_call 32; refine (awake4_any _).mono ?_; rintro e w5 ⟨rfl, hb⟩; clear hx; replace HOWN := hideI (own_kept_below HOWN.out hb (fun k hk => (HOWN.out.lt k hk).2)); replace HX := hideI ((hb.block _ (lt_of_heap HX.out)).trans HX.out); have hx := row_cells HX.out rfl; replace HB := hideI (HB.out.trans (hb.mono HB.out.size)); clear hb)
    | (go_at_call 33; go_must (refine (refIdoms_any f.blocks o pl par G w.heap.size _ _ _ _ _ (HF.out.blk.keeps (Keeps.of_below HB.out)) HB.out.size hn0 hn5 (look_ends H0.out) HFS.out.order HFS.out.ord HDONE.out HFS.out.range HG.out).mono ?_); rintro e w6 ⟨v6, rfl, hown6, hb⟩; have HOW6 := hideI hown6; clear hx hown6; replace HOWN := hideI (own_kept_below HOWN.out hb (fun k hk => (HOWN.out.lt k hk).2)); replace HX := hideI ((hb.block _ (lt_of_heap HX.out)).trans HX.out); replace HB := hideI (HB.out.trans (hb.mono HB.out.size)); clear hb)
    | (go_at_call 23; go_must (refine (sameInts_any _ w6.heap.size _ _ (IdomsList f.blocks.length par) (IdomsList f.blocks.length par) (ints_own (by rw [← tops_list]; exact HOWN.out) (by simp [IdomsList]; omega)) (ints_own (by rw [← tops_list]; exact HOW6.out) (by simp [IdomsList]; omega))).mono ?_); rw [beq_self_eq_true]; rintro e w7 ⟨rfl, m7, rfl⟩; replace HX : Hid ((w6.drewN m7).heap[w.heap.size]? = _) := HX; replace HB := hideI (drew_below HB.out m7); have hx := row_cells HX.out rfl)
    | (go_at_call 34; go_must (refine (refOver_any f.blocks o G w.heap.size _ _ _ _ _ (HF.out.blk.keeps (Keeps.of_below HB.out)) HB.out.size hn0 hn5 (look_ends H0.out) HFS.out.order HG.out).mono ?_); rintro e w8 ⟨v8, rfl, hgr, hb⟩; (obtain ⟨gv, gc, rfl, _, hgrid⟩ := hgr); (obtain ⟨ga, _, k1, hrow⟩ := hgrid a ha); have k2 := hrow b ‹b < f.blocks.length›; rw [← HRG.out] at k2; replace HB := hideI (HB.out.trans (hb.mono HB.out.size)); clear hb hgrid hrow hx))
  go_ret
  exact ⟨by simp, HB.out⟩

set_option maxRecDepth 100000 in
set_option maxHeartbeats 4000000 in
theorem walk_none (f : FuncM) (pv bv : Value) (a b : Int) (w : World) (hF : FnIn w f pv bv) (h0 : (lookM f).1 = 0) (hn : (isBlockB f.blocks.length a && isBlockB f.blocks.length b) = false) :
    Calls Try.prog 9 #[.agg #[pv, .int .i64 f.arrays, .int .i64 f.cells, bv], .int .i64 a, .int .i64 b] w fun e w' => e = .returned (.bool true) ∧ Below w.heap.size w w' := by
  have HF := hideI hF
  have HID := hideI (uses_i64 hF.ok)
  obtain ⟨P, pc, hpv, _⟩ := hF.par
  obtain ⟨A, cc, hbv, _⟩ := hF.blk
  subst hpv hbv
  have HB : Hid (Below w.heap.size w (w.alloc (.cells #[.slice P f.params.length pc, .int .i64 f.arrays, .int .i64 f.cells, .slice A f.blocks.length cc] 25))) := (Below.refl _ w).alloc (Nat.le_refl _) _
  have HX := hideI (heap_alloc_new w (.cells #[.slice P f.params.length pc, .int .i64 f.arrays, .int .i64 f.cells, .slice A f.blocks.length cc] 25))
  have H0 := hideI h0
  have HN := hideI hn
  have hnb := look_some_block h0
  have hn0 := hnb.1
  have hn5 := hnb.2
  have hways : (a < 0) ∨ (¬ a < 0 ∧ b < 0) ∨ (¬ a < 0 ∧ ¬ b < 0 ∧ (f.blocks.length : Int) ≤ a) ∨ (¬ a < 0 ∧ ¬ b < 0 ∧ ¬ (f.blocks.length : Int) ≤ a ∧ (f.blocks.length : Int) ≤ b) := by
    simp only [isBlockB, Bool.and_eq_false_iff, decide_eq_false_iff_not] at hn
    omega
  clear hF h0 hnb hn
  rcases hways with hw | ⟨hw1, hw2⟩ | ⟨hw1, hw2, hw3⟩ | ⟨hw1, hw2, hw3, hw4⟩
  all_goals
    go_enter Try.func9, Try.ntmps9
    go_wp2_with (first
      | (go_at_call 15; go_must (refine (refCheck_any f w.heap.size _ _ _ (HF.out.par.keeps (Keeps.of_below HB.out)) (HF.out.blk.keeps (Keeps.of_below HB.out)) HB.out.size).mono ?_); rw [H0.out]; rintro e w1 ⟨rfl, hb⟩; replace HX := hideI ((hb.block _ (lt_of_heap HX.out)).trans HX.out); have hx := row_cells HX.out rfl; replace HB := hideI (HB.out.trans (hb.mono HB.out.size)); clear hb)
      | (go_at_call 30; go_must (refine (idoms_any f w.heap.size _ _ _ (HF.out.par.keeps (Keeps.of_below HB.out)) (HF.out.blk.keeps (Keeps.of_below HB.out)) HB.out.size HID.out).mono ?_); rintro e w2 (⟨hbad, _⟩ | ⟨_, o, pl, par, capo, gi, rfl, hfs, hdone, hown, hb⟩); (exact absurd H0.out hbad); have HFS := hideI hfs; have HDONE := hideI hdone; have HOWN := hideI hown; (obtain ⟨G, hG⟩ := over_bool f.blocks o); have HG := hideI hG; clear hx hG; replace HX := hideI ((hb.block _ (lt_of_heap HX.out)).trans HX.out); have hx := row_cells HX.out rfl; replace HB := hideI (HB.out.trans (hb.mono HB.out.size)); clear hb hfs hdone hown)
      | (go_at_call 31; go_must (refine (dominates_none f w.heap.size _ _ _ (HF.out.par.keeps (Keeps.of_below HB.out)) (HF.out.blk.keeps (Keeps.of_below HB.out)) HB.out.size HID.out a b H0.out HN.out).mono ?_); rintro e w3 ⟨rfl, hb⟩; clear hx; replace HOWN := hideI (own_kept_below HOWN.out hb (fun k hk => (HOWN.out.lt k hk).2)); replace HX := hideI ((hb.block _ (lt_of_heap HX.out)).trans HX.out); have hx := row_cells HX.out rfl; replace HB := hideI (HB.out.trans (hb.mono HB.out.size)); clear hb)
      | (go_at_call 32; refine (awake4_any _).mono ?_; rintro e w5 ⟨rfl, hb⟩; clear hx; replace HOWN := hideI (own_kept_below HOWN.out hb (fun k hk => (HOWN.out.lt k hk).2)); replace HX := hideI ((hb.block _ (lt_of_heap HX.out)).trans HX.out); have hx := row_cells HX.out rfl; replace HB := hideI (HB.out.trans (hb.mono HB.out.size)); clear hb)
      | (go_at_call 33; go_must (refine (refIdoms_any f.blocks o pl par G w.heap.size _ _ _ _ _ (HF.out.blk.keeps (Keeps.of_below HB.out)) HB.out.size hn0 hn5 (look_ends H0.out) HFS.out.order HFS.out.ord HDONE.out HFS.out.range HG.out).mono ?_); rintro e w6 ⟨v6, rfl, hown6, hb⟩; have HOW6 := hideI hown6; clear hx hown6; replace HOWN := hideI (own_kept_below HOWN.out hb (fun k hk => (HOWN.out.lt k hk).2)); replace HX := hideI ((hb.block _ (lt_of_heap HX.out)).trans HX.out); replace HB := hideI (HB.out.trans (hb.mono HB.out.size)); clear hb)
      | (go_at_call 23; go_must (refine (sameInts_any _ w6.heap.size _ _ (IdomsList f.blocks.length par) (IdomsList f.blocks.length par) (ints_own (by rw [← tops_list]; exact HOWN.out) (by simp [IdomsList]; omega)) (ints_own (by rw [← tops_list]; exact HOW6.out) (by simp [IdomsList]; omega))).mono ?_); rw [beq_self_eq_true]; rintro e w7 ⟨rfl, m7, rfl⟩; replace HX : Hid ((w6.drewN m7).heap[w.heap.size]? = _) := HX; replace HB := hideI (drew_below HB.out m7); have hx := row_cells HX.out rfl))
    go_ret
    exact ⟨by simp, HB.out⟩

theorem walk (f : FuncM) (pv bv : Value) (a b : Int) (w : World) (hF : FnIn w f pv bv) :
    Calls Try.prog 9 #[.agg #[pv, .int .i64 f.arrays, .int .i64 f.cells, bv], .int .i64 a, .int .i64 b] w fun e w' => e = .returned (.bool true) ∧ Below w.heap.size w w' := by
  by_cases h0 : (lookM f).1 = 0
  · cases hn : isBlockB f.blocks.length a && isBlockB f.blocks.length b with
    | false => exact walk_none f pv bv a b w hF h0 hn
    | true =>
      rw [Bool.and_eq_true] at hn
      obtain ⟨x, rfl, hx⟩ := isBlockB_nat hn.1
      obtain ⟨y, rfl, hy⟩ := isBlockB_nat hn.2
      exact walk_blocks f pv bv x y w hF h0 hx hy
  · exact walk_no f pv bv a b w hF h0

set_option maxRecDepth 100000 in
theorem lifted (os : Os) (started : os.Started) (H : Type) (enc : TypeId × Value → H) :
    ReturnsInHanded {} Try.checked os 9 .any (Rows.domTreesSpec.pre6 enc Try.prog Try.f9 Rows.domTreesRow.domain false) (Rows.domTreesSpec.post enc Try.prog Try.f9 false true false false) := by
  refine returnsInHanded_of_change_sized (C := Try.checked) own started (by kernel_rfl) Try.func9
    (ChangeSpec.witness6 (enc := enc) (C := Try.checked) false ⟨#[], #[.agg #[.slice none 0 0, .int .i64 0, .int .i64 0, .slice none 0 0], .int .i64 0, .int .i64 0], []⟩ 8 (by kernel_rfl) (by kernel_rfl) (by kernel_rfl) (by kernel_rfl)) ?_
  intro W base args ds gs before hval0 hW hcnd hsz _
  have hval : ∀ (j : Nat) t v, Try.f9.params[j]? = some t → args[j]? = some v → Value.okWide Try.prog W .any base t v := hval0
  have hW' := hW
  obtain ⟨p, q, hA0, hV, rfl, hfz, hnd⟩ := hW
  have hA : DataW.TrodAll enc Try.prog W 0 (fun _ => true) true Try.f9.params.toList args.toList ds p := hA0
  rw [Try.params9] at hA hval
  obtain ⟨v0, vs0, d0, ds0, p0, q0, hargs, rfl, rfl, h0, r0⟩ := trodAll_cons hA
  obtain ⟨v1, vs1, d1, ds1, p1, q1, rfl, rfl, rfl, h1, r1⟩ := trodAll_cons r0
  obtain ⟨v2, vs2, d2, ds2, p2, q2, rfl, rfl, rfl, h2, r2⟩ := trodAll_cons r1
  obtain ⟨rfl, rfl, rfl⟩ := trodAll_nil r2
  obtain rfl : args = #[v0, v1, v2] := by cases args; simp_all
  obtain ⟨rfl, rfl⟩ := trodVars_none hV
  obtain ⟨f, pv, bv, rfl, hF⟩ := open_func (hval 0 25 v0 rfl rfl) h0 hsz (j := 0) rfl rfl
  obtain ⟨x1, rfl, _, _, _⟩ := open_int Try.underlying3 (hval 1 3 v1 rfl rfl) h1
  obtain ⟨x2, rfl, _, _, _⟩ := open_int Try.underlying3 (hval 2 3 v2 rfl rfl) h2
  clear hA0 hval0
  refine (walk f pv bv x1 x2 W hF).mono fun e W' ⟨he, hg⟩ => ?_
  subst he
  exact ⟨_, rfl, law_post (by kernel_rfl) hW' rfl (by kernel_rfl) Try.underlying4 rfl rfl rfl (by rw [Try.params9]; decide +kernel) hg⟩

theorem over : Rows.domTreesRow.holds Try.pinned (OpenSpec.ofChange Rows.domTreesSpec) :=
  OpenClaim.holds_of_wide 9 Try.f9 rfl rfl rfl rfl rfl rfl rfl ⟨rfl, rfl, rfl, rfl, rfl⟩ rfl rfl rfl rfl rfl (by kernel_rfl) Try.func9 (by kernel_rfl)
    (of_decide_eq_true (by kernel_rfl)) (by unfold Func.isWrapper; first | (rw [if_pos (by decide +kernel)]; kernel_rfl) | (rw [if_neg (by decide +kernel)]; exact ⟨rfl, rfl⟩))
    (fun os started H enc _ => lifted os started H enc)

theorem proved : Rows.DomTreesSaid := over
#print axioms proved
end Go.Proofs.Ytclbhbnidodmdaa.domTrees
