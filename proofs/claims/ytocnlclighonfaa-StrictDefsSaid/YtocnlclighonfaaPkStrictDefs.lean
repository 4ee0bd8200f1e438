/- StrictDefs: for every function and every number, strict.DefOf answers the error of the reference's Check, or where the reference finds the value made, or that there is none. No condition. -/
import Derived.Test.YtocnlclighonfaaPkStrictDefs12
namespace Go.Proofs.Ytocnlclighonfaa.strictDefs
open Go.ChangeShapes Go.WideShapes Go.ChangeAt Go.RowKit Go.Maps

set_option maxRecDepth 100000 in
set_option maxHeartbeats 4000000 in
theorem walk_no (f : FuncM) (pv bv : Value) (id : Int) (w : World) (hF : FnIn w f pv bv) (hi : I64 id) (hno : (lookM f).1 ≠ 0) :
    Calls Try.prog 10 #[.agg #[pv, .int .i64 f.arrays, .int .i64 f.cells, bv], .int .i64 id] w fun e w' => e = .returned (.bool true) ∧ Below w.heap.size w w' := by
  have HF := hideI hF
  have HID := hideI (uses_i64 hF.ok)
  have HI := hideI hi
  obtain ⟨P, pc, hpv, _⟩ := hF.par
  obtain ⟨A, cc, hbv, _⟩ := hF.blk
  subst hpv hbv
  have HB : Hid (Below w.heap.size w (w.alloc (.cells #[.slice P f.params.length pc, .int .i64 f.arrays, .int .i64 f.cells, .slice A f.blocks.length cc] 25))) := (Below.refl _ w).alloc (Nat.le_refl _) _
  have HX := hideI (heap_alloc_new w (.cells #[.slice P f.params.length pc, .int .i64 f.arrays, .int .i64 f.cells, .slice A f.blocks.length cc] 25))
  have HNO := hideI hno
  have hn1 : ((lookM f).1 != 0) = true := by simpa using hno
  have hn3 : ((lookM f).1 == (lookM f).1) = true := by simp
  clear hF hno hi
  go_enter Try.func10, Try.ntmps10
  go_wp2_with (first
    | (go_at_call 31; go_must (refine (defOf_any f w.heap.size _ _ id _ (HF.out.par.keeps (Keeps.of_below HB.out)) (HF.out.blk.keeps (Keeps.of_below HB.out)) HB.out.size HID.out HI.out).mono ?_); rintro e w1 ⟨⟨_, rfl⟩ | ⟨hbad, _⟩ | ⟨hbad, _⟩, hb⟩; rotate_left; (exact absurd hbad HNO.out); (exact absurd hbad HNO.out); replace HX := hideI ((hb.block _ (lt_of_heap HX.out)).trans HX.out); have hx := row_cells HX.out rfl; replace HB := hideI (HB.out.trans (hb.mono HB.out.size)); clear hb)
    | (go_at_call 13; go_must (refine (refCheck_any f w.heap.size _ _ _ (HF.out.par.keeps (Keeps.of_below HB.out)) (HF.out.blk.keeps (Keeps.of_below HB.out)) HB.out.size).mono ?_); rintro e w2 ⟨rfl, hb⟩; clear hx; replace HB := hideI (HB.out.trans (hb.mono HB.out.size)); clear hb)
    | (go_at_call 30; refine (awake5_any _).mono ?_; rintro e w5 ⟨rfl, hb⟩; replace HB := hideI (HB.out.trans (hb.mono HB.out.size)); clear hb))
  go_ret
  exact ⟨by simp, HB.out⟩

set_option maxRecDepth 100000 in
set_option maxHeartbeats 4000000 in
theorem walk_yes (f : FuncM) (pv bv : Value) (id : Int) (w : World) (hF : FnIn w f pv bv) (hi : I64 id) (h0 : (lookM f).1 = 0) :
    Calls Try.prog 10 #[.agg #[pv, .int .i64 f.arrays, .int .i64 f.cells, bv], .int .i64 id] w fun e w' => e = .returned (.bool true) ∧ Below w.heap.size w w' := by
  have HF := hideI hF
  have HID := hideI (uses_i64 hF.ok)
  have HI := hideI hi
  obtain ⟨P, pc, hpv, _⟩ := hF.par
  obtain ⟨A, cc, hbv, _⟩ := hF.blk
  subst hpv hbv
  have HB : Hid (Below w.heap.size w (w.alloc (.cells #[.slice P f.params.length pc, .int .i64 f.arrays, .int .i64 f.cells, .slice A f.blocks.length cc] 25))) := (Below.refl _ w).alloc (Nat.le_refl _) _
  have HX := hideI (heap_alloc_new w (.cells #[.slice P f.params.length pc, .int .i64 f.arrays, .int .i64 f.cells, .slice A f.blocks.length cc] 25))
  have H0 := hideI h0
  have HFEW := hideI (look_fewv h0)
  have hn5 := (look_some_block h0).2
  have HLF := hideI (Placed.last_first (placed_nodup h0) id)
  clear hF h0 hi
  cases hl : (placedM f).last id with
  | none =>
    have HL := hideI hl
    have HL2 : Hid ((placedM f).first id = none) := by show _ = _; rw [← HLF.out, hl]
    clear hl
    go_enter Try.func10, Try.ntmps10
    go_wp2_with (first
      | (go_at_call 31; go_must (refine (defOf_any f w.heap.size _ _ id _ (HF.out.par.keeps (Keeps.of_below HB.out)) (HF.out.blk.keeps (Keeps.of_below HB.out)) HB.out.size HID.out HI.out).mono ?_); rintro e w1 ⟨⟨hbad, _⟩ | ⟨_, _, rfl⟩ | ⟨_, b, a, hbad, _⟩, hb⟩; (exact absurd H0.out hbad); rotate_left; (rw [HL.out] at hbad; cases hbad); replace HX := hideI ((hb.block _ (lt_of_heap HX.out)).trans HX.out); have hx := row_cells HX.out rfl; replace HB := hideI (HB.out.trans (hb.mono HB.out.size)); clear hb)
      | (go_at_call 13; go_must (refine (refCheck_any f w.heap.size _ _ _ (HF.out.par.keeps (Keeps.of_below HB.out)) (HF.out.blk.keeps (Keeps.of_below HB.out)) HB.out.size).mono ?_); rw [H0.out]; rintro e w2 ⟨rfl, hb⟩; clear hx; replace HX := hideI ((hb.block _ (lt_of_heap HX.out)).trans HX.out); replace HB := hideI (HB.out.trans (hb.mono HB.out.size)); clear hb)
      | (go_at_call 30; refine (awake5_any _).mono ?_; rintro e w5 ⟨rfl, hb⟩; replace HX := hideI ((hb.block _ (lt_of_heap HX.out)).trans HX.out); have hx := row_cells HX.out rfl; replace HB := hideI (HB.out.trans (hb.mono HB.out.size)); clear hb)
      | (go_at_call 32; go_must (refine (refDef_any f w.heap.size _ _ id _ (HF.out.par.keeps (Keeps.of_below HB.out)) (HF.out.blk.keeps (Keeps.of_below HB.out)) HB.out.size HFEW.out hn5).mono ?_); rintro e w6 ⟨⟨v, hbad, _⟩ | ⟨_, rfl⟩, hb⟩; (rw [HL2.out] at hbad; cases hbad); clear hx; replace HB := hideI (HB.out.trans (hb.mono HB.out.size)); clear hb))
    go_ret
    exact ⟨by simp, HB.out⟩
  | some m =>
    obtain ⟨mb, ma⟩ := m
    have HL := hideI hl
    have HL2 : Hid ((placedM f).first id = some (mb, ma)) := by show _ = _; rw [← HLF.out, hl]
    clear hl
    go_enter Try.func10, Try.ntmps10
    go_wp2_with (first
      | (go_at_call 31; go_must (refine (defOf_any f w.heap.size _ _ id _ (HF.out.par.keeps (Keeps.of_below HB.out)) (HF.out.blk.keeps (Keeps.of_below HB.out)) HB.out.size HID.out HI.out).mono ?_); rintro e w1 ⟨⟨hbad, _⟩ | ⟨_, hbad, _⟩ | ⟨_, b, a, hm, rfl⟩, hb⟩; (exact absurd H0.out hbad); (rw [HL.out] at hbad; cases hbad); obtain ⟨rfl, rfl⟩ : b = mb ∧ a = ma := (by rw [HL.out] at hm; injection hm with hm; injection hm with h1 h2; exact ⟨h1.symm, h2.symm⟩); clear hm; replace HX := hideI ((hb.block _ (lt_of_heap HX.out)).trans HX.out); have hx := row_cells HX.out rfl; replace HB := hideI (HB.out.trans (hb.mono HB.out.size)); clear hb)
      | (go_at_call 13; go_must (refine (refCheck_any f w.heap.size _ _ _ (HF.out.par.keeps (Keeps.of_below HB.out)) (HF.out.blk.keeps (Keeps.of_below HB.out)) HB.out.size).mono ?_); rw [H0.out]; rintro e w2 ⟨rfl, hb⟩; clear hx; replace HX := hideI ((hb.block _ (lt_of_heap HX.out)).trans HX.out); replace HB := hideI (HB.out.trans (hb.mono HB.out.size)); clear hb)
      | (go_at_call 30; refine (awake5_any _).mono ?_; rintro e w5 ⟨rfl, hb⟩; replace HX := hideI ((hb.block _ (lt_of_heap HX.out)).trans HX.out); have hx := row_cells HX.out rfl; replace HB := hideI (HB.out.trans (hb.mono HB.out.size)); clear hb)
      | (go_at_call 32; go_must (refine (refDef_any f w.heap.size _ _ id _ (HF.out.par.keeps (Keeps.of_below HB.out)) (HF.out.blk.keeps (Keeps.of_below HB.out)) HB.out.size HFEW.out hn5).mono ?_); rintro e w6 ⟨⟨v, hv, rfl⟩ | ⟨hbad, _⟩, hb⟩; rotate_left; (rw [HL2.out] at hbad; cases hbad); rw [HL2.out] at hv; obtain rfl := Option.some.inj hv; clear hx hv; replace HB := hideI (HB.out.trans (hb.mono HB.out.size)); clear hb))
    go_ret
    exact ⟨by simp, HB.out⟩

theorem walk (f : FuncM) (pv bv : Value) (id : Int) (w : World) (hF : FnIn w f pv bv) (hi : I64 id) :
    Calls Try.prog 10 #[.agg #[pv, .int .i64 f.arrays, .int .i64 f.cells, bv], .int .i64 id] w fun e w' => e = .returned (.bool true) ∧ Below w.heap.size w w' := by
  by_cases h0 : (lookM f).1 = 0
  · exact walk_yes f pv bv id w hF hi h0
  · exact walk_no f pv bv id w hF hi h0

set_option maxRecDepth 100000 in
theorem lifted (os : Os) (started : os.Started) (H : Type) (enc : TypeId × Value → H) :
    ReturnsInHanded {} Try.checked os 10 .any (Rows.strictDefsSpec.pre6 enc Try.prog Try.f10 Rows.strictDefsRow.domain false) (Rows.strictDefsSpec.post enc Try.prog Try.f10 false true false false) := by
  refine returnsInHanded_of_change_sized (C := Try.checked) own started (by kernel_rfl) Try.func10
    (ChangeSpec.witness6 (enc := enc) (C := Try.checked) false ⟨#[], #[.agg #[.slice none 0 0, .int .i64 0, .int .i64 0, .slice none 0 0], .int .i64 0], []⟩ 8 (by kernel_rfl) (by kernel_rfl) (by kernel_rfl) (by kernel_rfl)) ?_
  intro W base args ds gs before hval0 hW hcnd hsz _
  have hval : ∀ (j : Nat) t v, Try.f10.params[j]? = some t → args[j]? = some v → Value.okWide Try.prog W .any base t v := hval0
  have hW' := hW
  obtain ⟨p, q, hA0, hV, rfl, hfz, hnd⟩ := hW
  have hA : DataW.TrodAll enc Try.prog W 0 (fun _ => true) true Try.f10.params.toList args.toList ds p := hA0
  rw [Try.params10] at hA hval
  obtain ⟨v0, vs0, d0, ds0, p0, q0, hargs, rfl, rfl, h0, r0⟩ := trodAll_cons hA
  obtain ⟨v1, vs1, d1, ds1, p1, q1, rfl, rfl, rfl, h1, r1⟩ := trodAll_cons r0
  obtain ⟨rfl, rfl, rfl⟩ := trodAll_nil r1
  obtain rfl : args = #[v0, v1] := by cases args; simp_all
  obtain ⟨rfl, rfl⟩ := trodVars_none hV
  obtain ⟨f, pv, bv, rfl, hF⟩ := open_func (hval 0 25 v0 rfl rfl) h0 hsz (j := 0) rfl rfl
  obtain ⟨x1, rfl, hx1, _, _⟩ := open_int Try.underlying3 (hval 1 3 v1 rfl rfl) h1
  clear hA0 hval0
  refine (walk f pv bv x1 W hF (by first | exact hx1 | assumption)).mono fun e W' ⟨he, hg⟩ => ?_
  subst he
  exact ⟨_, rfl, law_post (by kernel_rfl) hW' rfl (by kernel_rfl) Try.underlying4 rfl rfl rfl (by rw [Try.params10]; decide +kernel) hg⟩

theorem over : Rows.strictDefsRow.holds Try.pinned (OpenSpec.ofChange Rows.strictDefsSpec) :=
  OpenClaim.holds_of_wide 10 Try.f10 rfl rfl rfl rfl rfl rfl rfl ⟨rfl, rfl, rfl, rfl, rfl⟩ rfl rfl rfl rfl rfl (by kernel_rfl) Try.func10 (by kernel_rfl)
    (of_decide_eq_true (by kernel_rfl)) (by unfold Func.isWrapper; first | (rw [if_pos (by decide +kernel)]; kernel_rfl) | (rw [if_neg (by decide +kernel)]; exact ⟨rfl, rfl⟩))
    (fun os started H enc _ => lifted os started H enc)

theorem proved : Rows.StrictDefsSaid := over
#print axioms proved
end Go.Proofs.Ytocnlclighonfaa.strictDefs
