/- StrictChecks: for every function, strict.Check answers the block and the error that the reference's Check answers. No condition. -/
import Derived.Test.YtocnlclighonfaaPkS513
namespace Go.Proofs.Ytocnlclighonfaa.strictChecks
open Go.ChangeShapes Go.WideShapes Go.ChangeAt Go.RowKit Go.Maps

set_option maxRecDepth 100000 in
set_option maxHeartbeats 4000000 in
theorem walk_no (f : FuncM) (pv bv : Value) (w : World) (hF : FnIn w f pv bv) (h0 : (lookM f).1 ≠ 0) :
    Calls Try.prog 9 #[.agg #[pv, .int .i64 f.arrays, .int .i64 f.cells, bv]] w fun e w' => e = .returned (.bool true) ∧ Below w.heap.size w w' := by
  have HF := hideI hF
  have HID := hideI (uses_i64 hF.ok)
  obtain ⟨P, pc, hpv, _⟩ := hF.par
  obtain ⟨A, cc, hbv, _⟩ := hF.blk
  subst hpv hbv
  have HB : Hid (Below w.heap.size w (w.alloc (.cells #[.slice P f.params.length pc, .int .i64 f.arrays, .int .i64 f.cells, .slice A f.blocks.length cc] 25))) := (Below.refl _ w).alloc (Nat.le_refl _) _
  have HX := hideI (heap_alloc_new w (.cells #[.slice P f.params.length pc, .int .i64 f.arrays, .int .i64 f.cells, .slice A f.blocks.length cc] 25))
  have H0 := hideI h0
  have hn3 : ((lookM f).1 == (lookM f).1) = true := by simp
  clear hF h0
  go_enter Try.func9, Try.ntmps9
  go_wp2_with (first
    | (go_at_call 28; go_must (refine (sCheck_any f w.heap.size _ _ _ (HF.out.par.keeps (Keeps.of_below HB.out)) (HF.out.blk.keeps (Keeps.of_below HB.out)) HB.out.size HID.out).mono ?_); rintro e w1 ⟨x, y, rfl, hci, hb⟩; (rcases hci with ⟨_, he⟩ | ⟨hbad, _⟩); rotate_left; (exact absurd hbad H0.out); (obtain ⟨rfl, rfl⟩ := Prod.mk.inj he); replace HX := hideI ((hb.block _ (lt_of_heap HX.out)).trans HX.out); have hx := row_cells HX.out rfl; replace HB := hideI (HB.out.trans (hb.mono HB.out.size)); clear hb he)
    | (go_at_call 29; go_must (refine (refStrict_no f w.heap.size _ _ _ (HF.out.par.keeps (Keeps.of_below HB.out)) (HF.out.blk.keeps (Keeps.of_below HB.out)) HB.out.size H0.out).mono ?_); rintro e w2 ⟨rfl, hb⟩; clear hx; replace HB := hideI (HB.out.trans (hb.mono HB.out.size)); clear hb)
    | (go_at_call 30; refine (awake5_any _).mono ?_; rintro e w5 ⟨rfl, hb⟩; replace HB := hideI (HB.out.trans (hb.mono HB.out.size)); clear hb))
  go_ret
  exact ⟨by simp, HB.out⟩

set_option maxRecDepth 100000 in
set_option maxHeartbeats 4000000 in
theorem walk_yes (f : FuncM) (pv bv : Value) (w : World) (hF : FnIn w f pv bv) (h0 : (lookM f).1 = 0) :
    Calls Try.prog 9 #[.agg #[pv, .int .i64 f.arrays, .int .i64 f.cells, bv]] w fun e w' => e = .returned (.bool true) ∧ Below w.heap.size w w' := by
  have HF := hideI hF
  have HID := hideI (uses_i64 hF.ok)
  obtain ⟨P, pc, hpv, _⟩ := hF.par
  obtain ⟨A, cc, hbv, _⟩ := hF.blk
  subst hpv hbv
  have HB : Hid (Below w.heap.size w (w.alloc (.cells #[.slice P f.params.length pc, .int .i64 f.arrays, .int .i64 f.cells, .slice A f.blocks.length cc] 25))) := (Below.refl _ w).alloc (Nat.le_refl _) _
  have HX := hideI (heap_alloc_new w (.cells #[.slice P f.params.length pc, .int .i64 f.arrays, .int .i64 f.cells, .slice A f.blocks.length cc] 25))
  have H0 := hideI h0
  clear hF h0
  go_enter Try.func9, Try.ntmps9
  go_wp2_with (first
    | (go_at_call 28; go_must (refine (sCheck_any f w.heap.size _ _ _ (HF.out.par.keeps (Keeps.of_below HB.out)) (HF.out.blk.keeps (Keeps.of_below HB.out)) HB.out.size HID.out).mono ?_); rintro e w1 ⟨x, y, rfl, hci, hb⟩; (rcases hci with ⟨hbad, _⟩ | ⟨_, o, ho, hfi⟩); (exact absurd H0.out hbad); have HO := hideI ho; have HFI := hideI hfi; clear ho hfi; replace HX := hideI ((hb.block _ (lt_of_heap HX.out)).trans HX.out); have hx := row_cells HX.out rfl; replace HB := hideI (HB.out.trans (hb.mono HB.out.size)); clear hb; have hxx : (x == x) = true := beq_self_eq_true x; have hyy : (y == y) = true := beq_self_eq_true y)
    | (go_at_call 29; go_must (refine (refStrict_yes f o w.heap.size _ _ _ (HF.out.par.keeps (Keeps.of_below HB.out)) (HF.out.blk.keeps (Keeps.of_below HB.out)) HB.out.size HID.out H0.out HO.out).mono ?_); rintro e w2 ⟨x2, y2, rfl, hfi2, hb⟩; (obtain ⟨rfl, rfl⟩ := Prod.mk.inj (HFI.out.one (fun _ _ => Iff.rfl) (fun _ _ => Iff.rfl) (fun _ _ _ => Iff.rfl) hfi2)); clear hx hfi2; replace HB := hideI (HB.out.trans (hb.mono HB.out.size)); clear hb)
    | (go_at_call 30; refine (awake5_any _).mono ?_; rintro e w5 ⟨rfl, hb⟩; replace HB := hideI (HB.out.trans (hb.mono HB.out.size)); clear hb))
  go_ret
  exact ⟨by simp, HB.out⟩

theorem walk (f : FuncM) (pv bv : Value) (w : World) (hF : FnIn w f pv bv) :
    Calls Try.prog 9 #[.agg #[pv, .int .i64 f.arrays, .int .i64 f.cells, bv]] w fun e w' => e = .returned (.bool true) ∧ Below w.heap.size w w' := by
  by_cases h0 : (lookM f).1 = 0
  · exact walk_yes f pv bv w hF h0
  · exact walk_no f pv bv w hF h0

set_option maxRecDepth 100000 in
theorem lifted (os : Os) (started : os.Started) (H : Type) (enc : TypeId × Value → H) :
    ReturnsInHanded {} Try.checked os 9 .any (Rows.strictChecksSpec.pre6 enc Try.prog Try.f9 Rows.strictChecksRow.domain false) (Rows.strictChecksSpec.post enc Try.prog Try.f9 false true false false) := by
  refine returnsInHanded_of_change_sized (C := Try.checked) own started (by kernel_rfl) Try.func9
    (ChangeSpec.witness6 (enc := enc) (C := Try.checked) false ⟨#[], #[.agg #[.slice none 0 0, .int .i64 0, .int .i64 0, .slice none 0 0]], []⟩ 8 (by kernel_rfl) (by kernel_rfl) (by kernel_rfl) (by kernel_rfl)) ?_
  intro W base args ds gs before hval0 hW hcnd hsz _
  have hval : ∀ (j : Nat) t v, Try.f9.params[j]? = some t → args[j]? = some v → Value.okWide Try.prog W .any base t v := hval0
  have hW' := hW
  obtain ⟨p, q, hA0, hV, rfl, hfz, hnd⟩ := hW
  have hA : DataW.TrodAll enc Try.prog W 0 (fun _ => true) true Try.f9.params.toList args.toList ds p := hA0
  rw [Try.params9] at hA hval
  obtain ⟨v0, vs0, d0, ds0, p0, q0, hargs, rfl, rfl, h0, r0⟩ := trodAll_cons hA
  obtain ⟨rfl, rfl, rfl⟩ := trodAll_nil r0
  obtain rfl : args = #[v0] := by cases args; simp_all
  obtain ⟨rfl, rfl⟩ := trodVars_none hV
  obtain ⟨f, pv, bv, rfl, hF⟩ := open_func (hval 0 25 v0 rfl rfl) h0 hsz (j := 0) rfl rfl
  clear hA0 hval0
  refine (walk f pv bv W hF).mono fun e W' ⟨he, hg⟩ => ?_
  subst he
  exact ⟨_, rfl, law_post (by kernel_rfl) hW' rfl (by kernel_rfl) Try.underlying4 rfl rfl rfl (by rw [Try.params9]; decide +kernel) hg⟩

theorem over : Rows.strictChecksRow.holds Try.pinned (OpenSpec.ofChange Rows.strictChecksSpec) :=
  OpenClaim.holds_of_wide 9 Try.f9 rfl rfl rfl rfl rfl rfl rfl ⟨rfl, rfl, rfl, rfl, rfl⟩ rfl rfl rfl rfl rfl (by kernel_rfl) Try.func9 (by kernel_rfl)
    (of_decide_eq_true (by kernel_rfl)) (by unfold Func.isWrapper; first | (rw [if_pos (by decide +kernel)]; kernel_rfl) | (rw [if_neg (by decide +kernel)]; exact ⟨rfl, rfl⟩))
    (fun os started H enc _ => lifted os started H enc)

theorem proved : Rows.StrictChecksSaid := over
#print axioms proved
end Go.Proofs.Ytocnlclighonfaa.strictChecks
