/- What is proved: for every number op, called in whatever memory, IrArgs answers true: ir.Args tells of op just what the reference's table tells, and the simplest function is known. No condition. -/
import Derived.Test.YtnfcgafkkjakiaaAwake
import Derived.Test.YtnfcgafkkjakiaaRefArgs
import Derived.Test.YtnfcgafkkjakiaaLaw
namespace Go.Proofs.Ytnfcgafkkjakiaa.irArgs
open Go.ChangeShapes Go.WideShapes Go.ChangeAt Go.RowKit

set_option maxHeartbeats 1000000 in
theorem walk (a0 : Int) (w : World) : Calls Try.prog 4 #[.int .i64 a0] w fun e w' => e = .returned (.bool true) ∧ Below w.heap.size w w' := by
  go_enter Try.func4, Try.ntmps4
  go_wp2_with (first
    | (go_at_call 18; refine (irArgs_any _ _).mono ?_; rintro e w1 ⟨v1, rfl, hv1, hb1⟩; have HB1 := hideI hb1; have HV1 := hideI hv1; clear hb1 hv1)
    | (go_at_call 19; refine (refArgs_any _ _).mono ?_; rintro e w2 ⟨v2, rfl, hv2, hb2⟩; have HB2 := hideI hb2; have HV2 := hideI hv2; clear hb2 hv2)
    | (go_at_call 12; refine (awake_any _).mono ?_; rintro e w3 ⟨rfl, hb3⟩; have HB3 := hideI hb3; clear hb3)
    | (go_at_call 15; refine (sameInts_any _ w2.heap.size _ _ _ _ (((HV1.out.ints.keep HB2.out).more HB2.out.size).keep HB3.out) (HV2.out.ints.keep HB3.out)).mono ?_; rintro e w4 ⟨rfl, hw4⟩))
  go_ret
  refine ⟨by simp, ?_⟩
  have h3 := (HB1.out.trans (HB2.out.mono HB1.out.size)).trans (HB3.out.mono (Nat.le_trans HB1.out.size HB2.out.size))
  obtain ⟨m, rfl⟩ := hw4
  exact h3.trans ⟨rfl, rfl, rfl, Nat.le_refl _, fun _ _ => rfl⟩

set_option maxRecDepth 100000 in
theorem lifted (os : Os) (started : os.Started) (H : Type) (enc : TypeId × Value → H) :
    ReturnsInHanded {} Try.checked os 4 .any (Rows.irArgsSpec.pre6 enc Try.prog Try.f4 Rows.irArgsRow.domain false) (Rows.irArgsSpec.post enc Try.prog Try.f4 false true false false) := by
  refine returnsInHanded_of_change (C := Try.checked) own started (by kernel_rfl) Try.func4
    (ChangeSpec.witness6 (enc := enc) (C := Try.checked) false ⟨#[], #[.int .i64 0], []⟩ 8 (by kernel_rfl) (by kernel_rfl) (by kernel_rfl) (by kernel_rfl)) ?_
  intro W base args ds gs before hval0 hW hcnd _
  have hval : ∀ (j : Nat) t v, Try.f4.params[j]? = some t → args[j]? = some v → Value.okWide Try.prog W .any base t v := hval0
  have hW' := hW
  obtain ⟨p, q, hA0, hV, rfl, hfz, hnd⟩ := hW
  have hA : DataW.TrodAll enc Try.prog W 0 (fun _ => true) true Try.f4.params.toList args.toList ds p := hA0
  rw [Try.params4] at hA hval
  obtain ⟨v0, vs0, d0, ds0, p0, q0, hargs, rfl, rfl, h0, r0⟩ := trodAll_cons hA
  obtain ⟨rfl, rfl, rfl⟩ := trodAll_nil r0
  obtain rfl : args = #[v0] := by cases args; simp_all
  obtain ⟨rfl, rfl⟩ := trodVars_none hV
  obtain ⟨a0, rfl, rfl, rfl, w0⟩ := open_int Try.underlying3 (hval 0 3 v0 rfl rfl) h0
  clear hA0 hval0
  refine (walk a0 W).mono fun e W' ⟨he, hg⟩ => ?_
  subst he
  exact ⟨_, rfl, law_post (by kernel_rfl) hW' rfl (by kernel_rfl) Try.underlying4 rfl rfl rfl (by rw [Try.params4]; decide +kernel) hg⟩

theorem over : Rows.irArgsRow.holds Try.pinned (OpenSpec.ofChange Rows.irArgsSpec) :=
  OpenClaim.holds_of_wide 4 Try.f4 rfl rfl rfl rfl rfl rfl rfl ⟨rfl, rfl, rfl, rfl, rfl⟩ rfl rfl rfl rfl rfl (by kernel_rfl) Try.func4 (by kernel_rfl)
    (of_decide_eq_true (by kernel_rfl)) (by unfold Func.isWrapper; first | (rw [if_pos (by decide +kernel)]; kernel_rfl) | (rw [if_neg (by decide +kernel)]; exact ⟨rfl, rfl⟩))
    (fun os started H enc _ => lifted os started H enc)

theorem proved : Rows.IrArgsSaid := over
#print axioms proved
end Go.Proofs.Ytnfcgafkkjakiaa.irArgs
