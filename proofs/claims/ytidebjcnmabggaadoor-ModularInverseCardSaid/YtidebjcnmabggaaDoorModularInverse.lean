/- What is proved: for every number, modular.Inverse answers its inverse modulo 2^64 where it is odd, and ErrNone where it is even. No condition but the card's own: the table of the trailing zeros is as Go's library lays it. -/
import Derived.Test.YtidebjcnmabggaaDoorMoOpen
import Derived.Test.YtidebjcnmabggaaDoorTie
import Derived.Test.YtidebjcnmabggaaDoorCards
import Derived.ProofKit
import Derived.LaidMore
import Derived.Lay
import Derived.OpenShut
import Derived.SevenTiedAt
namespace Go.Proofs.YtidebjcnmabggaaDoor.modularInverse
open Go.ChangeShapes Go.WideShapes Go.ChangeAt Go.RowKit Go.Proofs.YtidebjcnmabggaaDoor.Mo Go.Proofs.YtidebjcnmabggaaDoor.Chn


set_option maxRecDepth 100000 in
theorem walk (a : Int) (w : World) (hT : Tab w) (ha : -9223372036854775808 ≤ a ∧ a < 9223372036854775808) :
    Calls Tryd.prog 3 #[.int .i64 a] w fun e w' => e = .returned (.bool true) ∧ Below w.heap.size w w' := by
  have HA := hideI (Mo.awake_any w hT)
  by_cases h2 : a % 2 = 0
  · have HI := hideI (inv_even a h2 w)
    have h3 : a.tmod 2 = 0 := (tmod_two a).mpr h2
    clear h2 ha hT
    go_enter Tryd.func3, Tryd.ntmps3
    go_wp2_with (first
      | (go_at_call 11; go_must (refine HI.out.mono ?_); rintro e w1 ⟨rfl, hw⟩; obtain rfl := hw.symm)
      | (go_at_call 12; go_must (refine HA.out.mono ?_); rintro e w2 ⟨rfl, hb⟩; have HB := hideI hb; clear hb))
    go_ret
    exact ⟨rfl, HB.out⟩
  · have HI := hideI (inv_odd a (by omega) ha w)
    have h3 : ¬ a.tmod 2 = 0 := fun e => h2 ((tmod_two a).mp e)
    clear h2 ha hT
    go_enter Tryd.func3, Tryd.ntmps3
    go_wp2_with (first
      | (go_at_call 11; go_must (refine HI.out.mono ?_); rintro e w1 ⟨⟨n, _, _, hn, _, rfl⟩, hw⟩; (obtain rfl := hw.symm); have hn3 := one_wrap hn; clear hn)
      | (go_at_call 12; go_must (refine HA.out.mono ?_); rintro e w2 ⟨rfl, hb⟩; have HB := hideI hb; clear hb))
    go_ret
    exact ⟨rfl, HB.out⟩

set_option maxRecDepth 100000 in
theorem lifted (os : Os) (started : os.Started) (H : Type) (enc : TypeId × Value → H) :
    ReturnsInHanded {} Tryd.checked os 3 .any (fun w args => (Rows.modularInverseSpec.pre enc Tryd.prog Tryd.f3 Rows.modularInverseRow.domain false w args ∧ laidMetH Tryd.prog Rows.modularInverseRow.laid w) ∧ sizedMet enc Tryd.prog Tryd.f3 (OpenSpec.ofChange Rows.modularInverseSpec) false w args) (Rows.modularInverseSpec.post enc Tryd.prog Tryd.f3 false true false false) := by
  refine returnsInHanded_of_change_and (C := Tryd.checked) (X := fun w _ => laidMetH Tryd.prog Rows.modularInverseRow.laid w) (fun _ _ _ hh h => h.of_heap hh) own started (by kernel_rfl) Tryd.func3
    (ChangeSpec.witness_shaped (enc := enc) (C := Tryd.checked) (os := os) (X := fun w _ => laidMetH Tryd.prog Rows.modularInverseRow.laid w) false (World.laidAll Tryd.prog os Rows.modularInverseRow.laid) #[.int .i64 0] 8 (World.laidAll_os _ _ _)
      (World.shaped_of_ZipB (by kernel_rfl) (by kernel_rfl)) (by kernel_rfl) (by kernel_rfl) (by kernel_rfl)
      (by rw [MakeChecks.laidMetH_plain _ _ _ (by kernel_rfl)]; exact laidMet_laidAll _ (by kernel_rfl) (by kernel_rfl))) ?_
  intro W base args ds gs before hval0 hW _ hsz hL _
  have hT : Tab W := tab_of rfl hL (fun w => MakeChecks.laidMetH_plain _ _ _ (by kernel_rfl))
  have hval : ∀ (j : Nat) t v, Tryd.f3.params[j]? = some t → args[j]? = some v → Value.okWide Tryd.prog W .any base t v := hval0
  have hW' := hW
  obtain ⟨p, q, hA0, hV, rfl, hfz, hnd⟩ := hW
  have hA : DataW.TrodAll enc Tryd.prog W 0 (fun _ => true) true Tryd.f3.params.toList args.toList ds p := hA0
  rw [Tryd.params3] at hA hval
  obtain ⟨v0, vs0, d0, ds0, p0, q0, hargs, rfl, rfl, h0, r0⟩ := trodAll_cons hA
  obtain ⟨rfl, rfl, rfl⟩ := trodAll_nil r0
  obtain rfl : args = #[v0] := by cases args; simp_all
  obtain ⟨rfl, rfl⟩ := trodVars_none hV
  obtain ⟨x0, rfl, _, _, hx0⟩ := open_int Tryd.underlying3 (hval 0 3 v0 rfl rfl) h0
  have hl0 := wf_i64 hx0
  clear hA0 hval0
  refine (walk x0 W hT hl0).mono fun e W' ⟨he, hg⟩ => ?_
  subst he
  exact ⟨_, rfl, law_post (by kernel_rfl) hW' rfl (by kernel_rfl) Tryd.underlying4 rfl rfl rfl (by rw [Tryd.params3]; decide +kernel) hg⟩

theorem over : Rows.modularInverseRow.holds Tryd.pinned (OpenSpec.ofChange Rows.modularInverseSpec) :=
  OpenClaim.holds_of_wide 3 Tryd.f3 rfl rfl rfl rfl rfl rfl rfl ⟨rfl, rfl, rfl, rfl, rfl⟩ rfl rfl rfl rfl rfl (by kernel_rfl) Tryd.func3 (by kernel_rfl)
    (of_decide_eq_true (by kernel_rfl)) (by unfold Func.isWrapper; first | (rw [if_pos (by decide +kernel)]; kernel_rfl) | (rw [if_neg (by decide +kernel)]; exact ⟨rfl, rfl⟩))
    (fun os started H enc _ => lifted os started H enc)

theorem proved : Rows.ModularInverseCardSaid :=
  Claim7.holds_tied_plain_at .later [] [.data] true Rows.modularInverseCard.stood.harness false
    over (fun _ h => by cases h) (by kernel_rfl) (fun _ h => by cases h) modularInverse_row_tie rfl ⟨rfl, rfl⟩ (by kernel_rfl) rfl
    (fun f fn hf hfn => by
      obtain rfl : f = 3 := Option.some.inj ((show Tryd.prog.funcNamed "strake/strakelaw13.ModularInverse" = some 3 by kernel_rfl).symm.trans hf) |>.symm
      obtain rfl : fn = Tryd.f3 := (Option.some.inj (Tryd.func3.symm.trans hfn)).symm
      exact ⟨by kernel_rfl, fun j t ht => by
        rw [Tryd.params3] at ht
        have hm : t ∈ [3] := by simpa using Array.mem_of_getElem? ht
        have hall : ([3].all fun u => !Tryd.prog.wantsStandIn u) = true := by kernel_rfl
        exact (show Tryd.prog.wantsStandIn t = false by simpa using List.all_eq_true.1 hall t hm)⟩)
    (by kernel_rfl)
#print axioms proved
end Go.Proofs.YtidebjcnmabggaaDoor.modularInverse
