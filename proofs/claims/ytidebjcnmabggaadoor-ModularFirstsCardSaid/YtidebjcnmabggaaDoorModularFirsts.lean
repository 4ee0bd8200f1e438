/- What is proved: for all numbers and 1 to 12 bits, modular.First answers what the reference answers that looks at all numbers, and ErrArg where the span is none. No condition but the card's own: the table of the trailing zeros is as Go's library lays it. -/
import Derived.Test.YtidebjcnmabggaaDoorMoOpen
import Derived.Test.YtidebjcnmabggaaDoorMoRef
import Derived.Test.YtidebjcnmabggaaDoorTie
import Derived.Test.YtidebjcnmabggaaDoorCards
import Derived.ProofKit
import Derived.LaidMore
import Derived.Lay
import Derived.OpenShut
import Derived.SevenTiedAt
namespace Go.Proofs.YtidebjcnmabggaaDoor.modularFirsts
open Go.ChangeShapes Go.WideShapes Go.ChangeAt Go.RowKit Go.Proofs.YtidebjcnmabggaaDoor.Mo Go.Proofs.YtidebjcnmabggaaDoor.Chn


set_option maxRecDepth 100000 in
theorem walk (a b lo hi k : Nat) (w : World) (hT : Tab w) (ha : a < 18446744073709551616) (hb : b < 18446744073709551616) (hlo : lo < 18446744073709551616) (hhi : hi < 18446744073709551616) (hk : k < 256) :
    Calls Tryd.prog 5 #[.int .u64 (a : Int), .int .u64 (b : Int), .int .u64 (lo : Int), .int .u64 (hi : Int), .int .u8 (k : Int)] w fun e w' => e = .returned (.bool true) ∧ Below w.heap.size w w' := by
  have HT := hideI hT
  have hT0 := hT.1
  have HB := hideI (Below.refl w.heap.size w)
  obtain ⟨r, hr⟩ : ∃ r, r = k % 12 := ⟨_, rfl⟩
  obtain ⟨n, hn⟩ : ∃ n, n = r + 1 := ⟨_, rfl⟩
  have e1 : (k : Int) % 12 = (r : Int) := by omega
  have e2 : (k : Int).tmod 12 = (r : Int) := by rw [hr]; rfl
  have e3 : (r : Int) + 1 = (n : Int) := by omega
  have hr12 : (r : Int) < 12 := by omega
  have h1n : 1 ≤ n := by omega
  have hn12 : n ≤ 12 := by omega
  have HM := hideI (fun V : World => refMask_any n (by omega) V)
  have HR := hideI (fun V : World => refFirst_any a b lo hi n hn12 ha hb V)
  have hp := pow_pos n
  by_cases h1 : hi < lo
  · have HF := hideI (fun V : World => first_arg (a : Int) (b : Int) lo hi n h1n (by omega) (.inl h1) V)
    have c1 : (hi : Int) < (lo : Int) := by omega
    clear hT hr hn ha hb hlo hhi hk h1n hn12 h1 hp
    go_enter Tryd.func5, Tryd.ntmps5
    go_wp2_with (first
      | (go_at_call 15; go_must (refine (HF.out _).mono ?_); rintro e w1 ⟨rfl, hw⟩; obtain rfl := hw.symm)
      | (go_at_call 12; go_must (refine (Mo.awake_any _ (HT.out.keep HB.out hT0)).mono ?_); rintro e w2 ⟨rfl, hb⟩; replace HB := hideI (HB.out.trans (hb.mono HB.out.size)); clear hb))
    go_ret
    exact ⟨rfl, HB.out⟩
  · have c1 : ¬ (hi : Int) < (lo : Int) := by omega
    by_cases h2 : 2 ^ n ≤ hi
    · have HF := hideI (fun V : World => first_arg (a : Int) (b : Int) lo hi n h1n (by omega) (.inr h2) V)
      obtain ⟨Q, hQ⟩ : ∃ Q, Q = 2 ^ n - 1 := ⟨_, rfl⟩
      rw [← hQ] at HM
      have c2 : (Q : Int) < (hi : Int) := by omega
      clear hT hr hn ha hb hlo hhi hk h1n hn12 h1 h2 hp hQ
      go_enter Tryd.func5, Tryd.ntmps5
      go_wp2_with (first
        | (go_at_call 15; go_must (refine (HF.out _).mono ?_); rintro e w1 ⟨rfl, hw⟩; obtain rfl := hw.symm)
        | (go_at_call 16; go_must (refine (HM.out _).mono ?_); rintro e w2 ⟨rfl, hw⟩; obtain rfl := hw.symm)
        | (go_at_call 12; go_must (refine (Mo.awake_any _ (HT.out.keep HB.out hT0)).mono ?_); rintro e w2 ⟨rfl, hb⟩; replace HB := hideI (HB.out.trans (hb.mono HB.out.size)); clear hb))
      go_ret
      exact ⟨rfl, HB.out⟩
    · have HF := hideI (fun V : World => first_any a b lo hi n h1n (by omega) ha hb (by omega) (by omega) V)
      obtain ⟨Q, hQ⟩ : ∃ Q, Q = 2 ^ n - 1 := ⟨_, rfl⟩
      rw [← hQ] at HM
      have c2 : ¬ (Q : Int) < (hi : Int) := by omega
      clear hT hr hn ha hb hlo hhi hk h1n hn12 h1 h2 hp hQ
      go_enter Tryd.func5, Tryd.ntmps5
      go_wp2_with (first
        | (go_at_call 15; go_must (refine (HF.out _).mono ?_); rintro e w1 ⟨x, en, hA, rfl, hb⟩; have HA := hideI hA; replace HB := hideI (HB.out.trans (hb.mono HB.out.size)); clear hA hb)
        | (go_at_call 16; go_must (refine (HM.out _).mono ?_); rintro e w2 ⟨rfl, hw⟩; obtain rfl := hw.symm)
        | (go_at_call 17; go_must (refine (HR.out _).mono ?_); rintro e w2 ⟨⟨x2, en2, hA, rfl⟩, hw⟩; (obtain rfl := hw.symm); (obtain ⟨rfl, rfl⟩ := hA.one HA.out); clear hA)
        | (go_at_call 12; go_must (refine (Mo.awake_any _ (HT.out.keep HB.out hT0)).mono ?_); rintro e w2 ⟨rfl, hb⟩; replace HB := hideI (HB.out.trans (hb.mono HB.out.size)); clear hb))
      go_ret
      exact ⟨by simp, HB.out⟩

set_option maxRecDepth 100000 in
theorem lifted (os : Os) (started : os.Started) (H : Type) (enc : TypeId × Value → H) :
    ReturnsInHanded {} Tryd.checked os 5 .any (fun w args => (Rows.modularFirstsSpec.pre enc Tryd.prog Tryd.f5 Rows.modularFirstsRow.domain false w args ∧ laidMetH Tryd.prog Rows.modularFirstsRow.laid w) ∧ sizedMet enc Tryd.prog Tryd.f5 (OpenSpec.ofChange Rows.modularFirstsSpec) false w args) (Rows.modularFirstsSpec.post enc Tryd.prog Tryd.f5 false true false false) := by
  refine returnsInHanded_of_change_and (C := Tryd.checked) (X := fun w _ => laidMetH Tryd.prog Rows.modularFirstsRow.laid w) (fun _ _ _ hh h => h.of_heap hh) own started (by kernel_rfl) Tryd.func5
    (ChangeSpec.witness_shaped (enc := enc) (C := Tryd.checked) (os := os) (X := fun w _ => laidMetH Tryd.prog Rows.modularFirstsRow.laid w) false (World.laidAll Tryd.prog os Rows.modularFirstsRow.laid) #[.int .u64 0, .int .u64 0, .int .u64 0, .int .u64 0, .int .u8 0] 8 (World.laidAll_os _ _ _)
      (World.shaped_of_ZipB (by kernel_rfl) (by kernel_rfl)) (by kernel_rfl) (by kernel_rfl) (by kernel_rfl)
      (by rw [MakeChecks.laidMetH_plain _ _ _ (by kernel_rfl)]; exact laidMet_laidAll _ (by kernel_rfl) (by kernel_rfl))) ?_
  intro W base args ds gs before hval0 hW _ hsz hL _
  have hT : Tab W := tab_of rfl hL (fun w => MakeChecks.laidMetH_plain _ _ _ (by kernel_rfl))
  have hval : ∀ (j : Nat) t v, Tryd.f5.params[j]? = some t → args[j]? = some v → Value.okWide Tryd.prog W .any base t v := hval0
  have hW' := hW
  obtain ⟨p, q, hA0, hV, rfl, hfz, hnd⟩ := hW
  have hA : DataW.TrodAll enc Tryd.prog W 0 (fun _ => true) true Tryd.f5.params.toList args.toList ds p := hA0
  rw [Tryd.params5] at hA hval
  obtain ⟨v0, vs0, d0, ds0, p0, q0, hargs, rfl, rfl, h0, r0⟩ := trodAll_cons hA
  obtain ⟨v1, vs1, d1, ds1, p1, q1, rfl, rfl, rfl, h1, r1⟩ := trodAll_cons r0
  obtain ⟨v2, vs2, d2, ds2, p2, q2, rfl, rfl, rfl, h2, r2⟩ := trodAll_cons r1
  obtain ⟨v3, vs3, d3, ds3, p3, q3, rfl, rfl, rfl, h3, r3⟩ := trodAll_cons r2
  obtain ⟨v4, vs4, d4, ds4, p4, q4, rfl, rfl, rfl, h4, r4⟩ := trodAll_cons r3
  obtain ⟨rfl, rfl, rfl⟩ := trodAll_nil r4
  obtain rfl : args = #[v0, v1, v2, v3, v4] := by cases args; simp_all
  obtain ⟨rfl, rfl⟩ := trodVars_none hV
  obtain ⟨x0, rfl, _, _, hx0⟩ := open_int Tryd.underlying27 (hval 0 27 v0 rfl rfl) h0
  obtain ⟨y0, rfl, hl0⟩ := wf_u64 hx0
  obtain ⟨x1, rfl, _, _, hx1⟩ := open_int Tryd.underlying27 (hval 1 27 v1 rfl rfl) h1
  obtain ⟨y1, rfl, hl1⟩ := wf_u64 hx1
  obtain ⟨x2, rfl, _, _, hx2⟩ := open_int Tryd.underlying27 (hval 2 27 v2 rfl rfl) h2
  obtain ⟨y2, rfl, hl2⟩ := wf_u64 hx2
  obtain ⟨x3, rfl, _, _, hx3⟩ := open_int Tryd.underlying27 (hval 3 27 v3 rfl rfl) h3
  obtain ⟨y3, rfl, hl3⟩ := wf_u64 hx3
  obtain ⟨x4, rfl, _, _, hx4⟩ := open_int Tryd.underlying5 (hval 4 5 v4 rfl rfl) h4
  obtain ⟨y4, rfl, hl4⟩ := wf_u8 hx4
  clear hA0 hval0
  refine (walk y0 y1 y2 y3 y4 W hT hl0 hl1 hl2 hl3 hl4).mono fun e W' ⟨he, hg⟩ => ?_
  subst he
  exact ⟨_, rfl, law_post (by kernel_rfl) hW' rfl (by kernel_rfl) Tryd.underlying4 rfl rfl rfl (by rw [Tryd.params5]; decide +kernel) hg⟩

theorem over : Rows.modularFirstsRow.holds Tryd.pinned (OpenSpec.ofChange Rows.modularFirstsSpec) :=
  OpenClaim.holds_of_wide 5 Tryd.f5 rfl rfl rfl rfl rfl rfl rfl ⟨rfl, rfl, rfl, rfl, rfl⟩ rfl rfl rfl rfl rfl (by kernel_rfl) Tryd.func5 (by kernel_rfl)
    (of_decide_eq_true (by kernel_rfl)) (by unfold Func.isWrapper; first | (rw [if_pos (by decide +kernel)]; kernel_rfl) | (rw [if_neg (by decide +kernel)]; exact ⟨rfl, rfl⟩))
    (fun os started H enc _ => lifted os started H enc)

theorem proved : Rows.ModularFirstsCardSaid :=
  Claim7.holds_tied_plain_at .later [] [.data] true Rows.modularFirstsCard.stood.harness false
    over (fun _ h => by cases h) (by kernel_rfl) (fun _ h => by cases h) modularFirsts_row_tie rfl ⟨rfl, rfl⟩ (by kernel_rfl) rfl
    (fun f fn hf hfn => by
      obtain rfl : f = 5 := Option.some.inj ((show Tryd.prog.funcNamed "strake/strakelaw13.ModularFirsts" = some 5 by kernel_rfl).symm.trans hf) |>.symm
      obtain rfl : fn = Tryd.f5 := (Option.some.inj (Tryd.func5.symm.trans hfn)).symm
      exact ⟨by kernel_rfl, fun j t ht => by
        rw [Tryd.params5] at ht
        have hm : t ∈ [27, 27, 27, 27, 5] := by simpa using Array.mem_of_getElem? ht
        have hall : ([27, 27, 27, 27, 5].all fun u => !Tryd.prog.wantsStandIn u) = true := by kernel_rfl
        exact (show Tryd.prog.wantsStandIn t = false by simpa using List.all_eq_true.1 hall t hm)⟩)
    (by kernel_rfl)
#print axioms proved
end Go.Proofs.YtidebjcnmabggaaDoor.modularFirsts
