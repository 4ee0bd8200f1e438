/- What is proved: for every list of numbers, chain.Fit of its first 30 answers what the reference's Fit answers, or ErrArg where there are more than 16. No condition but the card's own: the table of the trailing zeros is as Go's library lays it. -/
import Derived.Test.YtfifbgpiekpepaaDoorChOpen
import Derived.Test.YtfifbgpiekpepaaDoorRFit
import Derived.Test.YtfifbgpiekpepaaDoorTie
import Derived.Test.YtfifbgpiekpepaaDoorCards
import Derived.ProofKit
import Derived.LaidMore
import Derived.Lay
import Derived.OpenShut
import Derived.SevenTiedAt
namespace Go.Proofs.YtfifbgpiekpepaaDoor.chainFits
open Go.ChangeShapes Go.WideShapes Go.ChangeAt Go.RowKit Go.Proofs.YtfifbgpiekpepaaDoor.Chn

set_option maxRecDepth 100000 in
set_option maxHeartbeats 2000000 in
theorem walk (xs : List Int) (v : Value) (w : World) (hT : Tab w) (hx : InL w v xs) :
    Calls Tryd.prog 6 #[v] w fun e w' => e = .returned (.bool true) ∧ Below w.heap.size w w' := by
  have HCUT := hideI (cut_any xs w.heap.size 30 v w hx.ci (by decide))
  have HT := hideI hT
  have HT0 := hT.1
  have hl30 : (xs.take 30).length ≤ 30 := by rw [List.length_take]; omega
  obtain ⟨ys, hys⟩ : ∃ ys, ys = xs.take 30 := ⟨_, rfl⟩
  obtain ⟨n, hn⟩ : ∃ n, n = ys.length := ⟨_, rfl⟩
  rw [← hys] at HCUT hl30
  rw [← hn] at HCUT hl30
  have HN := hideI hn
  obtain ⟨⟨⟨A, c, rfl, _, _⟩, _⟩, _, _⟩ := hx
  clear hys hn hT
  go_enter Tryd.func6, Tryd.ntmps6
  go_upto_region 2 with (go_at_call 16; go_must (refine HCUT.out.mono ?_); rintro e w1 ⟨A1, c1, rfl, hc, hw⟩; obtain rfl := hw.symm; have HC := hideI hc; clear hc)
  have HF := hideI (chFit_any ys w.heap.size (.slice A1 n c1) w HC.out)
  by_cases hl : 16 < n
  · have HE : Hid (fitAM ys = none) := hideI (if_pos (by rw [← HN.out]; exact hl))
    go_upto_region 3 with (go_at_call 22; go_must (refine HF.out.mono ?_); rintro e w2 h2; obtain ⟨rfl, hb2⟩ := h2.none_ HE.out; have HB2 := hideI hb2; clear h2 hb2)
    have hl2 : (16 : Int) < (n : Int) := by omega
    clear hl
    go_upto_region 4 with (go_at_call 13; go_must (refine (awake_any _ (HT.out.keep HB2.out HT0)).mono ?_); rintro e w3 ⟨rfl, hb3⟩; have HB3 := hideI (HB2.out.trans (hb3.mono HB2.out.size)); clear hb3)
    go_wp2_with (go_at_call 13; go_must (refine (awake_any _ (HT.out.keep HB3.out HT0)).mono ?_); rintro e w4 ⟨rfl, hb4⟩; have HB4 := hideI (HB3.out.trans (hb4.mono HB3.out.size)); clear hb4)
    go_ret
    exact ⟨rfl, HB4.out⟩
  · have hzl : (trimM (fitW ys.length ys)).length ≤ 16 := by
      have h1 := trimM_len (fitW ys.length ys)
      rw [fitW_len] at h1
      have h2 := HN.out
      omega
    have HE : Hid (fitAM ys = some (trimM (fitW ys.length ys))) := hideI ((if_neg (by rw [← HN.out]; exact hl)).trans (if_neg (by omega)))
    obtain ⟨zs, hzs⟩ : ∃ zs, zs = trimM (fitW ys.length ys) := ⟨_, rfl⟩
    have HZ := hideI hzs
    rw [← hzs] at HE hzl
    clear hzs
    go_upto_region 3 with (go_at_call 22; go_must (refine HF.out.mono ?_); rintro e w2 h2; obtain ⟨A2, c2, rfl, _, hv2, hb2⟩ := h2.some_ HE.out; have HB2 := hideI hb2; have HV2 := hideI (hv2.ints (by omega)); clear h2 hb2 hv2)
    have hl2 : ¬ (16 : Int) < (n : Int) := by omega
    clear hl
    go_upto_region 5 with (go_at_call 13; go_must (refine (awake_any _ (HT.out.keep HB2.out HT0)).mono ?_); rintro e w3 ⟨rfl, hb3⟩; have HB3 := hideI (HB2.out.trans (hb3.mono HB2.out.size)); have HV3 := hideI ((HV2.out.keep hb3).more hb3.size); clear hb3)
    have HRF := hideI (refFit_any ys w.heap.size (.slice A1 n c1) w3 (HC.out.1.keep HB3.out) HB3.out.size (by rw [← HN.out]; omega))
    rw [← HZ.out] at HRF
    go_wp2_with (first
      | (go_at_call 23; go_must (refine HRF.out.mono ?_); rintro e w4 ⟨v4, rfl, hv4, hb4⟩; have HB4 := hideI (HB3.out.trans (hb4.mono HB3.out.size)); have HV4 := hideI (hv4.ints (by omega)); have HV5 := hideI ((HV3.out.keep hb4).more hb4.size); clear hv4 hb4)
      | (go_at_call 14; go_must (refine (sameInts_any w4 w4.heap.size _ _ zs zs HV5.out HV4.out).mono ?_); rintro e w5 ⟨rfl, m5, rfl⟩))
    go_ret
    exact ⟨by simp, below_drewN HB4.out m5⟩

set_option maxRecDepth 100000 in
theorem lifted (os : Os) (started : os.Started) (H : Type) (enc : TypeId × Value → H) :
    ReturnsInHanded {} Tryd.checked os 6 .any (fun w args => (Rows.chainFitsSpec.pre enc Tryd.prog Tryd.f6 Rows.chainFitsRow.domain false w args ∧ laidMetH Tryd.prog Rows.chainFitsRow.laid w) ∧ sizedMet enc Tryd.prog Tryd.f6 (OpenSpec.ofChange Rows.chainFitsSpec) false w args) (Rows.chainFitsSpec.post enc Tryd.prog Tryd.f6 false true false false) := by
  refine returnsInHanded_of_change_and (C := Tryd.checked) (X := fun w _ => laidMetH Tryd.prog Rows.chainFitsRow.laid w) (fun _ _ _ hh h => h.of_heap hh) own started (by kernel_rfl) Tryd.func6
    (ChangeSpec.witness_shaped (enc := enc) (C := Tryd.checked) (os := os) (X := fun w _ => laidMetH Tryd.prog Rows.chainFitsRow.laid w) false (World.laidAll Tryd.prog os Rows.chainFitsRow.laid) #[.slice none 0 0] 8 (World.laidAll_os _ _ _)
      (World.shaped_of_ZipB (by kernel_rfl) (by kernel_rfl)) (by kernel_rfl) (by kernel_rfl) (by kernel_rfl)
      (by rw [MakeChecks.laidMetH_plain _ _ _ (by kernel_rfl)]; exact laidMet_laidAll _ (by kernel_rfl) (by kernel_rfl))) ?_
  intro W base args ds gs before hval0 hW _ hsz hL _
  have hT : Tab W := tab_of rfl hL (fun w => MakeChecks.laidMetH_plain _ _ _ (by kernel_rfl))
  have hval : ∀ (j : Nat) t v, Tryd.f6.params[j]? = some t → args[j]? = some v → Value.okWide Tryd.prog W .any base t v := hval0
  have hW' := hW
  obtain ⟨p, q, hA0, hV, rfl, hfz, hnd⟩ := hW
  have hA : DataW.TrodAll enc Tryd.prog W 0 (fun _ => true) true Tryd.f6.params.toList args.toList ds p := hA0
  rw [Tryd.params6] at hA hval
  obtain ⟨v0, vs0, d0, ds0, p0, q0, hargs, rfl, rfl, h0, r0⟩ := trodAll_cons hA
  obtain ⟨rfl, rfl, rfl⟩ := trodAll_nil r0
  obtain rfl : args = #[v0] := by cases args; simp_all
  obtain ⟨rfl, rfl⟩ := trodVars_none hV
  obtain ⟨x0, hx0⟩ := arg_ints (hval 0 24 v0 rfl rfl) h0 hsz (j := 0) rfl rfl
  clear hA0 hval0
  refine (walk x0 v0 W hT hx0).mono fun e W' ⟨he, hg⟩ => ?_
  subst he
  exact ⟨_, rfl, law_post (by kernel_rfl) hW' rfl (by kernel_rfl) Tryd.underlying4 rfl rfl rfl (by rw [Tryd.params6]; decide +kernel) hg⟩

theorem over : Rows.chainFitsRow.holds Tryd.pinned (OpenSpec.ofChange Rows.chainFitsSpec) :=
  OpenClaim.holds_of_wide 6 Tryd.f6 rfl rfl rfl rfl rfl rfl rfl ⟨rfl, rfl, rfl, rfl, rfl⟩ rfl rfl rfl rfl rfl (by kernel_rfl) Tryd.func6 (by kernel_rfl)
    (of_decide_eq_true (by kernel_rfl)) (by unfold Func.isWrapper; first | (rw [if_pos (by decide +kernel)]; kernel_rfl) | (rw [if_neg (by decide +kernel)]; exact ⟨rfl, rfl⟩))
    (fun os started H enc _ => lifted os started H enc)

theorem proved : Rows.ChainFitsCardSaid :=
  Claim7.holds_tied_plain_at .later [] [.data] true Rows.chainFitsCard.stood.harness false
    over (fun _ h => by cases h) (by kernel_rfl) (fun _ h => by cases h) chainFits_row_tie rfl ⟨rfl, rfl⟩ (by kernel_rfl) rfl
    (fun f fn hf hfn => by
      obtain rfl : f = 6 := Option.some.inj ((show Tryd.prog.funcNamed "strake/strakelaw12.ChainFits" = some 6 by kernel_rfl).symm.trans hf) |>.symm
      obtain rfl : fn = Tryd.f6 := (Option.some.inj (Tryd.func6.symm.trans hfn)).symm
      exact ⟨by kernel_rfl, fun j t ht => by
        rw [Tryd.params6] at ht
        have hm : t ∈ [24] := by simpa using Array.mem_of_getElem? ht
        have hall : ([24].all fun u => !Tryd.prog.wantsStandIn u) = true := by kernel_rfl
        exact (show Tryd.prog.wantsStandIn t = false by simpa using List.all_eq_true.1 hall t hm)⟩)
    (by kernel_rfl)
#print axioms proved
end Go.Proofs.YtfifbgpiekpepaaDoor.chainFits
