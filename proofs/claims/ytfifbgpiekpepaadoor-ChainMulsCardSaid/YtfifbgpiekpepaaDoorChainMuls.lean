/- What is proved: for all two lists of numbers, cut to 20, chain.Mul answers what the reference's Mul answers, or ErrArg where a chain, or what comes, has more than 16 numbers. No condition but the card's own: the table of the trailing zeros is as Go's library lays it. -/
import Derived.Test.YtfifbgpiekpepaaDoorChLst
import Derived.Test.YtfifbgpiekpepaaDoorRMul
import Derived.Test.YtfifbgpiekpepaaDoorTie
import Derived.Test.YtfifbgpiekpepaaDoorCards
import Derived.ProofKit
import Derived.LaidMore
import Derived.Lay
import Derived.OpenShut
import Derived.SevenTiedAt
namespace Go.Proofs.YtfifbgpiekpepaaDoor.chainMuls
open Go.ChangeShapes Go.WideShapes Go.ChangeAt Go.RowKit Go.Proofs.YtfifbgpiekpepaaDoor.Chn

set_option maxRecDepth 100000 in
set_option maxHeartbeats 4000000 in
theorem walk (xs : List Int) (v : Value) (ys : List Int) (u : Value) (w : World) (hT : Tab w) (hx : InL w v xs) (hy : InL w u ys) :
    Calls Tryd.prog 4 #[v, u] w fun e w' => e = .returned (.bool true) ∧ Below w.heap.size w w' := by
  have HT := hideI hT
  have HT0 := hT.1
  have HC1 := hideI (cut_any xs w.heap.size 20 v w hx.ci (by decide))
  have HC2 := hideI (cut_any ys w.heap.size 20 u w hy.ci (by decide))
  have hl1 : (xs.take 20).length ≤ 20 := by rw [List.length_take]; omega
  have hl2 : (ys.take 20).length ≤ 20 := by rw [List.length_take]; omega
  obtain ⟨⟨⟨O1, d1, rfl, _, _⟩, _⟩, _, _⟩ := hx
  obtain ⟨⟨⟨O2, d2, rfl, _, _⟩, _⟩, _, _⟩ := hy
  obtain ⟨al, hal⟩ : ∃ l, l = xs.take 20 := ⟨_, rfl⟩
  obtain ⟨bl, hbl⟩ : ∃ l, l = ys.take 20 := ⟨_, rfl⟩
  obtain ⟨a, ha⟩ : ∃ n, n = al.length := ⟨_, rfl⟩
  obtain ⟨b, hb⟩ : ∃ n, n = bl.length := ⟨_, rfl⟩
  rw [← hal] at HC1 hl1
  rw [← hbl] at HC2 hl2
  rw [← ha] at HC1
  rw [← hb] at HC2
  have HN1 := hideI ha
  have HN2 := hideI hb
  have HL1 := hideI hl1
  have HL2 := hideI hl2
  clear hal hbl ha hb hl1 hl2 hT
  obtain ⟨T, hT5⟩ : ∃ T, T = trimM (heldL (mulM (trimM al) (trimM bl))) := ⟨_, rfl⟩
  have HTT := hideI hT5
  have HTM : Hid (trimM T = T) := hideI (by rw [hT5, trimM_trim])
  have HTL : Hid (T.length ≤ 40) := hideI (by
    have h1 := trimM_len (heldL (mulM (trimM al) (trimM bl)))
    have h2 := mulM_len _ (trimM al) (trimM bl) rfl
    have h3 := trimM_len al
    have h4 := trimM_len bl
    have h5 := HL1.out
    have h6 := HL2.out
    have h7 : (heldL (mulM (trimM al) (trimM bl))).length = (mulM (trimM al) (trimM bl)).length := by simp [heldL]
    rw [hT5]
    omega)
  have HMM : Hid (mulAM al bl = if 16 < (trimM al).length ∨ 16 < (trimM bl).length then none else ansM T) := hideI (by rw [hT5]; rfl)
  clear hT5
  go_enter Tryd.func4, Tryd.ntmps4
  go_upto_region 2 with (first
    | (go_at_call_of 16 (Value.slice O1 xs.length d1); go_must (refine HC1.out.mono ?_); rintro e w1 ⟨A1, c1, rfl, hc, hw⟩; obtain rfl := hw.symm; have HA1 : Hid (Lst w A1 a c1 al) := hideI ⟨HN1.out, hc⟩; clear hc)
    | (go_at_call_of 16 (Value.slice O2 ys.length d2); go_must (refine HC2.out.mono ?_); rintro e w1 ⟨A2, c2, rfl, hc, hw⟩; obtain rfl := hw.symm; have HA2 : Hid (Lst w A2 b c2 bl) := hideI ⟨HN2.out, hc⟩; clear hc))
  have HB := hideI (Below.refl w.heap.size w)
  have HMUL := hideI (chMul_any al bl w.heap.size _ _ w HT.out HA1.out.ci HA2.out.ci (Nat.le_refl _))
  have HLA : Hid (∀ V, Below w.heap.size w V → Calls Tryd.prog 11 #[.slice A1 a c1] V fun e w' => e = .returned (.bool (decide (16 < (trimM al).length))) ∧ Below V.heap.size V w') := hideI fun V hV => refLong_any al w.heap.size _ V (HA1.out.ci.1.keep hV) hV.size (by have := HL1.out; omega)
  have HLB : Hid (∀ V, Below w.heap.size w V → Calls Tryd.prog 11 #[.slice A2 b c2] V fun e w' => e = .returned (.bool (decide (16 < (trimM bl).length))) ∧ Below V.heap.size V w') := hideI fun V hV => refLong_any bl w.heap.size _ V (HA2.out.ci.1.keep hV) hV.size (by have := HL2.out; omega)
  clear HC1 HC2
  by_cases h1 : 16 < (trimM al).length
  · have HE : Hid (mulAM al bl = none) := hideI (by rw [HMM.out, if_pos (.inl h1)])
    have hd : decide (16 < (trimM al).length) = true := by simpa using h1
    rw [hd] at HLA
    clear h1 hd
    go_upto_region 3 with (go_at_call 17; go_must (refine HMUL.out.mono ?_); rintro e wn h2; obtain ⟨rfl, hb⟩ := h2.none_ HE.out; replace HB := hideI (HB.out.trans (hb.mono HB.out.size)); clear h2 hb)
    go_wp2_with (first
      | (go_at_call 13; go_must (refine (awake_any _ (HT.out.keep HB.out HT0)).mono ?_); rintro e wn ⟨rfl, hb⟩; replace HB := hideI (HB.out.trans (hb.mono HB.out.size)); clear hb)
      | (go_at_call_of 11 (Value.slice A1 a c1); go_must (refine (HLA.out _ HB.out).mono ?_); rintro e wn ⟨rfl, hb⟩; replace HB := hideI (HB.out.trans (hb.mono HB.out.size)); clear hb))
    go_ret
    exact ⟨rfl, HB.out⟩
  have hd1 : decide (16 < (trimM al).length) = false := by simpa using h1
  rw [hd1] at HLA
  by_cases h2 : 16 < (trimM bl).length
  · have HE : Hid (mulAM al bl = none) := hideI (by rw [HMM.out, if_pos (.inr h2)])
    have hd : decide (16 < (trimM bl).length) = true := by simpa using h2
    rw [hd] at HLB
    clear h1 h2 hd hd1
    go_upto_region 3 with (go_at_call 17; go_must (refine HMUL.out.mono ?_); rintro e wn h2; obtain ⟨rfl, hb⟩ := h2.none_ HE.out; replace HB := hideI (HB.out.trans (hb.mono HB.out.size)); clear h2 hb)
    go_wp2_with (first
      | (go_at_call 13; go_must (refine (awake_any _ (HT.out.keep HB.out HT0)).mono ?_); rintro e wn ⟨rfl, hb⟩; replace HB := hideI (HB.out.trans (hb.mono HB.out.size)); clear hb)
      | (go_at_call_of 11 (Value.slice A1 a c1); go_must (refine (HLA.out _ HB.out).mono ?_); rintro e wn ⟨rfl, hb⟩; replace HB := hideI (HB.out.trans (hb.mono HB.out.size)); clear hb)
      | (go_at_call_of 11 (Value.slice A2 b c2); go_must (refine (HLB.out _ HB.out).mono ?_); rintro e wn ⟨rfl, hb⟩; replace HB := hideI (HB.out.trans (hb.mono HB.out.size)); clear hb))
    go_ret
    exact ⟨rfl, HB.out⟩
  have hd2 : decide (16 < (trimM bl).length) = false := by simpa using h2
  rw [hd2] at HLB
  have HE : Hid (mulAM al bl = ansM T) := hideI (by rw [HMM.out, if_neg (by omega)])
  have HTA : Hid (∀ V, Below w.heap.size w V → Calls Tryd.prog 19 #[.slice A1 a c1] V fun e w' => ∃ v', e = .returned v' ∧ Ints w' w'.heap.size v' (trimM al) ∧ Below V.heap.size V w') := hideI fun V hV => (refTrim_any al w.heap.size _ V (HA1.out.ci.1.keep hV) hV.size (by have := HL1.out; omega)).mono fun e w' ⟨v', h1, h2, h3⟩ => ⟨v', h1, h2.ints (by have h4 := trimM_len al; have := HL1.out; omega), h3⟩
  have HTB : Hid (∀ V, Below w.heap.size w V → Calls Tryd.prog 19 #[.slice A2 b c2] V fun e w' => ∃ v', e = .returned v' ∧ Ints w' w'.heap.size v' (trimM bl) ∧ Below V.heap.size V w') := hideI fun V hV => (refTrim_any bl w.heap.size _ V (HA2.out.ci.1.keep hV) hV.size (by have := HL2.out; omega)).mono fun e w' ⟨v', h1, h2, h3⟩ => ⟨v', h1, h2.ints (by have h4 := trimM_len bl; have := HL2.out; omega), h3⟩
  have HLT : Hid (∀ (V : World) (v' : Value), Ints V V.heap.size v' T → Calls Tryd.prog 11 #[v'] V fun e w' => e = .returned (.bool (decide (16 < T.length))) ∧ Below V.heap.size V w') := hideI fun V v' h => by
    have h1 := refLong_any T V.heap.size v' V h (Nat.le_refl _) (by have := HTL.out; omega)
    rw [HTM.out] at h1
    exact h1
  clear h1 h2 hd1 hd2 HMM
  by_cases h3 : 16 < T.length
  · have HE2 : Hid (mulAM al bl = none) := hideI (by rw [HE.out]; exact if_pos h3)
    have hd : decide (16 < T.length) = true := by simpa using h3
    rw [hd] at HLT
    clear h3 hd
    go_upto_region 3 with (go_at_call 17; go_must (refine HMUL.out.mono ?_); rintro e wn h2; obtain ⟨rfl, hb⟩ := h2.none_ HE2.out; replace HB := hideI (HB.out.trans (hb.mono HB.out.size)); clear h2 hb)
    go_upto_region 5 with (first
      | (go_at_call 13; go_must (refine (awake_any _ (HT.out.keep HB.out HT0)).mono ?_); rintro e wn ⟨rfl, hb⟩; replace HB := hideI (HB.out.trans (hb.mono HB.out.size)); clear hb)
      | (go_at_call_of 11 (Value.slice A1 a c1); go_must (refine (HLA.out _ HB.out).mono ?_); rintro e wn ⟨rfl, hb⟩; replace HB := hideI (HB.out.trans (hb.mono HB.out.size)); clear hb)
      | (go_at_call_of 11 (Value.slice A2 b c2); go_must (refine (HLB.out _ HB.out).mono ?_); rintro e wn ⟨rfl, hb⟩; replace HB := hideI (HB.out.trans (hb.mono HB.out.size)); clear hb))
    go_wp2_with (first
      | (go_at_call_of 19 (Value.slice A1 a c1); go_must (refine (HTA.out _ HB.out).mono ?_); rintro e wn ⟨va, rfl, hv, hb⟩; have HVA := hideI hv; replace HB := hideI (HB.out.trans (hb.mono HB.out.size)); clear hv hb)
      | (go_at_call_of 19 (Value.slice A2 b c2); go_must (refine (HTB.out _ HB.out).mono ?_); rintro e wn ⟨vb, rfl, hv, hb⟩; have HVB := hideI hv; replace HVA := hideI ((HVA.out.keep hb).more hb.size); replace HB := hideI (HB.out.trans (hb.mono HB.out.size)); clear hv hb)
      | (go_at_call 18; go_must (refine (refMul_any (trimM al) (trimM bl) _ va vb _ HVA.out HVB.out (Nat.le_refl _) (by have h1 := trimM_len al; have := HL1.out; omega) (by have h1 := trimM_len bl; have := HL2.out; omega)).mono ?_); rintro e wn ⟨vm, rfl, hv, hb⟩; rw [← HTT.out] at hv; have HVM := hideI (hv.ints (by have := HTL.out; omega)); replace HB := hideI (HB.out.trans (hb.mono HB.out.size)); clear hv hb)
      | (go_at_call 11; go_must (refine (HLT.out _ vm HVM.out).mono ?_); rintro e wn ⟨rfl, hb⟩; replace HB := hideI (HB.out.trans (hb.mono HB.out.size)); clear hb))
    go_ret
    exact ⟨rfl, HB.out⟩
  · have HE2 : Hid (mulAM al bl = some T) := hideI (by rw [HE.out]; exact if_neg h3)
    have hd : decide (16 < T.length) = false := by simpa using h3
    rw [hd] at HLT
    clear h3 hd
    go_upto_region 3 with (go_at_call 17; go_must (refine HMUL.out.mono ?_); rintro e wn h2; obtain ⟨A4, c4, rfl, _, hv, hb⟩ := h2.some_ HE2.out; have HR4 := hideI (hv.ints (by have := HTL.out; omega)); replace HB := hideI (HB.out.trans (hb.mono HB.out.size)); clear h2 hb hv)
    go_upto_region 5 with (first
      | (go_at_call 13; go_must (refine (awake_any _ (HT.out.keep HB.out HT0)).mono ?_); rintro e wn ⟨rfl, hb⟩; replace HR4 := hideI ((HR4.out.keep hb).more hb.size); replace HB := hideI (HB.out.trans (hb.mono HB.out.size)); clear hb)
      | (go_at_call_of 11 (Value.slice A1 a c1); go_must (refine (HLA.out _ HB.out).mono ?_); rintro e wn ⟨rfl, hb⟩; replace HR4 := hideI ((HR4.out.keep hb).more hb.size); replace HB := hideI (HB.out.trans (hb.mono HB.out.size)); clear hb)
      | (go_at_call_of 11 (Value.slice A2 b c2); go_must (refine (HLB.out _ HB.out).mono ?_); rintro e wn ⟨rfl, hb⟩; replace HR4 := hideI ((HR4.out.keep hb).more hb.size); replace HB := hideI (HB.out.trans (hb.mono HB.out.size)); clear hb))
    go_wp2_with (first
      | (go_at_call_of 19 (Value.slice A1 a c1); go_must (refine (HTA.out _ HB.out).mono ?_); rintro e wn ⟨va, rfl, hv, hb⟩; have HVA := hideI hv; replace HR4 := hideI ((HR4.out.keep hb).more hb.size); replace HB := hideI (HB.out.trans (hb.mono HB.out.size)); clear hv hb)
      | (go_at_call_of 19 (Value.slice A2 b c2); go_must (refine (HTB.out _ HB.out).mono ?_); rintro e wn ⟨vb, rfl, hv, hb⟩; have HVB := hideI hv; replace HVA := hideI ((HVA.out.keep hb).more hb.size); replace HR4 := hideI ((HR4.out.keep hb).more hb.size); replace HB := hideI (HB.out.trans (hb.mono HB.out.size)); clear hv hb)
      | (go_at_call 18; go_must (refine (refMul_any (trimM al) (trimM bl) _ va vb _ HVA.out HVB.out (Nat.le_refl _) (by have h1 := trimM_len al; have := HL1.out; omega) (by have h1 := trimM_len bl; have := HL2.out; omega)).mono ?_); rintro e wn ⟨vm, rfl, hv, hb⟩; rw [← HTT.out] at hv; have HVM := hideI (hv.ints (by have := HTL.out; omega)); replace HR4 := hideI ((HR4.out.keep hb).more hb.size); replace HB := hideI (HB.out.trans (hb.mono HB.out.size)); clear hv hb)
      | (go_at_call 11; go_must (refine (HLT.out _ vm HVM.out).mono ?_); rintro e wn ⟨rfl, hb⟩; replace HVM := hideI ((HVM.out.keep hb).more hb.size); replace HR4 := hideI ((HR4.out.keep hb).more hb.size); replace HB := hideI (HB.out.trans (hb.mono HB.out.size)); clear hb)
      | (go_at_call 14; go_must (refine (sameInts_any _ _ _ _ T T HR4.out HVM.out).mono ?_); rintro e wn ⟨rfl, m1, hw⟩; have hb := below_of_drew hw; clear hw; replace HB := hideI (HB.out.trans (hb.mono HB.out.size)); clear hb))
    go_ret
    exact ⟨by simp, HB.out⟩

set_option maxRecDepth 100000 in
theorem lifted (os : Os) (started : os.Started) (H : Type) (enc : TypeId × Value → H) :
    ReturnsInHanded {} Tryd.checked os 4 .any (fun w args => (Rows.chainMulsSpec.pre enc Tryd.prog Tryd.f4 Rows.chainMulsRow.domain false w args ∧ laidMetH Tryd.prog Rows.chainMulsRow.laid w) ∧ sizedMet enc Tryd.prog Tryd.f4 (OpenSpec.ofChange Rows.chainMulsSpec) false w args) (Rows.chainMulsSpec.post enc Tryd.prog Tryd.f4 false true false false) := by
  refine returnsInHanded_of_change_and (C := Tryd.checked) (X := fun w _ => laidMetH Tryd.prog Rows.chainMulsRow.laid w) (fun _ _ _ hh h => h.of_heap hh) own started (by kernel_rfl) Tryd.func4
    (ChangeSpec.witness_shaped (enc := enc) (C := Tryd.checked) (os := os) (X := fun w _ => laidMetH Tryd.prog Rows.chainMulsRow.laid w) false (World.laidAll Tryd.prog os Rows.chainMulsRow.laid) #[.slice none 0 0, .slice none 0 0] 8 (World.laidAll_os _ _ _)
      (World.shaped_of_ZipB (by kernel_rfl) (by kernel_rfl)) (by kernel_rfl) (by kernel_rfl) (by kernel_rfl)
      (by rw [MakeChecks.laidMetH_plain _ _ _ (by kernel_rfl)]; exact laidMet_laidAll _ (by kernel_rfl) (by kernel_rfl))) ?_
  intro W base args ds gs before hval0 hW _ hsz hL _
  have hT : Tab W := tab_of rfl hL (fun w => MakeChecks.laidMetH_plain _ _ _ (by kernel_rfl))
  have hval : ∀ (j : Nat) t v, Tryd.f4.params[j]? = some t → args[j]? = some v → Value.okWide Tryd.prog W .any base t v := hval0
  have hW' := hW
  obtain ⟨p, q, hA0, hV, rfl, hfz, hnd⟩ := hW
  have hA : DataW.TrodAll enc Tryd.prog W 0 (fun _ => true) true Tryd.f4.params.toList args.toList ds p := hA0
  rw [Tryd.params4] at hA hval
  obtain ⟨v0, vs0, d0, ds0, p0, q0, hargs, rfl, rfl, h0, r0⟩ := trodAll_cons hA
  obtain ⟨v1, vs1, d1, ds1, p1, q1, rfl, rfl, rfl, h1, r1⟩ := trodAll_cons r0
  obtain ⟨rfl, rfl, rfl⟩ := trodAll_nil r1
  obtain rfl : args = #[v0, v1] := by cases args; simp_all
  obtain ⟨rfl, rfl⟩ := trodVars_none hV
  obtain ⟨x0, hx0⟩ := arg_ints (hval 0 24 v0 rfl rfl) h0 hsz (j := 0) rfl rfl
  obtain ⟨x1, hx1⟩ := arg_ints (hval 1 24 v1 rfl rfl) h1 hsz (j := 1) rfl rfl
  clear hA0 hval0
  refine (walk x0 v0 x1 v1 W hT hx0 hx1).mono fun e W' ⟨he, hg⟩ => ?_
  subst he
  exact ⟨_, rfl, law_post (by kernel_rfl) hW' rfl (by kernel_rfl) Tryd.underlying4 rfl rfl rfl (by rw [Tryd.params4]; decide +kernel) hg⟩

theorem over : Rows.chainMulsRow.holds Tryd.pinned (OpenSpec.ofChange Rows.chainMulsSpec) :=
  OpenClaim.holds_of_wide 4 Tryd.f4 rfl rfl rfl rfl rfl rfl rfl ⟨rfl, rfl, rfl, rfl, rfl⟩ rfl rfl rfl rfl rfl (by kernel_rfl) Tryd.func4 (by kernel_rfl)
    (of_decide_eq_true (by kernel_rfl)) (by unfold Func.isWrapper; first | (rw [if_pos (by decide +kernel)]; kernel_rfl) | (rw [if_neg (by decide +kernel)]; exact ⟨rfl, rfl⟩))
    (fun os started H enc _ => lifted os started H enc)

theorem proved : Rows.ChainMulsCardSaid :=
  Claim7.holds_tied_plain_at .later [] [.data] true Rows.chainMulsCard.stood.harness false
    over (fun _ h => by cases h) (by kernel_rfl) (fun _ h => by cases h) chainMuls_row_tie rfl ⟨rfl, rfl⟩ (by kernel_rfl) rfl
    (fun f fn hf hfn => by
      obtain rfl : f = 4 := Option.some.inj ((show Tryd.prog.funcNamed "strake/strakelaw12.ChainMuls" = some 4 by kernel_rfl).symm.trans hf) |>.symm
      obtain rfl : fn = Tryd.f4 := (Option.some.inj (Tryd.func4.symm.trans hfn)).symm
      exact ⟨by kernel_rfl, fun j t ht => by
        rw [Tryd.params4] at ht
        have hm : t ∈ [24, 24] := by simpa using Array.mem_of_getElem? ht
        have hall : ([24, 24].all fun u => !Tryd.prog.wantsStandIn u) = true := by kernel_rfl
        exact (show Tryd.prog.wantsStandIn t = false by simpa using List.all_eq_true.1 hall t hm)⟩)
    (by kernel_rfl)
#print axioms proved
end Go.Proofs.YtfifbgpiekpepaaDoor.chainMuls
