/- What is proved: for each number and every list of numbers, cut to 20, chain.Sums answers what the reference's Sums answers, or ErrArg where a chain, or what comes, has more than 16 numbers. No condition but the card's own: the table of the trailing zeros is as Go's library lays it. -/
import Derived.Test.YtfifbgpiekpepaaDoorChLst
import Derived.Test.YtfifbgpiekpepaaDoorRSums
import Derived.Test.YtfifbgpiekpepaaDoorTie
import Derived.Test.YtfifbgpiekpepaaDoorCards
import Derived.ProofKit
import Derived.LaidMore
import Derived.Lay
import Derived.OpenShut
import Derived.SevenTiedAt
namespace Go.Proofs.YtfifbgpiekpepaaDoor.chainSums
open Go.ChangeShapes Go.WideShapes Go.ChangeAt Go.RowKit Go.Proofs.YtfifbgpiekpepaaDoor.Chn

theorem held_id {c : List Int} (h : ∀ x ∈ c, In64 x) : heldL c = c := by
  unfold heldL
  refine (List.map_congr_left fun x hx => ?_).trans (List.map_id _)
  exact (wrp_in x).one (h x hx) (wrp_eq x)

theorem trim_cons {s : Int} {t : List Int} (h : trimM t = t) (h0 : 0 < t.length) : trimM (s :: t) = s :: t := by
  rw [trimM, h, if_neg]
  rintro ⟨e, _⟩
  rw [e] at h0
  exact absurd h0 (by decide)

set_option maxRecDepth 100000 in
set_option maxHeartbeats 4000000 in
theorem walk (s : Int) (xs : List Int) (v : Value) (w : World) (hT : Tab w) (hs : In64 s) (hx : InL w v xs) :
    Calls Tryd.prog 5 #[.int .i64 s, v] w fun e w' => e = .returned (.bool true) ∧ Below w.heap.size w w' := by
  have HT := hideI hT
  have HT0 := hT.1
  have HS := hideI hs
  have HC1 := hideI (cut_any xs w.heap.size 20 v w hx.ci (by decide))
  have hl1 : (xs.take 20).length ≤ 20 := by rw [List.length_take]; omega
  have HI1 : Hid (∀ x ∈ xs.take 20, In64 x) := hideI fun x h => hx.held x (List.mem_of_mem_take h)
  obtain ⟨⟨⟨O1, d1, rfl, _, _⟩, _⟩, _, _⟩ := hx
  obtain ⟨al, hal⟩ : ∃ l, l = xs.take 20 := ⟨_, rfl⟩
  obtain ⟨a, ha⟩ : ∃ n, n = al.length := ⟨_, rfl⟩
  rw [← hal] at HC1 hl1 HI1
  rw [← ha] at HC1
  have HN1 := hideI ha
  have HL1 := hideI hl1
  clear hal ha hl1 hT hs
  obtain ⟨T, hT5⟩ : ∃ T, T = trimM (s :: trimM al) := ⟨_, rfl⟩
  have HTT : Hid (trimM (heldL (s :: trimM al)) = T) := hideI (by
    rw [hT5, held_id]
    intro x hx
    rcases List.mem_cons.1 hx with rfl | hx
    · exact HS.out
    · exact HI1.out x (trimM_mem _ x hx))
  have HTM : Hid (trimM T = T) := hideI (by rw [hT5, trimM_trim])
  have HTL : Hid (T.length ≤ 40) := hideI (by
    have h1 := trimM_len (s :: trimM al)
    have h3 := trimM_len al
    have h5 := HL1.out
    simp only [List.length_cons] at h1
    rw [hT5]
    omega)
  have HTS : Hid (16 < (trimM al).length → 16 < T.length) := hideI (fun h => by
    rw [hT5, trim_cons (trimM_trim al) (by omega)]
    simp only [List.length_cons]
    omega)
  have HSUM : Hid (∀ V, Below w.heap.size w V → ∀ A1 c1, CI w w.heap.size (.slice A1 a c1) al → Calls Tryd.prog 20 #[.int .i64 s, .slice A1 a c1] V (AnsE V (ansM T))) := hideI fun V hV A1 c1 h => by
    rw [hT5]
    exact chSums_any s al w.heap.size _ V (h.keep hV) hV.size (by have := HL1.out; omega)
  clear hT5
  go_enter Tryd.func5, Tryd.ntmps5
  go_upto_region 2 with (go_at_call 16; go_must (refine HC1.out.mono ?_); rintro e w1 ⟨A1, c1, rfl, hc, hw⟩; obtain rfl := hw.symm; have HA1 : Hid (Lst w A1 a c1 al) := hideI ⟨HN1.out, hc⟩; clear hc)
  have HB := hideI (Below.refl w.heap.size w)
  have HMUL := hideI (HSUM.out w HB.out A1 c1 HA1.out.ci)
  have HLA : Hid (∀ V, Below w.heap.size w V → Calls Tryd.prog 11 #[.slice A1 a c1] V fun e w' => e = .returned (.bool (decide (16 < (trimM al).length))) ∧ Below V.heap.size V w') := hideI fun V hV => refLong_any al w.heap.size _ V (HA1.out.ci.1.keep hV) hV.size (by have := HL1.out; omega)
  clear HC1 HSUM
  by_cases h1 : 16 < (trimM al).length
  · have HE : Hid (ansM T = none) := hideI (if_pos (HTS.out h1))
    have hd : decide (16 < (trimM al).length) = true := by simpa using h1
    rw [hd] at HLA
    clear h1 hd
    go_upto_region 3 with (go_at_call 20; go_must (refine HMUL.out.mono ?_); rintro e wn h2; obtain ⟨rfl, hb⟩ := h2.none_ HE.out; replace HB := hideI (HB.out.trans (hb.mono HB.out.size)); clear h2 hb)
    go_wp2_with (first
      | (go_at_call 13; go_must (refine (awake_any _ (HT.out.keep HB.out HT0)).mono ?_); rintro e wn ⟨rfl, hb⟩; replace HB := hideI (HB.out.trans (hb.mono HB.out.size)); clear hb)
      | (go_at_call_of 11 (Value.slice A1 a c1); go_must (refine (HLA.out _ HB.out).mono ?_); rintro e wn ⟨rfl, hb⟩; replace HB := hideI (HB.out.trans (hb.mono HB.out.size)); clear hb))
    go_ret
    exact ⟨rfl, HB.out⟩
  have hd1 : decide (16 < (trimM al).length) = false := by simpa using h1
  rw [hd1] at HLA
  have HTA : Hid (∀ V, Below w.heap.size w V → Calls Tryd.prog 19 #[.slice A1 a c1] V fun e w' => ∃ v', e = .returned v' ∧ Ints w' w'.heap.size v' (trimM al) ∧ Below V.heap.size V w') := hideI fun V hV => (refTrim_any al w.heap.size _ V (HA1.out.ci.1.keep hV) hV.size (by have := HL1.out; omega)).mono fun e w' ⟨v', h1, h2, h3⟩ => ⟨v', h1, h2.ints (by have h4 := trimM_len al; have := HL1.out; omega), h3⟩
  have HLT : Hid (∀ (V : World) (v' : Value), Ints V V.heap.size v' T → Calls Tryd.prog 11 #[v'] V fun e w' => e = .returned (.bool (decide (16 < T.length))) ∧ Below V.heap.size V w') := hideI fun V v' h => by
    have h1 := refLong_any T V.heap.size v' V h (Nat.le_refl _) (by have := HTL.out; omega)
    rw [HTM.out] at h1
    exact h1
  clear h1 hd1
  by_cases h3 : 16 < T.length
  · have HE2 : Hid (ansM T = none) := hideI (if_pos h3)
    have hd : decide (16 < T.length) = true := by simpa using h3
    rw [hd] at HLT
    clear h3 hd
    go_upto_region 3 with (go_at_call 20; go_must (refine HMUL.out.mono ?_); rintro e wn h2; obtain ⟨rfl, hb⟩ := h2.none_ HE2.out; replace HB := hideI (HB.out.trans (hb.mono HB.out.size)); clear h2 hb)
    go_upto_region 5 with (first
      | (go_at_call 13; go_must (refine (awake_any _ (HT.out.keep HB.out HT0)).mono ?_); rintro e wn ⟨rfl, hb⟩; replace HB := hideI (HB.out.trans (hb.mono HB.out.size)); clear hb)
      | (go_at_call_of 11 (Value.slice A1 a c1); go_must (refine (HLA.out _ HB.out).mono ?_); rintro e wn ⟨rfl, hb⟩; replace HB := hideI (HB.out.trans (hb.mono HB.out.size)); clear hb))
    go_wp2_with (first
      | (go_at_call_of 19 (Value.slice A1 a c1); go_must (refine (HTA.out _ HB.out).mono ?_); rintro e wn ⟨va, rfl, hv, hb⟩; have HVA := hideI hv; replace HB := hideI (HB.out.trans (hb.mono HB.out.size)); clear hv hb)
      | (go_at_call 21; go_must (refine (refSums_any s (trimM al) _ va _ HVA.out (Nat.le_refl _) (by have h1 := trimM_len al; have := HL1.out; omega) HS.out).mono ?_); rintro e wn ⟨vm, rfl, hv, hb⟩; rw [HTT.out] at hv; have HVM := hideI (hv.ints (by have := HTL.out; omega)); replace HB := hideI (HB.out.trans (hb.mono HB.out.size)); clear hv hb)
      | (go_at_call 11; go_must (refine (HLT.out _ vm HVM.out).mono ?_); rintro e wn ⟨rfl, hb⟩; replace HB := hideI (HB.out.trans (hb.mono HB.out.size)); clear hb))
    go_ret
    exact ⟨rfl, HB.out⟩
  · have HE2 : Hid (ansM T = some T) := hideI (if_neg h3)
    have hd : decide (16 < T.length) = false := by simpa using h3
    rw [hd] at HLT
    clear h3 hd
    go_upto_region 3 with (go_at_call 20; go_must (refine HMUL.out.mono ?_); rintro e wn h2; obtain ⟨A4, c4, rfl, _, hv, hb⟩ := h2.some_ HE2.out; have HR4 := hideI (hv.ints (by have := HTL.out; omega)); replace HB := hideI (HB.out.trans (hb.mono HB.out.size)); clear h2 hb hv)
    go_upto_region 5 with (first
      | (go_at_call 13; go_must (refine (awake_any _ (HT.out.keep HB.out HT0)).mono ?_); rintro e wn ⟨rfl, hb⟩; replace HR4 := hideI ((HR4.out.keep hb).more hb.size); replace HB := hideI (HB.out.trans (hb.mono HB.out.size)); clear hb)
      | (go_at_call_of 11 (Value.slice A1 a c1); go_must (refine (HLA.out _ HB.out).mono ?_); rintro e wn ⟨rfl, hb⟩; replace HR4 := hideI ((HR4.out.keep hb).more hb.size); replace HB := hideI (HB.out.trans (hb.mono HB.out.size)); clear hb))
    go_wp2_with (first
      | (go_at_call_of 19 (Value.slice A1 a c1); go_must (refine (HTA.out _ HB.out).mono ?_); rintro e wn ⟨va, rfl, hv, hb⟩; have HVA := hideI hv; replace HR4 := hideI ((HR4.out.keep hb).more hb.size); replace HB := hideI (HB.out.trans (hb.mono HB.out.size)); clear hv hb)
      | (go_at_call 21; go_must (refine (refSums_any s (trimM al) _ va _ HVA.out (Nat.le_refl _) (by have h1 := trimM_len al; have := HL1.out; omega) HS.out).mono ?_); rintro e wn ⟨vm, rfl, hv, hb⟩; rw [HTT.out] at hv; have HVM := hideI (hv.ints (by have := HTL.out; omega)); replace HR4 := hideI ((HR4.out.keep hb).more hb.size); replace HB := hideI (HB.out.trans (hb.mono HB.out.size)); clear hv hb)
      | (go_at_call 11; go_must (refine (HLT.out _ vm HVM.out).mono ?_); rintro e wn ⟨rfl, hb⟩; replace HVM := hideI ((HVM.out.keep hb).more hb.size); replace HR4 := hideI ((HR4.out.keep hb).more hb.size); replace HB := hideI (HB.out.trans (hb.mono HB.out.size)); clear hb)
      | (go_at_call 14; go_must (refine (sameInts_any _ _ _ _ T T HR4.out HVM.out).mono ?_); rintro e wn ⟨rfl, m1, hw⟩; have hb := below_of_drew hw; clear hw; replace HB := hideI (HB.out.trans (hb.mono HB.out.size)); clear hb))
    go_ret
    exact ⟨by simp, HB.out⟩


set_option maxRecDepth 100000 in
theorem lifted (os : Os) (started : os.Started) (H : Type) (enc : TypeId × Value → H) :
    ReturnsInHanded {} Tryd.checked os 5 .any (fun w args => (Rows.chainSumsSpec.pre enc Tryd.prog Tryd.f5 Rows.chainSumsRow.domain false w args ∧ laidMetH Tryd.prog Rows.chainSumsRow.laid w) ∧ sizedMet enc Tryd.prog Tryd.f5 (OpenSpec.ofChange Rows.chainSumsSpec) false w args) (Rows.chainSumsSpec.post enc Tryd.prog Tryd.f5 false true false false) := by
  refine returnsInHanded_of_change_and (C := Tryd.checked) (X := fun w _ => laidMetH Tryd.prog Rows.chainSumsRow.laid w) (fun _ _ _ hh h => h.of_heap hh) own started (by kernel_rfl) Tryd.func5
    (ChangeSpec.witness_shaped (enc := enc) (C := Tryd.checked) (os := os) (X := fun w _ => laidMetH Tryd.prog Rows.chainSumsRow.laid w) false (World.laidAll Tryd.prog os Rows.chainSumsRow.laid) #[.int .i64 0, .slice none 0 0] 8 (World.laidAll_os _ _ _)
      (World.shaped_of_ZipB (by kernel_rfl) (by kernel_rfl)) (by kernel_rfl) (by kernel_rfl) (by kernel_rfl)
      (by rw [MakeChecks.laidMetH_plain _ _ _ (by kernel_rfl)]; exact laidMet_laidAll _ (by kernel_rfl) (by kernel_rfl))) ?_
  intro W base args ds gs before hval0 hW _ hsz hL _
  have hT : Tab W := tab_of rfl hL (fun w => MakeChecks.laidMetH_plain _ _ _ (by kernel_rfl))
  have hval : ∀ (j : Nat) t v, Tryd.f5.params[j]? = some t → args[j]? = some v → Value.okWide Tryd.prog W .any base t v := hval0
  have hW' := hW
  obtain ⟨p, q, hA0, hV, rfl, hfz, hnd⟩ := hW
  have hA : DataW.TrodAll enc Tryd.prog W 0 (fun _ => true) true Tryd.f5.params.toList args.toList ds p := hA0
  rw [Tryd.params5] at hA hval
  obtain ⟨v0, vs0, d0, ds0, p0, q0, hargs, rfl, rfl, h0, r0⟩ := trodAll_cons hA
  obtain ⟨v1, vs1, d1, ds1, p1, q1, rfl, rfl, rfl, h1, r1⟩ := trodAll_cons r0
  obtain ⟨rfl, rfl, rfl⟩ := trodAll_nil r1
  obtain rfl : args = #[v0, v1] := by cases args; simp_all
  obtain ⟨rfl, rfl⟩ := trodVars_none hV
  obtain ⟨x0, rfl, _, _, hx0⟩ := open_int Tryd.underlying3 (hval 0 3 v0 rfl rfl) h0
  obtain ⟨x1, hx1⟩ := arg_ints (hval 1 24 v1 rfl rfl) h1 hsz (j := 1) rfl rfl
  clear hA0 hval0
  refine (walk x0 x1 v1 W hT (wf_in hx0) hx1).mono fun e W' ⟨he, hg⟩ => ?_
  subst he
  exact ⟨_, rfl, law_post (by kernel_rfl) hW' rfl (by kernel_rfl) Tryd.underlying4 rfl rfl rfl (by rw [Tryd.params5]; decide +kernel) hg⟩

theorem over : Rows.chainSumsRow.holds Tryd.pinned (OpenSpec.ofChange Rows.chainSumsSpec) :=
  OpenClaim.holds_of_wide 5 Tryd.f5 rfl rfl rfl rfl rfl rfl rfl ⟨rfl, rfl, rfl, rfl, rfl⟩ rfl rfl rfl rfl rfl (by kernel_rfl) Tryd.func5 (by kernel_rfl)
    (of_decide_eq_true (by kernel_rfl)) (by unfold Func.isWrapper; first | (rw [if_pos (by decide +kernel)]; kernel_rfl) | (rw [if_neg (by decide +kernel)]; exact ⟨rfl, rfl⟩))
    (fun os started H enc _ => lifted os started H enc)

theorem proved : Rows.ChainSumsCardSaid :=
  Claim7.holds_tied_plain_at .later [] [.data] true Rows.chainSumsCard.stood.harness false
    over (fun _ h => by cases h) (by kernel_rfl) (fun _ h => by cases h) chainSums_row_tie rfl ⟨rfl, rfl⟩ (by kernel_rfl) rfl
    (fun f fn hf hfn => by
      obtain rfl : f = 5 := Option.some.inj ((show Tryd.prog.funcNamed "strake/strakelaw12.ChainSums" = some 5 by kernel_rfl).symm.trans hf) |>.symm
      obtain rfl : fn = Tryd.f5 := (Option.some.inj (Tryd.func5.symm.trans hfn)).symm
      exact ⟨by kernel_rfl, fun j t ht => by
        rw [Tryd.params5] at ht
        have hm : t ∈ [3, 24] := by simpa using Array.mem_of_getElem? ht
        have hall : ([3, 24].all fun u => !Tryd.prog.wantsStandIn u) = true := by kernel_rfl
        exact (show Tryd.prog.wantsStandIn t = false by simpa using List.all_eq_true.1 hall t hm)⟩)
    (by kernel_rfl)
#print axioms proved
end Go.Proofs.YtfifbgpiekpepaaDoor.chainSums
