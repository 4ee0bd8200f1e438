/- What is proved: for all two lists of numbers, cut to 8, each start and each round: the sum's value is the sum, the product's the product, the next chain's the next, and a chain of sums of values gains the value. No condition but the card's own: the table of the trailing zeros is as Go's library lays it. -/
import Derived.Test.YtfifbgpiekpepaaDoorChIs
import Derived.Test.YtfifbgpiekpepaaDoorTie
import Derived.Test.YtfifbgpiekpepaaDoorCards
import Derived.ProofKit
import Derived.LaidMore
import Derived.Lay
import Derived.OpenShut
import Derived.SevenTiedAt
namespace Go.Proofs.YtfifbgpiekpepaaDoor.chainLaws
open Go.ChangeShapes Go.WideShapes Go.ChangeAt Go.RowKit Go.Proofs.YtfifbgpiekpepaaDoor.Chn

/-- At of a chain that lies there -/
theorem at_val {w : World} {B : Nat} {v : Value} {F : Nat → Int} {ys : List Int} (hc : CI w B v ys) (hB : B ≤ w.heap.size) (hv : ∀ n, Eq64 (vl ys n) (F n)) (hl : ys.length ≤ 16) (hT : Tab w) (m : Int) (hm : In64 m) (r : Int) (hr : Eq64 (F m.toNat) r) (hr2 : In64 r) :
    Calls Tryd.prog 24 #[v, .int .i64 m] w fun e w' => e = .returned (.int .i64 r) ∧ Below w.heap.size w w' := by
  refine (at_any ys B v m w hT hc hB hm).mono fun e w' ⟨he, hb⟩ => ⟨?_, hb⟩
  have h3 := trimM_len ys
  rw [he]
  unfold atM
  rw [if_neg (by omega)]
  congr 2
  have h4 := wrp_of ((hv m.toNat).trans hr)
  rw [h4]
  exact (wrp_in r).one hr2 (wrp_eq r)

theorem wrap_in (x : Int) : In64 (wrap64 x) := by rw [odd_wrap]; exact wrp_in x
theorem wrap_eq (x : Int) : Eq64 (wrap64 x) x := by rw [odd_wrap]; exact wrp_eq x

set_option maxRecDepth 100000 in
set_option maxHeartbeats 4000000 in
theorem walk (xs : List Int) (v : Value) (ys : List Int) (u : Value) (s n : Int) (w : World) (hT : Tab w) (hx : InL w v xs) (hy : InL w u ys) (hs : In64 s) (hn : In64 n) :
    Calls Tryd.prog 7 #[v, u, .int .i64 s, .int .i64 n] w fun e w' => e = .returned (.bool true) ∧ Below w.heap.size w w' := by
  have HC0 := hideI (cut_any xs w.heap.size 8 v w hx.ci (by decide))
  have HC1 := hideI (cut_any ys w.heap.size 8 u w hy.ci (by decide))
  have HT := hideI hT
  have HT0 := hT.1
  have hla : (xs.take 8).length ≤ 8 := by rw [List.length_take]; omega
  have hlb : (ys.take 8).length ≤ 8 := by rw [List.length_take]; omega
  have HIA : Hid (∀ x ∈ xs.take 8, In64 x) := hideI fun x h => hx.held x (List.mem_of_mem_take h)
  have HIB : Hid (∀ x ∈ ys.take 8, In64 x) := hideI fun x h => hy.held x (List.mem_of_mem_take h)
  obtain ⟨⟨⟨A, c, rfl, _, _⟩, _⟩, _, _⟩ := hx
  obtain ⟨⟨⟨A', c', rfl, _, _⟩, _⟩, _, _⟩ := hy
  obtain ⟨al, hal⟩ : ∃ l, l = xs.take 8 := ⟨_, rfl⟩
  obtain ⟨bl, hbl⟩ : ∃ l, l = ys.take 8 := ⟨_, rfl⟩
  obtain ⟨a, ha⟩ : ∃ a, a = al.length := ⟨_, rfl⟩
  obtain ⟨b, hb⟩ : ∃ b, b = bl.length := ⟨_, rfl⟩
  rw [← hal] at HC0 hla HIA
  rw [← hbl] at HC1 hlb HIB
  rw [← ha] at HC0 hla
  rw [← hb] at HC1 hlb
  have HAL := hideI ha
  have HBL := hideI hb
  have HS := hideI hs
  have HIN := hideI hn
  obtain ⟨N, hN⟩ : ∃ N : Int, (n < 0 ∧ N = 5) ∨ (0 ≤ n ∧ n = 9223372036854775807 ∧ N = 5) ∨ (0 ≤ n ∧ n ≠ 9223372036854775807 ∧ N = n) := by
    by_cases h1 : n < 0
    · exact ⟨5, .inl ⟨h1, rfl⟩⟩
    · by_cases h2 : n = 9223372036854775807
      · exact ⟨5, .inr (.inl ⟨by omega, h2, rfl⟩)⟩
      · exact ⟨n, .inr (.inr ⟨by omega, h2, rfl⟩)⟩
  have HNN : Hid (0 ≤ N ∧ N < 9223372036854775807) := hideI (by unfold In64 at hn; omega)
  have HI0 : Hid (In64 N) := hideI ⟨by have := HNN.out; omega, by have := HNN.out; omega⟩
  have HI1 : Hid (In64 (N + 1)) := hideI ⟨by have := HNN.out; omega, by have := HNN.out; omega⟩
  have HI2 : Hid (In64 0) := hideI ⟨by decide, by decide⟩
  obtain ⟨M, hM⟩ : ∃ M, M = N.toNat := ⟨_, rfl⟩
  have HM := hideI hM
  have HM1 : Hid (M + 1 = (N + 1).toNat) := hideI (by have := HNN.out; omega)
  -- what the calls answer
  obtain ⟨S, hS, hSI⟩ := add_is [al, bl] 8 (by intro c hc; simp at hc; rcases hc with rfl | rfl <;> omega) (by decide)
  obtain ⟨P, hP, hPI⟩ := mul_is al bl 8 8 (by omega) (by omega) (by decide) (by decide) (by decide) (by decide)
  obtain ⟨R, hR, hRI⟩ := sums_is s al 8 hs HIA.out (by omega) (by decide)
  have HSQ := hideI hS
  have HSI := hideI hSI
  have HPQ := hideI hP
  have HPI := hideI hPI
  have HRQ := hideI hR
  have HRI := hideI hRI
  clear hal hbl ha hb hs hn hT hM hS hP hR hSI hPI hRI
  go_enter Tryd.func7, Tryd.ntmps7
  go_upto_region 2 with (first
    | (go_at_call_of 16 (Value.slice A xs.length c); go_must (refine HC0.out.mono ?_); rintro e w1 ⟨A1, c1, rfl, hc, hw⟩; obtain rfl := hw.symm; have HCA := hideI hc; clear hc)
    | (go_at_call_of 16 (Value.slice A' ys.length c'); go_must (refine HC1.out.mono ?_); rintro e w1 ⟨A2, c2, rfl, hc, hw⟩; obtain rfl := hw.symm; have HCB := hideI hc; clear hc))
  have HLR := hideI (lr_two w _ _ _ _ 24 w.heap.size (Nat.le_refl _) HCA.out HCB.out)
  obtain ⟨W3, hW3⟩ : ∃ W3, W3 = w.alloc (.cells #[.slice A1 a c1, .slice A2 b c2] 24) := ⟨_, rfl⟩
  have HB3 : Hid (Below w.heap.size w W3) := hideI (by rw [hW3]; exact (Below.refl _ w).alloc (Nat.le_refl _) _)
  rw [← hW3] at HLR
  have HADD := hideI (chAdd_any _ _ _ W3 HLR.out (by rw [hW3]; simp))
  have HW3 := hideI hW3
  clear hW3 HLR
  rcases hN with ⟨hN1, hN2⟩ | ⟨hN1, hN3, hN2⟩ | ⟨hN1, hN3, hN2⟩
  all_goals (try have hnl : ¬ n < 0 := by omega)
  all_goals go_upto_region 4 with fail
  all_goals rw [← hN2]
  all_goals clear hN2
  all_goals go_upto_region 5 with (go_at_call 12; rw [← HW3.out]; go_must (refine HADD.out.mono ?_); rintro e w4 h4; obtain ⟨A4, n4, c4, rfl, hr4, hb4⟩ := h4.res HSQ.out HSI.out (by decide); have HB4 := hideI (HB3.out.trans (hb4.mono HB3.out.size)); have HR4 := hideI hr4; clear h4 hr4 hb4)
  all_goals have HMUL := hideI (chMul_any al bl w.heap.size _ _ w4 (HT.out.keep HB4.out HT0) (HCA.out.keep HB4.out) (HCB.out.keep HB4.out) HB4.out.size)
  all_goals go_upto_region 6 with (go_at_call 17; go_must (refine HMUL.out.mono ?_); rintro e w5 h5; obtain ⟨A5, n5, c5, rfl, hr5, hb5⟩ := h5.res HPQ.out HPI.out (by decide); have HB5 := hideI (HB4.out.trans (hb5.mono HB4.out.size)); have HR45 := hideI (HR4.out.keep hb5); have HR5 := hideI hr5; clear h5 hr5 hb5)
  all_goals have HSUM := hideI (chSums_any s al w.heap.size _ w5 (HCA.out.keep HB5.out) HB5.out.size (by rw [← HAL.out]; omega))
  all_goals go_upto_region 7 with (go_at_call 20; go_must (refine HSUM.out.mono ?_); rintro e w6 h6; obtain ⟨A6, n6, c6, rfl, hr6, hb6⟩ := h6.res HRQ.out HRI.out (by decide); have HB6 := hideI (HB5.out.trans (hb6.mono HB5.out.size)); have HR46 := hideI (HR45.out.keep hb6); have HR56 := hideI (HR5.out.keep hb6); have HR6 := hideI hr6; clear h6 hr6 hb6)
  all_goals go_upto_region 9 with (go_at_call 13; go_must (refine (awake_any _ (HT.out.keep HB6.out HT0)).mono ?_); rintro e w7 ⟨rfl, hb7⟩; have HB7 := hideI (HB6.out.trans (hb7.mono HB6.out.size)); have HR4 := hideI (HR46.out.keep hb7); have HR5 := hideI (HR56.out.keep hb7); have HR7 := hideI (HR6.out.keep hb7); clear hb7)
  all_goals clear HADD HMUL HSUM HR45 HR46 HR56 HR6
  all_goals have hwk : IntKind.i64.wrap (N + 1) = N + 1 := IntWalk.i64_in _ (by have := HNN.out; omega)
  all_goals have HD := hideI (Below.refl w7.heap.size w7)
  all_goals go_upto_region 10 with (first
    | (go_at_call_of 24 (Value.slice A1 a c1); go_must (refine (at_val (HCA.out.keep HB7.out) HB7.out.size (fun _ => Eq64.rfl' _) (by rw [← HAL.out]; omega) (HT.out.keep HB7.out HT0) N HI0.out (wrp (vl al M)) (by rw [← HM.out]; exact (wrp_eq _).symm) (wrp_in _)).mono ?_); rintro e w8 ⟨rfl, hb8⟩; replace HD := hideI hb8; have HB8 := hideI (HB7.out.trans (hb8.mono HB7.out.size)); clear hb8)
    | (go_at_call_of 24 (Value.slice A2 b c2); go_must (refine (at_val (HCB.out.keep HB8.out) HB8.out.size (fun _ => Eq64.rfl' _) (by rw [← HBL.out]; omega) (HT.out.keep HB8.out HT0) N HI0.out (wrp (vl bl M)) (by rw [← HM.out]; exact (wrp_eq _).symm) (wrp_in _)).mono ?_); rintro e w9 ⟨rfl, hb9⟩; replace HD := hideI (HD.out.trans (hb9.mono HD.out.size)); have HB := hideI (HB8.out.trans (hb9.mono HB8.out.size)); clear hb9))
  all_goals clear HB3 HB4 HB5 HB6 HB7 HB8 HW3
  all_goals go_wp2_with (first
    | (go_at_call_of 24 (Value.slice A4 n4 c4); go_must (refine (at_val (HR4.out.ci.keep HD.out) HD.out.size HR4.out.is.val (Nat.le_trans HR4.out.is.len (by decide)) (HT.out.keep HB.out HT0) N HI0.out (wrap64 (wrp (vl al M) + wrp (vl bl M))) (by rw [← HM.out]; refine Eq64.trans ?_ (wrap_eq _).symm; refine Eq64.trans ?_ ((wrp_eq _).add (wrp_eq _)).symm; rw [tv, tv, tv, Int.add_zero]; exact Eq64.rfl' _) (wrap_in _)).mono ?_); rintro e wn ⟨rfl, hbn⟩; replace HD := hideI (HD.out.trans (hbn.mono HD.out.size)); replace HB := hideI (HB.out.trans (hbn.mono HB.out.size)); clear hbn)
    | (go_at_call_of 24 (Value.slice A5 n5 c5); go_must (refine (at_val (HR5.out.ci.keep HD.out) HD.out.size HR5.out.is.val (Nat.le_trans HR5.out.is.len (by decide)) (HT.out.keep HB.out HT0) N HI0.out (wrap64 (wrp (vl al M) * wrp (vl bl M))) (by rw [← HM.out]; refine Eq64.trans ?_ (wrap_eq _).symm; exact ((wrp_eq _).mul (wrp_eq _)).symm) (wrap_in _)).mono ?_); rintro e wn ⟨rfl, hbn⟩; replace HD := hideI (HD.out.trans (hbn.mono HD.out.size)); replace HB := hideI (HB.out.trans (hbn.mono HB.out.size)); clear hbn)
    | (go_at_call 25; go_must (refine (chNext_any al w.heap.size (.slice A1 a c1) _ (HCA.out.keep HB.out) HB.out.size (by have h1 := trimM_len al; rw [← HAL.out] at h1; omega)).mono ?_); rintro e wn ⟨AN, nn, cn, zs, rfl, hci, hq, hbn⟩; have HCN := hideI hci; have HQN := hideI hq; replace HD := hideI (HD.out.trans (hbn.mono HD.out.size)); replace HB := hideI (HB.out.trans (hbn.mono HB.out.size)); clear hbn hci hq)
    | (go_at_call_of 24 (Value.slice AN nn cn); go_must (refine (at_val HCN.out (Nat.le_refl _) (F := fun n => vl al (n + 1)) (fun n => (vl_eq n _ _ HQN.out).symm.trans (by rw [vl_next, vl_trim]; exact Eq64.rfl' _)) (by have h1 := trimM_len al; rw [← HAL.out] at h1; rw [← HQN.out.1, nextM_len]; omega) (HT.out.keep HB.out HT0) N HI0.out (wrp (vl al (M + 1))) (by rw [← HM.out]; exact (wrp_eq _).symm) (wrp_in _)).mono ?_); rintro e wn ⟨rfl, hbn⟩; replace HD := hideI (HD.out.trans (hbn.mono HD.out.size)); replace HB := hideI (HB.out.trans (hbn.mono HB.out.size)); clear hbn)
    | (go_at_call_of 24 (Value.slice A1 a c1); go_must (refine (at_val (HCA.out.keep HB.out) HB.out.size (fun _ => Eq64.rfl' _) (by rw [← HAL.out]; omega) (HT.out.keep HB.out HT0) (N + 1) HI1.out (wrp (vl al (M + 1))) (by rw [← HM1.out]; exact (wrp_eq _).symm) (wrp_in _)).mono ?_); rintro e wn ⟨rfl, hbn⟩; replace HD := hideI (HD.out.trans (hbn.mono HD.out.size)); replace HB := hideI (HB.out.trans (hbn.mono HB.out.size)); clear hbn)
    | (go_at_call_of 24 (Value.int .i64 0); go_must (refine (at_val (HR7.out.ci.keep HD.out) HD.out.size HR7.out.is.val (Nat.le_trans HR7.out.is.len (by decide)) (HT.out.keep HB.out HT0) 0 HI2.out s (by rw [show (0 : Int).toNat = 0 from rfl, vl_sums0]; exact Eq64.rfl' _) HS.out).mono ?_); rintro e wn ⟨rfl, hbn⟩; replace HD := hideI (HD.out.trans (hbn.mono HD.out.size)); replace HB := hideI (HB.out.trans (hbn.mono HB.out.size)); clear hbn))
  all_goals (refine (at_val (HR7.out.ci.keep HD.out) HD.out.size HR7.out.is.val (Nat.le_trans HR7.out.is.len (by decide)) (HT.out.keep HB.out HT0) (N + 1) HI1.out (wrap64 (wrp (vl (s :: al) M) + wrp (vl al M))) (by rw [← HM1.out, vl_sums]; refine Eq64.trans ?_ (wrap_eq _).symm; exact ((wrp_eq _).add (wrp_eq _)).symm) (wrap_in _)).mono ?_; rintro e wn ⟨rfl, hbn⟩; replace HD := hideI (HD.out.trans (hbn.mono HD.out.size)); replace HB := hideI (HB.out.trans (hbn.mono HB.out.size)); clear hbn)
  all_goals go_wp2_with (go_at_call_of 24 (Value.slice A6 n6 c6); go_must (refine (at_val (HR7.out.ci.keep HD.out) HD.out.size HR7.out.is.val (Nat.le_trans HR7.out.is.len (by decide)) (HT.out.keep HB.out HT0) N HI0.out (wrp (vl (s :: al) M)) (by rw [← HM.out]; exact (wrp_eq _).symm) (wrp_in _)).mono ?_); rintro e wn ⟨rfl, hbn⟩; replace HD := hideI (HD.out.trans (hbn.mono HD.out.size)); replace HB := hideI (HB.out.trans (hbn.mono HB.out.size)); clear hbn)
  all_goals go_ret
  all_goals exact ⟨by simp, HB.out⟩

set_option maxRecDepth 100000 in
theorem lifted (os : Os) (started : os.Started) (H : Type) (enc : TypeId × Value → H) :
    ReturnsInHanded {} Tryd.checked os 7 .any (fun w args => (Rows.chainLawsSpec.pre enc Tryd.prog Tryd.f7 Rows.chainLawsRow.domain false w args ∧ laidMetH Tryd.prog Rows.chainLawsRow.laid w) ∧ sizedMet enc Tryd.prog Tryd.f7 (OpenSpec.ofChange Rows.chainLawsSpec) false w args) (Rows.chainLawsSpec.post enc Tryd.prog Tryd.f7 false true false false) := by
  refine returnsInHanded_of_change_and (C := Tryd.checked) (X := fun w _ => laidMetH Tryd.prog Rows.chainLawsRow.laid w) (fun _ _ _ hh h => h.of_heap hh) own started (by kernel_rfl) Tryd.func7
    (ChangeSpec.witness_shaped (enc := enc) (C := Tryd.checked) (os := os) (X := fun w _ => laidMetH Tryd.prog Rows.chainLawsRow.laid w) false (World.laidAll Tryd.prog os Rows.chainLawsRow.laid) #[.slice none 0 0, .slice none 0 0, .int .i64 0, .int .i64 0] 8 (World.laidAll_os _ _ _)
      (World.shaped_of_ZipB (by kernel_rfl) (by kernel_rfl)) (by kernel_rfl) (by kernel_rfl) (by kernel_rfl)
      (by rw [MakeChecks.laidMetH_plain _ _ _ (by kernel_rfl)]; exact laidMet_laidAll _ (by kernel_rfl) (by kernel_rfl))) ?_
  intro W base args ds gs before hval0 hW _ hsz hL _
  have hT : Tab W := tab_of rfl hL (fun w => MakeChecks.laidMetH_plain _ _ _ (by kernel_rfl))
  have hval : ∀ (j : Nat) t v, Tryd.f7.params[j]? = some t → args[j]? = some v → Value.okWide Tryd.prog W .any base t v := hval0
  have hW' := hW
  obtain ⟨p, q, hA0, hV, rfl, hfz, hnd⟩ := hW
  have hA : DataW.TrodAll enc Tryd.prog W 0 (fun _ => true) true Tryd.f7.params.toList args.toList ds p := hA0
  rw [Tryd.params7] at hA hval
  obtain ⟨v0, vs0, d0, ds0, p0, q0, hargs, rfl, rfl, h0, r0⟩ := trodAll_cons hA
  obtain ⟨v1, vs1, d1, ds1, p1, q1, rfl, rfl, rfl, h1, r1⟩ := trodAll_cons r0
  obtain ⟨v2, vs2, d2, ds2, p2, q2, rfl, rfl, rfl, h2, r2⟩ := trodAll_cons r1
  obtain ⟨v3, vs3, d3, ds3, p3, q3, rfl, rfl, rfl, h3, r3⟩ := trodAll_cons r2
  obtain ⟨rfl, rfl, rfl⟩ := trodAll_nil r3
  obtain rfl : args = #[v0, v1, v2, v3] := by cases args; simp_all
  obtain ⟨rfl, rfl⟩ := trodVars_none hV
  obtain ⟨x0, hx0⟩ := arg_ints (hval 0 24 v0 rfl rfl) h0 hsz (j := 0) rfl rfl
  obtain ⟨x1, hx1⟩ := arg_ints (hval 1 24 v1 rfl rfl) h1 hsz (j := 1) rfl rfl
  obtain ⟨x2, rfl, _, _, hx2⟩ := open_int Tryd.underlying3 (hval 2 3 v2 rfl rfl) h2
  obtain ⟨x3, rfl, _, _, hx3⟩ := open_int Tryd.underlying3 (hval 3 3 v3 rfl rfl) h3
  clear hA0 hval0
  refine (walk x0 v0 x1 v1 x2 x3 W hT hx0 hx1 (wf_in hx2) (wf_in hx3)).mono fun e W' ⟨he, hg⟩ => ?_
  subst he
  exact ⟨_, rfl, law_post (by kernel_rfl) hW' rfl (by kernel_rfl) Tryd.underlying4 rfl rfl rfl (by rw [Tryd.params7]; decide +kernel) hg⟩

theorem over : Rows.chainLawsRow.holds Tryd.pinned (OpenSpec.ofChange Rows.chainLawsSpec) :=
  OpenClaim.holds_of_wide 7 Tryd.f7 rfl rfl rfl rfl rfl rfl rfl ⟨rfl, rfl, rfl, rfl, rfl⟩ rfl rfl rfl rfl rfl (by kernel_rfl) Tryd.func7 (by kernel_rfl)
    (of_decide_eq_true (by kernel_rfl)) (by unfold Func.isWrapper; first | (rw [if_pos (by decide +kernel)]; kernel_rfl) | (rw [if_neg (by decide +kernel)]; exact ⟨rfl, rfl⟩))
    (fun os started H enc _ => lifted os started H enc)

theorem proved : Rows.ChainLawsCardSaid :=
  Claim7.holds_tied_plain_at .later [] [.data] true Rows.chainLawsCard.stood.harness false
    over (fun _ h => by cases h) (by kernel_rfl) (fun _ h => by cases h) chainLaws_row_tie rfl ⟨rfl, rfl⟩ (by kernel_rfl) rfl
    (fun f fn hf hfn => by
      obtain rfl : f = 7 := Option.some.inj ((show Tryd.prog.funcNamed "strake/strakelaw12.ChainLaws" = some 7 by kernel_rfl).symm.trans hf) |>.symm
      obtain rfl : fn = Tryd.f7 := (Option.some.inj (Tryd.func7.symm.trans hfn)).symm
      exact ⟨by kernel_rfl, fun j t ht => by
        rw [Tryd.params7] at ht
        have hm : t ∈ [24, 24, 3, 3] := by simpa using Array.mem_of_getElem? ht
        have hall : ([24, 24, 3, 3].all fun u => !Tryd.prog.wantsStandIn u) = true := by kernel_rfl
        exact (show Tryd.prog.wantsStandIn t = false by simpa using List.all_eq_true.1 hall t hm)⟩)
    (by kernel_rfl)
#print axioms proved
end Go.Proofs.YtfifbgpiekpepaaDoor.chainLaws
