/- What is proved: for every list of numbers, the chain that chain.Fit makes of its first 16 values, or of as many as it has numbers, is itself, trimmed. No condition but the card's own: the table of the trailing zeros is as Go's library lays it. -/
import Derived.Test.YtfifbgpiekpepaaDoorChOpen
import Derived.Test.YtfifbgpiekpepaaDoorChSums
import Derived.Test.YtfifbgpiekpepaaDoorChVals
import Derived.Test.YtfifbgpiekpepaaDoorTie
import Derived.Test.YtfifbgpiekpepaaDoorCards
import Derived.ProofKit
import Derived.LaidMore
import Derived.Lay
import Derived.OpenShut
import Derived.SevenTiedAt
namespace Go.Proofs.YtfifbgpiekpepaaDoor.chainBack
open Go.ChangeShapes Go.WideShapes Go.ChangeAt Go.RowKit Go.Proofs.YtfifbgpiekpepaaDoor.Chn

theorem num_some {w : World} {base : Nat} {A : Option Addr} {n c : Nat} {xs : List Int} (h : Num w base (.slice A n c) xs) (h0 : 0 < xs.length) : ∃ g, A = some ⟨g, 0, none⟩ := by
  obtain ⟨A2, c2, e, hr⟩ := h.read
  injection e with e
  subst e
  obtain ⟨g, e, _⟩ := hr 0 _ (List.getElem?_eq_getElem h0)
  exact ⟨g, e⟩

/-- the chain out of its first values -/
theorem back_of {vs ys : List Int} {m : Nat} (hv : ValsTo vs (vl ys) m) (hm : ys.length ≤ m) (hi : ∀ x ∈ ys, In64 x) : trimM (fitW m vs) = trimM ys := by
  have h1 := fitW_held (vs := vs) (c := ys) hv.in_ (fun n hn => by
    rw [List.getD_eq_getElem?_getD, hv.at_ n (by rw [hv.len] at hn; exact hn)]
    exact wrp_eq _) (by rw [hv.len]; exact hm) hi
  rw [hv.len] at h1
  exact h1

theorem ValsTo.take {vs : List Int} {f : Nat → Int} {n m : Nat} (h : ValsTo vs f n) (hm : m ≤ n) : ValsTo (vs.take m) f m :=
  ⟨by rw [List.length_take, h.len]; omega, fun j hj => by rw [List.getElem?_take, if_pos hj]; exact h.at_ j (by omega)⟩

set_option maxRecDepth 100000 in
set_option maxHeartbeats 4000000 in
theorem walk (xs : List Int) (v : Value) (w : World) (hT : Tab w) (hx : InL w v xs) :
    Calls Tryd.prog 8 #[v] w fun e w' => e = .returned (.bool true) ∧ Below w.heap.size w w' := by
  have HCUT := hideI (cut_any xs w.heap.size 16 v w hx.ci (by decide))
  have HT := hideI hT
  have HT0 := hT.1
  have hl16 : (xs.take 16).length ≤ 16 := by rw [List.length_take]; omega
  have HIN : Hid (∀ x ∈ xs.take 16, In64 x) := hideI fun x h => hx.held x (List.mem_of_mem_take h)
  obtain ⟨ys, hys⟩ : ∃ ys, ys = xs.take 16 := ⟨_, rfl⟩
  obtain ⟨n, hn⟩ : ∃ n, n = ys.length := ⟨_, rfl⟩
  rw [← hys] at HCUT hl16 HIN
  rw [← hn] at HCUT hl16
  have HN := hideI hn
  have htl : (trimM ys).length ≤ 16 := by have := trimM_len ys; omega
  have HTL := hideI htl
  have HATM : Hid (∀ k : Nat, atM ys (k : Int) = wrp (vl ys k)) := hideI fun k => by
    unfold atM
    rw [if_neg (by omega)]
    rfl
  obtain ⟨⟨⟨A, c, rfl, _, _⟩, _⟩, _, _⟩ := hx
  obtain ⟨W0, hW0⟩ : ∃ W0 : World, W0 = w.alloc (.cells #[] 3) := ⟨_, rfl⟩
  have HO0 : Hid (Num W0 w.heap.size (.slice (some ⟨w.heap.size, 0, none⟩) 0 0) []) := hideI (by rw [hW0]; exact World.ownsRow_made (base := w.heap.size) (e := 3) (size := 1) w #[] 0 (Nat.le_refl _) (by decide) rfl)
  have HB0 : Hid (Below w.heap.size w W0) := hideI (by rw [hW0]; exact (Below.refl _ w).alloc (Nat.le_refl _) _)
  have HW0 := hideI hW0
  clear hys hn hT hW0 htl
  go_enter Tryd.func8, Tryd.ntmps8
  go_upto_region 3 with (go_at_call 16; go_must (refine HCUT.out.mono ?_); rintro e w1 ⟨A1, c1, rfl, hc, hw⟩; obtain rfl := hw.symm; have HC := hideI hc; clear hc)
  rw [← HW0.out]
  go_wp2
  go_loopw [3, 4] (fun u3 u4 wv => ∃ (k g c3 : Nat) (vs : List Int), k ≤ 16 ∧ u4 = .int .i64 k ∧ u3 = .slice (some ⟨g, 0, none⟩) k c3 ∧ Hid (ValsTo vs (vl ys) k) ∧ Hid (Num wv w.heap.size (.slice (some ⟨g, 0, none⟩) k c3) vs) ∧ Hid (Below w.heap.size w wv)) (fun _ u4 _ => 16 - (intOf u4).toNat)
  case atStart => exact ⟨0, _, _, [], Nat.zero_le _, rfl, rfl, hideI ⟨rfl, fun j hj => by omega⟩, HO0, HB0⟩
  case round =>
    obtain ⟨k, g, c3, vs, hk, rfl, rfl, HVS, HNU, HBr⟩ := hrel
    by_cases hlt : k < 16
    · have hl : (k : Int) < 16 := by omega
      have HAT := hideI (at_any ys w.heap.size (.slice A1 n c1) k wr (HT.out.keep HBr.out HT0) (HC.out.keep HBr.out) HBr.out.size ⟨by omega, by omega⟩)
      rw [HATM.out k] at HAT
      go_wp2_with (first
        | (go_at_call 24; go_must (refine HAT.out.mono ?_); rintro e w2 ⟨rfl, hb2⟩; have HB2 := hideI (HBr.out.trans (hb2.mono HBr.out.size)); have HN2 := hideI (HNU.out.kept hb2); clear hb2)
        | (at_builtin; go_must (refine wpList_join rfl _ _ rfl (w2.heap.size + 1) g k c3 w.heap.size (.slice (some ⟨w2.heap.size, 0, none⟩) 1 1) vs [wrp (vl ys k)] rfl rfl (HN2.out.kept ((Below.refl _ w2).alloc (Nat.le_refl _) _)) (by have h := (num_one w2 (wrp (vl ys k))).ints (by simp); simpa using h) (by rw [HVS.out.len]; simp; omega) (by have h1 := HB2.out.size; simp; omega) ?_); intro A6 c6 w6 hown hb; have HN6 := hideI hown; have HB6 := hideI ((HB2.out.alloc HB2.out.size _).trans hb); clear hown hb))
      have hlen : (vs ++ [wrp (vl ys k)]).length = k + 1 := by rw [List.length_append, HVS.out.len]; rfl
      rw [hlen] at HN6
      obtain ⟨g6, rfl⟩ := num_some HN6.out (by omega)
      clear hlen
      go_roundw
      case rel => exact ⟨k + 1, g6, c6, vs ++ [wrp (vl ys k)], by omega, by go_num, by rw [HVS.out.len], hideI (HVS.out.push rfl), HN6, HB6⟩
      case measure => simp [intOf]; omega
    · have hk16 : k = 16 := by omega
      subst hk16
      have hnl : ¬ (16 : Int) < 16 := by omega
      have HCV := hideI (HNU.out.ci (by rw [HVS.out.len]; decide))
      have HTK : Hid (CI wr wr.heap.size (.slice (some ⟨g, 0, none⟩) n c3) (vs.take n)) := hideI (HCV.out.take (by rw [HVS.out.len]; exact hl16) rfl)
      have hc16 := HNU.out.cap.1
      have hcn : (n : Int) ≤ (c3 : Int) := by omega
      have hc0 : ¬ c3 = 0 := by omega
      have e1 : trimM (fitW vs.length vs) = trimM ys := by rw [HVS.out.len]; exact back_of HVS.out (by rw [← HN.out]; exact hl16) HIN.out
      have e2 : trimM (fitW (vs.take n).length (vs.take n)) = trimM ys := by
        have h1 := ValsTo.take HVS.out hl16
        rw [h1.len]
        exact back_of h1 (by rw [← HN.out]; exact Nat.le_refl _) HIN.out
      have HF1 : Hid (fitAM vs = some (trimM ys)) := hideI (by
        unfold fitAM
        rw [if_neg (by rw [HVS.out.len]; omega), e1]
        exact if_neg (by have := HTL.out; omega))
      have HF2 : Hid (fitAM (vs.take n) = some (trimM ys)) := hideI (by
        unfold fitAM
        rw [if_neg (by rw [List.length_take, HVS.out.len]; omega), e2]
        exact if_neg (by have := HTL.out; omega))
      obtain ⟨zs, hzs⟩ : ∃ zs, zs = trimM ys := ⟨_, rfl⟩
      have HZ := hideI hzs
      rw [← hzs] at HF1 HF2 HTL
      have HZL := hideI HTL.out
      clear e1 e2 hzs hc16
      have HC1 := hideI (chFit_any vs wr.heap.size _ wr HCV.out)
      go_upto_region 8 with (go_at_call 22; go_must (refine HC1.out.mono ?_); rintro e w2 h2; obtain ⟨A2, c2, rfl, _, hv2, hb2⟩ := h2.some_ HF1.out; have HB2 := hideI hb2; have HV2 := hideI (hv2.ints (by have := HZL.out; omega)); clear h2 hb2 hv2)
      have HC2 := hideI (chFit_any (vs.take n) wr.heap.size _ w2 (HTK.out.keep HB2.out))
      go_upto_region 9 with (go_at_call 22; go_must (refine HC2.out.mono ?_); rintro e w3 h3; obtain ⟨A3, c3', rfl, _, hv3, hb3⟩ := h3.some_ HF2.out; have HB3 := hideI (HB2.out.trans (hb3.mono HB2.out.size)); have HV3 := hideI (hv3.ints (by have := HZL.out; omega)); have HV23 := hideI ((HV2.out.keep hb3).more hb3.size); clear h3 hb3 hv3)
      have HBW := hideI (HBr.out.trans (HB3.out.mono HBr.out.size))
      go_wp2_with (first
        | (go_at_call 13; go_must (refine (awake_any _ (HT.out.keep HBW.out HT0)).mono ?_); rintro e w4 ⟨rfl, hb4⟩; have HB4 := hideI (HBW.out.trans (hb4.mono HBW.out.size)); have HV24 := hideI ((HV23.out.keep hb4).more hb4.size); have HV34 := hideI ((HV3.out.keep hb4).more hb4.size); clear hb4)
        | (go_at_call 26; go_must (refine (chTrim_any ys w.heap.size (.slice A1 n c1) _ (HC.out.keep HB4.out) (by rw [← HN.out]; omega)).mono ?_); rintro e w5 ⟨v5, rfl, hv5, hb5⟩; have HB5 := hideI (HB4.out.trans (hb5.mono HB4.out.size)); have HV5 := hideI (hv5.ints (by rw [← HZ.out]; have := HZL.out; omega)); have HV25 := hideI ((HV24.out.keep hb5).more hb5.size); have HV35 := hideI ((HV34.out.keep hb5).more hb5.size); clear hv5 hb5; rw [← HZ.out] at HV5)
        | (go_at_call_of 14 (Value.slice A3 zs.length c3'); go_must (refine (sameInts_any _ w5.heap.size _ _ zs zs (HV35.out.keep (below_drewN (Below.refl _ _) _)) (HV25.out.keep (below_drewN (Below.refl _ _) _))).mono ?_); rintro e w7 ⟨rfl, m7, rfl⟩)
        | (go_at_call_of 14 (Value.slice A2 zs.length c2); go_must (refine (sameInts_any _ w5.heap.size _ _ zs zs HV25.out HV5.out).mono ?_); rintro e w6 ⟨rfl, m6, rfl⟩))
      go_ret
      exact ⟨by simp, below_drewN HB5.out (m6 + m7)⟩

set_option maxRecDepth 100000 in
theorem lifted (os : Os) (started : os.Started) (H : Type) (enc : TypeId × Value → H) :
    ReturnsInHanded {} Tryd.checked os 8 .any (fun w args => (Rows.chainBackSpec.pre enc Tryd.prog Tryd.f8 Rows.chainBackRow.domain false w args ∧ laidMetH Tryd.prog Rows.chainBackRow.laid w) ∧ sizedMet enc Tryd.prog Tryd.f8 (OpenSpec.ofChange Rows.chainBackSpec) false w args) (Rows.chainBackSpec.post enc Tryd.prog Tryd.f8 false true false false) := by
  refine returnsInHanded_of_change_and (C := Tryd.checked) (X := fun w _ => laidMetH Tryd.prog Rows.chainBackRow.laid w) (fun _ _ _ hh h => h.of_heap hh) own started (by kernel_rfl) Tryd.func8
    (ChangeSpec.witness_shaped (enc := enc) (C := Tryd.checked) (os := os) (X := fun w _ => laidMetH Tryd.prog Rows.chainBackRow.laid w) false (World.laidAll Tryd.prog os Rows.chainBackRow.laid) #[.slice none 0 0] 8 (World.laidAll_os _ _ _)
      (World.shaped_of_ZipB (by kernel_rfl) (by kernel_rfl)) (by kernel_rfl) (by kernel_rfl) (by kernel_rfl)
      (by rw [MakeChecks.laidMetH_plain _ _ _ (by kernel_rfl)]; exact laidMet_laidAll _ (by kernel_rfl) (by kernel_rfl))) ?_
  intro W base args ds gs before hval0 hW _ hsz hL _
  have hT : Tab W := tab_of rfl hL (fun w => MakeChecks.laidMetH_plain _ _ _ (by kernel_rfl))
  have hval : ∀ (j : Nat) t v, Tryd.f8.params[j]? = some t → args[j]? = some v → Value.okWide Tryd.prog W .any base t v := hval0
  have hW' := hW
  obtain ⟨p, q, hA0, hV, rfl, hfz, hnd⟩ := hW
  have hA : DataW.TrodAll enc Tryd.prog W 0 (fun _ => true) true Tryd.f8.params.toList args.toList ds p := hA0
  rw [Tryd.params8] at hA hval
  obtain ⟨v0, vs0, d0, ds0, p0, q0, hargs, rfl, rfl, h0, r0⟩ := trodAll_cons hA
  obtain ⟨rfl, rfl, rfl⟩ := trodAll_nil r0
  obtain rfl : args = #[v0] := by cases args; simp_all
  obtain ⟨rfl, rfl⟩ := trodVars_none hV
  obtain ⟨x0, hx0⟩ := arg_ints (hval 0 24 v0 rfl rfl) h0 hsz (j := 0) rfl rfl
  clear hA0 hval0
  refine (walk x0 v0 W hT hx0).mono fun e W' ⟨he, hg⟩ => ?_
  subst he
  exact ⟨_, rfl, law_post (by kernel_rfl) hW' rfl (by kernel_rfl) Tryd.underlying4 rfl rfl rfl (by rw [Tryd.params8]; decide +kernel) hg⟩

theorem over : Rows.chainBackRow.holds Tryd.pinned (OpenSpec.ofChange Rows.chainBackSpec) :=
  OpenClaim.holds_of_wide 8 Tryd.f8 rfl rfl rfl rfl rfl rfl rfl ⟨rfl, rfl, rfl, rfl, rfl⟩ rfl rfl rfl rfl rfl (by kernel_rfl) Tryd.func8 (by kernel_rfl)
    (of_decide_eq_true (by kernel_rfl)) (by unfold Func.isWrapper; first | (rw [if_pos (by decide +kernel)]; kernel_rfl) | (rw [if_neg (by decide +kernel)]; exact ⟨rfl, rfl⟩))
    (fun os started H enc _ => lifted os started H enc)

theorem proved : Rows.ChainBackCardSaid :=
  Claim7.holds_tied_plain_at .later [] [.data] true Rows.chainBackCard.stood.harness false
    over (fun _ h => by cases h) (by kernel_rfl) (fun _ h => by cases h) chainBack_row_tie rfl ⟨rfl, rfl⟩ (by kernel_rfl) rfl
    (fun f fn hf hfn => by
      obtain rfl : f = 8 := Option.some.inj ((show Tryd.prog.funcNamed "strake/strakelaw12.ChainBack" = some 8 by kernel_rfl).symm.trans hf) |>.symm
      obtain rfl : fn = Tryd.f8 := (Option.some.inj (Tryd.func8.symm.trans hfn)).symm
      exact ⟨by kernel_rfl, fun j t ht => by
        rw [Tryd.params8] at ht
        have hm : t ∈ [24] := by simpa using Array.mem_of_getElem? ht
        have hall : ([24].all fun u => !Tryd.prog.wantsStandIn u) = true := by kernel_rfl
        exact (show Tryd.prog.wantsStandIn t = false by simpa using List.all_eq_true.1 hall t hm)⟩)
    (by kernel_rfl)
#print axioms proved
end Go.Proofs.YtfifbgpiekpepaaDoor.chainBack
