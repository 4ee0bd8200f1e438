/- What is proved: for all numbers and 1 to 64 bits, modular.First meets a span of all numbers at once, and one with a number more not later. No condition but the card's own: the table of the trailing zeros is as Go's library lays it. -/
import Derived.Test.YtidebjcnmabggaaDoorMoOpen
import Derived.Test.YtidebjcnmabggaaDoorMoRef
import Derived.Test.YtidebjcnmabggaaDoorTie
import Derived.Test.YtidebjcnmabggaaDoorCards
import Derived.ProofKit
import Derived.LaidMore
import Derived.Lay
import Derived.OpenShut
import Derived.SevenTiedAt
namespace Go.Proofs.YtidebjcnmabggaaDoor.modularWhole
open Go.ChangeShapes Go.WideShapes Go.ChangeAt Go.RowKit Go.Proofs.YtidebjcnmabggaaDoor.Mo Go.Proofs.YtidebjcnmabggaaDoor.Chn


theorem wider {M a b lo hi x y : Nat} {g : Int} (h : First M a b lo hi x) (h2 : Ans M a b lo (hi + 1) y g) : g = 0 ∧ y ≤ x := by
  have hx : Hit M a b lo (hi + 1) x := ⟨h.1.1, Nat.le_succ_of_le h.1.2⟩
  cases h2 with
  | yes h3 =>
    refine ⟨rfl, ?_⟩
    rcases Nat.lt_or_ge x y with h4 | h4
    · exact absurd hx (h3.2 _ h4)
    · exact h4
  | no h3 => exact absurd hx (h3 _)

set_option maxHeartbeats 1000000 in
set_option maxRecDepth 100000 in
theorem walk (a b lo hi k : Nat) (w : World) (hT : Tab w) (ha : a < 18446744073709551616) (hb : b < 18446744073709551616) (hlo : lo < 18446744073709551616) (hhi : hi < 18446744073709551616) (hk : k < 256) :
    Calls Tryd.prog 9 #[.int .u64 (a : Int), .int .u64 (b : Int), .int .u64 (lo : Int), .int .u64 (hi : Int), .int .u8 (k : Int)] w fun e w' => e = .returned (.bool true) ∧ Below w.heap.size w w' := by
  have HT := hideI hT
  have hT0 := hT.1
  have HB := hideI (Below.refl w.heap.size w)
  obtain ⟨r, hr⟩ : ∃ r, r = k % 64 := ⟨_, rfl⟩
  obtain ⟨n, hn⟩ : ∃ n, n = r + 1 := ⟨_, rfl⟩
  have e1 : (k : Int) % 64 = (r : Int) := by omega
  have e2 : (k : Int).tmod 64 = (r : Int) := by rw [hr]; rfl
  have e3 : (r : Int) + 1 = (n : Int) := by omega
  have hr12 : (r : Int) < 64 := by omega
  have h1n : 1 ≤ n := by omega
  have hn64 : n ≤ 64 := by omega
  have HM := hideI (fun V : World => refMask_any n (by omega) V)
  have hp := pow_pos n
  have hle := pow_le64 (n := n) (by omega)
  have A1 := and_top hlo (n := n) (by omega)
  have A2 := and_top hhi (n := n) (by omega)
  have hl1 := Nat.mod_lt lo hp
  have hh1 := Nat.mod_lt hi hp
  have HF0 := hideI (fun V : World => show Calls Tryd.prog 15 #[.int .u64 (a : Int), .int .u64 (b : Int), .int .u64 0, .int .u64 ((2 ^ n - 1 : Nat) : Int), .int .i64 (n : Int)] V (AnsP (2 ^ n) a b 0 (2 ^ n - 1) V) from first_any a b 0 (2 ^ n - 1) n h1n (by omega) ha hb (by omega) (by omega) V)
  obtain ⟨P, hP⟩ : ∃ P, P = 2 ^ n := ⟨_, rfl⟩
  rw [← hP] at HF0 HM A1 A2 hl1 hh1 hp hle
  obtain ⟨Q, hQ⟩ : ∃ Q, Q = P - 1 := ⟨_, rfl⟩
  rw [← hQ] at HF0 HM A1 A2
  have HZ : Hid (Ans P a b 0 Q 0 0) := hideI (.yes ⟨⟨Nat.zero_le _, by have := Nat.mod_lt (a + b * 0) hp; omega⟩, fun m hm => by omega⟩)
  obtain ⟨l1, hl1e⟩ : ∃ z, z = lo % P := ⟨_, rfl⟩
  obtain ⟨h1, hh1e⟩ : ∃ z, z = hi % P := ⟨_, rfl⟩
  rw [← hl1e] at A1 hl1
  rw [← hh1e] at A2 hh1
  clear hl1e hh1e hlo hhi
  by_cases hsw : h1 < l1
  · have c1 : (h1 : Int) < (l1 : Int) := by omega
    have HFL := hideI (fun V : World => first_any a b h1 l1 n h1n (by omega) ha hb (by omega) (by omega) V)
    have HWI := hideI (fun (x y : Nat) (g : Int) (h : First P a b h1 l1 x) (h2 : Ans P a b h1 (l1 + 1) y g) => wider h h2)
    rw [← hP] at HFL
    skip
    by_cases hq : l1 = Q
    · clear hT hr hn ha hb hk hn64 h1n hp hP hQ hsw hl1 hh1 hle
      subst hq
      go_enter Tryd.func9, Tryd.ntmps9
      go_upto_region 6 with (go_at_call 16; go_must (refine (HM.out _).mono ?_); rintro e w2 ⟨rfl, hw⟩; obtain rfl := hw.symm)
      go_upto_region 7 with (go_at_call 15; go_must (refine (HF0.out _).mono ?_); rintro e w1 ⟨x, en, hA, rfl, hb⟩; (obtain ⟨rfl, rfl⟩ := hA.one HZ.out); clear hA; replace HB := hideI (HB.out.trans (hb.mono HB.out.size)); clear hb)
      go_upto_region 8 with (go_at_call 15; go_must (refine (HFL.out _).mono ?_); rintro e w1 ⟨x2, en2, hA, rfl, hb⟩; have HA := hideI hA; clear hA; replace HB := hideI (HB.out.trans (hb.mono HB.out.size)); clear hb)
      go_wp2_with (go_at_call 12; go_must (refine (Mo.awake_any _ (HT.out.keep HB.out hT0)).mono ?_); rintro e w2 ⟨rfl, hb⟩; replace HB := hideI (HB.out.trans (hb.mono HB.out.size)); clear hb)
      go_ret
      exact ⟨rfl, HB.out⟩
    · have hqi : ¬ (l1 : Int) = (Q : Int) := by omega
      have HF3 := hideI (fun V : World => first_any a b h1 (l1 + 1) n h1n (by omega) ha hb (by omega) (by omega) V)
      rw [← hP] at HF3
      have e5 : IntKind.u64.wrap ((l1 : Int) + 1) = ((l1 + 1 : Nat) : Int) := by rw [IntKind.wrap_u64]; omega
      obtain ⟨H1, hH1⟩ : ∃ z, z = l1 + 1 := ⟨_, rfl⟩
      rw [← hH1] at HF3 HWI e5
      clear hT hr hn ha hb hk hn64 h1n hp hP hQ hsw hq hl1 hh1 hle hH1
      go_enter Tryd.func9, Tryd.ntmps9
      go_upto_region 6 with (go_at_call 16; go_must (refine (HM.out _).mono ?_); rintro e w2 ⟨rfl, hw⟩; obtain rfl := hw.symm)
      go_upto_region 7 with (go_at_call 15; go_must (refine (HF0.out _).mono ?_); rintro e w1 ⟨x, en, hA, rfl, hb⟩; (obtain ⟨rfl, rfl⟩ := hA.one HZ.out); clear hA; replace HB := hideI (HB.out.trans (hb.mono HB.out.size)); clear hb)
      go_upto_region 8 with (go_at_call 15; go_must (refine (HFL.out _).mono ?_); rintro e w1 ⟨x2, en2, hA, rfl, hb⟩; have HA := hideI hA; clear hA; replace HB := hideI (HB.out.trans (hb.mono HB.out.size)); clear hb; rcases ans_or HA.out with ⟨rfl, hf⟩ | ⟨rfl, rfl, hf⟩)
      · have HFI := hideI hf
        clear hf
        go_wp2_with (first | (go_at_call 12; go_must (refine (Mo.awake_any _ (HT.out.keep HB.out hT0)).mono ?_); rintro e w2 ⟨rfl, hb⟩; replace HB := hideI (HB.out.trans (hb.mono HB.out.size)); clear hb) | (go_at_call 15; go_must (refine (HF3.out _).mono ?_); rintro e w1 ⟨x3, en3, hA, rfl, hb⟩; have HA3 := hideI hA; clear hA; replace HB := hideI (HB.out.trans (hb.mono HB.out.size)); clear hb; obtain ⟨rfl, hle3⟩ := HWI.out _ _ _ HFI.out HA3.out))
        go_ret
        exact ⟨by simp, HB.out⟩
      · clear hf
        go_wp2_with (first | (go_at_call 12; go_must (refine (Mo.awake_any _ (HT.out.keep HB.out hT0)).mono ?_); rintro e w2 ⟨rfl, hb⟩; replace HB := hideI (HB.out.trans (hb.mono HB.out.size)); clear hb) | (go_at_call 15; go_must (refine (HF3.out _).mono ?_); rintro e w1 ⟨x3, en3, hA, rfl, hb⟩; have HA3 := hideI hA; clear hA; replace HB := hideI (HB.out.trans (hb.mono HB.out.size)); clear hb))
        go_ret
        exact ⟨by simp, HB.out⟩
  · have c1 : ¬ (h1 : Int) < (l1 : Int) := by omega
    have HFL := hideI (fun V : World => first_any a b l1 h1 n h1n (by omega) ha hb (by omega) (by omega) V)
    have HWI := hideI (fun (x y : Nat) (g : Int) (h : First P a b l1 h1 x) (h2 : Ans P a b l1 (h1 + 1) y g) => wider h h2)
    rw [← hP] at HFL
    skip
    by_cases hq : h1 = Q
    · clear hT hr hn ha hb hk hn64 h1n hp hP hQ hsw hl1 hh1 hle
      subst hq
      go_enter Tryd.func9, Tryd.ntmps9
      go_upto_region 6 with (go_at_call 16; go_must (refine (HM.out _).mono ?_); rintro e w2 ⟨rfl, hw⟩; obtain rfl := hw.symm)
      go_upto_region 7 with (go_at_call 15; go_must (refine (HF0.out _).mono ?_); rintro e w1 ⟨x, en, hA, rfl, hb⟩; (obtain ⟨rfl, rfl⟩ := hA.one HZ.out); clear hA; replace HB := hideI (HB.out.trans (hb.mono HB.out.size)); clear hb)
      go_upto_region 8 with (go_at_call 15; go_must (refine (HFL.out _).mono ?_); rintro e w1 ⟨x2, en2, hA, rfl, hb⟩; have HA := hideI hA; clear hA; replace HB := hideI (HB.out.trans (hb.mono HB.out.size)); clear hb)
      go_wp2_with (go_at_call 12; go_must (refine (Mo.awake_any _ (HT.out.keep HB.out hT0)).mono ?_); rintro e w2 ⟨rfl, hb⟩; replace HB := hideI (HB.out.trans (hb.mono HB.out.size)); clear hb)
      go_ret
      exact ⟨rfl, HB.out⟩
    · have hqi : ¬ (h1 : Int) = (Q : Int) := by omega
      have HF3 := hideI (fun V : World => first_any a b l1 (h1 + 1) n h1n (by omega) ha hb (by omega) (by omega) V)
      rw [← hP] at HF3
      have e5 : IntKind.u64.wrap ((h1 : Int) + 1) = ((h1 + 1 : Nat) : Int) := by rw [IntKind.wrap_u64]; omega
      obtain ⟨H1, hH1⟩ : ∃ z, z = h1 + 1 := ⟨_, rfl⟩
      rw [← hH1] at HF3 HWI e5
      clear hT hr hn ha hb hk hn64 h1n hp hP hQ hsw hq hl1 hh1 hle hH1
      go_enter Tryd.func9, Tryd.ntmps9
      go_upto_region 6 with (go_at_call 16; go_must (refine (HM.out _).mono ?_); rintro e w2 ⟨rfl, hw⟩; obtain rfl := hw.symm)
      go_upto_region 7 with (go_at_call 15; go_must (refine (HF0.out _).mono ?_); rintro e w1 ⟨x, en, hA, rfl, hb⟩; (obtain ⟨rfl, rfl⟩ := hA.one HZ.out); clear hA; replace HB := hideI (HB.out.trans (hb.mono HB.out.size)); clear hb)
      go_upto_region 8 with (go_at_call 15; go_must (refine (HFL.out _).mono ?_); rintro e w1 ⟨x2, en2, hA, rfl, hb⟩; have HA := hideI hA; clear hA; replace HB := hideI (HB.out.trans (hb.mono HB.out.size)); clear hb; rcases ans_or HA.out with ⟨rfl, hf⟩ | ⟨rfl, rfl, hf⟩)
      · have HFI := hideI hf
        clear hf
        go_wp2_with (first | (go_at_call 12; go_must (refine (Mo.awake_any _ (HT.out.keep HB.out hT0)).mono ?_); rintro e w2 ⟨rfl, hb⟩; replace HB := hideI (HB.out.trans (hb.mono HB.out.size)); clear hb) | (go_at_call 15; go_must (refine (HF3.out _).mono ?_); rintro e w1 ⟨x3, en3, hA, rfl, hb⟩; have HA3 := hideI hA; clear hA; replace HB := hideI (HB.out.trans (hb.mono HB.out.size)); clear hb; obtain ⟨rfl, hle3⟩ := HWI.out _ _ _ HFI.out HA3.out))
        go_ret
        exact ⟨by simp, HB.out⟩
      · clear hf
        go_wp2_with (first | (go_at_call 12; go_must (refine (Mo.awake_any _ (HT.out.keep HB.out hT0)).mono ?_); rintro e w2 ⟨rfl, hb⟩; replace HB := hideI (HB.out.trans (hb.mono HB.out.size)); clear hb) | (go_at_call 15; go_must (refine (HF3.out _).mono ?_); rintro e w1 ⟨x3, en3, hA, rfl, hb⟩; have HA3 := hideI hA; clear hA; replace HB := hideI (HB.out.trans (hb.mono HB.out.size)); clear hb))
        go_ret
        exact ⟨by simp, HB.out⟩

set_option maxRecDepth 100000 in
theorem lifted (os : Os) (started : os.Started) (H : Type) (enc : TypeId × Value → H) :
    ReturnsInHanded {} Tryd.checked os 9 .any (fun w args => (Rows.modularWholeSpec.pre enc Tryd.prog Tryd.f9 Rows.modularWholeRow.domain false w args ∧ laidMetH Tryd.prog Rows.modularWholeRow.laid w) ∧ sizedMet enc Tryd.prog Tryd.f9 (OpenSpec.ofChange Rows.modularWholeSpec) false w args) (Rows.modularWholeSpec.post enc Tryd.prog Tryd.f9 false true false false) := by
  refine returnsInHanded_of_change_and (C := Tryd.checked) (X := fun w _ => laidMetH Tryd.prog Rows.modularWholeRow.laid w) (fun _ _ _ hh h => h.of_heap hh) own started (by kernel_rfl) Tryd.func9
    (ChangeSpec.witness_shaped (enc := enc) (C := Tryd.checked) (os := os) (X := fun w _ => laidMetH Tryd.prog Rows.modularWholeRow.laid w) false (World.laidAll Tryd.prog os Rows.modularWholeRow.laid) #[.int .u64 0, .int .u64 0, .int .u64 0, .int .u64 0, .int .u8 0] 8 (World.laidAll_os _ _ _)
      (World.shaped_of_ZipB (by kernel_rfl) (by kernel_rfl)) (by kernel_rfl) (by kernel_rfl) (by kernel_rfl)
      (by rw [MakeChecks.laidMetH_plain _ _ _ (by kernel_rfl)]; exact laidMet_laidAll _ (by kernel_rfl) (by kernel_rfl))) ?_
  intro W base args ds gs before hval0 hW _ hsz hL _
  have hT : Tab W := tab_of rfl hL (fun w => MakeChecks.laidMetH_plain _ _ _ (by kernel_rfl))
  have hval : ∀ (j : Nat) t v, Tryd.f9.params[j]? = some t → args[j]? = some v → Value.okWide Tryd.prog W .any base t v := hval0
  have hW' := hW
  obtain ⟨p, q, hA0, hV, rfl, hfz, hnd⟩ := hW
  have hA : DataW.TrodAll enc Tryd.prog W 0 (fun _ => true) true Tryd.f9.params.toList args.toList ds p := hA0
  rw [Tryd.params9] at hA hval
  obtain ⟨v0, vs0, d0, ds0, p0, q0, hargs, rfl, rfl, h0, r0⟩ := trodAll_cons hA
  obtain ⟨v1, vs1, d1, ds1, p1, q1, rfl, rfl, rfl, h1, r1⟩ := trodAll_cons r0
  obtain ⟨v2, vs2, d2, ds2, p2, q2, rfl, rfl, rfl, h2, r2⟩ := trodAll_cons r1
  obtain ⟨v3, vs3, d3, ds3, p3, q3, rfl, rfl, rfl, h3, r3⟩ := trodAll_cons r2
  obtain ⟨v4, vs4, d4, ds4, p4, q4, rfl, rfl, rfl, h4, r4⟩ := trodAll_cons r3
  obtain ⟨rfl, rfl, rfl⟩ := trodAll_nil r4
  obtain rfl : args = #[v0, v1, v2, v3, v4] := by cases args; simp_all
  obtain ⟨rfl, rfl⟩ := trodVars_none hV
  obtain ⟨x0, rfl, _, _, hx0⟩ := open_int Tryd.underlying27 (hval 0 27 v0 rfl rfl) h0
  obtain ⟨y0, rfl, hl0⟩ := wf_u64 hx0
  obtain ⟨x1, rfl, _, _, hx1⟩ := open_int Tryd.underlying27 (hval 1 27 v1 rfl rfl) h1
  obtain ⟨y1, rfl, hl1⟩ := wf_u64 hx1
  obtain ⟨x2, rfl, _, _, hx2⟩ := open_int Tryd.underlying27 (hval 2 27 v2 rfl rfl) h2
  obtain ⟨y2, rfl, hl2⟩ := wf_u64 hx2
  obtain ⟨x3, rfl, _, _, hx3⟩ := open_int Tryd.underlying27 (hval 3 27 v3 rfl rfl) h3
  obtain ⟨y3, rfl, hl3⟩ := wf_u64 hx3
  obtain ⟨x4, rfl, _, _, hx4⟩ := open_int Tryd.underlying5 (hval 4 5 v4 rfl rfl) h4
  obtain ⟨y4, rfl, hl4⟩ := wf_u8 hx4
  clear hA0 hval0
  refine (walk y0 y1 y2 y3 y4 W hT hl0 hl1 hl2 hl3 hl4).mono fun e W' ⟨he, hg⟩ => ?_
  subst he
  exact ⟨_, rfl, law_post (by kernel_rfl) hW' rfl (by kernel_rfl) Tryd.underlying4 rfl rfl rfl (by rw [Tryd.params9]; decide +kernel) hg⟩

theorem over : Rows.modularWholeRow.holds Tryd.pinned (OpenSpec.ofChange Rows.modularWholeSpec) :=
  OpenClaim.holds_of_wide 9 Tryd.f9 rfl rfl rfl rfl rfl rfl rfl ⟨rfl, rfl, rfl, rfl, rfl⟩ rfl rfl rfl rfl rfl (by kernel_rfl) Tryd.func9 (by kernel_rfl)
    (of_decide_eq_true (by kernel_rfl)) (by unfold Func.isWrapper; first | (rw [if_pos (by decide +kernel)]; kernel_rfl) | (rw [if_neg (by decide +kernel)]; exact ⟨rfl, rfl⟩))
    (fun os started H enc _ => lifted os started H enc)

theorem proved : Rows.ModularWholeCardSaid :=
  Claim7.holds_tied_plain_at .later [] [.data] true Rows.modularWholeCard.stood.harness false
    over (fun _ h => by cases h) (by kernel_rfl) (fun _ h => by cases h) modularWhole_row_tie rfl ⟨rfl, rfl⟩ (by kernel_rfl) rfl
    (fun f fn hf hfn => by
      obtain rfl : f = 9 := Option.some.inj ((show Tryd.prog.funcNamed "strake/strakelaw13.ModularWhole" = some 9 by kernel_rfl).symm.trans hf) |>.symm
      obtain rfl : fn = Tryd.f9 := (Option.some.inj (Tryd.func9.symm.trans hfn)).symm
      exact ⟨by kernel_rfl, fun j t ht => by
        rw [Tryd.params9] at ht
        have hm : t ∈ [27, 27, 27, 27, 5] := by simpa using Array.mem_of_getElem? ht
        have hall : ([27, 27, 27, 27, 5].all fun u => !Tryd.prog.wantsStandIn u) = true := by kernel_rfl
        exact (show Tryd.prog.wantsStandIn t = false by simpa using List.all_eq_true.1 hall t hm)⟩)
    (by kernel_rfl)
#print axioms proved
end Go.Proofs.YtidebjcnmabggaaDoor.modularWhole
