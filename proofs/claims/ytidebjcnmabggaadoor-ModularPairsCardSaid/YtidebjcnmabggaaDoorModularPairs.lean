/- What is proved: for all numbers and 1 to 64 bits, the first number of a span of one is the solution, and the inverse of the inverse is the number. No condition but the card's own: the table of the trailing zeros is as Go's library lays it. -/
import Derived.Test.YtidebjcnmabggaaDoorMoOpen
import Derived.Test.YtidebjcnmabggaaDoorMoRef
import Derived.Test.YtidebjcnmabggaaDoorTie
import Derived.Test.YtidebjcnmabggaaDoorCards
import Derived.ProofKit
import Derived.LaidMore
import Derived.Lay
import Derived.OpenShut
import Derived.SevenTiedAt
namespace Go.Proofs.YtidebjcnmabggaaDoor.modularPairs
open Go.ChangeShapes Go.WideShapes Go.ChangeAt Go.RowKit Go.Proofs.YtidebjcnmabggaaDoor.Mo Go.Proofs.YtidebjcnmabggaaDoor.Chn


theorem inv_same {d v x : Int} (h1 : (d * v) % 18446744073709551616 = 1) (h2 : (v * x) % 18446744073709551616 = 1) (hd : -9223372036854775808 ≤ d ∧ d < 9223372036854775808) (hx : -9223372036854775808 ≤ x ∧ x < 9223372036854775808) : x = d := by
  have e1 : (d * v * x) % 18446744073709551616 = x % 18446744073709551616 := by
    rw [Int.mul_emod, h1]
    omega
  have e2 : (d * v * x) % 18446744073709551616 = d % 18446744073709551616 := by
    rw [Int.mul_assoc, Int.mul_emod, h2]
    omega
  rw [e1] at e2
  omega

theorem or_one (a : Nat) (ha : a < 18446744073709551616) : ∃ o : Nat, bits BinOp.or IntKind.u64 (a : Int) 1 = (o : Int) ∧ o < 18446744073709551616 ∧ o % 2 = 1 := by
  refine ⟨a ||| 1, bits_or_u64_nat a 1 ha (by decide), Nat.or_lt_two_pow (n := 64) ha (by decide), ?_⟩
  simp

theorem wrap_odd (o : Nat) (ho : o % 2 = 1) : ∃ d : Int, IntKind.i64.wrap (o : Int) = d ∧ d % 2 = 1 ∧ (-9223372036854775808 ≤ d ∧ d < 9223372036854775808) := by
  refine ⟨_, rfl, ?_, ?_⟩
  · unfold IntKind.wrap
    simp [IntKind.bits, IntKind.signed]
    omega
  · unfold IntKind.wrap
    simp [IntKind.bits, IntKind.signed]
    omega

set_option maxHeartbeats 1000000 in
set_option maxRecDepth 100000 in
theorem walk (a b c k : Nat) (w : World) (hT : Tab w) (ha : a < 18446744073709551616) (hb : b < 18446744073709551616) (hc : c < 18446744073709551616) (hk : k < 256) :
    Calls Tryd.prog 10 #[.int .u64 (a : Int), .int .u64 (b : Int), .int .u64 (c : Int), .int .u8 (k : Int)] w fun e w' => e = .returned (.bool true) ∧ Below w.heap.size w w' := by
  have HT := hideI hT
  have hT0 := hT.1
  have HB := hideI (Below.refl w.heap.size w)
  obtain ⟨r, hr⟩ : ∃ r, r = k % 64 := ⟨_, rfl⟩
  obtain ⟨n, hn⟩ : ∃ n, n = r + 1 := ⟨_, rfl⟩
  have e1 : (k : Int) % 64 = (r : Int) := by omega
  have e2 : (k : Int).tmod 64 = (r : Int) := by rw [hr]; rfl
  have e3 : (r : Int) + 1 = (n : Int) := by omega
  have hr12 : (r : Int) < 64 := by omega
  have h1n : 1 ≤ n := by omega
  have hn64 : n ≤ 64 := by omega
  have HM := hideI (fun V : World => refMask_any n (by omega) V)
  have hp := pow_pos n
  have hle := pow_le64 (n := n) (by omega)
  have A1 := and_top hc (n := n) (by omega)
  have hc1 := Nat.mod_lt c hp
  have HS := hideI (solve_any a b (c % 2 ^ n) n h1n (by omega) ha hb (by omega) w hT)
  rw [Nat.mod_mod] at HS
  have HF := hideI (fun V : World => first_any a b (c % 2 ^ n) (c % 2 ^ n) n h1n (by omega) ha hb (Nat.le_refl _) hc1 V)
  obtain ⟨P, hP⟩ : ∃ P, P = 2 ^ n := ⟨_, rfl⟩
  rw [← hP] at HF HS HM A1
  obtain ⟨Q, hQ⟩ : ∃ Q, Q = P - 1 := ⟨_, rfl⟩
  rw [← hQ] at HM A1
  obtain ⟨c1, hc1e⟩ : ∃ z, z = c % P := ⟨_, rfl⟩
  rw [← hc1e] at A1 HF HS
  obtain ⟨o, ho1, ho2, ho3⟩ := or_one a ha
  obtain ⟨d, hd1, hd2, hd3⟩ := wrap_odd o ho3
  have HI1 := hideI (fun V : World => inv_odd d hd2 hd3 V)
  have HD3 := hideI hd3
  clear hT hr hn ha hb hc hk hn64 h1n hp hle hc1 hP hQ hc1e ho2 ho3 hd2 hd3
  go_enter Tryd.func10, Tryd.ntmps10
  go_upto_region 7 with (first
    | (go_at_call 16; go_must (refine (HM.out _).mono ?_); rintro e w2 ⟨rfl, hw⟩; obtain rfl := hw.symm)
    | (go_at_call 13; go_must (refine HS.out.mono ?_); rintro e w1 ⟨x, en, hA, rfl, hb⟩; have HA := hideI hA; replace HB := hideI (HB.out.trans (hb.mono HB.out.size)); clear hA hb)
    | (go_at_call 15; go_must (refine (HF.out _).mono ?_); rintro e w1 ⟨x2, en2, hA, rfl, hb⟩; (obtain ⟨rfl, rfl⟩ := hA.one HA.out); replace HB := hideI (HB.out.trans (hb.mono HB.out.size)); clear hA hb)
    | (go_at_call 11; go_must (refine (HI1.out _).mono ?_); rintro e w1 ⟨⟨v, hv1, hv2, hv3, _, rfl⟩, hw⟩; (obtain rfl := hw.symm); have HI2 := hideI (fun V : World => inv_odd v hv2 hv1 V); have HV3 := hideI hv3; clear hv1 hv2 hv3))
  go_wp2_with (first
    | (go_at_call 11; go_must (refine (HI2.out _).mono ?_); rintro e w1 ⟨⟨x3, hx1, _, hx3, _, rfl⟩, hw⟩; (obtain rfl := hw.symm); obtain rfl := inv_same HV3.out hx3 HD3.out hx1; clear hx1 hx3)
    | (go_at_call 12; go_must (refine (Mo.awake_any _ (HT.out.keep HB.out hT0)).mono ?_); rintro e w2 ⟨rfl, hb⟩; replace HB := hideI (HB.out.trans (hb.mono HB.out.size)); clear hb))
  go_ret
  exact ⟨by simp, HB.out⟩

set_option maxRecDepth 100000 in
theorem lifted (os : Os) (started : os.Started) (H : Type) (enc : TypeId × Value → H) :
    ReturnsInHanded {} Tryd.checked os 10 .any (fun w args => (Rows.modularPairsSpec.pre enc Tryd.prog Tryd.f10 Rows.modularPairsRow.domain false w args ∧ laidMetH Tryd.prog Rows.modularPairsRow.laid w) ∧ sizedMet enc Tryd.prog Tryd.f10 (OpenSpec.ofChange Rows.modularPairsSpec) false w args) (Rows.modularPairsSpec.post enc Tryd.prog Tryd.f10 false true false false) := by
  refine returnsInHanded_of_change_and (C := Tryd.checked) (X := fun w _ => laidMetH Tryd.prog Rows.modularPairsRow.laid w) (fun _ _ _ hh h => h.of_heap hh) own started (by kernel_rfl) Tryd.func10
    (ChangeSpec.witness_shaped (enc := enc) (C := Tryd.checked) (os := os) (X := fun w _ => laidMetH Tryd.prog Rows.modularPairsRow.laid w) false (World.laidAll Tryd.prog os Rows.modularPairsRow.laid) #[.int .u64 0, .int .u64 0, .int .u64 0, .int .u8 0] 8 (World.laidAll_os _ _ _)
      (World.shaped_of_ZipB (by kernel_rfl) (by kernel_rfl)) (by kernel_rfl) (by kernel_rfl) (by kernel_rfl)
      (by rw [MakeChecks.laidMetH_plain _ _ _ (by kernel_rfl)]; exact laidMet_laidAll _ (by kernel_rfl) (by kernel_rfl))) ?_
  intro W base args ds gs before hval0 hW _ hsz hL _
  have hT : Tab W := tab_of rfl hL (fun w => MakeChecks.laidMetH_plain _ _ _ (by kernel_rfl))
  have hval : ∀ (j : Nat) t v, Tryd.f10.params[j]? = some t → args[j]? = some v → Value.okWide Tryd.prog W .any base t v := hval0
  have hW' := hW
  obtain ⟨p, q, hA0, hV, rfl, hfz, hnd⟩ := hW
  have hA : DataW.TrodAll enc Tryd.prog W 0 (fun _ => true) true Tryd.f10.params.toList args.toList ds p := hA0
  rw [Tryd.params10] at hA hval
  obtain ⟨v0, vs0, d0, ds0, p0, q0, hargs, rfl, rfl, h0, r0⟩ := trodAll_cons hA
  obtain ⟨v1, vs1, d1, ds1, p1, q1, rfl, rfl, rfl, h1, r1⟩ := trodAll_cons r0
  obtain ⟨v2, vs2, d2, ds2, p2, q2, rfl, rfl, rfl, h2, r2⟩ := trodAll_cons r1
  obtain ⟨v3, vs3, d3, ds3, p3, q3, rfl, rfl, rfl, h3, r3⟩ := trodAll_cons r2
  obtain ⟨rfl, rfl, rfl⟩ := trodAll_nil r3
  obtain rfl : args = #[v0, v1, v2, v3] := by cases args; simp_all
  obtain ⟨rfl, rfl⟩ := trodVars_none hV
  obtain ⟨x0, rfl, _, _, hx0⟩ := open_int Tryd.underlying27 (hval 0 27 v0 rfl rfl) h0
  obtain ⟨y0, rfl, hl0⟩ := wf_u64 hx0
  obtain ⟨x1, rfl, _, _, hx1⟩ := open_int Tryd.underlying27 (hval 1 27 v1 rfl rfl) h1
  obtain ⟨y1, rfl, hl1⟩ := wf_u64 hx1
  obtain ⟨x2, rfl, _, _, hx2⟩ := open_int Tryd.underlying27 (hval 2 27 v2 rfl rfl) h2
  obtain ⟨y2, rfl, hl2⟩ := wf_u64 hx2
  obtain ⟨x3, rfl, _, _, hx3⟩ := open_int Tryd.underlying5 (hval 3 5 v3 rfl rfl) h3
  obtain ⟨y3, rfl, hl3⟩ := wf_u8 hx3
  clear hA0 hval0
  refine (walk y0 y1 y2 y3 W hT hl0 hl1 hl2 hl3).mono fun e W' ⟨he, hg⟩ => ?_
  subst he
  exact ⟨_, rfl, law_post (by kernel_rfl) hW' rfl (by kernel_rfl) Tryd.underlying4 rfl rfl rfl (by rw [Tryd.params10]; decide +kernel) hg⟩

theorem over : Rows.modularPairsRow.holds Tryd.pinned (OpenSpec.ofChange Rows.modularPairsSpec) :=
  OpenClaim.holds_of_wide 10 Tryd.f10 rfl rfl rfl rfl rfl rfl rfl ⟨rfl, rfl, rfl, rfl, rfl⟩ rfl rfl rfl rfl rfl (by kernel_rfl) Tryd.func10 (by kernel_rfl)
    (of_decide_eq_true (by kernel_rfl)) (by unfold Func.isWrapper; first | (rw [if_pos (by decide +kernel)]; kernel_rfl) | (rw [if_neg (by decide +kernel)]; exact ⟨rfl, rfl⟩))
    (fun os started H enc _ => lifted os started H enc)

theorem proved : Rows.ModularPairsCardSaid :=
  Claim7.holds_tied_plain_at .later [] [.data] true Rows.modularPairsCard.stood.harness false
    over (fun _ h => by cases h) (by kernel_rfl) (fun _ h => by cases h) modularPairs_row_tie rfl ⟨rfl, rfl⟩ (by kernel_rfl) rfl
    (fun f fn hf hfn => by
      obtain rfl : f = 10 := Option.some.inj ((show Tryd.prog.funcNamed "strake/strakelaw13.ModularPairs" = some 10 by kernel_rfl).symm.trans hf) |>.symm
      obtain rfl : fn = Tryd.f10 := (Option.some.inj (Tryd.func10.symm.trans hfn)).symm
      exact ⟨by kernel_rfl, fun j t ht => by
        rw [Tryd.params10] at ht
        have hm : t ∈ [27, 27, 27, 5] := by simpa using Array.mem_of_getElem? ht
        have hall : ([27, 27, 27, 5].all fun u => !Tryd.prog.wantsStandIn u) = true := by kernel_rfl
        exact (show Tryd.prog.wantsStandIn t = false by simpa using List.all_eq_true.1 hall t hm)⟩)
    (by kernel_rfl)
#print axioms proved
end Go.Proofs.YtidebjcnmabggaaDoor.modularPairs
