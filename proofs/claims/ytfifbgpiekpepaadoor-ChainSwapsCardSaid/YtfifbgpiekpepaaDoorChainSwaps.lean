/- What is proved: for all three lists of numbers, cut to 5: products and sums may be taken in any order, a product with a sum is the sum of products, a product with the chain 1 is the chain. No condition but the card's own: the table of the trailing zeros is as Go's library lays it. -/
import Derived.Test.YtfifbgpiekpepaaDoorChLst
import Derived.Test.YtfifbgpiekpepaaDoorTie
import Derived.Test.YtfifbgpiekpepaaDoorCards
import Derived.ProofKit
import Derived.LaidMore
import Derived.Lay
import Derived.OpenShut
import Derived.SevenTiedAt
namespace Go.Proofs.YtfifbgpiekpepaaDoor.chainSwaps
open Go.ChangeShapes Go.WideShapes Go.ChangeAt Go.RowKit Go.Proofs.YtfifbgpiekpepaaDoor.Chn

set_option maxRecDepth 100000 in
set_option maxHeartbeats 4000000 in
theorem walk (xs : List Int) (v : Value) (ys : List Int) (u : Value) (zs : List Int) (t : Value) (w : World) (hT : Tab w) (hx : InL w v xs) (hy : InL w u ys) (hz : InL w t zs) :
    Calls Tryd.prog 9 #[v, u, t] w fun e w' => e = .returned (.bool true) ∧ Below w.heap.size w w' := by
  have HT := hideI hT
  have HT0 := hT.1
  have HC1 := hideI (cut_any xs w.heap.size 5 v w hx.ci (by decide))
  have hl1 : (xs.take 5).length ≤ 5 := by rw [List.length_take]; omega
  have HI1 : Hid (∀ x ∈ xs.take 5, In64 x) := hideI fun x h => hx.held x (List.mem_of_mem_take h)
  obtain ⟨⟨⟨O1, d1, rfl, _, _⟩, _⟩, _, _⟩ := hx
  obtain ⟨al, hal⟩ : ∃ l, l = xs.take 5 := ⟨_, rfl⟩
  obtain ⟨a, ha⟩ : ∃ n, n = al.length := ⟨_, rfl⟩
  rw [← hal] at HC1 hl1 HI1
  rw [← ha] at HC1
  have HN1 := hideI ha
  have HL1 := hideI hl1
  clear hal ha hl1
  have HC2 := hideI (cut_any ys w.heap.size 5 u w hy.ci (by decide))
  have hl2 : (ys.take 5).length ≤ 5 := by rw [List.length_take]; omega
  have HI2 : Hid (∀ x ∈ ys.take 5, In64 x) := hideI fun x h => hy.held x (List.mem_of_mem_take h)
  obtain ⟨⟨⟨O2, d2, rfl, _, _⟩, _⟩, _, _⟩ := hy
  obtain ⟨bl, hbl⟩ : ∃ l, l = ys.take 5 := ⟨_, rfl⟩
  obtain ⟨b, hb⟩ : ∃ n, n = bl.length := ⟨_, rfl⟩
  rw [← hbl] at HC2 hl2 HI2
  rw [← hb] at HC2
  have HN2 := hideI hb
  have HL2 := hideI hl2
  clear hbl hb hl2
  have HC3 := hideI (cut_any zs w.heap.size 5 t w hz.ci (by decide))
  have hl3 : (zs.take 5).length ≤ 5 := by rw [List.length_take]; omega
  have HI3 : Hid (∀ x ∈ zs.take 5, In64 x) := hideI fun x h => hz.held x (List.mem_of_mem_take h)
  obtain ⟨⟨⟨O3, d3, rfl, _, _⟩, _⟩, _, _⟩ := hz
  obtain ⟨cl, hcl⟩ : ∃ l, l = zs.take 5 := ⟨_, rfl⟩
  obtain ⟨c, hc⟩ : ∃ n, n = cl.length := ⟨_, rfl⟩
  rw [← hcl] at HC3 hl3 HI3
  rw [← hc] at HC3
  have HN3 := hideI hc
  have HL3 := hideI hl3
  clear hcl hc hl3
  clear hT
  go_enter Tryd.func9, Tryd.ntmps9
  go_upto_region 2 with (first
    | (go_at_call_of 16 (Value.slice O1 xs.length d1); go_must (refine HC1.out.mono ?_); rintro e w1 ⟨A1, c1, rfl, hc, hw⟩; obtain rfl := hw.symm; have HA1 : Hid (Lst w A1 a c1 al) := hideI ⟨HN1.out, hc⟩; clear hc)
    | (go_at_call_of 16 (Value.slice O2 ys.length d2); go_must (refine HC2.out.mono ?_); rintro e w1 ⟨A2, c2, rfl, hc, hw⟩; obtain rfl := hw.symm; have HA2 : Hid (Lst w A2 b c2 bl) := hideI ⟨HN2.out, hc⟩; clear hc)
    | (go_at_call_of 16 (Value.slice O3 zs.length d3); go_must (refine HC3.out.mono ?_); rintro e w1 ⟨A3, c3, rfl, hc, hw⟩; obtain rfl := hw.symm; have HA3 : Hid (Lst w A3 c c3 cl) := hideI ⟨HN3.out, hc⟩; clear hc))
  have HB := hideI (Below.refl w.heap.size w)
  clear HC1 HC2 HC3
  go_upto_region 3 with (go_at_call 17; go_must (refine (mul_lst _ _ (Below.refl _ _) (HT.out.keep HB.out HT0) HA1.out HA2.out 5 5 (HL1.out) (HL2.out) (by decide)).mono ?_); rintro e wn ⟨A4, n4, c4, l4, rfl, hl, hi, hb⟩; have HI4 := hideI hi; replace HA1 := hideI (HA1.out.keep hb); replace HA2 := hideI (HA2.out.keep hb); replace HA3 := hideI (HA3.out.keep hb); have HA4 := hideI hl; replace HB := hideI (HB.out.trans (hb.mono HB.out.size)); clear hl hi hb)
  go_upto_region 4 with (go_at_call 17; go_must (refine (mul_lst _ _ (Below.refl _ _) (HT.out.keep HB.out HT0) HA2.out HA1.out 5 5 (HL2.out) (HL1.out) (by decide)).mono ?_); rintro e wn ⟨A5, n5, c5, l5, rfl, hl, hi, hb⟩; have HI5 := hideI hi; replace HA1 := hideI (HA1.out.keep hb); replace HA2 := hideI (HA2.out.keep hb); replace HA3 := hideI (HA3.out.keep hb); replace HA4 := hideI (HA4.out.keep hb); have HA5 := hideI hl; replace HB := hideI (HB.out.trans (hb.mono HB.out.size)); clear hl hi hb)
  go_upto_region 5 with (go_at_call 12; go_must (refine (lst_two _ HA2.out HA3.out 5 (HL2.out) (HL3.out) (by decide)).mono ?_); rintro e wn ⟨A6, n6, c6, l6, rfl, hl, hi, hb⟩; have HI6 := hideI hi; replace HA1 := hideI (HA1.out.keep hb); replace HA2 := hideI (HA2.out.keep hb); replace HA3 := hideI (HA3.out.keep hb); replace HA4 := hideI (HA4.out.keep hb); replace HA5 := hideI (HA5.out.keep hb); have HA6 := hideI hl; replace HB := hideI (HB.out.trans (hb.mono HB.out.size)); clear hl hi hb)
  go_upto_region 6 with (go_at_call 17; go_must (refine (mul_lst _ _ (Below.refl _ _) (HT.out.keep HB.out HT0) HA1.out HA6.out 5 5 (HL1.out) (HI6.out.len) (by decide)).mono ?_); rintro e wn ⟨A7, n7, c7, l7, rfl, hl, hi, hb⟩; have HI7 := hideI hi; replace HA1 := hideI (HA1.out.keep hb); replace HA2 := hideI (HA2.out.keep hb); replace HA3 := hideI (HA3.out.keep hb); replace HA4 := hideI (HA4.out.keep hb); replace HA5 := hideI (HA5.out.keep hb); replace HA6 := hideI (HA6.out.keep hb); have HA7 := hideI hl; replace HB := hideI (HB.out.trans (hb.mono HB.out.size)); clear hl hi hb)
  go_upto_region 7 with (go_at_call 17; go_must (refine (mul_lst _ _ (Below.refl _ _) (HT.out.keep HB.out HT0) HA1.out HA3.out 5 5 (HL1.out) (HL3.out) (by decide)).mono ?_); rintro e wn ⟨A8, n8, c8, l8, rfl, hl, hi, hb⟩; have HI8 := hideI hi; replace HA1 := hideI (HA1.out.keep hb); replace HA2 := hideI (HA2.out.keep hb); replace HA3 := hideI (HA3.out.keep hb); replace HA4 := hideI (HA4.out.keep hb); replace HA5 := hideI (HA5.out.keep hb); replace HA6 := hideI (HA6.out.keep hb); replace HA7 := hideI (HA7.out.keep hb); have HA8 := hideI hl; replace HB := hideI (HB.out.trans (hb.mono HB.out.size)); clear hl hi hb)
  go_upto_region 8 with (go_at_call 12; go_must (refine (lst_two _ HA4.out HA8.out 9 (HI4.out.len) (HI8.out.len) (by decide)).mono ?_); rintro e wn ⟨A9, n9, c9, l9, rfl, hl, hi, hb⟩; have HI9 := hideI hi; replace HA1 := hideI (HA1.out.keep hb); replace HA2 := hideI (HA2.out.keep hb); replace HA3 := hideI (HA3.out.keep hb); replace HA4 := hideI (HA4.out.keep hb); replace HA5 := hideI (HA5.out.keep hb); replace HA6 := hideI (HA6.out.keep hb); replace HA7 := hideI (HA7.out.keep hb); replace HA8 := hideI (HA8.out.keep hb); have HA9 := hideI hl; replace HB := hideI (HB.out.trans (hb.mono HB.out.size)); clear hl hi hb)
  go_upto_region 9 with (go_at_call 17; go_must (refine (mul_lst _ _ ((Below.refl _ _).alloc (Nat.le_refl _) _) (HT.out.keep HB.out HT0) (HA1.out.keep ((Below.refl _ _).alloc (Nat.le_refl _) _)) (lst_new _ [1, 0] 2 rfl (by decide) _ rfl _) 5 2 (HL1.out) (by decide) (by decide)).mono ?_); rintro e wn ⟨A10, n10, c10, l10, rfl, hl, hi, hb⟩; have HI10 := hideI hi; replace HA1 := hideI (HA1.out.keep hb); replace HA2 := hideI (HA2.out.keep hb); replace HA3 := hideI (HA3.out.keep hb); replace HA4 := hideI (HA4.out.keep hb); replace HA5 := hideI (HA5.out.keep hb); replace HA6 := hideI (HA6.out.keep hb); replace HA7 := hideI (HA7.out.keep hb); replace HA8 := hideI (HA8.out.keep hb); replace HA9 := hideI (HA9.out.keep hb); have HA10 := hideI hl; replace HB := hideI (HB.out.trans (hb.mono HB.out.size)); clear hl hi hb)
  go_upto_region 10 with (go_at_call 12; go_must (refine (lst_three _ HA1.out HA2.out HA3.out 5 (HL1.out) (HL2.out) (HL3.out) (by decide)).mono ?_); rintro e wn ⟨A11, n11, c11, l11, rfl, hl, hi, hb⟩; have HI11 := hideI hi; replace HA1 := hideI (HA1.out.keep hb); replace HA2 := hideI (HA2.out.keep hb); replace HA3 := hideI (HA3.out.keep hb); replace HA4 := hideI (HA4.out.keep hb); replace HA5 := hideI (HA5.out.keep hb); replace HA6 := hideI (HA6.out.keep hb); replace HA7 := hideI (HA7.out.keep hb); replace HA8 := hideI (HA8.out.keep hb); replace HA9 := hideI (HA9.out.keep hb); replace HA10 := hideI (HA10.out.keep hb); have HA11 := hideI hl; replace HB := hideI (HB.out.trans (hb.mono HB.out.size)); clear hl hi hb)
  go_upto_region 11 with (go_at_call 12; go_must (refine (lst_three _ HA3.out HA6.out HA1.out 5 (HL3.out) (HI6.out.len) (HL1.out) (by decide)).mono ?_); rintro e wn ⟨A12, n12, c12, l12, rfl, hl, hi, hb⟩; have HI12 := hideI hi; replace HA1 := hideI (HA1.out.keep hb); replace HA2 := hideI (HA2.out.keep hb); replace HA3 := hideI (HA3.out.keep hb); replace HA4 := hideI (HA4.out.keep hb); replace HA5 := hideI (HA5.out.keep hb); replace HA6 := hideI (HA6.out.keep hb); replace HA7 := hideI (HA7.out.keep hb); replace HA8 := hideI (HA8.out.keep hb); replace HA9 := hideI (HA9.out.keep hb); replace HA10 := hideI (HA10.out.keep hb); replace HA11 := hideI (HA11.out.keep hb); have HA12 := hideI hl; replace HB := hideI (HB.out.trans (hb.mono HB.out.size)); clear hl hi hb)
  go_upto_region 12 with (go_at_call 17; go_must (refine (mul_lst _ _ ((Below.refl _ _).alloc (Nat.le_refl _) _) (HT.out.keep HB.out HT0) (lst_new _ [-1] 1 rfl (by decide) _ rfl _) (HA3.out.keep ((Below.refl _ _).alloc (Nat.le_refl _) _)) 1 5 (by decide) (HL3.out) (by decide)).mono ?_); rintro e wn ⟨A13, n13, c13, l13, rfl, hl, hi, hb⟩; have HI13 := hideI hi; replace HA1 := hideI (HA1.out.keep hb); replace HA2 := hideI (HA2.out.keep hb); replace HA3 := hideI (HA3.out.keep hb); replace HA4 := hideI (HA4.out.keep hb); replace HA5 := hideI (HA5.out.keep hb); replace HA6 := hideI (HA6.out.keep hb); replace HA7 := hideI (HA7.out.keep hb); replace HA8 := hideI (HA8.out.keep hb); replace HA9 := hideI (HA9.out.keep hb); replace HA10 := hideI (HA10.out.keep hb); replace HA11 := hideI (HA11.out.keep hb); replace HA12 := hideI (HA12.out.keep hb); have HA13 := hideI hl; replace HB := hideI (HB.out.trans (hb.mono HB.out.size)); clear hl hi hb)
  go_upto_region 13 with (go_at_call 12; go_must (refine (lst_two _ HA12.out HA13.out 5 (HI12.out.len) (HI13.out.len) (by decide)).mono ?_); rintro e wn ⟨A14, n14, c14, l14, rfl, hl, hi, hb⟩; have HI14 := hideI hi; replace HA1 := hideI (HA1.out.keep hb); replace HA2 := hideI (HA2.out.keep hb); replace HA3 := hideI (HA3.out.keep hb); replace HA4 := hideI (HA4.out.keep hb); replace HA5 := hideI (HA5.out.keep hb); replace HA6 := hideI (HA6.out.keep hb); replace HA7 := hideI (HA7.out.keep hb); replace HA8 := hideI (HA8.out.keep hb); replace HA9 := hideI (HA9.out.keep hb); replace HA10 := hideI (HA10.out.keep hb); replace HA11 := hideI (HA11.out.keep hb); replace HA12 := hideI (HA12.out.keep hb); replace HA13 := hideI (HA13.out.keep hb); have HA14 := hideI hl; replace HB := hideI (HB.out.trans (hb.mono HB.out.size)); clear hl hi hb)
  have E1 : Hid (l4 = l5) := hideI (HI4.out.one HI5.out fun n => by rw [Int.mul_comm]; exact Eq64.rfl' _)
  have E2 : Hid (l7 = l9) := hideI (HI7.out.one HI9.out fun n => by
    refine ((Eq64.rfl' (vl al n)).mul (HI6.out.val n)).trans ?_
    refine Eq64.trans ?_ ((HI4.out.val n).add ((HI8.out.val n).add (Eq64.rfl' 0))).symm
    rw [tv, tv, tv, Int.add_zero, Int.add_zero, Int.mul_add]
    exact Eq64.rfl' _)
  have E3 : Hid (l10 = trimM al) := hideI (HI10.out.one (trim_is al 5 HI1.out HL1.out) fun n => by rw [vl_pad, Int.mul_one]; exact Eq64.rfl' _)
  have E4 : Hid (l11 = l14) := hideI (HI11.out.one HI14.out fun n => by
    refine Eq64.trans ?_ ((HI12.out.val n).add ((HI13.out.val n).add (Eq64.rfl' 0))).symm
    refine Eq64.trans ?_ (((Eq64.rfl' (vl cl n)).add ((HI6.out.val n).add (Eq64.rfl' (vl al n + 0)))).add (Eq64.rfl' (vl [-1] n * vl cl n + 0))).symm
    rw [vl_const]
    simp only [tv]
    unfold Eq64
    congr 1
    omega)
  obtain rfl := E1.out
  obtain rfl := E2.out
  obtain rfl := E4.out
  have H16 := hideI (show al.length ≤ 100000 by have := HL1.out; omega)
  clear E1 E2 E4 HI4 HI5 HI6 HI7 HI8 HI9 HI10 HI11 HI12 HI13 HI14
  go_wp2_with (first
    | (go_at_call 13; go_must (refine (awake_any _ (HT.out.keep HB.out HT0)).mono ?_); rintro e wn ⟨rfl, hb⟩; replace HA1 := hideI (HA1.out.keep hb); replace HA4 := hideI (HA4.out.keep hb); replace HA5 := hideI (HA5.out.keep hb); replace HA7 := hideI (HA7.out.keep hb); replace HA9 := hideI (HA9.out.keep hb); replace HA10 := hideI (HA10.out.keep hb); replace HA11 := hideI (HA11.out.keep hb); replace HA14 := hideI (HA14.out.keep hb); replace HB := hideI (HB.out.trans (hb.mono HB.out.size)); clear hb)
    | (go_at_call 26; go_must (refine (chTrim_any al _ _ _ HA1.out.ci H16.out).mono ?_); rintro e wn ⟨vt, rfl, hv, hb⟩; replace HA1 := hideI (HA1.out.keep hb); replace HA4 := hideI (HA4.out.keep hb); replace HA5 := hideI (HA5.out.keep hb); replace HA7 := hideI (HA7.out.keep hb); replace HA9 := hideI (HA9.out.keep hb); replace HA10 := hideI (HA10.out.keep hb); replace HA11 := hideI (HA11.out.keep hb); replace HA14 := hideI (HA14.out.keep hb); have HV := hideI (hv.ints (by have h1 := trimM_len al; have h2 := HL1.out; omega)); rw [← E3.out] at HV; replace HB := hideI (HB.out.trans (hb.mono HB.out.size)); clear hv hb)
    | (go_at_call_of 14 (Value.slice A4 n4 c4); go_must (refine (sameInts_any _ _ _ _ _ _ HA4.out.ci.1 HA5.out.ci.1).mono ?_); rintro e wn ⟨rfl, m1, hw⟩; have hb := below_of_drew hw; clear hw; replace HA1 := hideI (HA1.out.keep hb); replace HA4 := hideI (HA4.out.keep hb); replace HA5 := hideI (HA5.out.keep hb); replace HA7 := hideI (HA7.out.keep hb); replace HA9 := hideI (HA9.out.keep hb); replace HA10 := hideI (HA10.out.keep hb); replace HA11 := hideI (HA11.out.keep hb); replace HA14 := hideI (HA14.out.keep hb); replace HB := hideI (HB.out.trans (hb.mono HB.out.size)); clear hb)
    | (go_at_call_of 14 (Value.slice A7 n7 c7); go_must (refine (sameInts_any _ _ _ _ _ _ HA7.out.ci.1 HA9.out.ci.1).mono ?_); rintro e wn ⟨rfl, m2, hw⟩; have hb := below_of_drew hw; clear hw; replace HA1 := hideI (HA1.out.keep hb); replace HA4 := hideI (HA4.out.keep hb); replace HA5 := hideI (HA5.out.keep hb); replace HA7 := hideI (HA7.out.keep hb); replace HA9 := hideI (HA9.out.keep hb); replace HA10 := hideI (HA10.out.keep hb); replace HA11 := hideI (HA11.out.keep hb); replace HA14 := hideI (HA14.out.keep hb); replace HB := hideI (HB.out.trans (hb.mono HB.out.size)); clear hb)
    | (go_at_call_of 14 (Value.slice A10 n10 c10); go_must (refine (sameInts_any _ _ _ _ _ _ HA10.out.ci.1 HV.out).mono ?_); rintro e wn ⟨rfl, m3, hw⟩; have hb := below_of_drew hw; clear hw; replace HA1 := hideI (HA1.out.keep hb); replace HA4 := hideI (HA4.out.keep hb); replace HA5 := hideI (HA5.out.keep hb); replace HA7 := hideI (HA7.out.keep hb); replace HA9 := hideI (HA9.out.keep hb); replace HA10 := hideI (HA10.out.keep hb); replace HA11 := hideI (HA11.out.keep hb); replace HA14 := hideI (HA14.out.keep hb); replace HB := hideI (HB.out.trans (hb.mono HB.out.size)); clear hb)
    | (go_at_call_of 14 (Value.slice A11 n11 c11); go_must (refine (sameInts_any _ _ _ _ _ _ HA11.out.ci.1 HA14.out.ci.1).mono ?_); rintro e wn ⟨rfl, m4, hw⟩; have hb := below_of_drew hw; clear hw; replace HA1 := hideI (HA1.out.keep hb); replace HA4 := hideI (HA4.out.keep hb); replace HA5 := hideI (HA5.out.keep hb); replace HA7 := hideI (HA7.out.keep hb); replace HA9 := hideI (HA9.out.keep hb); replace HA10 := hideI (HA10.out.keep hb); replace HA11 := hideI (HA11.out.keep hb); replace HA14 := hideI (HA14.out.keep hb); replace HB := hideI (HB.out.trans (hb.mono HB.out.size)); clear hb))
  go_ret
  exact ⟨by simp, HB.out⟩

set_option maxRecDepth 100000 in
theorem lifted (os : Os) (started : os.Started) (H : Type) (enc : TypeId × Value → H) :
    ReturnsInHanded {} Tryd.checked os 9 .any (fun w args => (Rows.chainSwapsSpec.pre enc Tryd.prog Tryd.f9 Rows.chainSwapsRow.domain false w args ∧ laidMetH Tryd.prog Rows.chainSwapsRow.laid w) ∧ sizedMet enc Tryd.prog Tryd.f9 (OpenSpec.ofChange Rows.chainSwapsSpec) false w args) (Rows.chainSwapsSpec.post enc Tryd.prog Tryd.f9 false true false false) := by
  refine returnsInHanded_of_change_and (C := Tryd.checked) (X := fun w _ => laidMetH Tryd.prog Rows.chainSwapsRow.laid w) (fun _ _ _ hh h => h.of_heap hh) own started (by kernel_rfl) Tryd.func9
    (ChangeSpec.witness_shaped (enc := enc) (C := Tryd.checked) (os := os) (X := fun w _ => laidMetH Tryd.prog Rows.chainSwapsRow.laid w) false (World.laidAll Tryd.prog os Rows.chainSwapsRow.laid) #[.slice none 0 0, .slice none 0 0, .slice none 0 0] 8 (World.laidAll_os _ _ _)
      (World.shaped_of_ZipB (by kernel_rfl) (by kernel_rfl)) (by kernel_rfl) (by kernel_rfl) (by kernel_rfl)
      (by rw [MakeChecks.laidMetH_plain _ _ _ (by kernel_rfl)]; exact laidMet_laidAll _ (by kernel_rfl) (by kernel_rfl))) ?_
  intro W base args ds gs before hval0 hW _ hsz hL _
  have hT : Tab W := tab_of rfl hL (fun w => MakeChecks.laidMetH_plain _ _ _ (by kernel_rfl))
  have hval : ∀ (j : Nat) t v, Tryd.f9.params[j]? = some t → args[j]? = some v → Value.okWide Tryd.prog W .any base t v := hval0
  have hW' := hW
  obtain ⟨p, q, hA0, hV, rfl, hfz, hnd⟩ := hW
  have hA : DataW.TrodAll enc Tryd.prog W 0 (fun _ => true) true Tryd.f9.params.toList args.toList ds p := hA0
  rw [Tryd.params9] at hA hval
  obtain ⟨v0, vs0, d0, ds0, p0, q0, hargs, rfl, rfl, h0, r0⟩ := trodAll_cons hA
  obtain ⟨v1, vs1, d1, ds1, p1, q1, rfl, rfl, rfl, h1, r1⟩ := trodAll_cons r0
  obtain ⟨v2, vs2, d2, ds2, p2, q2, rfl, rfl, rfl, h2, r2⟩ := trodAll_cons r1
  obtain ⟨rfl, rfl, rfl⟩ := trodAll_nil r2
  obtain rfl : args = #[v0, v1, v2] := by cases args; simp_all
  obtain ⟨rfl, rfl⟩ := trodVars_none hV
  obtain ⟨x0, hx0⟩ := arg_ints (hval 0 24 v0 rfl rfl) h0 hsz (j := 0) rfl rfl
  obtain ⟨x1, hx1⟩ := arg_ints (hval 1 24 v1 rfl rfl) h1 hsz (j := 1) rfl rfl
  obtain ⟨x2, hx2⟩ := arg_ints (hval 2 24 v2 rfl rfl) h2 hsz (j := 2) rfl rfl
  clear hA0 hval0
  refine (walk x0 v0 x1 v1 x2 v2 W hT hx0 hx1 hx2).mono fun e W' ⟨he, hg⟩ => ?_
  subst he
  exact ⟨_, rfl, law_post (by kernel_rfl) hW' rfl (by kernel_rfl) Tryd.underlying4 rfl rfl rfl (by rw [Tryd.params9]; decide +kernel) hg⟩

theorem over : Rows.chainSwapsRow.holds Tryd.pinned (OpenSpec.ofChange Rows.chainSwapsSpec) :=
  OpenClaim.holds_of_wide 9 Tryd.f9 rfl rfl rfl rfl rfl rfl rfl ⟨rfl, rfl, rfl, rfl, rfl⟩ rfl rfl rfl rfl rfl (by kernel_rfl) Tryd.func9 (by kernel_rfl)
    (of_decide_eq_true (by kernel_rfl)) (by unfold Func.isWrapper; first | (rw [if_pos (by decide +kernel)]; kernel_rfl) | (rw [if_neg (by decide +kernel)]; exact ⟨rfl, rfl⟩))
    (fun os started H enc _ => lifted os started H enc)

theorem proved : Rows.ChainSwapsCardSaid :=
  Claim7.holds_tied_plain_at .later [] [.data] true Rows.chainSwapsCard.stood.harness false
    over (fun _ h => by cases h) (by kernel_rfl) (fun _ h => by cases h) chainSwaps_row_tie rfl ⟨rfl, rfl⟩ (by kernel_rfl) rfl
    (fun f fn hf hfn => by
      obtain rfl : f = 9 := Option.some.inj ((show Tryd.prog.funcNamed "strake/strakelaw12.ChainSwaps" = some 9 by kernel_rfl).symm.trans hf) |>.symm
      obtain rfl : fn = Tryd.f9 := (Option.some.inj (Tryd.func9.symm.trans hfn)).symm
      exact ⟨by kernel_rfl, fun j t ht => by
        rw [Tryd.params9] at ht
        have hm : t ∈ [24, 24, 24] := by simpa using Array.mem_of_getElem? ht
        have hall : ([24, 24, 24].all fun u => !Tryd.prog.wantsStandIn u) = true := by kernel_rfl
        exact (show Tryd.prog.wantsStandIn t = false by simpa using List.all_eq_true.1 hall t hm)⟩)
    (by kernel_rfl)
#print axioms proved
end Go.Proofs.YtfifbgpiekpepaaDoor.chainSwaps
