/- What is proved: for every function f, in whatever memory it lies, IrUsed answers true: the uses of all values are all uses, each value has a type, the values come in order, the parameters are among them. No condition. -/
import Derived.Test.YtnfcgafkkjakiaaUsed
import Derived.Test.YtnfcgafkkjakiaaAwake
import Derived.Test.YtnfcgafkkjakiaaLaw
import Derived.IntWalk
import Derived.BigQuiet
namespace Go.Proofs.Ytnfcgafkkjakiaa.irUsed
open Go.ChangeShapes Go.WideShapes Go.ChangeAt Go.RowKit

theorem Keeps.heap {B : Nat} {w wr W : World} (h : Keeps B w wr) (e : W.heap = wr.heap) : Keeps B w W := fun b o hb =>
  (World.cell?_of_block (a := ⟨b, o, none⟩) (by rw [e])).trans (h b o hb)

theorem undrew {B : Nat} {w w' : World} (h : Below B w.drew w') : Below B w w' := ⟨h.os, h.tape, h.output, h.size, h.block⟩

theorem drewN_below {B n : Nat} {w w' : World} (h : Below B w w') : Below B w (w'.drewN n) := ⟨h.os, h.tape, h.output, h.size, h.block⟩

theorem Keeps.trans' {B : Nat} {a b c : World} (h : Keeps B a b) (k : Keeps B b c) : Keeps B a c := fun b o hb => (k b o hb).trans (h b o hb)

theorem RU.form {w : World} {base : Nat} {v : Value} {us : List (Int × Int)} (h : RU w base v us) : ∃ A c, v = .slice A us.length c := by
  obtain ⟨rows, _, _, _, h⟩ := h
  rcases h with ⟨rfl, h⟩ | ⟨g, cap, cur, rfl, _⟩
  · exact ⟨none, 0, by simp [h]⟩
  · exact ⟨_, _, rfl⟩

/-- is f beyond what the law asks? -/
def tooGreat (f : FuncM) : Prop := (lookM f).1 ≠ 0 ∨ ((lookM f).1 = 0 ∧ 300 < (idsS f).length)

set_option maxHeartbeats 2000000 in
/-- where f is not right, or too great -/
theorem walk_no (f : FuncM) (pv bv : Value) (w : World) (hF : FnIn w f pv bv) (hno : tooGreat f) :
    Calls Try.prog 5 #[.agg #[pv, .int .i64 f.arrays, .int .i64 f.cells, bv]] w fun e w' => e = .returned (.bool true) ∧ Below w.heap.size w w' := by
  have HF := hideI hF
  have HID := hideI (uses_i64 hF.ok)
  obtain ⟨P, pc, hpv, _⟩ := hF.par
  obtain ⟨A, c, hbv, _⟩ := hF.blk
  subst hpv hbv
  have HB : Hid (Below w.heap.size w (w.alloc (.cells #[.slice P f.params.length pc, .int .i64 f.arrays, .int .i64 f.cells, .slice A f.blocks.length c] 25))) := (Below.refl _ w).alloc (Nat.le_refl _) _
  have HX := hideI (heap_alloc_new w (.cells #[.slice P f.params.length pc, .int .i64 f.arrays, .int .i64 f.cells, .slice A f.blocks.length c] 25))
  have hcase : ((lookM f).1 != 0) = true ∨ (((lookM f).1 != 0) = false ∧ 300 < (idsOut f).length) := by
    rcases hno with h | ⟨h, h2⟩
    · exact .inl (by simpa using h)
    · refine .inr ⟨by simpa using h, ?_⟩
      unfold idsOut
      rw [if_pos h]
      exact h2
  clear hF hno
  rcases hcase with h1 | ⟨h1, h2⟩
  all_goals
    go_enter Try.func5, Try.ntmps5
    go_wp2_with (first
      | (go_at_call 8; refine (ids_any f w.heap.size _ _ _ (HF.out.par.keeps (Keeps.of_below HB.out)) (HF.out.blk.keeps (Keeps.of_below HB.out)) HB.out.size HID.out).mono ?_; rintro e w2 ⟨v2, rfl, hv2, hb⟩; obtain ⟨IA, ic, rfl, hil, _⟩ := hv2; replace HX := hideI ((hb.block _ (lt_of_heap HX.out)).trans HX.out); have hx := row_cells HX.out rfl; replace HB := hideI (HB.out.trans (hb.mono HB.out.size)); clear hb)
      | (go_at_call 12; refine (awake_any _).mono ?_; rintro e w3 ⟨rfl, hb⟩; replace HX := hideI ((hb.block _ (lt_of_heap HX.out)).trans HX.out); have hx' := row_cells HX.out rfl; replace HB := hideI (HB.out.trans (hb.mono HB.out.size)); clear hb))
    go_ret
    exact ⟨rfl, HB.out⟩

set_option maxRecDepth 100000 in
set_option maxHeartbeats 8000000 in
theorem walk_yes (f : FuncM) (pv bv : Value) (w : World) (hF : FnIn w f pv bv) (h0 : (lookM f).1 = 0) (hl : (idsS f).length ≤ 300) :
    Calls Try.prog 5 #[.agg #[pv, .int .i64 f.arrays, .int .i64 f.cells, bv]] w fun e w' => e = .returned (.bool true) ∧ Below w.heap.size w w' := by
  have HF := hideI hF
  have HID := hideI (uses_i64 hF.ok)
  have HLEN := hideI (uses_len hF.ok h0)
  obtain ⟨P, pc, hpv, _⟩ := hF.par
  obtain ⟨A, c, hbv, _⟩ := hF.blk
  subst hpv hbv
  have HB : Hid (Below w.heap.size w (w.alloc (.cells #[.slice P f.params.length pc, .int .i64 f.arrays, .int .i64 f.cells, .slice A f.blocks.length c] 25))) := (Below.refl _ w).alloc (Nat.le_refl _) _
  have HX := hideI (heap_alloc_new w (.cells #[.slice P f.params.length pc, .int .i64 f.arrays, .int .i64 f.cells, .slice A f.blocks.length c] 25))
  have h1 : ((lookM f).1 != 0) = false := by simpa using h0
  have hnp := idsS_params h0
  have H0 := hideI h0
  have hio : idsOut f = idsS f := by unfold idsOut; rw [if_pos h0]
  have HIO := hideI hio
  obtain ⟨U, hU⟩ : ∃ U, U = (usesM f).length := ⟨_, rfl⟩
  have hU3 : U ≤ 3000000 := by rw [hU]; exact look_few h0
  have HU := hideI hU
  clear hF h0 hio hU
  go_enter Try.func5, Try.ntmps5
  go_wp2_with (first
      | (go_at_call 8; refine (ids_any f w.heap.size _ _ _ (HF.out.par.keeps (Keeps.of_below HB.out)) (HF.out.blk.keeps (Keeps.of_below HB.out)) HB.out.size HID.out).mono ?_; rintro e w2 ⟨v2, rfl, hv2, hb⟩; rw [HIO.out] at hv2; obtain ⟨IA, ic, rfl, _, hix⟩ := hv2; have HIX := hideI hix; clear hix; replace HX := hideI ((hb.block _ (lt_of_heap HX.out)).trans HX.out); replace HB := hideI (HB.out.trans (hb.mono HB.out.size)); clear hb)
      | (go_at_call 12; refine (awake_any _).mono ?_; rintro e w3 ⟨rfl, hb⟩; have HB3 := hideI hb; replace HX := hideI ((hb.block _ (lt_of_heap HX.out)).trans HX.out); replace HB := hideI (HB.out.trans (hb.mono HB.out.size)); clear hb))
  go_loopw [5, 6] (fun s i wr => ∃ k : Nat, k ≤ (idsS f).length ∧ i = .int .i64 k ∧ s = .int .i64 (sumU ((idsS f).take k) (usesM f)) ∧ Below w3.heap.size w3 wr) (fun _ i _ => (idsS f).length - (intOf i).toNat)
  case atStart => exact ⟨0, Nat.zero_le _, rfl, by simp [sumU], Below.refl _ _⟩
  case round =>
    obtain ⟨k, hk, rfl, rfl, hb⟩ := hrel
    have HBr := hideI hb
    have HXr := hideI ((hb.block _ (lt_of_heap HX.out)).trans HX.out)
    have hx := row_cells HXr.out rfl
    have hszr : w.heap.size < wr.heap.size := lt_of_heap HXr.out
    have HK := hideI (Keeps.of_below (HB.out.trans (hb.mono HB.out.size)))
    clear hb
    by_cases hlt : k < (idsS f).length
    · obtain ⟨id, hid⟩ : ∃ id, (idsS f)[k]? = some id := ⟨_, List.getElem?_eq_getElem hlt⟩
      obtain ⟨g, cs, rfl, hg, hgb, hgc⟩ := HIX.out (by omega)
      have hgb3 := (HB3.out.block _ (lt_of_heap hgb)).trans hgb
      have HGB := hideI ((HBr.out.block _ (lt_of_heap hgb3)).trans hgb3)
      have hgk := (row_cells HGB.out rfl k).trans (hgc k hlt)
      rw [hid] at hgk
      simp only [Option.getD_some] at hgk
      obtain ⟨t, htt, ht12⟩ := look_type H0.out (List.mem_of_getElem? hid)
      have hidb := idsS_bd H0.out (List.mem_of_getElem? hid)
      have HI64 : Hid (I64 id) := WalkArith.wf_i64 (by omega)
      have HT : Hid (typeOut f id = (t, 0)) := typeOut_some H0.out htt
      have HN : Hid (useOut f id = (cntU id (usesM f), 0)) := useOut_some H0.out htt
      have hsum := sum_take (usesM f) hid
      have hs0 := sum_le ((idsS f).take k) ((idsS_nodup H0.out).sublist (List.take_sublist ..)) (usesM f)
      have hs1 := sum_le ((idsS f).take (k + 1)) ((idsS_nodup H0.out).sublist (List.take_sublist ..)) (usesM f)
      have hn0 := cnt_nonneg id (usesM f)
      rw [← HU.out] at hs0 hs1
      have HSUM := hideI hsum
      rw [hsum] at hs1
      obtain ⟨s, hs⟩ : ∃ s, s = sumU ((idsS f).take k) (usesM f) := ⟨_, rfl⟩
      obtain ⟨n, hn⟩ : ∃ n, n = cntU id (usesM f) := ⟨_, rfl⟩
      rw [← hn] at hn0 HN hs1 HSUM
      rw [← hs] at hs0 hs1 HSUM ⊢
      have HGC := hideI hgc
      have HIDK := hideI hid
      clear hgb hgb3 hgc hid htt hs hn hsum hidb
      have G0 : Hid (∀ W, Below wr.heap.size wr W → W.cell? ⟨w.heap.size, 0, none⟩ = some (.slice P f.params.length pc) ∧ W.cell? ⟨w.heap.size, 1, none⟩ = some (.int .i64 f.arrays) ∧ W.cell? ⟨w.heap.size, 2, none⟩ = some (.int .i64 f.cells) ∧ W.cell? ⟨w.heap.size, 3, none⟩ = some (.slice A f.blocks.length c) ∧ W.cell? ⟨g, k, none⟩ = some (.int .i64 id)) :=
        fun W hW => ⟨row_cells HXr.out (hW.block _ (lt_of_heap HXr.out)) 0, row_cells HXr.out (hW.block _ (lt_of_heap HXr.out)) 1, row_cells HXr.out (hW.block _ (lt_of_heap HXr.out)) 2, row_cells HXr.out (hW.block _ (lt_of_heap HXr.out)) 3, (by rw [row_cells HGB.out (hW.block _ (lt_of_heap HGB.out)) k, ← row_cells HGB.out rfl k]; exact hgk)⟩
      go_wp2
      have q0 := hx 0
      have q1 := hx 1
      have q2 := hx 2
      have q3 := hx 3
      clear hx
      go_region_held3 (fun w' => w'.cell? ⟨w.heap.size, 0, none⟩ = some (.slice P f.params.length pc) ∧ w'.cell? ⟨w.heap.size, 1, none⟩ = some (.int .i64 f.arrays) ∧ w'.cell? ⟨w.heap.size, 2, none⟩ = some (.int .i64 f.cells) ∧ w'.cell? ⟨w.heap.size, 3, none⟩ = some (.slice A f.blocks.length c) ∧ w'.cell? ⟨g, k, none⟩ = some (.int .i64 id)) (first | go_keep | exact G0.out _ (undrew hb4))
        (first | (go_at_call 11; refine (uses_any f w.heap.size _ _ id _ (HF.out.par.keeps (Keeps.heap HK.out (by rfl))) (HF.out.blk.keeps (Keeps.heap HK.out (by rfl))) (by exact Nat.le_of_lt hszr) HID.out HI64.out (fun _ => HLEN)).mono ?_; rw [HN.out]; rintro e w4 ⟨rfl, hb4⟩))
      have HB4 := hideI (show Below wr.heap.size wr w4 from undrew hb4)
      clear q0 q1 q2 q3 hgk hb4
      obtain ⟨q0, q1, q2, q3, hgk⟩ := G0.out _ HB4.out
      have hsz4 : w.heap.size < w4.heap.size := Nat.lt_of_lt_of_le hszr HB4.out.size
      have HK4 : Hid (Keeps w.heap.size w w4) := Keeps.trans' HK.out (Keeps.of_below (HB4.out.mono (Nat.le_of_lt hszr)))
      have G4 : Hid (∀ W, Below w4.heap.size w4 W → W.cell? ⟨w.heap.size, 0, none⟩ = some (.slice P f.params.length pc) ∧ W.cell? ⟨w.heap.size, 1, none⟩ = some (.int .i64 f.arrays) ∧ W.cell? ⟨w.heap.size, 2, none⟩ = some (.int .i64 f.cells) ∧ W.cell? ⟨w.heap.size, 3, none⟩ = some (.slice A f.blocks.length c) ∧ W.cell? ⟨g, k, none⟩ = some (.int .i64 id)) :=
        fun W hW => G0.out W (HB4.out.trans (hW.mono HB4.out.size))
      go_wp2
      go_region_held3 (fun w' => w'.cell? ⟨w.heap.size, 0, none⟩ = some (.slice P f.params.length pc) ∧ w'.cell? ⟨w.heap.size, 1, none⟩ = some (.int .i64 f.arrays) ∧ w'.cell? ⟨w.heap.size, 2, none⟩ = some (.int .i64 f.cells) ∧ w'.cell? ⟨w.heap.size, 3, none⟩ = some (.slice A f.blocks.length c) ∧ w'.cell? ⟨g, k, none⟩ = some (.int .i64 id)) (first | go_keep | exact G4.out _ (undrew hb5))
        (first | (go_at_call 10; refine (typeOf_any f w.heap.size _ _ id _ (HF.out.par.keeps (Keeps.heap HK4.out (by rfl))) (HF.out.blk.keeps (Keeps.heap HK4.out (by rfl))) (by exact Nat.le_of_lt hsz4) HID.out HI64.out).mono ?_; rw [HT.out]; rintro e w5 ⟨rfl, hb5⟩))
      have HB5 := hideI (show Below wr.heap.size wr w5 from HB4.out.trans ((show Below w4.heap.size w4 w5 from undrew hb5).mono HB4.out.size))
      clear q0 q1 q2 q3 hgk hb5
      have HGB5 := hideI ((HB5.out.block _ (lt_of_heap HGB.out)).trans HGB.out)
      have hg5 := row_cells HGB5.out rfl
      go_wp2
      have hnn : decide (n < 0) = false := by simp; omega
      have hgk := (hg5 k).trans (HGC.out k hlt)
      rw [HIDK.out] at hgk
      simp only [Option.getD_some] at hgk
      cases k with
      | zero =>
        rcases ht12 with rfl | rfl
        all_goals
          go_quiet (fail)
          go_wp2
          go_roundw
          case rel => exact ⟨1, by omega, by go_num, by rw [HSUM.out], HBr.out.trans ((drewN_below HB5.out).mono HBr.out.size)⟩
          case measure => simp [intOf]; omega
      | succ m =>
        obtain ⟨y, hy⟩ : ∃ y, (idsS f)[m]? = some y := ⟨_, List.getElem?_eq_getElem (by omega)⟩
        have hgm := (hg5 m).trans (HGC.out m (by omega))
        rw [hy] at hgm
        simp only [Option.getD_some] at hgm
        have hless : decide (id ≤ y) = false := by have := idsS_less H0.out hy HIDK.out; simp; omega
        have hpos : decide ((0 : Int) < ((m + 1 : Nat) : Int)) = true := by simp
        have hwr : IntKind.i64.wrap (((m + 1 : Nat) : Int) - 1) = (m : Int) := by rw [IntWalk.i64_in _ (by omega)]; omega
        clear hg5 hy
        rcases ht12 with rfl | rfl
        all_goals
          go_quiet (fail)
          clear hwr
          go_wp2
          go_roundw
          case rel => exact ⟨m + 1 + 1, by omega, by go_num, by rw [HSUM.out], HBr.out.trans ((drewN_below HB5.out).mono HBr.out.size)⟩
          case measure => simp [intOf]; omega
    · have hse : sumU ((idsS f).take k) (usesM f) = (U : Int) := by rw [List.take_of_length_le (by omega), look_sum H0.out, HU.out]
      rw [hse]
      go_wp2_with (go_at_call 17; refine (refUses_any f.blocks w.heap.size _ _ _ _ _ (HF.out.blk.keeps HK.out) (Nat.le_of_lt hszr) (look_few H0.out) (look_bd H0.out) (look_form H0.out) (look_phi H0.out)).mono ?_; rintro e w4 ⟨v4, rfl, hv4, hb4⟩; obtain ⟨A4, c4, rfl⟩ := RU.form hv4; have hU4 : (f.blocks.flatMap usesBlock).length = U := HU.out.symm; rw [hU4]; have HB4 := hideI hb4; have hx4 := row_cells HXr.out (hb4.block _ (lt_of_heap HXr.out)); clear hb4 hv4)
      go_ret
      exact ⟨by simp, (HB.out.trans (HBr.out.mono HB.out.size)).trans (HB4.out.mono (Nat.le_of_lt hszr))⟩

theorem walk (f : FuncM) (pv bv : Value) (w : World) (hF : FnIn w f pv bv) :
    Calls Try.prog 5 #[.agg #[pv, .int .i64 f.arrays, .int .i64 f.cells, bv]] w fun e w' => e = .returned (.bool true) ∧ Below w.heap.size w w' := by
  by_cases h0 : (lookM f).1 = 0
  · by_cases hl : (idsS f).length ≤ 300
    · exact walk_yes f pv bv w hF h0 hl
    · exact walk_no f pv bv w hF (.inr ⟨h0, by omega⟩)
  · exact walk_no f pv bv w hF (.inl h0)

set_option maxRecDepth 100000 in
theorem lifted (os : Os) (started : os.Started) (H : Type) (enc : TypeId × Value → H) :
    ReturnsInHanded {} Try.checked os 5 .any (Rows.irUsedSpec.pre6 enc Try.prog Try.f5 Rows.irUsedRow.domain false) (Rows.irUsedSpec.post enc Try.prog Try.f5 false true false false) := by
  refine returnsInHanded_of_change_sized (C := Try.checked) own started (by kernel_rfl) Try.func5
    (ChangeSpec.witness6 (enc := enc) (C := Try.checked) false ⟨#[], #[.agg #[.slice none 0 0, .int .i64 0, .int .i64 0, .slice none 0 0]], []⟩ 8 (by kernel_rfl) (by kernel_rfl) (by kernel_rfl) (by kernel_rfl)) ?_
  intro W base args ds gs before hval0 hW hcnd hsz _
  have hval : ∀ (j : Nat) t v, Try.f5.params[j]? = some t → args[j]? = some v → Value.okWide Try.prog W .any base t v := hval0
  have hW' := hW
  obtain ⟨p, q, hA0, hV, rfl, hfz, hnd⟩ := hW
  have hA : DataW.TrodAll enc Try.prog W 0 (fun _ => true) true Try.f5.params.toList args.toList ds p := hA0
  rw [Try.params5] at hA hval
  obtain ⟨v0, vs0, d0, ds0, p0, q0, hargs, rfl, rfl, h0, r0⟩ := trodAll_cons hA
  obtain ⟨rfl, rfl, rfl⟩ := trodAll_nil r0
  obtain rfl : args = #[v0] := by cases args; simp_all
  obtain ⟨rfl, rfl⟩ := trodVars_none hV
  obtain ⟨f, pv, bv, rfl, hF⟩ := open_func (hval 0 25 v0 rfl rfl) h0 hsz (j := 0) rfl rfl
  clear hA0 hval0
  refine (walk f pv bv W hF).mono fun e W' ⟨he, hg⟩ => ?_
  subst he
  exact ⟨_, rfl, law_post (by kernel_rfl) hW' rfl (by kernel_rfl) Try.underlying4 rfl rfl rfl (by rw [Try.params5]; decide +kernel) hg⟩

theorem over : Rows.irUsedRow.holds Try.pinned (OpenSpec.ofChange Rows.irUsedSpec) :=
  OpenClaim.holds_of_wide 5 Try.f5 rfl rfl rfl rfl rfl rfl rfl ⟨rfl, rfl, rfl, rfl, rfl⟩ rfl rfl rfl rfl rfl (by kernel_rfl) Try.func5 (by kernel_rfl)
    (of_decide_eq_true (by kernel_rfl)) (by unfold Func.isWrapper; first | (rw [if_pos (by decide +kernel)]; kernel_rfl) | (rw [if_neg (by decide +kernel)]; exact ⟨rfl, rfl⟩))
    (fun os started H enc _ => lifted os started H enc)

theorem proved : Rows.IrUsedSaid := over
#print axioms proved
end Go.Proofs.Ytnfcgafkkjakiaa.irUsed
