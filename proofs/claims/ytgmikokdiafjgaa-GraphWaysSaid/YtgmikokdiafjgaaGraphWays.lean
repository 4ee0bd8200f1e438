/- What is proved: for every function f, in whatever memory it lies, GraphWays answers true: Preds, Reach and Order answer what the document says. No condition. -/
import Derived.Test.YtgmikokdiafjgaaAwake3
import Derived.Test.YtgmikokdiafjgaaRVisit
import Derived.Test.YtgmikokdiafjgaaRPreds
import Derived.Test.YtgmikokdiafjgaaRWithout
import Derived.Test.YtgmikokdiafjgaaRefCheck
import Derived.Test.YtgmikokdiafjgaaLaw
import Derived.IntWalk
import Derived.BigQuiet
import Derived.Deep.QuietTactic
namespace Go.Proofs.Ytgmikokdiafjgaa.graphWays
open Go.ChangeShapes Go.WideShapes Go.ChangeAt Go.RowKit

theorem drewN_below {B n : Nat} {w w' : World} (h : Below B w w') : Below B w (w'.drewN n) := ⟨h.os, h.tape, h.output, h.size, h.block⟩

theorem predsAt_few {bs : List BlockM} (h : bs.length ≤ 512) : ∀ l ∈ predsAt bs bs.length bs.length 0, l.length ≤ 1000 := by
  intro l hl
  unfold predsAt at hl
  obtain ⟨t, _, rfl⟩ := List.mem_map.1 hl
  have := predsTo_len bs bs.length t
  simp
  omega

set_option maxRecDepth 100000 in
set_option maxHeartbeats 2000000 in
/-- where f is not right -/
theorem walk_no (f : FuncM) (pv bv : Value) (w : World) (hF : FnIn w f pv bv) (hno : (lookM f).1 ≠ 0) :
    Calls Try.prog 3 #[.agg #[pv, .int .i64 f.arrays, .int .i64 f.cells, bv]] w fun e w' => e = .returned (.bool true) ∧ Below w.heap.size w w' := by
  have HF := hideI hF
  have HID := hideI (uses_i64 hF.ok)
  obtain ⟨P, pc, hpv, _⟩ := hF.par
  obtain ⟨A, c, hbv, _⟩ := hF.blk
  subst hpv hbv
  have HB : Hid (Below w.heap.size w (w.alloc (.cells #[.slice P f.params.length pc, .int .i64 f.arrays, .int .i64 f.cells, .slice A f.blocks.length c] 25))) := (Below.refl _ w).alloc (Nat.le_refl _) _
  have HX := hideI (heap_alloc_new w (.cells #[.slice P f.params.length pc, .int .i64 f.arrays, .int .i64 f.cells, .slice A f.blocks.length c] 25))
  have HNO := hideI hno
  have hx := row_cells HX.out rfl
  have hn1 : ((lookM f).1 != 0) = true := by simpa using hno
  clear hF hno
  go_enter Try.func3, Try.ntmps3
  go_wp2_with (first
    | (go_at_call 9; go_must (refine (refCheck_any f w.heap.size _ _ _ (HF.out.par.keeps (Keeps.of_below HB.out)) (HF.out.blk.keeps (Keeps.of_below HB.out)) HB.out.size).mono ?_); rintro e w1 ⟨rfl, hb⟩; clear hx; replace HX := hideI ((hb.block _ (lt_of_heap HX.out)).trans HX.out); have hx := row_cells HX.out rfl; replace HB := hideI (HB.out.trans (hb.mono HB.out.size)); clear hb)
    | (go_at_call 10; go_must (refine (gPreds_no f w.heap.size _ _ _ (HF.out.par.keeps (Keeps.of_below HB.out)) (HF.out.blk.keeps (Keeps.of_below HB.out)) HB.out.size HID.out HNO.out).mono ?_); rintro e w2 ⟨rfl, hb⟩; clear hx; replace HX := hideI ((hb.block _ (lt_of_heap HX.out)).trans HX.out); have hx := row_cells HX.out rfl; replace HB := hideI (HB.out.trans (hb.mono HB.out.size)); clear hb)
    | (go_at_call 11; go_must (refine (gReach_no f w.heap.size _ _ _ (HF.out.par.keeps (Keeps.of_below HB.out)) (HF.out.blk.keeps (Keeps.of_below HB.out)) HB.out.size HID.out HNO.out).mono ?_); rintro e w3 ⟨rfl, hb⟩; clear hx; replace HX := hideI ((hb.block _ (lt_of_heap HX.out)).trans HX.out); have hx := row_cells HX.out rfl; replace HB := hideI (HB.out.trans (hb.mono HB.out.size)); clear hb)
    | (go_at_call 12; go_must (refine (gOrder_no f w.heap.size _ _ _ (HF.out.par.keeps (Keeps.of_below HB.out)) (HF.out.blk.keeps (Keeps.of_below HB.out)) HB.out.size HID.out HNO.out).mono ?_); rintro e w4 ⟨rfl, hb⟩; clear hx; replace HX := hideI ((hb.block _ (lt_of_heap HX.out)).trans HX.out); have hx := row_cells HX.out rfl; replace HB := hideI (HB.out.trans (hb.mono HB.out.size)); clear hb)
    | (go_at_call 13; refine (awake3_any _).mono ?_; rintro e w5 ⟨rfl, hb⟩; clear hx; replace HX := hideI ((hb.block _ (lt_of_heap HX.out)).trans HX.out); have hx := row_cells HX.out rfl; replace HB := hideI (HB.out.trans (hb.mono HB.out.size)); clear hb))
  go_ret
  exact ⟨rfl, HB.out⟩

set_option maxRecDepth 100000 in
set_option maxHeartbeats 4000000 in
theorem walk_yes (f : FuncM) (pv bv : Value) (w : World) (hF : FnIn w f pv bv) (h0 : (lookM f).1 = 0) :
    Calls Try.prog 3 #[.agg #[pv, .int .i64 f.arrays, .int .i64 f.cells, bv]] w fun e w' => e = .returned (.bool true) ∧ Below w.heap.size w w' := by
  have HF := hideI hF
  have HID := hideI (uses_i64 hF.ok)
  obtain ⟨P, pc, hpv, _⟩ := hF.par
  obtain ⟨A, c, hbv, _⟩ := hF.blk
  subst hpv hbv
  have HB : Hid (Below w.heap.size w (w.alloc (.cells #[.slice P f.params.length pc, .int .i64 f.arrays, .int .i64 f.cells, .slice A f.blocks.length c] 25))) := (Below.refl _ w).alloc (Nat.le_refl _) _
  have HX := hideI (heap_alloc_new w (.cells #[.slice P f.params.length pc, .int .i64 f.arrays, .int .i64 f.cells, .slice A f.blocks.length c] 25))
  have hx := row_cells HX.out rfl
  have hnb := look_some_block h0
  have HEND := hideI (look_ends h0)
  have H0 := hideI h0
  have HFEW := hideI (predsAt_few hnb.2)
  clear hF h0
  go_enter Try.func3, Try.ntmps3
  go_wp2_with (first
    | (go_at_call 9; go_must (refine (refCheck_any f w.heap.size _ _ _ (HF.out.par.keeps (Keeps.of_below HB.out)) (HF.out.blk.keeps (Keeps.of_below HB.out)) HB.out.size).mono ?_); rw [H0.out]; rintro e w1 ⟨rfl, hb⟩; clear hx; replace HX := hideI ((hb.block _ (lt_of_heap HX.out)).trans HX.out); have hx := row_cells HX.out rfl; replace HB := hideI (HB.out.trans (hb.mono HB.out.size)); clear hb)
    | (go_at_call 10; go_must (refine (gPreds_yes f w.heap.size _ _ _ (HF.out.par.keeps (Keeps.of_below HB.out)) (HF.out.blk.keeps (Keeps.of_below HB.out)) HB.out.size HID.out H0.out).mono ?_); rintro e w2 ⟨g2, vs, rfl, hls, hb⟩; have HLS := hideI hls; clear hx; replace HX := hideI ((hb.block _ (lt_of_heap HX.out)).trans HX.out); have hx := row_cells HX.out rfl; replace HB := hideI (HB.out.trans (hb.mono HB.out.size)); clear hb hls)
    | (go_at_call 11; go_must (refine (gReach_yes f w.heap.size _ _ _ (HF.out.par.keeps (Keeps.of_below HB.out)) (HF.out.blk.keeps (Keeps.of_below HB.out)) HB.out.size HID.out H0.out).mono ?_); rintro e w3 ⟨o, g3, rfl, ho, hown, hb⟩; have HO := hideI ho; have HR := hideI hown; replace HLS := hideI (HLS.out.kept hb); clear hx; replace HX := hideI ((hb.block _ (lt_of_heap HX.out)).trans HX.out); have hx := row_cells HX.out rfl; replace HB := hideI (HB.out.trans (hb.mono HB.out.size)); clear hb ho hown)
    | (go_at_call 12; go_must (refine (gOrder_yes f w.heap.size _ _ _ (HF.out.par.keeps (Keeps.of_below HB.out)) (HF.out.blk.keeps (Keeps.of_below HB.out)) HB.out.size HID.out H0.out).mono ?_); rintro e w4 ⟨o2, g4, cap, rfl, ho2, ho0, ho1, hown, hb⟩; obtain rfl := HO.out.one ho2; have HW := hideI hown; replace HLS := hideI (HLS.out.kept hb); replace HR := hideI (own_kept_below HR.out hb (fun k hk => (HR.out.lt k hk).2)); clear hx; replace HX := hideI ((hb.block _ (lt_of_heap HX.out)).trans HX.out); have hx := row_cells HX.out rfl; replace HB := hideI (HB.out.trans (hb.mono HB.out.size)); clear hb hown ho2)
    | (go_at_call 13; refine (awake3_any _).mono ?_; rintro e w5 ⟨rfl, hb⟩; go_must (replace HLS := hideI (HLS.out.kept hb); replace HR := hideI (own_kept_below HR.out hb (fun k hk => (HR.out.lt k hk).2)); replace HW := hideI (own_kept_below HW.out hb (fun k hk => (HW.out.lt k hk).2)); clear hx; replace HX := hideI ((hb.block _ (lt_of_heap HX.out)).trans HX.out); have hx := row_cells HX.out rfl; replace HB := hideI (HB.out.trans (hb.mono HB.out.size)); clear hb))
    | (go_at_call 14; go_must (refine (refWithout_any f.blocks w.heap.size _ _ _ _ (-1) _ (HF.out.blk.keeps (Keeps.of_below HB.out)) HB.out.size hnb.1 hnb.2 HEND.out (by decide)).mono ?_); rintro e w6 ⟨S, g6, rfl, hS, hown, hb⟩; rw [marks_congr (fun x => (hS x).trans (HO.out.reach x).symm)] at hown; have H6 := hideI hown; replace HLS := hideI (HLS.out.kept hb); replace HR := hideI (own_kept_below HR.out hb (fun k hk => (HR.out.lt k hk).2)); replace HW := hideI (own_kept_below HW.out hb (fun k hk => (HW.out.lt k hk).2)); clear hx; replace HX := hideI ((hb.block _ (lt_of_heap HX.out)).trans HX.out); have hx := row_cells HX.out rfl; replace HB := hideI (HB.out.trans (hb.mono HB.out.size)); clear hb hown hS)
    | (go_at_call 16; go_must (refine (refPreds_any f.blocks w.heap.size _ _ _ _ _ (HF.out.blk.keeps (Keeps.of_below HB.out)) HB.out.size hnb.2 HEND.out).mono ?_); rintro e w7 ⟨g7, vs7, rfl, hls7, hb⟩; have HL7 := hideI hls7; replace HLS := hideI (HLS.out.kept hb); replace HR := hideI (own_kept_below HR.out hb (fun k hk => (HR.out.lt k hk).2)); replace HW := hideI (own_kept_below HW.out hb (fun k hk => (HW.out.lt k hk).2)); replace H6 := hideI (own_kept_below H6.out hb (fun k hk => (H6.out.lt k hk).2)); clear hx; replace HX := hideI ((hb.block _ (lt_of_heap HX.out)).trans HX.out); have hx := row_cells HX.out rfl; replace HB := hideI (HB.out.trans (hb.mono HB.out.size)); clear hb hls7)
    | (go_at_call 15; go_must (refine (sameLists_yes _ _ _ _ _ _ _ _ _ HLS.out HL7.out HFEW.out (by omega)).mono ?_); rintro e w8 ⟨rfl, m8, hw8⟩; have hb : Below w7.heap.size w7 w8 := (by rw [hw8]; exact drewN_below (Below.refl _ _)); replace HLS := hideI (HLS.out.kept hb); replace HR := hideI (own_kept_below HR.out hb (fun k hk => (HR.out.lt k hk).2)); replace HW := hideI (own_kept_below HW.out hb (fun k hk => (HW.out.lt k hk).2)); replace H6 := hideI (own_kept_below H6.out hb (fun k hk => (H6.out.lt k hk).2)); clear hx; replace HX := hideI ((hb.block _ (lt_of_heap HX.out)).trans HX.out); have hx := row_cells HX.out rfl; replace HB := hideI (HB.out.trans (hb.mono HB.out.size)); clear hb hw8)
    | (go_at_call 18; go_must (refine (refOrder_any f.blocks w.heap.size _ _ _ _ _ (HF.out.blk.keeps (Keeps.of_below HB.out)) HB.out.size hnb.1 hnb.2 HEND.out).mono ?_); rintro e w9 ⟨o2, g9, cap9, rfl, ho2, _, _, hown, hb⟩; obtain rfl := HO.out.one ho2; have H9 := hideI hown; replace HLS := hideI (HLS.out.kept hb); replace HR := hideI (own_kept_below HR.out hb (fun k hk => (HR.out.lt k hk).2)); replace HW := hideI (own_kept_below HW.out hb (fun k hk => (HW.out.lt k hk).2)); replace H6 := hideI (own_kept_below H6.out hb (fun k hk => (H6.out.lt k hk).2)); clear hx; replace HX := hideI ((hb.block _ (lt_of_heap HX.out)).trans HX.out); have hx := row_cells HX.out rfl; replace HB := hideI (HB.out.trans (hb.mono HB.out.size)); clear hb hown ho2)
    | (go_at_call 17; go_must (refine (sameInts_any _ _ _ _ _ _ (nat_ints HW.out (by omega)) (nat_ints H9.out (by omega))).mono ?_); rintro e w10 ⟨rfl, m10, hw10⟩; rw [beq_self_eq_true]; have hb : Below w9.heap.size w9 w10 := (by rw [hw10]; exact drewN_below (Below.refl _ _)); replace HLS := hideI (HLS.out.kept hb); replace HR := hideI (own_kept_below HR.out hb (fun k hk => (HR.out.lt k hk).2)); replace HW := hideI (own_kept_below HW.out hb (fun k hk => (HW.out.lt k hk).2)); replace H6 := hideI (own_kept_below H6.out hb (fun k hk => (H6.out.lt k hk).2)); clear hx; replace HX := hideI ((hb.block _ (lt_of_heap HX.out)).trans HX.out); have hx := row_cells HX.out rfl; replace HB := hideI (HB.out.trans (hb.mono HB.out.size)); clear hb hw10))
  obtain ⟨wq, rfl⟩ : ∃ wq : World, wq = w10 := ⟨_, rfl⟩
  go_loopw [11] (fun u wr => ∃ k m : Nat, k ≤ f.blocks.length ∧ u = .int .i64 k ∧ wr = wq.drewN m) (fun u _ => f.blocks.length - (intOf u).toNat)
  case atStart => exact ⟨0, 0, Nat.zero_le _, rfl, rfl⟩
  case round =>
    obtain ⟨k, m, hk, rfl, rfl⟩ := hrel
    by_cases hltk : k < f.blocks.length
    · have d1 : wq.cell? ⟨g3, k, none⟩ = some (.bool (decide (k ∈ o))) := by rw [World.ownsRow.cellAt HR.out k (by omega), marks_at hltk]
      have d2 : wq.cell? ⟨g6, k, none⟩ = some (.bool (decide (k ∈ o))) := by rw [World.ownsRow.cellAt H6.out k (by omega), marks_at hltk]
      obtain ⟨q, hq⟩ : ∃ q, q = decide (k ∈ o) := ⟨_, rfl⟩
      rw [← hq] at d1 d2
      clear hq
      cases q
      all_goals
        go_wp2
        go_quiet (fail)
        go_wp2
        go_roundw
        case rel => exact ⟨k + 1, _, by omega, by go_num, by rfl⟩
        case measure => simp [intOf]; omega
    · go_wp2
      go_ret
      exact ⟨rfl, drewN_below HB.out⟩

theorem walk (f : FuncM) (pv bv : Value) (w : World) (hF : FnIn w f pv bv) :
    Calls Try.prog 3 #[.agg #[pv, .int .i64 f.arrays, .int .i64 f.cells, bv]] w fun e w' => e = .returned (.bool true) ∧ Below w.heap.size w w' := by
  by_cases h0 : (lookM f).1 = 0
  · exact walk_yes f pv bv w hF h0
  · exact walk_no f pv bv w hF h0

set_option maxRecDepth 100000 in
theorem lifted (os : Os) (started : os.Started) (H : Type) (enc : TypeId × Value → H) :
    ReturnsInHanded {} Try.checked os 3 .any (Rows.graphWaysSpec.pre6 enc Try.prog Try.f3 Rows.graphWaysRow.domain false) (Rows.graphWaysSpec.post enc Try.prog Try.f3 false true false false) := by
  refine returnsInHanded_of_change_sized (C := Try.checked) own started (by kernel_rfl) Try.func3
    (ChangeSpec.witness6 (enc := enc) (C := Try.checked) false ⟨#[], #[.agg #[.slice none 0 0, .int .i64 0, .int .i64 0, .slice none 0 0]], []⟩ 8 (by kernel_rfl) (by kernel_rfl) (by kernel_rfl) (by kernel_rfl)) ?_
  intro W base args ds gs before hval0 hW hcnd hsz _
  have hval : ∀ (j : Nat) t v, Try.f3.params[j]? = some t → args[j]? = some v → Value.okWide Try.prog W .any base t v := hval0
  have hW' := hW
  obtain ⟨p, q, hA0, hV, rfl, hfz, hnd⟩ := hW
  have hA : DataW.TrodAll enc Try.prog W 0 (fun _ => true) true Try.f3.params.toList args.toList ds p := hA0
  rw [Try.params3] at hA hval
  obtain ⟨v0, vs0, d0, ds0, p0, q0, hargs, rfl, rfl, h0, r0⟩ := trodAll_cons hA
  obtain ⟨rfl, rfl, rfl⟩ := trodAll_nil r0
  obtain rfl : args = #[v0] := by cases args; simp_all
  obtain ⟨rfl, rfl⟩ := trodVars_none hV
  obtain ⟨f, pv, bv, rfl, hF⟩ := open_func (hval 0 25 v0 rfl rfl) h0 hsz (j := 0) rfl rfl
  clear hA0 hval0
  refine (walk f pv bv W hF).mono fun e W' ⟨he, hg⟩ => ?_
  subst he
  exact ⟨_, rfl, law_post (by kernel_rfl) hW' rfl (by kernel_rfl) Try.underlying4 rfl rfl rfl (by rw [Try.params3]; decide +kernel) hg⟩

theorem over : Rows.graphWaysRow.holds Try.pinned (OpenSpec.ofChange Rows.graphWaysSpec) :=
  OpenClaim.holds_of_wide 3 Try.f3 rfl rfl rfl rfl rfl rfl rfl ⟨rfl, rfl, rfl, rfl, rfl⟩ rfl rfl rfl rfl rfl (by kernel_rfl) Try.func3 (by kernel_rfl)
    (of_decide_eq_true (by kernel_rfl)) (by unfold Func.isWrapper; first | (rw [if_pos (by decide +kernel)]; kernel_rfl) | (rw [if_neg (by decide +kernel)]; exact ⟨rfl, rfl⟩))
    (fun os started H enc _ => lifted os started H enc)

theorem proved : Rows.GraphWaysSaid := over
#print axioms proved
end Go.Proofs.Ytgmikokdiafjgaa.graphWays
