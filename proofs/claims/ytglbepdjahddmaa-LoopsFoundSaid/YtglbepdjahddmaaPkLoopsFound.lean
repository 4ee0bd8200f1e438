/- What is proved: for every function f, in whatever memory it lies, LoopsFound answers true: the loops found are the reference's. No condition. -/
import Derived.Test.YtglbepdjahddmaaPkLoopsFound4
import Derived.IntWalk
import Derived.BigQuiet
import Derived.Deep.QuietTactic
namespace Go.Proofs.Ytglbepdjahddmaa.loopsFound
open Go.ChangeShapes Go.WideShapes Go.ChangeAt Go.RowKit Go.Maps

theorem loops_short {bs : List BlockM} {D L : Nat → Nat → Bool} (h : bs.length ≤ 512) (x : LpM) (hx : x ∈ loopsM bs D L) : x.blocks.length ≤ 512 ∧ x.latches.length ≤ 512 ∧ x.exits.length ≤ 512 := by
  obtain ⟨i, hi⟩ := List.getElem?_of_mem hx
  have X := loops_at hi
  refine ⟨(loops_rising h x hx).2, ?_, ?_⟩
  · rw [X.latches]
    exact Nat.le_trans (List.length_filter_le _ _) (Nat.le_trans (predsTo_len _ _ _) h)
  · rw [X.exits]
    refine Nat.le_trans (List.length_filter_le _ _) ?_
    simpa using h

set_option maxRecDepth 100000 in
set_option maxHeartbeats 2000000 in
theorem walk_no (f : FuncM) (pv bv : Value) (w : World) (hF : FnIn w f pv bv) (hno : ¬ ∃ o, StrictM f o) :
    Calls Try.prog 3 #[.agg #[pv, .int .i64 f.arrays, .int .i64 f.cells, bv]] w fun e w' => e = .returned (.bool true) ∧ Below w.heap.size w w' := by
  have HF := hideI hF
  have HID := hideI (uses_i64 hF.ok)
  obtain ⟨P, pc, hpv, _⟩ := hF.par
  obtain ⟨A, cc, hbv, _⟩ := hF.blk
  subst hpv hbv
  have HB : Hid (Below w.heap.size w (w.alloc (.cells #[.slice P f.params.length pc, .int .i64 f.arrays, .int .i64 f.cells, .slice A f.blocks.length cc] 25))) := (Below.refl _ w).alloc (Nat.le_refl _) _
  have HX := hideI (heap_alloc_new w (.cells #[.slice P f.params.length pc, .int .i64 f.arrays, .int .i64 f.cells, .slice A f.blocks.length cc] 25))
  have HNG : Hid (∀ o, StrictM f o → False) := fun o h => hno ⟨o, h⟩
  clear hF hno
  go_enter Try.func3, Try.ntmps3
  go_wp2_with (first
    | (go_at_call 7; go_must (refine (lForest_any f w.heap.size _ _ _ (HF.out.par.keeps (Keeps.of_below HB.out)) (HF.out.blk.keeps (Keeps.of_below HB.out)) HB.out.size HID.out).mono ?_); rintro e w1 (⟨x, y, hci, hy, rfl, hb⟩ | ⟨o, _, _, _, _, _, hk, _⟩); rotate_left; (exact (HNG.out o hk.strict).elim); have hyb : (y != 0) = true := (by rw [bne_iff_ne]; exact hy); have hyy : (y != y) = false := (by simp); have HCI := hideI hci; replace HX := hideI ((hb.block _ (lt_of_heap HX.out)).trans HX.out); have hx := row_cells HX.out rfl; have q0 := hx 0; have q1 := hx 1; have q2 := hx 2; have q3 := hx 3; clear hx; replace HB := hideI (HB.out.trans (hb.mono HB.out.size)); clear hb hci hy)
    | (go_at_call 8; go_must (refine (refStrict_any f w.heap.size _ _ _ (HF.out.par.keeps (Keeps.of_below HB.out)) (HF.out.blk.keeps (Keeps.of_below HB.out)) HB.out.size HID.out order_exists).mono ?_); rintro e w2 ⟨x2, y2, rfl, hci, hb⟩; obtain ⟨rfl, rfl⟩ := Prod.mk.inj (hci.one HCI.out); replace HB := hideI (HB.out.trans (hb.mono HB.out.size)); clear hb hci)
    | (go_at_call 9; refine (awake9_any _).mono ?_; rintro e w5 ⟨rfl, hb⟩; replace HB := hideI (HB.out.trans (hb.mono HB.out.size)); clear hb))
  go_ret
  exact ⟨rfl, HB.out⟩

set_option maxRecDepth 100000 in
set_option maxHeartbeats 4000000 in
theorem walk_yes (f : FuncM) (o0 : List Nat) (pv bv : Value) (w : World) (hF : FnIn w f pv bv) (hs : StrictM f o0) :
    Calls Try.prog 3 #[.agg #[pv, .int .i64 f.arrays, .int .i64 f.cells, bv]] w fun e w' => e = .returned (.bool true) ∧ Below w.heap.size w w' := by
  have HF := hideI hF
  have HID := hideI (uses_i64 hF.ok)
  obtain ⟨P, pc, hpv, _⟩ := hF.par
  obtain ⟨A, cc, hbv, _⟩ := hF.blk
  subst hpv hbv
  have HB : Hid (Below w.heap.size w (w.alloc (.cells #[.slice P f.params.length pc, .int .i64 f.arrays, .int .i64 f.cells, .slice A f.blocks.length cc] 25))) := (Below.refl _ w).alloc (Nat.le_refl _) _
  have HX := hideI (heap_alloc_new w (.cells #[.slice P f.params.length pc, .int .i64 f.arrays, .int .i64 f.cells, .slice A f.blocks.length cc] 25))
  have HS := hideI hs
  have hn5 := (look_some_block hs.look).2
  have hn0 := (look_some_block hs.look).1
  have HIN := hideI (look_ends hs.look)
  clear hF hs
  go_enter Try.func3, Try.ntmps3
  go_wp2_with (first
    | (go_at_call 7; go_must (refine (lForest_any f w.heap.size _ _ _ (HF.out.par.keeps (Keeps.of_below HB.out)) (HF.out.blk.keeps (Keeps.of_below HB.out)) HB.out.size HID.out).mono ?_); rintro e w1 (⟨x, y, hci, hy, _⟩ | ⟨o, pl, par, D, L, lv, hk, rfl, hlp, hb⟩); (exact absurd (Prod.mk.inj (HS.out.check hci)).2 hy); (obtain ⟨Av, cv, rfl⟩ : ∃ A c, lv = .slice A (loopsM f.blocks D L).length c := (by obtain ⟨cs, h1, _⟩ := hlp.ex; exact own_sl h1)); have HK := hideI hk; have HLP := hideI (hlp.mono (Nat.zero_le _)); replace HX := hideI ((hb.block _ (lt_of_heap HX.out)).trans HX.out); have hx := row_cells HX.out rfl; have q0 := hx 0; have q1 := hx 1; have q2 := hx 2; have q3 := hx 3; clear hx; replace HB := hideI (HB.out.trans (hb.mono HB.out.size)); clear hb hk hlp)
    | (go_at_call 8; go_must (refine (refStrict_any f w.heap.size _ _ _ (HF.out.par.keeps (Keeps.of_below HB.out)) (HF.out.blk.keeps (Keeps.of_below HB.out)) HB.out.size HID.out order_exists).mono ?_); rintro e w2 ⟨x2, y2, rfl, hci, hb⟩; obtain ⟨rfl, rfl⟩ := Prod.mk.inj (HS.out.check hci); clear q0 q1 q2 q3; replace HX := hideI ((hb.block _ (lt_of_heap HX.out)).trans HX.out); have hx := row_cells HX.out rfl; have q0 := hx 0; have q1 := hx 1; have q2 := hx 2; have q3 := hx 3; clear hx; replace HLP := hideI (HLP.out.kept hb); replace HB := hideI (HB.out.trans (hb.mono HB.out.size)); clear hb hci)
    | (go_at_call 9; refine (awake9_any _).mono ?_; rintro e w5 ⟨rfl, hb⟩; clear q0 q1 q2 q3; replace HX := hideI ((hb.block _ (lt_of_heap HX.out)).trans HX.out); have hx := row_cells HX.out rfl; have q0 := hx 0; have q1 := hx 1; have q2 := hx 2; have q3 := hx 3; clear hx; replace HLP := hideI (HLP.out.kept hb); replace HB := hideI (HB.out.trans (hb.mono HB.out.size)); clear hb)
    | (go_at_call 11; go_must (refine (refForest_any f.blocks o pl par D L w.heap.size _ _ _ _ _ HK.out.ok HK.out.strict.order hn0 HIN.out (HF.out.blk.keeps (Keeps.of_below HB.out)) HB.out.size ⟨_, rfl⟩).mono ?_); rintro e w6 ⟨uv, rfl, hlu, hb⟩; have HLU := hideI hlu; replace HLP := hideI (HLP.out.kept hb); replace HB := hideI (HB.out.trans (hb.mono HB.out.size)); clear hb hlu q0 q1 q2 q3)
    | (go_at_call 10; go_must (refine (same9_yes _ _ _ _ _ _ HLP.out HLU.out (Nat.le_trans loops_len hn5) (loops_short hn5)).mono ?_); rintro e w7 ⟨rfl, hb⟩; replace HB := hideI (HB.out.trans (hb.mono HB.out.size)); clear hb))
  go_ret
  exact ⟨rfl, HB.out⟩

theorem walk (f : FuncM) (pv bv : Value) (w : World) (hF : FnIn w f pv bv) :
    Calls Try.prog 3 #[.agg #[pv, .int .i64 f.arrays, .int .i64 f.cells, bv]] w fun e w' => e = .returned (.bool true) ∧ Below w.heap.size w w' := by
  by_cases h : ∃ o, StrictM f o
  · obtain ⟨o, ho⟩ := h
    exact walk_yes f o pv bv w hF ho
  · exact walk_no f pv bv w hF h

set_option maxRecDepth 100000 in
theorem lifted (os : Os) (started : os.Started) (H : Type) (enc : TypeId × Value → H) :
    ReturnsInHanded {} Try.checked os 3 .any (Rows.loopsFoundSpec.pre6 enc Try.prog Try.f3 Rows.loopsFoundRow.domain false) (Rows.loopsFoundSpec.post enc Try.prog Try.f3 false true false false) := by
  refine returnsInHanded_of_change_sized (C := Try.checked) own started (by kernel_rfl) Try.func3
    (ChangeSpec.witness6 (enc := enc) (C := Try.checked) false ⟨#[], #[.agg #[.slice none 0 0, .int .i64 0, .int .i64 0, .slice none 0 0]], []⟩ 8 (by kernel_rfl) (by kernel_rfl) (by kernel_rfl) (by kernel_rfl)) ?_
  intro W base args ds gs before hval0 hW hcnd hsz _
  have hval : ∀ (j : Nat) t v, Try.f3.params[j]? = some t → args[j]? = some v → Value.okWide Try.prog W .any base t v := hval0
  have hW' := hW
  obtain ⟨p, q, hA0, hV, rfl, hfz, hnd⟩ := hW
  have hA : DataW.TrodAll enc Try.prog W 0 (fun _ => true) true Try.f3.params.toList args.toList ds p := hA0
  rw [Try.params3] at hA hval
  obtain ⟨v0, vs0, d0, ds0, p0, q0, hargs, rfl, rfl, h0, r0⟩ := trodAll_cons hA
  obtain ⟨rfl, rfl, rfl⟩ := trodAll_nil r0
  obtain rfl : args = #[v0] := by cases args; simp_all
  obtain ⟨rfl, rfl⟩ := trodVars_none hV
  obtain ⟨f, pv, bv, rfl, hF⟩ := open_func (hval 0 25 v0 rfl rfl) h0 hsz (j := 0) rfl rfl
  clear hA0 hval0
  refine (walk f pv bv W hF).mono fun e W' ⟨he, hg⟩ => ?_
  subst he
  exact ⟨_, rfl, law_post (by kernel_rfl) hW' rfl (by kernel_rfl) Try.underlying4 rfl rfl rfl (by rw [Try.params3]; decide +kernel) hg⟩

theorem over : Rows.loopsFoundRow.holds Try.pinned (OpenSpec.ofChange Rows.loopsFoundSpec) :=
  OpenClaim.holds_of_wide 3 Try.f3 rfl rfl rfl rfl rfl rfl rfl ⟨rfl, rfl, rfl, rfl, rfl⟩ rfl rfl rfl rfl rfl (by kernel_rfl) Try.func3 (by kernel_rfl)
    (of_decide_eq_true (by kernel_rfl)) (by unfold Func.isWrapper; first | (rw [if_pos (by decide +kernel)]; kernel_rfl) | (rw [if_neg (by decide +kernel)]; exact ⟨rfl, rfl⟩))
    (fun os started H enc _ => lifted os started H enc)

theorem proved : Rows.LoopsFoundSaid := over
#print axioms proved
end Go.Proofs.Ytglbepdjahddmaa.loopsFound
