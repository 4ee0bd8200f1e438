/- StrictPrunes: what is strict has nothing to prune; what is right but for blocks that cannot be come to is never dead behind it, and its fault is the same if all could be come to. No condition. -/
import Derived.Test.YtocnlclighonfaaPkStrictPrunes2
namespace Go.Proofs.Ytocnlclighonfaa.strictPrunes
open Go.ChangeShapes Go.WideShapes Go.ChangeAt Go.RowKit Go.Maps

theorem all_pruned {f : FuncM} {o : List Nat} (h0 : (lookM f).1 = 0) (hall : ∀ b, b < f.blocks.length → b ∈ o) : pruneM (inO o) f = f := pruneM_id h0 (fun k hk => decide_eq_true (hall k hk))

/-- what is left is never dead, and where all could be come to its fault is the same -/
theorem prune_checks {f : FuncM} {o : List Nat} {x y x2 y2 : Int} (h0 : (lookM f).1 = 0) (hor : OrderIs f.blocks o) (hg0 : (lookM (pruneM (inO o) f)).1 = 0) (h : CheckIs f (x, y)) (k : CheckIs (pruneM (inO o) f) (x2, y2)) : y2 ≠ 4 ∧ (y = 4 ∨ y2 = y) := by
  have hS : ∀ b, inO o b = true ↔ ReachW f.blocks (-1) b := fun b => by
    unfold inO
    rw [decide_eq_true_iff]
    exact hor.reach b
  constructor
  · rcases k with ⟨k1, _⟩ | ⟨_, o2, ho2, hf⟩
    · exact absurd hg0 k1
    · rcases hf with ⟨b, hb, _⟩ | ⟨_, b, _, e⟩ | ⟨_, _, b, _, e⟩ | ⟨_, _, _, e⟩
      · exact absurd ((ho2.reach b).2 (prune_come h0 hS hb.1)) hb.2.1
      · rw [(Prod.mk.inj e).2]; decide
      · rw [(Prod.mk.inj e).2]; decide
      · rw [(Prod.mk.inj e).2]; decide
  · rcases h with ⟨h1, _⟩ | ⟨_, o1, ho1, hf⟩
    · exact absurd h0 h1
    · have hc : CheckIs f (x, y) := .inr ⟨h0, o1, ho1, hf⟩
      have he : o1 = o := ho1.one hor
      have same : (∀ b, b < f.blocks.length → b ∈ o1) → y = 4 ∨ y2 = y := fun hall => by
        rw [all_pruned h0 (he ▸ hall)] at k
        exact .inr (Prod.mk.inj (k.one hc)).2
      rcases hf with ⟨b, _, e⟩ | ⟨a0, _⟩ | ⟨a0, _⟩ | ⟨a0, _⟩
      · exact .inl (Prod.mk.inj e).2
      · exact same a0
      · exact same a0
      · exact same a0

/-- a strict function has nothing to prune -/
theorem prune_strict (f : FuncM) (o : List Nat) (B : Nat) (pv bv : Value) (w : World) (hs : StrictM f o) (hpv : Ints w B pv f.params) (hbv : BlocksR w B bv f.blocks) (hB : B ≤ w.heap.size) (hid : ∀ u ∈ usesM f, I64 u.1) :
    Calls Try.prog 23 #[.agg #[pv, .int .i64 f.arrays, .int .i64 f.cells, bv]] w (fun e w' => ∃ (A : Option Addr) (c : Nat) (A' : Option Addr) (c' : Nat), e = .returned (.tuple #[.agg #[.slice A f.params.length c, .int .i64 f.arrays, .int .i64 f.cells, .slice A' f.blocks.length c'], .int .i64 0]) ∧
      Ints w' w'.heap.size (.slice A f.params.length c) f.params ∧ BlocksR w' w'.heap.size (.slice A' f.blocks.length c') f.blocks ∧ Below w.heap.size w w') := by
  refine (gPrune_any f B pv bv w hpv hbv hB hid).mono ?_
  rintro e w' (⟨c, hc, hor, _⟩ | ⟨_, o2, A, c, A', c', ho2, _, rfl, h1, h2, hb⟩)
  · rcases hor with ⟨h, _⟩ | ⟨_, o2, ho2, e⟩
    · exact absurd hs.look h
    · rw [ho2.one hs.order, all_pruned hs.look hs.come] at e
      exact absurd (e.trans hs.look) hc
  · rw [ho2.one hs.order, all_pruned hs.look hs.come] at h2 ⊢
    exact ⟨A, c, A', c', rfl, h1, h2, hb⟩

set_option maxRecDepth 100000 in
set_option maxHeartbeats 4000000 in
theorem walk_strict (f : FuncM) (o : List Nat) (pv bv : Value) (w : World) (hF : FnIn w f pv bv) (hs : StrictM f o) :
    Calls Try.prog 12 #[.agg #[pv, .int .i64 f.arrays, .int .i64 f.cells, bv]] w fun e w' => e = .returned (.bool true) ∧ Below w.heap.size w w' := by
  have HF := hideI hF
  have HID := hideI (uses_i64 hF.ok)
  obtain ⟨P, pc, hpv, _⟩ := hF.par
  obtain ⟨A, cc, hbv, _⟩ := hF.blk
  subst hpv hbv
  have HB : Hid (Below w.heap.size w (w.alloc (.cells #[.slice P f.params.length pc, .int .i64 f.arrays, .int .i64 f.cells, .slice A f.blocks.length cc] 25))) := (Below.refl _ w).alloc (Nat.le_refl _) _
  have HX := hideI (heap_alloc_new w (.cells #[.slice P f.params.length pc, .int .i64 f.arrays, .int .i64 f.cells, .slice A f.blocks.length cc] 25))
  have HS := hideI hs
  clear hF hs
  go_enter Try.func12, Try.ntmps12
  go_wp2_with (first
    | (go_at_call 28; go_must (refine (sCheck_any f w.heap.size _ _ _ (HF.out.par.keeps (Keeps.of_below HB.out)) (HF.out.blk.keeps (Keeps.of_below HB.out)) HB.out.size HID.out).mono ?_); rintro e w1 ⟨x1, y1, rfl, hci, hb⟩; (obtain ⟨rfl, rfl⟩ := Prod.mk.inj (HS.out.check hci)); clear hci; replace HX := hideI ((hb.block _ (lt_of_heap HX.out)).trans HX.out); have hx := row_cells HX.out rfl; have q0 := hx 0; have q1 := hx 1; have q2 := hx 2; have q3 := hx 3; clear hx; replace HB := hideI (HB.out.trans (hb.mono HB.out.size)); clear hb)
    | (go_at_call 23; go_must (refine (prune_strict f o w.heap.size _ _ _ HS.out (HF.out.par.keeps (Keeps.of_below HB.out)) (HF.out.blk.keeps (Keeps.of_below HB.out)) HB.out.size HID.out).mono ?_); rintro e w2 ⟨A2, c2, A3, c3, rfl, hr1, hr2, hb⟩; clear q0 q1 q2 q3; have HR1 := hideI hr1; have HR2 := hideI hr2; replace HX := hideI ((hb.block _ (lt_of_heap HX.out)).trans HX.out); replace HB := hideI (HB.out.trans (hb.mono HB.out.size)); have HBG : Hid (Below w2.heap.size w2 (w2.alloc (.cells #[.slice A2 f.params.length c2, .int .i64 f.arrays, .int .i64 f.cells, .slice A3 f.blocks.length c3] 25))) := (Below.refl _ w2).alloc (Nat.le_refl _) _; have HXG := hideI (heap_alloc_new w2 (.cells #[.slice A2 f.params.length c2, .int .i64 f.arrays, .int .i64 f.cells, .slice A3 f.blocks.length c3] 25)); have HWW := hideI HB.out.size; have HXL := hideI (lt_of_heap HX.out); clear hb hr1 hr2)
    | (go_at_call 30; refine (awake5_any _).mono ?_; rintro e w5 ⟨rfl, hb⟩; have HB5 : Hid (Below w2.heap.size w2 w5) := hideI (HBG.out.trans (hb.mono HBG.out.size)); have hx := row_cells HX.out (HB5.out.block _ HXL.out); have q0 := hx 0; have q1 := hx 1; have q2 := hx 2; have q3 := hx 3; have hg := row_cells HXG.out (hb.block _ (lt_of_heap HXG.out)); have y0 := hg 0; have y1 := hg 1; have y2 := hg 2; have y3 := hg 3; clear hx hg hb)
    | (go_at_call 25; go_must (refine (same_yes f w5.heap.size _ _ _ _ _ ((HF.out.par.keeps (Keeps.of_below (HB.out.trans (HB5.out.mono HWW.out)))).more (Nat.le_trans HWW.out HB5.out.size)) ((HF.out.blk.keeps (Keeps.of_below (HB.out.trans (HB5.out.mono HWW.out)))).more' (Nat.le_trans HWW.out HB5.out.size)) ((HR1.out.keeps (Keeps.of_below HB5.out)).more HB5.out.size) ((HR2.out.keeps (Keeps.of_below HB5.out)).more' HB5.out.size) (Nat.le_refl _)).mono ?_); rintro e w6 ⟨rfl, hb⟩; have HB6 := hideI (HB.out.trans ((HB5.out.mono HWW.out).trans (hb.mono (Nat.le_trans HWW.out HB5.out.size)))); clear hb))
  go_ret
  exact ⟨rfl, HB6.out⟩

set_option maxRecDepth 100000 in
set_option maxHeartbeats 4000000 in
theorem walk_no (f : FuncM) (pv bv : Value) (w : World) (hF : FnIn w f pv bv) (hno : ¬ ∃ o, StrictM f o) :
    Calls Try.prog 12 #[.agg #[pv, .int .i64 f.arrays, .int .i64 f.cells, bv]] w fun e w' => e = .returned (.bool true) ∧ Below w.heap.size w w' := by
  have HF := hideI hF
  have HID := hideI (uses_i64 hF.ok)
  obtain ⟨P, pc, hpv, _⟩ := hF.par
  obtain ⟨A, cc, hbv, _⟩ := hF.blk
  subst hpv hbv
  have HB : Hid (Below w.heap.size w (w.alloc (.cells #[.slice P f.params.length pc, .int .i64 f.arrays, .int .i64 f.cells, .slice A f.blocks.length cc] 25))) := (Below.refl _ w).alloc (Nat.le_refl _) _
  have HX := hideI (heap_alloc_new w (.cells #[.slice P f.params.length pc, .int .i64 f.arrays, .int .i64 f.cells, .slice A f.blocks.length cc] 25))
  have HNO := hideI hno
  clear hF hno
  go_enter Try.func12, Try.ntmps12
  go_wp2_with (go_at_call 28; go_must (refine (sCheck_any f w.heap.size _ _ _ (HF.out.par.keeps (Keeps.of_below HB.out)) (HF.out.blk.keeps (Keeps.of_below HB.out)) HB.out.size HID.out).mono ?_); rintro e w1 ⟨x, y, rfl, hci, hb⟩; have hy : (y == 0) = false := (by rw [beq_eq_false_iff_ne]; rintro rfl; exact HNO.out (strict_of hci).2); have HCI := hideI hci; clear hci; replace HX := hideI ((hb.block _ (lt_of_heap HX.out)).trans HX.out); have hx := row_cells HX.out rfl; have q0 := hx 0; have q1 := hx 1; have q2 := hx 2; have q3 := hx 3; clear hx; replace HB := hideI (HB.out.trans (hb.mono HB.out.size)); clear hb)
  refine (gPrune_any f w.heap.size _ _ _ (HF.out.par.keeps (Keeps.of_below HB.out)) (HF.out.blk.keeps (Keeps.of_below HB.out)) HB.out.size HID.out).mono ?_
  rintro e w2 (⟨c1, hc1, _, rfl, hb⟩ | ⟨h0, o, A2, c2, A3, c3, hor, hg0, rfl, hr1, hr2, hb⟩)
  · have hne : (c1 != 0) = true := by simpa using hc1
    have HB2 := hideI (HB.out.trans (hb.mono HB.out.size))
    have HBG : Hid (Below w.heap.size w (w2.alloc (.cells #[.slice none 0 0, .int .i64 0, .int .i64 0, .slice none 0 0] 25))) := hideI (HB2.out.alloc HB2.out.size _)
    clear hc1 hb q0 q1 q2 q3
    go_wp2_with (go_at_call 30; refine (awake5_any _).mono ?_; rintro e w5 ⟨rfl, hb⟩; have HB5 := hideI (HBG.out.trans (hb.mono HBG.out.size)); clear hb)
    go_ret
    exact ⟨rfl, HB5.out⟩
  · have HB2 := hideI (HB.out.trans (hb.mono HB.out.size))
    have HR1 := hideI hr1
    have HR2 := hideI hr2
    have H0 := hideI h0
    have HOR := hideI hor
    have HG0 := hideI hg0
    have HBG : Hid (Below w2.heap.size w2 (w2.alloc (.cells #[.slice A2 f.params.length c2, .int .i64 f.arrays, .int .i64 f.cells, .slice A3 (pruneM (inO o) f).blocks.length c3] 25))) := (Below.refl _ w2).alloc (Nat.le_refl _) _
    have HXG := hideI (heap_alloc_new w2 (.cells #[.slice A2 f.params.length c2, .int .i64 f.arrays, .int .i64 f.cells, .slice A3 (pruneM (inO o) f).blocks.length c3] 25))
    clear h0 hor hg0 hb hr1 hr2 q0 q1 q2 q3
    go_wp2_with (go_at_call 30; refine (awake5_any _).mono ?_; rintro e w5 ⟨rfl, hb⟩; have HB5 : Hid (Below w2.heap.size w2 w5) := hideI (HBG.out.trans (hb.mono HBG.out.size)); have hg := row_cells HXG.out (hb.block _ (lt_of_heap HXG.out)); have y0 := hg 0; have y1 := hg 1; have y2 := hg 2; have y3 := hg 3; clear hg hb)
    refine (sCheck_any (pruneM (inO o) f) w2.heap.size _ _ _ (HR1.out.keeps (Keeps.of_below HB5.out)) (HR2.out.keeps (Keeps.of_below HB5.out)) HB5.out.size (fun u hu => HID.out u (prune_uses H0.out u hu))).mono ?_
    rintro e w6 ⟨x2, z, rfl, hci2, hb⟩
    obtain ⟨k1, k2⟩ := prune_checks H0.out HOR.out HG0.out HCI.out hci2
    have HB6 := hideI (HB2.out.trans ((HB5.out.mono HB2.out.size).trans (hb.mono (Nat.le_trans HB2.out.size HB5.out.size))))
    have hz4 : (z != 4) = true := bne_iff_ne.2 k1
    clear hb hci2 y0 y1 y2 y3 HCI
    rcases k2 with rfl | rfl
    · go_wp2
      go_ret
      exact ⟨by simp, HB6.out⟩
    · have hzz : (z == z) = true := beq_self_eq_true z
      by_cases h4 : z = 4
      · exact absurd h4 k1
      · have hz5 : (z == 4) = false := beq_eq_false_iff_ne.2 h4
        clear k1 h4
        go_wp2
        go_ret
        exact ⟨by simp, HB6.out⟩

theorem walk (f : FuncM) (pv bv : Value) (w : World) (hF : FnIn w f pv bv) :
    Calls Try.prog 12 #[.agg #[pv, .int .i64 f.arrays, .int .i64 f.cells, bv]] w fun e w' => e = .returned (.bool true) ∧ Below w.heap.size w w' := by
  by_cases h : ∃ o, StrictM f o
  · obtain ⟨o, ho⟩ := h
    exact walk_strict f o pv bv w hF ho
  · exact walk_no f pv bv w hF h

set_option maxRecDepth 100000 in
theorem lifted (os : Os) (started : os.Started) (H : Type) (enc : TypeId × Value → H) :
    ReturnsInHanded {} Try.checked os 12 .any (Rows.strictPrunesSpec.pre6 enc Try.prog Try.f12 Rows.strictPrunesRow.domain false) (Rows.strictPrunesSpec.post enc Try.prog Try.f12 false true false false) := by
  refine returnsInHanded_of_change_sized (C := Try.checked) own started (by kernel_rfl) Try.func12
    (ChangeSpec.witness6 (enc := enc) (C := Try.checked) false ⟨#[], #[.agg #[.slice none 0 0, .int .i64 0, .int .i64 0, .slice none 0 0]], []⟩ 8 (by kernel_rfl) (by kernel_rfl) (by kernel_rfl) (by kernel_rfl)) ?_
  intro W base args ds gs before hval0 hW hcnd hsz _
  have hval : ∀ (j : Nat) t v, Try.f12.params[j]? = some t → args[j]? = some v → Value.okWide Try.prog W .any base t v := hval0
  have hW' := hW
  obtain ⟨p, q, hA0, hV, rfl, hfz, hnd⟩ := hW
  have hA : DataW.TrodAll enc Try.prog W 0 (fun _ => true) true Try.f12.params.toList args.toList ds p := hA0
  rw [Try.params12] at hA hval
  obtain ⟨v0, vs0, d0, ds0, p0, q0, hargs, rfl, rfl, h0, r0⟩ := trodAll_cons hA
  obtain ⟨rfl, rfl, rfl⟩ := trodAll_nil r0
  obtain rfl : args = #[v0] := by cases args; simp_all
  obtain ⟨rfl, rfl⟩ := trodVars_none hV
  obtain ⟨f, pv, bv, rfl, hF⟩ := open_func (hval 0 25 v0 rfl rfl) h0 hsz (j := 0) rfl rfl
  clear hA0 hval0
  refine (walk f pv bv W hF).mono fun e W' ⟨he, hg⟩ => ?_
  subst he
  exact ⟨_, rfl, law_post (by kernel_rfl) hW' rfl (by kernel_rfl) Try.underlying4 rfl rfl rfl (by rw [Try.params12]; decide +kernel) hg⟩

theorem over : Rows.strictPrunesRow.holds Try.pinned (OpenSpec.ofChange Rows.strictPrunesSpec) :=
  OpenClaim.holds_of_wide 12 Try.f12 rfl rfl rfl rfl rfl rfl rfl ⟨rfl, rfl, rfl, rfl, rfl⟩ rfl rfl rfl rfl rfl (by kernel_rfl) Try.func12 (by kernel_rfl)
    (of_decide_eq_true (by kernel_rfl)) (by unfold Func.isWrapper; first | (rw [if_pos (by decide +kernel)]; kernel_rfl) | (rw [if_neg (by decide +kernel)]; exact ⟨rfl, rfl⟩))
    (fun os started H enc _ => lifted os started H enc)

theorem proved : Rows.StrictPrunesSaid := over
#print axioms proved
end Go.Proofs.Ytocnlclighonfaa.strictPrunes
