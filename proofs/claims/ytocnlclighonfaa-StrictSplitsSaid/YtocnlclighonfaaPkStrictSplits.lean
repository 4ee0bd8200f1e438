/- StrictSplits: a strict function with a block in the middle of any of its edges is strict; an edge that is none, or that there is no room for, is told. No condition. -/
import Derived.Test.YtocnlclighonfaaPkS65
namespace Go.Proofs.Ytocnlclighonfaa.strictSplits
open Go.ChangeShapes Go.WideShapes Go.ChangeAt Go.RowKit Go.Maps

theorem u16_nat {x : Int} (h : (Lit.int .u16 x).wf = true) : ∃ a : Nat, x = (a : Int) ∧ a < 65536 := by
  have h3 : IntKind.u16.min ≤ x ∧ x ≤ IntKind.u16.max := by simpa [Lit.wf] using h
  have h4 : 0 ≤ x ∧ x ≤ 65535 := h3
  exact ⟨x.toNat, by omega, by omega⟩

set_option maxRecDepth 100000 in
set_option maxHeartbeats 4000000 in
theorem walk_no (f : FuncM) (pv bv : Value) (a : Int) (kb : Bool) (w : World) (hF : FnIn w f pv bv) (hno : ¬ ∃ o, StrictM f o) :
    Calls Try.prog 11 #[.agg #[pv, .int .i64 f.arrays, .int .i64 f.cells, bv], .int .u16 a, .bool kb] w fun e w' => e = .returned (.bool true) ∧ Below w.heap.size w w' := by
  have HF := hideI hF
  have HID := hideI (uses_i64 hF.ok)
  obtain ⟨P, pc, hpv, _⟩ := hF.par
  obtain ⟨A, cc, hbv, _⟩ := hF.blk
  subst hpv hbv
  have HB : Hid (Below w.heap.size w (w.alloc (.cells #[.slice P f.params.length pc, .int .i64 f.arrays, .int .i64 f.cells, .slice A f.blocks.length cc] 25))) := (Below.refl _ w).alloc (Nat.le_refl _) _
  have HNO := hideI hno
  clear hF hno
  go_enter Try.func11, Try.ntmps11
  go_wp2_with (first
    | (go_at_call 28; go_must (refine (sCheck_any f w.heap.size _ _ _ (HF.out.par.keeps (Keeps.of_below HB.out)) (HF.out.blk.keeps (Keeps.of_below HB.out)) HB.out.size HID.out).mono ?_); rintro e w1 ⟨x, y, rfl, hci, hb⟩; have hy : (y != 0) = true := (by rw [bne_iff_ne]; rintro rfl; exact HNO.out (strict_of hci).2); clear hci; replace HB := hideI (HB.out.trans (hb.mono HB.out.size)); clear hb)
    | (go_at_call 30; refine (awake5_any _).mono ?_; rintro e w5 ⟨rfl, hb⟩; replace HB := hideI (HB.out.trans (hb.mono HB.out.size)); clear hb))
  go_ret
  exact ⟨rfl, HB.out⟩

set_option maxRecDepth 100000 in
set_option maxHeartbeats 4000000 in
theorem walk_yes (f : FuncM) (o : List Nat) (pv bv : Value) (a n : Nat) (kb : Bool) (w : World) (hF : FnIn w f pv bv) (hs : StrictM f o) (ha : a < 65536) (hn : n = if kb then 1 else 0) :
    Calls Try.prog 11 #[.agg #[pv, .int .i64 f.arrays, .int .i64 f.cells, bv], .int .u16 a, .bool kb] w fun e w' => e = .returned (.bool true) ∧ Below w.heap.size w w' := by
  have HF := hideI hF
  have HID := hideI (uses_i64 hF.ok)
  have HFT : Hid (FnFits f) := BlocksR.fits hF.blk
  obtain ⟨P, pc, hpv, _⟩ := hF.par
  obtain ⟨A, cc, hbv, _⟩ := hF.blk
  subst hpv hbv
  have HB : Hid (Below w.heap.size w (w.alloc (.cells #[.slice P f.params.length pc, .int .i64 f.arrays, .int .i64 f.cells, .slice A f.blocks.length cc] 25))) := (Below.refl _ w).alloc (Nat.le_refl _) _
  have HX := hideI (heap_alloc_new w (.cells #[.slice P f.params.length pc, .int .i64 f.arrays, .int .i64 f.cells, .slice A f.blocks.length cc] 25))
  have HS := hideI hs
  obtain ⟨hn0, hn5⟩ := look_some_block hs.look
  obtain ⟨nn, hnn⟩ : ∃ nn, nn = f.blocks.length := ⟨_, rfl⟩
  obtain ⟨x, hx⟩ : ∃ x, x = a % nn := ⟨_, rfl⟩
  have hxl : x < nn := by rw [hx]; exact Nat.mod_lt _ (by omega)
  have hxl : x < f.blocks.length := by omega
  have r1 : Int.tmod (a : Int) (f.blocks.length : Int) = (x : Int) := by rw [← hnn, hx]; rfl
  have s1 : (a : Int) % (f.blocks.length : Int) = (x : Int) := by rw [← hnn, hx]; omega
  have hd1 : ((f.blocks.length : Int) == 0) = false := by rw [beq_eq_false_iff_ne]; omega
  clear hF hs hx hnn
  cases kb
  · rw [if_neg (by decide)] at hn
    subst hn
    go_enter Try.func11, Try.ntmps11
    go_wp2_with (first
      | (go_at_call 28; go_must (refine (sCheck_any f w.heap.size _ _ _ (HF.out.par.keeps (Keeps.of_below HB.out)) (HF.out.blk.keeps (Keeps.of_below HB.out)) HB.out.size HID.out).mono ?_); rintro e w1 ⟨x1, y1, rfl, hci, hb⟩; (obtain ⟨rfl, rfl⟩ := Prod.mk.inj (HS.out.check hci)); clear hci; replace HX := hideI ((hb.block _ (lt_of_heap HX.out)).trans HX.out); have hx := row_cells HX.out rfl; have q0 := hx 0; have q1 := hx 1; have q2 := hx 2; have q3 := hx 3; clear hx; replace HB := hideI (HB.out.trans (hb.mono HB.out.size)); clear hb)
      | (go_at_call 30; refine (awake5_any _).mono ?_; rintro e w5 ⟨rfl, hb⟩; clear q0 q1 q2 q3; replace HX := hideI ((hb.block _ (lt_of_heap HX.out)).trans HX.out); have hx := row_cells HX.out rfl; have q0 := hx 0; have q1 := hx 1; have q2 := hx 2; have q3 := hx 3; clear hx; replace HB := hideI (HB.out.trans (hb.mono HB.out.size)); clear hb))
    refine (gSplit_any f (x : Int) 0 w.heap.size _ _ _ (HF.out.par.keeps (Keeps.of_below HB.out)) (HF.out.blk.keeps (Keeps.of_below HB.out)) HB.out.size HID.out).mono ?_
    rintro e w6 (⟨c1, hc1, hce, rfl, hb6⟩ | ⟨hs1, i, j, v1, base, A1, p1, A2, p2, hi, hj, rfl, k1, k2, ho, hbs, hbs2, hb6⟩)
    · have hne : (c1 != 0) = true := by simpa using hc1
      have HB6 := hideI (HB.out.trans (hb6.mono HB.out.size))
      have hcc : c1 = 9 ∨ c1 = 2 := by
        unfold splitErr at hce
        rw [if_neg (fun h => h HS.out.look)] at hce
        split at hce
        · exact .inl hce.symm
        · split at hce
          · exact .inr hce.symm
          · exact absurd hce.symm hc1
      clear hb6 hce hc1 q0 q1 q2 q3
      rcases hcc with rfl | rfl
      · go_wp2
        go_ret
        exact ⟨rfl, HB6.out.alloc HB6.out.size _⟩
      · go_wp2
        go_ret
        exact ⟨rfl, HB6.out.alloc HB6.out.size _⟩
    · obtain rfl : x = i := by omega
      obtain rfl : 0 = j := by omega
      obtain ⟨hl0, hhas, hl512, hl4096⟩ := splitErr_zero hs1
      obtain ⟨i', j', q, e1, e2, hq, hjq⟩ := hasM_yes hhas
      obtain rfl : x = i' := by omega
      obtain rfl : 0 = j' := by omega
      have hg0 : (lookM (splitM f x 0)).1 = 0 := look_split hl0 hq hjq hl512 hl4096
      have hrd := Owned.reads ho hg0 (split_fits HFT.out)
      rw [k1, k2] at hrd
      have HRD := hideI hrd
      have HB6 := hideI (HB.out.trans (hb6.mono HB.out.size))
      have HL0 := hideI hl0
      have HONE : Hid (∀ r, CheckIs (splitM f x 0) r → r = (0, 0)) := hideI (fun r hr => by
        rcases hr with ⟨hbad, _⟩ | ⟨h1, o', ho', hf⟩
        · exact absurd hg0 hbad
        · exact (HS.out.split hq hjq hg0 ho').check (.inr ⟨h1, o', ho', hf⟩))
      clear hb6 q0 q1 q2 q3 ho hs1 hi hj e1 e2 hl0 hhas hl512 hl4096 hjq hg0 hrd hq k1 k2 hbs hbs2
      go_wp2_with fail
      have HB7a : Hid (Below w6.heap.size w6 (w6.alloc (.cells #[.slice A1 f.params.length p1, .int .i64 f.arrays, .int .i64 f.cells, .slice A2 (f.blocks.length + 1) p2] 25))) := (Below.refl _ w6).alloc (Nat.le_refl _) _
      refine (sCheck_any (splitM f x 0) w6.heap.size _ _ _ (HRD.out.1.keeps (Keeps.of_below HB7a.out)) (HRD.out.2.keeps (Keeps.of_below HB7a.out)) (by simp) (fun u hu => HID.out u (split_uses HL0.out u hu))).mono ?_
      rintro e w7 ⟨x2, y2, rfl, hci, hb7⟩
      obtain ⟨rfl, rfl⟩ := Prod.mk.inj (HONE.out _ hci)
      have HB7 := hideI (HB6.out.trans ((HB7a.out.mono HB6.out.size).trans (hb7.mono (by have := HB6.out.size; simp; omega))))
      clear hb7 hci
      go_wp2
      go_ret
      exact ⟨rfl, HB7.out⟩
  · rw [if_pos rfl] at hn
    subst hn
    go_enter Try.func11, Try.ntmps11
    go_wp2_with (first
      | (go_at_call 28; go_must (refine (sCheck_any f w.heap.size _ _ _ (HF.out.par.keeps (Keeps.of_below HB.out)) (HF.out.blk.keeps (Keeps.of_below HB.out)) HB.out.size HID.out).mono ?_); rintro e w1 ⟨x1, y1, rfl, hci, hb⟩; (obtain ⟨rfl, rfl⟩ := Prod.mk.inj (HS.out.check hci)); clear hci; replace HX := hideI ((hb.block _ (lt_of_heap HX.out)).trans HX.out); have hx := row_cells HX.out rfl; have q0 := hx 0; have q1 := hx 1; have q2 := hx 2; have q3 := hx 3; clear hx; replace HB := hideI (HB.out.trans (hb.mono HB.out.size)); clear hb)
      | (go_at_call 30; refine (awake5_any _).mono ?_; rintro e w5 ⟨rfl, hb⟩; clear q0 q1 q2 q3; replace HX := hideI ((hb.block _ (lt_of_heap HX.out)).trans HX.out); have hx := row_cells HX.out rfl; have q0 := hx 0; have q1 := hx 1; have q2 := hx 2; have q3 := hx 3; clear hx; replace HB := hideI (HB.out.trans (hb.mono HB.out.size)); clear hb))
    refine (gSplit_any f (x : Int) 1 w.heap.size _ _ _ (HF.out.par.keeps (Keeps.of_below HB.out)) (HF.out.blk.keeps (Keeps.of_below HB.out)) HB.out.size HID.out).mono ?_
    rintro e w6 (⟨c1, hc1, hce, rfl, hb6⟩ | ⟨hs1, i, j, v1, base, A1, p1, A2, p2, hi, hj, rfl, k1, k2, ho, hbs, hbs2, hb6⟩)
    · have hne : (c1 != 0) = true := by simpa using hc1
      have HB6 := hideI (HB.out.trans (hb6.mono HB.out.size))
      have hcc : c1 = 9 ∨ c1 = 2 := by
        unfold splitErr at hce
        rw [if_neg (fun h => h HS.out.look)] at hce
        split at hce
        · exact .inl hce.symm
        · split at hce
          · exact .inr hce.symm
          · exact absurd hce.symm hc1
      clear hb6 hce hc1 q0 q1 q2 q3
      rcases hcc with rfl | rfl
      · go_wp2
        go_ret
        exact ⟨rfl, HB6.out.alloc HB6.out.size _⟩
      · go_wp2
        go_ret
        exact ⟨rfl, HB6.out.alloc HB6.out.size _⟩
    · obtain rfl : x = i := by omega
      obtain rfl : 1 = j := by omega
      obtain ⟨hl0, hhas, hl512, hl4096⟩ := splitErr_zero hs1
      obtain ⟨i', j', q, e1, e2, hq, hjq⟩ := hasM_yes hhas
      obtain rfl : x = i' := by omega
      obtain rfl : 1 = j' := by omega
      have hg0 : (lookM (splitM f x 1)).1 = 0 := look_split hl0 hq hjq hl512 hl4096
      have hrd := Owned.reads ho hg0 (split_fits HFT.out)
      rw [k1, k2] at hrd
      have HRD := hideI hrd
      have HB6 := hideI (HB.out.trans (hb6.mono HB.out.size))
      have HL0 := hideI hl0
      have HONE : Hid (∀ r, CheckIs (splitM f x 1) r → r = (0, 0)) := hideI (fun r hr => by
        rcases hr with ⟨hbad, _⟩ | ⟨h1, o', ho', hf⟩
        · exact absurd hg0 hbad
        · exact (HS.out.split hq hjq hg0 ho').check (.inr ⟨h1, o', ho', hf⟩))
      clear hb6 q0 q1 q2 q3 ho hs1 hi hj e1 e2 hl0 hhas hl512 hl4096 hjq hg0 hrd hq k1 k2 hbs hbs2
      go_wp2_with fail
      have HB7a : Hid (Below w6.heap.size w6 (w6.alloc (.cells #[.slice A1 f.params.length p1, .int .i64 f.arrays, .int .i64 f.cells, .slice A2 (f.blocks.length + 1) p2] 25))) := (Below.refl _ w6).alloc (Nat.le_refl _) _
      refine (sCheck_any (splitM f x 1) w6.heap.size _ _ _ (HRD.out.1.keeps (Keeps.of_below HB7a.out)) (HRD.out.2.keeps (Keeps.of_below HB7a.out)) (by simp) (fun u hu => HID.out u (split_uses HL0.out u hu))).mono ?_
      rintro e w7 ⟨x2, y2, rfl, hci, hb7⟩
      obtain ⟨rfl, rfl⟩ := Prod.mk.inj (HONE.out _ hci)
      have HB7 := hideI (HB6.out.trans ((HB7a.out.mono HB6.out.size).trans (hb7.mono (by have := HB6.out.size; simp; omega))))
      clear hb7 hci
      go_wp2
      go_ret
      exact ⟨rfl, HB7.out⟩

theorem walk (f : FuncM) (pv bv : Value) (a : Nat) (kb : Bool) (w : World) (hF : FnIn w f pv bv) (ha : a < 65536) :
    Calls Try.prog 11 #[.agg #[pv, .int .i64 f.arrays, .int .i64 f.cells, bv], .int .u16 a, .bool kb] w fun e w' => e = .returned (.bool true) ∧ Below w.heap.size w w' := by
  by_cases h : ∃ o, StrictM f o
  · obtain ⟨o, ho⟩ := h
    exact walk_yes f o pv bv a _ kb w hF ho ha rfl
  · exact walk_no f pv bv a kb w hF h

set_option maxRecDepth 100000 in
theorem lifted (os : Os) (started : os.Started) (H : Type) (enc : TypeId × Value → H) :
    ReturnsInHanded {} Try.checked os 11 .any (Rows.strictSplitsSpec.pre6 enc Try.prog Try.f11 Rows.strictSplitsRow.domain false) (Rows.strictSplitsSpec.post enc Try.prog Try.f11 false true false false) := by
  refine returnsInHanded_of_change_sized (C := Try.checked) own started (by kernel_rfl) Try.func11
    (ChangeSpec.witness6 (enc := enc) (C := Try.checked) false ⟨#[], #[.agg #[.slice none 0 0, .int .i64 0, .int .i64 0, .slice none 0 0], .int .u16 0, .bool false], []⟩ 8 (by kernel_rfl) (by kernel_rfl) (by kernel_rfl) (by kernel_rfl)) ?_
  intro W base args ds gs before hval0 hW hcnd hsz _
  have hval : ∀ (j : Nat) t v, Try.f11.params[j]? = some t → args[j]? = some v → Value.okWide Try.prog W .any base t v := hval0
  have hW' := hW
  obtain ⟨p, q, hA0, hV, rfl, hfz, hnd⟩ := hW
  have hA : DataW.TrodAll enc Try.prog W 0 (fun _ => true) true Try.f11.params.toList args.toList ds p := hA0
  rw [Try.params11] at hA hval
  obtain ⟨v0, vs0, d0, ds0, p0, q0, hargs, rfl, rfl, h0, r0⟩ := trodAll_cons hA
  obtain ⟨v1, vs1, d1, ds1, p1, q1, rfl, rfl, rfl, h1, r1⟩ := trodAll_cons r0
  obtain ⟨v2, vs2, d2, ds2, p2, q2, rfl, rfl, rfl, h2, r2⟩ := trodAll_cons r1
  obtain ⟨rfl, rfl, rfl⟩ := trodAll_nil r2
  obtain rfl : args = #[v0, v1, v2] := by cases args; simp_all
  obtain ⟨rfl, rfl⟩ := trodVars_none hV
  obtain ⟨f, pv, bv, rfl, hF⟩ := open_func (hval 0 25 v0 rfl rfl) h0 hsz (j := 0) rfl rfl
  obtain ⟨x1, rfl, _, _, w1⟩ := open_int Try.underlying48 (hval 1 48 v1 rfl rfl) h1
  obtain ⟨a, rfl, ha⟩ := u16_nat w1
  obtain ⟨kb, hk2⟩ := open_bool Try.underlying4 (hval 2 4 v2 rfl rfl) h2
  obtain ⟨rfl, _⟩ := hk2
  clear hA0 hval0
  refine (walk f pv bv a kb W hF ha).mono fun e W' ⟨he, hg⟩ => ?_
  subst he
  exact ⟨_, rfl, law_post (by kernel_rfl) hW' rfl (by kernel_rfl) Try.underlying4 rfl rfl rfl (by rw [Try.params11]; decide +kernel) hg⟩

theorem over : Rows.strictSplitsRow.holds Try.pinned (OpenSpec.ofChange Rows.strictSplitsSpec) :=
  OpenClaim.holds_of_wide 11 Try.f11 rfl rfl rfl rfl rfl rfl rfl ⟨rfl, rfl, rfl, rfl, rfl⟩ rfl rfl rfl rfl rfl (by kernel_rfl) Try.func11 (by kernel_rfl)
    (of_decide_eq_true (by kernel_rfl)) (by unfold Func.isWrapper; first | (rw [if_pos (by decide +kernel)]; kernel_rfl) | (rw [if_neg (by decide +kernel)]; exact ⟨rfl, rfl⟩))
    (fun os started H enc _ => lifted os started H enc)

theorem proved : Rows.StrictSplitsSaid := over
#print axioms proved
end Go.Proofs.Ytocnlclighonfaa.strictSplits
