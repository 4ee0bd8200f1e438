/- GraphSplits: for every function f, in whatever memory it lies, and all numbers from and k, the program's Split and the document's answer give the same error and the same function. No condition. -/
import Derived.Test.YtncmnbchkabgaaaPkGraphSplits12
namespace Go.Proofs.Ytncmnbchkabgaaa.graphSplits
open Go.ChangeShapes Go.WideShapes Go.ChangeAt Go.RowKit Go.Maps

/-- an error, and a function that can be read -/
def SpR (g : FuncM) (c : Int) (w : World) (e : Ending) (w' : World) : Prop :=
  ∃ (A : Option Addr) (ca : Nat) (A' : Option Addr) (cb : Nat), e = .returned (.tuple #[.agg #[.slice A g.params.length ca, .int .i64 g.arrays, .int .i64 g.cells, .slice A' g.blocks.length cb], .int .i64 c]) ∧
    Ints w' w'.heap.size (.slice A g.params.length ca) g.params ∧ BlocksR w' w'.heap.size (.slice A' g.blocks.length cb) g.blocks ∧ Below w.heap.size w w'

/-- what a split answers -/
def answer (f : FuncM) (a k : Int) : FuncM := if splitErr f a k = 0 then splitM f a.toNat k.toNat else ⟨[], 0, 0, []⟩

theorem spr_of {f : FuncM} {a k : Int} {w w' : World} {e : Ending} (hf : FnFits f) (h : GSplitPost f a k w e w') : SpR (answer f a k) (splitErr f a k) w e w' := by
  rcases h with ⟨c, hc, h1, rfl, hb⟩ | ⟨h0, i, j, v1, base, A, ca, A', cb, rfl, rfl, rfl, e1, e2, ho, _, _, hb⟩
  · unfold answer
    rw [if_neg (by rw [h1]; exact hc), h1]
    exact ⟨none, 0, none, 0, rfl, Ints.nil _ _, ⟨none, 0, rfl, by simp, fun k b hk => by simp at hk⟩, hb⟩
  · unfold answer
    rw [if_pos h0, h0, Int.toNat_natCast, Int.toNat_natCast]
    obtain ⟨g0, ghas, gl, gs⟩ := splitErr_zero h0
    obtain ⟨i', j', q, e3, e4, hq, hj⟩ := hasM_yes ghas
    obtain rfl : i = i' := by omega
    obtain rfl : j = j' := by omega
    obtain ⟨r1, r2⟩ := ho.reads (look_split g0 hq hj gl gs) (split_fits hf)
    rw [e1] at r1
    rw [e2] at r2
    exact ⟨A, ca, A', cb, by rw [splitM_len]; rfl, r1, by rw [splitM_len]; exact r2, hb⟩

set_option maxRecDepth 100000 in
set_option maxHeartbeats 4000000 in
theorem walk (f : FuncM) (pv bv : Value) (x y : Int) (w : World) (hF : FnIn w f pv bv) :
    Calls Try.prog 4 #[.agg #[pv, .int .i64 f.arrays, .int .i64 f.cells, bv], .int .i64 x, .int .i64 y] w fun e w' => e = .returned (.bool true) ∧ Below w.heap.size w w' := by
  have HF := hideI hF
  have HID := hideI (uses_i64 hF.ok)
  have HFT : Hid (FnFits f) := BlocksR.fits hF.blk
  obtain ⟨P, pc, hpv, _⟩ := hF.par
  obtain ⟨A, cc, hbv, _⟩ := hF.blk
  subst hpv hbv
  obtain ⟨g, hg⟩ : ∃ g, g = answer f x y := ⟨_, rfl⟩
  obtain ⟨c, hc⟩ : ∃ c, c = splitErr f x y := ⟨_, rfl⟩
  have HG := hideI (And.intro hg hc)
  have hself : (c == c) = true := beq_self_eq_true _
  have HB : Hid (Below w.heap.size w (w.alloc (.cells #[.slice P f.params.length pc, .int .i64 f.arrays, .int .i64 f.cells, .slice A f.blocks.length cc] 25))) := (Below.refl _ w).alloc (Nat.le_refl _) _
  have HX := hideI (heap_alloc_new w (.cells #[.slice P f.params.length pc, .int .i64 f.arrays, .int .i64 f.cells, .slice A f.blocks.length cc] 25))
  obtain ⟨W1, hW1⟩ : ∃ W1, W1 = w.alloc (.cells #[.slice P f.params.length pc, .int .i64 f.arrays, .int .i64 f.cells, .slice A f.blocks.length cc] 25) := ⟨_, rfl⟩
  rw [← hW1] at HB HX
  have HW1 := hideI hW1
  have hx := row_cells HX.out rfl
  have q0 := hx 0
  have q1 := hx 1
  have q2 := hx 2
  have q3 := hx 3
  clear hF hx hg hc hW1
  go_enter Try.func4, Try.ntmps4
  go_upto_region 1 with fail
  rw [← HW1.out]
  go_wp2_with (first
    | (go_at_call 9; go_loud (refine (gSplit_any f x y w.heap.size _ _ W1 (HF.out.par.keeps (Keeps.of_below HB.out)) (HF.out.blk.keeps (Keeps.of_below HB.out)) HB.out.size HID.out).mono ?_; intro e w2 hpost; obtain ⟨A2, c2, A3, c3, he, hr1, hr2, hb⟩ := spr_of HFT.out hpost; rw [← HG.out.1, ← HG.out.2] at he; rw [← HG.out.1] at hr1 hr2; subst he; have HB2 := hideI (HB.out.trans (hb.mono HB.out.size)); have HR1 := hideI hr1; have HR2 := hideI hr2; have HX2 := hideI ((hb.block _ (lt_of_heap HX.out)).trans HX.out); have HX3 := hideI ((Below.heap_alloc w2 (.cells #[.slice A2 g.params.length c2, .int .i64 g.arrays, .int .i64 g.cells, .slice A3 g.blocks.length c3] 25) _ (lt_of_heap HX2.out)).trans HX2.out); have HY := hideI (heap_alloc_new w2 (.cells #[.slice A2 g.params.length c2, .int .i64 g.arrays, .int .i64 g.cells, .slice A3 g.blocks.length c3] 25)); have hx := row_cells HX3.out rfl; clear q0 q1 q2 q3; have q0 := hx 0; have q1 := hx 1; have q2 := hx 2; have q3 := hx 3; have HB3 := hideI (HB2.out.alloc HB2.out.size (.cells #[.slice A2 g.params.length c2, .int .i64 g.arrays, .int .i64 g.cells, .slice A3 g.blocks.length c3] 25)); have HBA := hideI ((Below.refl _ w2).alloc (Nat.le_refl _) (.cells #[.slice A2 g.params.length c2, .int .i64 g.arrays, .int .i64 g.cells, .slice A3 g.blocks.length c3] 25)); clear hpost hr1 hr2 hb hx))
    | (go_at_call 10; go_loud (refine (refSplit_any f x y w.heap.size _ _ _ (HF.out.par.keeps (Keeps.of_below HB3.out)) (HF.out.blk.keeps (Keeps.of_below HB3.out)) HB3.out.size).mono ?_; intro e w4 hpost; obtain ⟨A4, c4, A5, c5, he, hs1, hs2, hb⟩ := spr_of HFT.out hpost; rw [← HG.out.1, ← HG.out.2] at he; rw [← HG.out.1] at hs1 hs2; subst he; have HB4 := hideI (HB3.out.trans (hb.mono HB3.out.size)); have HBA4 := hideI (HBA.out.trans (hb.mono HBA.out.size)); have HS1 := hideI hs1; have HS2 := hideI hs2; have HY4 := hideI ((hb.block _ (lt_of_heap HY.out)).trans HY.out); have HZ := hideI (heap_alloc_new w4 (.cells #[.slice A4 g.params.length c4, .int .i64 g.arrays, .int .i64 g.cells, .slice A5 g.blocks.length c5] 25)); have HB5 := hideI (HB4.out.alloc HB4.out.size (.cells #[.slice A4 g.params.length c4, .int .i64 g.arrays, .int .i64 g.cells, .slice A5 g.blocks.length c5] 25)); have HBA5 := hideI (HBA4.out.alloc HBA4.out.size (.cells #[.slice A4 g.params.length c4, .int .i64 g.arrays, .int .i64 g.cells, .slice A5 g.blocks.length c5] 25)); have HBC5 := hideI ((Below.refl _ w4).alloc (Nat.le_refl _) (.cells #[.slice A4 g.params.length c4, .int .i64 g.arrays, .int .i64 g.cells, .slice A5 g.blocks.length c5] 25)); have HY5 := hideI ((Below.heap_alloc w4 (.cells #[.slice A4 g.params.length c4, .int .i64 g.arrays, .int .i64 g.cells, .slice A5 g.blocks.length c5] 25) _ (lt_of_heap HY4.out)).trans HY4.out); clear hpost hs1 hs2 hb q0 q1 q2 q3))
    | (go_at_call 7; go_loud (refine (awake3_any _).mono ?_; rintro e w5 ⟨rfl, hb⟩; have HB6 := hideI (HB5.out.trans (hb.mono HB5.out.size)); have HBA6 := hideI (HBA5.out.trans (hb.mono HBA5.out.size)); have HBC6 := hideI (HBC5.out.trans (hb.mono HBC5.out.size)); have hy := row_cells HY5.out (hb.block _ (lt_of_heap HY5.out)); have y0 := hy 0; have y1 := hy 1; have y2 := hy 2; have y3 := hy 3; have hz := row_cells HZ.out (hb.block _ (lt_of_heap HZ.out)); have z0 := hz 0; have z1 := hz 1; have z2 := hz 2; have z3 := hz 3; clear hb hy hz))
    | (go_at_call 8; go_loud (refine (same_yes g w5.heap.size _ _ _ _ w5 ((HR1.out.keeps (Keeps.of_below HBA6.out)).more HBA6.out.size) ((HR2.out.keeps (Keeps.of_below HBA6.out)).more' HBA6.out.size) ((HS1.out.keeps (Keeps.of_below HBC6.out)).more HBC6.out.size) ((HS2.out.keeps (Keeps.of_below HBC6.out)).more' HBC6.out.size) (Nat.le_refl _)).mono ?_; rintro e w6 ⟨rfl, hb⟩; have HB7 := hideI (HB6.out.trans (hb.mono HB6.out.size)); clear hb y0 y1 y2 y3 z0 z1 z2 z3)))
  go_ret
  exact ⟨rfl, HB7.out⟩

set_option maxRecDepth 100000 in
theorem lifted (os : Os) (started : os.Started) (H : Type) (enc : TypeId × Value → H) :
    ReturnsInHanded {} Try.checked os 4 .any (Rows.graphSplitsSpec.pre6 enc Try.prog Try.f4 Rows.graphSplitsRow.domain false) (Rows.graphSplitsSpec.post enc Try.prog Try.f4 false true false false) := by
  refine returnsInHanded_of_change_sized (C := Try.checked) own started (by kernel_rfl) Try.func4
    (ChangeSpec.witness6 (enc := enc) (C := Try.checked) false ⟨#[], #[.agg #[.slice none 0 0, .int .i64 0, .int .i64 0, .slice none 0 0], .int .i64 0, .int .i64 0], []⟩ 8 (by kernel_rfl) (by kernel_rfl) (by kernel_rfl) (by kernel_rfl)) ?_
  intro W base args ds gs before hval0 hW hcnd hsz _
  have hval : ∀ (j : Nat) t v, Try.f4.params[j]? = some t → args[j]? = some v → Value.okWide Try.prog W .any base t v := hval0
  have hW' := hW
  obtain ⟨p, q, hA0, hV, rfl, hfz, hnd⟩ := hW
  have hA : DataW.TrodAll enc Try.prog W 0 (fun _ => true) true Try.f4.params.toList args.toList ds p := hA0
  rw [Try.params4] at hA hval
  obtain ⟨v0, vs0, d0, ds0, p0, q0, hargs, rfl, rfl, h0, r0⟩ := trodAll_cons hA
  obtain ⟨v1, vs1, d1, ds1, p1, q1, rfl, rfl, rfl, h1, r1⟩ := trodAll_cons r0
  obtain ⟨v2, vs2, d2, ds2, p2, q2, rfl, rfl, rfl, h2, r2⟩ := trodAll_cons r1
  obtain ⟨rfl, rfl, rfl⟩ := trodAll_nil r2
  obtain rfl : args = #[v0, v1, v2] := by cases args; simp_all
  obtain ⟨rfl, rfl⟩ := trodVars_none hV
  obtain ⟨f, pv, bv, rfl, hF⟩ := open_func (hval 0 25 v0 rfl rfl) h0 hsz (j := 0) rfl rfl
  obtain ⟨x, rfl, _, _, w1⟩ := open_int Try.underlying3 (hval 1 3 v1 rfl rfl) h1
  obtain ⟨y, rfl, _, _, w2⟩ := open_int Try.underlying3 (hval 2 3 v2 rfl rfl) h2
  clear hA0 hval0
  refine (walk f pv bv x y W hF).mono fun e W' ⟨he, hg⟩ => ?_
  subst he
  exact ⟨_, rfl, law_post (by kernel_rfl) hW' rfl (by kernel_rfl) Try.underlying4 rfl rfl rfl (by rw [Try.params4]; decide +kernel) hg⟩

theorem over : Rows.graphSplitsRow.holds Try.pinned (OpenSpec.ofChange Rows.graphSplitsSpec) :=
  OpenClaim.holds_of_wide 4 Try.f4 rfl rfl rfl rfl rfl rfl rfl ⟨rfl, rfl, rfl, rfl, rfl⟩ rfl rfl rfl rfl rfl (by kernel_rfl) Try.func4 (by kernel_rfl)
    (of_decide_eq_true (by kernel_rfl)) (by unfold Func.isWrapper; first | (rw [if_pos (by decide +kernel)]; kernel_rfl) | (rw [if_neg (by decide +kernel)]; exact ⟨rfl, rfl⟩))
    (fun os started H enc _ => lifted os started H enc)

theorem proved : Rows.GraphSplitsSaid := over
#print axioms proved
end Go.Proofs.Ytncmnbchkabgaaa.graphSplits
