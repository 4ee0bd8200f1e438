/- GraphPrunes: for every function f, in whatever memory it lies, the program's Prune and the document's answer give the same error and the same function. No condition. -/
import Derived.Test.YtncmnbchkabgaaaPkGraphPrunes15
namespace Go.Proofs.Ytncmnbchkabgaaa.graphPrunes
open Go.ChangeShapes Go.WideShapes Go.ChangeAt Go.RowKit Go.Maps

/-- an error, and a function that can be read -/
def SpR (g : FuncM) (c : Int) (w : World) (e : Ending) (w' : World) : Prop :=
  ∃ (A : Option Addr) (ca : Nat) (A' : Option Addr) (cb : Nat), e = .returned (.tuple #[.agg #[.slice A g.params.length ca, .int .i64 g.arrays, .int .i64 g.cells, .slice A' g.blocks.length cb], .int .i64 c]) ∧
    Ints w' w'.heap.size (.slice A g.params.length ca) g.params ∧ BlocksR w' w'.heap.size (.slice A' g.blocks.length cb) g.blocks ∧ Below w.heap.size w w'

/-- the one answer there is -/
def Answer (f : FuncM) (g : FuncM) (c : Int) : Prop :=
  ((lookM f).1 ≠ 0 ∧ c = (lookM f).1 ∧ g = ⟨[], 0, 0, []⟩) ∨ ((lookM f).1 = 0 ∧ ∃ o, OrderIs f.blocks o ∧ c = (lookM (pruneM (inO o) f)).1 ∧ g = if c = 0 then pruneM (inO o) f else ⟨[], 0, 0, []⟩)

theorem answer_exists (f : FuncM) : ∃ g c, Answer f g c := by
  by_cases h : (lookM f).1 = 0
  · obtain ⟨o, ho⟩ := order_exists h
    exact ⟨_, _, .inr ⟨h, o, ho, rfl, rfl⟩⟩
  · exact ⟨_, _, .inl ⟨h, rfl, rfl⟩⟩

theorem spr_of {f g : FuncM} {c : Int} {w w' : World} {e : Ending} (ha : Answer f g c) (h : GPrunePost f w e w') : SpR g c w e w' := by
  rcases h with ⟨c1, hc1, hor, rfl, hb⟩ | ⟨h0, o, A, ca, A', cb, ho, hg0, rfl, r1, r2, hb⟩
  · have hz : c = c1 ∧ g = ⟨[], 0, 0, []⟩ := by
      rcases ha with ⟨h1, rfl, rfl⟩ | ⟨h1, o, ho, rfl, rfl⟩
      · rcases hor with ⟨_, e⟩ | ⟨h2, _⟩
        · exact ⟨e.symm, rfl⟩
        · exact absurd h2 h1
      · rcases hor with ⟨h2, _⟩ | ⟨_, o2, ho2, e⟩
        · exact absurd h1 h2
        · obtain rfl := ho2.one ho
          exact ⟨e.symm, if_neg (by rw [← e]; exact hc1)⟩
    obtain ⟨rfl, rfl⟩ := hz
    exact ⟨none, 0, none, 0, rfl, Ints.nil _ _, ⟨none, 0, rfl, by simp, fun k b hk => by simp at hk⟩, hb⟩
  · rcases ha with ⟨h1, _⟩ | ⟨_, o2, ho2, rfl, rfl⟩
    · exact absurd h0 h1
    · obtain rfl := ho2.one ho
      rw [hg0, if_pos rfl]
      exact ⟨A, ca, A', cb, rfl, r1, r2, hb⟩

set_option maxRecDepth 100000 in
set_option maxHeartbeats 4000000 in
theorem walk (f : FuncM) (pv bv : Value) (w : World) (hF : FnIn w f pv bv) :
    Calls Try.prog 3 #[.agg #[pv, .int .i64 f.arrays, .int .i64 f.cells, bv]] w fun e w' => e = .returned (.bool true) ∧ Below w.heap.size w w' := by
  have HF := hideI hF
  have HID := hideI (uses_i64 hF.ok)
  obtain ⟨P, pc, hpv, _⟩ := hF.par
  obtain ⟨A, cc, hbv, _⟩ := hF.blk
  subst hpv hbv
  obtain ⟨g, c, hgc⟩ := answer_exists f
  have HG := hideI hgc
  have hself : (c == c) = true := beq_self_eq_true _
  have HB : Hid (Below w.heap.size w (w.alloc (.cells #[.slice P f.params.length pc, .int .i64 f.arrays, .int .i64 f.cells, .slice A f.blocks.length cc] 25))) := (Below.refl _ w).alloc (Nat.le_refl _) _
  have HX := hideI (heap_alloc_new w (.cells #[.slice P f.params.length pc, .int .i64 f.arrays, .int .i64 f.cells, .slice A f.blocks.length cc] 25))
  obtain ⟨W1, hW1⟩ : ∃ W1, W1 = w.alloc (.cells #[.slice P f.params.length pc, .int .i64 f.arrays, .int .i64 f.cells, .slice A f.blocks.length cc] 25) := ⟨_, rfl⟩
  rw [← hW1] at HB HX
  have HW1 := hideI hW1
  have hx := row_cells HX.out rfl
  have q0 := hx 0
  have q1 := hx 1
  have q2 := hx 2
  have q3 := hx 3
  clear hF hx hgc hW1
  go_enter Try.func3, Try.ntmps3
  go_upto_region 1 with fail
  rw [← HW1.out]
  go_wp2_with (first
    | (go_at_call 5; go_loud (refine (gPrune_any f w.heap.size _ _ W1 (HF.out.par.keeps (Keeps.of_below HB.out)) (HF.out.blk.keeps (Keeps.of_below HB.out)) HB.out.size HID.out).mono ?_; intro e w2 hpost; obtain ⟨A2, c2, A3, c3, he, hr1, hr2, hb⟩ := spr_of HG.out hpost; subst he; have HB2 := hideI (HB.out.trans (hb.mono HB.out.size)); have HR1 := hideI hr1; have HR2 := hideI hr2; have HX2 := hideI ((hb.block _ (lt_of_heap HX.out)).trans HX.out); have HX3 := hideI ((Below.heap_alloc w2 (.cells #[.slice A2 g.params.length c2, .int .i64 g.arrays, .int .i64 g.cells, .slice A3 g.blocks.length c3] 25) _ (lt_of_heap HX2.out)).trans HX2.out); have HY := hideI (heap_alloc_new w2 (.cells #[.slice A2 g.params.length c2, .int .i64 g.arrays, .int .i64 g.cells, .slice A3 g.blocks.length c3] 25)); have hx := row_cells HX3.out rfl; clear q0 q1 q2 q3; have q0 := hx 0; have q1 := hx 1; have q2 := hx 2; have q3 := hx 3; have HB3 := hideI (HB2.out.alloc HB2.out.size (.cells #[.slice A2 g.params.length c2, .int .i64 g.arrays, .int .i64 g.cells, .slice A3 g.blocks.length c3] 25)); have HBA := hideI ((Below.refl _ w2).alloc (Nat.le_refl _) (.cells #[.slice A2 g.params.length c2, .int .i64 g.arrays, .int .i64 g.cells, .slice A3 g.blocks.length c3] 25)); clear hpost hr1 hr2 hb hx))
    | (go_at_call 6; go_loud (refine (refPrune_any f w.heap.size _ _ _ (HF.out.par.keeps (Keeps.of_below HB3.out)) (HF.out.blk.keeps (Keeps.of_below HB3.out)) HB3.out.size).mono ?_; intro e w4 hpost; obtain ⟨A4, c4, A5, c5, he, hs1, hs2, hb⟩ := spr_of HG.out hpost; subst he; have HB4 := hideI (HB3.out.trans (hb.mono HB3.out.size)); have HBA4 := hideI (HBA.out.trans (hb.mono HBA.out.size)); have HS1 := hideI hs1; have HS2 := hideI hs2; have HY4 := hideI ((hb.block _ (lt_of_heap HY.out)).trans HY.out); have HZ := hideI (heap_alloc_new w4 (.cells #[.slice A4 g.params.length c4, .int .i64 g.arrays, .int .i64 g.cells, .slice A5 g.blocks.length c5] 25)); have HB5 := hideI (HB4.out.alloc HB4.out.size (.cells #[.slice A4 g.params.length c4, .int .i64 g.arrays, .int .i64 g.cells, .slice A5 g.blocks.length c5] 25)); have HBA5 := hideI (HBA4.out.alloc HBA4.out.size (.cells #[.slice A4 g.params.length c4, .int .i64 g.arrays, .int .i64 g.cells, .slice A5 g.blocks.length c5] 25)); have HBC5 := hideI ((Below.refl _ w4).alloc (Nat.le_refl _) (.cells #[.slice A4 g.params.length c4, .int .i64 g.arrays, .int .i64 g.cells, .slice A5 g.blocks.length c5] 25)); have HY5 := hideI ((Below.heap_alloc w4 (.cells #[.slice A4 g.params.length c4, .int .i64 g.arrays, .int .i64 g.cells, .slice A5 g.blocks.length c5] 25) _ (lt_of_heap HY4.out)).trans HY4.out); clear hpost hs1 hs2 hb q0 q1 q2 q3))
    | (go_at_call 7; go_loud (refine (awake3_any _).mono ?_; rintro e w5 ⟨rfl, hb⟩; have HB6 := hideI (HB5.out.trans (hb.mono HB5.out.size)); have HBA6 := hideI (HBA5.out.trans (hb.mono HBA5.out.size)); have HBC6 := hideI (HBC5.out.trans (hb.mono HBC5.out.size)); have hy := row_cells HY5.out (hb.block _ (lt_of_heap HY5.out)); have y0 := hy 0; have y1 := hy 1; have y2 := hy 2; have y3 := hy 3; have hz := row_cells HZ.out (hb.block _ (lt_of_heap HZ.out)); have z0 := hz 0; have z1 := hz 1; have z2 := hz 2; have z3 := hz 3; clear hb hy hz))
    | (go_at_call 8; go_loud (refine (same_yes g w5.heap.size _ _ _ _ w5 ((HR1.out.keeps (Keeps.of_below HBA6.out)).more HBA6.out.size) ((HR2.out.keeps (Keeps.of_below HBA6.out)).more' HBA6.out.size) ((HS1.out.keeps (Keeps.of_below HBC6.out)).more HBC6.out.size) ((HS2.out.keeps (Keeps.of_below HBC6.out)).more' HBC6.out.size) (Nat.le_refl _)).mono ?_; rintro e w6 ⟨rfl, hb⟩; have HB7 := hideI (HB6.out.trans (hb.mono HB6.out.size)); clear hb y0 y1 y2 y3 z0 z1 z2 z3)))
  go_ret
  exact ⟨rfl, HB7.out⟩

set_option maxRecDepth 100000 in
theorem lifted (os : Os) (started : os.Started) (H : Type) (enc : TypeId × Value → H) :
    ReturnsInHanded {} Try.checked os 3 .any (Rows.graphPrunesSpec.pre6 enc Try.prog Try.f3 Rows.graphPrunesRow.domain false) (Rows.graphPrunesSpec.post enc Try.prog Try.f3 false true false false) := by
  refine returnsInHanded_of_change_sized (C := Try.checked) own started (by kernel_rfl) Try.func3
    (ChangeSpec.witness6 (enc := enc) (C := Try.checked) false ⟨#[], #[.agg #[.slice none 0 0, .int .i64 0, .int .i64 0, .slice none 0 0]], []⟩ 8 (by kernel_rfl) (by kernel_rfl) (by kernel_rfl) (by kernel_rfl)) ?_
  intro W base args ds gs before hval0 hW hcnd hsz _
  have hval : ∀ (j : Nat) t v, Try.f3.params[j]? = some t → args[j]? = some v → Value.okWide Try.prog W .any base t v := hval0
  have hW' := hW
  obtain ⟨p, q, hA0, hV, rfl, hfz, hnd⟩ := hW
  have hA : DataW.TrodAll enc Try.prog W 0 (fun _ => true) true Try.f3.params.toList args.toList ds p := hA0
  rw [Try.params3] at hA hval
  obtain ⟨v0, vs0, d0, ds0, p0, q0, hargs, rfl, rfl, h0, r0⟩ := trodAll_cons hA
  obtain ⟨rfl, rfl, rfl⟩ := trodAll_nil r0
  obtain rfl : args = #[v0] := by cases args; simp_all
  obtain ⟨rfl, rfl⟩ := trodVars_none hV
  obtain ⟨f, pv, bv, rfl, hF⟩ := open_func (hval 0 25 v0 rfl rfl) h0 hsz (j := 0) rfl rfl
  clear hA0 hval0
  refine (walk f pv bv W hF).mono fun e W' ⟨he, hg⟩ => ?_
  subst he
  exact ⟨_, rfl, law_post (by kernel_rfl) hW' rfl (by kernel_rfl) Try.underlying4 rfl rfl rfl (by rw [Try.params3]; decide +kernel) hg⟩

theorem over : Rows.graphPrunesRow.holds Try.pinned (OpenSpec.ofChange Rows.graphPrunesSpec) :=
  OpenClaim.holds_of_wide 3 Try.f3 rfl rfl rfl rfl rfl rfl rfl ⟨rfl, rfl, rfl, rfl, rfl⟩ rfl rfl rfl rfl rfl (by kernel_rfl) Try.func3 (by kernel_rfl)
    (of_decide_eq_true (by kernel_rfl)) (by unfold Func.isWrapper; first | (rw [if_pos (by decide +kernel)]; kernel_rfl) | (rw [if_neg (by decide +kernel)]; exact ⟨rfl, rfl⟩))
    (fun os started H enc _ => lifted os started H enc)

theorem proved : Rows.GraphPrunesSaid := over
#print axioms proved
end Go.Proofs.Ytncmnbchkabgaaa.graphPrunes
