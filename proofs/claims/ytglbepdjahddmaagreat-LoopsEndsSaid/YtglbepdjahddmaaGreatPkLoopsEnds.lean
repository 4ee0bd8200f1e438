/- LoopsEnds: for every function and every input, where no block is odd, a block that a run comes to twice lies in a loop. No condition. -/
import Derived.Test.YtglbepdjahddmaaGreatPkLoopsEnds17
import Derived.Deep.DeepCutAuto
namespace Go.Proofs.YtglbepdjahddmaaGreat.loopsEnds
open Go.ChangeShapes Go.WideShapes Go.ChangeAt Go.RowKit Go.Maps

/-- Run of what was handed in, at any later world -/
theorem runs_at {f : FuncM} {I : InM} {pv bv av rv : Value} {w : World} (hF : FnIn w f pv bv) (hI : InIn w I av rv) (F : Nat) (W : World) (hW : Below w.heap.size w W) :
    Calls Tryz.prog 17 #[.agg #[pv, .int .i64 f.arrays, .int .i64 f.cells, bv], .agg #[av, rv], .int .i64 F] W (RunR f I F W) :=
  irun_read f I w.heap.size pv bv av rv F W (hF.par.keeps (Keeps.of_below hW)) (hF.blk.keeps (Keeps.of_below hW)) hW.size (uses_i64 hF.ok) (hI.args.keeps (Keeps.of_below hW)) (hI.arrs.keeps (Keeps.of_below hW))

theorem vis_cell {s : StM} {b : Nat} : s.vis[b]?.getD 0 = visM s b := by
  unfold visM
  rw [List.getD_eq_getElem?_getD]

theorem strict_is {f : FuncM} {o : List Nat} (h : StrictM f o) : CheckIs f (0, 0) :=
  .inr ⟨h.look, o, h.order, .inr (.inr (.inr ⟨h.come, h.phis, h.uses, rfl⟩))⟩

theorem one_dom {bs : List BlockM} {o : List Nat} {D L D' L' : Nat → Nat → Bool} (F : LoopF bs o D L) (F' : LoopF bs o D' L') : D = D' ∧ L = L' := by
  constructor
  · funext a b
    rw [Bool.eq_iff_iff, F.dom, F'.dom]
  · funext a b
    rw [Bool.eq_iff_iff, F.inL, F'.inL]

theorem succ_lt {f : FuncM} (h : (lookM f).1 = 0) (x y : Nat) (e : y ∈ succM f.blocks x) : y < f.blocks.length := by
  unfold succM at e
  cases hq : f.blocks[x]? with
  | none => rw [hq] at e; simp at e
  | some q =>
    rw [hq] at e
    obtain ⟨t, ht, rfl⟩ := List.mem_map.1 e
    have := look_ends h q (List.mem_of_getElem? hq) t ht
    omega

/-- what is so of a block that a run comes to twice -/
theorem ends_deep {f : FuncM} {I : InM} {F : Nat} {s : StM} {en : EndM} {o o' : List Nat} {pl pl' : Nat → Nat} {par par' : Nat → Option Nat} {D L D' L' : Nat → Nat → Bool} (hc : CheckIs f (0, 0)) (he : EndIs f I (min F 200000) s en) (K : LoopsOf f o pl par D L) (K' : LoopsOf f o' pl' par' D' L') (hno : oddsM f.blocks D' pl' = []) (b : Nat) (hb : b < f.blocks.length) (hv : 2 ≤ visM s b) :
    1 ≤ depM (loopsM f.blocks D L) (loopsM f.blocks D L).length [] 0 b := by
  obtain ⟨y, h1, h2⟩ := cyc_end hc he b hv
  obtain rfl := K.strict.order.one K'.strict.order
  obtain ⟨rfl, rfl⟩ := one_dom K.ok.fn K'.ok.fn
  obtain ⟨h, h3, h4, h5⟩ := loop_of_cycle K'.ok hno hb (succ_lt K.strict.look) h1 h2
  exact depth_pos K.ok h3 h4 h5

set_option maxRecDepth 100000 in
set_option maxHeartbeats 4000000 in
theorem walk (f : FuncM) (I : InM) (pv bv av rv : Value) (w : World) (hF : FnIn w f pv bv) (hI : InIn w I av rv) :
    Calls Tryz.prog 4 #[.agg #[pv, .int .i64 f.arrays, .int .i64 f.cells, bv], .agg #[av, rv]] w fun e w' => e = .returned (.bool true) ∧ Below w.heap.size w w' := by
  have HFI := hideI hF
  obtain ⟨W2, hW2⟩ : ∃ W2, W2 = ((w.alloc (.cells #[pv, .int .i64 f.arrays, .int .i64 f.cells, bv] 25)).alloc (.cells #[av, rv] 41)) := ⟨_, rfl⟩
  have hb2 : Below w.heap.size w W2 := by rw [hW2]; exact ((Below.refl _ w).alloc (Nat.le_refl _) _).alloc (by simp) _
  have hs2 : W2.heap.size = w.heap.size + 2 := by rw [hW2]; simp
  have hf0 : W2.heap[w.heap.size]? = some (.cells #[pv, .int .i64 f.arrays, .int .i64 f.cells, bv] 25 (0, 0)) := by
    rw [hW2, Below.heap_alloc _ _ _ (by simp)]
    exact heap_alloc_new w _
  have hf1 : W2.heap[w.heap.size + 1]? = some (.cells #[av, rv] 41 (0, 0)) := by
    rw [hW2]
    have := heap_alloc_new (w.alloc (.cells #[pv, .int .i64 f.arrays, .int .i64 f.cells, bv] 25)) (.cells #[av, rv] 41)
    simpa using this
  have HC0 : Hid (∀ W, Below W2.heap.size W2 W → ∀ o, W.cell? ⟨w.heap.size, o, none⟩ = (#[pv, .int .i64 f.arrays, .int .i64 f.cells, bv] : Array Value)[o]?) := hideI fun W hW => row_cells hf0 (hW.block _ (by omega))
  have HC1 : Hid (∀ W, Below W2.heap.size W2 W → ∀ o, W.cell? ⟨w.heap.size + 1, o, none⟩ = (#[av, rv] : Array Value)[o]?) := hideI fun W hW => row_cells hf1 (hW.block _ (by omega))
  have HR : Hid (∀ (F : Nat) W, Below W2.heap.size W2 W → Calls Tryz.prog 17 #[.agg #[pv, .int .i64 f.arrays, .int .i64 f.cells, bv], .agg #[av, rv], .int .i64 F] W (RunR f I F W)) := hideI fun F W hW => runs_at hF hI F W (hb2.trans (hW.mono (by omega)))
  have HD : Hid (∀ W, Below W2.heap.size W2 W → Calls Tryz.prog 10 #[.agg #[pv, .int .i64 f.arrays, .int .i64 f.cells, bv]] W (DepthsPost f W)) := hideI fun W hW => by
    have hb := hb2.trans (hW.mono (by omega))
    exact lDepths_any f w.heap.size pv bv W (hF.par.keeps (Keeps.of_below hb)) (hF.blk.keeps (Keeps.of_below hb)) hb.size (uses_i64 hF.ok)
  have HOD : Hid (∀ W, Below W2.heap.size W2 W → Calls Tryz.prog 11 #[.agg #[pv, .int .i64 f.arrays, .int .i64 f.cells, bv]] W (OddPost f W)) := hideI fun W hW => by
    have hb := hb2.trans (hW.mono (by omega))
    exact lOddT_any f w.heap.size pv bv W (hF.par.keeps (Keeps.of_below hb)) (hF.blk.keeps (Keeps.of_below hb)) hb.size (uses_i64 hF.ok)
  have HW2 := hideI hW2
  have HB2 := hideI hb2
  clear hF hI hW2 hb2 hs2 hf0 hf1
  go_enter Tryz.func4, Tryz.ntmps4
  go_upto_region 1 with fail
  rw [← HW2.out]
  have q := HC0.out W2 (Below.refl _ _)
  have q0 := q 0
  have q1 := q 1
  have q2 := q 2
  have q3 := q 3
  have r := HC1.out W2 (Below.refl _ _)
  have r0 := r 0
  have r1 := r 1
  clear q r
  go_upto_region 2 with (first
    | (go_at_call 17; go_must (refine (HR.out 500 _ (Below.refl _ _)).mono ?_); rintro e w3 ⟨v, s, ⟨e0, e3, e4⟩, rfl, hr, ht, hb⟩; have HRS := hideI hr; have HB3 := hideI hb; obtain ⟨ov, av1, vv, rfl, ⟨A1, c1, rfl, hl1, k1⟩, ⟨A2, c2, rfl, hl2, k2⟩, ⟨A3, c3, rfl, hl3, k3⟩⟩ := ht; have K3 := hideI k3; clear hr hb q0 q1 q2 q3 r0 r1 hl1 k1 hl2 k2 hl3 k3))
  obtain ⟨W4, hW4⟩ : ∃ W4, W4 = w3.alloc (.cells #[.int .i64 e0, .int .i64 e3, .int .i64 e4, .slice A1 s.out.length c1, .slice A2 s.arrs.length c2, .int .i64 s.steps, .int .i64 s.checks, .slice A3 s.vis.length c3] 43) := ⟨_, rfl⟩
  rw [← hW4]
  have hb4 : Below w3.heap.size w3 W4 := by rw [hW4]; exact (Below.refl _ w3).alloc (Nat.le_refl _) _
  have HBn : Hid (Below W2.heap.size W2 W4) := hideI (HB3.out.trans (hb4.mono HB3.out.size))
  have hg1 : W4.heap[w3.heap.size]? = some (.cells #[.int .i64 e0, .int .i64 e3, .int .i64 e4, .slice A1 s.out.length c1, .slice A2 s.arrs.length c2, .int .i64 s.steps, .int .i64 s.checks, .slice A3 s.vis.length c3] 43 (0, 0)) := by rw [hW4]; exact heap_alloc_new w3 _
  have HK4 : Hid (∀ W, Below W4.heap.size W4 W → ∀ k, k < s.vis.length → ∃ b off, A3 = some ⟨b, off, none⟩ ∧ W.cell? ⟨b, off + k, none⟩ = some (.int .i64 (s.vis[k]?.getD 0))) := hideI fun W hW k hk => by
    obtain ⟨b, off, h1, h2, h3⟩ := K3.out k hk
    exact ⟨b, off, h1, (hW.cell (Nat.lt_of_lt_of_le h2 hb4.size)).trans ((hb4.cell h2).trans h3)⟩
  obtain ⟨g1, hgg⟩ : ∃ g, g = w3.heap.size := ⟨_, rfl⟩
  rw [← hgg] at hg1 ⊢
  have hg1l : g1 < W4.heap.size := (Array.getElem?_eq_some_iff.1 hg1).1
  have HX1 : Hid (∀ W, Below W4.heap.size W4 W → ∀ o, W.cell? ⟨g1, o, none⟩ = (#[.int .i64 e0, .int .i64 e3, .int .i64 e4, .slice A1 s.out.length c1, .slice A2 s.arrs.length c2, .int .i64 s.steps, .int .i64 s.checks, .slice A3 s.vis.length c3] : Array Value)[o]?) := hideI fun W hW => row_cells hg1 (hW.block _ hg1l)
  have HB5 : Hid (Below W4.heap.size W4 W4) := hideI (Below.refl _ _)
  have q := HC0.out _ HBn.out
  have q0 := q 0
  have q1 := q 1
  have q2 := q 2
  have q3 := q 3
  clear q
  clear hW4 hb4 hg1 hgg K3
  rcases HRS.out with ⟨hchk, hend⟩ | ⟨hno, hs, hen⟩
  · obtain ⟨_, o0, hst⟩ := strict_of hchk
    have HST := hideI hst
    have HCHK := hideI hchk
    have HEND := hideI hend
    have hv := vis_end hchk hend
    have HVL := hideI hv.len
    have hn5 := (look_some_block hst.look).2
    have hne : (e0 == 6) = false := by
      have h5 : e0 ≤ 5 := (end_ok hend).hi
      simp
      omega
    clear hchk hend hst hv
    go_upto_region 3 with (go_at_call 10; go_must (refine (HD.out _ HBn.out).mono ?_); rintro e w5 (⟨x, y, hci, hy, _⟩ | ⟨o, pl, par, D, L, gd, hk, rfl, hown, hb⟩); (exact absurd (Prod.mk.inj (HST.out.check hci)).2 hy); have HK := hideI hk; have HOW := hideI hown; replace HBn := hideI (HBn.out.trans (hb.mono HBn.out.size)); replace HB5 := hideI (HB5.out.trans (hb.mono HB5.out.size)); clear hb hk hown q0 q1 q2 q3; have q := HC0.out _ HBn.out; have q0 := q 0; have q1 := q 1; have q2 := q 2; have q3 := q 3; clear q)
    go_upto_region 4 with (go_at_call 11; go_must (refine (HOD.out _ HBn.out).mono ?_); rintro e w6 (⟨x, y, hci, hy, _⟩ | ⟨o', pl', par', D', L', vo, hk, rfl, hown, hb⟩); (exact absurd (Prod.mk.inj (HST.out.check hci)).2 hy); have HK2 := hideI hk; (obtain ⟨Ao, co, rfl⟩ : ∃ A c, vo = .slice A (oddsM f.blocks D' pl').length c := (own_sl hown)); replace HOW := hideI (own_kept_below HOW.out hb (fun k hk => (HOW.out.lt k hk).2)); replace HBn := hideI (HBn.out.trans (hb.mono HBn.out.size)); replace HB5 := hideI (HB5.out.trans (hb.mono HB5.out.size)); clear hb hk hown q0 q1 q2 q3; have q := HX1.out _ HB5.out; have q0 := q 0; clear q)
    obtain ⟨m, hm⟩ : ∃ m, m = (oddsM f.blocks D' pl').length := ⟨_, rfl⟩
    rw [← hm]
    by_cases hmz : m = 0
    · have hodd : oddsM f.blocks D' pl' = [] := List.eq_nil_of_length_eq_zero (by omega)
      have HDP : Hid (∀ b, b < f.blocks.length → 2 ≤ visM s b → 1 ≤ depM (loopsM f.blocks D L) (loopsM f.blocks D L).length [] 0 b) := hideI fun b hb hv => ends_deep HCHK.out HEND.out HK.out HK2.out hodd b hb hv
      subst hmz
      clear hodd hm
      go_upto_region 7 with (go_at_call 13; refine (awake9_any _).mono ?_; rintro e w7 ⟨rfl, hb⟩; replace HOW := hideI (own_kept_below HOW.out hb (fun k hk => (HOW.out.lt k hk).2)); replace HB5 := hideI (HB5.out.trans (hb.mono HB5.out.size)); replace HBn := hideI (HBn.out.trans (hb.mono HBn.out.size)); clear hb q0; have q := HX1.out _ HB5.out; have q0 := q 0; have q7 := q 7; clear q)
      have HCL : Hid (∀ b, b < s.vis.length → ∃ vb vo, A3 = some ⟨vb, vo, none⟩ ∧ w7.cell? ⟨vb, vo + b, none⟩ = some (.int .i64 (visM s b))) := hideI fun b hb => by
        obtain ⟨vb, vo, h1, h2⟩ := HK4.out w7 HB5.out b hb
        exact ⟨vb, vo, h1, by rw [h2, vis_cell]⟩
      have hvl5 : s.vis.length ≤ 512 := by rw [HVL.out]; exact hn5
      clear q0
      go_loopw [10] (fun u wr => ∃ b : Nat, b ≤ s.vis.length ∧ u = .int .i64 b ∧ wr = w7) (fun u _ => s.vis.length - (intOf u).toNat)
      case atStart => exact ⟨0, Nat.zero_le _, rfl, rfl⟩
      case round =>
        obtain ⟨b, hb, rfl, hw⟩ := hrel
        obtain rfl := hw.symm
        by_cases hlt : b < s.vis.length
        · obtain ⟨vb, vo, rfl, cv⟩ := HCL.out b hlt
          have hbn : b < f.blocks.length := by rw [← HVL.out]; exact hlt
          obtain ⟨v, hv⟩ : ∃ v, v = visM s b := ⟨_, rfl⟩
          rw [← hv] at cv
          obtain ⟨y, hy⟩ : ∃ y, y = depM (loopsM f.blocks D L) (loopsM f.blocks D L).length [] 0 b := ⟨_, rfl⟩
          have cd : w7.cell? ⟨gd, b, none⟩ = some (.int .i64 (y : Int)) := by
            rw [World.ownsRow.cellAt HOW.out b (by omega), hy]
            exact depsR_at hbn
          by_cases hgt : 1 < v
          · have hge : 1 ≤ y := by rw [hy]; exact HDP.out b hbn (by omega)
            have e1 : decide (v > 1) = true := by rw [decide_eq_true_iff]; omega
            have e2 : ((y : Int) == 0) = false := by rw [beq_eq_false_iff_ne]; omega
            clear hv hy hge hgt
            go_wp2
            go_roundw
            case rel => exact ⟨b + 1, by omega, by go_num, by first | rfl | trivial⟩
            case measure => simp [intOf]; omega
          · have e1 : decide (v > 1) = false := by rw [decide_eq_false_iff_not]; omega
            clear hv hy hgt
            go_wp2
            go_roundw
            case rel => exact ⟨b + 1, by omega, by go_num, by first | rfl | trivial⟩
            case measure => simp [intOf]; omega
        · go_wp2
          go_ret
          exact ⟨rfl, HB2.out.trans (HBn.out.mono HB2.out.size)⟩
    · have hmp : decide ((m : Int) > 0) = true := by rw [decide_eq_true_iff]; omega
      go_wp2_with (go_at_call 13; refine (awake9_any _).mono ?_; rintro e w7 ⟨rfl, hb⟩; replace HB5 := hideI (HB5.out.trans (hb.mono HB5.out.size)); replace HBn := hideI (HBn.out.trans (hb.mono HBn.out.size)); clear hb; (try clear q0); have q := HX1.out _ HB5.out; have q0 := q 0; clear q)
      go_ret
      exact ⟨rfl, HB2.out.trans (HBn.out.mono HB2.out.size)⟩
  · have HNG : Hid (∀ o, StrictM f o → False) := fun o h => hno (strict_is h)
    clear hno hs hen
    go_wp2_with (first
      | (go_at_call 10; go_must (refine (HD.out _ HBn.out).mono ?_); rintro e w5 (⟨x, y, hci, hy, rfl, hb⟩ | ⟨o, _, _, _, _, _, hk, _⟩); rotate_left; (exact (HNG.out o hk.strict).elim); have hyb : (y != 0) = true := (by rw [bne_iff_ne]; exact hy); replace HBn := hideI (HBn.out.trans (hb.mono HBn.out.size)); replace HB5 := hideI (HB5.out.trans (hb.mono HB5.out.size)); clear hb hy hci q0 q1 q2 q3; have q := HC0.out _ HBn.out; have q0 := q 0; have q1 := q 1; have q2 := q 2; have q3 := q 3; clear q)
      | (go_at_call 11; go_must (refine (HOD.out _ HBn.out).mono ?_); rintro e w6 (⟨x2, y2, hci, hy, rfl, hb⟩ | ⟨o, _, _, _, _, _, hk, _⟩); rotate_left; (exact (HNG.out o hk.strict).elim); replace HBn := hideI (HBn.out.trans (hb.mono HBn.out.size)); clear hb hy hci q0 q1 q2 q3)
      | (go_at_call 13; refine (awake9_any _).mono ?_; rintro e w7 ⟨rfl, hb⟩; replace HBn := hideI (HBn.out.trans (hb.mono HBn.out.size)); clear hb))
    go_ret
    exact ⟨rfl, HB2.out.trans (HBn.out.mono HB2.out.size)⟩

set_option maxRecDepth 100000 in
theorem lifted (os : Os) (started : os.Started) (H : Type) (enc : TypeId × Value → H) :
    ReturnsInHanded {} Tryz.checked os 4 .any (Rows.loopsEndsSpec.pre6 enc Tryz.prog Tryz.f4 Rows.loopsEndsRow.domain false) (Rows.loopsEndsSpec.post enc Tryz.prog Tryz.f4 false true false false) := by
  refine returnsInHanded_of_change_sized (C := Tryz.checked) own started (by kernel_rfl) Tryz.func4
    (ChangeSpec.witness6 (enc := enc) (C := Tryz.checked) false ⟨#[], #[.agg #[.slice none 0 0, .int .i64 0, .int .i64 0, .slice none 0 0], .agg #[.slice none 0 0, .slice none 0 0]], []⟩ 8 (by kernel_rfl) (by kernel_rfl) (by kernel_rfl) (by kernel_rfl)) ?_
  intro W base args ds gs before hval0 hW hcnd hsz _
  have hval : ∀ (j : Nat) t v, Tryz.f4.params[j]? = some t → args[j]? = some v → Value.okWide Tryz.prog W .any base t v := hval0
  have hW' := hW
  obtain ⟨p, q, hA0, hV, rfl, hfz, hnd⟩ := hW
  have hA : DataW.TrodAll enc Tryz.prog W 0 (fun _ => true) true Tryz.f4.params.toList args.toList ds p := hA0
  rw [Tryz.params4] at hA hval
  obtain ⟨v0, vs0, d0, ds0, p0, q0, hargs, rfl, rfl, h0, r0⟩ := trodAll_cons hA
  obtain ⟨v1, vs1, d1, ds1, p1, q1, rfl, rfl, rfl, h1, r1⟩ := trodAll_cons r0
  obtain ⟨rfl, rfl, rfl⟩ := trodAll_nil r1
  obtain rfl : args = #[v0, v1] := by cases args; simp_all
  obtain ⟨rfl, rfl⟩ := trodVars_none hV
  obtain ⟨f, pv, bv, rfl, hF⟩ := open_func (hval 0 25 v0 rfl rfl) h0 hsz (j := 0) rfl rfl
  obtain ⟨I, av, rv, rfl, hI⟩ := open_input (hval 1 41 v1 rfl rfl) h1 hsz (j := 1) rfl rfl
  clear hA0 hval0
  refine (walk f I pv bv av rv W hF hI).mono fun e W' ⟨he, hg⟩ => ?_
  subst he
  exact ⟨_, rfl, law_post (by kernel_rfl) hW' rfl (by kernel_rfl) Tryz.underlying4 rfl rfl rfl (by rw [Tryz.params4]; decide +kernel) hg⟩

theorem over : Rows.loopsEndsRow.holds Tryz.pinned (OpenSpec.ofChange Rows.loopsEndsSpec) :=
  OpenClaim.holds_of_wide 4 Tryz.f4 rfl rfl rfl rfl rfl rfl rfl ⟨rfl, rfl, rfl, rfl, rfl⟩ rfl rfl rfl rfl rfl (by kernel_rfl) Tryz.func4 (by kernel_rfl)
    (of_decide_eq_true (by kernel_rfl)) (by unfold Func.isWrapper; first | (rw [if_pos (by decide +kernel)]; kernel_rfl) | (rw [if_neg (by decide +kernel)]; exact ⟨rfl, rfl⟩))
    (fun os started H enc _ => lifted os started H enc)

theorem proved : Rows.LoopsEndsSaid := over
#print axioms proved
end Go.Proofs.YtglbepdjahddmaaGreat.loopsEnds
