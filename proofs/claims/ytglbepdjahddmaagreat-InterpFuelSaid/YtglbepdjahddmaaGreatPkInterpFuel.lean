/- InterpFuel: for every function, every input and every two amounts of fuel, the run with more fuel is the run with less where that has ended, and goes on from it where it has not. No condition. -/
import Derived.Test.YtglbepdjahddmaaGreatPkI915
import Derived.Deep.DeepCutAuto
namespace Go.Proofs.YtglbepdjahddmaaGreat.interpFuel
open Go.ChangeShapes Go.WideShapes Go.ChangeAt Go.RowKit Go.Maps

/-- Run of what was handed in, at any later world -/
theorem runs_at {f : FuncM} {I : InM} {pv bv av rv : Value} {w : World} (hF : FnIn w f pv bv) (hI : InIn w I av rv) (F : Nat) (W : World) (hW : Below w.heap.size w W) :
    Calls Tryz.prog 17 #[.agg #[pv, .int .i64 f.arrays, .int .i64 f.cells, bv], .agg #[av, rv], .int .i64 F] W (RunT f I F W) :=
  irun_laid f I w.heap.size pv bv av rv F W (hF.par.keeps (Keeps.of_below hW)) (hF.blk.keeps (Keeps.of_below hW)) hW.size (uses_i64 hF.ok) (hI.args.keeps (Keeps.of_below hW)) (hI.arrs.keeps (Keeps.of_below hW))

/-- where the two runs stand -/
def places : TwoP where
  c := fun j => if j then 7 else 3
  s := fun j => if j then 32 else 28
  a := fun j => if j then 9 else 8
  t := fun j => if j then 12 else 11
  p := fun j => if j then 11 else 10
  known := [(0, 25), (1, 26), (2, 27), (4, 29), (5, 30), (6, 31)]

theorem places_ok : places.Ok := TwoP.ok_of (by decide)

def known (fv iv : Value) (lo hi : Nat) : Nat → Value := fun d => if d = 25 ∨ d = 29 then fv else if d = 26 ∨ d = 30 then iv else if d = 27 then .int .i64 lo else .int .i64 hi

set_option maxRecDepth 100000 in
set_option maxHeartbeats 4000000 in
theorem walk (f : FuncM) (I : InM) (a b : Nat) (pv bv av rv : Value) (w : World) (hF : FnIn w f pv bv) (hI : InIn w I av rv) (ha : a < 65536) (hb : b < 65536) :
    Calls Tryz.prog 6 #[.agg #[pv, .int .i64 f.arrays, .int .i64 f.cells, bv], .agg #[av, rv], .int .u16 a, .int .u16 b] w fun e w' => e = .returned (.bool true) ∧ Below w.heap.size w w' := by
  have HFI := hideI hF
  have HII := hideI hI
  obtain ⟨W2, hW2⟩ : ∃ W2, W2 = ((w.alloc (.cells #[pv, .int .i64 f.arrays, .int .i64 f.cells, bv] 25)).alloc (.cells #[av, rv] 41)) := ⟨_, rfl⟩
  have hb2 : Below w.heap.size w W2 := by rw [hW2]; exact below_two w _ _
  have hs2 : W2.heap.size = w.heap.size + 2 := by rw [hW2]; simp
  have hf0 : W2.heap[w.heap.size]? = some (.cells #[pv, .int .i64 f.arrays, .int .i64 f.cells, bv] 25 (0, 0)) := by
    rw [hW2, Below.heap_alloc _ _ _ (by simp)]
    exact heap_alloc_new w _
  have hf1 : W2.heap[w.heap.size + 1]? = some (.cells #[av, rv] 41 (0, 0)) := by
    rw [hW2]
    have := heap_alloc_new (w.alloc (.cells #[pv, .int .i64 f.arrays, .int .i64 f.cells, bv] 25)) (.cells #[av, rv] 41)
    simpa using this
  have HC0 : Hid (∀ W, Below W2.heap.size W2 W → ∀ o, W.cell? ⟨w.heap.size, o, none⟩ = (#[pv, .int .i64 f.arrays, .int .i64 f.cells, bv] : Array Value)[o]?) := hideI fun W hW => row_cells hf0 (hW.block _ (by omega))
  have HC1 : Hid (∀ W, Below W2.heap.size W2 W → ∀ o, W.cell? ⟨w.heap.size + 1, o, none⟩ = (#[av, rv] : Array Value)[o]?) := hideI fun W hW => row_cells hf1 (hW.block _ (by omega))
  have HR : Hid (∀ (F : Nat) W, Below W2.heap.size W2 W → Calls Tryz.prog 17 #[.agg #[pv, .int .i64 f.arrays, .int .i64 f.cells, bv], .agg #[av, rv], .int .i64 F] W (RunT f I F W)) := hideI fun F W hW => runs_at hF hI F W (hb2.trans (hW.mono (by omega)))
  have HW2 := hideI hW2
  have HB2 := hideI hb2
  have HS2 := hideI hs2
  clear hF hI hW2 hb2 hs2 hf0 hf1
  go_enter Tryz.func6, Tryz.ntmps6
  go_upto_if 22 with fail
  rw [← HW2.out]
  go_cut [9, 10] (fun x y wx => ∃ lo hi : Nat, x = .int .i64 lo ∧ y = .int .i64 hi ∧ Hid (lo ≤ hi ∧ hi < 2000) ∧ wx = W2)
  case first =>
    go_wp2_with fail
    all_goals (go_meet; first | exact ⟨b % 2000, a % 2000, by go_num, by go_num, hideI (by omega), rfl⟩ | exact ⟨a % 2000, b % 2000, by go_num, by go_num, hideI (by omega), rfl⟩)
  case rest =>
    obtain ⟨lo, hi, rfl, rfl, HLH, rfl⟩ := hcut
    go_upto_region 4 with fail
    refine wp_region_env (by kernel_rfl) [25, 26, 27, 28, 29, 30, 31, 32, 11, 12] (RunsF 12 places (known (.agg #[pv, .int .i64 f.arrays, .int .i64 f.cells, bv]) (.agg #[av, rv]) lo hi) (fun j s en => Runs f I (if j then hi else lo) s en) wc) 90 rfl (by decide) (by kernel_rfl) (by kernel_rfl) (by kernel_rfl) (fun e => ?_) (fun L L' e w h => ?_) ?_ (fun e W4 h => ?_)
    · exact TwoF.start wc
    · intro k
      unfold RunsF at k ⊢
      rw [mask_congr (n := 12) fun i hi => (h i hi).symm]
      exact k
    · refine And.intro ?_ (And.intro ?_ (And.intro ?_ (And.intro ?_ (And.intro ?_ (And.intro ?_ (And.intro ?_ (And.intro ?_ (And.intro ?_ (And.intro ?_ (And.intro ?_ (And.intro ?_ trivial)))))))))))
      · exact step_known places_ok (d := 25) (by decide) (by decide) rfl rfl fun a W hW hout => load_func a.eval W _ 4 25 _ _ _ _ _ _ _ _ (hout 4 (by decide)) (HC0.out W hW)
      · exact step_known places_ok (d := 26) (by decide) (by decide) rfl rfl fun a W hW hout => load_input a.eval W _ 5 26 _ _ _ _ _ _ (hout 5 (by decide)) (HC1.out W hW)
      · exact step_known places_ok (d := 27) (by decide) (by decide) rfl rfl fun a W hW hout => (move_run a.eval W _ _ _ _ _ _).trans (by rw [hout 9 (by decide)]; rfl)
      · exact step_run places_ok (j := false) (t1 := 25) (t2 := 26) (t3 := 27) (k1 := 0) (k2 := 1) (k3 := 2) (by decide) rfl rfl rfl (by rfl) (by decide) (by decide) (by decide) (by decide) fun W hW => HR.out lo W hW
      · exact step_known places_ok (d := 29) (by decide) (by decide) rfl rfl fun a W hW hout => load_func a.eval W _ 4 29 _ _ _ _ _ _ _ _ (hout 4 (by decide)) (HC0.out W hW)
      · exact step_known places_ok (d := 30) (by decide) (by decide) rfl rfl fun a W hW hout => load_input a.eval W _ 5 30 _ _ _ _ _ _ (hout 5 (by decide)) (HC1.out W hW)
      · exact step_known places_ok (d := 31) (by decide) (by decide) rfl rfl fun a W hW hout => (move_run a.eval W _ _ _ _ _ _).trans (by rw [hout 10 (by decide)]; rfl)
      · exact step_run places_ok (j := true) (t1 := 29) (t2 := 30) (t3 := 31) (k1 := 4) (k2 := 5) (k3 := 6) (by decide) rfl rfl rfl (by rfl) (by decide) (by decide) (by decide) (by decide) fun W hW => HR.out hi W hW
      · exact step_make places_ok (j := false) (by decide) rfl rfl rfl
      · exact step_make places_ok (j := true) (by decide) rfl rfl rfl
      · exact step_store places_ok (j := false) (by decide) rfl rfl rfl (by rfl) (by decide)
      · exact step_store places_ok (j := true) (by decide) rfl rfl rfl (by rfl) (by decide)
    · have d0 := TwoF.done h (j := false) (by rfl) (by rfl) (by rfl)
      have d1 := TwoF.done h (j := true) (by rfl) (by rfl) (by rfl)
      obtain ⟨g1, s, en, lo1, cs1, e1, _, hg1, hr1, ht1, hc1⟩ := d0
      obtain ⟨g2, t, em, lo2, cs2, e2, _, hg2, hr2, ht2, hc2⟩ := d1
      have e1 : e 11 = .pointer (some ⟨g1, 0, none⟩) := e1
      have e2 : e 12 = .pointer (some ⟨g2, 0, none⟩) := e2
      have hr1 : Runs f I lo s en := hr1
      have hr2 : Runs f I hi t em := hr2
      have hb4 := h.below
      obtain ⟨ov, av1, vv, he1, i1, _, _⟩ := hr1.reads ht1
      obtain ⟨ov2, av2, vv2, he2, i2, _, _⟩ := hr2.reads ht2
      have hrd1 := hr1.reads ht1
      have hrd2 := hr2.reads ht2
      obtain ⟨e0, e3, e4⟩ := en
      injection he1 with he1
      injection he2 with he2
      subst he1 he2
      have HM := hideI (hr1.more HLH.out.1 (by have := HLH.out.2; omega) hr2)
      obtain ⟨A1, c1, rfl, hl1, k1⟩ := i1
      obtain ⟨A2, c2, rfl, hl2, k2⟩ := i2
      have HB4 := hideI hb4
      have HRD := hideI (And.intro hrd1 hrd2)
      have HX1 : Hid (∀ W, Below W4.heap.size W4 W → ∀ o, W.cell? ⟨g1, o, none⟩ = (#[.int .i64 e0, .int .i64 e3, .int .i64 e4, .slice A1 s.out.length c1, av1, .int .i64 s.steps, .int .i64 s.checks, vv] : Array Value)[o]?) := hideI fun W hW => row_cells hc1 (hW.block _ hg1)
      have HX2 : Hid (∀ W, Below W4.heap.size W4 W → ∀ o, W.cell? ⟨g2, o, none⟩ = (#[.int .i64 em.1, .int .i64 em.2.1, .int .i64 em.2.2, .slice A2 t.out.length c2, av2, .int .i64 t.steps, .int .i64 t.checks, vv2] : Array Value)[o]?) := hideI fun W hW => row_cells hc2 (hW.block _ hg2)
      clear h ht1 ht2 hc1 hc2 hrd1 hrd2 hr1 hr2 hb4
      simp only [putEnv, Act.put, List.setIfInBounds_toArray, List.set_cons_zero, List.set_cons_succ, e1, e2]
      clear e1 e2
      obtain ⟨u25, h25⟩ : ∃ x, x = e 25 := ⟨_, rfl⟩
      obtain ⟨u26, h26⟩ : ∃ x, x = e 26 := ⟨_, rfl⟩
      obtain ⟨u27, h27⟩ : ∃ x, x = e 27 := ⟨_, rfl⟩
      obtain ⟨u28, h28⟩ : ∃ x, x = e 28 := ⟨_, rfl⟩
      obtain ⟨u29, h29⟩ : ∃ x, x = e 29 := ⟨_, rfl⟩
      obtain ⟨u30, h30⟩ : ∃ x, x = e 30 := ⟨_, rfl⟩
      obtain ⟨u31, h31⟩ : ∃ x, x = e 31 := ⟨_, rfl⟩
      obtain ⟨u32, h32⟩ : ∃ x, x = e 32 := ⟨_, rfl⟩
      rw [← h25, ← h26, ← h27, ← h28, ← h29, ← h30, ← h31, ← h32]
      clear h25 h26 h27 h28 h29 h30 h31 h32
      by_cases h3 : e0 = 3
      · obtain ⟨hst, hts, hpre, hck⟩ := HM.out.2 h3
        subst h3
        have f0 : ((3 : Int) != 3) = false := by decide
        have f1 : ((s.steps : Int) != (lo : Int)) = false := by rw [hst]; simp
        have f3 : s.out.length ≤ t.out.length := hpre.length_le
        have HPRE := hideI hpre
        have K1 := hideI k1
        have K2 := hideI k2
        obtain ⟨n1, hn1⟩ : ∃ n, n = s.out.length := ⟨_, rfl⟩
        obtain ⟨n2, hn2⟩ : ∃ n, n = t.out.length := ⟨_, rfl⟩
        have HN := hideI (And.intro hn1 hn2)
        rw [← hn1] at HX1 f3 hl1
        rw [← hn2] at HX2 f3 hl2
        clear hst hpre k1 k2 hn1 hn2
        have q := HX1.out W4 (Below.refl _ _)
        have q0 := q 0
        have HLT := hideI (And.intro hg1 hg2)
        clear q
        go_upto_region 7 with (first
          | (go_at_call 20; refine (awake6_any _).mono ?_; rintro e w5 ⟨rfl, hb⟩; have HB5 := hideI hb; clear q0; have q := HX1.out w5 hb; have q0 := q 0; have q3 := q 3; have q5 := q 5; have q6 := q 6; have r := HX2.out w5 hb; have r3 := r 3; have r5 := r 5; have r6 := r 6; clear q r hb))
        go_wp2_with fail
        clear q5 q6 r5 r6 q3 r3
        have FR := hideI f3
        clear f0 f1 f3 hts hck q0
        go_loopw [13] (fun u wr => ∃ k m : Nat, k ≤ n1 ∧ u = .int .i64 k ∧ wr = w5.drewN m) (fun u _ => n1 - (intOf u).toNat)
        case atStart => exact ⟨0, 0, Nat.zero_le _, rfl, rfl⟩
        case round =>
          obtain ⟨k, m, hk, rfl, hwr⟩ := hrel
          have HWR := hideI hwr
          have q := HX1.out wr (by rw [hwr]; exact below_drewN HB5.out m)
          have q3 := q 3
          have r := HX2.out wr (by rw [hwr]; exact below_drewN HB5.out m)
          have r3 := r 3
          by_cases hlt : k < n1
          · obtain ⟨b1, o1, hA1, hb1, d1⟩ := K1.out k (by have := HN.out.1; omega)
            obtain ⟨b2, o2, hA2, hb2, d2⟩ := K2.out k (by have := HN.out.1; have := HN.out.2; have := FR.out; omega)
            have hsame : t.out[k]?.getD 0 = s.out[k]?.getD 0 := by
              obtain ⟨l, hl⟩ := HPRE.out
              rw [← hl, List.getElem?_append_left (by have := HN.out.1; omega)]
            rw [hsame] at d2
            have c1 : wr.cell? ⟨b1, o1 + k, none⟩ = some (.int .i64 (s.out[k]?.getD 0)) := by rw [hwr]; exact (HB5.out.cell hb1).trans d1
            have c2 : wr.cell? ⟨b2, o2 + k, none⟩ = some (.int .i64 (s.out[k]?.getD 0)) := by rw [hwr]; exact (HB5.out.cell hb2).trans d2
            have i1 : (0 : Int) ≤ (k : Int) := by omega
            have i2 : (k : Int) < (n1 : Int) := by omega
            have i3 : (k : Int) < (n2 : Int) := by have := FR.out; omega
            obtain ⟨x, hx⟩ : ∃ x, x = s.out[k]?.getD 0 := ⟨_, rfl⟩
            rw [← hx] at c1 c2
            subst hA1 hA2
            have g0 : (x != x) = false := by simp
            clear hwr d1 d2 q r hsame hx
            go_wp2
            go_quiet (fail)
            go_wp2
            go_roundw
            case rel => exact ⟨k + 1, _, by omega, by go_num, by rw [HWR.out]; exact World.drewN_drewN ..⟩
            case measure => simp [intOf]; omega
          · clear hwr q r
            go_wp2
            first | go_ret | refine bodyPost_ret (results_tmp rfl _ _ _) (by rfl) ?_
            exact ⟨rfl, by rw [HWR.out]; exact below_drewN (HB2.out.trans ((HB4.out.mono HB2.out.size).trans (HB5.out.mono (by have := HB4.out.size; have := HB2.out.size; omega)))) m⟩
      · obtain ⟨rfl, rfl⟩ := HM.out.1 h3
        have f0 : (e0 != 3) = true := by simpa using h3
        have q := HX1.out W4 (Below.refl _ _)
        have q0 := q 0
        clear k1 k2 q
        have HS : Hid (∀ W, Below W4.heap.size W4 W → Calls Tryz.prog 21 #[.agg #[.int .i64 e0, .int .i64 e3, .int .i64 e4, .slice A1 s.out.length c1, av1, .int .i64 s.steps, .int .i64 s.checks, vv], .agg #[.int .i64 e0, .int .i64 e3, .int .i64 e4, .slice A2 s.out.length c2, av2, .int .i64 s.steps, .int .i64 s.checks, vv2]] W fun e w' => e = .returned (.bool true) ∧ Below W.heap.size W w') := hideI fun W hW =>
          same_yes W W4.heap.size _ _ s _ (HRD.out.1.keeps (Keeps.of_below hW)) (HRD.out.2.keeps (Keeps.of_below hW)) hW.size
        go_wp2_with (first
          | (go_at_call 20; refine (awake6_any _).mono ?_; rintro e w5 ⟨rfl, hb⟩; (first | (have HB5 := hideI (HB5.out.trans (hb.mono HB5.out.size))) | (have HB5 := hideI hb)); clear hb q0; have q := HX1.out w5 HB5.out; have q0 := q 0; have q1 := q 1; have q2 := q 2; have q3 := q 3; have q4 := q 4; have q5 := q 5; have q6 := q 6; have q7 := q 7; have r := HX2.out w5 HB5.out; have r0 := r 0; have r1 := r 1; have r2 := r 2; have r3 := r 3; have r4 := r 4; have r5 := r 5; have r6 := r 6; have r7 := r 7; clear q r)
          | (go_at_call 21; go_must (refine (HS.out _ HB5.out).mono ?_); rintro e w6 ⟨rfl, hb⟩; have HB6 := hideI (HB5.out.trans (hb.mono HB5.out.size)); clear hb))
        first | go_ret | refine bodyPost_ret (results_tmp rfl _ _ _) (by rfl) ?_
        exact ⟨rfl, HB2.out.trans ((HB4.out.mono HB2.out.size).trans (HB6.out.mono (by have := HB4.out.size; have := HB2.out.size; omega)))⟩

theorem u16_nat {x : Int} (h : (Lit.int .u16 x).wf = true) : ∃ a : Nat, x = (a : Int) ∧ a < 65536 := by
  have h3 : IntKind.u16.min ≤ x ∧ x ≤ IntKind.u16.max := by simpa [Lit.wf] using h
  have h1 : (0 : Int) ≤ x := h3.1
  have h2 : x ≤ 65535 := h3.2
  exact ⟨x.toNat, by omega, by omega⟩

set_option maxRecDepth 100000 in
theorem lifted (os : Os) (started : os.Started) (H : Type) (enc : TypeId × Value → H) :
    ReturnsInHanded {} Tryz.checked os 6 .any (Rows.interpFuelSpec.pre6 enc Tryz.prog Tryz.f6 Rows.interpFuelRow.domain false) (Rows.interpFuelSpec.post enc Tryz.prog Tryz.f6 false true false false) := by
  refine returnsInHanded_of_change_sized (C := Tryz.checked) own started (by kernel_rfl) Tryz.func6
    (ChangeSpec.witness6 (enc := enc) (C := Tryz.checked) false ⟨#[], #[.agg #[.slice none 0 0, .int .i64 0, .int .i64 0, .slice none 0 0], .agg #[.slice none 0 0, .slice none 0 0], .int .u16 0, .int .u16 0], []⟩ 8 (by kernel_rfl) (by kernel_rfl) (by kernel_rfl) (by kernel_rfl)) ?_
  intro W base args ds gs before hval0 hW hcnd hsz _
  have hval : ∀ (j : Nat) t v, Tryz.f6.params[j]? = some t → args[j]? = some v → Value.okWide Tryz.prog W .any base t v := hval0
  have hW' := hW
  obtain ⟨p, q, hA0, hV, rfl, hfz, hnd⟩ := hW
  have hA : DataW.TrodAll enc Tryz.prog W 0 (fun _ => true) true Tryz.f6.params.toList args.toList ds p := hA0
  rw [Tryz.params6] at hA hval
  obtain ⟨v0, vs0, d0, ds0, p0, q0, hargs, rfl, rfl, h0, r0⟩ := trodAll_cons hA
  obtain ⟨v1, vs1, d1, ds1, p1, q1, rfl, rfl, rfl, h1, r1⟩ := trodAll_cons r0
  obtain ⟨v2, vs2, d2, ds2, p2, q2, rfl, rfl, rfl, h2, r2⟩ := trodAll_cons r1
  obtain ⟨v3, vs3, d3, ds3, p3, q3, rfl, rfl, rfl, h3, r3⟩ := trodAll_cons r2
  obtain ⟨rfl, rfl, rfl⟩ := trodAll_nil r3
  obtain rfl : args = #[v0, v1, v2, v3] := by cases args; simp_all
  obtain ⟨rfl, rfl⟩ := trodVars_none hV
  obtain ⟨f, pv, bv, rfl, hF⟩ := open_func (hval 0 25 v0 rfl rfl) h0 hsz (j := 0) rfl rfl
  obtain ⟨I, av, rv, rfl, hI⟩ := open_input (hval 1 41 v1 rfl rfl) h1 hsz (j := 1) rfl rfl
  obtain ⟨x2, rfl, _, _, w2⟩ := open_int Tryz.underlying49 (hval 2 49 v2 rfl rfl) h2
  obtain ⟨x3, rfl, _, _, w3⟩ := open_int Tryz.underlying49 (hval 3 49 v3 rfl rfl) h3
  obtain ⟨a, rfl, ha⟩ := u16_nat w2
  obtain ⟨b, rfl, hb⟩ := u16_nat w3
  clear hA0 hval0
  refine (walk f I a b pv bv av rv W hF hI ha hb).mono fun e W' ⟨he, hg⟩ => ?_
  subst he
  exact ⟨_, rfl, law_post (by kernel_rfl) hW' rfl (by kernel_rfl) Tryz.underlying4 rfl rfl rfl (by rw [Tryz.params6]; decide +kernel) hg⟩

theorem over : Rows.interpFuelRow.holds Tryz.pinned (OpenSpec.ofChange Rows.interpFuelSpec) :=
  OpenClaim.holds_of_wide 6 Tryz.f6 rfl rfl rfl rfl rfl rfl rfl ⟨rfl, rfl, rfl, rfl, rfl⟩ rfl rfl rfl rfl rfl (by kernel_rfl) Tryz.func6 (by kernel_rfl)
    (of_decide_eq_true (by kernel_rfl)) (by unfold Func.isWrapper; first | (rw [if_pos (by decide +kernel)]; kernel_rfl) | (rw [if_neg (by decide +kernel)]; exact ⟨rfl, rfl⟩))
    (fun os started H enc _ => lifted os started H enc)

theorem proved : Rows.InterpFuelSaid := over
#print axioms proved
end Go.Proofs.YtglbepdjahddmaaGreat.interpFuel
