/- InterpEnds: for every function, every input and every fuel, a run tells no more numbers than it takes steps, looks at no more bounds, keeps the lengths of its arrays, and is the same when it is done again. No condition. -/
import Derived.Test.YtglbepdjahddmaaGreatPkInterpEnds2
import Derived.Deep.DeepCutAuto
namespace Go.Proofs.YtglbepdjahddmaaGreat.interpEnds
open Go.ChangeShapes Go.WideShapes Go.ChangeAt Go.RowKit Go.Maps

/-- Run of what was handed in, at any later world -/
theorem runs_at {f : FuncM} {I : InM} {pv bv av rv : Value} {w : World} (hF : FnIn w f pv bv) (hI : InIn w I av rv) (F : Nat) (W : World) (hW : Below w.heap.size w W) :
    Calls Tryz.prog 17 #[.agg #[pv, .int .i64 f.arrays, .int .i64 f.cells, bv], .agg #[av, rv], .int .i64 F] W (RunR f I F W) :=
  irun_read f I w.heap.size pv bv av rv F W (hF.par.keeps (Keeps.of_below hW)) (hF.blk.keeps (Keeps.of_below hW)) hW.size (uses_i64 hF.ok) (hI.args.keeps (Keeps.of_below hW)) (hI.arrs.keeps (Keeps.of_below hW))

theorem runs_one {f : FuncM} {I : InM} {F : Nat} {s t : StM} {en em : EndM} (h : Runs f I F s en) (k : Runs f I F t em) : s = t ∧ en = em := by
  rcases h with ⟨hs, h⟩ | ⟨hn, rfl, rfl⟩
  · rcases k with ⟨_, k⟩ | ⟨kn, _⟩
    · exact end_one h k
    · exact absurd hs kn
  · rcases k with ⟨ks, _⟩ | ⟨_, rfl, rfl⟩
    · exact absurd ks hn
    · exact ⟨rfl, rfl⟩

theorem runs_ends {f : FuncM} {I : InM} {F : Nat} {s : StM} {en : EndM} (h : Runs f I F s en) : (CheckIs f (0, 0) ∧ EndOk en ∧ s.arrs.map List.length = (List.range f.arrays.toNat).map fun i => ((I.arrs.getD i []).take 4096).length) ∨ (¬ CheckIs f (0, 0) ∧ s = noS ∧ en = (6, 0, 0)) := by
  rcases h with ⟨hs, h⟩ | ⟨hn, rfl, rfl⟩
  · refine .inl ⟨hs, end_ok h, ?_⟩
    rw [(h.bounds hs).1.lens]
    unfold startS
    rw [List.map_map]
    rfl
  · exact .inr ⟨hn, rfl, rfl⟩

theorem ht_up {w : World} {B B' : Nat} {v : Value} {s : StM} {en : EndM} (h : TraceR w B v s en) (hB : B ≤ B') : TraceR w B' v s en := by
  obtain ⟨ov, av, vv, e, ⟨A1, c1, a1, a2, a3⟩, ⟨A2, c2, b1, b2, b3⟩, ⟨A3, c3, d1, d2, d3⟩⟩ := h
  refine ⟨ov, av, vv, e, ⟨A1, c1, a1, a2, fun k hk => ?_⟩, ⟨A2, c2, b1, b2, fun k l hk => ?_⟩, ⟨A3, c3, d1, d2, fun k hk => ?_⟩⟩
  · obtain ⟨b, off, h1, h2, h3⟩ := a3 k hk
    exact ⟨b, off, h1, by omega, h3⟩
  · obtain ⟨b, off, lv, h1, h2, h3, ⟨A4, c4, i1, i2, i3⟩, h5⟩ := b3 k l hk
    exact ⟨b, off, lv, h1, by omega, h3, ⟨A4, c4, i1, i2, fun j hj => by
      obtain ⟨b, off, h1, h2, h3⟩ := i3 j hj
      exact ⟨b, off, h1, by omega, h3⟩⟩, h5⟩
  · obtain ⟨b, off, h1, h2, h3⟩ := d3 k hk
    exact ⟨b, off, h1, by omega, h3⟩

set_option maxRecDepth 100000 in
set_option maxHeartbeats 4000000 in
theorem walk (f : FuncM) (I : InM) (a : Nat) (pv bv av rv : Value) (w : World) (hF : FnIn w f pv bv) (hI : InIn w I av rv) (ha : a < 65536) :
    Calls Tryz.prog 9 #[.agg #[pv, .int .i64 f.arrays, .int .i64 f.cells, bv], .agg #[av, rv], .int .u16 a] w fun e w' => e = .returned (.bool true) ∧ Below w.heap.size w w' := by
  have hIa := hI.arrs
  obtain ⟨Ar, cr, hrv, _, kr⟩ := hIa
  have HRV := hideI hrv
  have KR := hideI kr
  clear kr hrv
  have HFI := hideI hF
  have HII := hideI hI
  obtain ⟨W2, hW2⟩ : ∃ W2, W2 = ((w.alloc (.cells #[pv, .int .i64 f.arrays, .int .i64 f.cells, bv] 25)).alloc (.cells #[av, rv] 41)) := ⟨_, rfl⟩
  have hb2 : Below w.heap.size w W2 := by rw [hW2]; exact below_two w _ _
  have hs2 : W2.heap.size = w.heap.size + 2 := by rw [hW2]; simp
  have hf0 : W2.heap[w.heap.size]? = some (.cells #[pv, .int .i64 f.arrays, .int .i64 f.cells, bv] 25 (0, 0)) := by
    rw [hW2, Below.heap_alloc _ _ _ (by simp)]
    exact heap_alloc_new w _
  have hf1 : W2.heap[w.heap.size + 1]? = some (.cells #[av, rv] 41 (0, 0)) := by
    rw [hW2]
    have := heap_alloc_new (w.alloc (.cells #[pv, .int .i64 f.arrays, .int .i64 f.cells, bv] 25)) (.cells #[av, rv] 41)
    simpa using this
  have HC0 : Hid (∀ W, Below W2.heap.size W2 W → ∀ o, W.cell? ⟨w.heap.size, o, none⟩ = (#[pv, .int .i64 f.arrays, .int .i64 f.cells, bv] : Array Value)[o]?) := hideI fun W hW => row_cells hf0 (hW.block _ (by omega))
  have HC1 : Hid (∀ W, Below W2.heap.size W2 W → ∀ o, W.cell? ⟨w.heap.size + 1, o, none⟩ = (#[av, rv] : Array Value)[o]?) := hideI fun W hW => row_cells hf1 (hW.block _ (by omega))
  have HR : Hid (∀ (F : Nat) W, Below W2.heap.size W2 W → Calls Tryz.prog 17 #[.agg #[pv, .int .i64 f.arrays, .int .i64 f.cells, bv], .agg #[av, rv], .int .i64 F] W (RunR f I F W)) := hideI fun F W hW => runs_at hF hI F W (hb2.trans (hW.mono (by omega)))
  have HW2 := hideI hW2
  have HB2 := hideI hb2
  have HS2 := hideI hs2
  obtain ⟨n, hn⟩ : ∃ n : Nat, (a : Int) % 2000 = (n : Int) := ⟨a % 2000, by omega⟩
  have hn2 : n < 2000 := by omega
  clear hF hI hW2 hb2 hs2 hf0 hf1
  go_enter Tryz.func9, Tryz.ntmps9
  go_upto_region 2 with fail
  rw [← HW2.out]
  have q := HC0.out W2 (Below.refl _ _)
  have q0 := q 0
  have q1 := q 1
  have q2 := q 2
  have q3 := q 3
  have r := HC1.out W2 (Below.refl _ _)
  have r0 := r 0
  have r1 := r 1
  clear q r
  go_upto_region 3 with (first
    | (go_at_call 17; go_must (refine (HR.out n _ (Below.refl _ _)).mono ?_); rintro e w3 ⟨v, s, ⟨e0, e3, e4⟩, rfl, hr, ht, hb⟩; have HRS := hideI hr; have HTR := hideI ht; have HB3 := hideI hb; obtain ⟨ov, av1, vv, rfl, ⟨A1, c1, rfl, hl1, k1⟩, ⟨A2, c2, rfl, hl2, k2⟩, ⟨A3, c3, rfl, hl3, k3⟩⟩ := ht; clear hr hb q0 q1 q2 q3 r0 r1 hl1 k1 hl2 k2 hl3 k3))
  obtain ⟨W4, hW4⟩ : ∃ W4, W4 = w3.alloc (.cells #[.int .i64 e0, .int .i64 e3, .int .i64 e4, .slice A1 s.out.length c1, .slice A2 s.arrs.length c2, .int .i64 s.steps, .int .i64 s.checks, .slice A3 s.vis.length c3] 43) := ⟨_, rfl⟩
  rw [← hW4]
  have hb4 : Below w3.heap.size w3 W4 := by rw [hW4]; exact (Below.refl _ w3).alloc (Nat.le_refl _) _
  have HB4 : Hid (Below W2.heap.size W2 W4) := hideI (HB3.out.trans (hb4.mono HB3.out.size))
  have hg1 : W4.heap[w3.heap.size]? = some (.cells #[.int .i64 e0, .int .i64 e3, .int .i64 e4, .slice A1 s.out.length c1, .slice A2 s.arrs.length c2, .int .i64 s.steps, .int .i64 s.checks, .slice A3 s.vis.length c3] 43 (0, 0)) := by rw [hW4]; exact heap_alloc_new w3 _
  have HT1 := hideI (HTR.out.keeps (Keeps.of_below hb4))
  have hb3w : w3.heap.size ≤ W4.heap.size := hb4.size
  obtain ⟨g1, hgg⟩ : ∃ g, g = w3.heap.size := ⟨_, rfl⟩
  rw [← hgg] at hg1 HT1 hb3w ⊢
  have hg1l : g1 < W4.heap.size := (Array.getElem?_eq_some_iff.1 hg1).1
  have HG1 := hideI hg1
  have HG1L := hideI (And.intro hb3w hg1l)
  have q := HC0.out W4 HB4.out
  have q0 := q 0
  have q1 := q 1
  have q2 := q 2
  have q3 := q 3
  have r := HC1.out W4 HB4.out
  have r0 := r 0
  have r1 := r 1
  clear q r hW4 hb4 hg1 hgg hb3w hg1l HTR HB3
  go_upto_region 4 with (first
    | (go_at_call 17; go_must (refine (HR.out n _ HB4.out).mono ?_); rintro e w5 ⟨v, s2, en2, rfl, hr, ht, hb⟩; obtain ⟨rfl, rfl⟩ := runs_one HRS.out hr; have HTR := hideI ht; have HB5 := hideI hb; obtain ⟨ov, av2, vv, rfl, ⟨A4, c4, rfl, hl1, k1⟩, ⟨A5, c5, rfl, hl2, k2⟩, ⟨A6, c6, rfl, hl3, k3⟩⟩ := ht; clear hr hb q0 q1 q2 q3 r0 r1 hl1 k1 hl2 k2 hl3 k3))
  obtain ⟨W6, hW6⟩ : ∃ W6, W6 = w5.alloc (.cells #[.int .i64 e0, .int .i64 e3, .int .i64 e4, .slice A4 s.out.length c4, .slice A5 s.arrs.length c5, .int .i64 s.steps, .int .i64 s.checks, .slice A6 s.vis.length c6] 43) := ⟨_, rfl⟩
  rw [← hW6]
  have hb6 : Below w5.heap.size w5 W6 := by rw [hW6]; exact (Below.refl _ w5).alloc (Nat.le_refl _) _
  have hb46 : Below W4.heap.size W4 W6 := HB5.out.trans (hb6.mono HB5.out.size)
  have HB6 : Hid (Below W2.heap.size W2 W6) := hideI (HB4.out.trans (hb46.mono HB4.out.size))
  have hg2 : W6.heap[w5.heap.size]? = some (.cells #[.int .i64 e0, .int .i64 e3, .int .i64 e4, .slice A4 s.out.length c4, .slice A5 s.arrs.length c5, .int .i64 s.steps, .int .i64 s.checks, .slice A6 s.vis.length c6] 43 (0, 0)) := by rw [hW6]; exact heap_alloc_new w5 _
  obtain ⟨g2, hgg⟩ : ∃ g, g = w5.heap.size := ⟨_, rfl⟩
  have hb5w : w5.heap.size ≤ W6.heap.size := hb6.size
  have HT2 := hideI (HTR.out.keeps (Keeps.of_below hb6))
  have HT1' := hideI (HT1.out.keeps (Keeps.of_below (hb46.mono HG1L.out.1)))
  rw [← hgg] at hg2 HT2 hb5w ⊢
  have hg2l : g2 < W6.heap.size := (Array.getElem?_eq_some_iff.1 hg2).1
  have hg1l : g1 < W6.heap.size := Nat.lt_of_lt_of_le HG1L.out.2 hb46.size
  have hg1 := (hb46.block g1 HG1L.out.2).trans HG1.out
  have HX1 : Hid (∀ W, Below W6.heap.size W6 W → ∀ o, W.cell? ⟨g1, o, none⟩ = (#[.int .i64 e0, .int .i64 e3, .int .i64 e4, .slice A1 s.out.length c1, .slice A2 s.arrs.length c2, .int .i64 s.steps, .int .i64 s.checks, .slice A3 s.vis.length c3] : Array Value)[o]?) := hideI fun W hW => row_cells hg1 (hW.block _ hg1l)
  have HX2 : Hid (∀ W, Below W6.heap.size W6 W → ∀ o, W.cell? ⟨g2, o, none⟩ = (#[.int .i64 e0, .int .i64 e3, .int .i64 e4, .slice A4 s.out.length c4, .slice A5 s.arrs.length c5, .int .i64 s.steps, .int .i64 s.checks, .slice A6 s.vis.length c6] : Array Value)[o]?) := hideI fun W hW => row_cells hg2 (hW.block _ hg2l)
  have HS : Hid (∀ W, Below W6.heap.size W6 W → Calls Tryz.prog 21 #[.agg #[.int .i64 e0, .int .i64 e3, .int .i64 e4, .slice A1 s.out.length c1, .slice A2 s.arrs.length c2, .int .i64 s.steps, .int .i64 s.checks, .slice A3 s.vis.length c3], .agg #[.int .i64 e0, .int .i64 e3, .int .i64 e4, .slice A4 s.out.length c4, .slice A5 s.arrs.length c5, .int .i64 s.steps, .int .i64 s.checks, .slice A6 s.vis.length c6]] W fun e w' => e = .returned (.bool true) ∧ Below W.heap.size W w') := hideI fun W hW =>
    same_yes W W6.heap.size _ _ s _ ((ht_up HT1'.out (Nat.le_trans HG1L.out.1 hb46.size)).keeps (Keeps.of_below hW)) ((ht_up HT2.out hb5w).keeps (Keeps.of_below hW)) hW.size
  obtain ⟨hsh1, hsh2, _, _, hsh5, hsh6, hsh7⟩ := HRS.out.short
  have HSH2 := hideI hsh2
  have hsteps : s.steps ≤ n := by omega
  have hsum : IntKind.i64.wrap ((s.out.length : Int) + s.checks) = (s.out.length : Int) + s.checks := IntWalk.i64_in _ (by omega)
  have HB7 : Hid (Below w.heap.size w W6) := hideI (HB2.out.trans (HB6.out.mono HB2.out.size))
  clear hW6 hb6 hb46 hg2 hgg hb5w hg1 HG1 HTR HB5 HT1 hsh1 hsh2 hsh5 hsh6
  have q := HX1.out W6 (Below.refl _ _)
  have q0 := q 0
  have q3 := q 3
  have q5 := q 5
  have q6 := q 6
  clear q
  have HIS : Hid (∀ W, Below W6.heap.size W6 W → Calls Tryz.prog 23 #[.agg #[pv, .int .i64 f.arrays, .int .i64 f.cells, bv]] W fun e w' => ∃ z : Bool, e = .returned (.bool z) ∧ (z = true ↔ CheckIs f (0, 0)) ∧ Below W.heap.size W w') := hideI fun W hW =>
    refIs_any f w.heap.size pv bv W (HFI.out.par.keeps (Keeps.of_below (HB7.out.trans (hW.mono HB7.out.size)))) (HFI.out.blk.keeps (Keeps.of_below (HB7.out.trans (hW.mono HB7.out.size)))) (HB7.out.trans (hW.mono HB7.out.size)).size (uses_i64 HFI.out.ok)
  rcases runs_ends HRS.out with ⟨hchk, hok, hlen⟩ | ⟨hno, hs, hen⟩
  · obtain ⟨ok1, ok2, ok3, ok4⟩ := hok
    have ok1 : 1 ≤ e0 := ok1
    have ok2 : e0 ≤ 5 := ok2
    have ok3 : e0 = 2 ∨ e4 = 0 := ok3
    have ok4 : e0 = 1 ∨ e3 = 0 := ok4
    have hne : (e0 == 6) = false := by simp; omega
    have HOK := hideI (And.intro ok3 ok4)
    have HLEN := hideI hlen
    have HCHK := hideI hchk
    clear ok3 ok4 hlen hchk
    go_upto_region 9 with (first
      | (go_at_call 20; refine (awake6_any _).mono ?_; rintro e w7 ⟨rfl, hb⟩; have HB8 := hideI hb; clear hb q0 q3 q5 q6; have q := HX1.out w7 HB8.out; have q0 := q 0; have q1 := q 1; have q2 := q 2; have q3 := q 3; have q4 := q 4; have q5 := q 5; have q6 := q 6; have q7 := q 7; have r := HX2.out w7 HB8.out; have r0 := r 0; have r1 := r 1; have r2 := r 2; have r3 := r 3; have r4 := r 4; have r5 := r 5; have r6 := r 6; have r7 := r 7; clear q r)
      | (go_at_call 21; go_must (refine (HS.out _ HB8.out).mono ?_); rintro e w8 ⟨rfl, hb⟩; have HB9 := hideI (HB8.out.trans (hb.mono HB8.out.size)); clear hb q0 q1 q2 q3 q4 q5 q6 q7 r0 r1 r2 r3 r4 r5 r6 r7; have q := HX1.out w8 HB9.out; have q0 := q 0; have q3 := q 3; have q5 := q 5; have q6 := q 6; clear q))
    have hla : s.arrs.length = f.arrays.toNat := by
      have := congrArg List.length HLEN.out
      simpa using this
    have hfa : ((s.arrs.length : Int) == f.arrays) = true := by
      have := (strict_bounds HCHK.out).2.2.2.1
      simp
      omega
    have HAT : Hid (∀ k l, s.arrs[k]? = some l → l.length = min 4096 (I.arrs.getD k []).length) := hideI fun k l hk => by
      have h1 := congrArg (fun x => x[k]?) HLEN.out
      simp only [List.getElem?_map, hk, Option.map_some] at h1
      have hkl := (List.getElem?_eq_some_iff.1 hk).1
      rw [List.getElem?_range (by omega)] at h1
      simp only [Option.map_some, Option.some.injEq, List.length_take] at h1
      exact h1
    have hK2 : ∀ k l, s.arrs[k]? = some l → ∃ b off lv, A2 = some ⟨b, off, none⟩ ∧ b < g1 ∧ W6.cell? ⟨b, off + k, none⟩ = some lv ∧ Ints W6 g1 lv l := by
      obtain ⟨ov, av1, vv, he, _, hr, _⟩ := HT1'.out
      have h4 : Value.slice A2 s.arrs.length c2 = av1 := by simpa using congrArg (fun x : Array Value => x.getD 4 undef) (Value.agg.inj he)
      subst h4
      obtain ⟨A2', c2', e2', _, k2⟩ := hr
      injection e2' with e2' _ _
      subst e2'
      intro k l hk
      obtain ⟨b, off, lv, h1, h2, h3, h4, _⟩ := k2 k l hk
      exact ⟨b, off, lv, h1, h2, h3, h4⟩
    have K2 := hideI hK2
    obtain ⟨na, hna⟩ : ∃ n, n = s.arrs.length := ⟨_, rfl⟩
    obtain ⟨ni, hni⟩ : ∃ n, n = I.arrs.length := ⟨_, rfl⟩
    have hna8 : na ≤ 8 := by have := HSH2.out; omega
    have HNA := hideI hna
    have HNI := hideI hni
    rw [← hna] at hfa HX1
    have HBW : Hid (Below w.heap.size w w8) := hideI (HB7.out.trans (HB9.out.mono HB7.out.size))
    have HG1W : Hid (g1 ≤ W6.heap.size) := hideI (Nat.le_of_lt hg1l)
    have q := HX1.out w8 HB9.out
    have q4 := q 4
    have q0 := q 0
    have q1 := q 1
    have q2 := q 2
    have r := HC1.out w8 (HB6.out.trans (HB9.out.mono HB6.out.size))
    have r1 : w8.cell? ⟨w.heap.size + 1, 1, none⟩ = some (.slice Ar ni cr) := by rw [hni, ← HRV.out]; exact r 1
    clear r
    have r := HC0.out w8 (HB6.out.trans (HB9.out.mono HB6.out.size))
    have p1 := r 1
    clear q r hla hK2 hna hni q3 q5 q6 hsum hsh7 hsteps
    go_loopw [10, 11] (fun u v wr => ∃ k : Nat, k ≤ na ∧ u = .int .i64 k ∧ wr = w8) (fun u _ _ => na - (intOf u).toNat)
    case atStart => exact ⟨0, Nat.zero_le _, rfl, rfl⟩
    case round =>
      obtain ⟨k, hk, rfl, rfl⟩ := hrel
      by_cases hlt : k < na
      · obtain ⟨l, hl⟩ : ∃ l, s.arrs[k]? = some l := ⟨_, List.getElem?_eq_getElem (by have := HNA.out; omega)⟩
        have hmin := HAT.out k l hl
        obtain ⟨b1, o1, v1, hA1, hb1, d1, i1⟩ := K2.out k l hl
        obtain ⟨Al, cl, rfl, _, _⟩ := i1
        have d1 : wr.cell? ⟨b1, o1 + k, none⟩ = some (.slice Al l.length cl) := (HB9.out.cell (Nat.lt_of_lt_of_le hb1 HG1W.out)).trans d1
        have i1 : (0 : Int) ≤ (k : Int) := by omega
        have i2 : (k : Int) < (na : Int) := by omega
        obtain ⟨m, hm⟩ : ∃ m, m = l.length := ⟨_, rfl⟩
        rw [← hm] at d1 hmin
        clear hl hm
        subst hA1
        by_cases hk2 : k < ni
        · obtain ⟨l2, hl2⟩ : ∃ l2, I.arrs[k]? = some l2 := ⟨_, List.getElem?_eq_getElem (by have := HNI.out; omega)⟩
          obtain ⟨b2, o2, v2, hA2, hb2, d2, j1, _⟩ := KR.out k l2 hl2
          obtain ⟨Al2, cl2, rfl, _, _⟩ := j1
          have d2 : wr.cell? ⟨b2, o2 + k, none⟩ = some (.slice Al2 l2.length cl2) := (HBW.out.cell hb2).trans d2
          rw [List.getD_eq_getElem?_getD, hl2, Option.getD_some] at hmin
          have i3 : (k : Int) < (ni : Int) := by omega
          obtain ⟨m2, hm2⟩ : ∃ m, m = l2.length := ⟨_, rfl⟩
          rw [← hm2] at d2 hmin
          clear hl2 hm2
          by_cases hmm : m = m2
          · have e1 : ((m : Int) != (m2 : Int)) = false := by simp; omega
            clear hmin hmm
            subst hA2
            go_wp2
            go_roundw
            case rel => exact ⟨k + 1, by omega, by go_num, by first | rfl | trivial⟩
            case measure => simp [intOf]; omega
          · have e1 : ((m : Int) != (m2 : Int)) = true := by simp; omega
            have e2 : ((m : Int) != 4096) = false := by simp; omega
            clear hmin hmm
            subst hA2
            go_wp2
            go_roundw
            case rel => exact ⟨k + 1, by omega, by go_num, by first | rfl | trivial⟩
            case measure => simp [intOf]; omega
        · have hz : I.arrs.getD k [] = [] := by rw [List.getD_eq_getElem?_getD, List.getElem?_eq_none (by have := HNI.out; omega)]; rfl
          rw [hz] at hmin
          have e1 : ((m : Int) != 0) = false := by simp at hmin; simp; omega
          clear hmin hz
          go_wp2
          go_roundw
          case rel => exact ⟨k + 1, by omega, by go_num, by first | rfl | trivial⟩
          case measure => simp [intOf]; omega
      · have e3 : (e0 == 2) = true ∧ (e0 == 1) = false ∧ (e3 == 0) = true ∨ (e0 == 2) = false ∧ (e4 == 0) = true ∧ ((e0 == 1) = true ∨ (e0 == 1) = false ∧ (e3 == 0) = true) := by
          have h1 := HOK.out.1
          have h2 := HOK.out.2
          simp only [beq_iff_eq, beq_eq_false_iff_ne]
          omega
        rcases e3 with ⟨z1, z2, z3⟩ | ⟨z1, z2, z3 | ⟨z3, z4⟩⟩
        · go_wp2
          first | go_ret | refine bodyPost_ret (results_tmp rfl _ _ _) (by rfl) ?_
          exact ⟨rfl, HBW.out⟩
        · go_wp2
          first | go_ret | refine bodyPost_ret (results_tmp rfl _ _ _) (by rfl) ?_
          exact ⟨rfl, HBW.out⟩
        · go_wp2
          first | go_ret | refine bodyPost_ret (results_tmp rfl _ _ _) (by rfl) ?_
          exact ⟨rfl, HBW.out⟩
  · obtain ⟨rfl, h2⟩ := Prod.mk.inj hen
    obtain ⟨rfl, rfl⟩ := Prod.mk.inj h2
    have s1 : s.steps = 0 := by rw [hs]; rfl
    have s2 : s.out.length = 0 := by rw [hs]; rfl
    have s3 : s.checks = 0 := by rw [hs]; rfl
    have s4 : s.arrs.length = 0 := by rw [hs]; rfl
    have s5 : s.vis.length = 0 := by rw [hs]; rfl
    rw [s1, s2, s3, s4, s5] at HX1 HX2 HS
    rw [s1] at q5
    rw [s2] at q3
    rw [s3] at q6
    clear hs hen h2 s1 s2 s3 s4 s5 hsum hsh7 hsteps
    have HNO := hideI hno
    clear hno
    go_wp2_with (first
      | (go_at_call 20; refine (awake6_any _).mono ?_; rintro e w7 ⟨rfl, hb⟩; have HB8 := hideI hb; clear hb q0 q3 q5 q6; have q := HX1.out w7 HB8.out; have q0 := q 0; have q1 := q 1; have q2 := q 2; have q3 := q 3; have q4 := q 4; have q5 := q 5; have q6 := q 6; have q7 := q 7; have r := HX2.out w7 HB8.out; have r0 := r 0; have r1 := r 1; have r2 := r 2; have r3 := r 3; have r4 := r 4; have r5 := r 5; have r6 := r 6; have r7 := r 7; clear q r)
      | (go_at_call 21; go_must (refine (HS.out _ HB8.out).mono ?_); rintro e w8 ⟨rfl, hb⟩; have HB9 := hideI (HB8.out.trans (hb.mono HB8.out.size)); clear hb q0 q1 q2 q3 q4 q5 q6 q7 r0 r1 r2 r3 r4 r5 r6 r7; have q := HX1.out w8 HB9.out; have q0 := q 0; have q3 := q 3; have q4 := q 4; have q5 := q 5; have q6 := q 6; have q7 := q 7; clear q; have r := HC0.out w8 (HB6.out.trans (HB9.out.mono HB6.out.size)); have r0 := r 0; have r1 := r 1; have r2 := r 2; have r3 := r 3; clear r)
      | (go_at_call 23; go_must (refine (HIS.out _ HB9.out).mono ?_); rintro e w10 ⟨z, rfl, hz, hb⟩; have HB10 := hideI (HB9.out.trans (hb.mono HB9.out.size)); obtain rfl : z = false := (by cases z; rfl; exact absurd (hz.1 rfl) HNO.out); clear hb hz))
    first | go_ret | refine bodyPost_ret (results_tmp rfl _ _ _) (by rfl) ?_
    exact ⟨rfl, HB7.out.trans (HB10.out.mono HB7.out.size)⟩

theorem u16_nat {x : Int} (h : (Lit.int .u16 x).wf = true) : ∃ a : Nat, x = (a : Int) ∧ a < 65536 := by
  have h3 : IntKind.u16.min ≤ x ∧ x ≤ IntKind.u16.max := by simpa [Lit.wf] using h
  have h1 : (0 : Int) ≤ x := h3.1
  have h2 : x ≤ 65535 := h3.2
  exact ⟨x.toNat, by omega, by omega⟩

set_option maxRecDepth 100000 in
theorem lifted (os : Os) (started : os.Started) (H : Type) (enc : TypeId × Value → H) :
    ReturnsInHanded {} Tryz.checked os 9 .any (Rows.interpEndsSpec.pre6 enc Tryz.prog Tryz.f9 Rows.interpEndsRow.domain false) (Rows.interpEndsSpec.post enc Tryz.prog Tryz.f9 false true false false) := by
  refine returnsInHanded_of_change_sized (C := Tryz.checked) own started (by kernel_rfl) Tryz.func9
    (ChangeSpec.witness6 (enc := enc) (C := Tryz.checked) false ⟨#[], #[.agg #[.slice none 0 0, .int .i64 0, .int .i64 0, .slice none 0 0], .agg #[.slice none 0 0, .slice none 0 0], .int .u16 0], []⟩ 8 (by kernel_rfl) (by kernel_rfl) (by kernel_rfl) (by kernel_rfl)) ?_
  intro W base args ds gs before hval0 hW hcnd hsz _
  have hval : ∀ (j : Nat) t v, Tryz.f9.params[j]? = some t → args[j]? = some v → Value.okWide Tryz.prog W .any base t v := hval0
  have hW' := hW
  obtain ⟨p, q, hA0, hV, rfl, hfz, hnd⟩ := hW
  have hA : DataW.TrodAll enc Tryz.prog W 0 (fun _ => true) true Tryz.f9.params.toList args.toList ds p := hA0
  rw [Tryz.params9] at hA hval
  obtain ⟨v0, vs0, d0, ds0, p0, q0, hargs, rfl, rfl, h0, r0⟩ := trodAll_cons hA
  obtain ⟨v1, vs1, d1, ds1, p1, q1, rfl, rfl, rfl, h1, r1⟩ := trodAll_cons r0
  obtain ⟨v2, vs2, d2, ds2, p2, q2, rfl, rfl, rfl, h2, r2⟩ := trodAll_cons r1
  obtain ⟨rfl, rfl, rfl⟩ := trodAll_nil r2
  obtain rfl : args = #[v0, v1, v2] := by cases args; simp_all
  obtain ⟨rfl, rfl⟩ := trodVars_none hV
  obtain ⟨f, pv, bv, rfl, hF⟩ := open_func (hval 0 25 v0 rfl rfl) h0 hsz (j := 0) rfl rfl
  obtain ⟨I, av, rv, rfl, hI⟩ := open_input (hval 1 41 v1 rfl rfl) h1 hsz (j := 1) rfl rfl
  obtain ⟨x2, rfl, _, _, w2⟩ := open_int Tryz.underlying49 (hval 2 49 v2 rfl rfl) h2
  obtain ⟨a, rfl, ha⟩ := u16_nat w2
  clear hA0 hval0
  refine (walk f I a pv bv av rv W hF hI ha).mono fun e W' ⟨he, hg⟩ => ?_
  subst he
  exact ⟨_, rfl, law_post (by kernel_rfl) hW' rfl (by kernel_rfl) Tryz.underlying4 rfl rfl rfl (by rw [Tryz.params9]; decide +kernel) hg⟩

theorem over : Rows.interpEndsRow.holds Tryz.pinned (OpenSpec.ofChange Rows.interpEndsSpec) :=
  OpenClaim.holds_of_wide 9 Tryz.f9 rfl rfl rfl rfl rfl rfl rfl ⟨rfl, rfl, rfl, rfl, rfl⟩ rfl rfl rfl rfl rfl (by kernel_rfl) Tryz.func9 (by kernel_rfl)
    (of_decide_eq_true (by kernel_rfl)) (by unfold Func.isWrapper; first | (rw [if_pos (by decide +kernel)]; kernel_rfl) | (rw [if_neg (by decide +kernel)]; exact ⟨rfl, rfl⟩))
    (fun os started H enc _ => lifted os started H enc)

theorem proved : Rows.InterpEndsSaid := over
#print axioms proved
end Go.Proofs.YtglbepdjahddmaaGreat.interpEnds
