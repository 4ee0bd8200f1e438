/- InterpVisits: for every function, every input and every fuel, a run comes once to block 0, to another block at most as often as to those that go to it, and takes at most as many steps as the blocks that it came to have. No condition. -/
import Derived.Test.YtglbepdjahddmaaGreatPkInterpVisits1
import Derived.Deep.DeepCutAuto
namespace Go.Proofs.YtglbepdjahddmaaGreat.interpVisits
open Go.ChangeShapes Go.WideShapes Go.ChangeAt Go.RowKit Go.Maps

/-- Run of what was handed in, at any later world -/
theorem runs_at {f : FuncM} {I : InM} {pv bv av rv : Value} {w : World} (hF : FnIn w f pv bv) (hI : InIn w I av rv) (F : Nat) (W : World) (hW : Below w.heap.size w W) :
    Calls Tryz.prog 17 #[.agg #[pv, .int .i64 f.arrays, .int .i64 f.cells, bv], .agg #[av, rv], .int .i64 F] W (RunR f I F W) :=
  irun_read f I w.heap.size pv bv av rv F W (hF.par.keeps (Keeps.of_below hW)) (hF.blk.keeps (Keeps.of_below hW)) hW.size (uses_i64 hF.ok) (hI.args.keeps (Keeps.of_below hW)) (hI.arrs.keeps (Keeps.of_below hW))

theorem sum_take (g : Nat → Int) {l : List Nat} {k x : Nat} (h : l[k]? = some x) : sumOver g (l.take (k + 1)) = sumOver g (l.take k) + g x := by
  rw [List.take_add_one, h, sumOver_append]
  show _ + (g x + 0) = _
  omega

theorem sum_range (g : Nat → Int) (k : Nat) : sumOver g (List.range (k + 1)) = sumOver g (List.range k) + g k := by
  rw [List.range_succ, sumOver_append]
  show _ + (g k + 0) = _
  omega

theorem vis_cell {s : StM} {b : Nat} (_h : b < s.vis.length) : s.vis[b]?.getD 0 = visM s b := by
  unfold visM
  rw [List.getD_eq_getElem?_getD]

/-- where the lists of those that go there lie -/
theorem lists_cell {bs : List BlockM} {w : World} {g g2 : Nat} {vs : List Value} (h : Lists w g g2 bs.length vs (predsAt bs bs.length bs.length 0)) {b : Nat} (hb : b < bs.length) :
    ∃ A c, w.cell? ⟨g2, b, none⟩ = some (.slice A (predsTo bs bs.length b).length c) ∧ ∀ (k x : Nat), (predsTo bs bs.length b)[k]? = some x → ∃ gb, A = some ⟨gb, 0, none⟩ ∧ gb < w.heap.size ∧ w.cell? ⟨gb, k, none⟩ = some (.int .i64 (x : Int)) := by
  have hl : (predsAt bs bs.length bs.length 0)[b]? = some (predsTo bs bs.length b) := by
    rw [predsAt_at hb]
    simp
  obtain ⟨v, hv⟩ : ∃ v, vs[b]? = some v := ⟨_, List.getElem?_eq_getElem (by rw [h.vl]; exact hb)⟩
  have hown := h.own b v _ hv hl
  obtain ⟨A, c, rfl⟩ := row_form hown
  refine ⟨A, c, ?_, fun k x hx => ?_⟩
  · rw [World.ownsRow.cellAt h.row b (by omega), hv]
  · have hk := (List.getElem?_eq_some_iff.1 hx).1
    obtain ⟨gb, cap, e, _, hg⟩ := World.ownsRow.form hown (by omega)
    injection e with e1 _ e3
    subst e1
    exact ⟨gb, rfl, hg, nat_cell hown hx⟩

set_option maxRecDepth 100000 in
set_option maxHeartbeats 4000000 in
theorem walk (f : FuncM) (I : InM) (a : Nat) (pv bv av rv : Value) (w : World) (hF : FnIn w f pv bv) (hI : InIn w I av rv) (ha : a < 65536) :
    Calls Tryz.prog 7 #[.agg #[pv, .int .i64 f.arrays, .int .i64 f.cells, bv], .agg #[av, rv], .int .u16 a] w fun e w' => e = .returned (.bool true) ∧ Below w.heap.size w w' := by
  have HFI := hideI hF
  have HII := hideI hI
  obtain ⟨W2, hW2⟩ : ∃ W2, W2 = ((w.alloc (.cells #[pv, .int .i64 f.arrays, .int .i64 f.cells, bv] 25)).alloc (.cells #[av, rv] 41)) := ⟨_, rfl⟩
  have hb2 : Below w.heap.size w W2 := by rw [hW2]; exact below_two w _ _
  have hs2 : W2.heap.size = w.heap.size + 2 := by rw [hW2]; simp
  have hf0 : W2.heap[w.heap.size]? = some (.cells #[pv, .int .i64 f.arrays, .int .i64 f.cells, bv] 25 (0, 0)) := by
    rw [hW2, Below.heap_alloc _ _ _ (by simp)]
    exact heap_alloc_new w _
  have hf1 : W2.heap[w.heap.size + 1]? = some (.cells #[av, rv] 41 (0, 0)) := by
    rw [hW2]
    have := heap_alloc_new (w.alloc (.cells #[pv, .int .i64 f.arrays, .int .i64 f.cells, bv] 25)) (.cells #[av, rv] 41)
    simpa using this
  have HC0 : Hid (∀ W, Below W2.heap.size W2 W → ∀ o, W.cell? ⟨w.heap.size, o, none⟩ = (#[pv, .int .i64 f.arrays, .int .i64 f.cells, bv] : Array Value)[o]?) := hideI fun W hW => row_cells hf0 (hW.block _ (by omega))
  have HC1 : Hid (∀ W, Below W2.heap.size W2 W → ∀ o, W.cell? ⟨w.heap.size + 1, o, none⟩ = (#[av, rv] : Array Value)[o]?) := hideI fun W hW => row_cells hf1 (hW.block _ (by omega))
  have HR : Hid (∀ (F : Nat) W, Below W2.heap.size W2 W → Calls Tryz.prog 17 #[.agg #[pv, .int .i64 f.arrays, .int .i64 f.cells, bv], .agg #[av, rv], .int .i64 F] W (RunR f I F W)) := hideI fun F W hW => runs_at hF hI F W (hb2.trans (hW.mono (by omega)))
  have HP : Hid (∀ W, Below W2.heap.size W2 W → Calls Tryz.prog 22 #[.agg #[pv, .int .i64 f.arrays, .int .i64 f.cells, bv]] W (GPredsPost f W)) := hideI fun W hW => by
    have hb := hb2.trans (hW.mono (by omega))
    exact gPreds_any f w.heap.size pv bv W (hF.par.keeps (Keeps.of_below hb)) (hF.blk.keeps (Keeps.of_below hb)) hb.size (uses_i64 hF.ok)
  have HW2 := hideI hW2
  have HB2 := hideI hb2
  have HS2 := hideI hs2
  obtain ⟨n, hn⟩ : ∃ n : Nat, (a : Int) % 2000 = (n : Int) := ⟨a % 2000, by omega⟩
  have hn2 : n < 2000 := by omega
  clear hF hI hW2 hb2 hs2 hf0 hf1
  go_enter Tryz.func7, Tryz.ntmps7
  go_upto_region 1 with fail
  rw [← HW2.out]
  have q := HC0.out W2 (Below.refl _ _)
  have q0 := q 0
  have q1 := q 1
  have q2 := q 2
  have q3 := q 3
  have r := HC1.out W2 (Below.refl _ _)
  have r0 := r 0
  have r1 := r 1
  clear q r
  go_upto_region 2 with (first
    | (go_at_call 17; go_must (refine (HR.out n _ (Below.refl _ _)).mono ?_); rintro e w3 ⟨v, s, ⟨e0, e3, e4⟩, rfl, hr, ht, hb⟩; have HRS := hideI hr; have HTR := hideI ht; have HB3 := hideI hb; obtain ⟨ov, av1, vv, rfl, ⟨A1, c1, rfl, hl1, k1⟩, ⟨A2, c2, rfl, hl2, k2⟩, ⟨A3, c3, rfl, hl3, k3⟩⟩ := ht; have K3 := hideI k3; clear hr hb q0 q1 q2 q3 r0 r1 hl1 k1 hl2 k2 hl3 k3))
  obtain ⟨W4, hW4⟩ : ∃ W4, W4 = w3.alloc (.cells #[.int .i64 e0, .int .i64 e3, .int .i64 e4, .slice A1 s.out.length c1, .slice A2 s.arrs.length c2, .int .i64 s.steps, .int .i64 s.checks, .slice A3 s.vis.length c3] 43) := ⟨_, rfl⟩
  rw [← hW4]
  have hb4 : Below w3.heap.size w3 W4 := by rw [hW4]; exact (Below.refl _ w3).alloc (Nat.le_refl _) _
  have HB4 : Hid (Below W2.heap.size W2 W4) := hideI (HB3.out.trans (hb4.mono HB3.out.size))
  have hg1 : W4.heap[w3.heap.size]? = some (.cells #[.int .i64 e0, .int .i64 e3, .int .i64 e4, .slice A1 s.out.length c1, .slice A2 s.arrs.length c2, .int .i64 s.steps, .int .i64 s.checks, .slice A3 s.vis.length c3] 43 (0, 0)) := by rw [hW4]; exact heap_alloc_new w3 _
  have HK4 : Hid (∀ W, Below W4.heap.size W4 W → ∀ k, k < s.vis.length → ∃ b off, A3 = some ⟨b, off, none⟩ ∧ W.cell? ⟨b, off + k, none⟩ = some (.int .i64 (s.vis[k]?.getD 0))) := hideI fun W hW k hk => by
    obtain ⟨b, off, h1, h2, h3⟩ := K3.out k hk
    exact ⟨b, off, h1, (hW.cell (Nat.lt_of_lt_of_le h2 hb4.size)).trans ((hb4.cell h2).trans h3)⟩
  obtain ⟨g1, hgg⟩ : ∃ g, g = w3.heap.size := ⟨_, rfl⟩
  rw [← hgg] at hg1 ⊢
  have hg1l : g1 < W4.heap.size := (Array.getElem?_eq_some_iff.1 hg1).1
  have HX1 : Hid (∀ W, Below W4.heap.size W4 W → ∀ o, W.cell? ⟨g1, o, none⟩ = (#[.int .i64 e0, .int .i64 e3, .int .i64 e4, .slice A1 s.out.length c1, .slice A2 s.arrs.length c2, .int .i64 s.steps, .int .i64 s.checks, .slice A3 s.vis.length c3] : Array Value)[o]?) := hideI fun W hW => row_cells hg1 (hW.block _ hg1l)
  have HB7 : Hid (Below w.heap.size w W4) := hideI (HB2.out.trans (HB4.out.mono HB2.out.size))
  have q := HC0.out W4 HB4.out
  have q0 := q 0
  have q1 := q 1
  have q2 := q 2
  have q3 := q 3
  clear q hW4 hb4 hg1 hgg HTR HB3 K3
  rcases HRS.out with ⟨hchk, hend⟩ | ⟨hno, hs, hen⟩
  · have h0 := (check_zero hchk).1
    have hnn : ((0 : Int) != 0) = false := by decide
    have hv := vis_end hchk hend
    have hone := end_ok hend
    have hne : (e0 == 6) = false := by
      have h5 : e0 ≤ 5 := hone.hi
      simp
      omega
    have HV := hideI hv
    have HCHK := hideI hchk
    have hvl := hv.len
    have HVL := hideI hvl
    have HBV := hideI HFI.out.blk
    obtain ⟨Ab, cb, hbv, hbl, kb⟩ := HFI.out.blk
    obtain ⟨nb, hnb⟩ : ∃ n, n = f.blocks.length := ⟨_, rfl⟩
    rw [hvl, ← hnb] at HX1
    rw [← hnb] at hbv
    have hbl512 : nb ≤ 512 := by rw [hnb]; exact (strict_bounds HCHK.out).2.2.2.2
    have HNB := hideI hnb
    have KB := hideI kb
    rw [hbv] at q3
    have HBVE := hideI hbv
    have hlen : ((nb : Int) != (nb : Int)) = false := by simp
    clear hchk hend hv hone hvl hbv hbl kb hnb
    have HPY : Hid (∀ W, Below W2.heap.size W2 W → Calls Tryz.prog 22 #[.agg #[pv, .int .i64 f.arrays, .int .i64 f.cells, .slice (Ab) nb cb]] W (fun e w' => ∃ (g : Nat) (vs : List Value), e = .returned (.tuple #[.slice (some ⟨g, 0, none⟩) nb nb, .int .i64 0]) ∧ Lists w' W.heap.size g f.blocks.length vs (predsAt f.blocks f.blocks.length f.blocks.length 0) ∧ Below W.heap.size W w')) := hideI fun W hW => by
      have h := HP.out W hW
      rw [HBVE.out] at h
      refine h.mono ?_
      rintro e w' (⟨h2, _⟩ | ⟨_, g, vs, h3, h4, h5⟩)
      · exact absurd h0 h2
      · exact ⟨g, vs, by rw [HNB.out]; exact h3, h4, h5⟩
    go_upto_region 7 with (first
      | (go_at_call 22; go_must (refine (HPY.out _ HB4.out).mono ?_); rintro e w6 ⟨g2, vs, rfl, hls, hb⟩; have HLS := hideI hls; have HB6 := hideI hb; have HB8 := hideI hb; have hg2l := hls.lt.2; have HG2 := hideI hls.lt; clear hb hls q0 q1 q2 q3)
      | (go_at_call 20; refine (awake6_any _).mono ?_; rintro e w7 ⟨rfl, hb⟩; have HB67 := hideI hb; replace HB8 := hideI (HB8.out.trans (hb.mono HB8.out.size)); have q := HX1.out w7 HB8.out; have q0 := q 0; have q5 := q 5; have q7 := q 7; clear q hb; have r := HC0.out w7 (HB4.out.trans (HB8.out.mono HB4.out.size)); have r3 := r 3; rw [HBVE.out] at r3; clear r))
    obtain ⟨V, hV⟩ : ∃ V, V = visM s := ⟨_, rfl⟩
    have hv := HV.out
    have hlow := hv.low
    have hzero := hv.zero
    have hcome := hv.come
    have hends := hv.ends
    have hmost := hv.most
    rw [← hV] at hlow hzero hcome hends hmost
    have HLOW : Hid (∀ b, 0 ≤ V b ∧ V b ≤ 2001) := hideI fun b => by have := hlow b; omega
    have HZERO := hideI hzero
    have HCOME := hideI hcome
    have HENDS := hideI hends
    have HMOST := hideI hmost
    -- what lies where, at every world behind awake
    have hcv : ∀ W, Below w7.heap.size w7 W → ∀ b, b < nb → ∃ vb vo, A3 = some ⟨vb, vo, none⟩ ∧ W.cell? ⟨vb, vo + b, none⟩ = some (.int .i64 (V b)) := fun W hW b hb => by
      have hvl := HVL.out
      have hnb := HNB.out
      obtain ⟨vb, vo, h1, h2⟩ := HK4.out W (HB8.out.trans (hW.mono HB8.out.size)) b (by omega)
      exact ⟨vb, vo, h1, by rw [h2, vis_cell (by omega), hV]⟩
    have HCV := hideI hcv
    have hlc : ∀ W, Below w7.heap.size w7 W → ∀ b, b < nb → ∃ A c, W.cell? ⟨g2, b, none⟩ = some (.slice A (predsTo f.blocks f.blocks.length b).length c) ∧ ∀ (k x : Nat), (predsTo f.blocks f.blocks.length b)[k]? = some x → ∃ gb, A = some ⟨gb, 0, none⟩ ∧ gb < W.heap.size ∧ W.cell? ⟨gb, k, none⟩ = some (.int .i64 (x : Int)) := fun W hW b hb =>
      lists_cell ((HLS.out.kept HB67.out).kept hW) (by rw [← HNB.out]; exact hb)
    have HLC := hideI hlc
    have hbw : Below w.heap.size w w7 := HB7.out.trans (HB8.out.mono HB7.out.size)
    have hkb : ∀ W, Below w7.heap.size w7 W → ∀ (b : Nat) (q : BlockM), f.blocks[b]? = some q → ∃ b0 off Ac cc At ct, Ab = some ⟨b0, off, none⟩ ∧ W.cell? ⟨b0, off + b * 6 + 1, none⟩ = some (.slice Ac q.code.length cc) ∧ W.cell? ⟨b0, off + b * 6 + 4, none⟩ = some (.slice At q.term.to.length ct) := fun W hW b q hq => by
      obtain ⟨b0, off, pv1, cv1, tv1, h1, h2, _, h4, _, _, h7, _, _, h10, h11, _⟩ := KB.out b q hq
      obtain ⟨Ac, cc, rfl, _⟩ := h10
      obtain ⟨At, ct, rfl, _⟩ := h11
      have hb := hbw.trans (hW.mono hbw.size)
      exact ⟨b0, off, Ac, cc, At, ct, h1, (hb.cell h2).trans h4, (hb.cell h2).trans h7⟩
    have HKB := hideI hkb
    have HBW := hideI hbw
    have HQ : Hid (∀ W, Below w7.heap.size w7 W → W.cell? ⟨g1, 7, none⟩ = some (.slice A3 nb c3) ∧ W.cell? ⟨w.heap.size, 3, none⟩ = some (.slice Ab nb cb) ∧ W.cell? ⟨g1, 5, none⟩ = some (.int .i64 s.steps)) := hideI fun W hW => by
      have h1 := HX1.out W (HB8.out.trans (hW.mono HB8.out.size))
      have h2 := HC0.out W (HB4.out.trans ((HB8.out.trans (hW.mono HB8.out.size)).mono HB4.out.size))
      rw [HBVE.out] at h2
      exact ⟨h1 7, h2 3, h1 5⟩
    have hlb : ∀ (b : Nat) (q : BlockM), f.blocks[b]? = some q → q.code.length ≤ 4096 := fun b q hq => (strict_fok HCHK.out).codes b q hq
    have HLB := hideI hlb
    obtain ⟨G, hG⟩ : ∃ G : Nat → Int, G = fun b => sumOver (fun k => lenM f k * V k) (List.range b) := ⟨_, rfl⟩
    have hG0 : G 0 = 0 := by rw [hG]; rfl
    have HGS : Hid (∀ b, G (b + 1) = G b + lenM f b * V b) := hideI fun b => by rw [hG]; exact sum_range _ b
    have HGP : Hid (∀ b, b < nb → 0 ≤ lenM f b * V b ∧ lenM f b * V b ≤ 8198097) := hideI fun b hb => by
      have hq := blk_some (f := f) (b := b) (by rw [← HNB.out]; exact hb)
      have h1 := HLB.out b _ hq
      have h2 := HLOW.out b
      have h3 : 0 ≤ lenM f b ∧ lenM f b ≤ 4097 := by unfold lenM; omega
      exact ⟨Int.mul_nonneg h3.1 h2.1, Int.le_trans (Int.mul_le_mul h3.2 h2.2 h2.1 (by decide)) (by decide)⟩
    have HGB : Hid (∀ b, b ≤ nb → 0 ≤ G b ∧ G b ≤ 4197425664) := hideI fun b hb => by
      have := sumOver_bound (g := fun k => lenM f k * V k) (M := 8198097) (l := List.range b) fun k hk => HGP.out k (by have := List.mem_range.1 hk; omega)
      rw [List.length_range] at this
      rw [hG]
      refine ⟨this.1, Int.le_trans this.2 ?_⟩
      have : b ≤ 512 := by omega
      omega
    have HGE : Hid ((s.steps : Int) ≤ G nb) := hideI (by rw [hG, HNB.out]; exact HMOST.out)
    have HG0 := hideI hG0
    clear hlow hzero hcome hends hmost hcv hV hlc hbw hkb hlb hG hG0 q0 q5 q7 r3 hv
    go_loopw [10, 11, 12, 13] (fun x u _ _ wr => ∃ b m : Nat, b ≤ nb ∧ x = .int .i64 (G b) ∧ u = .int .i64 b ∧ wr = w7.drewN m) (fun _ u _ _ _ => nb - (intOf u).toNat)
    case atStart => exact ⟨0, 0, Nat.zero_le _, by rw [HG0.out], by go_num, rfl⟩
    case round =>
      obtain ⟨b, m, hb, rfl, rfl, hwr⟩ := hrel
      have HWR := hideI hwr
      have hbr : Below w7.heap.size w7 wr := by rw [hwr]; exact below_drewN (Below.refl _ _) m
      have HBR := hideI hbr
      obtain ⟨q7, r3, q5⟩ := HQ.out wr hbr
      clear hwr
      by_cases hlt : b < nb
      · obtain ⟨Al, cl, d1, hcell⟩ := HLC.out wr hbr b hlt
        have HCELL := hideI hcell
        obtain ⟨l, hl⟩ : ∃ l, l = predsTo f.blocks f.blocks.length b := ⟨_, rfl⟩
        rw [← hl] at d1 HCELL
        have HLE := hideI hl
        obtain ⟨pl, hpl⟩ : ∃ n, n = l.length := ⟨_, rfl⟩
        have hpl5 : pl ≤ 512 := by
          have hnd : l.Nodup := by rw [hl]; unfold predsTo; exact List.nodup_range.filter _
          have := below_len f.blocks.length l hnd (fun x hx => by rw [hl] at hx; exact predsTo_lt hx)
          have := HNB.out
          omega
        rw [← hpl] at d1
        have HPL := hideI hpl
        obtain ⟨C, hC⟩ : ∃ C : Nat → Int, C = fun j => sumOver V (l.take j) := ⟨_, rfl⟩
        have HC00 : Hid (C 0 = 0) := hideI (by rw [hC]; rfl)
        have HCS : Hid (∀ (j x : Nat), l[j]? = some x → C (j + 1) = C j + V x) := hideI fun j x hx => by rw [hC]; exact sum_take V hx
        have HCB : Hid (∀ j, j ≤ pl → 0 ≤ C j ∧ C j ≤ 1024512) := hideI fun j hj => by
          have := sumOver_bound (g := V) (M := 2001) (l := l.take j) fun k _ => HLOW.out k
          rw [List.length_take] at this
          rw [hC]
          refine ⟨this.1, Int.le_trans this.2 ?_⟩
          have : min j l.length ≤ 512 := by omega
          omega
        have HCE : Hid (0 < b → V b ≤ C pl) := hideI fun h0 => by
          have := HCOME.out b h0 (by rw [← HNB.out]; exact hlt)
          rw [← hl] at this
          rw [hC, hpl]
          simpa using this
        have j1 : (0 : Int) ≤ (b : Int) := by omega
        have j2 : (b : Int) < (nb : Int) := by omega
        clear hcell hl hpl hC q5
        go_wp2
        obtain ⟨wo, rfl⟩ : ∃ wo : World, wo = wr := ⟨_, rfl⟩
        go_loopw [12, 13] (fun c k wr => ∃ j m2 : Nat, j ≤ pl ∧ c = .int .i64 (C j) ∧ k = .int .i64 j ∧ wr = wo.drewN m2) (fun _ k _ => pl - (intOf k).toNat)
        case atStart => exact ⟨0, 0, Nat.zero_le _, by rw [HC00.out], by go_num, rfl⟩
        case round =>
          obtain ⟨j, m2, hj, rfl, rfl, hwr2⟩ := hrel
          have HWR2 := hideI hwr2
          have hbr2 : Below w7.heap.size w7 wr := by rw [hwr2]; exact below_drewN hbr m2
          have HBR2 := hideI hbr2
          have d1' : wr.cell? ⟨g2, b, none⟩ = some (.slice Al pl cl) := by rw [hwr2]; exact d1
          by_cases hltj : j < pl
          · obtain ⟨x, hx⟩ : ∃ x, l[j]? = some x := ⟨_, List.getElem?_eq_getElem (by have := HPL.out; omega)⟩
            have hxl : x < nb := by
              have h1 := List.mem_of_getElem? hx
              rw [HLE.out] at h1
              have := predsTo_lt h1
              have := HNB.out
              omega
            obtain ⟨gb, hA, _, dx⟩ := HCELL.out j x hx
            have dx : wr.cell? ⟨gb, j, none⟩ = some (.int .i64 (x : Int)) := by rw [hwr2]; exact dx
            obtain ⟨vb, vo, hA3, dv⟩ := HCV.out wr hbr2 x hxl
            clear q7 r3
            obtain ⟨q7, _, _⟩ := HQ.out wr hbr2
            have HXX := hideI hx
            have k1 : (0 : Int) ≤ (j : Int) := by omega
            have k2 : (j : Int) < (pl : Int) := by omega
            have k3 : (0 : Int) ≤ (x : Int) := by omega
            have k4 : (x : Int) < (nb : Int) := by omega
            have hsum : IntKind.i64.wrap (C j + V x) = C j + V x := IntWalk.i64_in _ (by have := HCB.out j hj; have := HLOW.out x; omega)
            rw [hA] at d1'
            rw [hA3] at q7
            clear hwr2 hbr2 hx hxl d1 hA hA3
            go_wp2
            go_quiet (fail)
            go_wp2
            go_roundw
            case rel => exact ⟨j + 1, _, by omega, by rw [HCS.out j x HXX.out], by go_num, by rw [HWR2.out]; exact World.drewN_drewN ..⟩
            case measure => simp [intOf]; omega
          · obtain rfl : j = pl := by omega
            have hq := blk_some (f := f) (b := b) (by rw [← HNB.out]; exact hlt)
            obtain ⟨b0, off, Ac, cc, At, ct, hAb, f1, f4⟩ := HKB.out wr hbr2 b _ hq
            obtain ⟨vb, vo, hA3, dv⟩ := HCV.out wr hbr2 b hlt
            clear q7 r3
            obtain ⟨q7, r3, _⟩ := HQ.out wr hbr2
            rw [hAb] at r3
            rw [hA3] at q7
            have hlm : lenM f b = ((blkM f b).code.length : Int) + 1 := rfl
            have hgs := HGS.out b
            have hgp := HGP.out b hlt
            have hgb := HGB.out b (by omega)
            have hkl := HLB.out b _ hq
            have hz := HZERO.out
            have hen := HENDS.out b (by rw [← HNB.out]; exact hlt)
            have hce := HCE.out
            rw [hlm] at hgs hgp
            obtain ⟨kl, hkl2⟩ : ∃ n, n = (blkM f b).code.length := ⟨_, rfl⟩
            obtain ⟨tl, htl⟩ : ∃ n, n = (blkM f b).term.to.length := ⟨_, rfl⟩
            rw [← hkl2] at f1 hgs hgp hkl
            rw [← htl] at f4
            have hprod : IntKind.i64.wrap (((kl : Int) + 1) * V b) = ((kl : Int) + 1) * V b := IntWalk.i64_in _ (by omega)
            have hsumG : IntKind.i64.wrap (G b + ((kl : Int) + 1) * V b) = G b + ((kl : Int) + 1) * V b := IntWalk.i64_in _ (by omega)
            have HGN := hideI hgs
            have hcase : ((b : Int) == 0) = true ∧ ¬ 0 < b ∧ (V b != 1) = false ∨ ((b : Int) == 0) = false ∧ 0 < b ∧ V b ≤ C j := by
              by_cases h : 0 < b
              · exact .inr ⟨by simp; omega, h, hce h⟩
              · have hb0 : b = 0 := by omega
                refine .inl ⟨by simp; omega, h, ?_⟩
                rw [hb0, hz]
                rfl
            have hcase2 : ((tl : Int) == 0) = true ∧ V b ≤ 1 ∨ ((tl : Int) == 0) = false := by
              by_cases h : tl = 0
              · exact .inl ⟨by simp; omega, hen (List.length_eq_zero_iff.1 (by omega))⟩
              · exact .inr (by simp; omega)
            clear hwr2 hbr2 hq hAb hA3 hlm hgs hgp hgb hz hen hce hkl2 htl d1
            rcases hcase with ⟨z1, z2, z3⟩ | ⟨z1, z2, z3⟩
            · rcases hcase2 with ⟨y1, y2⟩ | y1
              · go_wp2
                go_quiet (fail)
                go_wp2
                go_roundw
                case rel => exact ⟨b + 1, _, by omega, by rw [HGN.out], by go_num, by rw [HWR2.out, HWR.out, World.drewN_drewN, World.drewN_drewN]⟩
                case measure => simp [intOf]; omega
              · go_wp2
                go_quiet (fail)
                go_wp2
                go_roundw
                case rel => exact ⟨b + 1, _, by omega, by rw [HGN.out], by go_num, by rw [HWR2.out, HWR.out, World.drewN_drewN, World.drewN_drewN]⟩
                case measure => simp [intOf]; omega
            · rcases hcase2 with ⟨y1, y2⟩ | y1
              · go_wp2
                go_quiet (fail)
                go_wp2
                go_roundw
                case rel => exact ⟨b + 1, _, by omega, by rw [HGN.out], by go_num, by rw [HWR2.out, HWR.out, World.drewN_drewN, World.drewN_drewN]⟩
                case measure => simp [intOf]; omega
              · go_wp2
                go_quiet (fail)
                go_wp2
                go_roundw
                case rel => exact ⟨b + 1, _, by omega, by rw [HGN.out], by go_num, by rw [HWR2.out, HWR.out, World.drewN_drewN, World.drewN_drewN]⟩
                case measure => simp [intOf]; omega
      · have hbn : b = nb := by omega
        subst hbn
        have hge := HGE.out
        go_wp2
        first | go_ret | refine bodyPost_ret (results_tmp rfl _ _ _) (by rfl) ?_
        exact ⟨by simp, HBW.out.trans (HBR.out.mono HBW.out.size)⟩
  · obtain ⟨rfl, h2⟩ := Prod.mk.inj hen
    clear hs hen h2 hno
    have HPW : Hid (∀ W, Below W2.heap.size W2 W → Calls Tryz.prog 22 #[.agg #[pv, .int .i64 f.arrays, .int .i64 f.cells, bv]] W (fun e w' => ∃ (A : Option Addr) (m c : Nat) (x : Int), e = .returned (.tuple #[.slice A m c, .int .i64 x]) ∧ Below W.heap.size W w')) := hideI fun W hW => (HP.out W hW).mono fun e w' h => by
      rcases h with ⟨_, rfl, hb⟩ | ⟨_, g, vs, rfl, _, hb⟩
      · exact ⟨_, _, _, _, rfl, hb⟩
      · exact ⟨_, _, _, _, rfl, hb⟩
    go_wp2_with (first
      | (go_at_call 22; go_must (refine (HPW.out _ HB4.out).mono ?_); rintro e w6 ⟨Ap, mp, cp, x, rfl, hb⟩; have HB8 := hideI hb; clear hb q0 q1 q2 q3)
      | (go_at_call 20; refine (awake6_any _).mono ?_; rintro e w7 ⟨rfl, hb⟩; replace HB8 := hideI (HB8.out.trans (hb.mono HB8.out.size)); (try clear q0); have q := HX1.out w7 HB8.out; have q0 := q 0; clear q hb))
    first | go_ret | refine bodyPost_ret (results_tmp rfl _ _ _) (by rfl) ?_
    exact ⟨rfl, HB7.out.trans (HB8.out.mono HB7.out.size)⟩

theorem u16_nat {x : Int} (h : (Lit.int .u16 x).wf = true) : ∃ a : Nat, x = (a : Int) ∧ a < 65536 := by
  have h3 : IntKind.u16.min ≤ x ∧ x ≤ IntKind.u16.max := by simpa [Lit.wf] using h
  have h1 : (0 : Int) ≤ x := h3.1
  have h2 : x ≤ 65535 := h3.2
  exact ⟨x.toNat, by omega, by omega⟩

set_option maxRecDepth 100000 in
theorem lifted (os : Os) (started : os.Started) (H : Type) (enc : TypeId × Value → H) :
    ReturnsInHanded {} Tryz.checked os 7 .any (Rows.interpVisitsSpec.pre6 enc Tryz.prog Tryz.f7 Rows.interpVisitsRow.domain false) (Rows.interpVisitsSpec.post enc Tryz.prog Tryz.f7 false true false false) := by
  refine returnsInHanded_of_change_sized (C := Tryz.checked) own started (by kernel_rfl) Tryz.func7
    (ChangeSpec.witness6 (enc := enc) (C := Tryz.checked) false ⟨#[], #[.agg #[.slice none 0 0, .int .i64 0, .int .i64 0, .slice none 0 0], .agg #[.slice none 0 0, .slice none 0 0], .int .u16 0], []⟩ 8 (by kernel_rfl) (by kernel_rfl) (by kernel_rfl) (by kernel_rfl)) ?_
  intro W base args ds gs before hval0 hW hcnd hsz _
  have hval : ∀ (j : Nat) t v, Tryz.f7.params[j]? = some t → args[j]? = some v → Value.okWide Tryz.prog W .any base t v := hval0
  have hW' := hW
  obtain ⟨p, q, hA0, hV, rfl, hfz, hnd⟩ := hW
  have hA : DataW.TrodAll enc Tryz.prog W 0 (fun _ => true) true Tryz.f7.params.toList args.toList ds p := hA0
  rw [Tryz.params7] at hA hval
  obtain ⟨v0, vs0, d0, ds0, p0, q0, hargs, rfl, rfl, h0, r0⟩ := trodAll_cons hA
  obtain ⟨v1, vs1, d1, ds1, p1, q1, rfl, rfl, rfl, h1, r1⟩ := trodAll_cons r0
  obtain ⟨v2, vs2, d2, ds2, p2, q2, rfl, rfl, rfl, h2, r2⟩ := trodAll_cons r1
  obtain ⟨rfl, rfl, rfl⟩ := trodAll_nil r2
  obtain rfl : args = #[v0, v1, v2] := by cases args; simp_all
  obtain ⟨rfl, rfl⟩ := trodVars_none hV
  obtain ⟨f, pv, bv, rfl, hF⟩ := open_func (hval 0 25 v0 rfl rfl) h0 hsz (j := 0) rfl rfl
  obtain ⟨I, av, rv, rfl, hI⟩ := open_input (hval 1 41 v1 rfl rfl) h1 hsz (j := 1) rfl rfl
  obtain ⟨x2, rfl, _, _, w2⟩ := open_int Tryz.underlying49 (hval 2 49 v2 rfl rfl) h2
  obtain ⟨a, rfl, ha⟩ := u16_nat w2
  clear hA0 hval0
  refine (walk f I a pv bv av rv W hF hI ha).mono fun e W' ⟨he, hg⟩ => ?_
  subst he
  exact ⟨_, rfl, law_post (by kernel_rfl) hW' rfl (by kernel_rfl) Tryz.underlying4 rfl rfl rfl (by rw [Tryz.params7]; decide +kernel) hg⟩

theorem over : Rows.interpVisitsRow.holds Tryz.pinned (OpenSpec.ofChange Rows.interpVisitsSpec) :=
  OpenClaim.holds_of_wide 7 Tryz.f7 rfl rfl rfl rfl rfl rfl rfl ⟨rfl, rfl, rfl, rfl, rfl⟩ rfl rfl rfl rfl rfl (by kernel_rfl) Tryz.func7 (by kernel_rfl)
    (of_decide_eq_true (by kernel_rfl)) (by unfold Func.isWrapper; first | (rw [if_pos (by decide +kernel)]; kernel_rfl) | (rw [if_neg (by decide +kernel)]; exact ⟨rfl, rfl⟩))
    (fun os started H enc _ => lifted os started H enc)

theorem proved : Rows.InterpVisitsSaid := over
#print axioms proved
end Go.Proofs.YtglbepdjahddmaaGreat.interpVisits
