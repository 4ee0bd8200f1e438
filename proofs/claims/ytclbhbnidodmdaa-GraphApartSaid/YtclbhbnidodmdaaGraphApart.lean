/- What is proved: for every function f, in whatever memory it lies, and every number from, GraphApart answers true: where both edges of an end may be put apart, as many blocks come, each edge has one of its own in the end, and the function that comes is right. No condition. -/
import Derived.Test.YtclbhbnidodmdaaApartM
import Derived.Test.YtclbhbnidodmdaaAwake3
import Derived.Test.YtclbhbnidodmdaaRefCheck
import Derived.Test.YtclbhbnidodmdaaOpen
import Derived.Test.YtclbhbnidodmdaaLaw
import Derived.IntWalk
import Derived.BigQuiet
import Derived.Deep.QuietTactic
namespace Go.Proofs.Ytclbhbnidodmdaa.graphApart
open Go.ChangeShapes Go.WideShapes Go.ChangeAt Go.RowKit

set_option maxRecDepth 100000 in
set_option maxHeartbeats 4000000 in
theorem walk_out (f : FuncM) (pv bv : Value) (m : Int) (w : World) (hF : FnIn w f pv bv) (hn : f.blocks.length = 0 ∨ 200 < f.blocks.length) :
    Calls Try.prog 8 #[.agg #[pv, .int .i64 f.arrays, .int .i64 f.cells, bv], .int .u16 m] w fun e w' => e = .returned (.bool true) ∧ Below w.heap.size w w' := by
  have HF := hideI hF
  have HID := hideI (uses_i64 hF.ok)
  obtain ⟨P, pc, hpv, _⟩ := hF.par
  obtain ⟨A, c, hbv, hcap⟩ := hF.blk
  subst hpv hbv
  have hbl : f.blocks.length ≤ 140737488351232 := hcap.1
  have HB : Hid (Below w.heap.size w (w.alloc (.cells #[.slice P f.params.length pc, .int .i64 f.arrays, .int .i64 f.cells, .slice A f.blocks.length c] 25))) := (Below.refl _ w).alloc (Nat.le_refl _) _
  have HX := hideI (heap_alloc_new w (.cells #[.slice P f.params.length pc, .int .i64 f.arrays, .int .i64 f.cells, .slice A f.blocks.length c] 25))
  clear hF hcap
  by_cases hz : f.blocks.length = 0
  · have hd1 : ((f.blocks.length : Int) == 0) = true := by rw [hz]; rfl
    clear hz
    go_enter Try.func8, Try.ntmps8
    go_wp2_with (first
      | (go_at_call 19; refine (awake3_any _).mono ?_; rintro e w5 ⟨rfl, hb⟩; replace HX := hideI ((hb.block _ (lt_of_heap HX.out)).trans HX.out); have hx := row_cells HX.out rfl; have q3 := hx 3; replace HB := hideI (HB.out.trans (hb.mono HB.out.size)); clear hb hx))
    go_ret
    exact ⟨rfl, HB.out⟩
  · have hd1 : ((f.blocks.length : Int) == 0) = false := by rw [beq_eq_false_iff_ne]; omega
    by_cases hz2 : 200 < f.blocks.length
    · have hd2 : decide ((200 : Int) < (f.blocks.length : Int)) = true := by simp; omega
      go_enter Try.func8, Try.ntmps8
      go_wp2_with (first
        | (go_at_call 19; refine (awake3_any _).mono ?_; rintro e w5 ⟨rfl, hb⟩; replace HX := hideI ((hb.block _ (lt_of_heap HX.out)).trans HX.out); have hx := row_cells HX.out rfl; have q0 := hx 0; have q1 := hx 1; have q2 := hx 2; have q3 := hx 3; replace HB := hideI (HB.out.trans (hb.mono HB.out.size)); clear hb hx))
      go_ret
      exact ⟨rfl, HB.out⟩
    · omega

theorem two_splits {f : FuncM} {x : Nat} {q : BlockM} (h0 : (lookM f).1 = 0) (hq : f.blocks[x]? = some q) (hs2 : splitErr (splitM f x 0) x 1 = 0) :
    ∃ t0 t1 : Int, q.term.to = [t0, t1] ∧ Apart f (splitM (splitM f x 0) x 1) x t0 t1 ∧ (lookM (splitM (splitM f x 0) x 1)).1 = 0 := by
  obtain ⟨g0, ghas, gl, gs⟩ := splitErr_zero hs2
  obtain ⟨i, j, q', e1, e2, hq', hj'⟩ := hasM_yes ghas
  obtain rfl : x = i := by omega
  obtain rfl : 1 = j := by omega
  obtain ⟨q1, hq1, ht1⟩ := splitM_term (i := x) (j := 0) hq
  rw [if_pos rfl] at ht1
  rw [hq1, Option.some.injEq] at hq'
  subst hq'
  rw [ht1, List.length_set] at hj'
  have hf := term_few (look_term h0 q (List.mem_of_getElem? hq))
  have hr := term_in rfl (look_term h0 q (List.mem_of_getElem? hq))
  obtain ⟨t0, t1, ht⟩ : ∃ t0 t1, q.term.to = [t0, t1] := by
    match hm : q.term.to with
    | [] => rw [hm] at hj'; simp at hj'
    | [_] => rw [hm] at hj'; simp at hj'
    | [t0, t1] => exact ⟨t0, t1, rfl⟩
    | _ :: _ :: _ :: _ => rw [hm] at hf; simp at hf
  have h1 := hr t1 (by rw [ht]; simp)
  exact ⟨t0, t1, ht, apart_of hq ht (by omega) (by omega), look_split g0 hq1 (by rw [ht1, List.length_set]; omega) gl gs⟩

theorem read_block {W : World} {B : Nat} {A : Option Addr} {l c : Nat} {bs : List BlockM} {k : Nat} {q : BlockM} (h : BlocksR W B (.slice A l c) bs) (hq : bs[k]? = some q) :
    ∃ g off P pc C cc T tc, A = some ⟨g, off, none⟩ ∧ g < B ∧ W.cell? ⟨g, off + k * 6, none⟩ = some (.slice P q.phis.length pc) ∧ W.cell? ⟨g, off + k * 6 + 1, none⟩ = some (.slice C q.code.length cc) ∧
      W.cell? ⟨g, off + k * 6 + 2, none⟩ = some (.int .i64 q.term.op) ∧ W.cell? ⟨g, off + k * 6 + 3, none⟩ = some (.int .i64 q.term.val) ∧ W.cell? ⟨g, off + k * 6 + 4, none⟩ = some (.slice T q.term.to.length tc) ∧ W.cell? ⟨g, off + k * 6 + 5, none⟩ = some (.int .i64 q.term.n) ∧
      ∀ j t, q.term.to[j]? = some t → ∃ tb u, T = some ⟨tb, u, none⟩ ∧ tb < B ∧ W.cell? ⟨tb, u + j, none⟩ = some (.int .i64 t) := by
  obtain ⟨A', c', he, _, hx⟩ := h
  cases he
  obtain ⟨g, off, pv, cv, tv, hA, hg, d0, d1, d2, d3, d4, d5, hph, hco, hto, _⟩ := hx k q hq
  obtain ⟨P, pc, rfl, _⟩ := hph
  obtain ⟨C, cc, rfl, _⟩ := hco
  obtain ⟨T, tc, rfl, _, ht⟩ := hto
  refine ⟨g, off, P, pc, C, cc, T, tc, hA, hg, d0, d1, d2, d3, d4, d5, fun j t hj => ?_⟩
  obtain ⟨tb, u, hT, htb, hc⟩ := ht j (List.getElem?_eq_some_iff.1 hj).1
  rw [hj] at hc
  exact ⟨tb, u, hT, htb, hc⟩

theorem below_drewN {B : Nat} {w w' : World} (h : Below B w w') (m : Nat) : Below B w (w'.drewN m) := ⟨h.os, h.tape, h.output, h.size, h.block⟩

theorem blocks_nil (w : World) (B : Nat) : BlocksR w B (.slice none 0 0) [] := ⟨none, 0, rfl, by simp, fun k q hq => by simp at hq⟩

theorem nothing_wrong (x y : Int) : splitErr ⟨[], 0, 0, []⟩ x y ≠ 0 := by
  intro h
  have := (look_some_block (splitErr_zero h).1).1
  simp at this

set_option maxRecDepth 100000 in
set_option maxHeartbeats 4000000 in
theorem walk_in (f : FuncM) (pv bv : Value) (a : Nat) (w : World) (hF : FnIn w f pv bv) (hn0 : 0 < f.blocks.length) (hn2 : f.blocks.length ≤ 200) (ha : a < 65536) :
    Calls Try.prog 8 #[.agg #[pv, .int .i64 f.arrays, .int .i64 f.cells, bv], .int .u16 a] w fun e w' => e = .returned (.bool true) ∧ Below w.heap.size w w' := by
  have HF := hideI hF
  have HID := hideI (uses_i64 hF.ok)
  have HFT : Hid (FnFits f) := BlocksR.fits hF.blk
  obtain ⟨P, pc, hpv, _⟩ := hF.par
  obtain ⟨A, cc, hbv, hcap⟩ := hF.blk
  subst hpv hbv
  have HB : Hid (Below w.heap.size w (w.alloc (.cells #[.slice P f.params.length pc, .int .i64 f.arrays, .int .i64 f.cells, .slice A f.blocks.length cc] 25))) := (Below.refl _ w).alloc (Nat.le_refl _) _
  have HX := hideI (heap_alloc_new w (.cells #[.slice P f.params.length pc, .int .i64 f.arrays, .int .i64 f.cells, .slice A f.blocks.length cc] 25))
  obtain ⟨n, hn⟩ : ∃ n, n = f.blocks.length := ⟨_, rfl⟩
  obtain ⟨x, hx⟩ : ∃ x, x = a % n := ⟨_, rfl⟩
  have hxl : x < n := by rw [hx]; exact Nat.mod_lt _ (by omega)
  have hxl : x < f.blocks.length := by omega
  have r1 : Int.tmod (a : Int) (f.blocks.length : Int) = (x : Int) := by rw [← hn, hx]; rfl
  have s1 : (a : Int) % (f.blocks.length : Int) = (x : Int) := by rw [← hn, hx]; omega
  have hd1 : ((f.blocks.length : Int) == 0) = false := by rw [beq_eq_false_iff_ne]; omega
  have hd2 : decide ((200 : Int) < (f.blocks.length : Int)) = false := by simp; omega
  clear hF hcap hx hn
  go_enter Try.func8, Try.ntmps8
  go_wp2_with (first
    | (go_at_call 19; refine (awake3_any _).mono ?_; rintro e w5 ⟨rfl, hb⟩; replace HX := hideI ((hb.block _ (lt_of_heap HX.out)).trans HX.out); have hx := row_cells HX.out rfl; have q0 := hx 0; have q1 := hx 1; have q2 := hx 2; have q3 := hx 3; replace HB := hideI (HB.out.trans (hb.mono HB.out.size)); clear hb hx))
  have hwW : w.heap.size < w5.heap.size := lt_of_heap HX.out
  have HPW : Hid (∀ W2, Below w5.heap.size w5 W2 → Ints W2 w.heap.size (.slice P f.params.length pc) f.params ∧ BlocksR W2 w.heap.size (.slice A f.blocks.length cc) f.blocks ∧ (∀ o, W2.cell? ⟨w.heap.size, o, none⟩ = (#[.slice P f.params.length pc, .int .i64 f.arrays, .int .i64 f.cells, .slice A f.blocks.length cc] : Array Value)[o]?)) := fun W2 hW2 => by
    have h1 : Below w.heap.size w W2 := HB.out.trans (hW2.mono HB.out.size)
    exact ⟨HF.out.par.keeps (Keeps.of_below h1), HF.out.blk.keeps (Keeps.of_below h1), row_cells HX.out (hW2.block _ hwW)⟩
  refine (gSplit_any f (x : Int) 0 w.heap.size _ _ _ (HPW.out _ (Below.refl _ _)).1 (HPW.out _ (Below.refl _ _)).2.1 HB.out.size HID.out).mono ?_
  rintro e w6 (⟨c1, hc1, _, rfl, hb6⟩ | ⟨hs1, i, j, v1, base, A1, p1, A2, p2, hi, hj, rfl, k1, k2, ho, hbs, hbs2, hb6⟩)
  · have hne : (c1 != 0) = true := by simpa using hc1
    have HB6 := hideI hb6
    clear hb6 hc1 q0 q1 q2 q3
    go_wp2_with fail
    refine (gSplit_any ⟨[], 0, 0, []⟩ (x : Int) 1 0 _ _ _ (Ints.nil _ _) (blocks_nil _ _) (Nat.zero_le _) (fun u hu => by simp [usesM] at hu)).mono ?_
    rintro e w7 (⟨c2, hc2, _, rfl, hb7⟩ | ⟨hs2, _⟩)
    · have HB7 := hideI (HB6.out.trans (((Below.refl _ w6).alloc (Nat.le_refl _) _ |>.mono HB6.out.size).trans (hb7.mono (by have := HB6.out.size; simp; omega))))
      clear hb7 hc2
      go_wp2
      go_ret
      exact ⟨rfl, HB.out.trans ((HB7.out.alloc HB7.out.size _).mono HB.out.size)⟩
    · exact absurd hs2 (nothing_wrong _ _)
  · obtain rfl : x = i := by omega
    obtain rfl : 0 = j := by omega
    obtain ⟨hl0, hhas, hl512, hl4096⟩ := splitErr_zero hs1
    obtain ⟨i', j', q, e1, e2, hq, hjq⟩ := hasM_yes hhas
    obtain rfl : x = i' := by omega
    obtain rfl : 0 = j' := by omega
    have hg0 : (lookM (splitM f x 0)).1 = 0 := look_split hl0 hq hjq hl512 hl4096
    have hrd := Owned.reads ho hg0 (split_fits HFT.out)
    rw [k1, k2] at hrd
    have HRD := hideI hrd
    have HB6 := hideI hb6
    have HL0 := hideI hl0
    have HQ := hideI hq
    clear hb6 q0 q1 q2 q3 ho hs1 hi hj e1 e2 hl0 hhas hl512 hl4096 hjq hg0 hrd hq k1 k2 hbs hbs2
    go_wp2_with fail
    have HB7a : Hid (Below w6.heap.size w6 (w6.alloc (.cells #[.slice A1 f.params.length p1, .int .i64 f.arrays, .int .i64 f.cells, .slice A2 (f.blocks.length + 1) p2] 25))) := (Below.refl _ w6).alloc (Nat.le_refl _) _
    refine (gSplit_any (splitM f x 0) (x : Int) 1 w6.heap.size _ _ _ (HRD.out.1.keeps (Keeps.of_below HB7a.out)) (HRD.out.2.keeps (Keeps.of_below HB7a.out)) (by simp) (fun u hu => HID.out u (split_uses HL0.out u hu))).mono ?_
    rintro e w7 (⟨c2, hc2, _, rfl, hb7⟩ | ⟨hs2, i2, j2, v2, base2, A3, p3, A4, p4, hi2, hj2, he, m1, m2, ho2, _, _, hb7⟩)
    · have hne : (c2 != 0) = true := by simpa using hc2
      have HB7 := hideI (HB6.out.trans ((HB7a.out.mono HB6.out.size).trans (hb7.mono (by have := HB6.out.size; simp; omega))))
      clear hb7 hc2
      go_wp2
      go_ret
      exact ⟨rfl, HB.out.trans ((HB7.out.alloc HB7.out.size _).mono HB.out.size)⟩
    · obtain rfl : x = i2 := by omega
      obtain rfl : 1 = j2 := by omega
      have HB7 := hideI (HB6.out.trans ((HB7a.out.mono HB6.out.size).trans (hb7.mono (by have := HB6.out.size; simp; omega))))
      obtain ⟨t0, t1, ht, hap, hh0⟩ := two_splits HL0.out HQ.out hs2
      obtain ⟨H, hH⟩ : ∃ H, H = splitM (splitM f x 0) x 1 := ⟨_, rfl⟩
      have hrd := Owned.reads ho2 (hH ▸ hh0) (split_fits (split_fits HFT.out))
      rw [splitM_len] at he m2
      rw [m1, m2] at hrd
      change e = .returned (.tuple #[.agg #[.slice A3 f.params.length p3, .int .i64 f.arrays, .int .i64 f.cells, .slice A4 (f.blocks.length + 2) p4], .int .i64 0]) at he
      change Ints w7 w7.heap.size (.slice A3 f.params.length p3) _ ∧ BlocksR w7 w7.heap.size (.slice A4 (f.blocks.length + 2) p4) _ at hrd
      rw [← hH] at hrd hap hh0
      subst he
      have HH0 := hideI hh0
      have HRD2 := hideI hrd
      have HAP := hideI hap
      have HHP : Hid (H.params = f.params ∧ H.arrays = f.arrays ∧ H.cells = f.cells) := by rw [hH]; exact ⟨rfl, rfl, rfl⟩
      have HT := hideI ht
      clear hi2 hj2 m1 m2 ho2 hb7 hs2 hh0 hrd hap hH HRD ht
      go_upto_region 8 with fail
      obtain ⟨W8, hW8⟩ : ∃ W8, W8 = w7.alloc (.cells #[.slice A3 f.params.length p3, .int .i64 f.arrays, .int .i64 f.cells, .slice A4 (f.blocks.length + 2) p4] 25) := ⟨_, rfl⟩
      rw [← hW8]
      have HX8 : Hid (W8.heap[w7.heap.size]? = some (.cells #[.slice A3 f.params.length p3, .int .i64 f.arrays, .int .i64 f.cells, .slice A4 (f.blocks.length + 2) p4] 25 (0, 0))) := by rw [hW8]; exact heap_alloc_new w7 _
      have HB8 : Hid (Below w7.heap.size w7 W8) := by rw [hW8]; exact (Below.refl _ w7).alloc (Nat.le_refl _) _
      have h78 : w7.heap.size < W8.heap.size := lt_of_heap HX8.out
      have HT7 : Hid (∀ W2, Below W8.heap.size W8 W2 → Below w7.heap.size w7 W2) := fun W2 h2 => HB8.out.trans (h2.mono HB8.out.size)
      have HBox : Hid (∀ W2, Below W8.heap.size W8 W2 → (∀ o, W2.cell? ⟨w.heap.size, o, none⟩ = (#[.slice P f.params.length pc, .int .i64 f.arrays, .int .i64 f.cells, .slice A f.blocks.length cc] : Array Value)[o]?) ∧ (∀ o, W2.cell? ⟨w7.heap.size, o, none⟩ = (#[.slice A3 f.params.length p3, .int .i64 f.arrays, .int .i64 f.cells, .slice A4 (f.blocks.length + 2) p4] : Array Value)[o]?)) := fun W2 h2 =>
        ⟨(HPW.out W2 (HB7.out.trans ((HT7.out W2 h2).mono HB7.out.size))).2.2, row_cells HX8.out (h2.block _ h78)⟩
      obtain ⟨g1, o1, _, _, _, _, T1, tc1, rfl, hg1, _, _, _, _, a4, _, aT⟩ := read_block (HPW.out w7 HB7.out).2.1 HQ.out
      rw [HT.out] at a4 aT
      obtain ⟨tb1, u1, rfl, htb1, b0⟩ := aT 0 t0 rfl
      obtain ⟨_, _, hTT, _, b1⟩ := aT 1 t1 rfl
      cases hTT
      obtain ⟨_, ⟨q2, hq2, ht2⟩, hone, htwo⟩ := HAP.out
      obtain ⟨g2, o2, _, _, _, _, T2, tc2, rfl, hg2, _, _, _, _, c4, _, cT⟩ := read_block HRD2.out.2 hq2
      rw [ht2] at c4 cT
      obtain ⟨tb2, u2, rfl, htb2, e0⟩ := cT 0 _ rfl
      obtain ⟨_, _, hTT, _, e1⟩ := cT 1 _ rfl
      cases hTT
      have hww : w.heap.size ≤ w7.heap.size := Nat.le_trans HB.out.size HB7.out.size
      have HA : Hid (∀ W2, Below W8.heap.size W8 W2 → W2.cell? ⟨g1, o1 + x * 6 + 4, none⟩ = some (.slice (some ⟨tb1, u1, none⟩) 2 tc1) ∧ W2.cell? ⟨tb1, u1 + 0, none⟩ = some (.int .i64 t0) ∧ W2.cell? ⟨tb1, u1 + 1, none⟩ = some (.int .i64 t1)) := fun W2 h2 => by
        have h3 := HT7.out W2 h2
        exact ⟨(h3.cell (p := ⟨g1, o1 + x * 6 + 4, none⟩) (Nat.lt_of_lt_of_le hg1 hww)).trans a4, (h3.cell (p := ⟨tb1, u1 + 0, none⟩) (Nat.lt_of_lt_of_le htb1 hww)).trans b0, (h3.cell (p := ⟨tb1, u1 + 1, none⟩) (Nat.lt_of_lt_of_le htb1 hww)).trans b1⟩
      have HC : Hid (∀ W2, Below W8.heap.size W8 W2 → W2.cell? ⟨g2, o2 + x * 6 + 4, none⟩ = some (.slice (some ⟨tb2, u2, none⟩) 2 tc2) ∧ W2.cell? ⟨tb2, u2 + 0, none⟩ = some (.int .i64 (f.blocks.length : Int)) ∧ W2.cell? ⟨tb2, u2 + 1, none⟩ = some (.int .i64 ((f.blocks.length : Int) + 1))) := fun W2 h2 => by
        have h3 := HT7.out W2 h2
        exact ⟨(h3.cell (p := ⟨g2, o2 + x * 6 + 4, none⟩) hg2).trans c4, (h3.cell (p := ⟨tb2, u2 + 0, none⟩) htb2).trans e0, (h3.cell (p := ⟨tb2, u2 + 1, none⟩) htb2).trans e1⟩
      have HN : Hid (∀ k : Nat, k < 2 → ∃ t, (k = 0 → t = t0) ∧ (k = 1 → t = t1) ∧ H.blocks[f.blocks.length + k]? = some ⟨[], [], ⟨1, -1, [t], 0⟩⟩) := fun k hk => by
        rcases (show k = 0 ∨ k = 1 by omega) with rfl | rfl
        · exact ⟨t0, fun _ => rfl, fun h => by omega, hone⟩
        · exact ⟨t1, fun h => by omega, fun _ => rfl, htwo⟩
      obtain ⟨fb, hb⟩ := HBox.out W8 (Below.refl _ _)
      have q3 := fb 3
      have k3 := hb 3
      have v4 := (HA.out W8 (Below.refl _ _)).1
      have y4 := (HC.out W8 (Below.refl _ _)).1
      clear hW8 fb hb a4 aT b0 b1 hq2 ht2 hone htwo c4 cT e0 e1 hg1 hg2 htb1 htb2
      go_wp2_with fail
      go_quiet (fail)
      have hd8 : Below W8.heap.size W8 (W8.drewN nq) := below_drewN (Below.refl _ _) nq
      obtain ⟨W, hW⟩ : ∃ W, W = W8.drewN nq := ⟨_, rfl⟩
      rw [← hW] at hd8
      rw [← hW]
      have HD := hideI hd8
      clear hW q3 k3 v4 y4 hd8 r1 s1
      obtain ⟨fb, hb⟩ := HBox.out W HD.out
      have k3 := hb 3
      obtain ⟨_, e0, e1⟩ := HC.out W HD.out
      rw [Nat.add_zero] at e0
      have hl2 : (((f.blocks.length + 2 : Nat) : Int) != (f.blocks.length : Int) + 2) = false := by simp
      clear fb hb
      go_wp2_with fail
      clear k3 e0 e1
      go_loopw [13] (fun u wr => ∃ k : Nat, k ≤ 2 ∧ u = .int .i64 k ∧ Hid (Below W8.heap.size W8 wr)) (fun u _ => 2 - (intOf u).toNat)
      case atStart => exact ⟨0, by omega, rfl, HD⟩
      case round =>
        obtain ⟨k, hk, rfl, HR⟩ := hrel
        obtain ⟨fb, hb⟩ := HBox.out wr HR.out
        have k0 := hb 0
        have k1 := hb 1
        have k2 := hb 2
        have k3 := hb 3
        clear fb hb
        by_cases hlt : k < 2
        · obtain ⟨t, hta, htb, hkb⟩ := HN.out k hlt
          obtain ⟨g3, o3, P3, pc3, C3, cc3, T3, tc3, hA3, hg3, f0, f1, f2, f3, f4, f5, fT⟩ := read_block HRD2.out.2 hkb
          cases hA3
          obtain ⟨tb3, u3, rfl, htb3, z0⟩ := fT 0 t rfl
          have HTK : Hid (∀ W2, Below W8.heap.size W8 W2 → W2.cell? ⟨tb1, u1 + k, none⟩ = some (.int .i64 t)) := fun W2 h2 => by
            rcases (show k = 0 ∨ k = 1 by omega) with rfl | rfl
            · rw [hta rfl]; exact (HA.out W2 h2).2.1
            · rw [htb rfl]; exact (HA.out W2 h2).2.2
          have HG3 : Hid (∀ W2, Below W8.heap.size W8 W2 → W2.cell? ⟨g2, o2 + (f.blocks.length + k) * 6, none⟩ = some (.slice P3 0 pc3) ∧ W2.cell? ⟨g2, o2 + (f.blocks.length + k) * 6 + 1, none⟩ = some (.slice C3 0 cc3) ∧ W2.cell? ⟨g2, o2 + (f.blocks.length + k) * 6 + 2, none⟩ = some (.int .i64 1) ∧ W2.cell? ⟨g2, o2 + (f.blocks.length + k) * 6 + 3, none⟩ = some (.int .i64 (-1)) ∧ W2.cell? ⟨g2, o2 + (f.blocks.length + k) * 6 + 4, none⟩ = some (.slice (some ⟨tb3, u3, none⟩) 1 tc3) ∧ W2.cell? ⟨g2, o2 + (f.blocks.length + k) * 6 + 5, none⟩ = some (.int .i64 0) ∧ W2.cell? ⟨tb3, u3, none⟩ = some (.int .i64 t)) := fun W2 h2 => by
            have h3 := HT7.out W2 h2
            exact ⟨(h3.cell (p := ⟨g2, o2 + (f.blocks.length + k) * 6, none⟩) hg3).trans f0, (h3.cell (p := ⟨g2, o2 + (f.blocks.length + k) * 6 + 1, none⟩) hg3).trans f1, (h3.cell (p := ⟨g2, o2 + (f.blocks.length + k) * 6 + 2, none⟩) hg3).trans f2, (h3.cell (p := ⟨g2, o2 + (f.blocks.length + k) * 6 + 3, none⟩) hg3).trans f3, (h3.cell (p := ⟨g2, o2 + (f.blocks.length + k) * 6 + 4, none⟩) hg3).trans f4, (h3.cell (p := ⟨g2, o2 + (f.blocks.length + k) * 6 + 5, none⟩) hg3).trans f5, (h3.cell (p := ⟨tb3, u3, none⟩) htb3).trans z0⟩
          clear hta htb hkb hg3 f0 f1 f2 f3 f4 f5 fT htb3 z0
          obtain ⟨f0, f1, f2, f3, f4, f5, z0⟩ := HG3.out wr HR.out
          go_wp2_with fail
          obtain ⟨W9, hW9⟩ : ∃ W9, W9 = wr.alloc (.cells #[.int .i64 1, .int .i64 (-1), .slice (some ⟨tb3, u3, none⟩) 1 tc3, .int .i64 0] 50) := ⟨_, rfl⟩
          rw [← hW9]
          have hx9 := row_cells (by rw [hW9]; exact heap_alloc_new wr (.cells #[.int .i64 1, .int .i64 (-1), .slice (some ⟨tb3, u3, none⟩) 1 tc3, .int .i64 0] 50)) (rfl : W9.heap[wr.heap.size]? = _)
          have hb9 : Below W8.heap.size W8 W9 := by rw [hW9]; exact HR.out.alloc HR.out.size _
          have HB9 := hideI hb9
          have t0' := hx9 0
          have t2' := hx9 2
          clear hW9 hx9 hb9 k0 k1 k2 k3 f0 f1 f2 f3 f4 f5 z0
          have k3 := (HBox.out W9 HB9.out).2 3
          obtain ⟨f0, f1, _, _, _, _, z0⟩ := HG3.out W9 HB9.out
          have tk := HTK.out W9 HB9.out
          have htt : (t != t) = false := by simp
          have hwr : IntKind.i64.wrap ((f.blocks.length : Int) + (k : Int)) = (f.blocks.length : Int) + (k : Int) := IntWalk.i64_in _ (by omega)
          go_quiet (fail)
          go_wp2
          go_roundw
          case rel => exact ⟨k + 1, by omega, by go_num, hideI (below_drewN HB9.out _)⟩
          case measure => simp [intOf]; omega
        · obtain rfl : k = 2 := by omega
          have hc := refCheck_any H w7.heap.size _ _ wr (HRD2.out.1.keeps (Keeps.of_below (HT7.out wr HR.out))) (HRD2.out.2.keeps (Keeps.of_below (HT7.out wr HR.out))) (Nat.le_trans HB8.out.size HR.out.size)
          rw [HHP.out.2.1, HHP.out.2.2, HH0.out] at hc
          have HCK := hideI hc
          clear hc
          go_wp2_with (first
            | (go_at_call 15; go_must (refine HCK.out.mono ?_); rintro e w9 ⟨rfl, hb9⟩; have HB9 := hideI hb9; clear hb9))
          go_ret
          have h9 : Below w5.heap.size w5 w9 := HB7.out.trans (((HT7.out wr HR.out).mono HB7.out.size).trans (HB9.out.mono (Nat.le_trans HB7.out.size (HT7.out wr HR.out).size)))
          exact ⟨rfl, HB.out.trans (h9.mono HB.out.size)⟩

theorem u16_nat {x : Int} (h : (Lit.int .u16 x).wf = true) : ∃ a : Nat, x = (a : Int) ∧ a < 65536 := by
  have h3 : IntKind.u16.min ≤ x ∧ x ≤ IntKind.u16.max := by simpa [Lit.wf] using h
  have h4 : 0 ≤ x ∧ x ≤ 65535 := h3
  exact ⟨x.toNat, by omega, by omega⟩

theorem walk (f : FuncM) (pv bv : Value) (a : Nat) (w : World) (hF : FnIn w f pv bv) (ha : a < 65536) :
    Calls Try.prog 8 #[.agg #[pv, .int .i64 f.arrays, .int .i64 f.cells, bv], .int .u16 a] w fun e w' => e = .returned (.bool true) ∧ Below w.heap.size w w' := by
  by_cases h : 0 < f.blocks.length ∧ f.blocks.length ≤ 200
  · exact walk_in f pv bv a w hF h.1 h.2 ha
  · exact walk_out f pv bv a w hF (by omega)

set_option maxRecDepth 100000 in
theorem lifted (os : Os) (started : os.Started) (H : Type) (enc : TypeId × Value → H) :
    ReturnsInHanded {} Try.checked os 8 .any (Rows.graphApartSpec.pre6 enc Try.prog Try.f8 Rows.graphApartRow.domain false) (Rows.graphApartSpec.post enc Try.prog Try.f8 false true false false) := by
  refine returnsInHanded_of_change_sized (C := Try.checked) own started (by kernel_rfl) Try.func8
    (ChangeSpec.witness6 (enc := enc) (C := Try.checked) false ⟨#[], #[.agg #[.slice none 0 0, .int .i64 0, .int .i64 0, .slice none 0 0], .int .u16 0], []⟩ 8 (by kernel_rfl) (by kernel_rfl) (by kernel_rfl) (by kernel_rfl)) ?_
  intro W base args ds gs before hval0 hW hcnd hsz _
  have hval : ∀ (j : Nat) t v, Try.f8.params[j]? = some t → args[j]? = some v → Value.okWide Try.prog W .any base t v := hval0
  have hW' := hW
  obtain ⟨p, q, hA0, hV, rfl, hfz, hnd⟩ := hW
  have hA : DataW.TrodAll enc Try.prog W 0 (fun _ => true) true Try.f8.params.toList args.toList ds p := hA0
  rw [Try.params8] at hA hval
  obtain ⟨v0, vs0, d0, ds0, p0, q0, hargs, rfl, rfl, h0, r0⟩ := trodAll_cons hA
  obtain ⟨v1, vs1, d1, ds1, p1, q1, rfl, rfl, rfl, h1, r1⟩ := trodAll_cons r0
  obtain ⟨rfl, rfl, rfl⟩ := trodAll_nil r1
  obtain rfl : args = #[v0, v1] := by cases args; simp_all
  obtain ⟨rfl, rfl⟩ := trodVars_none hV
  obtain ⟨f, pv, bv, rfl, hF⟩ := open_func (hval 0 25 v0 rfl rfl) h0 hsz (j := 0) rfl rfl
  obtain ⟨x1, rfl, _, _, w1⟩ := open_int Try.underlying48 (hval 1 48 v1 rfl rfl) h1
  obtain ⟨a, rfl, ha⟩ := u16_nat w1
  clear hA0 hval0
  refine (walk f pv bv a W hF ha).mono fun e W' ⟨he, hg⟩ => ?_
  subst he
  exact ⟨_, rfl, law_post (by kernel_rfl) hW' rfl (by kernel_rfl) Try.underlying4 rfl rfl rfl (by rw [Try.params8]; decide +kernel) hg⟩

theorem over : Rows.graphApartRow.holds Try.pinned (OpenSpec.ofChange Rows.graphApartSpec) :=
  OpenClaim.holds_of_wide 8 Try.f8 rfl rfl rfl rfl rfl rfl rfl ⟨rfl, rfl, rfl, rfl, rfl⟩ rfl rfl rfl rfl rfl (by kernel_rfl) Try.func8 (by kernel_rfl)
    (of_decide_eq_true (by kernel_rfl)) (by unfold Func.isWrapper; first | (rw [if_pos (by decide +kernel)]; kernel_rfl) | (rw [if_neg (by decide +kernel)]; exact ⟨rfl, rfl⟩))
    (fun os started H enc _ => lifted os started H enc)

theorem proved : Rows.GraphApartSaid := over
#print axioms proved
end Go.Proofs.Ytclbhbnidodmdaa.graphApart
