/- What GraphPrunes rests on, part 15: RefSame. -/
import Derived.Test.YtncmnbchkabgaaaPkGraphPrunes14
import Derived.IntWalk
import Derived.Outline
import Derived.Deep.RegionHeld3
import Derived.Deep.DeepCutAuto
import Derived.Deep.RegionWith
import Derived.Deep.AppendLies
import Derived.BigQuiet
import Derived.Deep.QuietTactic

namespace Go.Proofs.Ytncmnbchkabgaaa
open Go.RowKit

/-- two boxes -/
structure TwoAt (W0 wx : World) (g6 g7 : Nat) (cs ds : Array Value) (t : TypeId) : Prop where
  one : wx.heap[g6]? = some (.cells cs t (0, 0))
  two : wx.heap[g7]? = some (.cells ds t (0, 0))
  below : Below W0.heap.size W0 wx

theorem TwoAt.ab {W0 wr : World} (h : Below W0.heap.size W0 wr) (cs ds : Array Value) (t : TypeId) : TwoAt W0 ((wr.alloc (.cells cs t)).alloc (.cells ds t)).drew wr.heap.size (wr.heap.size + 1) cs ds t := by
  refine ⟨?_, ?_, ((h.alloc h.size _).alloc (by have := h.size; simp; omega) _).drew⟩
  · show ((wr.alloc (.cells cs t)).alloc (.cells ds t)).heap[wr.heap.size]? = _
    rw [Below.heap_alloc _ _ _ (by simp)]
    exact heap_alloc_new wr _
  · show ((wr.alloc (.cells cs t)).alloc (.cells ds t)).heap[wr.heap.size + 1]? = _
    have := heap_alloc_new (wr.alloc (.cells cs t)) (.cells ds t)
    simpa using this

theorem TwoAt.ba {W0 wr : World} (h : Below W0.heap.size W0 wr) (cs ds : Array Value) (t : TypeId) : TwoAt W0 ((wr.alloc (.cells ds t)).alloc (.cells cs t)).drew (wr.heap.size + 1) wr.heap.size cs ds t :=
  ⟨(TwoAt.ab h ds cs t).two, (TwoAt.ab h ds cs t).one, (TwoAt.ab h ds cs t).below⟩

theorem below_drew2 {B : Nat} {w w' : World} (h : Below B w w') (m : Nat) : Below B w (w'.drewN m) := ⟨h.os, h.tape, h.output, h.size, h.block⟩

set_option maxRecDepth 100000 in
set_option maxHeartbeats 4000000 in
theorem sameBlock_yes (b : BlockM) (B : Nat) (pv cv tv pv' cv' tv' : Value) (w : World) (hp : PhisR w B pv b.phis) (hc : CodeR w B cv b.code) (ht : Ints w B tv b.term.to) (hp' : PhisR w B pv' b.phis) (hc' : CodeR w B cv' b.code) (ht' : Ints w B tv' b.term.to) (hB : B ≤ w.heap.size) :
    Calls Try.prog 20 #[.agg #[pv, cv, .int .i64 b.term.op, .int .i64 b.term.val, tv, .int .i64 b.term.n], .agg #[pv', cv', .int .i64 b.term.op, .int .i64 b.term.val, tv', .int .i64 b.term.n]] w fun e w' => e = .returned (.bool true) ∧ Below w.heap.size w w' := by
  have HP := hideI hp
  have HC := hideI hc
  have HT := hideI ht
  have HP' := hideI hp'
  have HC' := hideI hc'
  have HT' := hideI ht'
  obtain ⟨A, c, rfl, hpm, _⟩ := hp
  obtain ⟨A', c', rfl, _, _⟩ := hp'
  obtain ⟨C, d, rfl, hcm, _⟩ := hc
  obtain ⟨C', d', rfl, _, _⟩ := hc'
  obtain ⟨W0, hW0⟩ : ∃ W0, W0 = (w.alloc (.cells #[.slice A b.phis.length c, .slice C b.code.length d, .int .i64 b.term.op, .int .i64 b.term.val, tv, .int .i64 b.term.n] 46)).alloc (.cells #[.slice A' b.phis.length c', .slice C' b.code.length d', .int .i64 b.term.op, .int .i64 b.term.val, tv', .int .i64 b.term.n] 46) := ⟨_, rfl⟩
  have hB0 : Below w.heap.size w W0 := by rw [hW0]; exact ((Below.refl _ w).alloc (Nat.le_refl _) _).alloc (by simp) _
  have hs0 : W0.heap.size = w.heap.size + 2 := by rw [hW0]; simp
  have hb1 : W0.heap[w.heap.size]? = some (.cells #[.slice A b.phis.length c, .slice C b.code.length d, .int .i64 b.term.op, .int .i64 b.term.val, tv, .int .i64 b.term.n] 46 (0, 0)) := by
    rw [hW0, Below.heap_alloc _ _ _ (by simp)]
    exact heap_alloc_new w _
  have hb2 : W0.heap[w.heap.size + 1]? = some (.cells #[.slice A' b.phis.length c', .slice C' b.code.length d', .int .i64 b.term.op, .int .i64 b.term.val, tv', .int .i64 b.term.n] 46 (0, 0)) := by
    rw [hW0]
    have := heap_alloc_new (w.alloc (.cells #[.slice A b.phis.length c, .slice C b.code.length d, .int .i64 b.term.op, .int .i64 b.term.val, tv, .int .i64 b.term.n] 46)) (.cells #[.slice A' b.phis.length c', .slice C' b.code.length d', .int .i64 b.term.op, .int .i64 b.term.val, tv', .int .i64 b.term.n] 46)
    simpa using this
  have HW0 := hideI hW0
  have HB0 := hideI hB0
  have HS0 := hideI hs0
  have G0 : Hid (∀ W, Below W0.heap.size W0 W → (∀ o, W.cell? ⟨w.heap.size, o, none⟩ = (#[.slice A b.phis.length c, .slice C b.code.length d, .int .i64 b.term.op, .int .i64 b.term.val, tv, .int .i64 b.term.n] : Array Value)[o]?) ∧ (∀ o, W.cell? ⟨w.heap.size + 1, o, none⟩ = (#[.slice A' b.phis.length c', .slice C' b.code.length d', .int .i64 b.term.op, .int .i64 b.term.val, tv', .int .i64 b.term.n] : Array Value)[o]?)) := fun W hW =>
    ⟨row_cells hb1 (hW.block w.heap.size (by omega)), row_cells hb2 (hW.block (w.heap.size + 1) (by omega))⟩
  have HK : Hid (∀ W, Below W0.heap.size W0 W → Keeps B w W) := fun W hW => Keeps.of_below ((HB0.out.trans (hW.mono (by omega))).mono hB)
  obtain ⟨q1, q2⟩ := G0.out W0 (Below.refl _ _)
  have a0 := q1 0
  have a1 := q1 1
  have a2 := q1 2
  have a3 := q1 3
  have a4 := q1 4
  have a5 := q1 5
  have b0 := q2 0
  have b1 := q2 1
  have b2 := q2 2
  have b3 := q2 3
  have b4 := q2 4
  have b5 := q2 5
  clear hW0 hB0 hs0 hb1 hb2 q1 q2
  go_enter Try.func20, Try.ntmps20
  go_upto_region 1 with fail
  rw [← HW0.out]
  have e1 : (b.term.op != b.term.op) = false := by simp
  have e2 : (b.term.val != b.term.val) = false := by simp
  have e3 : (b.term.n != b.term.n) = false := by simp
  have e4 : ((b.phis.length : Int) != (b.phis.length : Int)) = false := by simp
  have e5 : ((b.code.length : Int) != (b.code.length : Int)) = false := by simp
  go_wp2_with (first
    | (go_at_call 19; go_must (refine (sameInts_any _ B _ _ b.term.to b.term.to (HT.out.keeps (HK.out _ (Below.refl _ _))) (HT'.out.keeps (HK.out _ (Below.refl _ _)))).mono ?_); rintro e w1 ⟨rfl, m1, rfl⟩; rw [beq_self_eq_true]))
  clear a0 a1 a2 a3 a4 a5 b0 b1 b2 b3 b4 b5
  go_loopw [5] (fun u wr => ∃ k : Nat, k ≤ b.phis.length ∧ u = .int .i64 k ∧ Hid (Below W0.heap.size W0 wr)) (fun u _ => b.phis.length - (intOf u).toNat)
  case atStart => exact ⟨0, Nat.zero_le _, rfl, hideI (below_drew2 (Below.refl _ _) _)⟩
  case round =>
    obtain ⟨k, hk, rfl, HR⟩ := hrel
    obtain ⟨q1, q2⟩ := G0.out wr HR.out
    have a0 := q1 0
    have b0 := q2 0
    by_cases hlt : k < b.phis.length
    · clear q1 q2
      obtain ⟨p, hp⟩ : ∃ p, b.phis[k]? = some p := ⟨_, List.getElem?_eq_getElem hlt⟩
      obtain ⟨_, _, hh, _, hx⟩ := HP.out
      cases hh
      obtain ⟨g1, o1, fv, vv, rfl, hg1, c0, c1, c2, c3, hf, hv, _⟩ := hx k p hp
      obtain ⟨_, _, hh, _, hx'⟩ := HP'.out
      cases hh
      obtain ⟨g2, o2, fv', vv', rfl, hg2, f0, f1, f2, f3, hf', hv', _⟩ := hx' k p hp
      have HF := hideI hf
      have HV := hideI hv
      have HF' := hideI hf'
      have HV' := hideI hv'
      obtain ⟨F, fc, rfl, _⟩ := hf
      obtain ⟨V, vc, rfl, _⟩ := hv
      obtain ⟨F', fc', rfl, _⟩ := hf'
      obtain ⟨V', vc', rfl, _⟩ := hv'
      have G8 : Hid (∀ W2, Below W0.heap.size W0 W2 → W2.cell? ⟨w.heap.size, 0, none⟩ = some (.slice (some ⟨g1, o1, none⟩) b.phis.length c) ∧ W2.cell? ⟨w.heap.size + 1, 0, none⟩ = some (.slice (some ⟨g2, o2, none⟩) b.phis.length c') ∧ W2.cell? ⟨g1, o1 + k * 4, none⟩ = some (.int .i64 p.id) ∧ W2.cell? ⟨g1, o1 + k * 4 + 1, none⟩ = some (.int .i64 p.typ) ∧ W2.cell? ⟨g1, o1 + k * 4 + 2, none⟩ = some (.slice F p.fr.length fc) ∧ W2.cell? ⟨g1, o1 + k * 4 + 3, none⟩ = some (.slice V p.vals.length vc) ∧ W2.cell? ⟨g2, o2 + k * 4, none⟩ = some (.int .i64 p.id) ∧ W2.cell? ⟨g2, o2 + k * 4 + 1, none⟩ = some (.int .i64 p.typ) ∧ W2.cell? ⟨g2, o2 + k * 4 + 2, none⟩ = some (.slice F' p.fr.length fc') ∧ W2.cell? ⟨g2, o2 + k * 4 + 3, none⟩ = some (.slice V' p.vals.length vc')) := fun W2 h2 => by
        have hkp := HK.out W2 h2
        obtain ⟨r1, r2⟩ := G0.out W2 h2
        exact ⟨r1 0, r2 0, (hkp _ _ hg1).trans c0, (hkp _ _ hg1).trans c1, (hkp _ _ hg1).trans c2, (hkp _ _ hg1).trans c3, (hkp _ _ hg2).trans f0, (hkp _ _ hg2).trans f1, (hkp _ _ hg2).trans f2, (hkp _ _ hg2).trans f3⟩
      clear hp hx hx' c0 c1 c2 c3 f0 f1 f2 f3 a0 b0
      obtain ⟨a0, b0, c0, c1, c2, c3, f0, f1, f2, f3⟩ := G8.out wr HR.out
      go_upto_region 6 with fail
      go_cut [6, 7] (fun s6 s7 wx => ∃ g6 g7 : Nat, s6 = .pointer (some ⟨g6, 0, none⟩) ∧ s7 = .pointer (some ⟨g7, 0, none⟩) ∧ Hid (TwoAt W0 wx g6 g7 #[.int .i64 p.id, .int .i64 p.typ, .slice F p.fr.length fc, .slice V p.vals.length vc] #[.int .i64 p.id, .int .i64 p.typ, .slice F' p.fr.length fc', .slice V' p.vals.length vc'] 49))
      case first =>
        go_region_held3 (fun w' => w'.cell? ⟨w.heap.size, 0, none⟩ = some (.slice (some ⟨g1, o1, none⟩) b.phis.length c) ∧ w'.cell? ⟨w.heap.size + 1, 0, none⟩ = some (.slice (some ⟨g2, o2, none⟩) b.phis.length c') ∧ w'.cell? ⟨g1, o1 + k * 4, none⟩ = some (.int .i64 p.id) ∧ w'.cell? ⟨g1, o1 + k * 4 + 1, none⟩ = some (.int .i64 p.typ) ∧ w'.cell? ⟨g1, o1 + k * 4 + 2, none⟩ = some (.slice F p.fr.length fc) ∧ w'.cell? ⟨g1, o1 + k * 4 + 3, none⟩ = some (.slice V p.vals.length vc) ∧ w'.cell? ⟨g2, o2 + k * 4, none⟩ = some (.int .i64 p.id) ∧ w'.cell? ⟨g2, o2 + k * 4 + 1, none⟩ = some (.int .i64 p.typ) ∧ w'.cell? ⟨g2, o2 + k * 4 + 2, none⟩ = some (.slice F' p.fr.length fc') ∧ w'.cell? ⟨g2, o2 + k * 4 + 3, none⟩ = some (.slice V' p.vals.length vc')) (first | go_keep) (fail)
        all_goals (go_wp2_with fail; go_meet)
        · exact ⟨_, _, rfl, rfl, hideI (TwoAt.ab HR.out _ _ _)⟩
        · exact ⟨_, _, rfl, rfl, hideI (TwoAt.ba HR.out _ _ _)⟩
      case rest =>
        obtain ⟨g6, g7, rfl, rfl, HTW⟩ := hcut
        clear a0 b0 c0 c1 c2 c3 f0 f1 f2 f3
        have hx := row_cells HTW.out.one rfl
        have r0 := hx 0
        have r1 := hx 1
        have r2 := hx 2
        have r3 := hx 3
        have hy := row_cells HTW.out.two rfl
        have s0 := hy 0
        have s1 := hy 1
        have s2 := hy 2
        have s3 := hy 3
        have i1 : (p.id != p.id) = false := by simp
        have i2 : (p.typ != p.typ) = false := by simp
        clear hx hy
        go_wp2_with fail
        refine (sameInts_any _ B _ _ p.fr p.fr (HF.out.keeps (HK.out _ HTW.out.below)) (HF'.out.keeps (HK.out _ HTW.out.below))).mono ?_
        rintro e w1 ⟨rfl, m1, rfl⟩
        rw [beq_self_eq_true]
        go_wp2_with fail
        refine (sameInts_any _ B _ _ p.vals p.vals (HV.out.keeps (HK.out _ (below_drew2 HTW.out.below _))) (HV'.out.keeps (HK.out _ (below_drew2 HTW.out.below _)))).mono ?_
        rintro e w1 ⟨rfl, m2, rfl⟩
        rw [beq_self_eq_true]
        go_wp2_with fail
        go_roundw
        case rel => exact ⟨k + 1, by omega, by go_num, hideI (below_drew2 HTW.out.below _)⟩
        case measure => simp [intOf]; omega
    · have a1 := q1 1
      have b1 := q2 1
      clear q1 q2
      go_wp2_with fail
      clear a1 b1
      go_loopw [8] (fun u wr => ∃ k : Nat, k ≤ b.code.length ∧ u = .int .i64 k ∧ Hid (Below W0.heap.size W0 wr)) (fun u _ => b.code.length - (intOf u).toNat)
      case atStart => exact ⟨0, Nat.zero_le _, rfl, HR⟩
      case round =>
        obtain ⟨k, hk, rfl, HR⟩ := hrel
        obtain ⟨q1, q2⟩ := G0.out wr HR.out
        have a1 := q1 1
        have b1 := q2 1
        by_cases hlt : k < b.code.length
        · clear q1 q2
          obtain ⟨p, hp⟩ : ∃ p, b.code[k]? = some p := ⟨_, List.getElem?_eq_getElem hlt⟩
          obtain ⟨_, _, hh, _, hx⟩ := HC.out
          cases hh
          obtain ⟨g1, o1, av, rfl, hg1, c0, c1, c2, c3, hf, _⟩ := hx k p hp
          obtain ⟨_, _, hh, _, hx'⟩ := HC'.out
          cases hh
          obtain ⟨g2, o2, av', rfl, hg2, f0, f1, f2, f3, hf', _⟩ := hx' k p hp
          have HF := hideI hf
          have HF' := hideI hf'
          obtain ⟨F, fc, rfl, _⟩ := hf
          obtain ⟨F', fc', rfl, _⟩ := hf'
          have G8 : Hid (∀ W2, Below W0.heap.size W0 W2 → W2.cell? ⟨w.heap.size, 1, none⟩ = some (.slice (some ⟨g1, o1, none⟩) b.code.length d) ∧ W2.cell? ⟨w.heap.size + 1, 1, none⟩ = some (.slice (some ⟨g2, o2, none⟩) b.code.length d') ∧ W2.cell? ⟨g1, o1 + k * 4, none⟩ = some (.int .i64 p.op) ∧ W2.cell? ⟨g1, o1 + k * 4 + 1, none⟩ = some (.int .i64 p.id) ∧ W2.cell? ⟨g1, o1 + k * 4 + 2, none⟩ = some (.slice F p.args.length fc) ∧ W2.cell? ⟨g1, o1 + k * 4 + 3, none⟩ = some (.int .i64 p.n) ∧ W2.cell? ⟨g2, o2 + k * 4, none⟩ = some (.int .i64 p.op) ∧ W2.cell? ⟨g2, o2 + k * 4 + 1, none⟩ = some (.int .i64 p.id) ∧ W2.cell? ⟨g2, o2 + k * 4 + 2, none⟩ = some (.slice F' p.args.length fc') ∧ W2.cell? ⟨g2, o2 + k * 4 + 3, none⟩ = some (.int .i64 p.n)) := fun W2 h2 => by
            have hkp := HK.out W2 h2
            obtain ⟨r1, r2⟩ := G0.out W2 h2
            exact ⟨r1 1, r2 1, (hkp _ _ hg1).trans c0, (hkp _ _ hg1).trans c1, (hkp _ _ hg1).trans c2, (hkp _ _ hg1).trans c3, (hkp _ _ hg2).trans f0, (hkp _ _ hg2).trans f1, (hkp _ _ hg2).trans f2, (hkp _ _ hg2).trans f3⟩
          clear hp hx hx' c0 c1 c2 c3 f0 f1 f2 f3 a1 b1
          obtain ⟨a1, b1, c0, c1, c2, c3, f0, f1, f2, f3⟩ := G8.out wr HR.out
          go_upto_region 12 with fail
          go_cut [9, 10] (fun s9 s10 wx => ∃ g6 g7 : Nat, s9 = .pointer (some ⟨g6, 0, none⟩) ∧ s10 = .pointer (some ⟨g7, 0, none⟩) ∧ Hid (TwoAt W0 wx g6 g7 #[.int .i64 p.op, .int .i64 p.id, .slice F p.args.length fc, .int .i64 p.n] #[.int .i64 p.op, .int .i64 p.id, .slice F' p.args.length fc', .int .i64 p.n] 53))
          case first =>
            go_region_held3 (fun w' => w'.cell? ⟨w.heap.size, 1, none⟩ = some (.slice (some ⟨g1, o1, none⟩) b.code.length d) ∧ w'.cell? ⟨w.heap.size + 1, 1, none⟩ = some (.slice (some ⟨g2, o2, none⟩) b.code.length d') ∧ w'.cell? ⟨g1, o1 + k * 4, none⟩ = some (.int .i64 p.op) ∧ w'.cell? ⟨g1, o1 + k * 4 + 1, none⟩ = some (.int .i64 p.id) ∧ w'.cell? ⟨g1, o1 + k * 4 + 2, none⟩ = some (.slice F p.args.length fc) ∧ w'.cell? ⟨g1, o1 + k * 4 + 3, none⟩ = some (.int .i64 p.n) ∧ w'.cell? ⟨g2, o2 + k * 4, none⟩ = some (.int .i64 p.op) ∧ w'.cell? ⟨g2, o2 + k * 4 + 1, none⟩ = some (.int .i64 p.id) ∧ w'.cell? ⟨g2, o2 + k * 4 + 2, none⟩ = some (.slice F' p.args.length fc') ∧ w'.cell? ⟨g2, o2 + k * 4 + 3, none⟩ = some (.int .i64 p.n)) (first | go_keep) (fail)
            all_goals (go_wp2_with fail; go_meet)
            · exact ⟨_, _, rfl, rfl, hideI (TwoAt.ab HR.out _ _ _)⟩
            · exact ⟨_, _, rfl, rfl, hideI (TwoAt.ba HR.out _ _ _)⟩
          case rest =>
            obtain ⟨g6, g7, rfl, rfl, HTW⟩ := hcut
            clear a1 b1 c0 c1 c2 c3 f0 f1 f2 f3
            have hx := row_cells HTW.out.one rfl
            have r0 := hx 0
            have r1 := hx 1
            have r2 := hx 2
            have r3 := hx 3
            have hy := row_cells HTW.out.two rfl
            have s0 := hy 0
            have s1 := hy 1
            have s2 := hy 2
            have s3 := hy 3
            have i1 : (p.op != p.op) = false := by simp
            have i2 : (p.id != p.id) = false := by simp
            have i3 : (p.n != p.n) = false := by simp
            clear hx hy
            go_wp2_with fail
            refine (sameInts_any _ B _ _ p.args p.args (HF.out.keeps (HK.out _ HTW.out.below)) (HF'.out.keeps (HK.out _ HTW.out.below))).mono ?_
            rintro e w1 ⟨rfl, m1, rfl⟩
            rw [beq_self_eq_true]
            go_wp2_with fail
            go_roundw
            case rel => exact ⟨k + 1, by omega, by go_num, hideI (below_drew2 HTW.out.below _)⟩
            case measure => simp [intOf]; omega
        · clear q1 q2
          go_wp2_with fail
          go_ret
          exact ⟨rfl, HB0.out.trans (HR.out.mono (by rw [HS0.out]; omega))⟩

set_option maxRecDepth 100000 in
set_option maxHeartbeats 4000000 in
theorem same_yes (f : FuncM) (B : Nat) (pv bv pv' bv' : Value) (w : World) (hp : Ints w B pv f.params) (hb : BlocksR w B bv f.blocks) (hp' : Ints w B pv' f.params) (hb' : BlocksR w B bv' f.blocks) (hB : B ≤ w.heap.size) :
    Calls Try.prog 8 #[.agg #[pv, .int .i64 f.arrays, .int .i64 f.cells, bv], .agg #[pv', .int .i64 f.arrays, .int .i64 f.cells, bv']] w fun e w' => e = .returned (.bool true) ∧ Below w.heap.size w w' := by
  have HP := hideI hp
  have HP' := hideI hp'
  have HBL := hideI hb
  have HBL' := hideI hb'
  obtain ⟨P, pc, rfl, _⟩ := hp
  obtain ⟨P', pc', rfl, _⟩ := hp'
  obtain ⟨A, c, rfl, hbm, _⟩ := hb
  obtain ⟨A', c', rfl, _, _⟩ := hb'
  obtain ⟨W0, hW0⟩ : ∃ W0, W0 = (w.alloc (.cells #[.slice P f.params.length pc, .int .i64 f.arrays, .int .i64 f.cells, .slice A f.blocks.length c] 25)).alloc (.cells #[.slice P' f.params.length pc', .int .i64 f.arrays, .int .i64 f.cells, .slice A' f.blocks.length c'] 25) := ⟨_, rfl⟩
  have hB0 : Below w.heap.size w W0 := by rw [hW0]; exact ((Below.refl _ w).alloc (Nat.le_refl _) _).alloc (by simp) _
  have hs0 : W0.heap.size = w.heap.size + 2 := by rw [hW0]; simp
  have hb1 : W0.heap[w.heap.size]? = some (.cells #[.slice P f.params.length pc, .int .i64 f.arrays, .int .i64 f.cells, .slice A f.blocks.length c] 25 (0, 0)) := by
    rw [hW0, Below.heap_alloc _ _ _ (by simp)]
    exact heap_alloc_new w _
  have hb2 : W0.heap[w.heap.size + 1]? = some (.cells #[.slice P' f.params.length pc', .int .i64 f.arrays, .int .i64 f.cells, .slice A' f.blocks.length c'] 25 (0, 0)) := by
    rw [hW0]
    have := heap_alloc_new (w.alloc (.cells #[.slice P f.params.length pc, .int .i64 f.arrays, .int .i64 f.cells, .slice A f.blocks.length c] 25)) (.cells #[.slice P' f.params.length pc', .int .i64 f.arrays, .int .i64 f.cells, .slice A' f.blocks.length c'] 25)
    simpa using this
  have HW0 := hideI hW0
  have HB0 := hideI hB0
  have HS0 := hideI hs0
  have G0 : Hid (∀ W, Below W0.heap.size W0 W → (∀ o, W.cell? ⟨w.heap.size, o, none⟩ = (#[.slice P f.params.length pc, .int .i64 f.arrays, .int .i64 f.cells, .slice A f.blocks.length c] : Array Value)[o]?) ∧ (∀ o, W.cell? ⟨w.heap.size + 1, o, none⟩ = (#[.slice P' f.params.length pc', .int .i64 f.arrays, .int .i64 f.cells, .slice A' f.blocks.length c'] : Array Value)[o]?)) := fun W hW =>
    ⟨row_cells hb1 (hW.block w.heap.size (by omega)), row_cells hb2 (hW.block (w.heap.size + 1) (by omega))⟩
  have HK : Hid (∀ W, Below W0.heap.size W0 W → Keeps B w W) := fun W hW => Keeps.of_below ((HB0.out.trans (hW.mono (by omega))).mono hB)
  have hBW : B ≤ W0.heap.size := by omega
  obtain ⟨q1, q2⟩ := G0.out W0 (Below.refl _ _)
  have a0 := q1 0
  have a1 := q1 1
  have a2 := q1 2
  have a3 := q1 3
  have b0 := q2 0
  have b1 := q2 1
  have b2 := q2 2
  have b3 := q2 3
  clear hW0 hB0 hs0 hb1 hb2 q1 q2
  go_enter Try.func8, Try.ntmps8
  go_upto_region 1 with fail
  rw [← HW0.out]
  have e1 : (f.arrays != f.arrays) = false := by simp
  have e2 : (f.cells != f.cells) = false := by simp
  have e3 : ((f.blocks.length : Int) != (f.blocks.length : Int)) = false := by simp
  go_wp2_with fail
  refine (sameInts_any _ B _ _ f.params f.params (HP.out.keeps (HK.out _ (Below.refl _ _))) (HP'.out.keeps (HK.out _ (Below.refl _ _)))).mono ?_
  rintro e w1 ⟨rfl, m1, rfl⟩
  rw [beq_self_eq_true]
  have HB1 : Hid (Below W0.heap.size W0 (W0.drewN m1)) := below_drew2 (Below.refl _ _) _
  clear a0 a1 a2 a3 b0 b1 b2 b3
  obtain ⟨q1, q2⟩ := G0.out _ HB1.out
  have a3 := q1 3
  have b3 := q2 3
  clear q1 q2
  go_wp2_with fail
  clear a3 b3
  go_loopw [5] (fun u wr => ∃ k : Nat, k ≤ f.blocks.length ∧ u = .int .i64 k ∧ Hid (Below W0.heap.size W0 wr)) (fun u _ => f.blocks.length - (intOf u).toNat)
  case atStart => exact ⟨0, Nat.zero_le _, rfl, HB1⟩
  case round =>
    obtain ⟨k, hk, rfl, HR⟩ := hrel
    obtain ⟨q1, q2⟩ := G0.out wr HR.out
    have a3 := q1 3
    have b3 := q2 3
    clear q1 q2
    by_cases hlt : k < f.blocks.length
    · obtain ⟨q, hq⟩ : ∃ q, f.blocks[k]? = some q := ⟨_, List.getElem?_eq_getElem hlt⟩
      obtain ⟨_, _, hh, _, hx⟩ := HBL.out
      cases hh
      obtain ⟨g1, o1, hv, cv, tv, rfl, hg1, c0, c1, c2, c3, c4, c5, hph, hco, hto, _⟩ := hx k q hq
      obtain ⟨_, _, hh, _, hx'⟩ := HBL'.out
      cases hh
      obtain ⟨g2, o2, hv', cv', tv', rfl, hg2, f0, f1, f2, f3, f4, f5, hph', hco', hto', _⟩ := hx' k q hq
      have G8 : Hid (∀ W2, Below W0.heap.size W0 W2 → W2.cell? ⟨w.heap.size, 3, none⟩ = some (.slice (some ⟨g1, o1, none⟩) f.blocks.length c) ∧ W2.cell? ⟨w.heap.size + 1, 3, none⟩ = some (.slice (some ⟨g2, o2, none⟩) f.blocks.length c') ∧ W2.cell? ⟨g1, o1 + k * 6, none⟩ = some hv ∧ W2.cell? ⟨g1, o1 + k * 6 + 1, none⟩ = some cv ∧ W2.cell? ⟨g1, o1 + k * 6 + 2, none⟩ = some (.int .i64 q.term.op) ∧ W2.cell? ⟨g1, o1 + k * 6 + 3, none⟩ = some (.int .i64 q.term.val) ∧ W2.cell? ⟨g1, o1 + k * 6 + 4, none⟩ = some tv ∧ W2.cell? ⟨g1, o1 + k * 6 + 5, none⟩ = some (.int .i64 q.term.n) ∧ W2.cell? ⟨g2, o2 + k * 6, none⟩ = some hv' ∧ W2.cell? ⟨g2, o2 + k * 6 + 1, none⟩ = some cv' ∧ W2.cell? ⟨g2, o2 + k * 6 + 2, none⟩ = some (.int .i64 q.term.op) ∧ W2.cell? ⟨g2, o2 + k * 6 + 3, none⟩ = some (.int .i64 q.term.val) ∧ W2.cell? ⟨g2, o2 + k * 6 + 4, none⟩ = some tv' ∧ W2.cell? ⟨g2, o2 + k * 6 + 5, none⟩ = some (.int .i64 q.term.n)) := fun W2 h2 => by
        have hkp := HK.out W2 h2
        obtain ⟨r1, r2⟩ := G0.out W2 h2
        exact ⟨r1 3, r2 3, (hkp _ _ hg1).trans c0, (hkp _ _ hg1).trans c1, (hkp _ _ hg1).trans c2, (hkp _ _ hg1).trans c3, (hkp _ _ hg1).trans c4, (hkp _ _ hg1).trans c5, (hkp _ _ hg2).trans f0, (hkp _ _ hg2).trans f1, (hkp _ _ hg2).trans f2, (hkp _ _ hg2).trans f3, (hkp _ _ hg2).trans f4, (hkp _ _ hg2).trans f5⟩
      have HSB : Hid (∀ W2, Below W0.heap.size W0 W2 → Calls Try.prog 20 #[.agg #[hv, cv, .int .i64 q.term.op, .int .i64 q.term.val, tv, .int .i64 q.term.n], .agg #[hv', cv', .int .i64 q.term.op, .int .i64 q.term.val, tv', .int .i64 q.term.n]] W2 fun e w' => e = .returned (.bool true) ∧ Below W0.heap.size W0 w') := fun W2 h2 => by
        have hkp := HK.out W2 h2
        exact (sameBlock_yes q B _ _ _ _ _ _ W2 (hph.keeps hkp) (hco.keeps hkp) (hto.keeps hkp) (hph'.keeps hkp) (hco'.keeps hkp) (hto'.keeps hkp) (Nat.le_trans hBW h2.size)).mono fun e w' ⟨h1, h3⟩ => ⟨h1, h2.trans (h3.mono h2.size)⟩
      clear hq hx hx' c0 c1 c2 c3 c4 c5 f0 f1 f2 f3 f4 f5 a3 b3 hph hco hto hph' hco' hto'
      obtain ⟨a3, b3, c0, c1, c2, c3, c4, c5, f0, f1, f2, f3, f4, f5⟩ := G8.out wr HR.out
      go_upto_region 6 with fail
      go_region_held3 (fun w' => w'.cell? ⟨w.heap.size, 3, none⟩ = some (.slice (some ⟨g1, o1, none⟩) f.blocks.length c) ∧ w'.cell? ⟨w.heap.size + 1, 3, none⟩ = some (.slice (some ⟨g2, o2, none⟩) f.blocks.length c') ∧ w'.cell? ⟨g1, o1 + k * 6, none⟩ = some hv ∧ w'.cell? ⟨g1, o1 + k * 6 + 1, none⟩ = some cv ∧ w'.cell? ⟨g1, o1 + k * 6 + 2, none⟩ = some (.int .i64 q.term.op) ∧ w'.cell? ⟨g1, o1 + k * 6 + 3, none⟩ = some (.int .i64 q.term.val) ∧ w'.cell? ⟨g1, o1 + k * 6 + 4, none⟩ = some tv ∧ w'.cell? ⟨g1, o1 + k * 6 + 5, none⟩ = some (.int .i64 q.term.n) ∧ w'.cell? ⟨g2, o2 + k * 6, none⟩ = some hv' ∧ w'.cell? ⟨g2, o2 + k * 6 + 1, none⟩ = some cv' ∧ w'.cell? ⟨g2, o2 + k * 6 + 2, none⟩ = some (.int .i64 q.term.op) ∧ w'.cell? ⟨g2, o2 + k * 6 + 3, none⟩ = some (.int .i64 q.term.val) ∧ w'.cell? ⟨g2, o2 + k * 6 + 4, none⟩ = some tv' ∧ w'.cell? ⟨g2, o2 + k * 6 + 5, none⟩ = some (.int .i64 q.term.n)) (first | go_keep | exact G8.out _ hb8)
        (first | (go_at_call 20; refine (HSB.out _ (by exact below_drew2 HR.out 1)).mono ?_; rintro e w8 ⟨rfl, hb8⟩))
      clear a3 b3 c0 c1 c2 c3 c4 c5 f0 f1 f2 f3 f4 f5
      go_wp2
      go_roundw
      case rel => exact ⟨k + 1, by omega, by go_num, hb8⟩
      case measure => simp [intOf]; omega
    · go_wp2_with fail
      go_ret
      exact ⟨rfl, HB0.out.trans (HR.out.mono (by rw [HS0.out]; omega))⟩

end Go.Proofs.Ytncmnbchkabgaaa
