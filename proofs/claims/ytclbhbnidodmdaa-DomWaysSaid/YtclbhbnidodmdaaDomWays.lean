/- What is proved: for every function f and every list of turns, in whatever memory they lie, DomWays answers true: where f is right, each way from block 0 (of up to 60 steps) goes through all that stand above its end, as Idoms tells; where it is not, Idoms answers an error. No condition. -/
import Derived.Test.YtclbhbnidodmdaaAwake4
import Derived.Test.YtclbhbnidodmdaaOpen
import Derived.Test.YtclbhbnidodmdaaLaw
import Derived.IntWalk
import Derived.BigQuiet
import Derived.Deep.QuietTactic
import Derived.Deep.AppendLies
namespace Go.Proofs.Ytclbhbnidodmdaa.domWays
open Go.ChangeShapes Go.WideShapes Go.ChangeAt Go.RowKit

/-- turns: small numbers in memory below B -/
def TurnsR (w : World) (B : Nat) (v : Value) (ts : List Int) : Prop :=
  ∃ A c, v = .slice A ts.length c ∧ ts.length ≤ 9223372036854775807 ∧ ∀ k t, ts[k]? = some t → 0 ≤ t ∧ t ≤ 255 ∧ ∃ b off, A = some ⟨b, off, none⟩ ∧ b < B ∧ w.cell? ⟨b, off + k, none⟩ = some (.int .u8 t)

theorem own_one (w : World) : (w.alloc (.cells #[.int .i64 0] 3)).ownsRow w.heap.size 3 1 (.slice (some ⟨w.heap.size, 0, none⟩) 1 1) 1 (natInts [0]) :=
  ⟨by simp [natInts], .inr ⟨w.heap.size, 1, _, rfl, Nat.le_refl _, heap_alloc_new w _, Nat.le_refl _, by decide, by simp, by simp [natInts]⟩⟩

theorem natInts_snoc (l : List Nat) (x : Nat) : natInts l ++ [.int .i64 (x : Int)] = natInts (l ++ [x]) := by simp [natInts]

/-- where a way has come to, and what it went through -/
structure On (par : Nat → Option Nat) (o : List Nat) (at_ : Nat) (l : List Nat) : Prop where
  mem : at_ ∈ o
  been : ∀ x, Anc par x at_ → x ∈ l

theorem On.next {bs : List BlockM} {o : List Nat} {pl : Nat → Nat} {par : Nat → Option Nat} {at_ b : Nat} {l : List Nat} (hO : Ord (succM bs) o pl) (hD : Done (succM bs) o pl par) (h : On par o at_ l) (hs : b ∈ succM bs at_) : On par o b (l ++ [b]) := by
  have hb := hO.next _ h.mem _ hs
  refine ⟨hb, fun x ha => ?_⟩
  rcases hD.fixed b hb at_ (hD.grown at_ h.mem) hs x ha with rfl | h1
  · simp
  · exact List.mem_append_left _ (h.been x h1)

set_option maxRecDepth 100000 in
set_option maxHeartbeats 2000000 in
theorem walk_no (f : FuncM) (pv bv tv : Value) (w : World) (hF : FnIn w f pv bv) (hno : (lookM f).1 ≠ 0) :
    Calls Try.prog 12 #[.agg #[pv, .int .i64 f.arrays, .int .i64 f.cells, bv], tv] w fun e w' => e = .returned (.bool true) ∧ Below w.heap.size w w' := by
  have HF := hideI hF
  have HID := hideI (uses_i64 hF.ok)
  obtain ⟨P, pc, hpv, _⟩ := hF.par
  obtain ⟨A, c, hbv, _⟩ := hF.blk
  subst hpv hbv
  have HB : Hid (Below w.heap.size w (w.alloc (.cells #[.slice P f.params.length pc, .int .i64 f.arrays, .int .i64 f.cells, .slice A f.blocks.length c] 25))) := (Below.refl _ w).alloc (Nat.le_refl _) _
  have HI := hideI (idoms_any f w.heap.size _ _ (w.alloc (.cells #[.slice P f.params.length pc, .int .i64 f.arrays, .int .i64 f.cells, .slice A f.blocks.length c] 25)) (HF.out.par.keeps (Keeps.of_below HB.out)) (HF.out.blk.keeps (Keeps.of_below HB.out)) HB.out.size HID.out)
  have HNO := hideI hno
  have hn1 : ((lookM f).1 != 0) = true := by simpa using hno
  clear hF hno
  go_enter Try.func12, Try.ntmps12
  go_wp2_with (first
    | (go_at_call 30; go_must (refine HI.out.mono ?_); rintro e w2 (⟨_, rfl, hb⟩ | ⟨hbad, _⟩); rotate_left; (exact absurd hbad HNO.out); replace HB := hideI (HB.out.trans (hb.mono HB.out.size)); clear hb)
    | (go_at_call 32; refine (awake4_any _).mono ?_; rintro e w5 ⟨rfl, hb⟩; replace HB := hideI (HB.out.trans (hb.mono HB.out.size)); clear hb))
  go_ret
  exact ⟨by simp, HB.out⟩

set_option maxRecDepth 100000 in
set_option maxHeartbeats 4000000 in
theorem walk_yes (f : FuncM) (pv bv tv : Value) (ts : List Int) (w : World) (hF : FnIn w f pv bv) (hT : TurnsR w w.heap.size tv ts) (h0 : (lookM f).1 = 0) :
    Calls Try.prog 12 #[.agg #[pv, .int .i64 f.arrays, .int .i64 f.cells, bv], tv] w fun e w' => e = .returned (.bool true) ∧ Below w.heap.size w w' := by
  have HF := hideI hF
  have HID := hideI (uses_i64 hF.ok)
  obtain ⟨P, pc, hpv, _⟩ := hF.par
  obtain ⟨A, c, hbv, _⟩ := hF.blk
  obtain ⟨TA, tc, htv, htl, hts⟩ := hT
  subst hpv hbv htv
  have HTS := hideI hts
  have HB : Hid (Below w.heap.size w (w.alloc (.cells #[.slice P f.params.length pc, .int .i64 f.arrays, .int .i64 f.cells, .slice A f.blocks.length c] 25))) := (Below.refl _ w).alloc (Nat.le_refl _) _
  have HX := hideI (heap_alloc_new w (.cells #[.slice P f.params.length pc, .int .i64 f.arrays, .int .i64 f.cells, .slice A f.blocks.length c] 25))
  have HI := hideI (idoms_any f w.heap.size _ _ (w.alloc (.cells #[.slice P f.params.length pc, .int .i64 f.arrays, .int .i64 f.cells, .slice A f.blocks.length c] 25)) (HF.out.par.keeps (Keeps.of_below HB.out)) (HF.out.blk.keeps (Keeps.of_below HB.out)) HB.out.size HID.out)
  have hnb := look_some_block h0
  have H0 := hideI h0
  have hq1 : ((f.blocks.length : Int) != (f.blocks.length : Int)) = false := by simp
  clear hF h0 hts
  go_enter Try.func12, Try.ntmps12
  go_wp2_with (first
    | (go_at_call 30; go_must (refine HI.out.mono ?_); rintro e w2 (⟨hbad, _⟩ | ⟨_, o, pl, par, capo, gi, rfl, hfs, hdone, hown, hb⟩); (exact absurd H0.out hbad); have HFS := hideI hfs; have HDONE := hideI hdone; have HOWN := hideI hown; replace HX := hideI ((hb.block _ (lt_of_heap HX.out)).trans HX.out); have hx := row_cells HX.out rfl; replace HB := hideI (HB.out.trans (hb.mono HB.out.size)); clear hfs hdone hown hb)
    | (go_at_call 32; refine (awake4_any _).mono ?_; rintro e w5 ⟨rfl, hb⟩; go_must (replace HOWN := hideI (own_kept_below HOWN.out hb (fun k hk => (HOWN.out.lt k hk).2)); clear hx; replace HX := hideI ((hb.block _ (lt_of_heap HX.out)).trans HX.out); have hx := row_cells HX.out rfl; have g3 := hx 3; replace HB := hideI (HB.out.trans (hb.mono HB.out.size)); clear hb)))
  obtain ⟨W, hW⟩ : ∃ W, W = w5.alloc (.cells #[.int .i64 0] 3) := ⟨_, rfl⟩
  have hbw : Below w5.heap.size w5 W := by rw [hW]; exact (Below.refl _ _).alloc (Nat.le_refl _) _
  have HBE : Hid (W.ownsRow w5.heap.size 3 1 (.slice (some ⟨w5.heap.size, 0, none⟩) 1 1) 1 (natInts [0])) := by show World.ownsRow _ _ _ _ _ _ _; rw [hW]; exact own_one w5
  have HBW := hideI hbw
  have hsw : w5.heap.size < W.heap.size := by rw [hW]; simp
  have hws : w.heap.size < w5.heap.size := by have := HB.out.size; exact lt_of_heap HX.out
  rw [← hW]
  clear hW hbw hx g3
  have hgi := HOWN.out.lt gi rfl
  have G0 : Hid (∀ W2, Below w5.heap.size W W2 → W2.cell? ⟨w.heap.size, 3, none⟩ = some (.slice A f.blocks.length c) ∧ (∀ k t, ts[k]? = some t → 0 ≤ t ∧ t ≤ 255 ∧ ∃ b off, TA = some ⟨b, off, none⟩ ∧ W2.cell? ⟨b, off + k, none⟩ = some (.int .u8 t)) ∧ BlocksR W2 w.heap.size (.slice A f.blocks.length c) f.blocks ∧ (∀ b, b < f.blocks.length → W2.cell? ⟨gi, b, none⟩ = some (.int .i64 (topI (par b))))) := by
    intro W2 h2
    have h3 : Below w5.heap.size w5 W2 := HBW.out.trans h2
    have h4 : Below w.heap.size w W2 := HB.out.trans (h3.mono HB.out.size)
    refine ⟨row_cells HX.out (h3.block _ hws) 3, fun k t ht => ?_, HF.out.blk.keeps (Keeps.of_below h4), fun b hb => ?_⟩
    · obtain ⟨h5, h6, b, off, e, hb, hc⟩ := HTS.out k t ht
      exact ⟨h5, h6, b, off, e, (h4.cell (p := ⟨b, off + k, none⟩) hb).trans hc⟩
    · have h5 := own_kept_below HOWN.out h3 (fun k hk => (HOWN.out.lt k hk).2)
      rw [World.ownsRow.cellAt h5 b (by omega)]
      exact tops_at hb
  go_loopw [7, 8, 9] (fun u7 u8 u9 wr => ∃ (i a L : Nat) (l : List Nat) (v : Value), u7 = .int .i64 a ∧ v = u8 ∧ u9 = .int .i64 i ∧ i ≤ 60 ∧ Hid (l.length = i + 1 ∧ L = l.length) ∧ Hid (On par o a l) ∧ Hid (wr.ownsRow w5.heap.size 3 1 v L (natInts l)) ∧ Hid (Below w5.heap.size W wr)) (fun _ _ u9 _ => 60 - (intOf u9).toNat)
  case atStart => exact ⟨0, 0, 1, [0], _, rfl, rfl, rfl, by omega, hideI ⟨rfl, rfl⟩, hideI ⟨HFS.out.ord.zero_mem, fun x h => by simp [HDONE.out.tree.anc_zero h]⟩, HBE, hideI (Below.refl _ _)⟩
  case round =>
    obtain ⟨i, a, L, l, v, rfl, rfl, rfl, hi, HLEN, HON, HV, HBr⟩ := hrel
    obtain ⟨g3, gt, gb, gd⟩ := G0.out wr HBr.out
    have hal := HFS.out.range a HON.out.mem
    have hz := gd 0 hnb.1
    rw [HDONE.out.tree.root] at hz
    simp only [topI] at hz
    have HZ := hideI hz
    obtain ⟨q, hq⟩ : ∃ q, f.blocks[a]? = some q := ⟨_, List.getElem?_eq_getElem hal⟩
    obtain ⟨A', c', e0, _, hbx⟩ := gb
    cases e0
    obtain ⟨ab, off, pq, cq, tv, rfl, hab, x0, x1, x2, x3, x4, x5, _, _, htv, _⟩ := hbx a q hq
    have HTV := hideI htv
    have HSU : Hid (succM f.blocks a = q.term.to.map Int.toNat) := by show _ = _; unfold succM; rw [hq]
    have HEND := hideI (fun t ht => look_ends H0.out q (List.mem_of_getElem? hq) t ht)
    obtain ⟨TO, toc, rfl, htm, _⟩ := htv
    obtain ⟨m, hm⟩ : ∃ m, m = q.term.to.length := ⟨_, rfl⟩
    have HM := hideI hm
    rw [← hm] at x4 htm
    have HGD := hideI gd
    have HGT := hideI gt
    clear hbx hq x0 x1 x2 x3 x5 hm gd gt
    by_cases c1 : i < ts.length
    · by_cases c2 : i < 60
      · by_cases c3 : 0 < m
        · obtain ⟨t, ht⟩ : ∃ t, ts[i]? = some t := ⟨_, List.getElem?_eq_getElem c1⟩
          obtain ⟨ht0, ht1, tb, toff, rfl, hct⟩ := HGT.out i t ht
          obtain ⟨tn, rfl⟩ : ∃ tn : Nat, t = (tn : Int) := ⟨t.toNat, by omega⟩
          obtain ⟨r, hr⟩ : ∃ r, r = tn % m := ⟨_, rfl⟩
          have hrm : r < m := by rw [hr]; exact Nat.mod_lt _ c3
          have hrem1 : (tn : Int) % (m : Int) = (r : Int) := by rw [hr]; omega
          have hrem2 : Int.tmod (tn : Int) (m : Int) = (r : Int) := by rw [hr]; rfl
          have hmz : ((m : Int) == 0) = false := by rw [beq_eq_false_iff_ne]; omega
          obtain ⟨y, hy⟩ : ∃ y, q.term.to[r]? = some y := ⟨_, List.getElem?_eq_getElem (by rw [← HM.out]; exact hrm)⟩
          have hyn := HEND.out y (List.mem_of_getElem? hy)
          obtain ⟨b, rfl⟩ : ∃ b : Nat, y = (b : Int) := ⟨y.toNat, by omega⟩
          have HSUC : Hid (b ∈ succM f.blocks a) := by
            show _ ∈ _
            rw [HSU.out, List.mem_map]
            exact ⟨(b : Int), List.mem_of_getElem? hy, by simp⟩
          obtain ⟨TO', toc', e0, _, hxx⟩ := HTV.out
          cases e0
          obtain ⟨yb, yoff, rfl, _, hcy⟩ := hxx r (by rw [← HM.out]; exact hrm)
          rw [hy] at hcy
          simp only [Option.getD_some] at hcy
          have HON2 := hideI (HON.out.next HFS.out.ord HDONE.out HSUC.out)
          have hbl := HFS.out.range b HON2.out.mem
          obtain ⟨i1, hjx, hy0, hy1, hy2⟩ := info_parts int_info
          have hLi : L = i + 1 := by rw [HLEN.out.2, HLEN.out.1]
          have H63 : Hid (L + 1 ≤ maxLen) := by show _ ≤ _; simp only [maxLen]; omega
          have HBY : Hid ((L + 1) * 8 ≤ 140737488355328) := by show _ ≤ _; omega
          have HBS : Hid (w5.heap.size ≤ wr.heap.size) := by show _ ≤ _; have := HBr.out.size; omega
          clear hxx hr ht hy hLi
          go_wp2_with (first
            | (at_builtin; go_must (refine wpList_append_lies _ rfl _ _ _ rfl w5.heap.size 3 i1 (.int .i64 0) 1 8 Try.underlying22 hjx hy0 hy1 hy2 rfl (by decide) _ _ _ rfl (HV.out.alloc _) ⟨wr.heap.size, 0, none⟩ 1 1 [.int .i64 b] rfl rfl (one_new wr _) (by simp [Value.oneCell']) (by decide) H63.out HBY.out (by have := HBS.out; simp; omega) _ rfl ?_); intro g1 cap1 w3 hown1 hgrow1 hor1 _; go_must (rw [natInts_snoc] at hown1; have HV3 := hideI hown1; have HB3 : Hid (Below w5.heap.size W w3) := (HBr.out.alloc HBS.out _).grown hgrow1 (by simp; have := HBS.out; omega) (fun k hk => (HV.out.lt k hk).1); clear hown1 hgrow1 hor1)))
          obtain ⟨_, _, _, gd3⟩ := G0.out w3 HB3.out
          have HGD3 := hideI gd3
          have hLi2 : (l ++ [b]).length ≤ 100000 := by rw [List.length_append, HLEN.out.1]; simp; omega
          have HINT := hideI (nat_ints HV3.out hLi2)
          have HIN : Hid (∀ dd, Anc par dd b → decide ((dd : Int) ∈ (l ++ [b]).map fun (x : Nat) => (x : Int)) = true) := fun dd ha => by rw [decide_eq_true_iff, mem_nat]; exact HON2.out.been dd ha
          have hn5 := hnb.2
          clear gd3 hLi2 hjx hy0 hy1 hy2 hrem1 hrem2 hmz hct hcy x4 g3 hz
          obtain ⟨wo, rfl⟩ : ∃ wo : World, wo = w3 := ⟨_, rfl⟩
          go_loopw [11, 12] (fun u11 u12 wr => ∃ b2 k : Nat, k ≤ f.blocks.length ∧ u11 = .int .i64 b2 ∧ u12 = .int .i64 k ∧ Hid (Anc par b2 b) ∧ wr = wo) (fun _ u12 _ => f.blocks.length - (intOf u12).toNat)
          case atStart => exact ⟨b, 0, Nat.zero_le _, rfl, rfl, hideI .refl, rfl⟩
          case round =>
            obtain ⟨b2, k, hk, rfl, rfl, HA, rfl⟩ := hrel
            have hg2 := HDONE.out.tree.anc_grown HA.out (HDONE.out.grown b HON2.out.mem)
            by_cases hb0 : b2 = 0
            · subst hb0
              go_wp2
              go_roundw
              case rel => exact ⟨i + 1, b, L + 1, l ++ [b], _, rfl, rfl, by go_num, by omega, hideI ⟨by rw [List.length_append, HLEN.out.1]; rfl, by rw [List.length_append, HLEN.out.2]; rfl⟩, HON2, HV3, HB3⟩
              case measure => simp [intOf]; omega
            · have hbb : ((b2 : Int) != 0) = true := by rw [bne_iff_ne]; omega
              obtain ⟨dd, hdd⟩ : ∃ dd, par b2 = some dd := by
                rcases hg2 with h | h
                · exact absurd h hb0
                · exact h
              have hb2l := HFS.out.range b2 (HDONE.out.tree.mem HFS.out.ord hg2)
              have c4 := HGD3.out b2 hb2l
              rw [hdd] at c4
              simp only [topI] at c4
              have HA2 : Hid (Anc par dd b) := (Anc.up hdd .refl : Anc par dd b2).trans HA.out
              clear hdd hg2 hb0
              by_cases hkn : k < f.blocks.length
              · go_wp2_with (go_at_call 39; go_must (refine (has_any _ _ _ _ _ HINT.out).mono ?_); rw [HIN.out dd HA2.out]; rintro e w4 ⟨rfl, rfl⟩)
                go_roundw
                case rel => exact ⟨dd, k + 1, by omega, rfl, by go_num, HA2, by trivial⟩
                case measure => simp [intOf]; omega
              · go_wp2
                go_roundw
                case rel => exact ⟨i + 1, b, L + 1, l ++ [b], _, rfl, rfl, by go_num, by omega, hideI ⟨by rw [List.length_append, HLEN.out.1]; rfl, by rw [List.length_append, HLEN.out.2]; rfl⟩, HON2, HV3, HB3⟩
                case measure => simp [intOf]; omega
        · go_wp2
          go_ret
          exact ⟨rfl, (HB.out.trans (HBW.out.mono HB.out.size)).trans (HBr.out.mono (by omega))⟩
      · go_wp2
        go_ret
        exact ⟨rfl, (HB.out.trans (HBW.out.mono HB.out.size)).trans (HBr.out.mono (by omega))⟩
    · go_wp2
      go_ret
      exact ⟨rfl, (HB.out.trans (HBW.out.mono HB.out.size)).trans (HBr.out.mono (by omega))⟩

theorem cellsU8 : Try.prog.cellsOf 5 = 1 := by kernel_rfl

set_option maxRecDepth 100000 in
theorem open_turns {H : Type} {enc : TypeId × Value → H} {w : World} {base : Nat} {v : Value} {d : DataW H} {p : List MemPlace} (hok : Value.okWide Try.prog w .any base 64 v) (h : DataW.Trod enc Try.prog w 0 (fun _ => true) true 64 v d p) : ∃ ts, TurnsR w w.heap.size v ts := by
  obtain ⟨a0, len, cap, rfl⟩ := okWide_slice Try.underlying64 hok
  obtain ⟨fuel, hf⟩ := h
  rcases open_ints Try.underlying64 Try.underlying5 cellsU8 hf with ⟨hv, _⟩ | ⟨a, len', cap', zs, hv, _, hl, hm, hz, hx, hc, hw⟩
  · have hv2 : Value.slice a0 len cap = .slice none 0 0 := by simpa [Value.cells] using hv
    cases hv2
    exact ⟨[], none, 0, rfl, Nat.zero_le _, fun k t ht => by simp at ht⟩
  · simp only [Value.cells] at hv
    have hv2 : Value.slice a0 len cap = .slice (some a) len' cap' := by simpa using hv
    cases hv2
    simp only [if_true] at hz
    have hlen : (zs.take len).length = len := by rw [List.length_take]; omega
    refine ⟨zs.take len, some a, cap, by rw [hlen], ?_, fun k t ht => ?_⟩
    · rw [hlen]
      have := Nat.le_trans hl hm
      unfold maxLen at this
      exact this
    · have hk : k < len := by have := (List.getElem?_eq_some_iff.1 ht).1; omega
      have h1 := hc k (by omega)
      obtain ⟨b, off, rfl, hb⟩ := addr_of (hc 0 (by omega))
      have ht2 : zs[k]? = some t := by rw [List.getElem?_take, if_pos hk] at ht; exact ht
      have hwf := hw t (List.mem_of_getElem? ht2)
      have hwf2 : 0 ≤ t ∧ t ≤ 255 := by
        have h2 : (Lit.int .u8 t).wf = true := hwf
        have h3 : IntKind.u8.min ≤ t ∧ t ≤ IntKind.u8.max := by simpa [Lit.wf] using h2
        exact h3
      refine ⟨hwf2.1, hwf2.2, b, off, rfl, hb, ?_⟩
      rw [← Go.WideShapes.add_plain, h1, List.getD_eq_getElem?_getD, ht2]
      rfl

theorem walk (f : FuncM) (pv bv tv : Value) (ts : List Int) (w : World) (hF : FnIn w f pv bv) (hT : TurnsR w w.heap.size tv ts) :
    Calls Try.prog 12 #[.agg #[pv, .int .i64 f.arrays, .int .i64 f.cells, bv], tv] w fun e w' => e = .returned (.bool true) ∧ Below w.heap.size w w' := by
  by_cases h0 : (lookM f).1 = 0
  · exact walk_yes f pv bv tv ts w hF hT h0
  · exact walk_no f pv bv tv w hF h0

set_option maxRecDepth 100000 in
theorem lifted (os : Os) (started : os.Started) (H : Type) (enc : TypeId × Value → H) :
    ReturnsInHanded {} Try.checked os 12 .any (Rows.domWaysSpec.pre6 enc Try.prog Try.f12 Rows.domWaysRow.domain false) (Rows.domWaysSpec.post enc Try.prog Try.f12 false true false false) := by
  refine returnsInHanded_of_change_sized (C := Try.checked) own started (by kernel_rfl) Try.func12
    (ChangeSpec.witness6 (enc := enc) (C := Try.checked) false ⟨#[], #[.agg #[.slice none 0 0, .int .i64 0, .int .i64 0, .slice none 0 0], .slice none 0 0], []⟩ 8 (by kernel_rfl) (by kernel_rfl) (by kernel_rfl) (by kernel_rfl)) ?_
  intro W base args ds gs before hval0 hW hcnd hsz _
  have hval : ∀ (j : Nat) t v, Try.f12.params[j]? = some t → args[j]? = some v → Value.okWide Try.prog W .any base t v := hval0
  have hW' := hW
  obtain ⟨p, q, hA0, hV, rfl, hfz, hnd⟩ := hW
  have hA : DataW.TrodAll enc Try.prog W 0 (fun _ => true) true Try.f12.params.toList args.toList ds p := hA0
  rw [Try.params12] at hA hval
  obtain ⟨v0, vs0, d0, ds0, p0, q0, hargs, rfl, rfl, h0, r0⟩ := trodAll_cons hA
  obtain ⟨v1, vs1, d1, ds1, p1, q1, rfl, rfl, rfl, h1, r1⟩ := trodAll_cons r0
  obtain ⟨rfl, rfl, rfl⟩ := trodAll_nil r1
  obtain rfl : args = #[v0, v1] := by cases args; simp_all
  obtain ⟨rfl, rfl⟩ := trodVars_none hV
  obtain ⟨f, pv, bv, rfl, hF⟩ := open_func (hval 0 25 v0 rfl rfl) h0 hsz (j := 0) rfl rfl
  obtain ⟨ts, hT⟩ := open_turns (hval 1 64 v1 rfl rfl) h1
  clear hA0 hval0
  refine (walk f pv bv v1 ts W hF hT).mono fun e W' ⟨he, hg⟩ => ?_
  subst he
  exact ⟨_, rfl, law_post (by kernel_rfl) hW' rfl (by kernel_rfl) Try.underlying4 rfl rfl rfl (by rw [Try.params12]; decide +kernel) hg⟩

theorem over : Rows.domWaysRow.holds Try.pinned (OpenSpec.ofChange Rows.domWaysSpec) :=
  OpenClaim.holds_of_wide 12 Try.f12 rfl rfl rfl rfl rfl rfl rfl ⟨rfl, rfl, rfl, rfl, rfl⟩ rfl rfl rfl rfl rfl (by kernel_rfl) Try.func12 (by kernel_rfl)
    (of_decide_eq_true (by kernel_rfl)) (by unfold Func.isWrapper; first | (rw [if_pos (by decide +kernel)]; kernel_rfl) | (rw [if_neg (by decide +kernel)]; exact ⟨rfl, rfl⟩))
    (fun os started H enc _ => lifted os started H enc)

theorem proved : Rows.DomWaysSaid := over
#print axioms proved
end Go.Proofs.Ytclbhbnidodmdaa.domWays
