/- formedBlock: a block's phis, instructions and end. -/
import Derived.Test.YtclbhbnidodmdaaTerm
import Derived.Test.YtclbhbnidodmdaaReads
namespace Go.Proofs.Ytclbhbnidodmdaa
open Go.RowKit Go.Maps

theorem phis_drop (f : FuncM) (d : Defs) (l : List PhiM) (k : Nat) (p : PhiM) (h : l[k]? = some p) : phisStep f d (l.drop k) = (phiStep f d p).bind fun d' => phisStep f d' (l.drop (k + 1)) := by
  obtain ⟨hk, rfl⟩ := List.getElem?_eq_some_iff.1 h
  rw [List.drop_eq_getElem_cons hk]
  rfl

theorem code_drop (f : FuncM) (d : Defs) (l : List InstrM) (k : Nat) (p : InstrM) (h : l[k]? = some p) : codeStep f d (l.drop k) = (instrStep f d p).bind fun d' => codeStep f d' (l.drop (k + 1)) := by
  obtain ⟨hk, rfl⟩ := List.getElem?_eq_some_iff.1 h
  rw [List.drop_eq_getElem_cons hk]
  rfl

theorem addDef_len {np : Nat} {ds d : Defs} {id typ : Int} (h : addDef np ds id typ = some d) : d.length = ds.length + 1 := by
  unfold addDef at h
  split at h
  · injection h with h; subst h; simp
  · cases h

theorem phiStep_len {f : FuncM} {ds d : Defs} {p : PhiM} (h : phiStep f ds p = some d) : d.length = ds.length + 1 := by
  unfold phiStep at h
  split at h
  · exact addDef_len h
  · cases h

theorem instrStep_len {f : FuncM} {ds d : Defs} {p : InstrM} (h : instrStep f ds p = some d) : d.length ≤ ds.length + 1 := by
  unfold instrStep at h
  split at h
  · split at h
    · split at h
      · injection h with h; subst h; omega
      · cases h
    · have := addDef_len h; omega
  · cases h

theorem block_grown {w W0 wr w1 : World} {o1 o2 o3 : Obj} {M : Nat} (h0 : W0 = (w.alloc o1).alloc o2) (h : W0.grownBy wr (some M)) (h1 : (wr.alloc o3).grownBy w1 (some M)) : w.grownBy w1 (some M) := by
  subst h0
  exact ((((World.grownBy_alloc _ _ _).trans_grown (World.grownBy_alloc _ _ _)).trans_grown h).trans_grown (World.grownBy_alloc _ _ _)).trans_grown h1

set_option maxHeartbeats 1000000 in
theorem block_any (f : FuncM) (q : BlockM) (ds : Defs) (P A : Option Addr) (pc c M B : Nat) (pv cv tv : Value) (w : World) (hpv : PhisR w B pv q.phis) (hcv : CodeR w B cv q.code) (htv : Ints w B tv q.term.to)
    (hBM : B ≤ M) (hM : MapIs w M ds) (hn : ds.length + q.phis.length + q.code.length < 50000)
    (h1 : 1 ≤ f.blocks.length) (h2 : f.blocks.length ≤ 512) (ha : 0 ≤ f.arrays) (ha' : f.arrays ≤ 8) (hc : 0 ≤ f.cells) (hc' : f.cells ≤ 64) :
    Calls Try.prog 96 #[.agg #[.slice P f.params.length pc, .int .i64 f.arrays, .int .i64 f.cells, .slice A f.blocks.length c, .map (some M)], .agg #[pv, cv, .int .i64 q.term.op, .int .i64 q.term.val, tv, .int .i64 q.term.n]] w (Defines (blockStep f ds q) M w) := by
  have hMl := hM.lt
  have HM := hideI hM
  have HP := hideI hpv
  have HC := hideI hcv
  have HT := hideI htv
  obtain ⟨PA, pc2, hpe, hpm, hpx⟩ := hpv
  obtain ⟨CA, cc2, hce, hcm, hcx⟩ := hcv
  subst hpe hce
  have HPX := hideI hpx
  have HCX := hideI hcx
  clear hpx hcx hM htv
  go_enter Try.func96, Try.ntmps96
  go_wp2
  obtain ⟨W0, hW0⟩ : ∃ W0 : World, W0 = (w.alloc (.cells #[.slice P f.params.length pc, .int .i64 f.arrays, .int .i64 f.cells, .slice A f.blocks.length c, .map (some M)] 116)).alloc (.cells #[.slice PA q.phis.length pc2, .slice CA q.code.length cc2, .int .i64 q.term.op, .int .i64 q.term.val, tv, .int .i64 q.term.n] 54) := ⟨_, rfl⟩
  rw [← hW0]
  have HW0 := hideI hW0
  clear hW0
  go_loopw [12] (fun i wr => ∃ (k : Nat) (d : Defs), k ≤ q.phis.length ∧ i = .int .i64 k ∧ phisStep f ds q.phis = phisStep f d (q.phis.drop k) ∧ d.length ≤ ds.length + k ∧ MapIs wr M d ∧ W0.grownBy wr (some M)) (fun i _ => q.phis.length - (intOf i).toNat)
  case atStart => exact ⟨0, ds, Nat.zero_le _, rfl, rfl, Nat.le_refl _, by rw [HW0.out]; exact (HM.out.alloc _).alloc _, World.grownBy.refl W0 _⟩
  case round =>
    obtain ⟨k, d, hk, rfl, ht, hdl, hMd, hg⟩ := hrel
    have hg' := hg
    rw [HW0.out] at hg'
    obtain ⟨hx1, hx2, hz1⟩ := two_cells hg' hMl
    have hz0 := Nat.lt_of_succ_lt hz1
    have hks : Keeps B w wr := (((Keeps.refl w).alloc (by omega) _).alloc (by simp; omega) _).trans (Keeps.of_grown hg' hBM (by simp; omega))
    have HK := hideI hks
    have HG := hideI hg
    have HD := hideI hMd
    have HT' := hideI ht
    clear hg' hks hg hMd ht
    by_cases hlt : k < q.phis.length
    · obtain ⟨p, hp⟩ : ∃ p, q.phis[k]? = some p := ⟨_, List.getElem?_eq_getElem hlt⟩
      obtain ⟨b, off, fv, vv, rfl, hb, e0, e1, e2, e3, hf, hv, hi, htt⟩ := HPX.out k p hp
      have c0 := (HK.out b (off + k * 4) hb).trans e0
      have c1 := (HK.out b (off + k * 4 + 1) hb).trans e1
      have c2 := (HK.out b (off + k * 4 + 2) hb).trans e2
      have c3 := (HK.out b (off + k * 4 + 3) hb).trans e3
      have HF := hideI (hf.keeps HK.out)
      have HV := hideI (hv.keeps HK.out)
      have HI := hideI hi
      have HTY := hideI htt
      have HPP := hideI hp
      obtain ⟨FA, fc, hfe, _⟩ := hf
      obtain ⟨VA, vc, hve, _⟩ := hv
      subst hfe hve
      clear e0 e1 e2 e3 hp hi htt
      cases hs : phiStep f d p with
      | none =>
        have HS := hideI hs
        go_wp2_with (go_at_call 104; refine (phi_any f p d _ _ _ _ M B _ _ _ (HF.out.alloc (by omega) _) (HV.out.alloc (by omega) _) hBM (HD.out.alloc _) (by omega) HI.out HTY.out h1 h2).mono ?_; rintro e w1 ⟨rfl, hg1, hm1⟩; rw [HS.out]; have HG1 := hideI hg1; clear hg1 hm1)
        go_ret
        have hno : blockStep f ds q = none := by
          unfold blockStep
          rw [HT'.out, phis_drop f d q.phis k p HPP.out, HS.out]
          rfl
        exact defines_end (by rw [hno]; rfl) (block_grown HW0.out HG.out HG1.out) (by rw [hno]; simp)
      | some d' =>
        have HS := hideI hs
        go_wp2_with (go_at_call 104; refine (phi_any f p d _ _ _ _ M B _ _ _ (HF.out.alloc (by omega) _) (HV.out.alloc (by omega) _) hBM (HD.out.alloc _) (by omega) HI.out HTY.out h1 h2).mono ?_; rintro e w1 ⟨rfl, hg1, hm1⟩; rw [HS.out]; have HG1 := hideI hg1; have HM1 := hideI hm1; clear hg1 hm1)
        go_roundw
        case rel => exact ⟨k + 1, d', by omega, by go_num, by rw [HT'.out, phis_drop f d q.phis k p HPP.out, HS.out]; rfl, by have := phiStep_len HS.out; omega, HM1.out d' HS.out, (HG.out.trans_grown (World.grownBy_alloc _ _ _)).trans_grown HG1.out⟩
        case measure => simp [intOf]; omega
    · have hke : phisStep f ds q.phis = some d := by rw [HT'.out, List.drop_of_length_le (by omega)]; rfl
      have HKE := hideI hke
      have hdl2 : d.length ≤ ds.length + q.phis.length := by omega
      clear hke HPX
      go_wp2
      obtain ⟨wo, rfl⟩ : ∃ wo : World, wo = wr := ⟨_, rfl⟩
      clear hx1 hx2 hz0 hz1 HK HT'
      go_loopw [24] (fun i wr => ∃ (k : Nat) (d2 : Defs), k ≤ q.code.length ∧ i = .int .i64 k ∧ codeStep f d q.code = codeStep f d2 (q.code.drop k) ∧ d2.length ≤ ds.length + q.phis.length + k ∧ MapIs wr M d2 ∧ W0.grownBy wr (some M)) (fun i _ => q.code.length - (intOf i).toNat)
      case atStart => exact ⟨0, d, Nat.zero_le _, rfl, rfl, by omega, HD.out, HG.out⟩
      case round =>
        obtain ⟨k2, d2, hk2, rfl, ht2, hdl3, hMd2, hg2⟩ := hrel
        have hg' := hg2
        rw [HW0.out] at hg'
        obtain ⟨hx1, hx2, hz1⟩ := two_cells hg' hMl
        have hz0 := Nat.lt_of_succ_lt hz1
        have hks : Keeps B w wr := (((Keeps.refl w).alloc (by omega) _).alloc (by simp; omega) _).trans (Keeps.of_grown hg' hBM (by simp; omega))
        have HK := hideI hks
        have HG2 := hideI hg2
        have HD2 := hideI hMd2
        have HT2 := hideI ht2
        clear hg' hks hg2 hMd2 ht2
        by_cases hlt : k2 < q.code.length
        · obtain ⟨x, hp⟩ : ∃ x, q.code[k2]? = some x := ⟨_, List.getElem?_eq_getElem hlt⟩
          obtain ⟨b, off, av, rfl, hb, e0, e1, e2, e3, hf, _, hi, _⟩ := HCX.out k2 x hp
          have c0 := (HK.out b (off + k2 * 4) hb).trans e0
          have c1 := (HK.out b (off + k2 * 4 + 1) hb).trans e1
          have c2 := (HK.out b (off + k2 * 4 + 2) hb).trans e2
          have c3 := (HK.out b (off + k2 * 4 + 3) hb).trans e3
          have HF := hideI (hf.keeps HK.out)
          have HI := hideI hi
          have HPP := hideI hp
          obtain ⟨FA, fc, hfe, _⟩ := hf
          subst hfe
          clear e0 e1 e2 e3 hp hi
          cases hs : instrStep f d2 x with
          | none =>
            have HS := hideI hs
            go_wp2_with (go_at_call 105; refine (instr_any f x d2 _ _ _ _ M B _ _ (HF.out.alloc (by omega) _) hBM (HD2.out.alloc _) (by omega) HI.out ha ha' hc hc').mono ?_; rintro e w1 ⟨rfl, hg1, hm1⟩; rw [HS.out]; have HG1 := hideI hg1; clear hg1 hm1)
            go_ret
            have hno : blockStep f ds q = none := by
              unfold blockStep
              rw [HKE.out, Option.bind_some, HT2.out, code_drop f d2 q.code k2 x HPP.out, HS.out]
              rfl
            exact defines_end (by rw [hno]; rfl) (block_grown HW0.out HG2.out HG1.out) (by rw [hno]; simp)
          | some d' =>
            have HS := hideI hs
            go_wp2_with (go_at_call 105; refine (instr_any f x d2 _ _ _ _ M B _ _ (HF.out.alloc (by omega) _) hBM (HD2.out.alloc _) (by omega) HI.out ha ha' hc hc').mono ?_; rintro e w1 ⟨rfl, hg1, hm1⟩; rw [HS.out]; have HG1 := hideI hg1; have HM1 := hideI hm1; clear hg1 hm1)
            go_roundw
            case rel => exact ⟨k2 + 1, d', by omega, by go_num, by rw [HT2.out, code_drop f d2 q.code k2 x HPP.out, HS.out]; rfl, by have := instrStep_len HS.out; omega, HM1.out d' HS.out, (HG2.out.trans_grown (World.grownBy_alloc _ _ _)).trans_grown HG1.out⟩
            case measure => simp [intOf]; omega
        · have hce : blockStep f ds q = if termB f q.term then some d2 else none := by
            unfold blockStep
            rw [HKE.out, Option.bind_some, HT2.out, List.drop_of_length_le (by omega)]
            rfl
          have HCE := hideI hce
          clear hce HCX HT2
          obtain ⟨TA, tc, hte, _⟩ := HT.out
          subst hte
          have HTT := hideI ((HT.out.keeps HK.out).more (B' := wr.heap.size) (by omega))
          go_wp2_with (go_at_call 106; refine (term_any f q.term _ _ _ _ _ _ _ HTT.out h1 h2).mono ?_; rintro e w1 ⟨rfl, hb1⟩; have HB1 := hideI hb1; clear hb1)
          go_ret
          have hm1 := HD2.out.below HB1.out (by omega)
          have hgg : w.grownBy w1 (some M) := ((((World.grownBy_alloc _ _ _).trans_grown (World.grownBy_alloc _ _ _)).trans_grown (HW0.out ▸ HG2.out)).trans_grown (below_grown HB1.out rfl))
          refine defines_end ?_ hgg ?_
          · rw [HCE.out]
            cases termB f q.term <;> rfl
          · intro ds' h
            rw [HCE.out] at h
            split at h
            · injection h with h
              subst h
              exact hm1
            · cases h

end Go.Proofs.Ytclbhbnidodmdaa
