/- What is proved: for every function f, in whatever memory it lies, LoopsShut answers true: nothing goes into a loop but to its head. No condition. -/
import Derived.Test.YtglbepdjahddmaaPkL913
import Derived.IntWalk
import Derived.BigQuiet
import Derived.Deep.QuietTactic
namespace Go.Proofs.Ytglbepdjahddmaa.loopsShut
open Go.ChangeShapes Go.WideShapes Go.ChangeAt Go.RowKit Go.Maps

set_option maxRecDepth 100000 in
set_option maxHeartbeats 2000000 in
theorem walk_no (f : FuncM) (pv bv : Value) (w : World) (hF : FnIn w f pv bv) (hno : ¬ ∃ o, StrictM f o) :
    Calls Try.prog 5 #[.agg #[pv, .int .i64 f.arrays, .int .i64 f.cells, bv]] w fun e w' => e = .returned (.bool true) ∧ Below w.heap.size w w' := by
  have HF := hideI hF
  have HID := hideI (uses_i64 hF.ok)
  obtain ⟨P, pc, hpv, _⟩ := hF.par
  obtain ⟨A, cc, hbv, _⟩ := hF.blk
  subst hpv hbv
  have HB : Hid (Below w.heap.size w (w.alloc (.cells #[.slice P f.params.length pc, .int .i64 f.arrays, .int .i64 f.cells, .slice A f.blocks.length cc] 25))) := (Below.refl _ w).alloc (Nat.le_refl _) _
  have HNG : Hid (∀ o, StrictM f o → False) := fun o h => hno ⟨o, h⟩
  clear hF hno
  go_enter Try.func5, Try.ntmps5
  go_wp2_with (first
    | (go_at_call 7; go_must (refine (lForest_any f w.heap.size _ _ _ (HF.out.par.keeps (Keeps.of_below HB.out)) (HF.out.blk.keeps (Keeps.of_below HB.out)) HB.out.size HID.out).mono ?_); rintro e w1 (⟨x, y, hci, hy, rfl, hb⟩ | ⟨o, _, _, _, _, _, hk, _⟩); rotate_left; (exact (HNG.out o hk.strict).elim); have hyb : (y != 0) = true := (by rw [bne_iff_ne]; exact hy); replace HB := hideI (HB.out.trans (hb.mono HB.out.size)); clear hb hci hy)
    | (go_at_call 9; refine (awake9_any _).mono ?_; rintro e w5 ⟨rfl, hb⟩; replace HB := hideI (HB.out.trans (hb.mono HB.out.size)); clear hb))
  go_ret
  exact ⟨rfl, HB.out⟩

set_option maxRecDepth 100000 in
set_option maxHeartbeats 4000000 in
theorem walk_yes (f : FuncM) (o0 : List Nat) (pv bv : Value) (w : World) (hF : FnIn w f pv bv) (hs : StrictM f o0) :
    Calls Try.prog 5 #[.agg #[pv, .int .i64 f.arrays, .int .i64 f.cells, bv]] w fun e w' => e = .returned (.bool true) ∧ Below w.heap.size w w' := by
  have HF := hideI hF
  have HID := hideI (uses_i64 hF.ok)
  obtain ⟨P, pc, hpv, _⟩ := hF.par
  obtain ⟨A, cc, hbv, _⟩ := hF.blk
  subst hpv hbv
  have HB : Hid (Below w.heap.size w (w.alloc (.cells #[.slice P f.params.length pc, .int .i64 f.arrays, .int .i64 f.cells, .slice A f.blocks.length cc] 25))) := (Below.refl _ w).alloc (Nat.le_refl _) _
  have HX := hideI (heap_alloc_new w (.cells #[.slice P f.params.length pc, .int .i64 f.arrays, .int .i64 f.cells, .slice A f.blocks.length cc] 25))
  have HS := hideI hs
  have hn5 := (look_some_block hs.look).2
  have HIN := hideI (look_ends hs.look)
  clear hF hs
  go_enter Try.func5, Try.ntmps5
  go_wp2_with (first
    | (go_at_call 7; go_must (refine (lForest_any f w.heap.size _ _ _ (HF.out.par.keeps (Keeps.of_below HB.out)) (HF.out.blk.keeps (Keeps.of_below HB.out)) HB.out.size HID.out).mono ?_); rintro e w1 (⟨x, y, hci, hy, _⟩ | ⟨o, pl, par, D, L, lv, hk, rfl, hlp, hb⟩); (exact absurd (Prod.mk.inj (HS.out.check hci)).2 hy); (obtain ⟨Av, cv, rfl⟩ : ∃ A c, lv = .slice A (loopsM f.blocks D L).length c := (by obtain ⟨cs, h1, _⟩ := hlp.ex; exact own_sl h1)); have HK := hideI hk; have HLP := hideI (hlp.mono (Nat.zero_le _)); replace HX := hideI ((hb.block _ (lt_of_heap HX.out)).trans HX.out); have hx := row_cells HX.out rfl; have q0 := hx 0; have q1 := hx 1; have q2 := hx 2; have q3 := hx 3; clear hx; replace HB := hideI (HB.out.trans (hb.mono HB.out.size)); clear hb hk hlp)
    | (go_at_call 9; refine (awake9_any _).mono ?_; rintro e w5 ⟨rfl, hb⟩; clear q0 q1 q2 q3; replace HX := hideI ((hb.block _ (lt_of_heap HX.out)).trans HX.out); have hx := row_cells HX.out rfl; have q0 := hx 0; have q1 := hx 1; have q2 := hx 2; have q3 := hx 3; clear hx; replace HLP := hideI (HLP.out.kept hb); replace HB := hideI (HB.out.trans (hb.mono HB.out.size)); clear hb)
    | (go_at_call 13; go_must (refine (refPreds_any f.blocks w.heap.size _ _ _ _ _ (HF.out.blk.keeps (Keeps.of_below HB.out)) HB.out.size hn5 HIN.out).mono ?_); rintro e w6 ⟨gp, vs, rfl, hls, hb⟩; have HLS := hideI hls; replace HLP := hideI (HLP.out.kept hb); replace HB := hideI (HB.out.trans (hb.mono HB.out.size)); clear hb hls q0 q1 q2 q3))
  obtain ⟨W, hW⟩ : ∃ W : World, W = w6 := ⟨_, rfl⟩
  rw [← hW] at HLS HLP HB ⊢
  clear hW HX
  obtain ⟨ls, hls⟩ : ∃ ls, ls = loopsM f.blocks D L := ⟨_, rfl⟩
  rw [← hls] at HLP ⊢
  have HAT : Hid (∀ i x, ls[i]? = some x → LpIs f.blocks D L i x) := by intro i x hx; rw [hls] at hx; exact loops_at hx
  have HRS : Hid (Rising ls) := by show Rising ls; rw [hls]; exact loops_rising hn5
  have HBK : Hid (∀ x ∈ ls, ∀ b ∈ x.blocks, b < f.blocks.length) := by show ∀ x ∈ ls, _; rw [hls]; exact loops_blocks
  have hll : ls.length ≤ 512 := by rw [hls]; exact Nat.le_trans loops_len hn5
  clear hls
  go_loopw [6] (fun u wr => ∃ i m : Nat, i ≤ ls.length ∧ u = .int .i64 i ∧ wr = W.drewN m) (fun u _ => ls.length - (intOf u).toNat)
  case atStart => exact ⟨0, 0, Nat.zero_le _, rfl, rfl⟩
  case round =>
    obtain ⟨i, m, hi, rfl, rfl⟩ := hrel
    by_cases hlt : i < ls.length
    · obtain ⟨x, hx⟩ : ∃ x, ls[i]? = some x := ⟨_, List.getElem?_eq_getElem hlt⟩
      have HLX := hideI (HAT.out i x hx)
      have HRX := hideI (HRS.out x (List.mem_of_getElem? hx))
      have HBX := hideI (HBK.out x (List.mem_of_getElem? hx))
      obtain ⟨g, cap0, b1, b2, b3, hv, hgb, hgl, r0, r1, r2, r3, r4, s1, s2, s3, _⟩ := HLP.out.cells hx
      cases hv
      obtain ⟨A1, c1, rfl⟩ := own_sl s1.1
      have hs1 := s1.ints (by have := HRX.out.2; omega)
      have HI1 := hideI hs1
      obtain ⟨_, _, e1, _, hpx⟩ := hs1
      rw [List.length_map] at e1 hpx
      cases e1
      have HPX := hideI hpx
      obtain ⟨nb, hnb⟩ : ∃ nb, nb = x.blocks.length := ⟨_, rfl⟩
      have HNB := hideI hnb
      have hnbl : nb ≤ 512 := by rw [hnb]; exact HRX.out.2
      rw [← hnb] at r1 HPX HI1
      clear hx s1 s2 s3 hpx r2 r3 r4 hnb
      go_wp2
      go_loopw [7] (fun u wr => ∃ k m : Nat, k ≤ nb ∧ u = .int .i64 k ∧ wr = W.drewN m) (fun u _ => nb - (intOf u).toNat)
      case atStart => exact ⟨0, m, Nat.zero_le _, rfl, rfl⟩
      case round =>
        obtain ⟨k, m2, hk, rfl, rfl⟩ := hrel
        by_cases hltk : k < nb
        · obtain ⟨b, hb⟩ : ∃ b, x.blocks[k]? = some b := ⟨_, List.getElem?_eq_getElem (by have := HNB.out; omega)⟩
          have hbl := HBX.out b (List.mem_of_getElem? hb)
          have HBM := hideI (List.mem_of_getElem? hb)
          obtain ⟨pb, po, rfl, hpb, d0⟩ := HPX.out k hltk
          rw [List.getElem?_map, hb] at d0
          simp only [Option.map_some, Option.getD_some] at d0
          obtain ⟨v, hv⟩ : ∃ v, vs[b]? = some v := ⟨_, List.getElem?_eq_getElem (by rw [HLS.out.vl]; exact hbl)⟩
          have hl : (predsAt f.blocks f.blocks.length f.blocks.length 0)[b]? = some (predsTo f.blocks f.blocks.length b) := by rw [predsAt_at hbl]; simp
          have cgp : W.cell? ⟨gp, b, none⟩ = some v := by rw [World.ownsRow.cellAt HLS.out.row b (by omega)]; exact hv
          have hown := HLS.out.own b v _ hv hl
          obtain ⟨l, hll2⟩ : ∃ l, l = predsTo f.blocks f.blocks.length b := ⟨_, rfl⟩
          rw [← hll2] at hown
          have HLL := hideI hll2
          have hlll : l.length ≤ 512 := by rw [hll2]; exact Nat.le_trans (predsTo_len _ _ _) hn5
          obtain ⟨PA, pc2, e1, _, hpy⟩ := nat_ints hown (by omega)
          rw [List.length_map] at e1 hpy
          subst e1
          have HPY := hideI hpy
          clear hb hv hl hown hll2 hpy
          go_wp2
          clear d0
          go_loopw [9] (fun u wr => ∃ j m : Nat, j ≤ l.length ∧ u = .int .i64 j ∧ wr = W.drewN m) (fun u _ => l.length - (intOf u).toNat)
          case atStart => exact ⟨0, m2, Nat.zero_le _, rfl, rfl⟩
          case round =>
            obtain ⟨j, m3, hj, rfl, hwr⟩ := hrel
            have HWR := hideI hwr
            have k0 : wr.cell? ⟨g, i * 5, none⟩ = some (.int .i64 (x.head : Int)) := by rw [hwr]; exact r0
            have k1 : wr.cell? ⟨g, i * 5 + 1, none⟩ = some (.slice (some ⟨pb, po, none⟩) nb c1) := by rw [hwr]; exact r1
            have kgp : wr.cell? ⟨gp, b, none⟩ = some (.slice PA l.length pc2) := by rw [hwr]; exact cgp
            by_cases hltj : j < l.length
            · by_cases hbh : b = x.head
              · have e1 : ((b : Int) != (x.head : Int)) = false := by rw [hbh]; simp
                clear hbh hwr
                go_wp2
                go_roundw
                case rel => exact ⟨k + 1, m3, by omega, by go_num, HWR.out⟩
                case measure => simp [intOf]; omega
              · have e1 : ((b : Int) != (x.head : Int)) = true := by rw [bne_iff_ne]; omega
                obtain ⟨p, hp⟩ : ∃ p, l[j]? = some p := ⟨_, List.getElem?_eq_getElem hltj⟩
                obtain ⟨pb2, po2, rfl, hpb2, d1⟩ := HPY.out j hltj
                rw [List.getElem?_map, hp] at d1
                simp only [Option.map_some, Option.getD_some] at d1
                have d2 : wr.cell? ⟨pb2, po2 + j, none⟩ = some (.int .i64 (p : Int)) := by rw [hwr]; exact d1
                have hmem : decide ((p : Int) ∈ x.blocks.map fun (x : Nat) => (x : Int)) = true := by
                  rw [decide_eq_true_iff, mem_nat]
                  exact HLX.out.shut HK.out.ok HBM.out hbh (by rw [← HLL.out]; exact List.mem_of_getElem? hp)
                have HM := hideI hmem
                have HH : Hid (∀ a, Calls Try.prog 12 #[.slice (some ⟨pb, po, none⟩) nb c1, .int .i64 (p : Int)] (wr.drewN a) fun e w' => e = .returned (.bool true) ∧ w' = wr.drewN a) := fun a => by
                  have h1 := has_any (x.blocks.map fun (x : Nat) => (x : Int)) W.heap.size (.slice (some ⟨pb, po, none⟩) nb c1) (p : Int) (wr.drewN a) (by rw [HWR.out]; exact HI1.out)
                  rw [HM.out] at h1
                  exact h1.mono fun _ _ ⟨a, b⟩ => ⟨a, b.symm⟩
                clear hp hbh hmem hwr
                go_wp2_with fail
                go_quiet ((go_at_call 12; exact Calls.quiet_of_same (HH.out _)))
                go_wp2
                go_roundw
                case rel => exact ⟨j + 1, _, by omega, by go_num, by rw [HWR.out]; exact World.drewN_drewN ..⟩
                case measure => simp [intOf]; omega
            · clear hwr
              go_wp2
              go_roundw
              case rel => exact ⟨k + 1, m3, by omega, by go_num, HWR.out⟩
              case measure => simp [intOf]; omega
        · go_wp2
          go_roundw
          case rel => exact ⟨i + 1, m2, by omega, by go_num, rfl⟩
          case measure => simp [intOf]; omega
    · go_wp2
      go_ret
      exact ⟨rfl, drew_below HB.out _⟩

theorem walk (f : FuncM) (pv bv : Value) (w : World) (hF : FnIn w f pv bv) :
    Calls Try.prog 5 #[.agg #[pv, .int .i64 f.arrays, .int .i64 f.cells, bv]] w fun e w' => e = .returned (.bool true) ∧ Below w.heap.size w w' := by
  by_cases h : ∃ o, StrictM f o
  · obtain ⟨o, ho⟩ := h
    exact walk_yes f o pv bv w hF ho
  · exact walk_no f pv bv w hF h

set_option maxRecDepth 100000 in
theorem lifted (os : Os) (started : os.Started) (H : Type) (enc : TypeId × Value → H) :
    ReturnsInHanded {} Try.checked os 5 .any (Rows.loopsShutSpec.pre6 enc Try.prog Try.f5 Rows.loopsShutRow.domain false) (Rows.loopsShutSpec.post enc Try.prog Try.f5 false true false false) := by
  refine returnsInHanded_of_change_sized (C := Try.checked) own started (by kernel_rfl) Try.func5
    (ChangeSpec.witness6 (enc := enc) (C := Try.checked) false ⟨#[], #[.agg #[.slice none 0 0, .int .i64 0, .int .i64 0, .slice none 0 0]], []⟩ 8 (by kernel_rfl) (by kernel_rfl) (by kernel_rfl) (by kernel_rfl)) ?_
  intro W base args ds gs before hval0 hW hcnd hsz _
  have hval : ∀ (j : Nat) t v, Try.f5.params[j]? = some t → args[j]? = some v → Value.okWide Try.prog W .any base t v := hval0
  have hW' := hW
  obtain ⟨p, q, hA0, hV, rfl, hfz, hnd⟩ := hW
  have hA : DataW.TrodAll enc Try.prog W 0 (fun _ => true) true Try.f5.params.toList args.toList ds p := hA0
  rw [Try.params5] at hA hval
  obtain ⟨v0, vs0, d0, ds0, p0, q0, hargs, rfl, rfl, h0, r0⟩ := trodAll_cons hA
  obtain ⟨rfl, rfl, rfl⟩ := trodAll_nil r0
  obtain rfl : args = #[v0] := by cases args; simp_all
  obtain ⟨rfl, rfl⟩ := trodVars_none hV
  obtain ⟨f, pv, bv, rfl, hF⟩ := open_func (hval 0 25 v0 rfl rfl) h0 hsz (j := 0) rfl rfl
  clear hA0 hval0
  refine (walk f pv bv W hF).mono fun e W' ⟨he, hg⟩ => ?_
  subst he
  exact ⟨_, rfl, law_post (by kernel_rfl) hW' rfl (by kernel_rfl) Try.underlying4 rfl rfl rfl (by rw [Try.params5]; decide +kernel) hg⟩

theorem over : Rows.loopsShutRow.holds Try.pinned (OpenSpec.ofChange Rows.loopsShutSpec) :=
  OpenClaim.holds_of_wide 5 Try.f5 rfl rfl rfl rfl rfl rfl rfl ⟨rfl, rfl, rfl, rfl, rfl⟩ rfl rfl rfl rfl rfl (by kernel_rfl) Try.func5 (by kernel_rfl)
    (of_decide_eq_true (by kernel_rfl)) (by unfold Func.isWrapper; first | (rw [if_pos (by decide +kernel)]; kernel_rfl) | (rw [if_neg (by decide +kernel)]; exact ⟨rfl, rfl⟩))
    (fun os started H enc _ => lifted os started H enc)

theorem proved : Rows.LoopsShutSaid := over
#print axioms proved
end Go.Proofs.Ytglbepdjahddmaa.loopsShut
