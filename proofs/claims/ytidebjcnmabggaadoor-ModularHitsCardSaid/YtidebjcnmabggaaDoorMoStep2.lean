/- steps whole: the least number of steps into the span, or none. -/
import Derived.Test.YtidebjcnmabggaaDoorMoSteps
namespace Go.Proofs.YtidebjcnmabggaaDoor.Mo
open Go.RowKit

structure Box (W : World) (b T s lo hi : Nat) : Prop where
  row : W.heap[b]? = some (.cells #[.int .u64 (T : Int), .int .u64 (s : Int), .int .u64 (lo : Int), .int .u64 (hi : Int)] 44 (0, 0))
theorem Box.rd {W : World} {b T s lo hi : Nat} (h : Box W b T s lo hi) : RdV W b T s lo hi := RdV.of h.row
theorem Box.fz {W : World} {b T s lo hi : Nat} (h : Box W b T s lo hi) (i : Nat) : W.frozen? ⟨b, i, none⟩ = false := frozen_of_row W _ i _ _ h.row
theorem Box.keep {W W' : World} {b T s lo hi B : Nat} (h : Box W b T s lo hi) (hb : Below B W W') (hB : b < B) : Box W' b T s lo hi := ⟨(hb.block b hB).trans h.row⟩
theorem Box.grown {W W' : World} {b T s lo hi : Nat} {v : Value} {base : Nat} {R : List Rnd} (h : Box W b T s lo hi) (hg : W.grownBy W' v.ownBlock) (hl : RdL W base v R) (hb : b < base) : Box W' b T s lo hi := by
  have hlt : b < W.heap.size := (Array.getElem?_eq_some_iff.1 h.row).1
  exact ⟨(hg.block b hlt (fun e => by have := (World.ownsRow.lt hl b e.symm).1; omega)).trans h.row⟩

theorem Box.alloc {W : World} {b T s lo hi : Nat} (h : Box W b T s lo hi) (o : Obj) : Box (W.alloc o) b T s lo hi :=
  ⟨by rw [heap_alloc_old _ _ (Array.getElem?_eq_some_iff.1 h.row).1]; exact h.row⟩
theorem RdL.alloc {W : World} {base : Nat} {v : Value} {R : List Rnd} (h : RdL W base v R) (o : Obj) : RdL (W.alloc o) base v R := World.ownsRow.alloc h o
theorem RdL.push {W : World} {base : Nat} {v : Value} {R : List Rnd} {r : Rnd} (h : W.ownsRow base 44 4 v (R.length + 1) (R.flatMap rc ++ rc r)) : RdL W base v (R ++ [r]) := by
  unfold RdL
  rw [List.length_append, List.flatMap_append, List.flatMap_cons, List.flatMap_nil, List.append_nil]
  exact h

theorem half_pow {M s w k : Nat} (h : M ≤ 2 ^ (w - k)) (hs : 2 * s ≤ M) (hk : k < w) : s ≤ 2 ^ (w - (k + 1)) := by
  obtain ⟨d, hd⟩ : ∃ d, w - k = d + 1 := ⟨w - k - 1, by omega⟩
  rw [hd, Nat.pow_succ] at h
  rw [show w - (k + 1) = d by omega]
  omega

/-- where steps stands behind k rounds -/
structure At (z : Rnd) (wd k : Nat) (R : List Rnd) (T s lo hi : Nat) : Prop where
  len : R.length = k
  ok : (⟨T + 1, s, lo, hi⟩ : Rnd).Ok
  asked : Asked R.reverse ⟨T + 1, s, lo, hi⟩ z
  all : ∀ r ∈ R, r.M ≤ 18446744073709551616
  few : T + 1 ≤ 2 ^ (wd - k)
  top : T < 18446744073709551616

set_option maxHeartbeats 4000000 in
set_option maxRecDepth 100000 in
theorem steps_any (T s lo hi wd : Nat) (hok : (⟨T + 1, s, lo, hi⟩ : Rnd).Ok) (hT : T < 18446744073709551616) (hw : T + 1 ≤ 2 ^ wd) (hwd : wd ≤ 64) (w : World) :
    Calls Tryd.prog 22 #[.agg #[.int .u64 (T : Int), .int .u64 (s : Int), .int .u64 (lo : Int), .int .u64 (hi : Int)], .int .i64 (wd : Int)] w fun e w' => (∃ v, StepsIs ⟨T + 1, s, lo, hi⟩ v ∧ e = .returned v) ∧ Below w.heap.size w w' := by
  obtain ⟨z, hz⟩ : ∃ z : Rnd, z = ⟨T + 1, s, lo, hi⟩ := ⟨_, rfl⟩
  have HA0 : Hid (At z wd 0 [] T s lo hi) := hideI ⟨rfl, hok, by rw [hz]; exact Asked.nil _, by simp, by simpa using hw, hT⟩
  rw [← hz]
  obtain ⟨i4, hj4, hz0, hz1, hz2⟩ := info_parts rnd_info
  clear hz hok hT hw
  obtain ⟨W1, hW1⟩ : ∃ W1 : World, W1 = w.alloc (.cells #[.int .u64 (T : Int), .int .u64 (s : Int), .int .u64 (lo : Int), .int .u64 (hi : Int)] 44) := ⟨_, rfl⟩
  have HX1 : Hid (Box W1 w.heap.size T s lo hi) := hideI ⟨by rw [hW1]; exact heap_alloc_new w _⟩
  have HB1 : Hid (Below w.heap.size w W1) := hideI (by rw [hW1]; exact (Below.refl _ w).alloc (Nat.le_refl _) _)
  have HZ1 : Hid (w.heap.size + 1 ≤ W1.heap.size) := hideI (by rw [hW1]; simp)
  have HW1 := hideI hW1
  obtain ⟨b0, hb0⟩ : ∃ b0, b0 = w.heap.size := ⟨_, rfl⟩
  rw [← hb0] at HX1 HB1 HZ1 ⊢
  have HB0 := hideI hb0
  clear hW1 hb0
  go_enter Tryd.func22, Tryd.ntmps22
  go_upto_region 3 with fail
  rw [← HW1.out, ← HB0.out]
  go_loopw [4, 6, 8] (fun u4 u6 u8 wv => ∃ (k : Nat) (R : List Rnd) (v : Value) (T1 s1 lo1 hi1 : Nat), k ≤ wd ∧ u8 = .int .i64 k ∧ u6 = v ∧ (∃ x : Value, u4 = x) ∧ Hid (At z wd k R T1 s1 lo1 hi1) ∧ Hid (Box wv b0 T1 s1 lo1 hi1) ∧ Hid (RdL wv (b0 + 1) v R) ∧ Hid (Below b0 w wv)) (fun _ _ u8 _ => wd - (intOf u8).toNat)
  case atStart => exact ⟨0, [], _, T, s, lo, hi, by omega, rfl, rfl, ⟨_, rfl⟩, HA0, HX1, hideI ⟨rfl, .inl ⟨rfl, rfl⟩⟩, HB1⟩
  case round =>
    obtain ⟨k, R, v, T1, s1, lo1, hi1, hk, rfl, rfl, ⟨x4, rfl⟩, hA, hX, hL, hB⟩ := hrel
    have hbw : Hid (b0 < wr.heap.size) := hideI (Array.getElem?_eq_some_iff.1 hX.out.row).1
    by_cases hlt : k < wd
    · have hl : (k : Int) < (wd : Int) := by omega
      obtain ⟨r0, r1, r2, r3⟩ := hX.out.rd
      by_cases hs : s1 = 0
      · have hs0 : (s1 : Int) = 0 := by omega
        have HNO : Hid (z.Never) := hideI (hA.out.asked.never (Rnd.still hA.out.ok hs))
        clear hs
        go_wp2
        refine bodyPost_ret (results_tmp2 rfl _ _ _) (by rfl) ?_
        exact ⟨⟨_, .no HNO.out, rfl⟩, hB.out⟩
      · have hs0 : ¬ (s1 : Int) = 0 := by omega
        have hs0p : 0 < s1 := by omega
        have hok := hA.out.ok
        have HSH := hideI (fun V : World => shorter_any T1 s1 lo1 hi1 hok.lo0 hok.span (by have := hok.hi1; simp at this; omega) hs0p (by have := hok.step; simp at this; omega) hA.out.top V)
        have HOK2 : Hid ((⟨T1 + 1, s1, lo1, hi1⟩ : Rnd).short.Ok) := hideI (Rnd.short_ok hok hs0p)
        have HHF := hideI (Rnd.short_half hok hs0p)
        have HAS := hideI (hA.out.asked.short hok)
        have f0 := hX.out.fz 0
        have f1 := hX.out.fz 1
        have f2 := hX.out.fz 2
        have f3 := hX.out.fz 3
        have hN : Hid (R.length ≤ 64) := hideI (by rw [hA.out.len]; omega)
        clear hok hs hs0p
        go_upto_region 7 with (go_at_call 24; go_must (refine (HSH.out _).mono ?_); rintro e w4 ⟨⟨s2, lo2, hi2, hshort, rfl⟩, hw4⟩; have HR2 := hideI hshort; have HX4 := hideI (hX.out.keep hw4 hbw.out); have HL4 := hideI (RdL.kept hL.out hw4 (Nat.le_refl _)); have HB4 := hideI (hB.out.trans (hw4.mono (Nat.le_of_lt hbw.out))); (obtain ⟨d0, d1, d2, d3⟩ := HX4.out.rd); have g0 := HX4.out.fz 0; have g1 := HX4.out.fz 1; have g2 := HX4.out.fz 2; have g3 := HX4.out.fz 3; clear hshort hw4 r0 r1 r2 r3 f0 f1 f2 f3)
        obtain ⟨W5, hW5⟩ : ∃ W5 : World, W5 = (((w4.setCell ⟨b0, 0, none⟩ (.int .u64 (T1 : Int))).setCell ⟨b0, 1, none⟩ (.int .u64 (s2 : Int))).setCell ⟨b0, 2, none⟩ (.int .u64 (lo2 : Int))).setCell ⟨b0, 3, none⟩ (.int .u64 (hi2 : Int)) := ⟨_, rfl⟩
        have HX5 : Hid (Box W5 b0 T1 s2 lo2 hi2) := hideI ⟨by rw [hW5]; exact box_put HX4.out.row⟩
        have HL5 : Hid (RdL W5 (b0 + 1) u6 R) := hideI (by rw [hW5]; exact RdL.box HL4.out (Nat.lt_succ_self _))
        have HB5 : Hid (Below b0 w W5) := hideI (by rw [hW5]; exact HB4.out.trans (box_below (Nat.le_refl _)))
        rw [← hW5]
        clear hW5 d0 d1 d2 d3 g0 g1 g2 g3
        rw [HR2.out] at HOK2 HHF HAS
        obtain ⟨r0, r1, r2, r3⟩ := HX5.out.rd
        have hs2 : 0 < s2 := HHF.out.2.1
        have hlo2 : 0 < lo2 := HOK2.out.lo0
        have hlh : lo2 ≤ hi2 := HOK2.out.span
        have hhT : hi2 < T1 + 1 := HOK2.out.hi1
        have htop := hA.out.top
        have HBE := hideI (fun V : World => before_any T1 s2 lo2 hi2 hlo2 hs2 (by omega) V)
        obtain ⟨q, hq⟩ : ∃ q, q = (lo2 - 1) / s2 := ⟨_, rfl⟩
        have hql : q ≤ lo2 - 1 := by rw [hq]; exact Nat.div_le_self _ _
        rw [← hq] at HBE
        have e1 : IntKind.u64.wrap ((q : Int) + 1) = ((q + 1 : Nat) : Int) := by rw [IntKind.wrap_u64]; omega
        obtain ⟨n, hn⟩ : ∃ n, n = q + 1 := ⟨_, rfl⟩
        rw [← hn] at e1
        have e2 := guess_int (u := hi2) (v1 := s2) (by omega) hs2
        obtain ⟨c, hc⟩ : ∃ c, c = hi2 / s2 := ⟨_, rfl⟩
        rw [← hc] at e2
        have b2 : ¬ (s2 : Int) = 0 := by omega
        have hah : (⟨T1 + 1, s2, lo2, hi2⟩ : Rnd).ahead + 1 = n := by rw [hn, hq]; rfl
        have hhs : (⟨T1 + 1, s2, lo2, hi2⟩ : Rnd).hi / (⟨T1 + 1, s2, lo2, hi2⟩ : Rnd).s = c := hc.symm
        have HS2 := hideI hs2
        have HTOP := hideI htop
        have HLH := hideI hlh
        have HHT := hideI hhT
        have HB0W5 : Hid (b0 < W5.heap.size) := hideI (Array.getElem?_eq_some_iff.1 HX5.out.row).1
        by_cases hle : n ≤ c
        · have HLE : Hid ((⟨T1 + 1, s2, lo2, hi2⟩ : Rnd).Least n) := hideI (by
            have h := Rnd.hit HOK2.out hs2 (by rw [hah, hhs]; exact hle)
            rw [hah] at h
            exact h)
          obtain ⟨hfit, hout⟩ := HAS.out.least n HLE.out
          have HBH := hideI (fun (V : World) (hV : RdL V (b0 + 1) u6 R) => behind_any R n (b0 + 1) u6 hN.out hA.out.all hfit V hV)
          have HOUT := hideI hout
          have hci : (n : Int) ≤ (c : Int) := by omega
          clear hfit hout hle hah hhs hn hq hc hql hlo2 hlh hhT htop hs2
          go_wp2_with (first
            | (go_at_call 25; go_must (refine (HBE.out _).mono ?_); rintro e w6 ⟨rfl, hw6⟩; have HX6 := hideI (HX5.out.keep hw6 HB0W5.out); have HL6 := hideI (RdL.kept HL5.out hw6 (Nat.le_refl _)); have HB6 := hideI (HB5.out.trans (hw6.mono (Nat.le_of_lt HB0W5.out))); clear hw6 r0 r1 r2 r3; (obtain ⟨r0, r1, r2, r3⟩ := HX6.out.rd))
            | (go_at_call 26; go_must (refine (HBH.out _ HL6.out).mono ?_); rintro e w7 ⟨rfl, hw7⟩))
          refine bodyPost_ret (results_tmp2 rfl _ _ _) (by rfl) ?_
          refine ⟨⟨_, .yes HOUT.out, rfl⟩, HB6.out.trans (hw7.mono (Nat.le_of_lt ?_))⟩
          exact (Array.getElem?_eq_some_iff.1 HX6.out.row).1
        · have hci : ¬ (n : Int) ≤ (c : Int) := by omega
          have hmiss : ¬ (⟨T1 + 1, s2, lo2, hi2⟩ : Rnd).ahead + 1 ≤ (⟨T1 + 1, s2, lo2, hi2⟩ : Rnd).hi / (⟨T1 + 1, s2, lo2, hi2⟩ : Rnd).s := by rw [hah, hhs]; exact hle
          have HOK3 := hideI (Rnd.next_ok HOK2.out hs2 hmiss)
          have HAS3 := hideI (Asked.next HAS.out HOK2.out hs2 hmiss)
          have HNE := hideI (fun V : World => next_any T1 s2 lo2 hi2 hs2 (by have h5 : 2 * s2 ≤ T1 + 1 := HHF.out.2.2; omega) htop (by omega) (by omega) V)
          have HA2 : Hid (At z wd (k + 1) (R ++ [⟨T1 + 1, s2, lo2, hi2⟩]) (s2 - 1) (s2 - 1 - T1 % s2) (lo2 % s2) (hi2 % s2)) := hideI (by
            have hnx : (⟨s2 - 1 + 1, s2 - 1 - T1 % s2, lo2 % s2, hi2 % s2⟩ : Rnd) = (⟨T1 + 1, s2, lo2, hi2⟩ : Rnd).next := by
              unfold Rnd.next
              rw [show s2 - 1 + 1 = s2 by omega]
              rfl
            refine ⟨by rw [List.length_append, hA.out.len]; rfl, by rw [hnx]; exact HOK3.out, by rw [hnx, List.reverse_append]; exact HAS3.out, ?_, ?_, by have h5 : 2 * s2 ≤ T1 + 1 := HHF.out.2.2; omega⟩
            · intro x hx
              rcases List.mem_append.mp hx with h | h
              · exact hA.out.all x h
              · rw [List.mem_singleton.mp h]
                show T1 + 1 ≤ _
                omega
            · rw [show s2 - 1 + 1 = s2 by omega]
              exact half_pow hA.out.few HHF.out.2.2 hlt)
          clear hmiss hle hah hhs hn hq hc hql hlo2 hlh hhT htop hs2
          obtain ⟨T3, hT3⟩ : ∃ x, x = s2 - 1 := ⟨_, rfl⟩
          obtain ⟨s3, hs3⟩ : ∃ x, x = s2 - 1 - T1 % s2 := ⟨_, rfl⟩
          obtain ⟨lo3, hlo3⟩ : ∃ x, x = lo2 % s2 := ⟨_, rfl⟩
          obtain ⟨hi3, hhi3⟩ : ∃ x, x = hi2 % s2 := ⟨_, rfl⟩
          rw [← hs3, ← hlo3, ← hhi3, ← hT3] at HNE HA2
          clear hs3 hlo3 hhi3 hT3
          go_upto_region 12 with (first
            | (go_at_call 25; go_must (refine (HBE.out _).mono ?_); rintro e w6 ⟨rfl, hw6⟩; have HX6 := hideI (HX5.out.keep hw6 HB0W5.out); have HL6 := hideI (RdL.kept HL5.out hw6 (Nat.le_refl _)); have HB6 := hideI (HB5.out.trans (hw6.mono (Nat.le_of_lt HB0W5.out))); clear hw6 r0 r1 r2 r3; (obtain ⟨r0, r1, r2, r3⟩ := HX6.out.rd))
            | (at_builtin; go_must (refine wpList_append_lies _ rfl _ _ _ rfl (b0 + 1) 44 i4 _ 4 32 Tryd.underlying46 hj4 hz0 hz1 hz2 rfl (by decide) _ _ _ rfl (World.ownsRow.alloc HL6.out _) ⟨w6.heap.size, 0, none⟩ 1 1 (rc ⟨T1 + 1, s2, lo2, hi2⟩) rfl rfl (World.news_of_block (heap_alloc_new w6 _)) (by simp [rc, Value.oneCell']) (by decide) (by have := hN.out; unfold maxLen; omega) (by have := hN.out; omega) (by have := (Array.getElem?_eq_some_iff.1 HX6.out.row).1; simp; omega) _ rfl ?_); intro ga cap w7 hown hgrow hor hgl; have HL7 : Hid (RdL w7 (b0 + 1) (.slice (some ⟨ga, 0, none⟩) (R.length + 1) cap) (R ++ [⟨T1 + 1, s2, lo2, hi2⟩])) := hideI (RdL.push hown); have HX7 : Hid (Box w7 b0 T1 s2 lo2 hi2) := hideI (Box.grown (HX6.out.alloc _) hgrow (RdL.alloc HL6.out _) (Nat.lt_succ_self _)); have HB7 : Hid (Below b0 w w7) := hideI ((HB6.out.alloc (Nat.le_of_lt (Array.getElem?_eq_some_iff.1 HX6.out.row).1) _).grown hgrow (Nat.le_of_lt (Array.getElem?_eq_some_iff.1 (HX6.out.alloc _).row).1) (fun j hj => by have := (World.ownsRow.lt HL6.out j hj).1; omega)); clear hown hgrow hor hgl r0 r1 r2 r3; (obtain ⟨r0, r1, r2, r3⟩ := HX7.out.rd); have HB0W7 : Hid (b0 < w7.heap.size) := hideI (Array.getElem?_eq_some_iff.1 HX7.out.row).1)
            | (go_at_call 27; go_must (refine (HNE.out _).mono ?_); rintro e w8 ⟨rfl, hw8⟩; have HX8 := hideI (HX7.out.keep hw8 HB0W7.out); have HL8 := hideI (RdL.kept HL7.out hw8 (Nat.le_refl _)); have HB8 := hideI (HB7.out.trans (hw8.mono (Nat.le_of_lt HB0W7.out))); clear hw8 r0 r1 r2 r3; (obtain ⟨d0, d1, d2, d3⟩ := HX8.out.rd); have g0 := HX8.out.fz 0; have g1 := HX8.out.fz 1; have g2 := HX8.out.fz 2; have g3 := HX8.out.fz 3))
          have HX9 := hideI (box_put (T2 := T3) (s2 := s3) (lo2 := lo3) (hi2 := hi3) HX8.out.row)
          have HL9 := fun v0 v1 v2 v3 => hideI (RdL.box (v0 := v0) (v1 := v1) (v2 := v2) (v3 := v3) HL8.out (Nat.lt_succ_self b0))
          have HB9 := fun v0 v1 v2 v3 => hideI (HB8.out.trans (box_below (W := w8) (b := b0) (v0 := v0) (v1 := v1) (v2 := v2) (v3 := v3) (Nat.le_refl b0)))
          clear d0 d1 d2 d3 g0 g1 g2 g3
          go_wp2
          go_roundw
          case rel => exact ⟨k + 1, _, _, T3, s3, lo3, hi3, by omega, by go_num, rfl, ⟨_, rfl⟩, HA2, hideI ⟨HX9.out⟩, HL9 _ _ _ _, HB9 _ _ _ _⟩
          case measure => simp [intOf]; omega
    · exfalso
      have hkm : k = wd := by omega
      have h1 := hA.out.few
      have h2 := hA.out.ok.hi1
      have h3 := hA.out.ok.lo0
      have h4 := hA.out.ok.span
      rw [hkm, Nat.sub_self] at h1
      simp at h1 h2 h3 h4
      omega
end Go.Proofs.YtidebjcnmabggaaDoor.Mo
