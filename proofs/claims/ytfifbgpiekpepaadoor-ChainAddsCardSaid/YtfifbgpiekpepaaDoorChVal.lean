/- The program's value of a chain behind n rounds; At. -/
import Derived.Test.YtfifbgpiekpepaaDoorChPart
import Derived.Test.YtfifbgpiekpepaaDoorRAt
namespace Go.Proofs.YtfifbgpiekpepaaDoor.Chn
open Go.RowKit

/-- a list of numbers that came in, or was made: its room told -/
def CI (w : World) (B : Nat) (v : Value) (xs : List Int) : Prop := Ints w B v xs ∧ ∀ A n c, v = .slice A n c → n ≤ c

theorem ps_over (c : List Int) (n : Nat) : ∀ (d k : Nat), n < k → k + d = c.length → ps c n 0 c.length = ps c n 0 k
  | 0, k, _, h => by rw [← h]; rfl
  | d + 1, k, hk, h => by
    rw [ps_over c n d (k + 1) (by omega) (by omega), ps, Nat.zero_add, ch_over n k hk]
    omega

theorem val_step (c : List Int) (n k : Nat) {x : Int} (hx : c[k]? = some x) : IntKind.i64.wrap (wrp (ps c n 0 k) + IntKind.i64.wrap (x * wrp (ch n k))) = wrp (ps c n 0 (k + 1)) := at_step c n k hx

/-- the odd part of a number of 63 bits -/
theorem odd_nat (m : Nat) (h0 : 0 < m) : ∃ a r, m = (2 * a + 1) * 2 ^ r := by
  obtain ⟨q, t, e, ho, hp⟩ := odd_part m (m : Int) (by omega) (by omega)
  refine ⟨(q / 2).toNat, t, ?_⟩
  have h1 : ((2 * (q / 2).toNat + 1 : Nat) : Int) = q := by omega
  have h2 : (((2 * (q / 2).toNat + 1) * 2 ^ t : Nat) : Int) = (m : Int) := by
    rw [Int.natCast_mul, h1, Int.natCast_pow, e]
    rfl
  omega

theorem load_ways {w : World} {g : Nat} {o : Int} {t : Nat} (h : w.heap[g]? = some (.cells #[.int .u64 o, .int .i64 t] 49 (0, 0))) :
    (Instr.loadAt 49 (.pointer (some ⟨g, 0, none⟩))).run Tryd.prog w = .ok (.agg #[.int .u64 o, .int .i64 t]) w := by
  simp only [Instr.loadAt, Instr.sureAddr, Sem.run_bind, Sem.run_pure, Result.andThen_ok, run_loadVar_row w g 49 49 _ _ _ h Tryd.underlying49 rfl (by kernel_rfl)]

/-- the state of the loop: the ways so far -/
structure ValAt (w : World) (g : Nat) (o : Int) (t : Nat) : Prop where
  row : w.heap[g]? = some (.cells #[.int .u64 o, .int .i64 t] 49 (0, 0))

set_option maxRecDepth 100000 in
set_option maxHeartbeats 2000000 in
theorem value_any (cs : List Int) (B : Nat) (v : Value) (n : Nat) (w : World) (hT : Tab w) (hx : Ints w B v cs) (hB : B ≤ w.heap.size) (hl : cs.length ≤ 1000) (hn : n < 9223372036854775808) :
    Calls Tryd.prog 30 #[v, .int .i64 n] w fun e w' => e = .returned (.int .i64 (wrp (vl cs n))) ∧ Below w.heap.size w w' := by
  have HX := hideI hx
  obtain ⟨A, c, rfl, _, _⟩ := hx
  have HB := hideI hB
  have HT := hideI hT
  have HT0 := hT.1
  obtain ⟨m, hm⟩ : ∃ m, m = cs.length := ⟨_, rfl⟩
  have HM := hideI hm
  rw [← hm] at hl ⊢
  clear hB hm hT
  obtain ⟨g, hg⟩ : ∃ g, g = w.heap.size := ⟨_, rfl⟩
  have HG := hideI hg
  obtain ⟨W1, hW1⟩ : ∃ W1 : World, W1 = w.alloc (.cells #[.int .u64 1, .int .i64 0] 49) := ⟨_, rfl⟩
  have HB1 : Hid (Below w.heap.size w W1) := hideI (by rw [hW1]; exact (Below.refl _ w).alloc (Nat.le_refl _) _)
  have HR1 : Hid (ValAt W1 g 1 0) := hideI ⟨by rw [hW1, hg]; exact heap_alloc_new w _⟩
  have hgs : g < W1.heap.size := by rw [hW1, hg]; simp
  have HW1 := hideI hW1
  clear hW1 hg
  go_enter Tryd.func30, Tryd.ntmps30
  go_upto_region 2 with fail
  rw [← HW1.out, ← HG.out]
  go_wp2
  go_loopw [5, 12] (fun u5 u12 wv => ∃ (k : Nat) (o : Int) (t : Nat), k ≤ m ∧ k ≤ n ∧ t ≤ 63 * k ∧ u12 = .int .i64 k ∧ u5 = .int .i64 (wrp (ps cs n 0 k)) ∧ Hid (Way o t (ch n k)) ∧ Hid (ValAt wv g o t) ∧ Hid (Below w.heap.size w wv) ∧ Hid (g < wv.heap.size)) (fun _ u12 _ => m - (intOf u12).toNat)
  case atStart => exact ⟨0, 1, 0, Nat.zero_le _, Nat.zero_le _, Nat.zero_le _, rfl, rfl, hideI (by rw [ch_right]; exact Way.one), HR1, HB1, hideI hgs⟩
  case round =>
    obtain ⟨k, o, t, hk, hkn, ht, rfl, rfl, HWY, HVA, HBr, HGS⟩ := hrel
    by_cases hlt : k < m
    · obtain ⟨x, hx⟩ : ∃ x, cs[k]? = some x := ⟨_, List.getElem?_eq_getElem (by have := HM.out; omega)⟩
      obtain ⟨A', c', e, _, hat⟩ := HX.out
      injection e with e e1 e2
      subst e e2
      obtain ⟨b, off, hA, hb, hc⟩ := hat k (by have := HM.out; omega)
      subst hA
      have HBB := HB.out
      have k1 : wr.cell? ⟨b, off + k, none⟩ = some (.int .i64 x) := by
        rw [hx] at hc
        exact (HBr.out.cell (p := ⟨b, off + k, none⟩) (show b < w.heap.size by omega)).trans hc
      have k2 : wr.cell? ⟨g, 0, none⟩ = some (.int .u64 o) := row_cells HVA.out.row rfl 0
      have k3 : wr.cell? ⟨g, 1, none⟩ = some (.int .i64 t) := row_cells HVA.out.row rfl 1
      have k4 : (k : Int) < (m : Int) := by omega
      have HAS := hideI (at_step cs n k hx)
      have HNU := hideI (number_any o t (ch n k) HWY.out wr)
      have HGL := HGS.out
      clear hx hat hb hc e1 HBB
      by_cases hkE : k = n
      · subst hkE
        have hE : ps cs k 0 (k + 1) = vl cs k := by
          rw [← ps_vl, ← HM.out]
          rcases Nat.lt_or_ge (k + 1) m with h5 | h5
          · have h6 := ps_over cs k (m - (k + 1)) (k + 1) (by omega) (by have := HM.out; omega)
            rw [← HM.out] at h6
            exact h6.symm
          · rw [show k + 1 = m by omega]
        rw [hE] at HAS
        clear hE
        go_wp2_with (go_at_call 34; go_must (refine HNU.out.mono ?_); rintro e w1 ⟨rfl, hb1⟩; have HB2 := hideI (HBr.out.trans (hb1.mono HBr.out.size)); clear hb1)
        refine bodyPost_ret (results_tmp rfl _ _ _) (by rfl) ?_
        exact ⟨by simp only [odd_wrap, HAS.out]; rfl, HB2.out⟩
      · have hkE2 : ¬ ((k : Int) = (n : Int)) := by omega
        obtain ⟨a1, r1, e1⟩ := odd_nat (n - k) (by omega)
        obtain ⟨a2, r2, e2⟩ := odd_nat (k + 1) (by omega)
        obtain ⟨hs, HWN⟩ := HWY.out.next (q := ((2 * a1 + 1 : Nat) : Int)) (p := ((2 * a2 + 1 : Nat) : Int)) (i := invW ((2 * a2 + 1 : Nat) : Int) 5) (r := r1) (s := r2) (y := ch n (k + 1)) (by omega) (by omega) (ch_pos n (k + 1) (by omega)) (by
          have h7 := ch_ratio n k
          have h8 : ((k : Int) + 1) = ((2 * a2 + 1 : Nat) : Int) * 2 ^ r2 := by
            have h9 : ((k + 1 : Nat) : Int) = (((2 * a2 + 1) * 2 ^ r2 : Nat) : Int) := by rw [e2]
            rw [Int.natCast_mul, Int.natCast_pow] at h9
            exact h9
          have h10 : ((n : Int) - k) = ((2 * a1 + 1 : Nat) : Int) * 2 ^ r1 := by
            have h9 : ((n - k : Nat) : Int) = (((2 * a1 + 1) * 2 ^ r1 : Nat) : Int) := by rw [e1]
            rw [Int.natCast_mul, Int.natCast_pow, Int.natCast_sub hkn] at h9
            exact h9
          rw [← h8, ← h10]
          exact h7) (invW_is (by omega))
        have hp1 : (2 * a1 + 1) * 2 ^ r1 < 2 ^ 63 := by rw [← e1]; omega
        have hp2 : (2 * a2 + 1) * 2 ^ r2 < 2 ^ 63 := by rw [← e2]; omega
        have hr1 := small_pow hp1
        have HTI := hideI (fun (V : World) (hV : Tab V) => times_any o t a1 r1 (by omega) hp1 V hV)
        have HOV := hideI (fun (V : World) (hV : Tab V) => over_any (IntKind.u64.wrap (o * ((2 * a1 + 1 : Nat) : Int))) (t + r1) a2 r2 (by omega) hs hp2 V hV)
        rw [← e1] at HTI
        rw [← e2] at HOV
        have HWN := hideI HWN
        have ht2 : t + r1 - r2 ≤ 63 * (k + 1) := by omega
        obtain ⟨t2, h2⟩ : ∃ t2, t2 = t + r1 - r2 := ⟨_, rfl⟩
        rw [← h2] at HWN ht2 HOV
        obtain ⟨o1, ho1⟩ : ∃ o1, o1 = IntKind.u64.wrap (o * ((2 * a1 + 1 : Nat) : Int)) := ⟨_, rfl⟩
        rw [← ho1] at HWN HTI HOV
        obtain ⟨o2, ho2⟩ : ∃ o2, o2 = IntKind.u64.wrap (o1 * invW ((2 * a2 + 1 : Nat) : Int) 5) := ⟨_, rfl⟩
        rw [← ho2] at HWN HOV
        obtain ⟨N1, hN1⟩ : ∃ N1, N1 = n - k := ⟨_, rfl⟩
        have HN1 : Hid ((n : Int) - (k : Int) = (N1 : Int)) := hideI (by omega)
        rw [← hN1] at HTI
        have e5 : IntKind.i64.wrap ((n : Int) - (k : Int)) = (N1 : Int) := by rw [HN1.out]; exact IntWalk.i64_in _ (by omega)
        clear e1 e2 hp1 hp2 hs h2 ho1 ho2 hN1 hr1 HNU
        go_upto_region 7 with (go_at_call 34; go_must (refine (number_any o t (ch n k) HWY.out wr).mono ?_); rintro e w1 ⟨rfl, hb1⟩; have HB2 := hideI (HBr.out.trans (hb1.mono HBr.out.size)); have HVA1 := hideI ((hb1.block g HGL).trans HVA.out.row); have HS1 := hb1.size; clear hb1)
        have p2 : w1.cell? ⟨g, 0, none⟩ = some (.int .u64 o) := row_cells HVA1.out rfl 0
        have p3 : w1.cell? ⟨g, 1, none⟩ = some (.int .i64 t) := row_cells HVA1.out rfl 1
        clear k1 k2 k3
        go_wp2_with (first
          | (go_at_call 35; go_must (refine (HTI.out w1 (HT.out.keep HB2.out HT0)).mono ?_); rintro e w2 ⟨rfl, hb2⟩; have HB3 := hideI (HB2.out.trans (hb2.mono HB2.out.size)); have HVA2 := hideI ((hb2.block g (Nat.lt_of_lt_of_le HGL HS1)).trans HVA1.out); have HS2 := Nat.le_trans HS1 hb2.size; clear hb2)
          | (go_at_call 36; go_must (refine (HOV.out w2 (HT.out.keep HB3.out HT0)).mono ?_); rintro e w3 ⟨rfl, hb3⟩; have HB4 := hideI (HB3.out.trans (hb3.mono HB3.out.size)); have HVA3 := hideI ((hb3.block g (Nat.lt_of_lt_of_le HGL HS2)).trans HVA2.out); have HS3 := Nat.le_trans HS2 hb3.size; clear hb3; have q0 : w3.cell? ⟨g, 0, none⟩ = some (.int .u64 o) := row_cells HVA3.out rfl 0; have q1 : w3.cell? ⟨g, 1, none⟩ = some (.int .i64 t) := row_cells HVA3.out rfl 1; have z0 : w3.frozen? ⟨g, 0, none⟩ = false := frozen_of_row w3 _ 0 _ _ HVA3.out; have z1 : w3.frozen? ⟨g, 1, none⟩ = false := frozen_of_row w3 _ 1 _ _ HVA3.out))
        have h1 := heap_setCell_same w3 g 0 _ _ (.int .u64 o2) HVA3.out
        have h2 := heap_setCell_same _ g 1 _ _ (.int .i64 t2) h1
        simp only [List.setIfInBounds_toArray, List.set_cons_zero, List.set_cons_succ] at h2
        have HSS := hideI h2
        clear h1 h2
        go_roundw
        case rel => exact ⟨k + 1, o2, t2, by omega, by omega, ht2, by go_num, by simp only [odd_wrap, HAS.out], HWN, hideI ⟨HSS.out⟩, hideI ((HB4.out.setCell (p := ⟨g, 0, none⟩) (Nat.le_of_eq HG.out.symm) _).setCell (p := ⟨g, 1, none⟩) (Nat.le_of_eq HG.out.symm) _), hideI (by have h1 := HGL; simp; omega)⟩
        case measure => simp [intOf]; omega
    · have hkm : k = m := by omega
      have hE : ps cs n 0 k = vl cs n := by rw [hkm, HM.out, ps_vl]
      rw [hE]
      clear hE
      go_wp2
      go_ret
      exact ⟨rfl, HBr.out⟩
end Go.Proofs.YtfifbgpiekpepaaDoor.Chn
