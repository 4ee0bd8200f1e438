/- The reference's Meet. -/
import Derived.Test.YtclbhbnidodmdaaRefIdoms
import Derived.Test.YtclbhbnidodmdaaDMeet
import Derived.Test.YtclbhbnidodmdaaRefCheck
import Derived.BigQuiet
import Derived.Deep.QuietTactic
namespace Go.Proofs.Ytclbhbnidodmdaa
open Go.RowKit Go.Maps

section
variable (f : FuncM) (B : Nat) (pv bv : Value) (w : World) (hpv : Ints w B pv f.params) (hbv : BlocksR w B bv f.blocks) (hB : B ≤ w.heap.size)
include hpv hbv hB

set_option maxRecDepth 100000 in
set_option maxHeartbeats 1000000 in
theorem refMeet_no (lv : Value) (h0 : (lookM f).1 ≠ 0) :
    Calls Try.prog 38 #[.agg #[pv, .int .i64 f.arrays, .int .i64 f.cells, bv], lv] w fun e w' => e = .returned (.tuple #[.int .i64 0, .int .i64 (lookM f).1]) ∧ Below w.heap.size w w' := by
  have HP := hideI hpv
  have HBL := hideI hbv
  obtain ⟨P, pc, rfl, _⟩ := hpv
  obtain ⟨A, c, rfl, hbm, _⟩ := hbv
  have HB0 : Hid (Below w.heap.size w (w.alloc (.cells #[.slice P f.params.length pc, .int .i64 f.arrays, .int .i64 f.cells, .slice A f.blocks.length c] 25))) := (Below.refl _ w).alloc (Nat.le_refl _) _
  have HT := hideI (refCheck_any f B _ _ (w.alloc (.cells #[.slice P f.params.length pc, .int .i64 f.arrays, .int .i64 f.cells, .slice A f.blocks.length c] 25)) (HP.out.keeps (Keeps.of_below (HB0.out.mono hB))) (HBL.out.keeps (Keeps.of_below (HB0.out.mono hB))) (by simp; omega))
  have H0 := hideI h0
  have hb : ((lookM f).1 != 0) = true := by simpa using h0
  clear h0
  go_enter Try.func38, Try.ntmps38
  go_wp2_with (go_at_call 15; go_must (refine HT.out.mono ?_); rintro e w1 ⟨rfl, hb1⟩; have HB1 := hideI (HB0.out.trans (hb1.mono (by simp))); clear hb1)
  go_ret2
  exact ⟨rfl, HB1.out⟩

set_option maxRecDepth 100000 in
set_option maxHeartbeats 1000000 in
theorem refMeet_nil (la : Option Addr) (lc : Nat) (h0 : (lookM f).1 = 0) :
    Calls Try.prog 38 #[.agg #[pv, .int .i64 f.arrays, .int .i64 f.cells, bv], .slice la 0 lc] w fun e w' => e = .returned (.tuple #[.int .i64 0, .int .i64 1]) ∧ Below w.heap.size w w' := by
  have HP := hideI hpv
  have HBL := hideI hbv
  obtain ⟨P, pc, rfl, _⟩ := hpv
  obtain ⟨A, c, rfl, hbm, _⟩ := hbv
  have HB0 : Hid (Below w.heap.size w (w.alloc (.cells #[.slice P f.params.length pc, .int .i64 f.arrays, .int .i64 f.cells, .slice A f.blocks.length c] 25))) := (Below.refl _ w).alloc (Nat.le_refl _) _
  have HT := hideI (refCheck_any f B _ _ (w.alloc (.cells #[.slice P f.params.length pc, .int .i64 f.arrays, .int .i64 f.cells, .slice A f.blocks.length c] 25)) (HP.out.keeps (Keeps.of_below (HB0.out.mono hB))) (HBL.out.keeps (Keeps.of_below (HB0.out.mono hB))) (by simp; omega))
  have H0 := hideI h0
  clear h0
  go_enter Try.func38, Try.ntmps38
  go_wp2_with (go_at_call 15; go_must (refine HT.out.mono ?_); rw [H0.out]; rintro e w1 ⟨rfl, hb1⟩; have HB1 := hideI (HB0.out.trans (hb1.mono (by simp))); clear hb1)
  go_ret2
  exact ⟨rfl, HB1.out⟩

def RefMeetPost (o : List Nat) (n : Nat) (L : List Int) (m : Nat) (w : World) (e : Ending) (w' : World) : Prop :=
  ((∃ x ∈ L, okB o n x = false) → e = .returned (.tuple #[.int .i64 0, .int .i64 9])) ∧ ((∀ x ∈ L, okB o n x = true) → e = .returned (.tuple #[.int .i64 m, .int .i64 0])) ∧ Below w.heap.size w w'

set_option maxRecDepth 100000 in
set_option maxHeartbeats 1000000 in
theorem refMeet_some (L : List Int) (BL g off lc n : Nat) (o : List Nat) (pl : Nat → Nat) (par : Nat → Option Nat) (G : Nat → Nat → Bool) (m : Nat) (h0 : (lookM f).1 = 0) (hL : Ints w BL (.slice (some ⟨g, off, none⟩) n lc) L) (hBL : BL ≤ w.heap.size) (hn : L.length = n) (hl0 : 0 < n)
    (ho : OrderIs f.blocks o) (hO : Ord (succM f.blocks) o pl) (hD : Done (succM f.blocks) o pl par) (hG : ∀ a b, G a b = true ↔ OverP f.blocks o a b)
    (hm : (∀ x ∈ L, okB o f.blocks.length x = true) → m ∈ o ∧ ∀ x, OverP f.blocks o x m ↔ ∀ b ∈ L.map Int.toNat, OverP f.blocks o x b) :
    Calls Try.prog 38 #[.agg #[pv, .int .i64 f.arrays, .int .i64 f.cells, bv], .slice (some ⟨g, off, none⟩) n lc] w (RefMeetPost o f.blocks.length L m w) := by
  have HP := hideI hpv
  have HBL := hideI hbv
  have HO := hideI ho
  have HORD := hideI hO
  have HD := hideI hD
  have HG := hideI hG
  have HM := hideI hm
  have HLI := hideI hL
  have HNL := hideI hn
  have hnb := look_some_block h0
  have hn0 := hnb.1
  have hn5 := hnb.2
  obtain ⟨P, pc, rfl, _⟩ := hpv
  obtain ⟨A, c, rfl, hbm, _⟩ := hbv
  have HB0 : Hid (Below w.heap.size w (w.alloc (.cells #[.slice P f.params.length pc, .int .i64 f.arrays, .int .i64 f.cells, .slice A f.blocks.length c] 25))) := (Below.refl _ w).alloc (Nat.le_refl _) _
  have HT := hideI (refCheck_any f B _ _ (w.alloc (.cells #[.slice P f.params.length pc, .int .i64 f.arrays, .int .i64 f.cells, .slice A f.blocks.length c] 25)) (HP.out.keeps (Keeps.of_below (HB0.out.mono hB))) (HBL.out.keeps (Keeps.of_below (HB0.out.mono hB))) (by simp; omega))
  have HX := hideI (heap_alloc_new w (.cells #[.slice P f.params.length pc, .int .i64 f.arrays, .int .i64 f.cells, .slice A f.blocks.length c] 25))
  have H0 := hideI h0
  have hlb : ((n : Int) == 0) = false := by rw [beq_eq_false_iff_ne]; omega
  have hnl : n ≤ 140737488351232 := by obtain ⟨_, _, _, h, _⟩ := HLI.out; omega
  clear h0 hnb hm hL ho hO hD hG hn
  go_enter Try.func38, Try.ntmps38
  go_wp2_with (first
    | (go_at_call 15; go_must (refine HT.out.mono ?_); rw [H0.out]; rintro e w1 ⟨rfl, hb1⟩; have HB1 := hideI (HB0.out.trans (hb1.mono (by simp))); replace HX := hideI ((hb1.block _ (lt_of_heap HX.out)).trans HX.out); have hx := row_cells HX.out rfl; clear hb1)
    | (go_at_call 34; go_must (refine (refOver_any f.blocks o G B _ _ _ _ _ (HBL.out.keeps (Keeps.of_below (HB1.out.mono hB))) (Nat.le_trans hB HB1.out.size) hn0 hn5 (look_ends H0.out) HO.out HG.out).mono ?_); rintro e w2 ⟨gv, rfl, hgr, hb2⟩; have HGR := hideI hgr; have HB2 := hideI (HB1.out.trans (hb2.mono HB1.out.size)); replace HX := hideI ((hb2.block _ (lt_of_heap HX.out)).trans HX.out); clear hb2 hgr hx))
  have HL2 : Hid (Ints w2 BL (.slice (some ⟨g, off, none⟩) n lc) L) := HLI.out.keep (HB2.out.mono hBL)
  obtain ⟨A2, c2, e2, _, hcell⟩ := HL2.out
  rw [HNL.out] at e2 hcell
  cases e2
  have HCELL := hideI hcell
  obtain ⟨gb, gc, rfl, hgb, hgrid⟩ := HGR.out
  have HGRID := hideI hgrid
  have hx := row_cells HX.out rfl
  have q3 := hx 3
  clear hx hcell hgrid
  go_loopw [8] (fun u8 wr => ∃ i mm : Nat, i ≤ n ∧ u8 = .int .i64 i ∧ wr = w2.drewN mm ∧ Hid (∀ j x, j < i → L[j]? = some x → okB o f.blocks.length x = true)) (fun u8 _ => n - (intOf u8).toNat)
  case atStart => exact ⟨0, 0, Nat.zero_le _, rfl, rfl, hideI (fun j x h => by omega)⟩
  case round =>
    obtain ⟨i, mm, hi, rfl, rfl, HALL⟩ := hrel
    by_cases hlt : i < n
    · obtain ⟨x, hx⟩ : ∃ x, L[i]? = some x := ⟨_, List.getElem?_eq_getElem (by rw [HNL.out]; exact hlt)⟩
      obtain ⟨b1, o1, e1, hb1, d1⟩ := HCELL.out i hlt
      cases e1
      rw [hx] at d1
      simp only [Option.getD_some] at d1
      have HXI := hideI hx
      clear hx
      have fin : ∀ W, Below w.heap.size w W → okB o f.blocks.length x = false → RefMeetPost o f.blocks.length L m w (.returned (.tuple #[.int .i64 0, .int .i64 9])) W := fun W hW h =>
        ⟨fun _ => rfl, (fun h2 => by rw [h2 x (List.mem_of_getElem? HXI.out)] at h; cases h), hW⟩
      have FIN := hideI fin
      clear fin
      by_cases h1 : x < 0
      · have HBAD : Hid (okB o f.blocks.length x = false) := by
          show _ = _
          unfold okB isBlockB
          rw [decide_eq_false (by omega : ¬ 0 ≤ x)]
          rfl
        have d1a : decide (x < 0) = true := decide_eq_true h1
        go_wp2_with fail
        go_quiet (fail)
        go_wp2
        go_ret2
        exact FIN.out _ (drew_below (drew_below HB2.out _) _) HBAD.out
      · by_cases h2 : (f.blocks.length : Int) ≤ x
        · have HBAD : Hid (okB o f.blocks.length x = false) := by
            show _ = _
            unfold okB isBlockB
            rw [decide_eq_false (by omega : ¬ x < (f.blocks.length : Int)), Bool.and_false]
            rfl
          have d1a : decide (x < 0) = false := decide_eq_false h1
          have d1b : decide ((f.blocks.length : Int) ≤ x) = true := decide_eq_true h2
          go_wp2_with fail
          go_quiet (fail)
          go_wp2
          go_ret2
          exact FIN.out _ (drew_below (drew_below HB2.out _) _) HBAD.out
        · obtain ⟨a, rfl⟩ : ∃ a : Nat, x = (a : Int) := ⟨x.toNat, by omega⟩
          have hal : a < f.blocks.length := by omega
          obtain ⟨ga, _, k1, hrow⟩ := HGRID.out a hal
          have k2 := hrow a hal
          clear hrow
          have HIB : Hid (isBlockB f.blocks.length (a : Int) = true) := by show _ = _; simp [isBlockB]; omega
          cases hgx : G a a with
          | false =>
            have HBAD : Hid (okB o f.blocks.length (a : Int) = false) := by
              show _ = _
              unfold okB
              rw [HIB.out, Bool.true_and, decide_eq_false_iff_not]
              intro h
              have := (HG.out a a).2 (OverP.refl (by simpa using h))
              rw [hgx] at this
              cases this
            rw [hgx] at k2
            clear hgx
            have d1a : decide ((a : Int) < 0) = false := decide_eq_false h1
            have d1b : decide ((f.blocks.length : Int) ≤ (a : Int)) = false := decide_eq_false h2
            have d1c : decide (f.blocks.length ≤ a) = false := decide_eq_false (by omega)
            go_wp2_with fail
            go_quiet (fail)
            go_wp2
            go_ret2
            exact FIN.out _ (drew_below (drew_below HB2.out _) _) HBAD.out
          | true =>
            have HOKX : Hid (okB o f.blocks.length (a : Int) = true) := by
              show _ = _
              unfold okB
              rw [HIB.out, Bool.true_and, decide_eq_true_eq]
              simpa using ((HG.out a a).1 hgx).1
            rw [hgx] at k2
            clear hgx
            have d1a : decide ((a : Int) < 0) = false := decide_eq_false h1
            have d1b : decide ((f.blocks.length : Int) ≤ (a : Int)) = false := decide_eq_false h2
            have d1c : decide (f.blocks.length ≤ a) = false := decide_eq_false (by omega)
            go_wp2_with fail
            go_quiet (fail)
            go_wp2
            go_roundw
            case rel => exact ⟨i + 1, _, by omega, by go_num, rfl, hideI (fun j y hj hy => by
              by_cases e : j = i
              · subst e; rw [HXI.out] at hy; cases hy; exact HOKX.out
              · exact HALL.out j y (by omega) hy)⟩
            case measure => simp [intOf]; omega
    · have HALL2 : Hid (∀ x ∈ L, okB o f.blocks.length x = true) := fun x hx => by
        obtain ⟨i2, hi2⟩ := List.getElem?_of_mem hx
        exact HALL.out i2 x (by have := (List.getElem?_eq_some_iff.1 hi2).1; rw [HNL.out] at this; omega) hi2
      have hmm := HM.out HALL2.out
      have hR : ∀ x ∈ o, x < f.blocks.length := HO.out.range (look_ends H0.out) hn0
      have HTOP := hideI (tops_meet HORD.out HD.out hR HG.out hmm.1 hmm.2)
      have hLn : ∀ b ∈ L.map Int.toNat, b < f.blocks.length := fun b hb => by
        obtain ⟨x, hx, rfl⟩ := List.mem_map.1 hb
        exact (okB_nat (HALL2.out x hx)).2.1
      have hLL : (L.map Int.toNat).map (fun (x : Nat) => (x : Int)) = L := by
        rw [List.map_map]
        conv => rhs; rw [← List.map_id L]
        apply List.map_congr_left
        intro x hx
        exact (okB_nat (HALL2.out x hx)).1.symm
      have HLI3 : Hid (Ints (w2.drewN mm) BL (.slice (some ⟨g, off, none⟩) n lc) ((L.map Int.toNat).map (fun (x : Nat) => (x : Int)))) := by
        show Ints _ _ _ _
        rw [hLL]
        exact HL2.out.keep (drew_below (Below.refl _ _) mm)
      have HLN := hideI hLn
      have HGR3 : Hid (GridR (w2.drewN mm) (.slice (some ⟨gb, 0, none⟩) f.blocks.length gc) f.blocks.length G) := HGR.out.kept (drew_below (Below.refl _ _) mm)
      clear hmm hR hLn hLL
      go_wp2_with (go_at_call 62; go_must (refine (refClosest_any f.blocks.length G (L.map Int.toNat) (-1) m BL _ _ _ HGR3.out HLI3.out HLN.out hn5 HTOP.out).mono ?_); rintro e w5 ⟨rfl, hb5⟩; have HB5 : Hid (Below w.heap.size w w5) := (drew_below HB2.out mm).trans (hb5.mono (by have := HB2.out.size; simpa using this)); clear hb5)
      go_ret2
      exact ⟨(fun ⟨x, hx, h⟩ => by rw [HALL2.out x hx] at h; cases h), fun _ => rfl, HB5.out⟩
end

end Go.Proofs.Ytclbhbnidodmdaa
