/- TypeOf, Uses. -/
import Derived.Test.YtbhfhjmebbaimaaSizes
import Derived.Test.YtbhfhjmebbaimaaEachU
namespace Go.Proofs.Ytbhfhjmebbaimaa
open Go.RowKit Go.Maps

def cntU (id : Int) (us : List (Int × Int)) : Int := (us.countP fun u => u.1 == id : Nat)

theorem cnt_snoc (id : Int) (us : List (Int × Int)) (k t : Int) : cntU id (us ++ [(k, t)]) = cntU id us + if k = id then 1 else 0 := by
  unfold cntU
  rw [List.countP_append]
  by_cases h : k = id <;> simp [h]

theorem wrap_step (c x : Int) (h : c = wrap64 x) : wrap64 (c + 1) = wrap64 (x + 1) := by
  subst h
  unfold wrap64
  omega

/-- what the closure of Uses keeps -/
structure SeenU (id : Int) (IB NB : Nat) (us : List (Int × Int)) (w : World) : Prop where
  idc : w.heap[IB]? = some (.cells #[.int .i64 id] 3 (0, 0))
  cnt : w.heap[NB]? = some (.cells #[.int .i64 (wrap64 (cntU id us))] 3 (0, 0))

theorem SeenU.stays {id : Int} {IB NB : Nat} : each2.Stays (SeenU id IB NB) := fun _ _ _ h hb =>
  ⟨(hb.block _ (lt_of_heap h.idc)).trans h.idc, (hb.block _ (lt_of_heap h.cnt)).trans h.cnt⟩

set_option maxHeartbeats 1000000 in
theorem seesU (id : Int) (IB NB N B : Nat) (hN : B ≤ NB) (hNN : NB < N) (h1 : IB ≠ NB) :
    each2.Sees [NB] N B (SeenU id IB NB) ⟨IB, 0, none⟩ ⟨NB, 0, none⟩ := by
  intro us k taken w hk hS hNw
  have hi := row_cells hS.idc rfl
  have hff := free_of_one hS.cnt
  obtain ⟨c, hc⟩ : ∃ c, wrap64 (cntU id us) = c := ⟨_, rfl⟩
  have hn := hS.cnt
  rw [hc] at hn
  have hn2 := row_cells hn rfl
  have HC := hideI hc.symm
  have HN := hideI hn
  have HS := hideI hS
  clear hc hn hS hk
  cases hq : k == id
  · have HQ := hideI hq
    go_enter Try.func28, Try.ntmps28
    go_wp2
    go_end0
    have hne : ¬ k = id := by simpa using HQ.out
    exact ⟨rfl, ⟨HS.out.idc, by rw [cnt_snoc, if_neg hne, Int.add_zero]; exact HS.out.cnt⟩, Fr.refl _⟩
  · have HQ := hideI hq
    go_enter Try.func28, Try.ntmps28
    go_wp2
    go_end0
    have he : k = id := by simpa using HQ.out
    refine ⟨rfl, ⟨(Below.heap_setCell _ _ _ _ (by simpa using h1)).trans HS.out.idc, ?_⟩, Fr.set_ _ hN (by simpa using hNN) (by simp)⟩
    rw [cnt_snoc, if_pos he, ← wrap_step _ _ HC.out]
    exact one_set HN.out

/-- what TypeOf and Uses tell, each beside its error -/
def typeOut (f : FuncM) (id : Int) : Int × Int := if (lookM f).1 = 0 then (match (lookM f).2.at id with | some t => (t, 0) | none => (0, 9)) else (0, (lookM f).1)
def useOut (f : FuncM) (id : Int) : Int × Int := if (lookM f).1 = 0 then (match (lookM f).2.at id with | some _ => (cntU id (usesM f), 0) | none => (0, 9)) else (0, (lookM f).1)

theorem typeOut_err {f : FuncM} {id : Int} (h : (lookM f).1 ≠ 0) : typeOut f id = (0, (lookM f).1) := by unfold typeOut; rw [if_neg h]
theorem typeOut_none {f : FuncM} {id : Int} (h : (lookM f).1 = 0) (hd : (lookM f).2.at id = none) : typeOut f id = (0, 9) := by unfold typeOut; rw [if_pos h, hd]
theorem typeOut_some {f : FuncM} {id t : Int} (h : (lookM f).1 = 0) (hd : (lookM f).2.at id = some t) : typeOut f id = (t, 0) := by unfold typeOut; rw [if_pos h, hd]
theorem useOut_err {f : FuncM} {id : Int} (h : (lookM f).1 ≠ 0) : useOut f id = (0, (lookM f).1) := by unfold useOut; rw [if_neg h]
theorem useOut_none {f : FuncM} {id : Int} (h : (lookM f).1 = 0) (hd : (lookM f).2.at id = none) : useOut f id = (0, 9) := by unfold useOut; rw [if_pos h, hd]
theorem useOut_some {f : FuncM} {id t : Int} (h : (lookM f).1 = 0) (hd : (lookM f).2.at id = some t) : useOut f id = (cntU id (usesM f), 0) := by unfold useOut; rw [if_pos h, hd]

set_option maxHeartbeats 1000000 in
theorem typeOf_any (f : FuncM) (B : Nat) (pv bv : Value) (id : Int) (w : World) (hpv : Ints w B pv f.params) (hbv : BlocksR w B bv f.blocks) (hB : B ≤ w.heap.size) (hid : ∀ u ∈ usesM f, I64 u.1) (hi : I64 id) :
    Calls Try.prog 10 #[.agg #[pv, .int .i64 f.arrays, .int .i64 f.cells, bv], .int .i64 id] w fun e w' => e = .returned (.tuple #[.int .i64 (typeOut f id).1, .int .i64 (typeOut f id).2]) ∧ Below w.heap.size w w' := by
  have HP := hideI hpv
  have HB := hideI hbv
  have HID := hideI hid
  have HI := hideI hi
  obtain ⟨P, pc, rfl, _⟩ := hpv
  obtain ⟨A, c, rfl, _⟩ := hbv
  have hk : Keeps B w (w.alloc (.cells #[.slice P f.params.length pc, .int .i64 f.arrays, .int .i64 f.cells, .slice A f.blocks.length c] 25)) := (Keeps.refl w).alloc hB _
  have HL := hideI (lookAt_any f B _ _ _ (HP.out.keeps hk) (HB.out.keeps hk) (by simp; omega) HID.out)
  clear hid hk hi
  go_enter Try.func10, Try.ntmps10
  go_wp2_with fail
  refine HL.out.mono ?_
  rintro e w1 ⟨hb1, h | h⟩
  · obtain ⟨h0, M, hM, rfl, hm⟩ := h
    have H0 := hideI h0
    have HB1 := hideI (below_one (hb1.mono (by simp)))
    obtain ⟨D, hown, hD, hwd, hat⟩ := hm
    have hh := MapIs.has hat id
    have ha := hat id (.lit (.int .i64 0))
    have HA := hideI ha
    clear hb1 h0 ha hwd hat
    cases hd : (lookM f).2.at id with
    | none =>
      rw [hd] at hh
      have HD := hideI hd
      clear hd
      go_wp2_with (at_lookup; refine wpList_lookup_own_ok_int _ rfl _ _ 61 rfl 3 3 .i64 lawInt Try.underlying61 Try.underlying3 (zeroInt _) M _ D rfl (hown.alloc _) _ _ rfl (keyOf_int_mk Try.underlying3 HI.out) ?_; intro c1 hat1 hwc1)
      go_ret2
      exact ⟨by rw [typeOut_none H0.out HD.out]; rfl, HB1.out.alloc HB1.out.size _⟩
    | some t =>
      rw [hd] at hh
      have HD := hideI hd
      rw [hd] at HA
      clear hd
      go_wp2_with (at_lookup; refine wpList_lookup_own_ok_int _ rfl _ _ 61 rfl 3 3 .i64 lawInt Try.underlying61 Try.underlying3 (zeroInt _) M _ D rfl (hown.alloc _) _ _ rfl (keyOf_int_mk Try.underlying3 HI.out) ?_; intro c1 hat1 hwc1; rw [HA.out] at hat1; injection hat1 with hat1; injection hat1 with _ hat1; subst hat1)
      go_ret2
      exact ⟨by rw [typeOut_some H0.out HD.out]; rfl, HB1.out.alloc HB1.out.size _⟩
  · obtain ⟨h0, rfl⟩ := h
    have HB1 := hideI (below_one (hb1.mono (by simp)))
    have hb : ((lookM f).1 != 0) = true := by simpa using h0
    have H0 := hideI h0
    clear hb1 h0
    go_wp2
    go_ret2
    exact ⟨by rw [typeOut_err H0.out]; rfl, HB1.out.alloc HB1.out.size _⟩

theorem look_formed {f : FuncM} (h : (lookM f).1 = 0) : formedM f = some (lookM f).2 := by
  cases hf : formedM f with
  | none => rw [look_none hf] at h; cases h
  | some ds =>
    rw [look_some hf] at h ⊢
    split at h
    · rename_i hu
      rw [if_pos hu]
    · rename_i hu
      exact absurd h hu

theorem wrap_zero (id : Int) : wrap64 (cntU id []) = 0 := by
  unfold wrap64 cntU
  simp

theorem wrap_cnt (id : Int) (us : List (Int × Int)) (h : us.length < 4611686018427387904) : wrap64 (cntU id us) = cntU id us := by
  have h1 : us.countP (fun u => u.1 == id) ≤ us.length := List.countP_le_length
  unfold wrap64 cntU
  omega

set_option maxHeartbeats 1000000 in
theorem uses_any (f : FuncM) (B : Nat) (pv bv : Value) (id : Int) (w : World) (hpv : Ints w B pv f.params) (hbv : BlocksR w B bv f.blocks) (hB : B ≤ w.heap.size) (hid : ∀ u ∈ usesM f, I64 u.1) (hi : I64 id) (hul : (lookM f).1 = 0 → Hid ((usesM f).length < 4611686018427387904)) :
    Calls Try.prog 11 #[.agg #[pv, .int .i64 f.arrays, .int .i64 f.cells, bv], .int .i64 id] w fun e w' => e = .returned (.tuple #[.int .i64 (useOut f id).1, .int .i64 (useOut f id).2]) ∧ Below w.heap.size w w' := by
  have HP := hideI hpv
  have HB := hideI hbv
  have HID := hideI hid
  have HI := hideI hi
  have HUL := hideI hul
  clear hul
  obtain ⟨P, pc, rfl, _⟩ := hpv
  obtain ⟨A, c, rfl, _⟩ := hbv
  have hk : Keeps B w ((w.alloc (.cells #[.slice P f.params.length pc, .int .i64 f.arrays, .int .i64 f.cells, .slice A f.blocks.length c] 25)).alloc (.cells #[.int .i64 id] 3)) := ((Keeps.refl w).alloc hB _).alloc (by simp; omega) _
  have HL := hideI (lookAt_any f B _ _ _ (HP.out.keeps hk) (HB.out.keeps hk) (by simp; omega) HID.out)
  clear hid hk hi
  go_enter Try.func11, Try.ntmps11
  go_wp2_with fail
  refine HL.out.mono ?_
  rintro e w1 ⟨hb1, h | h⟩
  · obtain ⟨h0, M, hM, rfl, hm⟩ := h
    have H0 := hideI h0
    have hbw : Below w.heap.size w w1 := (((Below.refl _ w).alloc (Nat.le_refl _) _).alloc (by simp) _).trans (hb1.mono (by simp; omega))
    have HB1 := hideI hbw
    have hix := row_cells (w' := w1) (g := w.heap.size + 1) (cs := #[.int .i64 id]) (t := 3) (by have := heap_alloc_new (w.alloc (.cells #[.slice P f.params.length pc, .int .i64 f.arrays, .int .i64 f.cells, .slice A f.blocks.length c] 25)) (.cells #[.int .i64 id] 3); simpa using this) (hb1.block _ (by simp))
    obtain ⟨D, hown, hD, hwd, hat⟩ := hm
    have hh := MapIs.has hat id
    have hz1 : w.heap.size + 1 < w1.heap.size := two_lt hb1
    have HB1' := hideI hb1
    clear hb1 h0 hwd hat hbw
    cases hd : (lookM f).2.at id with
    | none =>
      rw [hd] at hh
      have HD := hideI hd
      clear hd
      go_wp2_with (at_lookup; refine wpList_lookup_own_ok_int _ rfl _ _ 61 rfl 3 3 .i64 lawInt Try.underlying61 Try.underlying3 (zeroInt _) M _ D rfl (hown.alloc _) _ _ rfl (keyOf_int_mk Try.underlying3 HI.out) ?_; intro c1 hat1 hwc1)
      go_ret2
      exact ⟨by rw [useOut_none H0.out HD.out]; rfl, HB1.out.alloc HB1.out.size _⟩
    | some t =>
      rw [hd] at hh
      have HD := hideI hd
      clear hd
      have hW3 : ∃ W3 : World, W3 = (w1.alloc (.cells #[.slice P f.params.length pc, .int .i64 f.arrays, .int .i64 f.cells, .slice A f.blocks.length c, .map (some M)] 63)).alloc (.cells #[.int .i64 0] 3) := ⟨_, rfl⟩
      obtain ⟨W3, hW3⟩ := hW3
      have hB3 : Below w1.heap.size w1 W3 := by rw [hW3]; exact ((Below.refl _ w1).alloc (Nat.le_refl _) _).alloc (by simp) _
      have hs3 : W3.heap.size = w1.heap.size + 2 := by rw [hW3]; simp
      have hn3 : W3.heap[w1.heap.size + 1]? = some (.cells #[.int .i64 (wrap64 (cntU id []))] 3 (0, 0)) := by
        rw [hW3, wrap_zero]
        have := heap_alloc_new (w1.alloc (.cells #[.slice P f.params.length pc, .int .i64 f.arrays, .int .i64 f.cells, .slice A f.blocks.length c, .map (some M)] 63)) (.cells #[.int .i64 0] 3)
        simpa using this
      have hi3 : W3.heap[w.heap.size + 1]? = some (.cells #[.int .i64 id] 3 (0, 0)) := (hB3.block _ hz1).trans ((HB1'.out.block _ (by simp)).trans (by have := heap_alloc_new (w.alloc (.cells #[.slice P f.params.length pc, .int .i64 f.arrays, .int .i64 f.cells, .slice A f.blocks.length c] 25)) (.cells #[.int .i64 id] 3); simpa using this))
      have HC := hideI (each2.each_any [w1.heap.size + 1] f.blocks (SeenU id (w.heap.size + 1) (w1.heap.size + 1)) ⟨w.heap.size + 1, 0, none⟩ ⟨w1.heap.size + 1, 0, none⟩ B (.slice P f.params.length pc) (.int .i64 f.arrays) (.int .i64 f.cells) (.slice A f.blocks.length c) (.map (some M)) [] W3
        (HB.out.keeps ((Keeps.of_below (HB1.out.mono hB)).trans (Keeps.of_below (hB3.mono (Nat.le_trans hB HB1.out.size))))) (by have := HB1.out.size; omega) ⟨hi3, hn3⟩ (seesU id _ _ _ B (by omega) (by omega) (by omega)) SeenU.stays (formed_args (look_formed H0.out)) HID.out)
      clear hB3 hs3 hn3 hi3
      subst hW3
      go_wp2_with (first
        | (at_lookup; refine wpList_lookup_own_ok_int _ rfl _ _ 61 rfl 3 3 .i64 lawInt Try.underlying61 Try.underlying3 (zeroInt _) M _ D rfl (hown.alloc _) _ _ rfl (keyOf_int_mk Try.underlying3 HI.out) ?_; intro c1 hat1 hwc1)
        | fail)
      refine HC.out.mono ?_
      rintro e w4 ⟨rfl, hS4, hF4⟩
      have k1 := row_cells hS4.cnt rfl
      have HF4 := hideI hF4
      clear hS4 hF4
      go_wp2
      go_ret2
      refine ⟨by rw [useOut_some H0.out HD.out, ← wrap_cnt id _ (HUL.out H0.out).out]; rfl, (((HB1.out.alloc HB1.out.size _).alloc (by have := HB1.out.size; simp; omega) _)).trans ⟨HF4.out.os, HF4.out.tape, HF4.out.output, HF4.out.size, fun b hb => HF4.out.rest b (by have := HB1.out.size; simp; omega) (by have := HB1.out.size; simp; omega)⟩⟩
  · obtain ⟨h0, rfl⟩ := h
    have hbw : Below w.heap.size w w1 := (((Below.refl _ w).alloc (Nat.le_refl _) _).alloc (by simp) _).trans (hb1.mono (by simp; omega))
    have HB1 := hideI hbw
    have hb : ((lookM f).1 != 0) = true := by simpa using h0
    have H0 := hideI h0
    clear hb1 h0 hbw
    go_wp2
    go_ret2
    exact ⟨by rw [useOut_err H0.out]; rfl, HB1.out.alloc HB1.out.size _⟩

end Go.Proofs.Ytbhfhjmebbaimaa
