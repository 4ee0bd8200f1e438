/- What is proved: for every function f and every id, in whatever memory f lies, IrTells answers true: the values of f, their types and uses, and its size are what the reference says, the errors too. No condition. -/
import Derived.Test.YtbhfhjmebbaimaaRefCheck
import Derived.Test.YtbhfhjmebbaimaaAwake
import Derived.Test.YtbhfhjmebbaimaaLaw
import Derived.IntWalk
import Derived.BigQuiet
namespace Go.Proofs.Ytbhfhjmebbaimaa.irTells
open Go.ChangeShapes Go.WideShapes Go.ChangeAt Go.RowKit

/-- the box of the function lies, and nothing of what was there has turned -/
structure Here (w : World) (cs : Array Value) (wn : World) : Prop where
  b : Below w.heap.size w wn
  x : wn.heap[w.heap.size]? = some (.cells cs 25 (0, 0))

theorem Here.lt {w wn : World} {cs : Array Value} (h : Here w cs wn) : w.heap.size < wn.heap.size := lt_of_heap h.x
theorem Here.le {w wn : World} {cs : Array Value} (h : Here w cs wn) : w.heap.size ≤ wn.heap.size := Nat.le_of_lt h.lt
theorem Here.k {w wn : World} {cs : Array Value} (h : Here w cs wn) : Keeps w.heap.size w wn := Keeps.of_below h.b
theorem Here.next {w wn wm : World} {cs : Array Value} (h : Here w cs wn) (hb : Below wn.heap.size wn wm) : Here w cs wm :=
  ⟨h.b.trans (hb.mono h.le), (hb.block _ h.lt).trans h.x⟩
theorem Here.drewN {w wn : World} {cs : Array Value} (h : Here w cs wn) (n : Nat) : Here w cs (wn.drewN n) := ⟨drewN_below' h.b, h.x⟩
theorem here_new (w : World) (cs : Array Value) : Here w cs (w.alloc (.cells cs 25)) := ⟨(Below.refl _ w).alloc (Nat.le_refl _) _, heap_alloc_new w _⟩

theorem ints_next {w w' : World} {v : Value} {xs : List Int} (h : Ints w w.heap.size v xs) (hb : Below w.heap.size w w') : Ints w' w'.heap.size v xs := (h.keep hb).more hb.size

theorem look_vals {f : FuncM} (h : (lookM f).1 = 0) : formedM f = some (valuesM f) ∧ (lookM f).2 = valuesM f := by
  have h1 := look_formed h
  have h2 := formed_eq h1
  rw [h2] at h1
  exact ⟨h1, h2⟩

theorem look_idsOk {f : FuncM} (h : (lookM f).1 = 0) : IdsOk f := by
  apply Classical.byContradiction
  intro hn
  have := (look_vals h).1
  rw [formed_ids_no hn] at this
  cases this

theorem rising_eq {f : FuncM} {xs : List Int} (h : (lookM f).1 = 0) (hr : xs.Pairwise (· < ·)) (hp : xs.Perm ((valuesM f).map (·.1))) : xs = idsS f := by
  have h1 : (idsS f).Perm ((valuesM f).map (·.1)) := by
    unfold idsS
    rw [(look_vals h).2]
    exact List.mergeSort_perm ..
  refine List.Perm.eq_of_pairwise (le := fun a b => a ≤ b) ?_ (hr.imp fun h => Int.le_of_lt h) (idsS_sorted f) (hp.trans h1.symm)
  intro a b _ _ h3 h4
  omega

theorem cnt_take {us : List (Int × Int)} {k : Nat} {u : Int × Int} (id : Int) (hu : us[k]? = some u) : cntU id (us.take (k + 1)) = cntU id (us.take k) + if u.1 = id then 1 else 0 := by
  obtain ⟨hk, rfl⟩ := List.getElem?_eq_some_iff.1 hu
  rw [List.take_succ_eq_append_getElem hk, cnt_snoc]

theorem cnt_le (id : Int) (us : List (Int × Int)) (k : Nat) : 0 ≤ cntU id (us.take k) ∧ cntU id (us.take k) ≤ k := by
  unfold cntU
  have h1 := List.countP_le_length (p := fun u : Int × Int => u.1 == id) (l := us.take k)
  have h2 := List.length_take_le k us
  omega

set_option maxRecDepth 100000 in
set_option maxHeartbeats 8000000 in
/-- where f is not right -/
theorem walk_bad (f : FuncM) (pv bv : Value) (id : Int) (w : World) (hF : FnIn w f pv bv) (hid : I64 id) (h0 : (lookM f).1 ≠ 0) :
    Calls Try.prog 3 #[.agg #[pv, .int .i64 f.arrays, .int .i64 f.cells, bv], .int .i64 id] w fun e w' => e = .returned (.bool true) ∧ Below w.heap.size w w' := by
  have HP := hideI hF.par
  have HBV := hideI hF.blk
  have HID := hideI (uses_i64 hF.ok)
  have HI64 := hideI hid
  have HUL := hideI (fun h => hideI (uses_len hF.ok h))
  obtain ⟨P, pc, hpv, _⟩ := hF.par
  obtain ⟨A, c, hbv, _⟩ := hF.blk
  subst hpv hbv
  have HT := hideI (typeOut_err (id := id) h0)
  have HN := hideI (useOut_err (id := id) h0)
  have HSO : Hid (sizeOut f = 0) := by show _ = _; unfold sizeOut; rw [if_neg h0]
  have HIO : Hid (idsOut f = []) := by show _ = _; unfold idsOut; rw [if_neg h0]
  have HIL : Hid (([] : List Int).length = 0) := rfl
  obtain ⟨L, hL⟩ : ∃ L, L = (lookM f).1 := ⟨_, rfl⟩
  rw [← hL] at HT HN h0
  have H0 : Hid ((lookM f).1 = L) := hL.symm
  have hL0 : (L != 0) = true := by simpa using h0
  have HS := hideI (here_new w #[.slice P f.params.length pc, .int .i64 f.arrays, .int .i64 f.cells, .slice A f.blocks.length c])
  have hx := row_cells HS.out.x rfl
  clear hF hL h0
  go_enter Try.func3, Try.ntmps3
  go_wp2_with (first
      | (go_at_call 7; refine (refCheck_any f w.heap.size _ _ _ (HP.out.keeps HS.out.k) (HBV.out.keeps HS.out.k) HS.out.le).mono ?_; rw [H0.out]; rintro e wn ⟨rfl, hb⟩; replace HS := hideI (HS.out.next hb); clear hx; have hx := row_cells HS.out.x rfl; clear hb)
      | (go_at_call 8; refine (ids_any f w.heap.size _ _ _ (HP.out.keeps HS.out.k) (HBV.out.keeps HS.out.k) HS.out.le HID.out).mono ?_; rintro e wn ⟨v2, rfl, hv2, hb⟩; rw [H0.out]; have hil := hv2; rw [HIO.out] at hil; obtain ⟨IA, ic, rfl, _, _⟩ := hil; rw [HIL.out]; rw [HIO.out, HIL.out] at hv2; have HI1 := hideI hv2.ints; clear hv2; replace HS := hideI (HS.out.next hb); clear hx; have hx := row_cells HS.out.x rfl; clear hb)
      | (go_at_call 9; refine (size_any f w.heap.size _ _ _ (HP.out.keeps HS.out.k) (HBV.out.keeps HS.out.k) HS.out.le HID.out).mono ?_; rw [H0.out, HSO.out]; rintro e wn ⟨rfl, hb⟩; replace HS := hideI (HS.out.next hb); clear hx; have hx := row_cells HS.out.x rfl; replace HI1 := hideI (ints_next HI1.out hb); clear hb)
      | (go_at_call 10; refine (typeOf_any f w.heap.size _ _ id _ (HP.out.keeps HS.out.k) (HBV.out.keeps HS.out.k) HS.out.le HID.out HI64.out).mono ?_; rw [HT.out]; rintro e wn ⟨rfl, hb⟩; replace HS := hideI (HS.out.next hb); clear hx; have hx := row_cells HS.out.x rfl; replace HI1 := hideI (ints_next HI1.out hb); clear hb)
      | (go_at_call 11; refine (uses_any f w.heap.size _ _ id _ (HP.out.keeps HS.out.k) (HBV.out.keeps HS.out.k) HS.out.le HID.out HI64.out HUL.out).mono ?_; rw [HN.out]; rintro e wn ⟨rfl, hb⟩; replace HS := hideI (HS.out.next hb); clear hx; have hx := row_cells HS.out.x rfl; replace HI1 := hideI (ints_next HI1.out hb); clear hb)
      | (go_at_call 12; refine (awake_any _).mono ?_; rintro e wn ⟨rfl, hb⟩; replace HS := hideI (HS.out.next hb); clear hx; have hx := row_cells HS.out.x rfl; replace HI1 := hideI (ints_next HI1.out hb); clear hb))
  go_ret
  exact ⟨by simp, HS.out.b⟩

set_option maxRecDepth 100000 in
set_option maxHeartbeats 8000000 in
/-- where f is right, and has no such value -/
theorem walk_none (f : FuncM) (pv bv : Value) (id : Int) (w : World) (hF : FnIn w f pv bv) (hid : I64 id) (h0 : (lookM f).1 = 0) (hat : (lookM f).2.at id = none) :
    Calls Try.prog 3 #[.agg #[pv, .int .i64 f.arrays, .int .i64 f.cells, bv], .int .i64 id] w fun e w' => e = .returned (.bool true) ∧ Below w.heap.size w w' := by
  have HP := hideI hF.par
  have HBV := hideI hF.blk
  have HID := hideI (uses_i64 hF.ok)
  have HI64 := hideI hid
  have HUL := hideI (fun h => hideI (uses_len hF.ok h))
  obtain ⟨P, pc, hpv, _⟩ := hF.par
  obtain ⟨A, c, hbv, _⟩ := hF.blk
  subst hpv hbv
  have HFORM := hideI (look_vals h0).1
  have HIOK := hideI (look_idsOk h0)
  have HFEW := hideI (form_fewv (form_bd HFORM.out))
  obtain ⟨l1, l2, l3, l4, l5, l6, l7, l8⟩ := limits_bd (form_bd HFORM.out)
  have HVL : Hid ((valuesM f).length ≤ 5000) := Nat.le_of_lt (values_few HFEW.out)
  have HT := hideI (typeOut_none h0 hat)
  have HN := hideI (useOut_none h0 hat)
  have HTR : Hid (typeR (valuesM f) id = 0) := by show _ = _; unfold typeR; rw [← (look_vals h0).2, hat]
  obtain ⟨S, hS⟩ : ∃ S, S = (f.blocks.map sizeB).sum := ⟨_, rfl⟩
  have HSZ : Hid ((f.blocks.map sizeB).sum = S) := hS.symm
  have HSO : Hid (sizeOut f = (S : Int)) := by show _ = _; unfold sizeOut sizeM; rw [if_pos h0, hS]
  obtain ⟨ids, hids⟩ : ∃ ids, ids = idsS f := ⟨_, rfl⟩
  have HIDS := hideI hids
  have HIO : Hid (idsOut f = ids) := by show _ = _; unfold idsOut; rw [if_pos h0, hids]
  obtain ⟨n, hn⟩ : ∃ n, n = ids.length := ⟨_, rfl⟩
  have HIL : Hid (ids.length = n) := hn.symm
  have hn5 : ids.length ≤ 5000 := by rw [hids, idsS_len, (look_vals h0).2]; exact HVL.out
  have H0 := hideI h0
  have HS := hideI (here_new w #[.slice P f.params.length pc, .int .i64 f.arrays, .int .i64 f.cells, .slice A f.blocks.length c])
  have hx := row_cells HS.out.x rfl
  clear hF h0 hat hS hids hn l8
  go_enter Try.func3, Try.ntmps3
  go_wp2_with (first
      | (go_at_call 7; refine (refCheck_any f w.heap.size _ _ _ (HP.out.keeps HS.out.k) (HBV.out.keeps HS.out.k) HS.out.le).mono ?_; rw [H0.out]; rintro e wn ⟨rfl, hb⟩; replace HS := hideI (HS.out.next hb); clear hx; have hx := row_cells HS.out.x rfl; clear hb)
      | (go_at_call 8; refine (ids_any f w.heap.size _ _ _ (HP.out.keeps HS.out.k) (HBV.out.keeps HS.out.k) HS.out.le HID.out).mono ?_; rintro e wn ⟨v2, rfl, hv2, hb⟩; rw [H0.out]; have hil := hv2; rw [HIO.out] at hil; obtain ⟨IA, ic, rfl, _, _⟩ := hil; rw [HIL.out]; rw [HIO.out, HIL.out] at hv2; have HI1 := hideI hv2.ints; clear hv2; replace HS := hideI (HS.out.next hb); clear hx; have hx := row_cells HS.out.x rfl; clear hb)
      | (go_at_call 9; refine (size_any f w.heap.size _ _ _ (HP.out.keeps HS.out.k) (HBV.out.keeps HS.out.k) HS.out.le HID.out).mono ?_; rw [H0.out, HSO.out]; rintro e wn ⟨rfl, hb⟩; replace HS := hideI (HS.out.next hb); clear hx; have hx := row_cells HS.out.x rfl; replace HI1 := hideI (ints_next HI1.out hb); clear hb)
      | (go_at_call 10; refine (typeOf_any f w.heap.size _ _ id _ (HP.out.keeps HS.out.k) (HBV.out.keeps HS.out.k) HS.out.le HID.out HI64.out).mono ?_; rw [HT.out]; rintro e wn ⟨rfl, hb⟩; replace HS := hideI (HS.out.next hb); clear hx; have hx := row_cells HS.out.x rfl; replace HI1 := hideI (ints_next HI1.out hb); clear hb)
      | (go_at_call 11; refine (uses_any f w.heap.size _ _ id _ (HP.out.keeps HS.out.k) (HBV.out.keeps HS.out.k) HS.out.le HID.out HI64.out HUL.out).mono ?_; rw [HN.out]; rintro e wn ⟨rfl, hb⟩; replace HS := hideI (HS.out.next hb); clear hx; have hx := row_cells HS.out.x rfl; replace HI1 := hideI (ints_next HI1.out hb); clear hb)
      | (go_at_call 12; refine (awake_any _).mono ?_; rintro e wn ⟨rfl, hb⟩; replace HS := hideI (HS.out.next hb); clear hx; have hx := row_cells HS.out.x rfl; replace HI1 := hideI (ints_next HI1.out hb); clear hb)
      | (go_at_call 13; refine (refIds_yes f w.heap.size _ _ _ (HP.out.keeps HS.out.k) (HBV.out.keeps HS.out.k) HS.out.le HFEW.out l7 HIOK.out).mono ?_; rintro e wn ⟨v7, xs, rfl, hown, hris, hperm, hb⟩; have hxs : xs = ids := (by rw [HIDS.out]; exact rising_eq H0.out hris hperm); rw [hxs] at hown; obtain ⟨XA, xc, rfl, _⟩ := own_read hown; have HI2 := hideI (ints_own hown (by omega)); clear hown hris hperm hxs; replace HI1 := hideI (ints_next HI1.out hb); replace HS := hideI (HS.out.next hb); clear hx; have hx := row_cells HS.out.x rfl; clear hb)
      | (go_at_call 14; refine (refTypeOf_any f w.heap.size _ _ id _ (HP.out.keeps HS.out.k) (HBV.out.keeps HS.out.k) HS.out.le HFEW.out l7 HVL.out).mono ?_; rw [HTR.out]; rintro e wn ⟨rfl, hb⟩; replace HS := hideI (HS.out.next hb); clear hx; have hx := row_cells HS.out.x rfl; replace HI1 := hideI (ints_next HI1.out hb); replace HI2 := hideI (ints_next HI2.out hb); clear hb)
      | (go_at_call 15; refine (sameInts_any _ _ _ _ ids ids HI1.out HI2.out).mono ?_; rintro e wn ⟨rfl, mm, rfl⟩; rw [beq_self_eq_true]; replace HS := hideI (HS.out.drewN mm); clear hx; have hx := row_cells HS.out.x rfl)
      | (go_at_call 16; refine (refSize_any f.blocks w.heap.size _ _ _ _ _ (HBV.out.keeps HS.out.k) HS.out.le l7).mono ?_; rintro e wn ⟨rfl, hb⟩; rw [HSZ.out]; replace HS := hideI (HS.out.next hb); clear hx; have hx := row_cells HS.out.x rfl; clear hb))
  go_ret
  exact ⟨by simp, HS.out.b⟩

set_option maxRecDepth 100000 in
set_option maxHeartbeats 8000000 in
/-- where f is right, and has such a value -/
theorem walk_some (f : FuncM) (pv bv : Value) (id t : Int) (w : World) (hF : FnIn w f pv bv) (hid : I64 id) (h0 : (lookM f).1 = 0) (hat : (lookM f).2.at id = some t) (ht0 : (t == 0) = false) :
    Calls Try.prog 3 #[.agg #[pv, .int .i64 f.arrays, .int .i64 f.cells, bv], .int .i64 id] w fun e w' => e = .returned (.bool true) ∧ Below w.heap.size w w' := by
  have HP := hideI hF.par
  have HBV := hideI hF.blk
  have HID := hideI (uses_i64 hF.ok)
  have HI64 := hideI hid
  have HUL := hideI (fun h => hideI (uses_len hF.ok h))
  obtain ⟨P, pc, hpv, _⟩ := hF.par
  obtain ⟨A, c, hbv, _⟩ := hF.blk
  subst hpv hbv
  have HFORM := hideI (look_vals h0).1
  have HIOK := hideI (look_idsOk h0)
  have HFEW := hideI (form_fewv (form_bd HFORM.out))
  obtain ⟨l1, l2, l3, l4, l5, l6, l7, l8⟩ := limits_bd (form_bd HFORM.out)
  have HVL : Hid ((valuesM f).length ≤ 5000) := Nat.le_of_lt (values_few HFEW.out)
  have HT := hideI (typeOut_some h0 hat)
  have HTR : Hid (typeR (valuesM f) id = t) := by show _ = _; unfold typeR; rw [← (look_vals h0).2, hat]
  obtain ⟨us, hus⟩ : ∃ us, us = usesM f := ⟨_, rfl⟩
  have HUS2 : Hid (f.blocks.flatMap usesBlock = us) := hus.symm
  obtain ⟨N, hNN⟩ : ∃ N, N = cntU id us := ⟨_, rfl⟩
  have HN : Hid (useOut f id = (N, 0)) := by show _ = _; rw [hNN, hus]; exact useOut_some h0 hat
  have HNN := hideI hNN
  obtain ⟨U, hU⟩ : ∃ U, U = us.length := ⟨_, rfl⟩
  have hU3 : U ≤ 3000000 := by rw [hU, hus]; exact form_few HFORM.out
  have HU := hideI hU
  obtain ⟨S, hS⟩ : ∃ S, S = (f.blocks.map sizeB).sum := ⟨_, rfl⟩
  have HSZ : Hid ((f.blocks.map sizeB).sum = S) := hS.symm
  have HSO : Hid (sizeOut f = (S : Int)) := by show _ = _; unfold sizeOut sizeM; rw [if_pos h0, hS]
  obtain ⟨ids, hids⟩ : ∃ ids, ids = idsS f := ⟨_, rfl⟩
  have HIDS := hideI hids
  have HIO : Hid (idsOut f = ids) := by show _ = _; unfold idsOut; rw [if_pos h0, hids]
  obtain ⟨n, hn⟩ : ∃ n, n = ids.length := ⟨_, rfl⟩
  have HIL : Hid (ids.length = n) := hn.symm
  have hn5 : ids.length ≤ 5000 := by rw [hids, idsS_len, (look_vals h0).2]; exact HVL.out
  have H0 := hideI h0
  have HS := hideI (here_new w #[.slice P f.params.length pc, .int .i64 f.arrays, .int .i64 f.cells, .slice A f.blocks.length c])
  have hx := row_cells HS.out.x rfl
  clear hF h0 hat hS hids hn l8 hus hNN hU
  go_enter Try.func3, Try.ntmps3
  go_wp2_with (first
      | (go_at_call 7; refine (refCheck_any f w.heap.size _ _ _ (HP.out.keeps HS.out.k) (HBV.out.keeps HS.out.k) HS.out.le).mono ?_; rw [H0.out]; rintro e wn ⟨rfl, hb⟩; replace HS := hideI (HS.out.next hb); clear hx; have hx := row_cells HS.out.x rfl; clear hb)
      | (go_at_call 8; refine (ids_any f w.heap.size _ _ _ (HP.out.keeps HS.out.k) (HBV.out.keeps HS.out.k) HS.out.le HID.out).mono ?_; rintro e wn ⟨v2, rfl, hv2, hb⟩; rw [H0.out]; have hil := hv2; rw [HIO.out] at hil; obtain ⟨IA, ic, rfl, _, _⟩ := hil; rw [HIL.out]; rw [HIO.out, HIL.out] at hv2; have HI1 := hideI hv2.ints; clear hv2; replace HS := hideI (HS.out.next hb); clear hx; have hx := row_cells HS.out.x rfl; clear hb)
      | (go_at_call 9; refine (size_any f w.heap.size _ _ _ (HP.out.keeps HS.out.k) (HBV.out.keeps HS.out.k) HS.out.le HID.out).mono ?_; rw [H0.out, HSO.out]; rintro e wn ⟨rfl, hb⟩; replace HS := hideI (HS.out.next hb); clear hx; have hx := row_cells HS.out.x rfl; replace HI1 := hideI (ints_next HI1.out hb); clear hb)
      | (go_at_call 10; refine (typeOf_any f w.heap.size _ _ id _ (HP.out.keeps HS.out.k) (HBV.out.keeps HS.out.k) HS.out.le HID.out HI64.out).mono ?_; rw [HT.out]; rintro e wn ⟨rfl, hb⟩; replace HS := hideI (HS.out.next hb); clear hx; have hx := row_cells HS.out.x rfl; replace HI1 := hideI (ints_next HI1.out hb); clear hb)
      | (go_at_call 11; refine (uses_any f w.heap.size _ _ id _ (HP.out.keeps HS.out.k) (HBV.out.keeps HS.out.k) HS.out.le HID.out HI64.out HUL.out).mono ?_; rw [HN.out]; rintro e wn ⟨rfl, hb⟩; replace HS := hideI (HS.out.next hb); clear hx; have hx := row_cells HS.out.x rfl; replace HI1 := hideI (ints_next HI1.out hb); clear hb)
      | (go_at_call 12; refine (awake_any _).mono ?_; rintro e wn ⟨rfl, hb⟩; replace HS := hideI (HS.out.next hb); clear hx; have hx := row_cells HS.out.x rfl; replace HI1 := hideI (ints_next HI1.out hb); clear hb)
      | (go_at_call 13; refine (refIds_yes f w.heap.size _ _ _ (HP.out.keeps HS.out.k) (HBV.out.keeps HS.out.k) HS.out.le HFEW.out l7 HIOK.out).mono ?_; rintro e wn ⟨v7, xs, rfl, hown, hris, hperm, hb⟩; have hxs : xs = ids := (by rw [HIDS.out]; exact rising_eq H0.out hris hperm); rw [hxs] at hown; obtain ⟨XA, xc, rfl, _⟩ := own_read hown; have HI2 := hideI (ints_own hown (by omega)); clear hown hris hperm hxs; replace HI1 := hideI (ints_next HI1.out hb); replace HS := hideI (HS.out.next hb); clear hx; have hx := row_cells HS.out.x rfl; clear hb)
      | (go_at_call 14; refine (refTypeOf_any f w.heap.size _ _ id _ (HP.out.keeps HS.out.k) (HBV.out.keeps HS.out.k) HS.out.le HFEW.out l7 HVL.out).mono ?_; rw [HTR.out]; rintro e wn ⟨rfl, hb⟩; replace HS := hideI (HS.out.next hb); clear hx; have hx := row_cells HS.out.x rfl; replace HI1 := hideI (ints_next HI1.out hb); replace HI2 := hideI (ints_next HI2.out hb); clear hb)
      | (go_at_call 15; refine (sameInts_any _ _ _ _ ids ids HI1.out HI2.out).mono ?_; rintro e wn ⟨rfl, mm, rfl⟩; rw [beq_self_eq_true]; replace HS := hideI (HS.out.drewN mm); clear hx; have hx := row_cells HS.out.x rfl)
      | (go_at_call 16; refine (refSize_any f.blocks w.heap.size _ _ _ _ _ (HBV.out.keeps HS.out.k) HS.out.le l7).mono ?_; rintro e wn ⟨rfl, hb⟩; rw [HSZ.out]; replace HS := hideI (HS.out.next hb); clear hx; have hx := row_cells HS.out.x rfl; clear hb)
      | (go_at_call 17; refine (refUses_any f.blocks w.heap.size _ _ _ _ _ (HBV.out.keeps HS.out.k) HS.out.le (form_few HFORM.out) l7 (form_form HFORM.out) (form_phi HFORM.out)).mono ?_; rintro e wn ⟨v5, rfl, hv5, hb⟩; rw [HUS2.out] at hv5; obtain ⟨UA, uc, rfl, hur⟩ := RU.read hv5; rw [← HU.out]; have HUR := hideI hur; replace HS := hideI (HS.out.next hb); clear hx hv5 hur hb))
  go_loopw [18, 19] (fun o u wr => ∃ k : Nat, k ≤ U ∧ u = .int .i64 k ∧ o = .int .i64 (cntU id (us.take k)) ∧ wr = wn) (fun _ u _ => U - (intOf u).toNat)
  case atStart => exact ⟨0, Nat.zero_le _, rfl, by simp [cntU], rfl⟩
  case round =>
    obtain ⟨k, hk, rfl, rfl, rfl⟩ := hrel
    have hcb := cnt_le id us k
    obtain ⟨m, hm⟩ : ∃ m, m = cntU id (us.take k) := ⟨_, rfl⟩
    rw [← hm] at hcb ⊢
    have HM := hideI hm
    clear hm
    by_cases hlt : k < U
    · obtain ⟨u, hu⟩ : ∃ u, us[k]? = some u := ⟨_, List.getElem?_eq_getElem (by have := HU.out; omega)⟩
      obtain ⟨g5, rfl, hg5, e0, e1⟩ := HUR.out k u hu
      have HUU := hideI hu
      have hct := cnt_take id hu
      clear hu
      cases he : u.1 == id
      · have HC : Hid (cntU id (us.take (k + 1)) = m) := by show _ = _; rw [hct, if_neg (by simpa using he), HM.out]; omega
        clear hct
        go_wp2
        go_roundw
        case rel => exact ⟨k + 1, by omega, by go_num, by rw [HC.out], trivial⟩
        case measure => simp [intOf]; omega
      · have HC : Hid (cntU id (us.take (k + 1)) = m + 1) := by show _ = _; rw [hct, if_pos (by simpa using he), HM.out]
        clear hct
        go_wp2
        go_roundw
        case rel => exact ⟨k + 1, by omega, by go_num, by rw [HC.out], trivial⟩
        case measure => simp [intOf]; omega
    · have hmN : m = N := by rw [HM.out, HNN.out, List.take_of_length_le (by have := HU.out; omega)]
      subst hmN
      go_wp2
      go_ret
      exact ⟨by simp, HS.out.b⟩

theorem walk (f : FuncM) (pv bv : Value) (id : Int) (w : World) (hF : FnIn w f pv bv) (hid : I64 id) :
    Calls Try.prog 3 #[.agg #[pv, .int .i64 f.arrays, .int .i64 f.cells, bv], .int .i64 id] w fun e w' => e = .returned (.bool true) ∧ Below w.heap.size w w' := by
  by_cases h0 : (lookM f).1 = 0
  · cases hat : (lookM f).2.at id with
    | none => exact walk_none f pv bv id w hF hid h0 hat
    | some t =>
      have hm : id ∈ idsS f := by
        rw [idsS_mem, ← at_some, hat]
        rfl
      obtain ⟨t', h1, h2⟩ := look_type h0 hm
      rw [hat] at h1
      injection h1 with h1
      subst h1
      exact walk_some f pv bv id t w hF hid h0 hat (by rcases h2 with rfl | rfl <;> rfl)
  · exact walk_bad f pv bv id w hF hid h0

set_option maxRecDepth 100000 in
theorem lifted (os : Os) (started : os.Started) (H : Type) (enc : TypeId × Value → H) :
    ReturnsInHanded {} Try.checked os 3 .any (Rows.irTellsSpec.pre6 enc Try.prog Try.f3 Rows.irTellsRow.domain false) (Rows.irTellsSpec.post enc Try.prog Try.f3 false true false false) := by
  refine returnsInHanded_of_change_sized (C := Try.checked) own started (by kernel_rfl) Try.func3
    (ChangeSpec.witness6 (enc := enc) (C := Try.checked) false ⟨#[], #[.agg #[.slice none 0 0, .int .i64 0, .int .i64 0, .slice none 0 0], .int .i64 0], []⟩ 8 (by kernel_rfl) (by kernel_rfl) (by kernel_rfl) (by kernel_rfl)) ?_
  intro W base args ds gs before hval0 hW hcnd hsz _
  have hval : ∀ (j : Nat) t v, Try.f3.params[j]? = some t → args[j]? = some v → Value.okWide Try.prog W .any base t v := hval0
  have hW' := hW
  obtain ⟨p, q, hA0, hV, rfl, hfz, hnd⟩ := hW
  have hA : DataW.TrodAll enc Try.prog W 0 (fun _ => true) true Try.f3.params.toList args.toList ds p := hA0
  rw [Try.params3] at hA hval
  obtain ⟨v0, vs0, d0, ds0, p0, q0, hargs, rfl, rfl, h0, r0⟩ := trodAll_cons hA
  obtain ⟨v1, vs1, d1, ds1, p1, q1, rfl, rfl, rfl, h1, r1⟩ := trodAll_cons r0
  obtain ⟨rfl, rfl, rfl⟩ := trodAll_nil r1
  obtain rfl : args = #[v0, v1] := by cases args; simp_all
  obtain ⟨rfl, rfl⟩ := trodVars_none hV
  obtain ⟨a1, rfl, rfl, rfl, w1⟩ := open_int Try.underlying3 (hval 1 3 v1 rfl rfl) h1
  obtain ⟨f, pv, bv, rfl, hF⟩ := open_func (hval 0 25 v0 rfl rfl) h0 hsz (j := 0) rfl rfl
  clear hA0 hval0
  refine (walk f pv bv a1 W hF w1).mono fun e W' ⟨he, hg⟩ => ?_
  subst he
  exact ⟨_, rfl, law_post (by kernel_rfl) hW' rfl (by kernel_rfl) Try.underlying4 rfl rfl rfl (by rw [Try.params3]; decide +kernel) hg⟩

theorem over : Rows.irTellsRow.holds Try.pinned (OpenSpec.ofChange Rows.irTellsSpec) :=
  OpenClaim.holds_of_wide 3 Try.f3 rfl rfl rfl rfl rfl rfl rfl ⟨rfl, rfl, rfl, rfl, rfl⟩ rfl rfl rfl rfl rfl (by kernel_rfl) Try.func3 (by kernel_rfl)
    (of_decide_eq_true (by kernel_rfl)) (by unfold Func.isWrapper; first | (rw [if_pos (by decide +kernel)]; kernel_rfl) | (rw [if_neg (by decide +kernel)]; exact ⟨rfl, rfl⟩))
    (fun os started H enc _ => lifted os started H enc)

theorem proved : Rows.IrTellsSaid := over
#print axioms proved
end Go.Proofs.Ytbhfhjmebbaimaa.irTells
