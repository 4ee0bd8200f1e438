/- awake of the twelfth law. -/
import Derived.Test.YtfifbgpiekpepaaDoorChAdd
namespace Go.Proofs.YtfifbgpiekpepaaDoor.Chn
open Go.RowKit

theorem AnsE.some_ {w w' : World} {r : Option (List Int)} {ys : List Int} {e : Ending} (h : AnsE w r e w') (hr : r = some ys) :
    ∃ A c, e = .returned (.tuple #[.slice A ys.length c, .int .i64 0]) ∧ ys.length ≤ 16 ∧ Num w' w.heap.size (.slice A ys.length c) ys ∧ Below w.heap.size w w' := by
  obtain ⟨A, n, c, en, rfl, h1, _, h3⟩ := h
  obtain ⟨rfl, rfl, hl, hv⟩ := h3 ys hr
  exact ⟨A, c, rfl, hl, hv, h1⟩

theorem AnsE.none_ {w w' : World} {r : Option (List Int)} {e : Ending} (h : AnsE w r e w') (hr : r = none) :
    e = .returned (.tuple #[.slice none 0 0, .int .i64 1]) ∧ Below w.heap.size w w' := by
  obtain ⟨A, n, c, en, rfl, h1, h2, _⟩ := h
  obtain ⟨rfl, rfl, rfl, rfl⟩ := h2 hr
  exact ⟨rfl, h1⟩

/-- a list that was built lies in a row -/
theorem ci_row {w : World} {g n c : Nat} {xs : List Int} (h : RowC w g xs) (hn : n = xs.length) (hc : n ≤ c) (hm : n ≤ 140737488351232) {B : Nat} (hB : g < B) : CI w B (.slice (some ⟨g, 0, none⟩) n c) xs := by
  subst hn
  exact ⟨⟨_, c, rfl, hm, fun k hk => ⟨g, 0, rfl, hB, by rw [Nat.zero_add, h.cell (List.getElem?_eq_getElem hk), List.getElem?_eq_getElem hk]; rfl⟩⟩, fun A n c' e => by injection e with _ e1 e2; omega⟩

theorem rowC_new (w : World) (xs : List Int) (ty : TypeId) : RowC (w.alloc (.cells (xs.map (Value.int .i64)).toArray ty)) w.heap.size xs :=
  ⟨_, ty, heap_alloc_new w _, fun j x hj => by simp [hj]⟩

theorem add_awake : addAM [[1, 2], [3]] = some [4, 2] := by decide +kernel
theorem at_awake : atM [4, 2] 3 = 10 := by decide +kernel

/-- a list of lists that was just built -/
theorem lr_new (w : World) (vs : Array Value) (css : List (List Int)) (ty : TypeId) (B n : Nat) (hn : n = css.length) (hm : n ≤ 100000) (hB : B ≤ w.heap.size) (h : ∀ (k : Nat) (cs : List Int), css[k]? = some cs → ∃ u : Value, vs[k]? = some u ∧ CI w B u cs) :
    LR (w.alloc (.cells vs ty)) (w.heap.size + 1) (.slice (some ⟨w.heap.size, 0, none⟩) n n) css := by
  subst hn
  refine ⟨_, _, rfl, by omega, fun k cs hk => ?_⟩
  obtain ⟨u, hu, hc⟩ := h k cs hk
  refine ⟨_, _, u, rfl, by omega, ?_, ?_⟩
  · rw [Nat.zero_add, row_cells (heap_alloc_new w (.cells vs ty)) rfl k]
    exact hu
  · exact (hc.keep ((Below.refl _ w).alloc hB _)).more (by omega)

theorem lr_two (w : World) (v1 v2 : Value) (xs ys : List Int) (ty : TypeId) (B : Nat) (hB : B ≤ w.heap.size) (h1 : CI w B v1 xs) (h2 : CI w B v2 ys) : LR (w.alloc (.cells #[v1, v2] ty)) (w.heap.size + 1) (.slice (some ⟨w.heap.size, 0, none⟩) 2 2) [xs, ys] :=
  lr_new w #[v1, v2] [xs, ys] ty B 2 rfl (by decide) hB fun k cs hk => by
    match k, hk with
    | 0, hk => injection hk with hk; subst hk; exact ⟨v1, rfl, h1⟩
    | 1, hk => injection hk with hk; subst hk; exact ⟨v2, rfl, h2⟩
    | k + 2, hk => simp at hk

theorem lr_three (w : World) (v1 v2 v3 : Value) (xs ys zs : List Int) (ty : TypeId) (B : Nat) (hB : B ≤ w.heap.size) (h1 : CI w B v1 xs) (h2 : CI w B v2 ys) (h3 : CI w B v3 zs) : LR (w.alloc (.cells #[v1, v2, v3] ty)) (w.heap.size + 1) (.slice (some ⟨w.heap.size, 0, none⟩) 3 3) [xs, ys, zs] :=
  lr_new w #[v1, v2, v3] [xs, ys, zs] ty B 3 rfl (by decide) hB fun k cs hk => by
    match k, hk with
    | 0, hk => injection hk with hk; subst hk; exact ⟨v1, rfl, h1⟩
    | 1, hk => injection hk with hk; subst hk; exact ⟨v2, rfl, h2⟩
    | 2, hk => injection hk with hk; subst hk; exact ⟨v3, rfl, h3⟩
    | k + 3, hk => simp at hk

set_option maxRecDepth 100000 in
set_option maxHeartbeats 1000000 in
theorem awake_any (w : World) (hT : Tab w) :
    Calls Tryd.prog 13 #[] w fun e w' => e = .returned (.bool true) ∧ Below w.heap.size w w' := by
  have HT := hideI hT
  have HT0 := hT.1
  clear hT
  obtain ⟨W2, hW2⟩ : ∃ W2, W2 = (w.alloc (.cells #[.int .i64 1, .int .i64 2] 3)).alloc (.cells #[.int .i64 3] 3) := ⟨_, rfl⟩
  have hz : W2.heap.size = w.heap.size + 1 + 1 := by rw [hW2]; simp
  have HB2 : Hid (Below w.heap.size w W2) := hideI (by rw [hW2]; exact ((Below.refl _ w).alloc (Nat.le_refl _) _).alloc (by simp) _)
  have hrA : RowC W2 w.heap.size [1, 2] := by rw [hW2]; exact (rowC_new w [1, 2] 3).keep ((Below.refl (w.heap.size + 1) _).alloc (by simp) _) (by omega)
  have hrC : RowC W2 (w.heap.size + 1) [3] := by rw [hW2]; have h := rowC_new (w.alloc (.cells #[.int .i64 1, .int .i64 2] 3)) [3] 3; simpa using h
  have HA : CI W2 W2.heap.size (.slice (some ⟨w.heap.size, 0, none⟩) 2 2) [1, 2] := ci_row hrA rfl (by decide) (by decide) (by omega)
  have HC : CI W2 W2.heap.size (.slice (some ⟨w.heap.size + 1, 0, none⟩) 1 1) [3] := ci_row hrC rfl (by decide) (by decide) (by omega)
  have HLR := hideI (lr_two W2 _ _ _ _ 24 W2.heap.size (Nat.le_refl _) HA HC)
  obtain ⟨W3, hW3⟩ : ∃ W3, W3 = W2.alloc (.cells #[.slice (some ⟨w.heap.size, 0, none⟩) 2 2, .slice (some ⟨w.heap.size + 1, 0, none⟩) 1 1] 24) := ⟨_, rfl⟩
  have HB3 : Hid (Below w.heap.size w W3) := hideI (by rw [hW3]; exact HB2.out.alloc (by rw [hz]; omega) _)
  rw [← hW3] at HLR
  have HADD := hideI (chAdd_any _ _ _ W3 HLR.out (by rw [hW3]; simp))
  rw [hW2] at hW3
  rw [hz] at HADD
  have HW3 := hideI hW3
  clear hW3 hz HA HC hW2 HLR hrA hrC
  go_enter Tryd.func13, Tryd.ntmps13
  go_upto_region 2 with (go_at_call 12; rw [← HW3.out]; go_must (refine HADD.out.mono ?_); rintro e w4 h4; obtain ⟨A4, c4, rfl, _, hv4, hb4⟩ := h4.some_ add_awake; have HB4 := hideI (HB3.out.trans (hb4.mono HB3.out.size)); have HV4 := hideI hv4; clear h4 hv4 hb4)
  obtain ⟨A4', c4', e, hr⟩ := HV4.out.read
  injection e with e _ e2
  subst e e2
  obtain ⟨g4, rfl, _, _, hc4⟩ := hr 0 4 rfl
  have HAT := hideI (at_any [4, 2] w4.heap.size _ 3 w4 (HT.out.keep HB4.out HT0) (HV4.out.ci (by decide)) (Nat.le_refl _) ⟨by decide, by decide⟩)
  rw [at_awake] at HAT
  clear hr
  simp only [List.length_cons, List.length_nil, Nat.zero_add] at HAT ⊢
  go_wp2_with (go_at_call 24; go_must (refine HAT.out.mono ?_); rintro e w5 ⟨rfl, hb5⟩; have HB5 := hideI (HB4.out.trans (hb5.mono HB4.out.size)); clear hb5)
  go_ret
  exact ⟨rfl, HB5.out⟩
end Go.Proofs.YtfifbgpiekpepaaDoor.Chn
