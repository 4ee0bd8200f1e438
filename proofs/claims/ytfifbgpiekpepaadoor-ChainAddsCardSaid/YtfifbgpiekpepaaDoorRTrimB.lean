/- The reference's Trim and Long of a chain of any length that memory bears. -/
import Derived.Test.YtfifbgpiekpepaaDoorRTrim
namespace Go.Proofs.YtfifbgpiekpepaaDoor.Chn
open Go.RowKit

set_option maxRecDepth 100000 in
/-- the law of the copy -/
theorem run_copyB (w : World) (B g ty : Nat) (v : Value) (xs : List Int) (hi : Ints w B v xs) (hg : w.heap[g]? = some (.cells #[] 3 (0, 0))) (hn : xs.length * 8 ≤ 140737488355328) (base : Nat) (hb : base ≤ g) :
    ∃ A' c' w', (Builtin.append_ #[24, 24] ty #[.slice (some ⟨g, 0, none⟩) 0 0, v]).run Tryd.prog w = .ok (.slice A' xs.length c') w' ∧ w'.ownsRow base 3 1 (.slice A' xs.length c') xs.length (xs.map (Value.int .i64)) ∧ w.grownBy w' (some g) ∧
      (∀ k, (Value.slice A' xs.length c').ownBlock = some k → k = g ∨ k = w.heap.size) := by
  have hgl : g < w.heap.size := (Array.getElem?_eq_some_iff.1 hg).1
  have hown0 : w.ownsRow base 3 1 (.slice (some ⟨g, 0, none⟩) 0 0) 0 [] := ⟨rfl, .inr ⟨g, 0, #[], rfl, hb, hg, Nat.le_refl _, by unfold maxLen; omega, rfl, rfl⟩⟩
  obtain ⟨A, c, rfl, _, hat⟩ := hi
  cases A with
  | none =>
    have h0 : xs.length = 0 := by
      rcases Nat.eq_zero_or_pos xs.length with h | h
      · exact h
      · obtain ⟨_, _, e, _⟩ := hat 0 h
        cases e
    have hx : xs = [] := List.eq_nil_of_length_eq_zero h0
    subst hx
    exact ⟨_, _, w, append_none w g c ty rfl, hown0, World.grownBy.refl w (some g), fun k hk => .inl (by simpa [Value.ownBlock] using hk.symm)⟩
  | some ad =>
    obtain ⟨i0, hix, hz0, hz1, hz2⟩ := info_parts int_info
    have hnews : ∀ j u, (xs.map (Value.int .i64))[j]? = some u → w.cell? (ad.add j) = some u := fun j u hu => by
      rw [List.getElem?_map] at hu
      cases hj : xs[j]? with
      | none => rw [hj] at hu; cases hu
      | some y =>
        rw [hj] at hu
        injection hu with hu
        obtain ⟨b, off, e, _, hc⟩ := hat j (List.getElem?_eq_some_iff.1 hj).1
        injection e with e
        subst e
        rw [Go.WideShapes.add_plain, hc, hj, ← hu]
        rfl
    obtain ⟨v', w', hr, h2, h3, _, h5⟩ := run_append_own_at (P := Tryd.prog) w base 24 ty 3 i0 _ 1 8 Tryd.underlying24 hix hz0 hz1 hz2 rfl (by decide) _ 0 [] hown0 ad xs.length c (xs.map (Value.int .i64)) (by simp) hnews (fun u hu => by
      obtain ⟨y, _, rfl⟩ := List.mem_map.1 hu
      rfl) (by unfold maxLen; omega) (by omega) (by omega)
    rw [Nat.zero_add, List.nil_append] at h2
    obtain ⟨A', c', rfl⟩ : ∃ A' c', v' = .slice A' xs.length c' := by
      rcases h2.2 with ⟨e, e0⟩ | ⟨g2, cap, cur, e, _⟩
      · exact ⟨none, 0, by rw [e, e0]⟩
      · exact ⟨_, _, e⟩
    refine ⟨A', c', w', hr, h2, h3, fun k hk => ?_⟩
    rcases h5 with h5 | h5
    · rw [h5] at hk
      exact .inl (by simpa [Value.ownBlock] using hk.symm)
    · rw [h5] at hk
      exact .inr (by simpa using hk.symm)

/-- at a plain region's list -/
theorem wpList_copyB {ops : Array Oper} {rest : List Oper} {o : Oper} {a : Act} {Q : Exit → Act → World → Prop} {w : World} (hgd : o.guard = none) (s x : Operand) (ho : o.op = .call { callee := .builtin .append, args := #[s, x], argTypes := #[24, 24] })
    (B g : Nat) (v : Value) (xs : List Int) (hs : a.eval s = .slice (some ⟨g, 0, none⟩) 0 0) (hx : a.eval x = v) (hi : Ints w B v xs) (hg : w.heap[g]? = some (.cells #[] 3 (0, 0))) (hn : xs.length * 8 ≤ 140737488355328) (base : Nat) (hb : base ≤ g)
    (h : ∀ A' c' w', w'.ownsRow base 3 1 (.slice A' xs.length c') xs.length (xs.map (Value.int .i64)) → w.grownBy w' (some g) → (∀ k, (Value.slice A' xs.length c').ownBlock = some k → k = g ∨ k = w.heap.size) → wpList Tryd.prog ops Q rest (a.put o.dst (.slice A' xs.length c')) w') : wpList Tryd.prog ops Q (o :: rest) a w :=
  wpList_plain hgd fun _ hK => by
    obtain ⟨A', c', w', hr, h1, h2, h3⟩ := run_copyB w B g o.type v xs hi hg hn base hb
    unfold Oper.wp execOp
    simp only [ho, resolve, invoke, builtin, Sem.run_bind, Sem.run_pure, Result.andThen_ok, List.map_toArray, List.map_cons, List.map_nil, hs, hx, hr]
    exact hK _ _ (h A' c' w' h1 h2 h3)

set_option maxRecDepth 100000 in
set_option maxHeartbeats 1000000 in
theorem refTrimB_any (xs : List Int) (B : Nat) (v : Value) (w : World) (hx : Ints w B v xs) (hB : B ≤ w.heap.size) (hn : xs.length * 8 ≤ 140737488355328) :
    Calls Tryd.prog 19 #[v] w fun e w' => ∃ v', e = .returned v' ∧ Num w' w.heap.size v' (trimM xs) ∧ Below w.heap.size w w' := by
  have HX := hideI hx
  obtain ⟨A, c, rfl, _, _⟩ := hx
  have HB := hideI hB
  have HN := hideI hn
  clear hB
  clear hn
  go_enter Tryd.func19, Tryd.ntmps19
  go_wp2_with (at_builtin; go_must (refine wpList_copyB rfl _ _ rfl B w.heap.size (.slice A xs.length c) xs rfl rfl (HX.out.keep ((Below.refl _ w).alloc HB.out _)) (heap_alloc_new w _) HN.out w.heap.size (Nat.le_refl _) ?_); intro A1 c1 w1 hown hg hv)
  have HB1 : Hid (Below w.heap.size w w1) := hideI (grown_below hg hown (Nat.le_refl _))
  have HO := hideI (show Num w1 w.heap.size (.slice A1 xs.length c1) xs from hown)
  clear hown hg hv
  go_loopw [3] (fun u wr => ∃ k : Nat, k ≤ xs.length ∧ u = .slice A1 k c1 ∧ Hid (trimM (xs.take k) = trimM xs) ∧ wr = w1) (fun u _ => sliceLen u)
  case atStart => exact ⟨xs.length, Nat.le_refl _, rfl, hideI (by rw [List.take_length]), rfl⟩
  case round =>
    obtain ⟨k, hk, rfl, HT, hw⟩ := hrel
    obtain rfl := hw.symm
    have hn5 := HN.out
    by_cases h0 : k = 0
    · have hr : trimM xs = [] := by have h := HT.out; rw [h0] at h; exact h.symm
      have HE : Hid (Num w1 w.heap.size (.slice A1 0 c1) (trimM xs)) := hideI (by rw [hr]; exact HO.out.less 0 (by omega) rfl)
      subst h0
      clear hr HT
      go_wp2
      go_ret
      exact ⟨_, rfl, HE.out, HB1.out⟩
    · obtain ⟨m, rfl⟩ : ∃ m, k = m + 1 := ⟨k - 1, by omega⟩
      obtain ⟨x, hx⟩ : ∃ x, xs[m]? = some x := ⟨_, List.getElem?_eq_getElem (by omega)⟩
      have hT2 := HT.out
      rw [trimM_take hx] at hT2
      obtain ⟨A2, c2, hv, hr⟩ := HO.out.read
      obtain ⟨g, hg, _, _, hc⟩ := hr m x hx
      injection hv with e1 e2 e3
      subst e1 hg
      have hcap := HO.out.cap.1
      have hmc : (m : Int) ≤ (c1 : Int) := by omega
      have hc0 : ¬ c1 = 0 := by omega
      clear hr hx e2 e3 h0 HT
      by_cases hx0 : x = 0
      · subst hx0
        rw [if_pos rfl] at hT2
        have HT3 := hideI hT2
        clear hT2
        go_wp2
        go_roundw
        case rel => exact ⟨m, by omega, by go_num, HT3, trivial⟩
        case measure => simp [sliceLen]
      · rw [if_neg hx0] at hT2
        have hxb : (x == 0) = false := by simpa using hx0
        have HE : Hid (Num w1 w.heap.size (.slice (some ⟨g, 0, none⟩) (m + 1) c1) (trimM xs)) := hideI (HO.out.less (m + 1) hk hT2.symm)
        clear hT2 hx0
        go_wp2
        go_ret
        exact ⟨_, rfl, HE.out, HB1.out⟩

set_option maxRecDepth 100000 in
theorem refLongB_any (xs : List Int) (B : Nat) (v : Value) (w : World) (hx : Ints w B v xs) (hB : B ≤ w.heap.size) (hn : xs.length * 8 ≤ 140737488355328) :
    Calls Tryd.prog 11 #[v] w fun e w' => e = .returned (.bool (decide (16 < (trimM xs).length))) ∧ Below w.heap.size w w' := by
  have HT := hideI (refTrimB_any xs B v w hx hB hn)
  have hl := trimM_len xs
  go_enter Tryd.func11, Tryd.ntmps11
  go_wp2_with (go_at_call 19; go_must (refine HT.out.mono ?_); rintro e w1 ⟨v1, rfl, hv, hb⟩; have HB1 := hideI hb; obtain ⟨A1, c1, rfl, _⟩ := hv.read; clear hv hb)
  go_ret
  exact ⟨by simp; omega, HB1.out⟩
end Go.Proofs.YtfifbgpiekpepaaDoor.Chn
