/- chain.Sums, whole. -/
import Derived.Test.YtfifbgpiekpepaaDoorChFits
namespace Go.Proofs.YtfifbgpiekpepaaDoor.Chn
open Go.RowKit

theorem append_nil_any (w : World) (g n c c2 ty : Nat) (_hnc : ¬ c < n) (_hpure : Sem.run Tryd.prog (pure (#[] : Array Value)) w = .ok #[] w) : (Builtin.append_ #[24, 24] ty #[.slice (some ⟨g, 0, none⟩) n c, .slice none 0 c2]).run Tryd.prog w = .ok (.slice (some ⟨g, 0, none⟩) n c) w := by
  go_simp

set_option maxRecDepth 100000 in
/-- the law of a list appended onto one's own -/
theorem run_join (w : World) (B ty g n c base : Nat) (u : Value) (pre xs : List Int) (ho : Num w base (.slice (some ⟨g, 0, none⟩) n c) pre) (hi : Ints w B u xs) (hn : pre.length + xs.length ≤ 100000) (hb : base ≤ w.heap.size) :
    ∃ A' c' w', (Builtin.append_ #[24, 24] ty #[.slice (some ⟨g, 0, none⟩) n c, u]).run Tryd.prog w = .ok (.slice A' (pre ++ xs).length c') w' ∧ Num w' base (.slice A' (pre ++ xs).length c') (pre ++ xs) ∧ Below base w w' := by
  have hnl : n = pre.length := by
    obtain ⟨A2, c2, e, _⟩ := ho.read
    injection e
  subst hnl
  have hbg := (Num.rowC ho).2
  obtain ⟨A, c2, rfl, _, hat⟩ := hi
  cases A with
  | none =>
    have h0 : xs.length = 0 := by
      rcases Nat.eq_zero_or_pos xs.length with h | h
      · exact h
      · obtain ⟨_, _, e, _⟩ := hat 0 h
        cases e
    have hx : xs = [] := List.eq_nil_of_length_eq_zero h0
    subst hx
    rw [List.append_nil]
    exact ⟨_, _, w, append_nil_any w g _ c c2 ty (by have := ho.cap.1; omega) rfl, ho, Below.refl _ _⟩
  | some ad =>
    obtain ⟨i0, hix, hz0, hz1, hz2⟩ := info_parts int_info
    have hnews : ∀ j u, (xs.map (Value.int .i64))[j]? = some u → w.cell? (ad.add j) = some u := fun j u hu => by
      rw [List.getElem?_map] at hu
      cases hj : xs[j]? with
      | none => rw [hj] at hu; cases hu
      | some y =>
        rw [hj] at hu
        injection hu with hu
        obtain ⟨b, off, e, _, hc⟩ := hat j (List.getElem?_eq_some_iff.1 hj).1
        injection e with e
        subst e
        rw [Go.WideShapes.add_plain, hc, hj, ← hu]
        rfl
    obtain ⟨v', w', hr, h2, h3, _, h5⟩ := run_append_own_at (P := Tryd.prog) w base 24 ty 3 i0 _ 1 8 Tryd.underlying24 hix hz0 hz1 hz2 rfl (by decide) _ _ _ ho ad xs.length c2 (xs.map (Value.int .i64)) (by simp) hnews (fun u hu => by
      obtain ⟨y, _, rfl⟩ := List.mem_map.1 hu
      rfl) (by unfold maxLen; omega) (by omega) hb
    rw [← List.map_append] at h2
    obtain ⟨A', c', rfl⟩ : ∃ A' c', v' = .slice A' (pre ++ xs).length c' := by
      rcases h2.2 with ⟨e, e0⟩ | ⟨g2, cap, cur, e, _⟩
      · exact ⟨none, 0, by rw [e, List.length_append, e0]⟩
      · exact ⟨_, _, by rw [List.length_append]; exact e⟩
    refine ⟨A', c', w', hr, by unfold Num; rw [List.length_append] at h2 ⊢; exact h2, h3.os, h3.tape, h3.output, h3.size, fun k hk => h3.block k (by omega) (by simp [Value.ownBlock]; omega)⟩

/-- at a plain region's list -/
theorem wpList_join {ops : Array Oper} {rest : List Oper} {o : Oper} {a : Act} {Q : Exit → Act → World → Prop} {w : World} (hgd : o.guard = none) (s x : Operand) (ho : o.op = .call { callee := .builtin .append, args := #[s, x], argTypes := #[24, 24] })
    (B g n c base : Nat) (u : Value) (pre xs : List Int) (hs : a.eval s = .slice (some ⟨g, 0, none⟩) n c) (hx : a.eval x = u) (hown : Num w base (.slice (some ⟨g, 0, none⟩) n c) pre) (hi : Ints w B u xs) (hn : pre.length + xs.length ≤ 100000) (hb : base ≤ w.heap.size)
    (h : ∀ A' c' w', Num w' base (.slice A' (pre ++ xs).length c') (pre ++ xs) → Below base w w' → wpList Tryd.prog ops Q rest (a.put o.dst (.slice A' (pre ++ xs).length c')) w') : wpList Tryd.prog ops Q (o :: rest) a w :=
  wpList_plain hgd fun _ hK => by
    obtain ⟨A', c', w', hr, h1, h2⟩ := run_join w B o.type g n c base u pre xs hown hi hn hb
    unfold Oper.wp execOp
    simp only [ho, resolve, invoke, builtin, Sem.run_bind, Sem.run_pure, Result.andThen_ok, List.map_toArray, List.map_cons, List.map_nil, hs, hx, hr]
    exact hK _ _ (h A' c' w' h1 h2)

theorem num_one (w : World) (x : Int) : Num (w.alloc (.cells #[.int .i64 x] 3)) w.heap.size (.slice (some ⟨w.heap.size, 0, none⟩) 1 1) [x] :=
  ⟨rfl, .inr ⟨w.heap.size, 1, #[.int .i64 x], rfl, Nat.le_refl _, heap_alloc_new w _, Nat.le_refl _, by unfold maxLen; omega, rfl, rfl⟩⟩

set_option maxRecDepth 100000 in
set_option maxHeartbeats 2000000 in
theorem chSums_any (s : Int) (xs : List Int) (B : Nat) (v : Value) (w : World) (hx : CI w B v xs) (hB : B ≤ w.heap.size) (hn : xs.length ≤ 1000) :
    Calls Tryd.prog 20 #[.int .i64 s, v] w (AnsE w (ansM (trimM (s :: trimM xs)))) := by
  obtain ⟨W1, hW1⟩ : ∃ W1, W1 = w.alloc (.cells #[.int .i64 s] 3) := ⟨_, rfl⟩
  have HB1 : Hid (Below w.heap.size w W1) := hideI (by rw [hW1]; exact (Below.refl _ w).alloc (Nat.le_refl _) _)
  have HN1 : Hid (Num W1 w.heap.size (.slice (some ⟨w.heap.size, 0, none⟩) 1 1) [s]) := hideI (by rw [hW1]; exact num_one w s)
  have HT := hideI (trimmed_any xs B v W1 (hx.keep (HB1.out.mono hB)))
  have HL := hideI (show (trimM xs).length ≤ 1000 by have := trimM_len xs; omega)
  have HW1 := hideI hW1
  have HS1 : Hid (w.heap.size ≤ W1.heap.size) := hideI HB1.out.size
  obtain ⟨⟨A, c, rfl, _, _⟩, _⟩ := hx
  clear hW1 hB hn
  go_enter Tryd.func20, Tryd.ntmps20
  go_wp2_with (first
    | (go_at_call 27; rw [← HW1.out]; go_must (refine HT.out.mono ?_); rintro e w1 ⟨v1, rfl, hv, hw⟩; obtain rfl := hw.symm; have HV := hideI hv; obtain ⟨⟨A1, c1, rfl, _, _⟩, _⟩ := hv)
    | (at_builtin; go_must (refine wpList_join rfl _ _ rfl B w.heap.size 1 1 w.heap.size (.slice A1 (trimM xs).length c1) [s] (trimM xs) rfl rfl HN1.out HV.out.1 (by have := HL.out; simp; omega) HS1.out ?_); intro A2 c2 w2 hown hb; have HO := hideI hown; have HB2 := hideI (HB1.out.trans hb); clear hown hb)
    | (go_at_call 29; go_must (refine (answer_any ([s] ++ trimM xs) _ _ w2 (HO.out.ci (by have := HL.out; simp; omega))).mono ?_); rintro e w5 ⟨A5, n5, c5, en5, rfl, h5⟩; have H5 := hideI h5; clear h5))
  refine bodyPost_ret (results_tmp2 rfl _ _ _) (by rfl) ?_
  exact AnsE.of ⟨A5, n5, c5, en5, rfl, H5.out⟩ HB2.out
end Go.Proofs.YtfifbgpiekpepaaDoor.Chn
