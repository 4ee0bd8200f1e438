/- The program's own, answer, Trim, At, Sums. -/
import Derived.Test.YtfifbgpiekpepaaDoorChList
namespace Go.Proofs.YtfifbgpiekpepaaDoor.Chn
open Go.RowKit

theorem append_nils (w : World) (c ty : Nat) (_hpure : Sem.run Tryd.prog (pure (#[] : Array Value)) w = .ok #[] w) : (Builtin.append_ #[24, 24] ty #[.slice none 0 0, .slice none 0 c]).run Tryd.prog w = .ok (.slice none 0 0) w := by
  go_simp

set_option maxRecDepth 100000 in
/-- the law of the copy onto nothing -/
theorem run_own (w : World) (B ty : Nat) (v : Value) (xs : List Int) (hi : Ints w B v xs) (hn : xs.length ≤ 100000) :
    ∃ A' c' w', (Builtin.append_ #[24, 24] ty #[.slice none 0 0, v]).run Tryd.prog w = .ok (.slice A' xs.length c') w' ∧ Num w' w.heap.size (.slice A' xs.length c') xs ∧ Below w.heap.size w w' := by
  have hown0 : w.ownsRow w.heap.size 3 1 (.slice none 0 0) 0 [] := ⟨rfl, .inl ⟨rfl, rfl⟩⟩
  obtain ⟨A, c, rfl, _, hat⟩ := hi
  cases A with
  | none =>
    have h0 : xs.length = 0 := by
      rcases Nat.eq_zero_or_pos xs.length with h | h
      · exact h
      · obtain ⟨_, _, e, _⟩ := hat 0 h
        cases e
    have hx : xs = [] := List.eq_nil_of_length_eq_zero h0
    subst hx
    exact ⟨_, _, w, append_nils w c ty rfl, hown0, Below.refl _ _⟩
  | some ad =>
    obtain ⟨i0, hix, hz0, hz1, hz2⟩ := info_parts int_info
    have hnews : ∀ j u, (xs.map (Value.int .i64))[j]? = some u → w.cell? (ad.add j) = some u := fun j u hu => by
      rw [List.getElem?_map] at hu
      cases hj : xs[j]? with
      | none => rw [hj] at hu; cases hu
      | some y =>
        rw [hj] at hu
        injection hu with hu
        obtain ⟨b, off, e, _, hc⟩ := hat j (List.getElem?_eq_some_iff.1 hj).1
        injection e with e
        subst e
        rw [Go.WideShapes.add_plain, hc, hj, ← hu]
        rfl
    obtain ⟨v', w', hr, h2, h3, _, h5⟩ := run_append_own_at (P := Tryd.prog) w w.heap.size 24 ty 3 i0 _ 1 8 Tryd.underlying24 hix hz0 hz1 hz2 rfl (by decide) _ 0 [] hown0 ad xs.length c (xs.map (Value.int .i64)) (by simp) hnews (fun u hu => by
      obtain ⟨y, _, rfl⟩ := List.mem_map.1 hu
      rfl) (by unfold maxLen; omega) (by omega) (by omega)
    rw [Nat.zero_add, List.nil_append] at h2
    obtain ⟨A', c', rfl⟩ : ∃ A' c', v' = .slice A' xs.length c' := by
      rcases h2.2 with ⟨e, e0⟩ | ⟨g2, cap, cur, e, _⟩
      · exact ⟨none, 0, by rw [e, e0]⟩
      · exact ⟨_, _, e⟩
    exact ⟨A', c', w', hr, h2, h3.os, h3.tape, h3.output, h3.size, fun k hk => h3.block k hk (by simp [Value.ownBlock])⟩

/-- at a plain region's list -/
theorem wpList_copy0 {ops : Array Oper} {rest : List Oper} {o : Oper} {a : Act} {Q : Exit → Act → World → Prop} {w : World} (hgd : o.guard = none) (s x : Operand) (ho : o.op = .call { callee := .builtin .append, args := #[s, x], argTypes := #[24, 24] })
    (B : Nat) (v : Value) (xs : List Int) (hs : a.eval s = .slice none 0 0) (hx : a.eval x = v) (hi : Ints w B v xs) (hn : xs.length ≤ 100000)
    (h : ∀ A' c' w', Num w' w.heap.size (.slice A' xs.length c') xs → Below w.heap.size w w' → wpList Tryd.prog ops Q rest (a.put o.dst (.slice A' xs.length c')) w') : wpList Tryd.prog ops Q (o :: rest) a w :=
  wpList_plain hgd fun _ hK => by
    obtain ⟨A', c', w', hr, h1, h2⟩ := run_own w B o.type v xs hi hn
    unfold Oper.wp execOp
    simp only [ho, resolve, invoke, builtin, Sem.run_bind, Sem.run_pure, Result.andThen_ok, List.map_toArray, List.map_cons, List.map_nil, hs, hx, hr]
    exact hK _ _ (h A' c' w' h1 h2)

set_option maxRecDepth 100000 in
theorem own_any (xs : List Int) (B : Nat) (v : Value) (w : World) (hx : Ints w B v xs) (hn : xs.length ≤ 100000) :
    Calls Tryd.prog 33 #[v] w fun e w' => ∃ v', e = .returned v' ∧ Num w' w.heap.size v' xs ∧ Below w.heap.size w w' := by
  have HX := hideI hx
  have HN := hideI hn
  obtain ⟨A, c, rfl, _, _⟩ := hx
  clear hn
  go_enter Tryd.func33, Tryd.ntmps33
  go_wp2_with (at_builtin; go_must (refine wpList_copy0 rfl _ _ rfl B (.slice A xs.length c) xs rfl rfl HX.out HN.out ?_); intro A1 c1 w1 hown hb; have HO := hideI hown; have HB := hideI hb; clear hown hb)
  go_ret
  exact ⟨_, rfl, HO.out, HB.out⟩

/-- a call that may refuse has answered: refused, or the numbers -/
structure AnsV (w w' : World) (A : Option Addr) (n c : Nat) (en : Int) (r : Option (List Int)) : Prop where
  below : Below w.heap.size w w'
  none_ : r = none → A = none ∧ n = 0 ∧ c = 0 ∧ en = 1
  some_ : ∀ ys, r = some ys → en = 0 ∧ n = ys.length ∧ ys.length ≤ 16 ∧ Num w' w.heap.size (.slice A n c) ys

/-- the call's end -/
def AnsE (w : World) (r : Option (List Int)) (e : Ending) (w' : World) : Prop := ∃ A n c en, e = .returned (.tuple #[.slice A n c, .int .i64 en]) ∧ AnsV w w' A n c en r

theorem AnsE.no {w w' : World} (h : Below w.heap.size w w') : AnsE w none (.returned (.tuple #[.slice none 0 0, .int .i64 1])) w' :=
  ⟨none, 0, 0, 1, rfl, h, fun _ => ⟨rfl, rfl, rfl, rfl⟩, fun _ e => by cases e⟩

theorem AnsE.yes {w w' : World} {v : Value} {ys : List Int} (h : Below w.heap.size w w') (hv : Num w' w.heap.size v ys) (hl : ys.length ≤ 16) : AnsE w (some ys) (.returned (.tuple #[v, .int .i64 0])) w' := by
  obtain ⟨A, c, rfl, _⟩ := hv.read
  exact ⟨A, ys.length, c, 0, rfl, h, (fun e => by cases e), fun zs e => by injection e with e; subst e; exact ⟨rfl, rfl, hl, hv⟩⟩

theorem AnsE.of {w w0 w' : World} {r : Option (List Int)} {e : Ending} (h : AnsE w0 r e w') (hb : Below w.heap.size w w0) : AnsE w r e w' := by
  obtain ⟨A, n, c, en, rfl, h1, h2, h3⟩ := h
  exact ⟨A, n, c, en, rfl, hb.trans (h1.mono hb.size), h2, fun ys e => by obtain ⟨g1, g2, g3, g4⟩ := h3 ys e; exact ⟨g1, g2, g3, g4.mono hb.size⟩⟩

/-- a chain that is not too long -/
def ansM (ys : List Int) : Option (List Int) := if 16 < ys.length then none else some ys

set_option maxRecDepth 100000 in
theorem answer_any (xs : List Int) (B : Nat) (v : Value) (w : World) (hx : CI w B v xs) :
    Calls Tryd.prog 29 #[v] w (AnsE w (ansM (trimM xs))) := by
  have HT := hideI (trimmed_any xs B v w hx)
  obtain ⟨⟨A, c, rfl, _, _⟩, _⟩ := hx
  go_enter Tryd.func29, Tryd.ntmps29
  go_upto_region 2 with (go_at_call 27; go_must (refine HT.out.mono ?_); rintro e w1 ⟨v1, rfl, hv, hw⟩; obtain rfl := hw.symm; have HV := hideI hv; obtain ⟨⟨A1, c1, rfl, _, _⟩, _⟩ := hv)
  by_cases hl : 16 < (trimM xs).length
  · have HL : Hid (ansM (trimM xs) = none) := hideI (if_pos hl)
    have hd : decide (16 < (trimM xs).length) = true := by simpa using hl
    clear hl
    go_wp2_with (go_at_call 28; go_must (refine (tooLong_any _ _ _ _).mono ?_); rintro e w2 ⟨rfl, rfl⟩; rw [hd])
    refine bodyPost_ret (results_tmp2 rfl _ _ _) (by rfl) ?_
    rw [HL.out]
    exact AnsE.no (Below.refl _ _)
  · have HL := hideI (show (trimM xs).length ≤ 16 by omega)
    have HE : Hid (ansM (trimM xs) = some (trimM xs)) := hideI (if_neg hl)
    have hd : decide (16 < (trimM xs).length) = false := by simpa using hl
    have HO := hideI (own_any (trimM xs) B _ w HV.out.1 (by have := HL.out; omega))
    clear hl
    go_wp2_with (first
      | (go_at_call 28; go_must (refine (tooLong_any _ _ _ _).mono ?_); rintro e w2 ⟨rfl, rfl⟩; rw [hd])
      | (go_at_call 33; go_must (refine HO.out.mono ?_); rintro e w3 ⟨v3, rfl, hv3, hb3⟩; have HV3 := hideI hv3; have HB3 := hideI hb3; clear hv3 hb3))
    refine bodyPost_ret (results_tmp2 rfl _ _ _) (by rfl) ?_
    rw [HE.out]
    exact AnsE.yes HB3.out HV3.out HL.out

set_option maxRecDepth 100000 in
theorem chTrim_any (xs : List Int) (B : Nat) (v : Value) (w : World) (hx : CI w B v xs) (hn : xs.length ≤ 100000) :
    Calls Tryd.prog 26 #[v] w fun e w' => ∃ v', e = .returned v' ∧ Num w' w.heap.size v' (trimM xs) ∧ Below w.heap.size w w' := by
  have HT := hideI (trimmed_any xs B v w hx)
  have hl := trimM_len xs
  have HL := hideI (show (trimM xs).length ≤ 100000 by omega)
  obtain ⟨⟨A, c, rfl, _, _⟩, _⟩ := hx
  clear hl hn
  go_enter Tryd.func26, Tryd.ntmps26
  go_wp2_with (first
    | (go_at_call 27; go_must (refine HT.out.mono ?_); rintro e w1 ⟨v1, rfl, hv, hw⟩; obtain rfl := hw.symm; have HV := hideI hv; obtain ⟨⟨A1, c1, rfl, _, _⟩, _⟩ := hv)
    | (go_at_call 33; go_must (refine (own_any (trimM xs) B _ w HV.out.1 HL.out).mono ?_); rintro e w3 ⟨v3, rfl, hv3, hb3⟩; have HV3 := hideI hv3; have HB3 := hideI hb3; clear hv3 hb3))
  go_ret
  exact ⟨_, rfl, HV3.out, HB3.out⟩

/-- what At answers -/
def atM (c : List Int) (n : Int) : Int := if 16 < (trimM c).length then 0 else wrp (vl c n.toNat)

set_option maxRecDepth 100000 in
theorem at_any (xs : List Int) (B : Nat) (v : Value) (n : Int) (w : World) (hT : Tab w) (hx : CI w B v xs) (hB : B ≤ w.heap.size) (hn : In64 n) :
    Calls Tryd.prog 24 #[v, .int .i64 n] w fun e w' => e = .returned (.int .i64 (atM xs n)) ∧ Below w.heap.size w w' := by
  have HT := hideI (trimmed_any xs B v w hx)
  have HTB := hideI hT
  have HB := hideI hB
  have HN := hideI hn
  obtain ⟨⟨A, c, rfl, _, _⟩, _⟩ := hx
  clear hT hB hn
  go_enter Tryd.func24, Tryd.ntmps24
  go_upto_region 2 with (go_at_call 27; go_must (refine HT.out.mono ?_); rintro e w1 ⟨v1, rfl, hv, hw⟩; obtain rfl := hw.symm; have HV := hideI hv; obtain ⟨⟨A1, c1, rfl, _, _⟩, _⟩ := hv)
  by_cases hl : 16 < (trimM xs).length
  · have hd : decide (16 < (trimM xs).length) = true := by simpa using hl
    have HE : Hid (atM xs n = 0) := hideI (by unfold atM; rw [if_pos hl])
    clear hl
    go_wp2_with (go_at_call 28; go_must (refine (tooLong_any _ _ _ _).mono ?_); rintro e w2 ⟨rfl, rfl⟩; rw [hd])
    go_ret
    exact ⟨by rw [HE.out]; rfl, Below.refl _ _⟩
  · have hd : decide (16 < (trimM xs).length) = false := by simpa using hl
    have HL := hideI hl
    obtain ⟨m, hm⟩ : ∃ m : Nat, m = n.toNat := ⟨_, rfl⟩
    have HE : Hid (atM xs n = wrp (vl (trimM xs) m)) := hideI (by unfold atM; rw [if_neg hl, hm, vl_trim])
    clear hl
    have HVA := hideI (fun V : World => fun hV : Tab V => fun h2 : Ints V B (.slice A1 (trimM xs).length c1) (trimM xs) => fun h3 => value_any (trimM xs) B _ m V hV h2 h3 (by have := HL.out; omega) (by have := HN.out.2; omega))
    have HMX : Hid ((if n < 0 then 0 else n) = (m : Int)) := hideI (by split <;> omega)
    clear hm
    go_wp2_with (first
      | (go_at_call 28; go_must (refine (tooLong_any _ _ _ _).mono ?_); rintro e w2 ⟨rfl, rfl⟩; rw [hd])
      | (go_at_call 30; rw [HMX.out]; go_must (refine (HVA.out _ HTB.out HV.out.1 HB.out).mono ?_); rintro e w3 ⟨rfl, hb3⟩; have HB3 := hideI hb3; clear hb3))
    go_ret
    exact ⟨by rw [HE.out]; rfl, HB3.out⟩
end Go.Proofs.YtfifbgpiekpepaaDoor.Chn
