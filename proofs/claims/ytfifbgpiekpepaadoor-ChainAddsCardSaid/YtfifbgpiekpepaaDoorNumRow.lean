/- A list of numbers of its own memory: read, grown, made shorter, made by a copy. -/
import Derived.Test.YtfifbgpiekpepaaDoorInts
import Derived.Deep.AppendLies
import Derived.Deep.Onto
import Derived.OneCell
import Derived.Laws.OwnMore
namespace Go.Proofs.YtfifbgpiekpepaaDoor.Chn
open Go.RowKit

theorem int_info : (Tryd.prog.info? 3).map (fun i => (i.zero, i.size, i.bytes)) = some (some (.int .i64 0), 1, 8) := by kernel_rfl

theorem row_cells {w w' : World} {g : Nat} {cs : Array Value} {t : TypeId} (h : w.heap[g]? = some (.cells cs t (0, 0))) (hk : w'.heap[g]? = w.heap[g]?) : ∀ o, w'.cell? ⟨g, o, none⟩ = cs[o]? :=
  fun o => cell_of_row w' g o cs t (0, 0) (hk.trans h)

/-- the call's own list of numbers -/
def Num (w : World) (base : Nat) (v : Value) (xs : List Int) : Prop := w.ownsRow base 3 1 v xs.length (xs.map (Value.int .i64))

theorem Num.read {w : World} {base : Nat} {v : Value} {xs : List Int} (h : Num w base v xs) :
    ∃ A c, v = .slice A xs.length c ∧ ∀ (j : Nat) (x : Int), xs[j]? = some x → ∃ g, A = some ⟨g, 0, none⟩ ∧ base ≤ g ∧ g < w.heap.size ∧ w.cell? ⟨g, j, none⟩ = some (.int .i64 x) := by
  unfold Num at h
  rcases Nat.eq_zero_or_pos xs.length with h0 | h0
  · have hv : xs = [] := List.eq_nil_of_length_eq_zero h0
    subst hv
    rcases h.2 with ⟨rfl, _⟩ | ⟨g, cap, cur, rfl, _⟩
    · exact ⟨_, _, rfl, by simp⟩
    · exact ⟨_, _, rfl, by simp⟩
  · obtain ⟨g, cap, rfl, hb, hlt⟩ := World.ownsRow.form h h0
    refine ⟨_, _, rfl, fun j x hj => ⟨g, rfl, hb, hlt, ?_⟩⟩
    obtain ⟨hjl, _⟩ := List.getElem?_eq_some_iff.1 hj
    rw [World.ownsRow.cellAt h j (by omega), List.getElem?_map, hj]
    rfl

theorem Num.cap {w : World} {base n c : Nat} {A : Option Addr} {xs : List Int} (h : Num w base (.slice A n c) xs) : n ≤ c ∧ c ≤ maxLen := by
  rcases h.2 with ⟨e, _⟩ | ⟨g, cap, cur, e, _, _, h1, h2, _⟩
  · injection e with _ e1 e2
    exact ⟨by omega, by unfold maxLen; omega⟩
  · injection e with _ e1 e2
    exact ⟨by omega, by omega⟩

theorem Num.ints {w : World} {base : Nat} {v : Value} {xs : List Int} (h : Num w base v xs) (hl : xs.length ≤ 140737488351232) : Ints w w.heap.size v xs := by
  obtain ⟨A, c, rfl, hr⟩ := h.read
  refine ⟨A, c, rfl, hl, fun k hk => ?_⟩
  obtain ⟨g, e, _, hg, hc⟩ := hr k _ (List.getElem?_eq_getElem hk)
  exact ⟨g, 0, e, hg, by rw [Nat.zero_add, List.getElem?_eq_getElem hk]; exact hc⟩

theorem Num.kept {w w' : World} {base : Nat} {v : Value} {xs : List Int} (h : Num w base v xs) (hb : Below w.heap.size w w') : Num w' base v xs :=
  World.ownsRow.kept (row := none) h ⟨hb.os, hb.tape, hb.output, hb.size, fun k hk _ => hb.block k hk⟩ (by
    cases hv : v.ownBlock with
    | none => exact .inl rfl
    | some k => exact .inr (by simp))

theorem Num.mono {w : World} {base base' : Nat} {v : Value} {xs : List Int} (h : Num w base v xs) (hb : base' ≤ base) : Num w base' v xs := World.ownsRow.mono h hb

/-- the last number left out -/
theorem Num.less {w : World} {base : Nat} {A : Option Addr} {n c : Nat} {xs ys : List Int} (h : Num w base (.slice A n c) xs) (m : Nat) (hm : m ≤ n) (hy : ys = xs.take m) : Num w base (.slice A m c) ys := by
  subst hy
  unfold Num at *
  obtain ⟨h1, h2⟩ := h
  have hn : n = xs.length := by
    rcases h2 with ⟨e, e0⟩ | ⟨g, cap, cur, e, _⟩
    · injection e with _ e1 _; omega
    · injection e with _ e1 _
  have hl : (xs.take m).length = m := by rw [List.length_take]; omega
  rw [hl]
  refine ⟨by rw [List.length_map, hl]; omega, ?_⟩
  rcases h2 with ⟨e, e0⟩ | ⟨g, cap, cur, e, hb, hg, hnc, hcm, hcs, ht⟩
  · injection e with e1 e2 e3
    subst e1 e3
    exact .inl ⟨by rw [show m = 0 from by omega], by omega⟩
  · injection e with e1 e2 e3
    subst e1 e3
    refine .inr ⟨g, _, cur, rfl, hb, hg, by omega, hcm, hcs, ?_⟩
    rw [List.map_take, ← ht, List.take_take]
    congr 1
    omega

theorem Num.push {w' : World} {base n : Nat} {v' : Value} {xs : List Int} {x : Int} (hn : n = xs.length) (h : w'.ownsRow base 3 1 v' (n + 1) (xs.map (Value.int .i64) ++ [.int .i64 x])) : Num w' base v' (xs ++ [x]) := by
  subst hn
  unfold Num
  rw [List.length_append, List.map_append]
  exact h

theorem Num.set {w : World} {base g n c j : Nat} {xs : List Int} {x : Int} (h : Num w base (.slice (some ⟨g, 0, none⟩) n c) xs) : Num (w.setCell ⟨g, j, none⟩ (.int .i64 x)) base (.slice (some ⟨g, 0, none⟩) n c) (xs.set j x) := by
  have hn : n = xs.length := by
    obtain ⟨A, c2, e, _⟩ := h.read
    injection e
  subst hn
  unfold Num at *
  rw [List.length_set, List.map_set]
  exact (World.ownsRow.stored h j _).1

theorem append_none (w : World) (g c ty : Nat) (_hpure : Sem.run Tryd.prog (pure (#[] : Array Value)) w = .ok #[] w) : (Builtin.append_ #[24, 24] ty #[.slice (some ⟨g, 0, none⟩) 0 0, .slice none 0 c]).run Tryd.prog w = .ok (.slice (some ⟨g, 0, none⟩) 0 0) w := by
  go_simp

set_option maxRecDepth 100000 in
/-- the law of the copy -/
theorem run_copy (w : World) (B g ty : Nat) (v : Value) (xs : List Int) (hi : Ints w B v xs) (hg : w.heap[g]? = some (.cells #[] 3 (0, 0))) (hn : xs.length ≤ 100000) (base : Nat) (hb : base ≤ g) :
    ∃ A' c' w', (Builtin.append_ #[24, 24] ty #[.slice (some ⟨g, 0, none⟩) 0 0, v]).run Tryd.prog w = .ok (.slice A' xs.length c') w' ∧ w'.ownsRow base 3 1 (.slice A' xs.length c') xs.length (xs.map (Value.int .i64)) ∧ w.grownBy w' (some g) ∧
      (∀ k, (Value.slice A' xs.length c').ownBlock = some k → k = g ∨ k = w.heap.size) := by
  have hgl : g < w.heap.size := (Array.getElem?_eq_some_iff.1 hg).1
  have hown0 : w.ownsRow base 3 1 (.slice (some ⟨g, 0, none⟩) 0 0) 0 [] := ⟨rfl, .inr ⟨g, 0, #[], rfl, hb, hg, Nat.le_refl _, by unfold maxLen; omega, rfl, rfl⟩⟩
  obtain ⟨A, c, rfl, _, hat⟩ := hi
  cases A with
  | none =>
    have h0 : xs.length = 0 := by
      rcases Nat.eq_zero_or_pos xs.length with h | h
      · exact h
      · obtain ⟨_, _, e, _⟩ := hat 0 h
        cases e
    have hx : xs = [] := List.eq_nil_of_length_eq_zero h0
    subst hx
    exact ⟨_, _, w, append_none w g c ty rfl, hown0, World.grownBy.refl w (some g), fun k hk => .inl (by simpa [Value.ownBlock] using hk.symm)⟩
  | some ad =>
    obtain ⟨i0, hix, hz0, hz1, hz2⟩ := info_parts int_info
    have hnews : ∀ j u, (xs.map (Value.int .i64))[j]? = some u → w.cell? (ad.add j) = some u := fun j u hu => by
      rw [List.getElem?_map] at hu
      cases hj : xs[j]? with
      | none => rw [hj] at hu; cases hu
      | some y =>
        rw [hj] at hu
        injection hu with hu
        obtain ⟨b, off, e, _, hc⟩ := hat j (List.getElem?_eq_some_iff.1 hj).1
        injection e with e
        subst e
        rw [Go.WideShapes.add_plain, hc, hj, ← hu]
        rfl
    obtain ⟨v', w', hr, h2, h3, _, h5⟩ := run_append_own_at (P := Tryd.prog) w base 24 ty 3 i0 _ 1 8 Tryd.underlying24 hix hz0 hz1 hz2 rfl (by decide) _ 0 [] hown0 ad xs.length c (xs.map (Value.int .i64)) (by simp) hnews (fun u hu => by
      obtain ⟨y, _, rfl⟩ := List.mem_map.1 hu
      rfl) (by unfold maxLen; omega) (by omega) (by omega)
    rw [Nat.zero_add, List.nil_append] at h2
    obtain ⟨A', c', rfl⟩ : ∃ A' c', v' = .slice A' xs.length c' := by
      rcases h2.2 with ⟨e, e0⟩ | ⟨g2, cap, cur, e, _⟩
      · exact ⟨none, 0, by rw [e, e0]⟩
      · exact ⟨_, _, e⟩
    refine ⟨A', c', w', hr, h2, h3, fun k hk => ?_⟩
    rcases h5 with h5 | h5
    · rw [h5] at hk
      exact .inl (by simpa [Value.ownBlock] using hk.symm)
    · rw [h5] at hk
      exact .inr (by simpa using hk.symm)

/-- at a plain region's list -/
theorem wpList_copy {ops : Array Oper} {rest : List Oper} {o : Oper} {a : Act} {Q : Exit → Act → World → Prop} {w : World} (hgd : o.guard = none) (s x : Operand) (ho : o.op = .call { callee := .builtin .append, args := #[s, x], argTypes := #[24, 24] })
    (B g : Nat) (v : Value) (xs : List Int) (hs : a.eval s = .slice (some ⟨g, 0, none⟩) 0 0) (hx : a.eval x = v) (hi : Ints w B v xs) (hg : w.heap[g]? = some (.cells #[] 3 (0, 0))) (hn : xs.length ≤ 100000) (base : Nat) (hb : base ≤ g)
    (h : ∀ A' c' w', w'.ownsRow base 3 1 (.slice A' xs.length c') xs.length (xs.map (Value.int .i64)) → w.grownBy w' (some g) → (∀ k, (Value.slice A' xs.length c').ownBlock = some k → k = g ∨ k = w.heap.size) → wpList Tryd.prog ops Q rest (a.put o.dst (.slice A' xs.length c')) w') : wpList Tryd.prog ops Q (o :: rest) a w :=
  wpList_plain hgd fun _ hK => by
    obtain ⟨A', c', w', hr, h1, h2, h3⟩ := run_copy w B g o.type v xs hi hg hn base hb
    unfold Oper.wp execOp
    simp only [ho, resolve, invoke, builtin, Sem.run_bind, Sem.run_pure, Result.andThen_ok, List.map_toArray, List.map_cons, List.map_nil, hs, hx, hr]
    exact hK _ _ (h A' c' w' h1 h2 h3)

end Go.Proofs.YtfifbgpiekpepaaDoor.Chn
