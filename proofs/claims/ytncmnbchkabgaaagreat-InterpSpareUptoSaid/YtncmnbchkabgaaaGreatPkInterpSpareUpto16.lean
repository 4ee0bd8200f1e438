/- What InterpSpareUpto rests on, part 16: OwnC, AppV, SpareM, SpareN, Env. -/
import Derived.Test.YtncmnbchkabgaaaGreatPkInterpSpareUpto15
import Derived.Deep.DeepCutAuto
import Derived.Deep.RegionHeld3

namespace Go.Proofs.YtncmnbchkabgaaaGreat
open Go.RowKit

theorem owns_stay {w w' : World} {base : Nat} {e : TypeId} {size : Nat} {v : Value} {n : Nat} {xs : List Value} (h : w.ownsRow base e size v n xs) (hk : ∀ g, v.ownBlock = some g → w'.heap[g]? = w.heap[g]?) : w'.ownsRow base e size v n xs := by
  refine ⟨h.1, ?_⟩
  rcases h.2 with h2 | ⟨g, cap, cur, hv, hb, hg, r⟩
  · exact .inl h2
  · exact .inr ⟨g, cap, cur, hv, hb, (hk g (by rw [hv]; rfl)).trans hg, r⟩

theorem own_form {w : World} {base : Nat} {e : TypeId} {size : Nat} {v : Value} {n : Nat} {xs : List Value} (h : w.ownsRow base e size v n xs) : ∃ A cp, v = .slice A n cp := by
  rcases h.2 with ⟨e, e0⟩ | ⟨g, cap, cur, e, _⟩
  · exact ⟨none, 0, by rw [e, e0]⟩
  · exact ⟨_, _, e⟩

/-- a variable: its block, its cells, its type -/
abbrev VarD := Nat × Array Value × TypeId

structure OwnC (w0 w : World) (row : Rows) (val : Vals) (D : Tag → Prop) (bl : List VarD) : Prop where
  own : OwnG w w0.heap.size row val D
  cells : ∀ x ∈ bl, w.heap[x.1]? = some (.cells x.2.1 x.2.2 (0, 0)) ∧ w0.heap.size ≤ x.1
  off : ∀ x ∈ bl, ∀ t, D t → (val t).ownBlock ≠ some x.1
  dis : (bl.map (·.1)).Nodup
  below : Below w0.heap.size w0 w

section
variable {w0 w w1 : World} {row row' : Rows} {val val' : Vals} {D D' : Tag → Prop} {bl : List VarD}

theorem OwnC.nothing (w0 : World) (row : Rows) (val : Vals) : OwnC w0 w0 row val (fun _ => False) [] :=
  ⟨OwnG.nothing _ _ _ _, (fun _ h => by cases h), (fun _ h => by cases h), List.nodup_nil, Below.refl _ _⟩

theorem OwnC.lt (h : OwnC w0 w row val D bl) {x : VarD} (hx : x ∈ bl) : x.1 < w.heap.size := (Array.getElem?_eq_some_iff.1 (h.cells x hx).1).1

/-- a variable is made -/
theorem OwnC.make (h : OwnC w0 w row val D bl) (cs : Array Value) (T : TypeId) : OwnC w0 (w.alloc (.cells cs T)) row val D ((w.heap.size, cs, T) :: bl) := by
  have hb : Below w.heap.size w (w.alloc (.cells cs T)) := (Below.refl _ w).alloc (Nat.le_refl _) _
  refine ⟨h.own.below hb, fun x hx => ?_, fun x hx t ht he => ?_, ?_, h.below.alloc h.below.size _⟩
  · rcases List.mem_cons.1 hx with rfl | hx
    · exact ⟨heap_alloc_new w _, h.below.size⟩
    · obtain ⟨h1, h2⟩ := h.cells x hx
      exact ⟨(hb.block _ (h.lt hx)).trans h1, h2⟩
  · rcases List.mem_cons.1 hx with rfl | hx
    · have := (h.own.lt ht he).2
      exact absurd this (Nat.lt_irrefl _)
    · exact h.off x hx t ht he
  · rw [List.map_cons, List.nodup_cons]
    refine ⟨fun hm => ?_, h.dis⟩
    obtain ⟨x, hx, e⟩ := List.mem_map.1 hm
    have h1 := h.lt hx
    have e : x.1 = w.heap.size := e
    omega

/-- a callee, or a draw: nothing that was there is changed -/
theorem OwnC.grows (h : OwnC w0 w row val D bl) (hb : Below w.heap.size w w1) : OwnC w0 w1 row val D bl :=
  ⟨h.own.below hb, fun x hx => ⟨(hb.block _ (h.lt hx)).trans (h.cells x hx).1, (h.cells x hx).2⟩, h.off, h.dis, h.below.trans (hb.mono h.below.size)⟩

/-- fewer variables -/
theorem OwnC.drop {bl' : List VarD} (h : OwnC w0 w row val D bl) (hs : bl'.Sublist bl) : OwnC w0 w row val D bl' :=
  ⟨h.own, fun x hx => h.cells x (hs.subset hx), fun x hx => h.off x (hs.subset hx), (hs.map _).nodup h.dis, h.below⟩

/-- a variable is written -/
theorem OwnC.store {g j : Nat} {cs : Array Value} {T : TypeId} {r : List VarD} (h : OwnC w0 w row val D ((g, cs, T) :: r)) (u : Value) : OwnC w0 (w.setCell ⟨g, j, none⟩ u) row val D ((g, cs.setIfInBounds j u, T) :: r) := by
  obtain ⟨hg, hlo⟩ := h.cells _ (List.mem_cons_self ..)
  have hd := h.dis
  rw [List.map_cons, List.nodup_cons] at hd
  refine ⟨h.own.other fun t ht => h.off _ (List.mem_cons_self ..) t ht, fun x hx => ?_, fun x hx => ?_, h.dis, h.below.setCell (p := ⟨g, j, none⟩) hlo u⟩
  · rcases List.mem_cons.1 hx with rfl | hx
    · exact ⟨heap_setCell_same w g j _ _ u hg, hlo⟩
    · have hne : x.1 ≠ g := fun e => hd.1 (List.mem_map.2 ⟨x, hx, e⟩)
      exact ⟨(Below.heap_setCell _ _ _ _ hne).trans (h.cells x (List.mem_cons_of_mem _ hx)).1, (h.cells x (List.mem_cons_of_mem _ hx)).2⟩
  · rcases List.mem_cons.1 hx with rfl | hx
    · exact h.off (g, cs, T) (List.mem_cons_self ..)
    · exact h.off x (List.mem_cons_of_mem _ hx)

/-- the variables in another order -/
theorem OwnC.perm {bl' : List VarD} (h : OwnC w0 w row val D bl) (hp : bl'.Perm bl) : OwnC w0 w row val D bl' :=
  ⟨h.own, fun x hx => h.cells x (hp.mem_iff.1 hx), fun x hx => h.off x (hp.mem_iff.1 hx), ((hp.map _).nodup_iff).2 h.dis, h.below⟩

/-- a row comes, out of the block of an empty list -/
theorem OwnC.comes {g : Nat} {cs : Array Value} {T : TypeId} {r : List VarD} {t0 : Tag} {d : RowD} {v : Value} (h : OwnC w0 w row val D ((g, cs, T) :: r)) (hn : ¬ D t0) (hg : w.grownBy w1 (some g)) (hown : w1.ownsRow w0.heap.size d.elem d.size v d.len d.cells)
    (hv : ∀ k, v.ownBlock = some k → k = g ∨ k = w.heap.size) : OwnC w0 w1 (upd row t0 (some d)) (upd val t0 v) (fun t => D t ∨ t = t0) r := by
  obtain ⟨_, hlo⟩ := h.cells _ (List.mem_cons_self ..)
  have hd := h.dis
  rw [List.map_cons, List.nodup_cons] at hd
  have hkeep : ∀ t b, D t → (val t).ownBlock = some b → w1.heap[b]? = w.heap[b]? := fun t b ht hb => hg.block b (h.own.lt ht hb).2 fun e => h.off _ (List.mem_cons_self ..) t ht (by rw [hb, e])
  have hnew : ∀ t b, D t → (val t).ownBlock = some b → v.ownBlock ≠ some b := fun t b ht hb e => by
    rcases hv b e with h1 | h1
    · exact h.off _ (List.mem_cons_self ..) t ht (by rw [hb, h1])
    · have := (h.own.lt ht hb).2
      omega
  refine ⟨⟨fun t ht => ?_, fun t d' ht hd' => ?_, fun t t' b ht ht' e1 e2 => ?_⟩, fun x hx => ?_, fun x hx t ht e => ?_, hd.2, ?_⟩
  · by_cases e : t = t0
    · subst e; rw [upd_same]; rfl
    · rw [upd_ne _ _ e]; exact h.own.has t (ht.resolve_right e)
  · by_cases e : t = t0
    · subst e
      rw [upd_same] at hd' ⊢
      cases hd'
      exact hown
    · rw [upd_ne _ _ e] at hd' ⊢
      exact owns_stay (h.own.rows t d' (ht.resolve_right e) hd') fun b hb => hkeep t b (ht.resolve_right e) hb
  · by_cases e : t = t0
    · by_cases e' : t' = t0
      · rw [e, e']
      · subst e
        rw [upd_same] at e1
        rw [upd_ne _ _ e'] at e2
        exact absurd e1 (hnew t' b (ht'.resolve_right e') e2)
    · by_cases e' : t' = t0
      · subst e'
        rw [upd_same] at e2
        rw [upd_ne _ _ e] at e1
        exact absurd e2 (hnew t b (ht.resolve_right e) e1)
      · rw [upd_ne _ _ e] at e1
        rw [upd_ne _ _ e'] at e2
        exact h.own.apart t t' b (ht.resolve_right e) (ht'.resolve_right e') e1 e2
  · have hne : x.1 ≠ g := fun e => hd.1 (List.mem_map.2 ⟨x, hx, e⟩)
    have hx' := List.mem_cons_of_mem (g, cs, T) hx
    exact ⟨(hg.block x.1 (h.lt hx') fun e => hne (by simpa using e)).trans (h.cells x hx').1, (h.cells x hx').2⟩
  · have hne : x.1 ≠ g := fun e => hd.1 (List.mem_map.2 ⟨x, hx, e⟩)
    have hx' := List.mem_cons_of_mem (g, cs, T) hx
    by_cases e2 : t = t0
    · subst e2
      rw [upd_same] at e
      rcases hv x.1 e with h1 | h1
      · exact hne h1
      · have := h.lt hx'
        omega
    · rw [upd_ne _ _ e2] at e
      exact h.off x hx' t (ht.resolve_right e2) e
  · refine ⟨hg.os.trans h.below.os, hg.tape.trans h.below.tape, hg.output.trans h.below.output, Nat.le_trans h.below.size hg.size, fun k hk => ?_⟩
    exact (hg.block k (Nat.lt_of_lt_of_le hk h.below.size) fun e => by have e : k = g := (by simpa using e); have hlo : w0.heap.size ≤ g := hlo; omega).trans (h.below.block k hk)

/-- a row grows -/
theorem OwnC.grow {t0 : Tag} {d : RowD} {v : Value} {g1 : Nat} (h : OwnC w0 w row val D bl) (ht0 : D t0) (hown : w1.ownsRow w0.heap.size d.elem d.size v d.len d.cells) (hg : w.grownBy w1 (val t0).ownBlock)
    (hv : v.ownBlock = some g1) (hor : (val t0).ownBlock = some g1 ∨ g1 = w.heap.size) : OwnC w0 w1 (upd row t0 (some d)) (upd val t0 v) D bl := by
  refine ⟨h.own.grow ht0 hown hg hv hor, fun x hx => ?_, fun x hx t ht e => ?_, h.dis, ?_⟩
  · exact ⟨(hg.block x.1 (h.lt hx) fun e => h.off x hx t0 ht0 e.symm).trans (h.cells x hx).1, (h.cells x hx).2⟩
  · by_cases e2 : t = t0
    · subst e2
      rw [upd_same, hv] at e
      injection e with e
      rcases hor with h1 | h1
      · exact h.off x hx t ht0 (by rw [h1, e])
      · have := h.lt hx
        omega
    · rw [upd_ne _ _ e2] at e
      exact h.off x hx t ht e
  · refine ⟨hg.os.trans h.below.os, hg.tape.trans h.below.tape, hg.output.trans h.below.output, Nat.le_trans h.below.size hg.size, fun k hk => ?_⟩
    exact (hg.block k (Nat.lt_of_lt_of_le hk h.below.size) fun e => by have := (h.own.lt ht0 e.symm).1; omega).trans (h.below.block k hk)

theorem OwnC.congr (h : OwnC w0 w row val D bl) (hr : ∀ t, D' t → row' t = row t) (hv : ∀ t, D' t → val' t = val t) (hD : ∀ t, D' t → D t) : OwnC w0 w row' val' D' bl :=
  ⟨h.own.congr hr hv hD, h.cells, fun x hx t ht => by rw [hv t ht]; exact h.off x hx t (hD t ht), h.dis, h.below⟩

/-- a cell of an owned row is written -/
theorem OwnC.put {tp : Tag} {d : RowD} {g n cap j : Nat} {u : Value} (h : OwnC w0 w row val D bl) (hp : D tp) (hd : row tp = some d) (hv : val tp = .slice (some ⟨g, 0, none⟩) n cap) (hn : d.len = n) :
    OwnC w0 (w.setCell ⟨g, j, none⟩ u) (upd row tp (some { d with cells := d.cells.set j u })) val D bl := by
  have hg : (val tp).ownBlock = some g := by rw [hv]; rfl
  refine ⟨h.own.set hp hd hv hn, fun x hx => ⟨?_, (h.cells x hx).2⟩, h.off, h.dis, h.below.setCell (p := ⟨g, j, none⟩) (h.own.lt hp hg).1 u⟩
  have hne : x.1 ≠ g := fun e => h.off x hx tp hp (by rw [hg, e])
  exact (Below.heap_setCell _ _ _ _ hne).trans (h.cells x hx).1

/-- all rows are others, the variables are as they were -/
theorem OwnC.of (h : OwnC w0 w row val D bl) (own : OwnG w1 w0.heap.size row' val' D') (hk : ∀ x ∈ bl, w1.heap[x.1]? = w.heap[x.1]?) (hoff : ∀ t g, D' t → (val' t).ownBlock = some g → (∃ t', D t' ∧ (val t').ownBlock = some g) ∨ w.heap.size ≤ g) (hb : Below w0.heap.size w w1) : OwnC w0 w1 row' val' D' bl := by
  refine ⟨own, fun x hx => ⟨(hk x hx).trans (h.cells x hx).1, (h.cells x hx).2⟩, fun x hx t ht e => ?_, h.dis, h.below.trans hb⟩
  rcases hoff t _ ht e with ⟨t', ht', e'⟩ | h2
  · exact h.off x hx t' ht' e'
  · have := h.lt hx
    omega

/-- a cell of an owned row -/
theorem OwnC.cell {tp : Tag} {d : RowD} {g n cap j : Nat} (h : OwnC w0 w row val D bl) (hp : D tp) (hd : row tp = some d) (hv : val tp = .slice (some ⟨g, 0, none⟩) n cap) (hn : d.len = n) (hj : j < n * d.size) :
    w.cell? ⟨g, j, none⟩ = d.cells[j]? ∧ w.frozen? ⟨g, j, none⟩ = false := h.own.cell hp hd hv hn hj

theorem OwnC.box {g : Nat} {cs : Array Value} {T : TypeId} (h : OwnC w0 w row val D bl) (hm : (g, cs, T) ∈ bl) : ∀ o, w.cell? ⟨g, o, none⟩ = cs[o]? ∧ w.frozen? ⟨g, o, none⟩ = false := fun o =>
  ⟨row_cells (h.cells _ hm).1 rfl o, frozen_of_row w g o _ _ (h.cells _ hm).1⟩

/-- an empty list comes -/
theorem OwnC.empty {t0 : Tag} (h : OwnC w0 w row val D bl) (hn : ¬ D t0) : OwnC w0 (w.alloc (.cells #[] 3)) (upd row t0 (some (intsRow []))) (upd val t0 (.slice (some ⟨w.heap.size, 0, none⟩) 0 0)) (fun t => D t ∨ t = t0) bl := by
  have hb : Below w.heap.size w (w.alloc (.cells #[] 3)) := (Below.refl _ w).alloc (Nat.le_refl _) _
  have hown : (w.alloc (.cells #[] 3)).ownsRow w.heap.size 3 1 (.slice (some ⟨w.heap.size, 0, none⟩) 0 0) 0 [] := ⟨rfl, .inr ⟨w.heap.size, 0, #[], rfl, Nat.le_refl _, heap_alloc_new w _, Nat.le_refl _, by unfold maxLen; omega, rfl, rfl⟩⟩
  refine h.of (OwnG.add (d := intsRow []) h.own hn hb hown h.below.size) (fun x hx => hb.block _ (h.lt hx)) (fun t g ht e => ?_) (hb.mono h.below.size)
  by_cases e2 : t = t0
  · subst e2
    rw [upd_same] at e
    exact .inr (by have : w.heap.size = g := Option.some.inj e; omega)
  · rw [upd_ne _ _ e2] at e
    exact .inl ⟨t, ht.resolve_right e2, e⟩

/-- rows alone, beside no variable -/
theorem OwnC.alone (h : OwnG w w0.heap.size row val D) (hb : Below w0.heap.size w0 w) : OwnC w0 w row val D [] :=
  ⟨h, (fun _ hx => by cases hx), (fun _ hx => by cases hx), List.nodup_nil, hb⟩


/-- an empty list of one-cell values comes -/
theorem OwnC.emptyT {t0 : Tag} (e : TypeId) (h : OwnC w0 w row val D bl) (hn : ¬ D t0) : OwnC w0 (w.alloc (.cells #[] e)) (upd row t0 (some ⟨e, 1, 0, []⟩)) (upd val t0 (.slice (some ⟨w.heap.size, 0, none⟩) 0 0)) (fun t => D t ∨ t = t0) bl := by
  have hb : Below w.heap.size w (w.alloc (.cells #[] e)) := (Below.refl _ w).alloc (Nat.le_refl _) _
  have hown : (w.alloc (.cells #[] e)).ownsRow w.heap.size e 1 (.slice (some ⟨w.heap.size, 0, none⟩) 0 0) 0 [] := ⟨rfl, .inr ⟨w.heap.size, 0, #[], rfl, Nat.le_refl _, heap_alloc_new w _, Nat.le_refl _, by unfold maxLen; omega, rfl, rfl⟩⟩
  refine h.of (OwnG.add (d := ⟨e, 1, 0, []⟩) h.own hn hb hown h.below.size) (fun x hx => hb.block _ (h.lt hx)) (fun t g ht e => ?_) (hb.mono h.below.size)
  by_cases e2 : t = t0
  · subst e2
    rw [upd_same] at e
    exact .inr (by have : w.heap.size = g := Option.some.inj e; omega)
  · rw [upd_ne _ _ e2] at e
    exact .inl ⟨t, ht.resolve_right e2, e⟩
end
end Go.Proofs.YtncmnbchkabgaaaGreat

namespace Go.Proofs.YtncmnbchkabgaaaGreat
open Go.RowKit

theorem append_noneI (w : World) (g n c0 c ty : Nat) (hn : n ≤ c0) : (Builtin.append_ #[22, 22] ty #[.slice (some ⟨g, 0, none⟩) n c0, .slice none 0 c]).run Tryz.prog w = .ok (.slice (some ⟨g, 0, none⟩) n c0) w := by
  have hpure : Sem.run Tryz.prog (pure (#[] : Array Value)) w = .ok #[] w := rfl
  go_simp

theorem append_noneL (w : World) (g n c0 c ty : Nat) (hn : n ≤ c0) : (Builtin.append_ #[26, 26] ty #[.slice (some ⟨g, 0, none⟩) n c0, .slice none 0 c]).run Tryz.prog w = .ok (.slice (some ⟨g, 0, none⟩) n c0) w := by
  have hpure : Sem.run Tryz.prog (pure (#[] : Array Value)) w = .ok #[] w := rfl
  go_simp

/-- what an append onto an owned row comes to -/
def AppPost (w : World) (base e g0 n : Nat) (us : List Value) (r : Result Value) : Prop :=
  ∃ g1 cap w', r = .ok (.slice (some ⟨g1, 0, none⟩) n cap) w' ∧ w'.ownsRow base e 1 (.slice (some ⟨g1, 0, none⟩) n cap) n us ∧ w.grownBy w' (some g0) ∧ (g1 = g0 ∨ g1 = w.heap.size) ∧ g1 < w'.heap.size

set_option maxRecDepth 100000 in
theorem app_of {w : World} {base sl ty e : Nat} {i0 : TypeInfo} {z : Value} {by_ : Nat} (hu : Tryz.prog.underlying sl = some (.slice e)) (hix : Tryz.prog.info? e = some i0) (hz0 : i0.zero = some z) (hz1 : i0.size = 1) (hz2 : i0.bytes = by_) (hzc : z.cells.size = 1)
    {g0 n0 c0 m c : Nat} {A : Option Addr} {ys us : List Value} (hown : w.ownsRow base e 1 (.slice (some ⟨g0, 0, none⟩) n0 c0) n0 ys) (hm : us.length = m) (hat : ∀ j u, us[j]? = some u → ∃ b off, A = some ⟨b, off, none⟩ ∧ w.cell? ⟨b, off + j, none⟩ = some u) (h1 : ∀ u ∈ us, u.oneCell' = true) (hle : n0 + m ≤ 4000000) (hby : by_ ≤ 24) (hbase : base ≤ w.heap.size)
    (hnone : ∀ c, n0 ≤ c0 → (Builtin.append_ #[sl, sl] ty #[.slice (some ⟨g0, 0, none⟩) n0 c0, .slice none 0 c]).run Tryz.prog w = .ok (.slice (some ⟨g0, 0, none⟩) n0 c0) w) :
    AppPost w base e g0 (n0 + m) (ys ++ us) ((Builtin.append_ #[sl, sl] ty #[.slice (some ⟨g0, 0, none⟩) n0 c0, .slice A m c]).run Tryz.prog w) := by
  have hcap : n0 ≤ c0 := by
    rcases hown.2 with ⟨e, _⟩ | ⟨g, cap, cur, e, _, _, h, _⟩
    · cases e
    · injection e with _ _ e
      omega
  cases A with
  | none =>
    have h0 : us = [] := by
      cases us with
      | nil => rfl
      | cons u r =>
        obtain ⟨_, _, e, _⟩ := hat 0 u rfl
        cases e
    subst h0
    obtain rfl : m = 0 := hm.symm
    clear hle
    rw [Nat.add_zero, List.append_nil]
    exact ⟨g0, c0, w, hnone c hcap, hown, World.grownBy.refl w _, .inl rfl, (hown.lt g0 rfl).2⟩
  | some ad =>
    have hnews : ∀ j u, us[j]? = some u → w.cell? (ad.add j) = some u := fun j u hj => by
      obtain ⟨b, off, e, hc⟩ := hat j u hj
      injection e with e
      subst e
      rw [Go.WideShapes.add_plain]
      exact hc
    obtain ⟨v', w', hr, h2, h3, h4, h5⟩ := run_append_own_at (P := Tryz.prog) w base sl ty e i0 z 1 by_ hu hix hz0 hz1 hz2 hzc (by decide) _ n0 ys hown ad m c us (by simpa using hm) hnews h1 (by unfold maxLen; omega) (by
      have : (n0 + m) * by_ ≤ 4000000 * 24 := Nat.mul_le_mul hle hby
      omega) hbase
    have hv : v' ≠ .slice none 0 0 := fun e => by
      have := (h4.1 e).1
      cases this
    rcases h2.2 with ⟨e, _⟩ | ⟨g1, cap, cur, e, hb, hg, r⟩
    · exact absurd e hv
    · subst e
      refine ⟨g1, cap, w', hr, h2, h3, ?_, (Array.getElem?_eq_some_iff.1 hg).1⟩
      rcases h5 with h5 | h5
      · exact .inl (by simpa [Value.ownBlock] using h5)
      · exact .inr (by simpa [Value.ownBlock] using h5)

/-- numbers behind numbers -/
theorem app_ints {w : World} {base ty g0 n0 c0 B : Nat} {v : Value} {ys xs : List Int} (hown : w.ownsRow base 3 1 (.slice (some ⟨g0, 0, none⟩) n0 c0) n0 (ys.map (Value.int .i64))) (hi : Ints w B v xs) (hle : n0 + xs.length ≤ 4000000) (hbase : base ≤ w.heap.size) :
    AppPost w base 3 g0 (n0 + xs.length) ((ys ++ xs).map (Value.int .i64)) ((Builtin.append_ #[22, 22] ty #[.slice (some ⟨g0, 0, none⟩) n0 c0, v]).run Tryz.prog w) := by
  obtain ⟨A, c, rfl, _, hat⟩ := hi
  obtain ⟨i0, hix, hz0, hz1, hz2⟩ := info_parts int_info
  rw [List.map_append]
  refine app_of Tryz.underlying22 hix hz0 hz1 hz2 rfl hown (by simp) (fun j u hj => ?_) (fun u hu => by
    obtain ⟨y, _, rfl⟩ := List.mem_map.1 hu
    rfl) hle (by decide) hbase (fun c h => append_noneI w g0 n0 c0 c ty h)
  rw [List.getElem?_map] at hj
  cases hx : xs[j]? with
  | none => rw [hx] at hj; cases hj
  | some x =>
    rw [hx] at hj
    injection hj with hj
    subst hj
    obtain ⟨b, off, e, _, hc⟩ := hat j (List.getElem?_eq_some_iff.1 hx).1
    exact ⟨b, off, e, by rw [hc, hx]; rfl⟩
/-- at a plain region's list -/
theorem wpList_app {ops : Array Oper} {rest : List Oper} {o : Oper} {a : Act} {Q : Exit → Act → World → Prop} {w : World} (hgd : o.guard = none) (s x : Operand) (sl : TypeId) (ho : o.op = .call { callee := .builtin .append, args := #[s, x], argTypes := #[sl, sl] })
    (vs vx : Value) (hs : a.eval s = vs) (hx : a.eval x = vx) {base e g0 n : Nat} {us : List Value} (hp : AppPost w base e g0 n us ((Builtin.append_ #[sl, sl] o.type #[vs, vx]).run Tryz.prog w))
    (h : ∀ g1 cap w', w'.ownsRow base e 1 (.slice (some ⟨g1, 0, none⟩) n cap) n us → w.grownBy w' (some g0) → (g1 = g0 ∨ g1 = w.heap.size) → g1 < w'.heap.size → wpList Tryz.prog ops Q rest (a.put o.dst (.slice (some ⟨g1, 0, none⟩) n cap)) w') : wpList Tryz.prog ops Q (o :: rest) a w :=
  wpList_plain hgd fun _ hK => by
    obtain ⟨g1, cap, w', hr, h1, h2, h3, h4⟩ := hp
    unfold Oper.wp execOp
    simp only [ho, resolve, invoke, builtin, Sem.run_bind, Sem.run_pure, Result.andThen_ok, List.map_toArray, List.map_cons, List.map_nil, hs, hx, hr]
    exact hK _ _ (h g1 cap w' h1 h2 h3 h4)

/-- an owned row of numbers can be read -/
theorem own_ints {w : World} {base n : Nat} {v : Value} {xs : List Int} (h : w.ownsRow base 3 1 v n (xs.map (Value.int .i64))) (hn : n = xs.length) (hl : n ≤ 140737488351232) : Ints w w.heap.size v xs := by
  subst hn
  rcases h.2 with ⟨hv, h0⟩ | ⟨g, cap, cur, hv, hb, hg, r⟩
  · refine ⟨none, 0, by rw [hv, h0], hl, fun k hk => ?_⟩
    omega
  · refine ⟨some ⟨g, 0, none⟩, cap, hv, hl, fun k hk => ⟨g, 0, rfl, (Array.getElem?_eq_some_iff.1 hg).1, ?_⟩⟩
    rw [hv] at h
    rw [Nat.zero_add, World.ownsRow.cellAt h k (by omega), List.getElem?_map, List.getElem?_eq_getElem hk]
    rfl

end Go.Proofs.YtncmnbchkabgaaaGreat

namespace Go.Proofs.YtncmnbchkabgaaaGreat
open Go.RowKit

theorem getD_more {l m : List Int} {i : Nat} (h : i < l.length) : (l ++ m).getD i 0 = l.getD i 0 := by
  rw [List.getD_eq_getElem?_getD, List.getD_eq_getElem?_getD, List.getElem?_append_left h]

/-- arguments that are too many -/
theorem arg_more {f : FuncM} {I : InM} (m : List Int) (h : f.params.length ≤ I.args.length) (ar : List (List Int)) (i : Nat) : argM f ⟨I.args ++ m, ar⟩ i = argM f I i := by
  unfold argM
  by_cases hi : i < f.params.length
  · have h1 : i < I.args.length := by omega
    have h2 : i < (I.args ++ m).length := by rw [List.length_append]; omega
    simp only [hi, h1, h2, and_self, if_true, getD_more h1]
  · rw [if_neg (by simp [hi]), if_neg (by simp [hi])]

/-- arguments that are zero -/
theorem arg_zero {f : FuncM} {I : InM} (k : Nat) (ar : List (List Int)) (i : Nat) : argM f ⟨I.args ++ List.replicate k 0, ar⟩ i = argM f I i := by
  unfold argM
  by_cases hi : i < f.params.length
  · by_cases h1 : i < I.args.length
    · have h2 : i < (I.args ++ List.replicate k 0).length := by rw [List.length_append]; omega
      simp only [hi, h1, h2, and_self, if_true, getD_more h1]
    · rw [if_neg (fun h : i < f.params.length ∧ i < I.args.length => h1 h.2)]
      split
      · have h3 : (I.args ++ List.replicate k 0).getD i 0 = 0 := by
          rw [List.getD_eq_getElem?_getD, List.getElem?_append_right (by omega), List.getElem?_replicate]
          split <;> rfl
        rw [h3]
        split
        · rename_i h4
          exact absurd rfl h4.2
        · rfl
      · rfl
  · rw [if_neg (by simp [hi]), if_neg (by simp [hi])]

theorem start_eq {f : FuncM} {I J : InM} (h1 : ∀ i, argM f J i = argM f I i) (h2 : ∀ i, i < f.arrays.toNat → (J.arrs.getD i []) = I.arrs.getD i []) : startS f J = startS f I := by
  unfold startS
  have e1 : (fun x : Int => if 0 ≤ x then argM f J x.toNat else 0) = fun x => if 0 ≤ x then argM f I x.toNat else 0 := funext fun x => by rw [h1]
  have e2 : (List.range f.arrays.toNat).map (fun i => (J.arrs.getD i []).take 4096) = (List.range f.arrays.toNat).map (fun i => (I.arrs.getD i []).take 4096) := List.map_congr_left fun i hi => by rw [h2 i (List.mem_range.1 hi)]
  rw [e1, e2]

theorem arrs_more {xs m : List (List Int)} {n i : Nat} (h : n ≤ xs.length) (hi : i < n) : (xs ++ m).getD i [] = xs.getD i [] := by
  rw [List.getD_eq_getElem?_getD, List.getD_eq_getElem?_getD, List.getElem?_append_left (by omega)]

theorem arrs_nil {xs : List (List Int)} {k i : Nat} : (xs ++ List.replicate k []).getD i [] = xs.getD i [] := by
  rw [List.getD_eq_getElem?_getD, List.getD_eq_getElem?_getD]
  by_cases h : i < xs.length
  · rw [List.getElem?_append_left h]
  · rw [List.getElem?_append_right (by omega), List.getElem?_replicate, List.getElem?_eq_none (by omega)]
    split <;> rfl

theorem Runs.same {f : FuncM} {I J : InM} {F : Nat} {s : StM} {en : EndM} (he : startS f J = startS f I) (h : Runs f J F s en) : Runs f I F s en := by
  rcases h with ⟨hs, h⟩ | h
  · refine .inl ⟨hs, ?_⟩
    unfold EndIs startM at h ⊢
    rw [he] at h
    exact h
  · exact .inr h

theorem Runs.one {f : FuncM} {I : InM} {F : Nat} {s t : StM} {en em : EndM} (h : Runs f I F s en) (k : Runs f I F t em) : s = t ∧ en = em := by
  rcases h with ⟨hs, h⟩ | ⟨hn, rfl, rfl⟩
  · rcases k with ⟨_, k⟩ | ⟨kn, _⟩
    · exact end_one h k
    · exact absurd hs kn
  · rcases k with ⟨ks, _⟩ | ⟨_, rfl, rfl⟩
    · exact absurd ks hn
    · exact ⟨rfl, rfl⟩

/-- values that are lists of numbers -/
def ListsV (w : World) (B : Nat) (us : List Value) (xs : List (List Int)) : Prop :=
  us.length = xs.length ∧ ∀ (k : Nat) (l : List Int), xs[k]? = some l → ∃ lv, us[k]? = some lv ∧ Ints w B lv l ∧ ∀ A n c, lv = .slice A n c → n ≤ c

theorem ListsV.keeps {w w' : World} {B : Nat} {us : List Value} {xs : List (List Int)} (h : ListsV w B us xs) (hk : Keeps B w w') : ListsV w' B us xs := by
  refine ⟨h.1, fun k l hl => ?_⟩
  obtain ⟨lv, h1, h2, h3⟩ := h.2 k l hl
  exact ⟨lv, h1, h2.keeps hk, h3⟩

theorem ListsV.push {w : World} {B : Nat} {us : List Value} {xs : List (List Int)} {lv : Value} {l : List Int} (h : ListsV w B us xs) (hi : Ints w B lv l) (hc : ∀ A n c, lv = .slice A n c → n ≤ c) : ListsV w B (us ++ [lv]) (xs ++ [l]) := by
  refine ⟨by rw [List.length_append, List.length_append, h.1]; rfl, fun k l' hl => ?_⟩
  by_cases hk : k < xs.length
  · rw [List.getElem?_append_left hk] at hl
    obtain ⟨lv', h1, h2, h3⟩ := h.2 k l' hl
    exact ⟨lv', by rw [List.getElem?_append_left (by rw [h.1]; exact hk)]; exact h1, h2, h3⟩
  · have hkl := (List.getElem?_eq_some_iff.1 hl).1
    rw [List.length_append, List.length_singleton] at hkl
    obtain rfl : k = xs.length := by omega
    rw [List.getElem?_append_right (Nat.le_refl _), Nat.sub_self] at hl
    obtain rfl : l = l' := by simpa using hl
    exact ⟨lv, by rw [← h.1, List.getElem?_append_right (Nat.le_refl _), Nat.sub_self]; rfl, hi, hc⟩

/-- what an array of lists holds -/
theorem arrs_vals {w : World} {B : Nat} {v : Value} {xs : List (List Int)} (h : ArrsR w B v xs) : ∃ us A c, v = .slice A xs.length c ∧ ListsV w B us xs ∧ (∀ (j : Nat) (u : Value), us[j]? = some u → ∃ b off, A = some ⟨b, off, none⟩ ∧ b < B ∧ w.cell? ⟨b, off + j, none⟩ = some u) ∧ ∀ u ∈ us, u.oneCell' = true := by
  obtain ⟨A, c, rfl, _, hat⟩ := h
  obtain ⟨us, hl, hus⟩ := list_choose (α := Value) (R := fun k lv => ∃ l b off, xs[k]? = some l ∧ A = some ⟨b, off, none⟩ ∧ b < B ∧ w.cell? ⟨b, off + k, none⟩ = some lv ∧ Ints w B lv l ∧ ∀ A2 n2 c2, lv = .slice A2 n2 c2 → n2 ≤ c2) xs.length (fun k hk => by
    obtain ⟨l, hl⟩ : ∃ l, xs[k]? = some l := ⟨_, List.getElem?_eq_getElem hk⟩
    obtain ⟨b, off, lv, h1, h2, h3, h4, h5⟩ := hat k l hl
    exact ⟨lv, l, b, off, hl, h1, h2, h3, h4, h5⟩)
  refine ⟨us, A, c, rfl, ⟨hl, fun k l hk => ?_⟩, fun j u hj => ?_, fun u hu => ?_⟩
  · have hkl := (List.getElem?_eq_some_iff.1 hk).1
    obtain ⟨lv, hlv⟩ : ∃ lv, us[k]? = some lv := ⟨_, List.getElem?_eq_getElem (by omega)⟩
    obtain ⟨l', b, off, h0, _, _, _, h4, h5⟩ := hus k lv hlv
    rw [hk] at h0
    injection h0 with h0
    subst h0
    exact ⟨lv, hlv, h4, h5⟩
  · obtain ⟨_, b, off, _, h1, h2, h3, _⟩ := hus j u hj
    exact ⟨b, off, h1, h2, h3⟩
  · obtain ⟨j, hj⟩ := List.getElem?_of_mem hu
    obtain ⟨_, _, _, _, _, _, _, ⟨A', c', e, _⟩, _⟩ := hus j u hj
    rw [e]
    rfl

/-- an owned row of lists is an array of lists -/
theorem ListsV.arrs {w : World} {base g n c B : Nat} {us : List Value} {xs : List (List Int)} (h : ListsV w B us xs) (hown : w.ownsRow base 22 1 (.slice (some ⟨g, 0, none⟩) n c) n us) (hB : B ≤ w.heap.size) (hn : n = xs.length) (hle : n ≤ 140737488351232) : ArrsR w w.heap.size (.slice (some ⟨g, 0, none⟩) n c) xs := by
  subst hn
  refine ⟨_, _, rfl, hle, fun k l hk => ?_⟩
  obtain ⟨lv, h1, h2, h3⟩ := h.2 k l hk
  have hkl := (List.getElem?_eq_some_iff.1 hk).1
  exact ⟨g, 0, lv, rfl, (hown.lt g rfl).2, by rw [Nat.zero_add, World.ownsRow.cellAt hown k (by omega)]; exact h1, h2.more hB, h3⟩

/-- lists behind lists -/
theorem app_vals {w : World} {base ty g0 n0 c0 m c : Nat} {A : Option Addr} {ys us : List Value} (hown : w.ownsRow base 22 1 (.slice (some ⟨g0, 0, none⟩) n0 c0) n0 ys) (hm : us.length = m) (hat : ∀ j u, us[j]? = some u → ∃ b off, A = some ⟨b, off, none⟩ ∧ w.cell? ⟨b, off + j, none⟩ = some u) (h1 : ∀ u ∈ us, u.oneCell' = true) (hle : n0 + m ≤ 4000000) (hbase : base ≤ w.heap.size) :
    AppPost w base 22 g0 (n0 + m) (ys ++ us) ((Builtin.append_ #[26, 26] ty #[.slice (some ⟨g0, 0, none⟩) n0 c0, .slice A m c]).run Tryz.prog w) := by
  obtain ⟨i0, hix, hz0, hz1, hz2⟩ := info_parts ints_info
  exact app_of Tryz.underlying26 hix hz0 hz1 hz2 rfl hown hm hat h1 hle (by decide) hbase (fun c h => append_noneL w g0 n0 c0 c ty h)
theorem ArrsR.moreB {w : World} {B B' : Nat} {v : Value} {xs : List (List Int)} (h : ArrsR w B v xs) (hB : B ≤ B') : ArrsR w B' v xs := by
  obtain ⟨A, c, e, hl, hat⟩ := h
  refine ⟨A, c, e, hl, fun k l hk => ?_⟩
  obtain ⟨b, off, lv, h1, h2, h3, h4, h5⟩ := hat k l hk
  exact ⟨b, off, lv, h1, by omega, h3, h4.more hB, h5⟩

theorem TraceR.moreB {w : World} {B B' : Nat} {v : Value} {s : StM} {en : EndM} (h : TraceR w B v s en) (hB : B ≤ B') : TraceR w B' v s en := by
  obtain ⟨ov, av, vv, e, h1, h2, h3⟩ := h
  exact ⟨ov, av, vv, e, h1.more hB, h2.moreB hB, h3.more hB⟩

end Go.Proofs.YtncmnbchkabgaaaGreat

namespace Go.Proofs.YtncmnbchkabgaaaGreat
open Go.RowKit Go.Maps

/-- an owned row alone -/
abbrev RowOne (d : RowD) : Rows := fun _ => some d

def lenAt (w : World) (a : Addr) : Nat := match w.cell? a with | some (.slice _ n _) => n | _ => 0

set_option maxRecDepth 100000 in
set_option maxHeartbeats 4000000 in
theorem spare_narrow (f : FuncM) (I : InM) (pv bv av rv mv : Value) (w : World) (hF : FnIn w f pv bv) (hI : InIn w I av rv) (hc : I.args.length < f.params.length ∨ (I.arrs.length : Int) < f.arrays) (hs1 : I.args.length ≤ 1048576) (hs2 : I.arrs.length ≤ 1048576) :
    Calls Tryz.prog 3 #[.agg #[pv, .int .i64 f.arrays, .int .i64 f.cells, bv], .agg #[av, rv], mv] w fun e w' => e = .returned (.bool true) ∧ Below w.heap.size w w' := by
  have HFI := hideI hF
  have HII := hideI hI
  obtain ⟨P, pc, hpv, hpl, _⟩ := hF.par
  obtain ⟨Aa, ca, hav, _, _⟩ := hI.args
  obtain ⟨Ra, cr, hrv, _, _⟩ := hI.arrs
  subst hpv hav hrv
  obtain ⟨np, hnp⟩ : ∃ n, n = f.params.length := ⟨_, rfl⟩
  obtain ⟨na, hna⟩ : ∃ n, n = I.args.length := ⟨_, rfl⟩
  obtain ⟨nr, hnr⟩ : ∃ n, n = I.arrs.length := ⟨_, rfl⟩
  have HN := hideI (And.intro hnp (And.intro hna hnr))
  obtain ⟨W2, hW2⟩ : ∃ W2, W2 = ((w.alloc (.cells #[.slice P np pc, .int .i64 f.arrays, .int .i64 f.cells, bv] 25)).alloc (.cells #[.slice Aa na ca, .slice Ra nr cr] 28)) := ⟨_, rfl⟩
  have hb2 : Below w.heap.size w W2 := by rw [hW2]; exact below_two w _ _
  have hs2' : W2.heap.size = w.heap.size + 2 := by rw [hW2]; simp
  have hf0 : W2.heap[w.heap.size]? = some (.cells #[.slice P np pc, .int .i64 f.arrays, .int .i64 f.cells, bv] 25 (0, 0)) := by
    rw [hW2, Below.heap_alloc _ _ _ (by simp)]
    exact heap_alloc_new w _
  have hf1 : W2.heap[w.heap.size + 1]? = some (.cells #[.slice Aa na ca, .slice Ra nr cr] 28 (0, 0)) := by
    rw [hW2]
    have := heap_alloc_new (w.alloc (.cells #[.slice P np pc, .int .i64 f.arrays, .int .i64 f.cells, bv] 25)) (.cells #[.slice Aa na ca, .slice Ra nr cr] 28)
    simpa using this
  have HC0 : Hid (∀ W, Below W2.heap.size W2 W → ∀ o, W.cell? ⟨w.heap.size, o, none⟩ = (#[.slice P np pc, .int .i64 f.arrays, .int .i64 f.cells, bv] : Array Value)[o]?) := hideI fun W hW => row_cells hf0 (hW.block _ (by omega))
  have HC1 : Hid (∀ W, Below W2.heap.size W2 W → ∀ o, W.cell? ⟨w.heap.size + 1, o, none⟩ = (#[.slice Aa na ca, .slice Ra nr cr] : Array Value)[o]?) := hideI fun W hW => row_cells hf1 (hW.block _ (by omega))
  have HIA : Hid (∀ W, Below W2.heap.size W2 W → Ints W w.heap.size (.slice Aa na ca) I.args ∧ ArrsR W w.heap.size (.slice Ra nr cr) I.arrs ∧ Ints W w.heap.size (.slice P np pc) f.params ∧ BlocksR W w.heap.size bv f.blocks ∧ Below w.heap.size w W) := hideI fun W hW => by
    have hb : Below w.heap.size w W := hb2.trans (hW.mono (by omega))
    rw [hna, hnr, hnp]
    exact ⟨hI.args.keeps (Keeps.of_below hb), hI.arrs.keeps (Keeps.of_below hb), hF.par.keeps (Keeps.of_below hb), hF.blk.keeps (Keeps.of_below hb), hb⟩
  have HID := hideI (uses_i64 hF.ok)
  have HW2 := hideI hW2
  have HB2 := hideI hb2
  have HS2 := hideI hs2'
  have hna5 : na ≤ 1048576 := by omega
  have hnr5 : nr ≤ 1048576 := by omega
  have hc' : na < np ∨ (nr : Int) < f.arrays := by rw [hnp, hna, hnr]; exact hc
  have HCD := hideI hc'
  have q0 : W2.cell? ⟨w.heap.size, 0, none⟩ = some (.slice P np pc) := HC0.out W2 (Below.refl _ _) 0
  have q1 : W2.cell? ⟨w.heap.size, 1, none⟩ = some (.int .i64 f.arrays) := HC0.out W2 (Below.refl _ _) 1
  have r0 : W2.cell? ⟨w.heap.size + 1, 0, none⟩ = some (.slice Aa na ca) := HC1.out W2 (Below.refl _ _) 0
  have r1 : W2.cell? ⟨w.heap.size + 1, 1, none⟩ = some (.slice Ra nr cr) := HC1.out W2 (Below.refl _ _) 1
  rw [← hnp, ← hna, ← hnr]
  clear hF hI hW2 hb2 hs2' hf0 hf1 hc hc' hnp hna hnr hs1 hs2 hpl
  go_enter Tryz.func3, Tryz.ntmps3
  go_upto_region 1 with fail
  rw [← HW2.out]
  go_cut [23] (fun c wx => c = .bool true ∧ wx = W2)
  case first =>
    by_cases h : na < np
    · go_wp2_with fail
      go_meet
      exact ⟨rfl, rfl⟩
    · have h2 : (nr : Int) < f.arrays := HCD.out.resolve_left h
      have h3 : np ≤ na := by omega
      go_wp2_with fail
      go_meet
      exact ⟨rfl, rfl⟩
  case rest =>
    obtain ⟨rfl, hwc⟩ := hcut
    obtain rfl := hwc.symm
    go_upto_region 3 with fail
    have hs3 := (OwnC.nothing W2 (fun _ => none) (fun _ => .slice none 0 0)).make #[.slice Aa na ca, .slice Ra nr cr] 28
    obtain ⟨W3, hW3⟩ : ∃ W3, W3 = W2.alloc (.cells #[.slice Aa na ca, .slice Ra nr cr] 28) := ⟨_, rfl⟩
    obtain ⟨gW, hgW⟩ : ∃ g, g = W2.heap.size := ⟨_, rfl⟩
    rw [← hW3, ← hgW] at hs3
    rw [← hW3, ← hgW]
    have HS3 := hideI hs3
    have HS4 := hideI (hs3.empty (t0 := .fr 0 0) (fun h => h))
    have hgW2 : gW < W3.heap.size := hs3.lt (List.mem_cons_self ..)
    have r0 := HC1.out (W3.alloc (.cells #[] 3)) HS4.out.below 0
    replace r0 : (W3.alloc (.cells #[] 3)).cell? ⟨w.heap.size + 1, 0, none⟩ = some (.slice Aa na ca) := r0
    have r0' : W3.cell? ⟨w.heap.size + 1, 0, none⟩ = some (.slice Aa na ca) := HC1.out W3 hs3.below 0
    have hown4 : (W3.alloc (.cells #[] 3)).ownsRow W2.heap.size 3 1 (.slice (some ⟨W3.heap.size, 0, none⟩) 0 0) 0 (([] : List Int).map (Value.int .i64)) := by
      have h := HS4.out.own.rows (.fr 0 0) (intsRow []) (.inr rfl) (upd_same _ _ _)
      rw [upd_same] at h
      exact h
    have hb3 : W2.heap.size ≤ (W3.alloc (.cells #[] 3)).heap.size := HS4.out.below.size
    have hia := (HIA.out _ HS4.out.below).1
    have hl0 : 0 + I.args.length ≤ 4000000 := by have := HN.out.2.1; omega
    clear hs3 hW3 hgW q0 q1 r1
    go_upto_region 4 with (first
      | (at_builtin; go_loud (refine wpList_app rfl _ _ 22 rfl (.slice (some ⟨W3.heap.size, 0, none⟩) 0 0) (.slice Aa na ca) rfl rfl (app_ints (ys := []) hown4 hia hl0 hb3) ?_; intro g1 cap1 w5 hown5 hgrow5 hor5 hlt5; rw [Nat.zero_add, ← HN.out.2.1] at hown5 ⊢; have hown5' : w5.ownsRow W2.heap.size 3 1 (.slice (some ⟨g1, 0, none⟩) na cap1) (I.args).length (I.args.map (Value.int .i64)) := (by rw [← HN.out.2.1]; exact hown5); have HS5 := hideI (OwnC.grow (t0 := .fr 0 0) (d := intsRow I.args) HS4.out (.inr rfl) hown5' (by rw [upd_same]; exact hgrow5) rfl (by rw [upd_same]; rcases hor5 with h | h; exact .inl (by rw [h]; rfl); exact .inr h)); have ho := HS5.out.box (List.mem_cons_self ..) 0; have o0 : w5.cell? ⟨gW, 0, none⟩ = some (.slice Aa na ca) := ho.1; have o0z := ho.2; clear ho hown5 hown5' hgrow5 hor5 hown4 hia r0 r0')))
    have hs6 := HS5.out.store (j := 0) (.slice (some ⟨g1, 0, none⟩) na cap1)
    simp only [List.setIfInBounds_toArray, List.set_cons_zero, List.set_cons_succ] at hs6
    obtain ⟨W6, hW6⟩ : ∃ W6, W6 = w5.setCell ⟨gW, 0, none⟩ (.slice (some ⟨g1, 0, none⟩) na cap1) := ⟨_, rfl⟩
    rw [← hW6] at hs6
    rw [← hW6]
    have HS6 : Hid (OwnC W2 W6 (fun _ => some (intsRow (I.args ++ List.replicate 0 0))) (fun _ => .slice (some ⟨g1, 0, none⟩) na cap1) (fun t => t = .fr 0 0) [(gW, #[.slice (some ⟨g1, 0, none⟩) na cap1, .slice Ra nr cr], 28)]) := by
      refine hideI (hs6.congr (fun t ht => ?_) (fun t ht => ?_) (fun t ht => .inr ht))
      · subst ht
        rw [upd_same]
        simp
      · subst ht
        rw [upd_same]
    clear hs6 hW6 HS5 HS4 HS3 o0 o0z hgW2 hb3 hl0
    go_loopw [] (fun wr => ∃ (k n g cap : Nat), n = na + k ∧ (0 < k → n ≤ np ∧ np ≤ 16) ∧ Hid (OwnC W2 wr (fun _ => some (intsRow (I.args ++ List.replicate k 0))) (fun _ => .slice (some ⟨g, 0, none⟩) n cap) (fun t => t = .fr 0 0) [(gW, #[.slice (some ⟨g, 0, none⟩) n cap, .slice Ra nr cr], 28)])) (fun wr => np - lenAt wr ⟨gW, 0, none⟩)
    case atStart => exact ⟨0, na, g1, cap1, rfl, fun h => absurd h (by omega), HS6⟩
    case round =>
      clear HS6
      obtain ⟨k, n, g, cap, hn, hk, HS7⟩ := hrel
      have HNK := hideI hn
      have o0 := (HS7.out.box (List.mem_cons_self ..) 0).1
      replace o0 : wr.cell? ⟨gW, 0, none⟩ = some (.slice (some ⟨g, 0, none⟩) n cap) := o0
      have o0z := (HS7.out.box (List.mem_cons_self ..) 0).2
      have q0 : wr.cell? ⟨w.heap.size, 0, none⟩ = some (.slice P np pc) := HC0.out wr HS7.out.below 0
      have hm : lenAt wr ⟨gW, 0, none⟩ = n := by unfold lenAt; rw [o0]
      have HM := hideI hm
      clear hn hm
      by_cases hcont : n < np ∧ np ≤ 16
      · obtain ⟨h1, h2⟩ := hcont
        have hown7 : (wr.alloc (.cells #[.int .i64 0] 3)).ownsRow W2.heap.size 3 1 (.slice (some ⟨g, 0, none⟩) n cap) n ((I.args ++ List.replicate k 0).map (Value.int .i64)) := by
          have h := HS7.out.own.rows (.fr 0 0) _ rfl rfl
          have h2 : wr.ownsRow W2.heap.size 3 1 (.slice (some ⟨g, 0, none⟩) n cap) (I.args ++ List.replicate k 0).length ((I.args ++ List.replicate k 0).map (Value.int .i64)) := h
          rw [List.length_append, List.length_replicate, ← HN.out.2.1, ← HNK.out] at h2
          exact h2.alloc _
        obtain ⟨i1, hjx, hy0, hy1, hy2⟩ := info_parts int_info
        have hwr : W2.heap.size ≤ wr.heap.size := HS7.out.below.size
        go_wp2_with (first
          | (at_builtin; go_loud (refine wpList_append_lies _ rfl _ _ _ rfl W2.heap.size 3 i1 (.int .i64 0) 1 8 Tryz.underlying22 hjx hy0 hy1 hy2 rfl (by decide) _ _ _ rfl hown7 ⟨wr.heap.size, 0, none⟩ 1 1 [.int .i64 0] rfl rfl (World.news_of_block (heap_alloc_new wr (.cells #[.int .i64 0] 3))) (by simp [Value.oneCell']) (by decide) (by simp only [maxLen]; omega) (by omega) (by simp; omega) _ rfl ?_; intro g2 cap2 w8 hown8 hgrow8 hor8 _; have hown8' : w8.ownsRow W2.heap.size 3 1 (.slice (some ⟨g2, 0, none⟩) (n + 1) cap2) (I.args ++ List.replicate (k + 1) 0).length ((I.args ++ List.replicate (k + 1) 0).map (Value.int .i64)) := (by rw [List.replicate_succ', ← List.append_assoc, List.length_append, List.map_append, List.length_append, List.length_replicate, ← HN.out.2.1, ← HNK.out]; exact hown8); have HS8 := hideI (OwnC.grow (t0 := .fr 0 0) (d := intsRow (I.args ++ List.replicate (k + 1) 0)) (HS7.out.grows ((Below.refl _ _).alloc (Nat.le_refl _) _)) rfl hown8' hgrow8 rfl hor8); have ho := HS8.out.box (List.mem_cons_self ..) 0; clear o0 o0z; have o0 : w8.cell? ⟨gW, 0, none⟩ = some (.slice (some ⟨g, 0, none⟩) n cap) := ho.1; have o0z := ho.2; clear ho hown8 hown8' hgrow8 hor8 hown7 q0)))
        have hs9 := HS8.out.store (j := 0) (.slice (some ⟨g2, 0, none⟩) (n + 1) cap2)
        simp only [List.setIfInBounds_toArray, List.set_cons_zero, List.set_cons_succ] at hs9
        have hs10 := hs9.congr (D' := fun t => t = .fr 0 0) (row' := fun _ => some (intsRow (I.args ++ List.replicate (k + 1) 0))) (val' := fun _ => .slice (some ⟨g2, 0, none⟩) (n + 1) cap2) (fun t ht => by subst ht; rw [upd_same]) (fun t ht => by subst ht; rw [upd_same]) (fun t ht => ht)
        have hl9 : lenAt (w8.setCell ⟨gW, 0, none⟩ (.slice (some ⟨g2, 0, none⟩) (n + 1) cap2)) ⟨gW, 0, none⟩ = n + 1 := by
          have h := (hs10.box (List.mem_cons_self ..) 0).1
          unfold lenAt
          rw [h]
          rfl
        exact ⟨⟨k + 1, n + 1, g2, cap2, by have := HNK.out; omega, fun _ => ⟨by omega, h2⟩, hideI hs10⟩, by rw [hl9, HM.out]; omega⟩
      · go_upto_region 4 with fail
        go_cut [42] (fun c wx => c = .bool false ∧ wx = wr)
        case first =>
          by_cases h1 : n < np
          · have h2 : 16 < np := by omega
            go_wp2_with fail
            go_meet
            exact ⟨by first | rfl | (congr 1; simp; omega), rfl⟩
          · have h2 : np ≤ n := by omega
            go_wp2_with fail
            go_meet
            exact ⟨rfl, rfl⟩
        case rest =>
          obtain ⟨rfl, hwc⟩ := hcut
          obtain rfl := hwc.symm
          clear q0 o0 o0z hcont
          go_upto_region 6 with fail
          have HS8 := hideI (OwnC.emptyT (t0 := .fr 0 1) 22 HS7.out (fun h => by cases h))
          obtain ⟨us, Rb, cb, hre, HLV0, hat, hone⟩ := arrs_vals (HIA.out W2 (Below.refl _ _)).2.1
          obtain ⟨e1, e2, e3⟩ : Ra = Rb ∧ nr = I.arrs.length ∧ cr = cb := by
            injection hre with a b c
            exact ⟨a, b, c⟩
          subst e1 e3
          have hown8 : (wr.alloc (.cells #[] 22)).ownsRow W2.heap.size 22 1 (.slice (some ⟨wr.heap.size, 0, none⟩) 0 0) 0 [] := by
            have h := HS8.out.own.rows (.fr 0 1) ⟨22, 1, 0, []⟩ (.inr rfl) (upd_same _ _ _)
            rw [upd_same] at h
            exact h
          have hat' : ∀ j u, us[j]? = some u → ∃ b off, Ra = some ⟨b, off, none⟩ ∧ (wr.alloc (.cells #[] 22)).cell? ⟨b, off + j, none⟩ = some u := fun j u hj => by
            obtain ⟨b, off, h1, h2, h3⟩ := hat j u hj
            exact ⟨b, off, h1, (HS8.out.below.cell (p := ⟨b, off + j, none⟩) (by have := HS2.out; show b < W2.heap.size; omega)).trans h3⟩
          have hul : us.length = nr := by rw [HLV0.1, e2]
          have hb8 : W2.heap.size ≤ (wr.alloc (.cells #[] 22)).heap.size := HS8.out.below.size
          have r1 : (wr.alloc (.cells #[] 22)).cell? ⟨w.heap.size + 1, 1, none⟩ = some (.slice Ra nr cr) := HC1.out _ HS8.out.below 1
          have r1' : wr.cell? ⟨w.heap.size + 1, 1, none⟩ = some (.slice Ra nr cr) := HC1.out _ HS7.out.below 1
          have hl0 : 0 + nr ≤ 4000000 := by omega
          have HLV := hideI HLV0
          have HUL := hideI hul
          have HAT := hideI hat'
          have HONE := hideI hone
          clear hre HLV0 hat hone hat' e2 hul
          go_upto_region 7 with (first
            | (at_builtin; go_loud (refine wpList_app rfl _ _ 26 rfl (.slice (some ⟨wr.heap.size, 0, none⟩) 0 0) (.slice Ra nr cr) rfl rfl (app_vals (ys := []) hown8 HUL.out HAT.out HONE.out hl0 hb8) ?_; intro g2 cap2 w9 hown9 hgrow9 hor9 hlt9; rw [Nat.zero_add, List.nil_append] at hown9; rw [Nat.zero_add]; have hown9' : w9.ownsRow W2.heap.size 22 1 (.slice (some ⟨g2, 0, none⟩) nr cap2) us.length us := (by rw [HUL.out]; exact hown9); have HS9 := hideI (OwnC.grow (t0 := .fr 0 1) (d := ⟨22, 1, us.length, us⟩) HS8.out (.inr rfl) hown9' (by rw [upd_same]; exact hgrow9) rfl (by rw [upd_same]; rcases hor9 with h | h; exact .inl (by rw [h]; rfl); exact .inr h)); have hbo := HS9.out.box (List.mem_cons_self ..) 1; have o1 : w9.cell? ⟨gW, 1, none⟩ = some (.slice Ra nr cr) := hbo.1; have o1z := hbo.2; clear hbo hown9 hown9' hgrow9 hor9 r1 r1' hown8)))
          have hs10 := HS9.out.store (j := 1) (.slice (some ⟨g2, 0, none⟩) nr cap2)
          simp only [List.setIfInBounds_toArray, List.set_cons_zero, List.set_cons_succ] at hs10
          obtain ⟨W10, hW10⟩ : ∃ W, W = w9.setCell ⟨gW, 1, none⟩ (.slice (some ⟨g2, 0, none⟩) nr cap2) := ⟨_, rfl⟩
          rw [← hW10] at hs10
          rw [← hW10]
          have HS10 : Hid (OwnC W2 W10 (fun t => if t = .fr 0 1 then some ⟨22, 1, us.length, us⟩ else some (intsRow (I.args ++ List.replicate k 0))) (fun t => if t = .fr 0 1 then .slice (some ⟨g2, 0, none⟩) nr cap2 else .slice (some ⟨g, 0, none⟩) n cap) (fun t => t = .fr 0 0 ∨ t = .fr 0 1) [(gW, #[.slice (some ⟨g, 0, none⟩) n cap, .slice (some ⟨g2, 0, none⟩) nr cap2], 28)]) := by
            refine hideI (hs10.congr (fun t ht => ?_) (fun t ht => ?_) (fun t ht => ht))
            · rcases ht with rfl | rfl
              · rw [if_neg (by simp), upd_ne _ _ (by simp), upd_ne _ _ (by simp)]
              · rw [if_pos rfl, upd_same]
            · rcases ht with rfl | rfl
              · rw [if_neg (by simp), upd_ne _ _ (by simp), upd_ne _ _ (by simp)]
              · rw [if_pos rfl, upd_same]
          have HL10 : Hid (ListsV W10 w.heap.size us (I.arrs ++ List.replicate 0 [])) := by
            rw [List.replicate_zero, List.append_nil]
            exact hideI (HLV.out.keeps (Keeps.of_below (hs10.below.mono (by have := HS2.out; omega))))
          clear hs10 hW10 HS9 HS8 o1 o1z hb8 hl0
          go_loopw [] (fun wr => ∃ (k2 n2 g2 cap2 : Nat) (us2 : List Value), n2 = nr + k2 ∧ (0 < k2 → (n2 : Int) ≤ f.arrays ∧ f.arrays ≤ 8) ∧ Hid (us2.length = n2) ∧ Hid (OwnC W2 wr (fun t => if t = .fr 0 1 then some ⟨22, 1, us2.length, us2⟩ else some (intsRow (I.args ++ List.replicate k 0))) (fun t => if t = .fr 0 1 then .slice (some ⟨g2, 0, none⟩) n2 cap2 else .slice (some ⟨g, 0, none⟩) n cap) (fun t => t = .fr 0 0 ∨ t = .fr 0 1) [(gW, #[.slice (some ⟨g, 0, none⟩) n cap, .slice (some ⟨g2, 0, none⟩) n2 cap2], 28)]) ∧ Hid (ListsV wr w.heap.size us2 (I.arrs ++ List.replicate k2 []))) (fun wr => f.arrays.toNat - lenAt wr ⟨gW, 1, none⟩)
          case atStart => exact ⟨0, nr, g2, cap2, us, rfl, fun h => absurd h (by omega), HUL, HS10, HL10⟩
          case round =>
            clear HS10 HL10 HUL HAT HONE HLV
            obtain ⟨k2, n2, g2, cap2, us2, hn2, hk2, HUL, HS10, HL10⟩ := hrel
            have HNK2 := hideI hn2
            have HK2 := hideI hk2
            have o1 : wr.cell? ⟨gW, 1, none⟩ = some (.slice (some ⟨g2, 0, none⟩) n2 cap2) := (HS10.out.box (List.mem_cons_self ..) 1).1
            have o1z := (HS10.out.box (List.mem_cons_self ..) 1).2
            have q1 : wr.cell? ⟨w.heap.size, 1, none⟩ = some (.int .i64 f.arrays) := HC0.out wr HS10.out.below 1
            have HM2 : Hid (lenAt wr ⟨gW, 1, none⟩ = n2) := hideI (by unfold lenAt; rw [o1])
            clear hn2 hk2
            by_cases hcont : (n2 : Int) < f.arrays ∧ f.arrays ≤ 8
            · obtain ⟨h1, h2⟩ := hcont
              have h3 : n2 < 8 := by omega
              have hown7 : (wr.alloc (.cells #[.slice none 0 0] 22)).ownsRow W2.heap.size 22 1 (.slice (some ⟨g2, 0, none⟩) n2 cap2) n2 us2 := by
                have h := HS10.out.own.rows (.fr 0 1) ⟨22, 1, us2.length, us2⟩ (.inr rfl) (if_pos rfl)
                rw [if_pos rfl] at h
                have h2 : wr.ownsRow W2.heap.size 22 1 (.slice (some ⟨g2, 0, none⟩) n2 cap2) us2.length us2 := h
                rw [HUL.out] at h2
                exact h2.alloc _
              obtain ⟨i1, hjx, hy0, hy1, hy2⟩ := info_parts ints_info
              have hwr : W2.heap.size ≤ wr.heap.size := HS10.out.below.size
              go_wp2_with (first
                | (at_builtin; go_loud (refine wpList_append_lies _ rfl _ _ _ rfl W2.heap.size 22 i1 (.slice none 0 0) 1 24 Tryz.underlying26 hjx hy0 hy1 hy2 rfl (by decide) _ _ _ rfl hown7 ⟨wr.heap.size, 0, none⟩ 1 1 [.slice none 0 0] rfl rfl (World.news_of_block (heap_alloc_new wr (.cells #[.slice none 0 0] 22))) (by simp [Value.oneCell']) (by decide) (by simp only [maxLen]; omega) (by omega) (by simp; omega) _ rfl ?_; intro g3 cap3 w8 hown8 hgrow8 hor8 _; have hown8' : w8.ownsRow W2.heap.size 22 1 (.slice (some ⟨g3, 0, none⟩) (n2 + 1) cap3) (us2 ++ [Value.slice none 0 0]).length (us2 ++ [Value.slice none 0 0]) := (by rw [List.length_append, HUL.out]; exact hown8); have HS8 := hideI (OwnC.grow (t0 := .fr 0 1) (d := ⟨22, 1, (us2 ++ [Value.slice none 0 0]).length, us2 ++ [Value.slice none 0 0]⟩) (HS10.out.grows ((Below.refl _ _).alloc (Nat.le_refl _) _)) (.inr rfl) hown8' (by rw [if_pos rfl]; exact hgrow8) rfl (by rw [if_pos rfl]; exact hor8)); have ho := HS8.out.box (List.mem_cons_self ..) 1; clear o1 o1z; have o1 : w8.cell? ⟨gW, 1, none⟩ = some (.slice (some ⟨g2, 0, none⟩) n2 cap2) := ho.1; have o1z := ho.2; clear ho hown8 hown8' hgrow8 hor8 hown7 q1)))
              have hs9 := HS8.out.store (j := 1) (.slice (some ⟨g3, 0, none⟩) (n2 + 1) cap3)
              simp only [List.setIfInBounds_toArray, List.set_cons_zero, List.set_cons_succ] at hs9
              have hs11 := hs9.congr (D' := fun t => t = .fr 0 0 ∨ t = .fr 0 1) (row' := fun t => if t = .fr 0 1 then some ⟨22, 1, (us2 ++ [Value.slice none 0 0]).length, us2 ++ [Value.slice none 0 0]⟩ else some (intsRow (I.args ++ List.replicate k 0))) (val' := fun t => if t = .fr 0 1 then .slice (some ⟨g3, 0, none⟩) (n2 + 1) cap3 else .slice (some ⟨g, 0, none⟩) n cap) (fun t ht => by
                rcases ht with rfl | rfl
                · rw [if_neg (by simp), upd_ne _ _ (by simp), if_neg (by simp)]
                · rw [if_pos rfl, upd_same]) (fun t ht => by
                rcases ht with rfl | rfl
                · rw [if_neg (by simp), upd_ne _ _ (by simp), if_neg (by simp)]
                · rw [if_pos rfl, upd_same]) (fun t ht => ht)
              have hl9 : lenAt (w8.setCell ⟨gW, 1, none⟩ (.slice (some ⟨g3, 0, none⟩) (n2 + 1) cap3)) ⟨gW, 1, none⟩ = n2 + 1 := by
                have h := (hs11.box (List.mem_cons_self ..) 1).1
                unfold lenAt
                rw [h]
                rfl
              have hkp : Keeps w.heap.size W2 (w8.setCell ⟨gW, 1, none⟩ (.slice (some ⟨g3, 0, none⟩) (n2 + 1) cap3)) := Keeps.of_below (hs11.below.mono (by have := HS2.out; omega))
              have hkp0 : Keeps w.heap.size W2 wr := Keeps.of_below (HS10.out.below.mono (by have := HS2.out; omega))
              have HL11 : Hid (ListsV (w8.setCell ⟨gW, 1, none⟩ (.slice (some ⟨g3, 0, none⟩) (n2 + 1) cap3)) w.heap.size (us2 ++ [Value.slice none 0 0]) (I.arrs ++ List.replicate (k2 + 1) [])) := by
                rw [List.replicate_succ', ← List.append_assoc]
                refine hideI (ListsV.push (HL10.out.keeps fun b o hb => (hkp b o hb).trans (hkp0 b o hb).symm) (Ints.nil _ _) (fun A n c e => ?_))
                injection e with _ e1 e2
                omega
              exact ⟨⟨k2 + 1, n2 + 1, g3, cap3, us2 ++ [.slice none 0 0], by have := HNK2.out; omega, fun _ => ⟨by omega, h2⟩, hideI (by rw [List.length_append, HUL.out]; rfl), hideI hs11, HL11⟩, by rw [hl9, HM2.out]; omega⟩
            · go_upto_region 7 with fail
              go_cut [63] (fun c wx => c = .bool false ∧ wx = wr)
              case first =>
                by_cases h1 : (n2 : Int) < f.arrays
                · have h2 : (8 : Int) < f.arrays := by omega
                  go_wp2_with fail
                  go_meet
                  exact ⟨by first | rfl | (congr 1; simp; omega), rfl⟩
                · have h2 : f.arrays ≤ (n2 : Int) := by omega
                  go_wp2_with fail
                  go_meet
                  exact ⟨by first | rfl | (congr 1; simp; omega), rfl⟩
              case rest =>
                obtain ⟨rfl, hwc⟩ := hcut
                obtain rfl := hwc.symm
                clear q1 o1 o1z hcont
                go_upto_region 9 with fail
                have hsta : startS f ⟨I.args ++ List.replicate k 0, I.arrs ++ List.replicate k2 []⟩ = startS f I := start_eq (fun i => arg_zero k _ i) (fun i _ => arrs_nil)
                have HSTA := hideI hsta
                have HSS : Hid (∀ W, Below wr.heap.size wr W → W.cell? ⟨w.heap.size, 0, none⟩ = some (.slice P np pc) ∧ W.cell? ⟨w.heap.size, 1, none⟩ = some (.int .i64 f.arrays) ∧ W.cell? ⟨w.heap.size, 2, none⟩ = some (.int .i64 f.cells) ∧ W.cell? ⟨w.heap.size, 3, none⟩ = some bv ∧ W.cell? ⟨w.heap.size + 1, 0, none⟩ = some (.slice Aa na ca) ∧ W.cell? ⟨w.heap.size + 1, 1, none⟩ = some (.slice Ra nr cr) ∧ W.cell? ⟨gW, 0, none⟩ = some (.slice (some ⟨g, 0, none⟩) n cap) ∧ W.cell? ⟨gW, 1, none⟩ = some (.slice (some ⟨g2, 0, none⟩) n2 cap2)) := hideI fun W hW => by
                  have h := HS10.out.grows hW
                  have hq := HC0.out W h.below
                  have hr := HC1.out W h.below
                  have hx := h.box (List.mem_cons_self ..)
                  exact ⟨hq 0, hq 1, hq 2, hq 3, hr 0, hr 1, (hx 0).1, (hx 1).1⟩
                have hia : Ints wr wr.heap.size (.slice (some ⟨g, 0, none⟩) n cap) (I.args ++ List.replicate k 0) := by
                  have h := HS10.out.own.rows (.fr 0 0) (intsRow (I.args ++ List.replicate k 0)) (.inl rfl) (if_neg (by simp))
                  rw [if_neg (by simp)] at h
                  exact own_ints h rfl (by show (I.args ++ List.replicate k 0).length ≤ _; rw [List.length_append, List.length_replicate, ← HN.out.2.1]; have := HNK.out; by_cases hk0 : 0 < k; have := (hk hk0).2; have := (hk hk0).1; omega; omega)
                have hra : ArrsR wr wr.heap.size (.slice (some ⟨g2, 0, none⟩) n2 cap2) (I.arrs ++ List.replicate k2 []) := by
                  have h := HS10.out.own.rows (.fr 0 1) ⟨22, 1, us2.length, us2⟩ (.inr rfl) (if_pos rfl)
                  rw [if_pos rfl] at h
                  have h2 : wr.ownsRow W2.heap.size 22 1 (.slice (some ⟨g2, 0, none⟩) n2 cap2) us2.length us2 := h
                  rw [HUL.out] at h2
                  exact HL10.out.arrs h2 (by have := HS2.out; have := HS10.out.below.size; omega) (by rw [List.length_append, List.length_replicate, ← HN.out.2.2]; exact HNK2.out) (by have := HNK2.out; by_cases hk0 : 0 < k2; have := (HK2.out hk0).1; have := (HK2.out hk0).2; omega; omega)
                have HRI : Hid (∀ W, Below wr.heap.size wr W → Calls Tryz.prog 10 #[.agg #[.slice P np pc, .int .i64 f.arrays, .int .i64 f.cells, bv], .agg #[.slice Aa na ca, .slice Ra nr cr], .int .i64 500] W (RunT f I 500 W)) := hideI fun W hW => by
                  obtain ⟨h1, h2, h3, h4, h5⟩ := HIA.out W (HS10.out.grows hW).below
                  exact irun_laid f I w.heap.size _ _ _ _ 500 W h3 h4 h5.size HID.out h1 h2
                have HRJ : Hid (∀ W, Below wr.heap.size wr W → Calls Tryz.prog 10 #[.agg #[.slice P np pc, .int .i64 f.arrays, .int .i64 f.cells, bv], .agg #[.slice (some ⟨g, 0, none⟩) n cap, .slice (some ⟨g2, 0, none⟩) n2 cap2], .int .i64 500] W (RunT f ⟨I.args ++ List.replicate k 0, I.arrs ++ List.replicate k2 []⟩ 500 W)) := hideI fun W hW => by
                  obtain ⟨h1, h2, h3, h4, h5⟩ := HIA.out W (HS10.out.grows hW).below
                  have hle : w.heap.size ≤ wr.heap.size := by have := HS2.out; have := HS10.out.below.size; omega
                  exact irun_laid f ⟨I.args ++ List.replicate k 0, I.arrs ++ List.replicate k2 []⟩ wr.heap.size _ _ _ _ 500 W (h3.more hle) (h4.more' hle) hW.size HID.out (hia.keeps (Keeps.of_below hW)) (hra.keeps (Keeps.of_below hW))
                have HEND : Hid (Below w.heap.size w wr) := hideI (HIA.out wr HS10.out.below).2.2.2.2
                have hS0 := HSS.out wr (Below.refl _ _)
                clear hsta hia hra
                refine wp_region_late (by kernel_rfl) (fun W => W.cell? ⟨w.heap.size, 0, none⟩ = some (.slice P np pc) ∧ W.cell? ⟨w.heap.size, 1, none⟩ = some (.int .i64 f.arrays) ∧ W.cell? ⟨w.heap.size, 2, none⟩ = some (.int .i64 f.cells) ∧ W.cell? ⟨w.heap.size, 3, none⟩ = some bv ∧ W.cell? ⟨w.heap.size + 1, 0, none⟩ = some (.slice Aa na ca) ∧ W.cell? ⟨w.heap.size + 1, 1, none⟩ = some (.slice Ra nr cr) ∧ W.cell? ⟨gW, 0, none⟩ = some (.slice (some ⟨g, 0, none⟩) n cap) ∧ W.cell? ⟨gW, 1, none⟩ = some (.slice (some ⟨g2, 0, none⟩) n2 cap2)) [] ?_
                refine wpAnyT_ready (rs := [0]) (by kernel_rfl) (by simp) ?_
                refine AllReadyT.cons rfl (fun K hK => ?_) ?_
                · go_simp
                  refine (awake6_any _).mono ?_
                  rintro e w5 ⟨rfl, hb5⟩
                  have HB5 := hideI ((Below.refl wr.heap.size wr).drew.trans hb5)
                  clear hb5
                  refine hK.out _ _ (fun _ _ => HSS.out w5 HB5.out) ?_
                  have hS0 := HSS.out w5 HB5.out
                  clear hK K
                  try simp only [Act.put, List.setIfInBounds_toArray, List.set_cons_zero, List.set_cons_succ]
                  refine wpAnyT_quiet (i := 1) (v := ?_) rfl (by kernel_rfl) (by kernel_rfl) (by kernel_rfl) (fun _ _ _ h => h) (Or.inl ⟨by rfl, ?_⟩) ?_
                  rotate_left
                  · (intro w; go_simp; try with_reducible rfl)
                  try simp only [Act.put, List.setIfInBounds_toArray, List.set_cons_zero, List.set_cons_succ]
                  refine wpAnyT_take [] (i := 2) (v := ?_) rfl (by kernel_rfl) (by kernel_rfl) (by kernel_rfl) (by kernel_rfl) (by kernel_rfl) (by kernel_rfl) (fun _ _ _ h => h) hS0 (Or.inl ⟨by rfl, ?_⟩) ?_
                  rotate_left
                  · (intro w hSw; go_split_ands; go_simp; try with_reducible rfl)
                  try simp only [Act.put, List.setIfInBounds_toArray, List.set_cons_zero, List.set_cons_succ]
                  refine wpAnyT_take [] (i := 3) (v := ?_) rfl (by kernel_rfl) (by kernel_rfl) (by kernel_rfl) (by kernel_rfl) (by kernel_rfl) (by kernel_rfl) (fun _ _ _ h => h) hS0 (Or.inl ⟨by rfl, ?_⟩) ?_
                  rotate_left
                  · (intro w hSw; go_split_ands; go_simp; try with_reducible rfl)
                  try simp only [Act.put, List.setIfInBounds_toArray, List.set_cons_zero, List.set_cons_succ]
                  refine wpAnyT_take [] (i := 5) (v := ?_) rfl (by kernel_rfl) (by kernel_rfl) (by kernel_rfl) (by kernel_rfl) (by kernel_rfl) (by kernel_rfl) (fun _ _ _ h => h) hS0 (Or.inl ⟨by rfl, ?_⟩) ?_
                  rotate_left
                  · (intro w hSw; go_split_ands; go_simp; try with_reducible rfl)
                  try simp only [Act.put, List.setIfInBounds_toArray, List.set_cons_zero, List.set_cons_succ]
                  refine wpAnyT_take [] (i := 6) (v := ?_) rfl (by kernel_rfl) (by kernel_rfl) (by kernel_rfl) (by kernel_rfl) (by kernel_rfl) (by kernel_rfl) (fun _ _ _ h => h) hS0 (Or.inl ⟨by rfl, ?_⟩) ?_
                  rotate_left
                  · (intro w hSw; go_split_ands; go_simp; try with_reducible rfl)
                  try simp only [Act.put, List.setIfInBounds_toArray, List.set_cons_zero, List.set_cons_succ]
                  refine wpAnyT_ready (rs := [4]) (by kernel_rfl) (by simp) ?_
                  refine AllReadyT.cons rfl (fun K hK => ?_) ?_
                  · go_simp
                    refine (HRI.out _ HB5.out).mono ?_
                    rintro e w6 ⟨tv1, s1, en1, rfl, hr1, ht1, hb6⟩
                    have HT1 := hideI (hr1.reads ht1)
                    have HR1 := hideI hr1
                    have HB6 := hideI (HB5.out.trans (hb6.mono HB5.out.size))
                    clear hr1 ht1 hb6
                    refine hK.out _ _ (fun _ _ => HSS.out w6 HB6.out) ?_
                    clear hK K
                    try simp only [Act.put, List.setIfInBounds_toArray, List.set_cons_zero, List.set_cons_succ]
                    refine wpAnyT_ready (rs := [7]) (by kernel_rfl) (by simp) ?_
                    refine AllReadyT.cons rfl (fun K hK => ?_) ?_
                    · go_simp
                      refine (HRJ.out _ HB6.out).mono ?_
                      rintro e w7 ⟨tv2, s2, en2, rfl, hr2, ht2, hb7⟩
                      obtain ⟨rfl, rfl⟩ := HR1.out.one (hr2.same HSTA.out)
                      have HT2 := hideI (hr2.reads ht2)
                      have HT1' := hideI ((HT1.out.keeps (Keeps.of_below hb7)).moreB hb7.size)
                      have HB7 := hideI (HB6.out.trans (hb7.mono HB6.out.size))
                      clear hr2 ht2 hb7
                      refine hK.out _ _ (fun _ _ => HSS.out w7 HB7.out) ?_
                      clear hK K
                      try simp only [Act.put, List.setIfInBounds_toArray, List.set_cons_zero, List.set_cons_succ]
                      refine wpAnyT_ready (rs := [8]) (by kernel_rfl) (by simp) ?_
                      refine AllReadyT.cons rfl (fun K hK => ?_) ?_
                      · go_simp
                        refine (Go.Proofs.YtncmnbchkabgaaaGreat.same_yes w7 w7.heap.size _ _ s1 en1 HT1'.out HT2.out (Nat.le_refl _)).mono ?_
                        rintro e w8 ⟨rfl, hb8⟩
                        have HB8 := hideI (HB7.out.trans (hb8.mono HB7.out.size))
                        clear hb8
                        refine hK.out _ _ (fun _ _ => HSS.out w8 HB8.out) ?_
                        clear hK K
                        try simp only [Act.put, List.setIfInBounds_toArray, List.set_cons_zero, List.set_cons_succ]
                        refine wpAnyT_quiet (i := 9) (v := ?_) rfl (by kernel_rfl) (by kernel_rfl) (by kernel_rfl) (fun _ _ _ h => h) (Or.inl ⟨by rfl, ?_⟩) ?_
                        rotate_left
                        · (intro w; go_simp; try with_reducible rfl)
                        try simp only [Act.put, List.setIfInBounds_toArray, List.set_cons_zero, List.set_cons_succ]
                        refine wpAnyT_quiet (i := 10) (v := ?_) rfl (by kernel_rfl) (by kernel_rfl) (by kernel_rfl) (fun _ _ _ h => h) (Or.inl ⟨by rfl, ?_⟩) ?_
                        rotate_left
                        · (intro w; go_simp; try with_reducible rfl)
                        try simp only [Act.put, List.setIfInBounds_toArray, List.set_cons_zero, List.set_cons_succ]
                        refine wpAnyT_done (by kernel_rfl) ?_ _
                        clear hS0
                        go_wp2
                        first | go_ret | refine bodyPost_ret (results_tmp rfl _ _ _) (by rfl) ?_
                        exact ⟨rfl, HEND.out.trans (HB8.out.mono HEND.out.size)⟩
                      · exact AllReadyT.nil
                    · exact AllReadyT.nil
                  · exact AllReadyT.nil
                · exact AllReadyT.nil
end Go.Proofs.YtncmnbchkabgaaaGreat

namespace Go.Proofs.YtncmnbchkabgaaaGreat
open Go.RowKit

def updE (e : Nat → Value) (d : Option Nat) (v : Value) : Nat → Value := fun x => if d = some x then v else e x
def updB (L : Nat → Bool) (i : Nat) : Nat → Bool := fun x => if i = x then true else L x

/-- the temporaries ds hold what e says -/
def putEnv (a : Act) : List Nat → (Nat → Value) → Act
  | [], _ => a
  | d :: ds, e => putEnv (a.put (some d) (e d)) ds e

theorem put_twice (a : Act) (d : Nat) (v u : Value) : (a.put (some d) v).put (some d) u = a.put (some d) u := by
  simp [Act.put]

theorem put_swap (a : Act) {d c : Nat} (h : d ≠ c) (v u : Value) : (a.put (some d) v).put (some c) u = (a.put (some c) u).put (some d) v := by
  simp only [Act.put]
  rw [Array.setIfInBounds_comm _ _ h]

theorem putEnv_put : ∀ (ds : List Nat) (a : Act) (e : Nat → Value) (d : Nat) (v : Value), d ∉ ds → (putEnv a ds e).put (some d) v = putEnv (a.put (some d) v) ds e
  | [], _, _, _, _, _ => rfl
  | c :: ds, a, e, d, v, h => by
    show (putEnv (a.put (some c) (e c)) ds e).put (some d) v = putEnv ((a.put (some d) v).put (some c) (e c)) ds e
    rw [putEnv_put ds _ e d v (fun hm => h (List.mem_cons_of_mem _ hm)), put_swap a (fun e => h (by rw [e]; exact List.mem_cons_self ..))]

theorem putEnv_congr : ∀ (ds : List Nat) (a : Act) (e e' : Nat → Value), (∀ d ∈ ds, e d = e' d) → putEnv a ds e = putEnv a ds e'
  | [], _, _, _, _ => rfl
  | c :: ds, a, e, e', h => by
    show putEnv (a.put (some c) (e c)) ds e = putEnv (a.put (some c) (e' c)) ds e'
    rw [h c (List.mem_cons_self ..), putEnv_congr ds _ e e' fun d hd => h d (List.mem_cons_of_mem _ hd)]

theorem putEnv_upd : ∀ (ds : List Nat) (a : Act) (e : Nat → Value) (d : Nat) (v : Value), ds.Nodup → d ∈ ds → (putEnv a ds e).put (some d) v = putEnv a ds (updE e (some d) v)
  | c :: ds, a, e, d, v, hn, hm => by
    obtain ⟨hc, hn⟩ := List.nodup_cons.1 hn
    show (putEnv (a.put (some c) (e c)) ds e).put (some d) v = putEnv (a.put (some c) (updE e (some d) v c)) ds (updE e (some d) v)
    by_cases h : c = d
    · subst h
      rw [putEnv_put ds _ e c v hc, put_twice, show updE e (some c) v c = v by simp [updE]]
      refine putEnv_congr ds _ _ _ fun x hx => ?_
      have : c ≠ x := fun h => hc (by rw [h]; exact hx)
      simp [updE, this]
    · rw [show updE e (some d) v c = e c by simp [updE, Ne.symm h]]
      exact putEnv_upd ds _ e d v hn (by rcases List.mem_cons.1 hm with h' | h'; exact absurd h'.symm h; exact h')

theorem putEnv_size : ∀ (ds : List Nat) (a : Act) (e : Nat → Value), (putEnv a ds e).tmps.size = a.tmps.size
  | [], _, _ => rfl
  | c :: ds, a, e => by
    show (putEnv (a.put (some c) (e c)) ds e).tmps.size = _
    rw [putEnv_size ds]
    simp [Act.put]

theorem putEnv_out : ∀ (ds : List Nat) (a : Act) (e : Nat → Value) (d : Nat), d ∉ ds → (putEnv a ds e).eval (.tmp d) = a.eval (.tmp d)
  | [], _, _, _, _ => rfl
  | c :: ds, a, e, d, h => by
    show (putEnv (a.put (some c) (e c)) ds e).eval (.tmp d) = _
    rw [putEnv_out ds _ e d fun hm => h (List.mem_cons_of_mem _ hm)]
    have : c ≠ d := fun e => h (by rw [e]; exact List.mem_cons_self ..)
    simp [Act.put, Act.eval, Array.getD_eq_getD_getElem?, this]

theorem putEnv_in : ∀ (ds : List Nat) (a : Act) (e : Nat → Value) (d : Nat), ds.Nodup → d ∈ ds → d < a.tmps.size → (putEnv a ds e).eval (.tmp d) = e d
  | c :: ds, a, e, d, hn, hm, hs => by
    obtain ⟨hc, hn⟩ := List.nodup_cons.1 hn
    show (putEnv (a.put (some c) (e c)) ds e).eval (.tmp d) = _
    by_cases h : c = d
    · subst h
      rw [putEnv_out ds _ e c hc]
      simp [Act.put, Act.eval, Array.getD_eq_getD_getElem?, hs]
    · exact putEnv_in ds _ e d hn (by rcases List.mem_cons.1 hm with h' | h'; exact absurd h'.symm h; exact h') (by simp [Act.put]; exact hs)

theorem putEnv_self : ∀ (ds : List Nat) (a : Act), putEnv a ds (fun d => a.eval (.tmp d)) = a
  | [], _ => rfl
  | c :: ds, a => by
    show putEnv (a.put (some c) (a.eval (.tmp c))) ds _ = a
    have h : a.put (some c) (a.eval (.tmp c)) = a := by
      obtain ⟨t, l⟩ := a
      simp only [Act.put, Act.eval, Act.mk.injEq, and_true]
      apply Array.ext_getElem?
      intro i
      rw [Array.getElem?_setIfInBounds]
      split
      · rename_i h
        subst h
        split
        · rename_i h
          simp [h]
        · rename_i h
          rw [Array.getElem?_eq_none (by omega)]
      · rfl
    rw [h]
    exact putEnv_self ds a

section
variable {P : Program} {ops : Array Oper} {Q : Exit → Act → World → Prop} {a0 : Act} {ds : List Nat} {F : (Nat → Bool) → (Nat → Value) → World → Prop}

/-- one operation keeps F, whatever was done ahead of it -/
def StepOk (P : Program) (ops : Array Oper) (Q : Exit → Act → World → Prop) (a0 : Act) (ds : List Nat) (F : (Nat → Bool) → (Nat → Value) → World → Prop) (i : Nat) (o : Oper) : Prop :=
  ∀ (L : Nat → Bool) (e : Nat → Value) (w : World) (a : Act), L i = false → (∀ x ∈ o.after.toList, Region.binds .any x = true → L x.on = true) → F L e w →
    (∀ d ∈ ds, a.eval (.tmp d) = e d) → (∀ d, d ∉ ds → a.eval (.tmp d) = a0.eval (.tmp d)) →
    ∀ K : Act → World → Prop, (∀ v w', F (updB L i) (updE e o.dst v) w' → K (a.put o.dst v) w') → if Region.wanted o (yielded ops a.tmps) = true then Oper.wp P o a w K Q else K (a.put o.dst undef) w

def StepsOk (P : Program) (ops : Array Oper) (Q : Exit → Act → World → Prop) (a0 : Act) (ds : List Nat) (F : (Nat → Bool) → (Nat → Value) → World → Prop) : Nat → List Oper → Prop
  | _, [] => True
  | i, o :: r => StepOk P ops Q a0 ds F i o ∧ StepsOk P ops Q a0 ds F (i + 1) r

theorem steps_at {l : List Oper} : ∀ {k : Nat}, StepsOk P ops Q a0 ds F k l → ∀ {i : Nat} {o : Oper}, l[i]? = some o → StepOk P ops Q a0 ds F (k + i) o := by
  induction l with
  | nil => intro k _ i o ho; cases ho
  | cons p l ih =>
    intro k h i o ho
    obtain ⟨h1, h2⟩ := (id h : StepOk P ops Q a0 ds F k p ∧ StepsOk P ops Q a0 ds F (k + 1) l)
    cases i with
    | zero =>
      rw [List.getElem?_cons_zero] at ho
      rw [Option.some.inj ho] at h1
      exact h1
    | succ i =>
      rw [List.getElem?_cons_succ] at ho
      have := ih h2 ho
      rw [show k + (i + 1) = k + 1 + i by omega]
      exact this

def EnvJ (ops : Array Oper) (a0 : Act) (ds : List Nat) (F : (Nat → Bool) → (Nat → Value) → World → Prop) (listed : Array Bool) (a : Act) (w : World) : Prop :=
  listed.size = ops.size ∧ ∃ e, a = putEnv a0 ds e ∧ F (fun i => listed.getD i true) e w

/-- every operation writes nowhere, or where ds says -/
def dstsB (ops : Array Oper) (ds : List Nat) (n : Nat) : Bool := ops.all fun o => match o.dst with | some d => ds.contains d && decide (d < n) | none => true

theorem count_set {listed : Array Bool} {i : Nat} (hl : i < listed.size) (h0 : listed.getD i true = false) : ∀ l : List Nat, (l.filter fun j => !(listed.setIfInBounds i true).getD j true).length ≤ (l.filter fun j => !listed.getD j true).length ∧ (i ∈ l → (l.filter fun j => !(listed.setIfInBounds i true).getD j true).length < (l.filter fun j => !listed.getD j true).length)
  | [] => ⟨Nat.le_refl _, fun h => by cases h⟩
  | j :: l => by
    obtain ⟨h1, h2⟩ := count_set hl h0 l
    by_cases hij : i = j
    · subst hij
      have e1 : (!(listed.setIfInBounds i true).getD i true) = false := by simp [hl]
      have e2 : (!listed.getD i true) = true := by rw [h0]; rfl
      rw [List.filter_cons, List.filter_cons, e1, e2]
      simp only [Bool.false_eq_true, if_false, if_true, List.length_cons]
      exact ⟨by omega, fun _ => by omega⟩
    · rw [List.filter_cons, List.filter_cons, getD_set_ne true hij]
      have hm : i ∈ j :: l → i ∈ l := fun h => by rcases List.mem_cons.1 h with h | h; exact absurd h hij; exact h
      cases hv : listed.getD j true with
      | true =>
        simp only [Bool.not_true, Bool.false_eq_true, if_false]
        exact ⟨h1, fun h => h2 (hm h)⟩
      | false =>
        simp only [Bool.not_false, if_true, List.length_cons]
        exact ⟨by omega, fun h => by have := h2 (hm h); omega⟩

theorem env_step (hn : ds.Nodup) (hd : dstsB ops ds a0.tmps.size = true) (hds : ds.all (fun d => decide (d < a0.tmps.size)) = true) (hF : ∀ L L' e w, (∀ i, L i = L' i) → F L e w → F L' e w) (hs : StepsOk P ops Q a0 ds F 0 ops.toList)
    {listed : Array Bool} {a : Act} {w : World} (h : EnvJ ops a0 ds F listed a w) {i : Nat} (hi : i ∈ Region.ready .any ops listed) (K' : Act → World → Prop) (hK' : ∀ a' w', EnvJ ops a0 ds F (listed.setIfInBounds i true) a' w' → K' a' w') : wpOp P ops Q i K' a w := by
  obtain ⟨h1, e, rfl, hf⟩ := h
  obtain ⟨h0, o, ho, hafter⟩ := mem_ready.1 hi
  have hlt := (Array.getElem?_eq_some_iff.1 ho).1
  have hst := steps_at hs (i := i) (o := o) (by rw [Array.getElem?_toList]; exact ho)
  rw [Nat.zero_add] at hst
  have hdo : ∀ d, o.dst = some d → d ∈ ds := fun d hdd => by
    unfold dstsB at hd
    rw [Array.all_eq_true_iff_forall_mem] at hd
    have := hd o (Array.mem_of_getElem? ho)
    rw [hdd] at this
    have h2 : d ∈ ds ∧ d < a0.tmps.size := by simpa using this
    exact h2.1
  refine wpOp_step ho fun K hK => ?_
  refine hst (fun i => listed.getD i true) e w (putEnv a0 ds e) h0 (fun x hx hb => ?_) hf (fun d hdd => ?_) (fun d hdd => putEnv_out ds a0 e d hdd) K (fun v w' hf' => ?_)
  · have h2 := hafter x (by simpa using hx) hb
    rcases Nat.lt_or_ge x.on listed.size with h' | h'
    · simp [h'] at h2 ⊢; exact h2
    · simp [Array.getElem?_eq_none h'] at h2
  · rw [List.all_eq_true] at hds
    exact putEnv_in ds a0 e d hn hdd (by simpa using hds d hdd)
  · refine hK _ _ (hK' _ _ ⟨by simpa using h1, updE e o.dst v, ?_, hF _ _ _ _ (fun j => ?_) hf'⟩)
    · cases hdst : o.dst with
      | none => exact putEnv_congr ds a0 _ _ fun d _ => by simp [updE]
      | some d => exact putEnv_upd ds a0 e d v hn (hdo d hdst)
    · unfold updB
      by_cases hij : i = j
      · subst hij
        simp [h1, hlt]
      · rw [if_neg hij, getD_set_ne true hij]

theorem wpAny_env (hn : ds.Nodup) (hd : dstsB ops ds a0.tmps.size = true) (hds : ds.all (fun d => decide (d < a0.tmps.size)) = true) (hF : ∀ L L' e w, (∀ i, L i = L' i) → F L e w → F L' e w) (hs : StepsOk P ops Q a0 ds F 0 ops.toList)
    (hend : ∀ e w, F (fun _ => true) e w → Q .normal (putEnv a0 ds e) w) (hall : ∀ l : Array Bool, l.size = ops.size → Region.ready .any ops l = [] → ∀ i, l.getD i true = true) (fuel : Nat) :
    ∀ (listed : Array Bool) (a : Act) (w : World), EnvJ ops a0 ds F listed a w → ((List.range ops.size).filter fun i => !listed.getD i true).length ≤ fuel → wpAny P .any ops Q fuel listed a w := by
  have hfin : ∀ (listed : Array Bool) (a : Act) (w : World), EnvJ ops a0 ds F listed a w → Region.ready .any ops listed = [] → Q .normal a w := fun listed a w ⟨h1, e, h2, hf⟩ hr => by
    rw [h2]
    exact hend e w (hF _ _ e w (fun i => hall listed h1 hr i) hf)
  induction fuel with
  | zero =>
    intro listed a w h hlen
    have hr : Region.ready .any ops listed = [] := by
      cases hr : Region.ready .any ops listed with
      | nil => rfl
      | cons j r =>
        obtain ⟨h0, o, ho, _⟩ := mem_ready.1 (by rw [hr]; exact List.mem_cons_self .. : j ∈ Region.ready .any ops listed)
        have hm : j ∈ (List.range ops.size).filter fun i => !listed.getD i true := List.mem_filter.2 ⟨List.mem_range.2 (Array.getElem?_eq_some_iff.1 ho).1, by rw [h0]; rfl⟩
        have := List.length_pos_of_mem hm
        omega
    exact ⟨hr, hfin listed a w h hr⟩
  | succ fuel ih =>
    intro listed a w h hlen
    refine ⟨fun hr => hfin listed a w h hr, fun i hi => ?_⟩
    refine env_step hn hd hds hF hs h hi _ fun a' w' h' => ih _ _ _ h' ?_
    obtain ⟨h0, o, ho, _⟩ := mem_ready.1 hi
    have hlt := (Array.getElem?_eq_some_iff.1 ho).1
    have := (count_set (listed := listed) (by rw [h.1]; exact hlt) h0 (List.range ops.size)).2 (List.mem_range.2 hlt)
    omega

/-- each operation waits only for those ahead of it in the text -/
def fwdB (ops : Array Oper) : Bool := (List.range ops.size).all fun i => match ops[i]? with | some o => o.after.all fun x => !Region.binds .any x || decide (x.on < i) | none => true

theorem fwd_all (h : fwdB ops = true) (l : Array Bool) (hl : l.size = ops.size) (hr : Region.ready .any ops l = []) : ∀ i, l.getD i true = true := by
  intro i
  induction i using Nat.strongRecOn with
  | _ i ih =>
    rcases Nat.lt_or_ge i ops.size with hlt | hge
    · cases hv : l.getD i true with
      | true => rfl
      | false =>
        exfalso
        have ho : ops[i]? = some ops[i] := Array.getElem?_eq_getElem hlt
        have : i ∈ Region.ready .any ops l := mem_ready.2 ⟨hv, ops[i], ho, fun x hx hb => by
          unfold fwdB at h
          rw [List.all_eq_true] at h
          have h2 := h i (List.mem_range.2 hlt)
          rw [ho] at h2
          simp only [Array.all_eq_true_iff_forall_mem] at h2
          have h3 := h2 x hx
          rw [hb] at h3
          have h4 : x.on < i := by simpa using h3
          have h5 := ih x.on h4
          have h6 : x.on < l.size := by omega
          simp [h6] at h5 ⊢
          exact h5⟩
        rw [hr] at this
        cases this
    · simp [Array.getElem?_eq_none (by omega : l.size ≤ i)]

/-- the law: F holds at the beginning, every operation keeps it, and the end follows from it -/
theorem wp_region_env {id : Nat} {w : World} (hm : P.follows .mixedOrders = true) (ds : List Nat) (F : (Nat → Bool) → (Nat → Value) → World → Prop) (n : Nat) (hsz : a0.tmps.size = n) (hn : ds.Nodup) (hd : dstsB ops ds n = true) (hds : ds.all (fun d => decide (d < n)) = true) (hfw : fwdB ops = true)
    (h0 : ∀ e, F (fun _ => false) e w.drew) (hF : ∀ L L' e w, (∀ i, i < ops.size → L i = L' i) → F L e w → F L' e w) (hs : StepsOk P ops Q a0 ds F 0 ops.toList) (hend : ∀ e w, F (fun _ => true) e w → Q .normal (putEnv a0 ds e) w) :
    (Code.region id ops true).wp P Q a0 w := by
  subst hsz
  refine wp_region_any hm (wpAny_env (F := F) hn hd hds (fun L L' e w h => hF L L' e w fun i _ => h i) hs hend (fwd_all hfw) ops.size _ a0 _ ⟨by simp, _, (putEnv_self ds a0).symm, hF _ _ _ _ (fun i hi => ?_) (h0 _)⟩ ?_)
  · simp [hi]
  · exact Nat.le_trans (List.length_filter_le _ _) (by simp)
end
end Go.Proofs.YtncmnbchkabgaaaGreat
