/- What is owned whole can be read; where a right function is small; fresh.Func of a function that is read. -/
import Derived.Test.YtclbhbnidodmdaaTags
import Derived.Test.YtclbhbnidodmdaaFFunc
import Derived.Test.YtclbhbnidodmdaaUsed
import Derived.Test.YtclbhbnidodmdaaGOrder
namespace Go.Proofs.Ytclbhbnidodmdaa
open Go.RowKit

def cellAt (w : World) (v : Value) (j : Nat) : Value := match v with
  | .slice (some a) _ _ => (w.cell? ⟨a.block, a.off + j, none⟩).getD (.slice none 0 0)
  | _ => .slice none 0 0

/-- what each list's value is, as it lies in memory -/
def readVals (w : World) (pv bv : Value) : Vals
  | .params => pv
  | .blocks => bv
  | .phis k => cellAt w bv (k * 6)
  | .code k => cellAt w bv (k * 6 + 1)
  | .ends k => cellAt w bv (k * 6 + 4)
  | .fr k i => cellAt w (cellAt w bv (k * 6)) (i * 4 + 2)
  | .vals k i => cellAt w (cellAt w bv (k * 6)) (i * 4 + 3)
  | .args k i => cellAt w (cellAt w bv (k * 6 + 1)) (i * 4 + 2)

section
variable {w : World} {B : Nat} {pv bv : Value} {f : FuncM}

theorem cellAt_of {b off n c j : Nat} {u : Value} (h : w.cell? ⟨b, off + j, none⟩ = some u) : cellAt w (.slice (some ⟨b, off, none⟩) n c) j = u := by
  unfold cellAt
  simp only [h, Option.getD_some]

/-- what a list of blocks says at k -/
theorem read_block (hb : BlocksR w B bv f.blocks) {k : Nat} {q : BlockM} (hq : f.blocks[k]? = some q) :
    ∃ b off n c, bv = .slice (some ⟨b, off, none⟩) n c ∧ b < B ∧ w.cell? ⟨b, off + k * 6, none⟩ = some (readVals w pv bv (.phis k)) ∧ w.cell? ⟨b, off + k * 6 + 1, none⟩ = some (readVals w pv bv (.code k)) ∧ w.cell? ⟨b, off + k * 6 + 2, none⟩ = some (.int .i64 q.term.op) ∧ w.cell? ⟨b, off + k * 6 + 3, none⟩ = some (.int .i64 q.term.val) ∧
      w.cell? ⟨b, off + k * 6 + 4, none⟩ = some (readVals w pv bv (.ends k)) ∧ w.cell? ⟨b, off + k * 6 + 5, none⟩ = some (.int .i64 q.term.n) ∧
      PhisR w B (readVals w pv bv (.phis k)) q.phis ∧ CodeR w B (readVals w pv bv (.code k)) q.code ∧ Ints w B (readVals w pv bv (.ends k)) q.term.to := by
  obtain ⟨A, c, rfl, hm, hx⟩ := hb
  obtain ⟨b, off, p, cv, tv, rfl, hbB, e0, e1, e2, e3, e4, e5, hp, hc, ht, _⟩ := hx k q hq
  have h0 : readVals w pv (.slice (some ⟨b, off, none⟩) f.blocks.length c) (.phis k) = p := by show cellAt w (.slice (some ⟨b, off, none⟩) f.blocks.length c) (k * 6) = p; exact cellAt_of e0
  have h1 : readVals w pv (.slice (some ⟨b, off, none⟩) f.blocks.length c) (.code k) = cv := by show cellAt w (.slice (some ⟨b, off, none⟩) f.blocks.length c) (k * 6 + 1) = cv; exact cellAt_of (by rw [← Nat.add_assoc]; exact e1)
  have h4 : readVals w pv (.slice (some ⟨b, off, none⟩) f.blocks.length c) (.ends k) = tv := by show cellAt w (.slice (some ⟨b, off, none⟩) f.blocks.length c) (k * 6 + 4) = tv; exact cellAt_of (by rw [← Nat.add_assoc]; exact e4)
  rw [h0, h1, h4]
  exact ⟨b, off, _, _, rfl, hbB, e0, e1, e2, e3, e4, e5, hp, hc, ht⟩

theorem read_phi {v : Value} {ps : List PhiM} (hp : PhisR w B v ps) {i : Nat} {p : PhiM} (hi : ps[i]? = some p) :
    ∃ b off n c, v = .slice (some ⟨b, off, none⟩) n c ∧ b < B ∧ w.cell? ⟨b, off + i * 4, none⟩ = some (.int .i64 p.id) ∧ w.cell? ⟨b, off + i * 4 + 1, none⟩ = some (.int .i64 p.typ) ∧ w.cell? ⟨b, off + i * 4 + 2, none⟩ = some (cellAt w v (i * 4 + 2)) ∧ w.cell? ⟨b, off + i * 4 + 3, none⟩ = some (cellAt w v (i * 4 + 3)) ∧
      Ints w B (cellAt w v (i * 4 + 2)) p.fr ∧ Ints w B (cellAt w v (i * 4 + 3)) p.vals := by
  obtain ⟨A, c, rfl, hm, hx⟩ := hp
  obtain ⟨b, off, fv, vv, rfl, hbB, e0, e1, e2, e3, hf, hv, _⟩ := hx i p hi
  have h2 : cellAt w (.slice (some ⟨b, off, none⟩) ps.length c) (i * 4 + 2) = fv := cellAt_of (by rw [← Nat.add_assoc]; exact e2)
  have h3 : cellAt w (.slice (some ⟨b, off, none⟩) ps.length c) (i * 4 + 3) = vv := cellAt_of (by rw [← Nat.add_assoc]; exact e3)
  rw [h2, h3]
  exact ⟨b, off, _, _, rfl, hbB, e0, e1, e2, e3, hf, hv⟩

theorem read_instr {v : Value} {ps : List InstrM} (hp : CodeR w B v ps) {i : Nat} {p : InstrM} (hi : ps[i]? = some p) :
    ∃ b off n c, v = .slice (some ⟨b, off, none⟩) n c ∧ b < B ∧ w.cell? ⟨b, off + i * 4, none⟩ = some (.int .i64 p.op) ∧ w.cell? ⟨b, off + i * 4 + 1, none⟩ = some (.int .i64 p.id) ∧ w.cell? ⟨b, off + i * 4 + 2, none⟩ = some (cellAt w v (i * 4 + 2)) ∧ w.cell? ⟨b, off + i * 4 + 3, none⟩ = some (.int .i64 p.n) ∧
      Ints w B (cellAt w v (i * 4 + 2)) p.args := by
  obtain ⟨A, c, rfl, hm, hx⟩ := hp
  obtain ⟨b, off, fv, rfl, hbB, e0, e1, e2, e3, hf, _⟩ := hx i p hi
  have h2 : cellAt w (.slice (some ⟨b, off, none⟩) ps.length c) (i * 4 + 2) = fv := cellAt_of (by rw [← Nat.add_assoc]; exact e2)
  rw [h2]
  exact ⟨b, off, _, _, rfl, hbB, e0, e1, e2, e3, hf⟩

theorem read_all (hp : Ints w B pv f.params) (hb : BlocksR w B bv f.blocks) : RdF w B f (readVals w pv bv) := by
  intro t d hd
  cases t with
  | params =>
    cases hd
    exact hp.row
  | blocks =>
    cases hd
    obtain ⟨A, c, hv, hm, _⟩ := id hb
    refine ⟨A, c, hv, hm, fun j u hu => ?_⟩
    obtain ⟨k, r, q, rfl, hr, hq, hc⟩ := cellsOf_div (blockCells_len _) hu
    obtain ⟨b, off, n, c', hv', hbB, e0, e1, e2, e3, e4, e5, _⟩ := read_block (pv := pv) hb hq
    have hA : A = some ⟨b, off, none⟩ := by rw [hv] at hv'; cases hv'; rfl
    refine ⟨b, off, hA, hbB, ?_⟩
    obtain rfl | rfl | rfl | rfl | rfl | rfl : r = 0 ∨ r = 1 ∨ r = 2 ∨ r = 3 ∨ r = 4 ∨ r = 5 := by omega
    all_goals (cases hc; rw [← Nat.add_assoc]; assumption)
  | phis k =>
    cases hq : f.blocks[k]? with
    | none => simp only [rowOf, hq] at hd; cases hd
    | some q =>
      simp only [rowOf, hq, Option.map_some, Option.some.injEq] at hd
      subst hd
      obtain ⟨_, _, _, _, _, _, _, _, _, _, _, _, hph, _⟩ := read_block (pv := pv) hb hq
      obtain ⟨A, c, hv, hm, _⟩ := id hph
      refine ⟨A, c, hv, hm, fun j u hu => ?_⟩
      obtain ⟨i, r, p, rfl, hr, hp, hc⟩ := cellsOf_div (phiCells_len _ k) hu
      obtain ⟨b, off, n, c', hv', hbB, e0, e1, e2, e3, _⟩ := read_phi hph hp
      have hA : A = some ⟨b, off, none⟩ := by rw [hv] at hv'; cases hv'; rfl
      refine ⟨b, off, hA, hbB, ?_⟩
      obtain rfl | rfl | rfl | rfl : r = 0 ∨ r = 1 ∨ r = 2 ∨ r = 3 := by omega
      all_goals (cases hc; rw [← Nat.add_assoc]; assumption)
  | code k =>
    cases hq : f.blocks[k]? with
    | none => simp only [rowOf, hq] at hd; cases hd
    | some q =>
      simp only [rowOf, hq, Option.map_some, Option.some.injEq] at hd
      subst hd
      obtain ⟨_, _, _, _, _, _, _, _, _, _, _, _, _, hco, _⟩ := read_block (pv := pv) hb hq
      obtain ⟨A, c, hv, hm, _⟩ := id hco
      refine ⟨A, c, hv, hm, fun j u hu => ?_⟩
      obtain ⟨i, r, p, rfl, hr, hp, hc⟩ := cellsOf_div (instrCells_len _ k) hu
      obtain ⟨b, off, n, c', hv', hbB, e0, e1, e2, e3, _⟩ := read_instr hco hp
      have hA : A = some ⟨b, off, none⟩ := by rw [hv] at hv'; cases hv'; rfl
      refine ⟨b, off, hA, hbB, ?_⟩
      obtain rfl | rfl | rfl | rfl : r = 0 ∨ r = 1 ∨ r = 2 ∨ r = 3 := by omega
      all_goals (cases hc; rw [← Nat.add_assoc]; assumption)
  | ends k =>
    cases hq : f.blocks[k]? with
    | none => simp only [rowOf, hq] at hd; cases hd
    | some q =>
      simp only [rowOf, hq, Option.map_some, Option.some.injEq] at hd
      subst hd
      obtain ⟨_, _, _, _, _, _, _, _, _, _, _, _, _, _, ht⟩ := read_block (pv := pv) hb hq
      exact ht.row
  | fr k i =>
    cases hq : f.blocks[k]? with
    | none => simp only [rowOf, hq] at hd; cases hd
    | some q =>
      cases hp : q.phis[i]? with
      | none => simp only [rowOf, hq, Option.bind_some, hp] at hd; cases hd
      | some p =>
        simp only [rowOf, hq, Option.bind_some, hp, Option.map_some, Option.some.injEq] at hd
        subst hd
        obtain ⟨_, _, _, _, _, _, _, _, _, _, _, _, hph, _⟩ := read_block (pv := pv) hb hq
        obtain ⟨_, _, _, _, _, _, _, _, _, _, hf, _⟩ := read_phi hph hp
        exact hf.row
  | vals k i =>
    cases hq : f.blocks[k]? with
    | none => simp only [rowOf, hq] at hd; cases hd
    | some q =>
      cases hp : q.phis[i]? with
      | none => simp only [rowOf, hq, Option.bind_some, hp] at hd; cases hd
      | some p =>
        simp only [rowOf, hq, Option.bind_some, hp, Option.map_some, Option.some.injEq] at hd
        subst hd
        obtain ⟨_, _, _, _, _, _, _, _, _, _, _, _, hph, _⟩ := read_block (pv := pv) hb hq
        obtain ⟨_, _, _, _, _, _, _, _, _, _, _, hf⟩ := read_phi hph hp
        exact hf.row
  | args k i =>
    cases hq : f.blocks[k]? with
    | none => simp only [rowOf, hq] at hd; cases hd
    | some q =>
      cases hp : q.code[i]? with
      | none => simp only [rowOf, hq, Option.bind_some, hp] at hd; cases hd
      | some p =>
        simp only [rowOf, hq, Option.bind_some, hp, Option.map_some, Option.some.injEq] at hd
        subst hd
        obtain ⟨_, _, _, _, _, _, _, _, _, _, _, _, _, hco, _⟩ := read_block (pv := pv) hb hq
        obtain ⟨_, _, _, _, _, _, _, _, _, _, hf⟩ := read_instr hco hp
        exact hf.row
end

end Go.Proofs.Ytclbhbnidodmdaa

namespace Go.Proofs.Ytclbhbnidodmdaa
open Go.RowKit

structure SmallF (f : FuncM) : Prop where
  params : f.params.length ≤ 100000
  blocks : f.blocks.length ≤ 100000
  each : ∀ b ∈ f.blocks, Small b

theorem EE.all {f : FuncM} {val : Vals} {t : Tag} {d : RowD} (h : rowOf f val t = some d) : EE f f.blocks.length t := by
  cases t with
  | params => exact .inl rfl
  | blocks => exact .inr (.inl rfl)
  | phis k =>
    cases hq : f.blocks[k]? with
    | none => simp only [rowOf, hq] at h; cases h
    | some q => exact .inr (.inr ⟨k, q, (List.getElem?_eq_some_iff.1 hq).1, hq, .inl rfl⟩)
  | code k =>
    cases hq : f.blocks[k]? with
    | none => simp only [rowOf, hq] at h; cases h
    | some q => exact .inr (.inr ⟨k, q, (List.getElem?_eq_some_iff.1 hq).1, hq, .inr (.inl rfl)⟩)
  | ends k =>
    cases hq : f.blocks[k]? with
    | none => simp only [rowOf, hq] at h; cases h
    | some q => exact .inr (.inr ⟨k, q, (List.getElem?_eq_some_iff.1 hq).1, hq, .inr (.inr (.inl rfl))⟩)
  | fr k i =>
    cases hq : f.blocks[k]? with
    | none => simp only [rowOf, hq] at h; cases h
    | some q =>
      cases hp : q.phis[i]? with
      | none => simp only [rowOf, hq, Option.bind_some, hp] at h; cases h
      | some p => exact .inr (.inr ⟨k, q, (List.getElem?_eq_some_iff.1 hq).1, hq, .inr (.inr (.inr (.inl ⟨i, (List.getElem?_eq_some_iff.1 hp).1, .inl rfl⟩)))⟩)
  | vals k i =>
    cases hq : f.blocks[k]? with
    | none => simp only [rowOf, hq] at h; cases h
    | some q =>
      cases hp : q.phis[i]? with
      | none => simp only [rowOf, hq, Option.bind_some, hp] at h; cases h
      | some p => exact .inr (.inr ⟨k, q, (List.getElem?_eq_some_iff.1 hq).1, hq, .inr (.inr (.inr (.inl ⟨i, (List.getElem?_eq_some_iff.1 hp).1, .inr rfl⟩)))⟩)
  | args k i =>
    cases hq : f.blocks[k]? with
    | none => simp only [rowOf, hq] at h; cases h
    | some q =>
      cases hp : q.code[i]? with
      | none => simp only [rowOf, hq, Option.bind_some, hp] at h; cases h
      | some p => exact .inr (.inr ⟨k, q, (List.getElem?_eq_some_iff.1 hq).1, hq, .inr (.inr (.inr (.inr ⟨i, (List.getElem?_eq_some_iff.1 hp).1, rfl⟩)))⟩)

theorem SmallF.len {f : FuncM} {val : Vals} {t : Tag} {d : RowD} (hs : SmallF f) (h : rowOf f val t = some d) : d.len ≤ 100000 := by
  cases t with
  | params => cases h; exact hs.params
  | blocks => cases h; exact hs.blocks
  | phis k =>
    cases hq : f.blocks[k]? with
    | none => simp only [rowOf, hq] at h; cases h
    | some q => rw [row_phis hq] at h; cases h; exact (hs.each q (List.mem_of_getElem? hq)).phis
  | code k =>
    cases hq : f.blocks[k]? with
    | none => simp only [rowOf, hq] at h; cases h
    | some q => rw [row_code hq] at h; cases h; exact (hs.each q (List.mem_of_getElem? hq)).code
  | ends k =>
    cases hq : f.blocks[k]? with
    | none => simp only [rowOf, hq] at h; cases h
    | some q => rw [row_ends hq] at h; cases h; exact (hs.each q (List.mem_of_getElem? hq)).ends
  | fr k i =>
    cases hq : f.blocks[k]? with
    | none => simp only [rowOf, hq] at h; cases h
    | some q =>
      cases hp : q.phis[i]? with
      | none => simp only [rowOf, hq, Option.bind_some, hp] at h; cases h
      | some p => simp only [rowOf, hq, Option.bind_some, hp, Option.map_some, Option.some.injEq] at h; subst h; exact ((hs.each q (List.mem_of_getElem? hq)).fr p (List.mem_of_getElem? hp)).1
  | vals k i =>
    cases hq : f.blocks[k]? with
    | none => simp only [rowOf, hq] at h; cases h
    | some q =>
      cases hp : q.phis[i]? with
      | none => simp only [rowOf, hq, Option.bind_some, hp] at h; cases h
      | some p => simp only [rowOf, hq, Option.bind_some, hp, Option.map_some, Option.some.injEq] at h; subst h; exact ((hs.each q (List.mem_of_getElem? hq)).fr p (List.mem_of_getElem? hp)).2
  | args k i =>
    cases hq : f.blocks[k]? with
    | none => simp only [rowOf, hq] at h; cases h
    | some q =>
      cases hp : q.code[i]? with
      | none => simp only [rowOf, hq, Option.bind_some, hp] at h; cases h
      | some p => simp only [rowOf, hq, Option.bind_some, hp, Option.map_some, Option.some.injEq] at h; subst h; exact (hs.each q (List.mem_of_getElem? hq)).args p (List.mem_of_getElem? hp)

/-- what is owned whole can be read -/
theorem OwnG.rd {w : World} {base : Nat} {f : FuncM} {val : Vals} (h : OwnG w base (rowOf f val) val (EE f f.blocks.length)) (hs : SmallF f) : RdF w w.heap.size f val := by
  intro t d hd
  have hown := h.rows t d (EE.all hd) hd
  have hl := hs.len hd
  rcases hown.2 with ⟨hv, h0⟩ | ⟨g, cap, cur, hv, hb, hg, r⟩
  · refine ⟨none, 0, by rw [hv, h0], by omega, fun j u hu => ?_⟩
    have h1 := hown.1
    have h2 := (List.getElem?_eq_some_iff.1 hu).1
    rw [h1, h0] at h2
    omega
  · refine ⟨some ⟨g, 0, none⟩, cap, hv, by omega, fun j u hu => ⟨g, 0, rfl, (Array.getElem?_eq_some_iff.1 hg).1, ?_⟩⟩
    rw [hv] at hown
    have hj := (List.getElem?_eq_some_iff.1 hu).1
    rw [hown.1] at hj
    rw [Nat.zero_add, World.ownsRow.cellAt hown j hj, hu]

theorem mem_sum {l : List BlockM} {b : BlockM} (h : b ∈ l) : sizeB b ≤ (l.map sizeB).sum := by
  induction l with
  | nil => cases h
  | cons a l ih =>
    rw [List.map_cons, List.sum_cons]
    rcases List.mem_cons.1 h with rfl | h
    · omega
    · have := ih h; omega

theorem takes_few (op : Int) : (takesS op).length ≤ 3 := by
  unfold takesS
  rw [List.length_map]
  rcases op_cases op with h | h | h
  · rcases h with rfl | rfl | rfl | rfl | rfl | rfl | rfl | rfl | rfl | rfl | rfl | rfl | rfl <;> decide
  · rcases h with rfl | rfl | rfl | rfl | rfl | rfl | rfl | rfl | rfl | rfl | rfl | rfl <;> decide
  · rw [shapeS_none h]; decide

theorem term_few {f : FuncM} {t : TermM} (h : termB f t = true) : t.to.length ≤ 2 := by
  unfold termB at h
  simp only [Bool.and_eq_true] at h
  have h2 := h.2
  split at h2
  · simp only [Bool.and_eq_true, beq_iff_eq] at h2; omega
  · split at h2
    · simp only [Bool.and_eq_true, beq_iff_eq] at h2; omega
    · split at h2
      · simp only [Bool.and_eq_true, beq_iff_eq] at h2; omega
      · split at h2
        · simp only [Bool.and_eq_true, beq_iff_eq] at h2; omega
        · cases h2

/-- a right function is small -/
theorem look_small {f : FuncM} (h : (lookM f).1 = 0) : SmallF f := by
  have hsz := look_size h
  have hall := (formed_all (look_formed h)).1
  have hterm := look_term h
  have hnb := look_some_block h
  have hpar : f.params.length ≤ 16 := by
    have hf := look_formed h
    unfold formedM at hf
    split at hf
    · rename_i hl
      simp only [Bool.and_eq_true] at hl
      have h1 := hl.1.1
      unfold limitsB at h1
      simp only [Bool.and_eq_true, decide_eq_true_eq] at h1
      exact h1.1
    · cases hf
  refine ⟨by omega, by omega, fun b hb => ?_⟩
  have hs := mem_sum hb
  unfold sizeM at hsz
  unfold sizeB at hs hsz
  have hr := hall b hb
  refine ⟨by omega, by omega, by have := term_few (hterm b hb); omega, fun p hp => ?_, fun x hx => ?_⟩
  · have h2 := hr.1 p hp
    unfold phiB at h2
    simp only [Bool.and_eq_true, beq_iff_eq] at h2
    have h3 := once_len h2.2.2
    omega
  · have h2 := hr.2 x hx
    unfold instrB at h2
    simp only [Bool.and_eq_true, beq_iff_eq] at h2
    have := takes_few x.op
    omega

/-- fresh.Func of a right function, as it is called: all of its lists are new, each apart from the others -/
theorem fresh_any (f : FuncM) (B : Nat) (pv bv : Value) (w : World) (hpv : Ints w B pv f.params) (hbv : BlocksR w B bv f.blocks) (hB : B ≤ w.heap.size) (h0 : (lookM f).1 = 0) :
    Calls Try.prog 50 #[.agg #[pv, .int .i64 f.arrays, .int .i64 f.cells, bv]] w (FreshPost f w) := by
  have hs := look_small h0
  exact freshFunc_any f B (readVals w pv bv) w (read_all hpv hbv) hB hs.params hs.blocks hs.each

end Go.Proofs.Ytclbhbnidodmdaa
