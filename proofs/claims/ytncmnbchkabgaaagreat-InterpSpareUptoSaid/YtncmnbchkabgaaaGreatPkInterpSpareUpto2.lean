/- What InterpSpareUpto rests on, part 2: IMach, IStep, IFind, Shape, Args, IMade, Panics, IMadeL, IMadeP. -/
import Derived.Test.YtncmnbchkabgaaaGreatPkInterpSpareUpto1
import Derived.Laws.OwnMore
import Derived.OneCell
import Derived.Deep.Onto
import Derived.Deep.AppendLies
import Derived.WalkSmall
import Derived.Deep.RegionWith
import Derived.BigRegion
import Derived.Deep.RegionHeld3
import Derived.Deep.QuietTactic
import Derived.BigQuiet
import Derived.Deep.DeepCutAuto
import Derived.Deep.CutRange

namespace Go.Proofs.YtncmnbchkabgaaaGreat
open Go.RowKit Go.Maps

inductive MTag
  | vals
  | cells
  | vis
  | arrs
  | out
  | arr (i : Nat)
  deriving DecidableEq

structure MRow where
  elem : TypeId
  len : Nat
  cells : List Value

abbrev MVals := MTag → Value

def intRow (xs : List Int) : MRow := ⟨3, xs.length, xs.map (Value.int .i64)⟩

def mRow (s : StM) (nv : Nat) (val : MVals) : MTag → Option MRow
  | .vals => some (intRow ((List.range nv).map fun (i : Nat) => s.val i))
  | .cells => some (intRow s.cells)
  | .vis => some (intRow s.vis)
  | .out => some (intRow s.out)
  | .arrs => some ⟨22, s.arrs.length, (List.range s.arrs.length).map fun i => val (.arr i)⟩
  | .arr i => s.arrs[i]?.map intRow

/-- what does not change in a run -/
structure MachC where
  f : FuncM
  B : Nat
  m : Nat
  M : Nat
  nv : Nat
  bv : Value
  fuel : Int

def machCells (c : MachC) (val : MVals) (s : StM) : Array Value :=
  #[.int .i64 0, .int .i64 0, .int .i64 0, val .out, val .arrs, .int .i64 s.steps, .int .i64 s.checks, val .vis, .map (some c.M), c.bv, .int .i64 c.fuel, val .vals, val .cells]

/-- what is kept: the blocks K, and the streams -/
structure KF (K : Nat → Prop) (w w' : World) : Prop where
  os : w'.os = w.os
  tape : w'.tape = w.tape
  output : w'.output = w.output
  size : w.heap.size ≤ w'.heap.size
  block : ∀ b, K b → w'.heap[b]? = w.heap[b]?

section
variable {K K' : Nat → Prop} {w w' w2 : World}
theorem KF.refl (w : World) : KF K w w := ⟨rfl, rfl, rfl, Nat.le_refl _, fun _ _ => rfl⟩
theorem KF.trans (h : KF K w w') (k : KF K w' w2) : KF K w w2 :=
  ⟨k.os.trans h.os, k.tape.trans h.tape, k.output.trans h.output, Nat.le_trans h.size k.size, fun b hb => (k.block b hb).trans (h.block b hb)⟩
theorem KF.mono (h : KF K w w') (hk : ∀ b, K' b → K b) : KF K' w w' := ⟨h.os, h.tape, h.output, h.size, fun b hb => h.block b (hk b hb)⟩
theorem KF.drewN (h : KF K w w') (n : Nat) : KF K w (w'.drewN n) := ⟨h.os, h.tape, h.output, h.size, h.block⟩
theorem KF.of_below (h : Below w.heap.size w w') (hl : ∀ b, K b → b < w.heap.size) : KF K w w' := ⟨h.os, h.tape, h.output, h.size, fun b hb => h.block b (hl b hb)⟩
theorem KF.alloc (h : KF K w w') (hl : ∀ b, K b → b < w.heap.size) (o : Obj) : KF K w (w'.alloc o) :=
  h.trans ⟨rfl, rfl, rfl, by simp, fun b hb => Below.heap_alloc _ _ _ (Nat.lt_of_lt_of_le (hl b hb) h.size)⟩
theorem KF.setCell (h : KF K w w') {a : Addr} (ha : ¬ K a.block) (u : Value) : KF K w (w'.setCell a u) :=
  h.trans ⟨rfl, rfl, rfl, by simp, fun b hb => Below.heap_setCell _ _ _ _ (fun e => ha (e ▸ hb))⟩
theorem KF.row {g : Nat} {cs : Array Value} {t : TypeId} (h : KF K w w') (hg : w.heap[g]? = some (.cells cs t (0, 0))) (hK : K g) : ∀ o, w'.cell? ⟨g, o, none⟩ = cs[o]? := row_cells hg (h.block g hK)
theorem KF.blk {g : Nat} {o : Obj} (h : KF K w w') (hg : w.heap[g]? = some o) (hK : K g) : w'.heap[g]? = some o := (h.block g hK).trans hg
theorem KF.keeps {B : Nat} (h : KF K w w') (hB : ∀ b, b < B → K b) : Keeps B w w' := fun b o hb => World.cell?_of_block (a := ⟨b, o, none⟩) (h.block b (hB b hb))
theorem KF.below {B : Nat} (h : KF K w w') (hB : ∀ b, b < B → K b) : Below B w w' := ⟨h.os, h.tape, h.output, h.size, fun b hb => h.block b (hB b hb)⟩
end

/-- the machine at 's' -/
structure MachR (c : MachC) (K : Nat → Prop) (w : World) (val : MVals) (s : StM) : Prop where
  blk : w.heap[c.m]? = some (.cells (machCells c val s) 66 (0, 0))
  rows : ∀ t d, mRow s c.nv val t = some d → w.ownsRow 0 d.elem 1 (val t) d.len d.cells
  apart : ∀ t t' d d' g, mRow s c.nv val t = some d → mRow s c.nv val t' = some d' → (val t).ownBlock = some g → (val t').ownBlock = some g → t = t'
  off : ∀ t d g, mRow s c.nv val t = some d → (val t).ownBlock = some g → g ≠ c.m ∧ ¬ K g
  offm : ¬ K c.m
  low : ∀ b, K b → b < w.heap.size
  kB : ∀ b, b < c.B → K b
  kM : K c.M
  ops : OpsAt w c.M
  blks : BlocksR w c.B c.bv c.f.blocks

section
variable {c : MachC} {K K' : Nat → Prop} {w w' : World} {val val' : MVals} {s s' : StM}

theorem MachR.own_lt (h : MachR c K w val s) {t : MTag} {d : MRow} {g : Nat} (ht : mRow s c.nv val t = some d) (hg : (val t).ownBlock = some g) : g < w.heap.size := ((h.rows t d ht).lt g hg).2

theorem MachR.m_lt (h : MachR c K w val s) : c.m < w.heap.size := (Array.getElem?_eq_some_iff.1 h.blk).1

theorem owns_kept {base : Nat} {e : TypeId} {size : Nat} {v : Value} {n : Nat} {xs : List Value} (h : w.ownsRow base e size v n xs) (hk : ∀ g, v.ownBlock = some g → w'.heap[g]? = w.heap[g]?) : w'.ownsRow base e size v n xs := by
  refine ⟨h.1, ?_⟩
  rcases h.2 with h2 | ⟨g, cap, cur, hv, hb, hg, r⟩
  · exact .inl h2
  · exact .inr ⟨g, cap, cur, hv, hb, (hk g (by rw [hv]; rfl)).trans hg, r⟩

theorem MachR.kept (h : MachR c K w val s) (hk : KF K w w') (hm : w'.heap[c.m]? = w.heap[c.m]?) (ho : ∀ t d g, mRow s c.nv val t = some d → (val t).ownBlock = some g → w'.heap[g]? = w.heap[g]?) : MachR c K w' val s :=
  ⟨hm.trans h.blk, fun t d ht => owns_kept (h.rows t d ht) fun g hg => ho t d g ht hg, h.apart, h.off, h.offm, fun b hb => Nat.lt_of_lt_of_le (h.low b hb) hk.size, h.kB, h.kM, h.ops.heap (hk.block _ h.kM), h.blks.keeps (hk.keeps h.kB)⟩

theorem MachR.below (h : MachR c K w val s) (hb : Below w.heap.size w w') : MachR c K w' val s :=
  h.kept (KF.of_below hb h.low) (hb.block _ h.m_lt) fun _ _ _ ht hg => hb.block _ (h.own_lt ht hg)

theorem MachR.drewN (h : MachR c K w val s) (n : Nat) : MachR c K (w.drewN n) val s := h.below (below_drewN (Below.refl _ w) n)

/-- less is kept -/
theorem MachR.less (h : MachR c K w val s) (hk : ∀ b, K' b → K b) (hB : ∀ b, b < c.B → K' b) (hM : K' c.M) : MachR c K' w val s :=
  ⟨h.blk, h.rows, h.apart, fun t d g ht hg => ⟨(h.off t d g ht hg).1, fun e => (h.off t d g ht hg).2 (hk _ e)⟩, fun e => h.offm (hk _ e), fun b hb => h.low b (hk b hb), hB, hM, h.ops, h.blks⟩

/-- a new block is kept, too -/
theorem MachR.add (h : MachR c K w val s) (o : Obj) : MachR c (fun b => K b ∨ b = w.heap.size) (w.alloc o) val s := by
  have h1 := h.below ((Below.refl w.heap.size w).alloc (Nat.le_refl _) o)
  refine ⟨h1.blk, h1.rows, h1.apart, fun t d g ht hg => ⟨(h.off t d g ht hg).1, fun e => ?_⟩, fun e => ?_, fun b hb => ?_, fun b hb => .inl (h.kB b hb), .inl h.kM, h1.ops, h1.blks⟩
  · rcases e with e | e
    · exact (h.off t d g ht hg).2 e
    · have := h.own_lt ht hg; omega
  · rcases e with e | e
    · exact h.offm e
    · have := h.m_lt; omega
  · rcases hb with hb | hb
    · exact h1.low b hb
    · subst hb; simp

/-- all new blocks of a call are kept, too -/
theorem MachR.adds (h : MachR c K w val s) (hb : Below w.heap.size w w') : MachR c (fun b => K b ∨ (w.heap.size ≤ b ∧ b < w'.heap.size)) w' val s := by
  have h1 := h.below hb
  refine ⟨h1.blk, h1.rows, h1.apart, fun t d g ht hg => ⟨(h.off t d g ht hg).1, fun e => ?_⟩, fun e => ?_, fun b hb => ?_, fun b hb => .inl (h.kB b hb), .inl h.kM, h1.ops, h1.blks⟩
  · rcases e with e | e
    · exact (h.off t d g ht hg).2 e
    · have := h.own_lt ht hg; omega
  · rcases e with e | e
    · exact h.offm e
    · have := h.m_lt; omega
  · rcases hb with hb | hb
    · exact h1.low b hb
    · exact hb.2

theorem MachR.cells (h : MachR c K w val s) : ∀ o, w.cell? ⟨c.m, o, none⟩ = (machCells c val s)[o]? := row_cells h.blk rfl
theorem MachR.free (h : MachR c K w val s) (o : Nat) : w.frozen? ⟨c.m, o, none⟩ = false := frozen_of_row w c.m o _ _ h.blk

theorem MachR.slice (h : MachR c K w val s) {t : MTag} {d : MRow} (ht : mRow s c.nv val t = some d) (h0 : 0 < d.len) : ∃ g cap, val t = .slice (some ⟨g, 0, none⟩) d.len cap := by
  obtain ⟨g, cap, hv, _⟩ := (h.rows t d ht).form h0
  exact ⟨g, cap, hv⟩

theorem MachR.cell (h : MachR c K w val s) {t : MTag} {d : MRow} {g cap : Nat} (ht : mRow s c.nv val t = some d) (hv : val t = .slice (some ⟨g, 0, none⟩) d.len cap) {j : Nat} (hj : j < d.len) :
    w.cell? ⟨g, j, none⟩ = d.cells[j]? ∧ w.frozen? ⟨g, j, none⟩ = false := by
  have h0 := h.rows t d ht
  rw [hv] at h0
  exact ⟨World.ownsRow.cellAt h0 j (by omega), World.ownsRow.frozenAt h0 j⟩

/-- an element of a row is written -/
theorem MachR.store (h : MachR c K w val s) {t : MTag} {d : MRow} {g cap j : Nat} {u : Value} (ht : mRow s c.nv val t = some d) (hv : val t = .slice (some ⟨g, 0, none⟩) d.len cap)
    (h1 : mRow s' c.nv val t = some { d with cells := d.cells.set j u }) (h2 : ∀ t', t' ≠ t → mRow s' c.nv val t' = mRow s c.nv val t') (hs : s'.steps = s.steps) (hc : s'.checks = s.checks) :
    MachR c K (w.setCell ⟨g, j, none⟩ u) val s' ∧ KF K w (w.setCell ⟨g, j, none⟩ u) := by
  have hown : (val t).ownBlock = some g := by rw [hv]; rfl
  have hoff := h.off t d g ht hown
  have h0 := h.rows t d ht
  rw [hv] at h0
  have hst := World.ownsRow.stored h0 j u
  have hk : KF K w (w.setCell ⟨g, j, none⟩ u) := (KF.refl w).setCell hoff.2 u
  have back : ∀ t' d', mRow s' c.nv val t' = some d' → ∃ d2, mRow s c.nv val t' = some d2 := fun t' d' hd' => by
    by_cases e : t' = t
    · subst e; exact ⟨d, ht⟩
    · exact ⟨d', by rw [← h2 t' e]; exact hd'⟩
  refine ⟨⟨?_, fun t' d' hd' => ?_, fun t1 t2 d1 d2 g1 e1 e2 => ?_, fun t' d' g' hd' hg' => ?_, h.offm, fun b hb => by simpa using h.low b hb, h.kB, h.kM, h.ops.heap (hk.block _ h.kM), h.blks.keeps (hk.keeps h.kB)⟩, hk⟩
  · rw [Below.heap_setCell _ _ _ _ (fun e => hoff.1 e.symm)]
    have e : machCells c val s' = machCells c val s := by unfold machCells; rw [hs, hc]
    rw [e]
    exact h.blk
  · by_cases e : t' = t
    · subst e
      rw [h1] at hd'
      cases hd'
      rw [hv]
      exact hst.1
    · rw [h2 t' e] at hd'
      exact ownsRow_setCell_other (h.rows t' d' hd') (fun e2 => e (h.apart t' t d' d g hd' ht e2 hown)) u
  · obtain ⟨x1, hx1⟩ := back t1 d1 e1
    obtain ⟨x2, hx2⟩ := back t2 d2 e2
    exact h.apart t1 t2 x1 x2 g1 hx1 hx2
  · obtain ⟨x1, hx1⟩ := back t' d' hd'
    exact h.off t' x1 g' hx1 hg'

/-- a field of the machine is written -/
theorem MachR.field (h : MachR c K w val s) {j : Nat} {u : Value} (hr : ∀ t, mRow s' c.nv val t = mRow s c.nv val t) (hc : (machCells c val s).setIfInBounds j u = machCells c val s') :
    MachR c K (w.setCell ⟨c.m, j, none⟩ u) val s' ∧ KF K w (w.setCell ⟨c.m, j, none⟩ u) := by
  have hk : KF K w (w.setCell ⟨c.m, j, none⟩ u) := (KF.refl w).setCell h.offm u
  refine ⟨⟨?_, fun t d ht => ?_, fun t1 t2 d1 d2 g1 e1 e2 => ?_, fun t d g ht hg => ?_, h.offm, fun b hb => by simpa using h.low b hb, h.kB, h.kM, h.ops.heap (hk.block _ h.kM), h.blks.keeps (hk.keeps h.kB)⟩, hk⟩
  · rw [heap_setCell_same w c.m j _ _ u h.blk, hc]
  · rw [hr] at ht
    exact ownsRow_setCell_other (h.rows t d ht) (fun e => (h.off t d _ ht e).1 rfl) u
  · rw [hr] at e1 e2
    exact h.apart t1 t2 d1 d2 g1 e1 e2
  · rw [hr] at ht
    exact h.off t d g ht hg

theorem MachR.tick (h : MachR c K w val s) : MachR c K (w.setCell ⟨c.m, 5, none⟩ (.int .i64 ((s.steps : Int) + 1))) val (tickM s) ∧ KF K w (w.setCell ⟨c.m, 5, none⟩ (.int .i64 ((s.steps : Int) + 1))) :=
  h.field (fun t => by cases t <;> rfl) (by unfold machCells tickM; simp)

theorem MachR.look (h : MachR c K w val s) {op : Int} (ho : op = 19 ∨ op = 20) : MachR c K (w.setCell ⟨c.m, 6, none⟩ (.int .i64 (wrap64 (s.checks + 1)))) val (lookS op s) ∧ KF K w (w.setCell ⟨c.m, 6, none⟩ (.int .i64 (wrap64 (s.checks + 1)))) := by
  have e : lookS op s = { s with checks := wrap64 (s.checks + 1) } := by unfold lookS; rw [if_pos ho]
  rw [e]
  exact h.field (fun t => by cases t <;> rfl) (by unfold machCells; simp)

/-- a number is told -/
theorem MachR.told (h : MachR c K w val s) {w1 : World} {v' : Value} {n : Int} {g1 cap1 : Nat} (hg : w.grownBy w1 (val .out).ownBlock) (hv : v' = .slice (some ⟨g1, 0, none⟩) (s.out.length + 1) cap1)
    (hown : w1.ownsRow 0 3 1 v' (s.out.length + 1) (s.out.map (Value.int .i64) ++ [.int .i64 n])) (hnew : (val .out).ownBlock = some g1 ∨ w.heap.size ≤ g1) :
    MachR c K (w1.setCell ⟨c.m, 3, none⟩ v') (fun t => if t = .out then v' else val t) { s with out := s.out ++ [n] } ∧ KF K w (w1.setCell ⟨c.m, 3, none⟩ v') := by
  have ho : mRow s c.nv val .out = some (intRow s.out) := rfl
  have hk1 : KF K w w1 := ⟨hg.os, hg.tape, hg.output, hg.size, fun b hb => hg.block b (h.low b hb) (fun e => (h.off .out _ b ho e.symm).2 hb)⟩
  have hm1 : w1.heap[c.m]? = w.heap[c.m]? := hg.block c.m h.m_lt (fun e => (h.off .out _ c.m ho e.symm).1 rfl)
  have hk : KF K w (w1.setCell ⟨c.m, 3, none⟩ v') := hk1.setCell h.offm v'
  have hv1 : v'.ownBlock = some g1 := by rw [hv]; rfl
  have hgm : g1 ≠ c.m := by
    rcases hnew with e | e
    · exact (h.off .out _ g1 ho e).1
    · have := h.m_lt; omega
  have row : ∀ t, t ≠ .out → mRow { s with out := s.out ++ [n] } c.nv (fun t => if t = .out then v' else val t) t = mRow s c.nv val t := fun t ht => by
    cases t with
    | out => exact absurd rfl ht
    | arrs => simp [mRow]
    | _ => rfl
  have away : ∀ t d, t ≠ .out → mRow s c.nv val t = some d → (val t).ownBlock ≠ some g1 := fun t d ht hd e => by
    rcases hnew with e2 | e2
    · exact ht (h.apart t .out d _ g1 hd ho e e2)
    · have := h.own_lt hd e; omega
  refine ⟨⟨?_, fun t d hd => ?_, fun t1 t2 d1 d2 g e1 e2 f1 f2 => ?_, fun t d g hd hg2 => ?_, h.offm, fun b hb => by have := h.low b hb; have := hg.size; simp; omega, h.kB, h.kM, h.ops.heap (hk.block _ h.kM), h.blks.keeps (hk.keeps h.kB)⟩, hk⟩
  · rw [heap_setCell_same w1 c.m 3 _ _ v' (hm1.trans h.blk)]
    congr 2
  · by_cases e : t = .out
    · subst e
      rw [if_pos rfl]
      have : d = intRow (s.out ++ [n]) := by injection hd with hd; exact hd.symm
      subst this
      have h2 := ownsRow_setCell_other hown (a := ⟨c.m, 3, none⟩) (by rw [hv1]; intro e; exact hgm (Option.some.inj e)) v'
      unfold intRow
      simp only [List.length_append, List.length_cons, List.length_nil, List.map_append, List.map_cons, List.map_nil]
      exact h2
    · rw [if_neg e]
      rw [row t e] at hd
      refine owns_kept (h.rows t d hd) fun g hg2 => ?_
      rw [Below.heap_setCell _ _ _ _ (h.off t d g hd hg2).1]
      exact hg.block g (h.own_lt hd hg2) (fun e2 => e (h.apart t .out d _ g hd ho hg2 e2.symm))
  · by_cases x1 : t1 = .out
    · by_cases x2 : t2 = .out
      · rw [x1, x2]
      · rw [if_pos x1, hv1] at f1
        rw [if_neg x2] at f2
        rw [row t2 x2] at e2
        exact absurd (by rw [f2, ← f1]) (away t2 d2 x2 e2)
    · by_cases x2 : t2 = .out
      · rw [if_pos x2, hv1] at f2
        rw [if_neg x1] at f1
        rw [row t1 x1] at e1
        exact absurd (by rw [f1, ← f2]) (away t1 d1 x1 e1)
      · rw [if_neg x1] at f1
        rw [if_neg x2] at f2
        rw [row t1 x1] at e1
        rw [row t2 x2] at e2
        exact h.apart t1 t2 d1 d2 g e1 e2 f1 f2
  · by_cases x : t = .out
    · rw [if_pos x, hv1] at hg2
      obtain rfl := Option.some.inj hg2
      refine ⟨hgm, fun hK => ?_⟩
      rcases hnew with e | e
      · exact (h.off .out _ g1 ho e).2 hK
      · have := h.low g1 hK; omega
    · rw [if_neg x] at hg2
      rw [row t x] at hd
      exact h.off t d g hd hg2
end

/-- how a run ends, as the machine says it -/
def endV (e : EndM) : Value := .iface 106 (.agg #[.int .i64 e.1, .int .i64 e.2.1, .int .i64 e.2.2])
def endE (e : EndM) : Ending := .panicked [{ v := endV e, recovered := false }]

end Go.Proofs.YtncmnbchkabgaaaGreat

namespace Go.Proofs.YtncmnbchkabgaaaGreat
open Go.RowKit Go.Maps

section
variable {c : MachC} {K : Nat → Prop} {w : World} {val : MVals} {s : StM}

theorem trap_any (p : Value) (n : Int) (w : World) : Calls Tryz.prog 111 #[p, .int .i64 n] w fun e w' => e = endE (2, 0, n) ∧ w' = w := by
  go_enter Tryz.func111, Tryz.ntmps111
  go_wp2
  exact ⟨rfl, rfl, rfl⟩

set_option maxRecDepth 100000 in
theorem step_go (h : MachR c K w val s) (hf : (s.steps : Int) ≠ c.fuel) (hs : s.steps < 1000000) :
    Calls Tryz.prog 58 #[.pointer (some ⟨c.m, 0, none⟩)] w fun e w' => e = .returned (.tuple #[]) ∧ MachR c K w' val (tickM s) ∧ KF K w w' := by
  have H := hideI h
  have HM := hideI (h.m_lt)
  have hx0 := h.cells
  have c5 := hx0 5
  have c10 := hx0 10
  have fr := h.free 5
  have hne : ((s.steps : Int) == c.fuel) = false := by simpa using hf
  have hw : IntKind.i64.wrap ((s.steps : Int) + 1) = (s.steps : Int) + 1 := IntWalk.i64_in _ (by omega)
  clear hx0 h hf hs
  obtain ⟨z, hz⟩ : ∃ z : Int, z = (s.steps : Int) := ⟨_, rfl⟩
  simp only [machCells] at c5 c10
  rw [← hz] at c5 hne hw
  have HZ := hideI hz
  clear hz
  go_enter Tryz.func58, Tryz.ntmps58
  go_wp2
  go_quiet (fail)
  go_wp2
  go_end0
  have h2 := (H.out.drewN nq).tick
  rw [← HZ.out] at h2
  exact ⟨rfl, h2.1, (KF.refl _).trans ((KF.drewN (KF.refl _) nq).trans h2.2)⟩

set_option maxRecDepth 100000 in
theorem step_stop (h : MachR c K w val s) (hf : (s.steps : Int) = c.fuel) :
    Calls Tryz.prog 58 #[.pointer (some ⟨c.m, 0, none⟩)] w fun e w' => e = endE (3, 0, 0) ∧ MachR c K w' val s ∧ KF K w w' := by
  have H := hideI h
  have hx0 := h.cells
  have c5 := hx0 5
  have c10 := hx0 10
  clear hx0 h
  simp only [machCells] at c5 c10
  rw [hf] at c5
  clear hf
  have hne : (c.fuel == c.fuel) = true := by simp
  go_enter Tryz.func58, Tryz.ntmps58
  go_wp2
  go_quiet (fail)
  go_wp2
  exact ⟨rfl, rfl, H.out.drewN nq, KF.drewN (KF.refl _) nq⟩

set_option maxRecDepth 100000 in
theorem tell_full (h : MachR c K w val s) (hf : s.out.length = 4096) (n : Int) :
    Calls Tryz.prog 109 #[.pointer (some ⟨c.m, 0, none⟩), .int .i64 n] w fun e w' => e = endE (4, 0, 0) ∧ MachR c K w' val s ∧ KF K w w' := by
  have H := hideI h
  have hx0 := h.cells
  have c3 := hx0 3
  obtain ⟨g, cap, hv⟩ := h.slice (t := .out) (d := intRow s.out) rfl (by show 0 < s.out.length; omega)
  have hl : (intRow s.out).len = 4096 := hf
  rw [hl] at hv
  simp only [machCells] at c3
  rw [hv] at c3
  clear hx0 h hv hl hf
  go_enter Tryz.func109, Tryz.ntmps109
  go_wp2
  exact ⟨rfl, rfl, H.out, KF.refl _⟩

theorem one_newI (w : World) (x : Int) : ∀ j u, [Value.int .i64 x][j]? = some u → (w.alloc (.cells #[.int .i64 x] 3)).cell? ((⟨w.heap.size, 0, none⟩ : Addr).add j) = some u :=
  World.news_of_block (heap_alloc_new w _)

set_option maxRecDepth 100000 in
set_option maxHeartbeats 1000000 in
theorem tell_go (h : MachR c K w val s) (hf : s.out.length < 4096) (n : Int) :
    Calls Tryz.prog 109 #[.pointer (some ⟨c.m, 0, none⟩), .int .i64 n] w fun e w' => e = .returned (.tuple #[]) ∧ ∃ val', MachR c K w' val' { s with out := s.out ++ [n] } ∧ KF K w w' := by
  obtain ⟨i1, hjx, hj2⟩ : ∃ i, Tryz.prog.info? 3 = some i ∧ i.zero = some (.int .i64 0) ∧ i.size = 1 ∧ i.bytes = 8 := ⟨_, rfl, rfl, rfl, rfl⟩
  obtain ⟨hy0, hy1, hy2⟩ := hj2
  have H := hideI h
  have HL := hideI hf
  have hx0 := h.cells
  have c3 := hx0 3
  have fr := h.free 3
  have hrow : w.ownsRow 0 3 1 (val .out) s.out.length (s.out.map (Value.int .i64)) := h.rows .out _ rfl
  have hlt : ((s.out.length : Int) == 4096) = false := by rw [beq_eq_false_iff_ne]; omega
  have HM := hideI h.m_lt
  have hml := h.m_lt
  have hown : ∃ v, val .out = v := ⟨_, rfl⟩
  obtain ⟨v, hv⟩ := hown
  obtain ⟨A, cp, hA⟩ : ∃ A cp, v = .slice A s.out.length cp := by
    rw [← hv]
    rcases hrow.2 with ⟨e, e0⟩ | ⟨g, cap, cur, e, _⟩
    · exact ⟨none, 0, by rw [e, e0]⟩
    · exact ⟨_, _, e⟩
  subst hA
  simp only [machCells] at c3
  rw [hv] at c3 hrow
  have HV := hideI hv
  have HROW := hideI hrow
  have HMAP : Hid (s.out.map (Value.int .i64) = s.out.map (Value.int .i64)) := rfl
  obtain ⟨L, hL⟩ : ∃ L, L = s.out.length := ⟨_, rfl⟩
  rw [← hL] at hlt c3 HV HROW HL
  have HLL := hideI hL
  clear hx0 h hv hrow hf hL
  go_enter Tryz.func109, Tryz.ntmps109
  go_wp2_with (at_builtin; go_must (refine wpList_append_lies _ rfl _ _ _ rfl 0 3 i1 (.int .i64 0) 1 8 Tryz.underlying22 hjx hy0 hy1 hy2 rfl (by decide) _ _ _ rfl (HROW.out.alloc _) ⟨w.heap.size, 0, none⟩ 1 1 [.int .i64 n] rfl rfl (one_newI w _) (by simp [Value.oneCell']) (by decide) (by have := HL.out; unfold maxLen; omega) (by have := HL.out; omega) (Nat.zero_le _) _ rfl ?_); intro g1 cap1 w1 hown1 hg1 hat1 hlt1; have hg2 : (w.alloc (.cells #[.int .i64 n] 3)).grownBy w1 (Value.slice A L cp).ownBlock := hg1; have hat2 : (Value.slice A L cp).ownBlock = some g1 ∨ g1 = (w.alloc (.cells #[.int .i64 n] 3)).heap.size := hat1; clear hg1 hat1; have HG := hideI hg2; have HAT := hideI hat2; have HOWN := hideI hown1; clear hg2 hat2 hown1 hlt1; have hblk : w1.heap[c.m]? = w.heap[c.m]? := (HG.out.block c.m (by simp; exact Nat.lt_succ_of_lt HM.out) (fun e => (H.out.off .out _ _ rfl (by rw [HV.out]; exact e.symm)).1 rfl)).trans (Below.heap_alloc _ _ _ HM.out); have c3' : w1.cell? ⟨c.m, 3, none⟩ = some (.slice A L cp) := (World.cell?_of_block (a := ⟨c.m, 3, none⟩) hblk).trans c3; have fr' : w1.frozen? ⟨c.m, 3, none⟩ = false := (World.frozen?_of_block (a := ⟨c.m, 3, none⟩) hblk).trans fr; clear hblk)
  go_end0
  have hal := H.out.below ((Below.refl w.heap.size w).alloc (Nat.le_refl _) (.cells #[.int .i64 n] 3))
  have h2 := hal.told (n := n) (g1 := g1) (cap1 := cap1) (by rw [HV.out]; exact HG.out) rfl (by rw [← HLL.out]; exact HOWN.out) (by rw [HV.out]; rcases HAT.out with e | e; exact .inl e; exact .inr (by rw [e]; exact Nat.le_refl _))
  rw [← HLL.out] at h2
  exact ⟨rfl, ⟨_, h2.1⟩, ((KF.refl _).alloc H.out.low _).trans h2.2⟩
end
end Go.Proofs.YtncmnbchkabgaaaGreat

namespace Go.Proofs.YtncmnbchkabgaaaGreat
open Go.RowKit Go.Maps

section
variable {c : MachC} {K : Nat → Prop} {w : World} {val : MVals} {s : StM}

/-- an array, as it lies -/
structure ArrAt (c : MachC) (w : World) (val : MVals) (s : StM) (k : Nat) (a : List Int) (ga ca : Nat) (A : Option Addr) (cp : Nat) : Prop where
  arrs : val .arrs = .slice (some ⟨ga, 0, none⟩) s.arrs.length ca
  at_ : w.cell? ⟨ga, k, none⟩ = some (.slice A a.length cp)
  own : val (.arr k) = .slice A a.length cp
  ne : ga ≠ c.m
  lt : ga < w.heap.size
  klt : k < s.arrs.length

theorem MachR.arrAt (h : MachR c K w val s) {k : Nat} {a : List Int} (hk : s.arrs[k]? = some a) : ∃ ga ca A cp, ArrAt c w val s k a ga ca A cp := by
  have hlt := (List.getElem?_eq_some_iff.1 hk).1
  have hr : mRow s c.nv val .arrs = some ⟨22, s.arrs.length, (List.range s.arrs.length).map fun i => val (.arr i)⟩ := rfl
  obtain ⟨ga, ca, hv⟩ := h.slice hr (by show 0 < s.arrs.length; omega)
  have hra : mRow s c.nv val (.arr k) = some (intRow a) := by simp [mRow, hk]
  have hrow := h.rows _ _ hra
  obtain ⟨A, cp, hA⟩ : ∃ A cp, val (.arr k) = .slice A a.length cp := by
    rcases hrow.2 with ⟨e, e0⟩ | ⟨g, cap, cur, e, _⟩
    · exact ⟨none, 0, by rw [e]; congr 1; exact e0.symm⟩
    · exact ⟨_, _, e⟩
  have hc := h.cell hr hv (j := k) hlt
  refine ⟨ga, ca, A, cp, hv, ?_, hA, (h.off .arrs _ ga hr (by rw [hv]; rfl)).1, h.own_lt hr (by rw [hv]; rfl), hlt⟩
  rw [hc.1]
  simp [hlt, hA]

theorem miss_no {op : Int} (h1 : ¬ op = 19) (h2 : ¬ op = 20) : missM op = (5, 0, 0) := by
  unfold missM
  rw [if_neg]
  rintro (e | e)
  · exact h1 e
  · exact h2 e

theorem look_no {op : Int} (h1 : ¬ op = 19) (h2 : ¬ op = 20) (s : StM) : lookS op s = s := by
  unfold lookS
  rw [if_neg]
  rintro (e | e)
  · exact h1 e
  · exact h2 e

set_option maxRecDepth 100000 in
set_option maxHeartbeats 1000000 in
theorem find_ok (h : MachR c K w val s) {k : Nat} {a : List Int} (hk : s.arrs[k]? = some a) (op id : Int) (av : Value) (i : Nat) (hi : i < a.length) :
    Calls Tryz.prog 108 #[.pointer (some ⟨c.m, 0, none⟩), .agg #[.int .i64 op, .int .i64 id, av, .int .i64 k], .int .i64 i] w fun e w' => e = .returned (.tuple #[]) ∧ MachR c K w' val (lookS op s) ∧ KF K w w' := by
  obtain ⟨ga, ca, A, cp, X⟩ := h.arrAt hk
  have H := hideI h
  have hml := h.m_lt
  have hx0 := h.cells
  have c4 := hx0 4
  have c6 := hx0 6
  have fr := h.free 6
  simp only [machCells] at c4 c6
  rw [X.arrs] at c4
  have a0 := X.at_
  have a1 := X.ne
  have a1' : c.m ≠ ga := fun e => a1 e.symm
  have a2 := X.lt
  have a3 := X.klt
  obtain ⟨na, hna⟩ : ∃ na, na = s.arrs.length := ⟨_, rfl⟩
  obtain ⟨la, hla⟩ : ∃ la, la = a.length := ⟨_, rfl⟩
  rw [← hna] at c4 a3
  rw [← hla] at a0 hi
  have HAL : Hid (∀ (W : World) (t : StM) (o : Obj) (n : Nat), MachR c K W val t ∧ KF K w W → MachR c K ((W.alloc o).drewN n) val t ∧ KF K w ((W.alloc o).drewN n)) := hideI fun W t o n hW => ⟨(hW.1.below ((Below.refl W.heap.size W).alloc (Nat.le_refl _) o)).drewN n, KF.drewN (hW.2.alloc H.out.low o) n⟩
  clear hx0 h X hk hna hla
  have hi0 : decide ((0 : Int) ≤ (i : Int)) = true := by simp
  by_cases e19 : op = 19
  · subst e19
    go_enter Tryz.func108, Tryz.ntmps108
    go_wp2
    go_quiet (fail)
    go_wp2
    go_end0
    exact ⟨rfl, HAL.out _ _ _ _ (H.out.look (.inl rfl))⟩
  by_cases e20 : op = 20
  · subst e20
    go_enter Tryz.func108, Tryz.ntmps108
    go_wp2
    go_quiet (fail)
    go_wp2
    go_end0
    exact ⟨rfl, HAL.out _ _ _ _ (H.out.look (.inr rfl))⟩
  have d19 : (op == 19) = false := by simpa using e19
  have d20 : (op == 20) = false := by simpa using e20
  have HE : Hid (lookS op s = s) := hideI (look_no e19 e20 s)
  have HE2 : Hid (missM op = (5, 0, 0)) := hideI (miss_no e19 e20)
  clear e19 e20
  go_enter Tryz.func108, Tryz.ntmps108
  go_wp2
  go_quiet (fail)
  go_wp2
  go_end0
  rw [HE.out]
  exact ⟨rfl, HAL.out _ _ _ _ ⟨H.out, KF.refl _⟩⟩

set_option maxRecDepth 100000 in
set_option maxHeartbeats 1000000 in
theorem find_neg (h : MachR c K w val s) {k : Nat} {a : List Int} (hk : s.arrs[k]? = some a) (op id : Int) (av : Value) (i : Int) (hi : ¬ (0 : Int) ≤ i) :
    Calls Tryz.prog 108 #[.pointer (some ⟨c.m, 0, none⟩), .agg #[.int .i64 op, .int .i64 id, av, .int .i64 k], .int .i64 i] w fun e w' => e = endE (missM op) ∧ MachR c K w' val (lookS op s) ∧ KF K w w' := by
  obtain ⟨ga, ca, A, cp, X⟩ := h.arrAt hk
  have H := hideI h
  have hml := h.m_lt
  have hx0 := h.cells
  have c4 := hx0 4
  have c6 := hx0 6
  have fr := h.free 6
  simp only [machCells] at c4 c6
  rw [X.arrs] at c4
  have a0 := X.at_
  have a1 := X.ne
  have a1' : c.m ≠ ga := fun e => a1 e.symm
  have a2 := X.lt
  have a3 := X.klt
  obtain ⟨na, hna⟩ : ∃ na, na = s.arrs.length := ⟨_, rfl⟩
  obtain ⟨la, hla⟩ : ∃ la, la = a.length := ⟨_, rfl⟩
  rw [← hna] at c4 a3
  rw [← hla] at a0
  have HAL : Hid (∀ (W : World) (t : StM) (o : Obj) (n : Nat), MachR c K W val t ∧ KF K w W → MachR c K ((W.alloc o).drewN n) val t ∧ KF K w ((W.alloc o).drewN n)) := hideI fun W t o n hW => ⟨(hW.1.below ((Below.refl W.heap.size W).alloc (Nat.le_refl _) o)).drewN n, KF.drewN (hW.2.alloc H.out.low o) n⟩
  clear hx0 h X hk hna hla
  have hi0 : decide ((0 : Int) ≤ i) = false := by simpa using hi
  clear hi
  by_cases e19 : op = 19
  · subst e19
    go_enter Tryz.func108, Tryz.ntmps108
    go_wp2
    go_quiet (fail)
    go_wp2_with (go_at_call 111; refine (trap_any _ _ _).mono ?_; rintro e w1 ⟨he, rfl⟩; simp only [endE, endV] at he; subst he)
    exact ⟨rfl, rfl, HAL.out _ _ _ _ (H.out.look (.inl rfl))⟩
  by_cases e20 : op = 20
  · subst e20
    go_enter Tryz.func108, Tryz.ntmps108
    go_wp2
    go_quiet (fail)
    go_wp2_with (go_at_call 111; refine (trap_any _ _ _).mono ?_; rintro e w1 ⟨he, rfl⟩; simp only [endE, endV] at he; subst he)
    exact ⟨rfl, rfl, HAL.out _ _ _ _ (H.out.look (.inr rfl))⟩
  have d19 : (op == 19) = false := by simpa using e19
  have d20 : (op == 20) = false := by simpa using e20
  have HE : Hid (lookS op s = s) := hideI (look_no e19 e20 s)
  have HE2 : Hid (missM op = (5, 0, 0)) := hideI (miss_no e19 e20)
  clear e19 e20
  go_enter Tryz.func108, Tryz.ntmps108
  go_wp2
  go_quiet (fail)
  go_wp2
  rw [HE.out, HE2.out]
  exact ⟨rfl, rfl, HAL.out _ _ _ _ ⟨H.out, KF.refl _⟩⟩

set_option maxRecDepth 100000 in
set_option maxHeartbeats 1000000 in
theorem find_far (h : MachR c K w val s) {k : Nat} {a : List Int} (hk : s.arrs[k]? = some a) (op id : Int) (av : Value) (i : Nat) (hi : a.length ≤ i) :
    Calls Tryz.prog 108 #[.pointer (some ⟨c.m, 0, none⟩), .agg #[.int .i64 op, .int .i64 id, av, .int .i64 k], .int .i64 i] w fun e w' => e = endE (missM op) ∧ MachR c K w' val (lookS op s) ∧ KF K w w' := by
  obtain ⟨ga, ca, A, cp, X⟩ := h.arrAt hk
  have H := hideI h
  have hml := h.m_lt
  have hx0 := h.cells
  have c4 := hx0 4
  have c6 := hx0 6
  have fr := h.free 6
  simp only [machCells] at c4 c6
  rw [X.arrs] at c4
  have a0 := X.at_
  have a1 := X.ne
  have a1' : c.m ≠ ga := fun e => a1 e.symm
  have a2 := X.lt
  have a3 := X.klt
  obtain ⟨na, hna⟩ : ∃ na, na = s.arrs.length := ⟨_, rfl⟩
  obtain ⟨la, hla⟩ : ∃ la, la = a.length := ⟨_, rfl⟩
  rw [← hna] at c4 a3
  rw [← hla] at a0 hi
  have HAL : Hid (∀ (W : World) (t : StM) (o : Obj) (n : Nat), MachR c K W val t ∧ KF K w W → MachR c K ((W.alloc o).drewN n) val t ∧ KF K w ((W.alloc o).drewN n)) := hideI fun W t o n hW => ⟨(hW.1.below ((Below.refl W.heap.size W).alloc (Nat.le_refl _) o)).drewN n, KF.drewN (hW.2.alloc H.out.low o) n⟩
  clear hx0 h X hk hna hla
  have hi0 : decide ((0 : Int) ≤ (i : Int)) = true := by simp
  have hi1 : decide ((i : Int) < (la : Int)) = false := by simp; omega
  have hi2 : decide (i < la) = false := by simp; omega
  have hi3 : ¬ i < la := by omega
  clear hi
  by_cases e19 : op = 19
  · subst e19
    go_enter Tryz.func108, Tryz.ntmps108
    go_wp2
    go_quiet (fail)
    go_wp2_with (go_at_call 111; refine (trap_any _ _ _).mono ?_; rintro e w1 ⟨he, rfl⟩; simp only [endE, endV] at he; subst he)
    exact ⟨rfl, rfl, HAL.out _ _ _ _ (H.out.look (.inl rfl))⟩
  by_cases e20 : op = 20
  · subst e20
    go_enter Tryz.func108, Tryz.ntmps108
    go_wp2
    go_quiet (fail)
    go_wp2_with (go_at_call 111; refine (trap_any _ _ _).mono ?_; rintro e w1 ⟨he, rfl⟩; simp only [endE, endV] at he; subst he)
    exact ⟨rfl, rfl, HAL.out _ _ _ _ (H.out.look (.inr rfl))⟩
  have d19 : (op == 19) = false := by simpa using e19
  have d20 : (op == 20) = false := by simpa using e20
  have HE : Hid (lookS op s = s) := hideI (look_no e19 e20 s)
  have HE2 : Hid (missM op = (5, 0, 0)) := hideI (miss_no e19 e20)
  clear e19 e20
  go_enter Tryz.func108, Tryz.ntmps108
  go_wp2
  go_quiet (fail)
  go_wp2
  rw [HE.out, HE2.out]
  exact ⟨rfl, rfl, HAL.out _ _ _ _ ⟨H.out, KF.refl _⟩⟩

/-- findElement, whatever the element -/
theorem element_any (h : MachR c K w val s) {k : Nat} {a : List Int} (hk : s.arrs[k]? = some a) (op id : Int) (av : Value) (i : Int) :
    Calls Tryz.prog 108 #[.pointer (some ⟨c.m, 0, none⟩), .agg #[.int .i64 op, .int .i64 id, av, .int .i64 k], .int .i64 i] w fun e w' =>
      (inArr s k i = true ∧ e = .returned (.tuple #[]) ∨ inArr s k i = false ∧ e = endE (missM op)) ∧ MachR c K w' val (lookS op s) ∧ KF K w w' := by
  have ha : arrM s k = a := by unfold arrM; rw [List.getD_eq_getElem?_getD, Int.toNat_natCast, hk]; rfl
  have hin : inArr s k i = (decide (0 ≤ i) && decide (i < (a.length : Int))) := by unfold inArr; rw [ha]
  rw [hin]
  by_cases h0 : 0 ≤ i
  · obtain ⟨j, rfl⟩ := Int.eq_ofNat_of_zero_le h0
    by_cases hl : j < a.length
    · exact (find_ok h hk op id av j hl).mono fun e w' ⟨e1, e2⟩ => ⟨.inl ⟨by simp [hl], e1⟩, e2⟩
    · exact (find_far h hk op id av j (by omega)).mono fun e w' ⟨e1, e2⟩ => ⟨.inr ⟨by simp; omega, e1⟩, e2⟩
  · exact (find_neg h hk op id av i h0).mono fun e w' ⟨e1, e2⟩ => ⟨.inr ⟨by simp [h0], e1⟩, e2⟩
end
end Go.Proofs.YtncmnbchkabgaaaGreat

namespace Go.Proofs.YtncmnbchkabgaaaGreat
open Go.RowKit

def shapeV (op : Int) : Value := .tuple #[.string ⟨(shapeS op).1.toArray⟩, .int .i64 (shapeS op).2.1, .int .i64 (shapeS op).2.2.1, .bool (shapeS op).2.2.2]

theorem shape_a (op : Int) (w : World) (h : op = 1 ∨ op = 2 ∨ op = 3 ∨ op = 4 ∨ op = 5 ∨ op = 6 ∨ op = 7 ∨ op = 8 ∨ op = 9 ∨ op = 10 ∨ op = 11 ∨ op = 12 ∨ op = 13) :
    Calls Tryz.prog 122 #[.int .i64 op] w fun e w' => e = .returned (shapeV op) ∧ w = w' := by
  rcases h with rfl | rfl | rfl | rfl | rfl | rfl | rfl | rfl | rfl | rfl | rfl | rfl | rfl
  all_goals
    go_enter Tryz.func122, Tryz.ntmps122
    go_wp2
    refine bodyPost_ret (res4 rfl _ _ _) rfl ⟨?_, rfl⟩
    rfl

theorem shape_b (op : Int) (w : World) (h : op = 14 ∨ op = 15 ∨ op = 16 ∨ op = 17 ∨ op = 18 ∨ op = 19 ∨ op = 20 ∨ op = 21 ∨ op = 22 ∨ op = 23 ∨ op = 24 ∨ op = 25) :
    Calls Tryz.prog 122 #[.int .i64 op] w fun e w' => e = .returned (shapeV op) ∧ w = w' := by
  rcases h with rfl | rfl | rfl | rfl | rfl | rfl | rfl | rfl | rfl | rfl | rfl | rfl
  all_goals
    go_enter Tryz.func122, Tryz.ntmps122
    go_wp2
    refine bodyPost_ret (res4 rfl _ _ _) rfl ⟨?_, rfl⟩
    rfl

theorem shape_c (op : Int) (w : World) (h : op < 1 ∨ 25 < op) :
    Calls Tryz.prog 122 #[.int .i64 op] w fun e w' => e = .returned (shapeV op) ∧ w = w' := by
  have hs : shapeV op = .tuple #[.string ⟨#[]⟩, .int .i64 0, .int .i64 0, .bool false] := by unfold shapeV; rw [shapeS_none h]
  rw [hs]
  clear hs
  rcases h with h | h
  all_goals
    go_enter Tryz.func122, Tryz.ntmps122
    go_wp2
    refine bodyPost_ret (res4 rfl _ _ _) rfl ⟨?_, rfl⟩
    rfl

/-- Shape: the table's row. -/
theorem shape_any (op : Int) (w : World) :
    Calls Tryz.prog 122 #[.int .i64 op] w fun e w' => e = .returned (shapeV op) ∧ w = w' := by
  rcases op_cases op with h | h | h
  · exact shape_a op w h
  · exact shape_b op w h
  · exact shape_c op w h

end Go.Proofs.YtncmnbchkabgaaaGreat

namespace Go.Proofs.YtncmnbchkabgaaaGreat
open Go.RowKit

/-- the slice value v holds the numbers xs, in a block of its own from B on -/
def NewInts (B : Nat) (w : World) (v : Value) (xs : List Int) : Prop :=
  ∃ A c, v = .slice A xs.length c ∧ xs.length ≤ 140737488351232 ∧ (0 < xs.length → ∃ g cs, A = some ⟨g, 0, none⟩ ∧ B ≤ g ∧ w.heap[g]? = some (.cells cs 3 (0, 0)) ∧ ∀ k, k < xs.length → cs[k]? = some (.int .i64 (xs[k]?.getD 0)))

theorem NewInts.ints {B : Nat} {w : World} {v : Value} {xs : List Int} (h : NewInts B w v xs) : Ints w w.heap.size v xs := by
  obtain ⟨A, c, rfl, hm, h⟩ := h
  refine ⟨A, c, rfl, hm, fun k hk => ?_⟩
  obtain ⟨g, cs, rfl, _, hg, hc⟩ := h (by omega)
  exact ⟨g, 0, rfl, (Array.getElem?_eq_some_iff.1 hg).1, by rw [cell_of_row w g (0 + k) cs 3 (0, 0) hg, Nat.zero_add]; exact hc k hk⟩

def ArgsPost (op : Int) (w : World) (e : Ending) (w' : World) : Prop :=
  ∃ v, e = .returned (.tuple #[.int .i64 (makesS op), v, .bool (isOp op)]) ∧ NewInts w.heap.size w' v (takesS op) ∧ Below w.heap.size w w'

theorem ints_new (w : World) (xs : List Int) (hl : xs.length ≤ 1000) :
    NewInts w.heap.size (w.alloc (.cells (xs.map (Value.int .i64)).toArray 3)) (.slice (some ⟨w.heap.size, 0, none⟩) xs.length xs.length) xs :=
  ⟨_, _, rfl, by omega, fun _ => ⟨w.heap.size, _, rfl, Nat.le_refl _, heap_alloc_new w _, fun k hk => by simp [hk]⟩⟩

theorem NewInts.nil (B : Nat) (w : World) : NewInts B w (.slice none 0 0) [] := ⟨none, 0, rfl, by simp, fun h => by simp at h⟩

theorem args_new (op : Int) (w w' : World) (xs : List Int) (m : Int) (b : Bool) (hx : xs = takesS op) (hm : m = makesS op) (hb : b = isOp op) (n : Nat) (hn : n = xs.length) (hl : n ≤ 1000) (cs : Array Value) (hcs : cs = (xs.map (Value.int .i64)).toArray)
    (hw : w.alloc (.cells cs 3) = w') : ArgsPost op w (.returned (.tuple #[.int .i64 m, .slice (some ⟨w.heap.size, 0, none⟩) n n, .bool b])) w' := by
  subst hx hm hb hn hcs hw
  exact ⟨_, rfl, ints_new w _ hl, (Below.refl _ _).alloc (Nat.le_refl _) _⟩

theorem args_nil (op : Int) (w : World) (m : Int) (b : Bool) (hx : [] = takesS op) (hm : m = makesS op) (hb : b = isOp op) : ArgsPost op w (.returned (.tuple #[.int .i64 m, .slice none 0 0, .bool b])) w := by
  subst hm hb
  exact ⟨_, rfl, hx ▸ NewInts.nil _ _, Below.refl _ _⟩

theorem irArgs_a (op : Int) (w : World) (h : op = 1 ∨ op = 2 ∨ op = 3 ∨ op = 4 ∨ op = 5 ∨ op = 6 ∨ op = 7 ∨ op = 8 ∨ op = 9 ∨ op = 10 ∨ op = 11 ∨ op = 12 ∨ op = 13) :
    Calls Tryz.prog 203 #[.int .i64 op] w (ArgsPost op w) := by
  rcases h with rfl | rfl | rfl | rfl | rfl | rfl | rfl | rfl | rfl | rfl | rfl | rfl | rfl
  all_goals
    go_enter Tryz.func203, Tryz.ntmps203
    go_wp2
    go_ret3
    first
      | exact args_nil _ _ _ _ rfl rfl rfl
      | exact args_new _ _ _ _ _ _ rfl rfl rfl _ rfl (by decide) _ rfl rfl

theorem irArgs_b (op : Int) (w : World) (h : op = 14 ∨ op = 15 ∨ op = 16 ∨ op = 17 ∨ op = 18 ∨ op = 19 ∨ op = 20 ∨ op = 21 ∨ op = 22 ∨ op = 23 ∨ op = 24 ∨ op = 25) :
    Calls Tryz.prog 203 #[.int .i64 op] w (ArgsPost op w) := by
  rcases h with rfl | rfl | rfl | rfl | rfl | rfl | rfl | rfl | rfl | rfl | rfl | rfl
  all_goals
    go_enter Tryz.func203, Tryz.ntmps203
    go_wp2
    go_ret3
    first
      | exact args_nil _ _ _ _ rfl rfl rfl
      | exact args_new _ _ _ _ _ _ rfl rfl rfl _ rfl (by decide) _ rfl rfl

theorem irArgs_c (op : Int) (w : World) (h : op < 1 ∨ 25 < op) :
    Calls Tryz.prog 203 #[.int .i64 op] w (ArgsPost op w) := by
  have H := hideI (shapeS_none h)
  rcases h with h | h
  all_goals
    go_enter Tryz.func203, Tryz.ntmps203
    go_wp2
    go_ret3
    exact args_nil _ _ _ _ (by unfold takesS; rw [H.out]; rfl) (by unfold makesS; rw [H.out]) (by unfold isOp; rw [H.out])

/-- ir.Args: the table's row. -/
theorem irArgs_any (op : Int) (w : World) : Calls Tryz.prog 203 #[.int .i64 op] w (ArgsPost op w) := by
  rcases op_cases op with h | h | h
  · exact irArgs_a op w h
  · exact irArgs_b op w h
  · exact irArgs_c op w h

end Go.Proofs.YtncmnbchkabgaaaGreat

namespace Go.Proofs.YtncmnbchkabgaaaGreat
open Go.RowKit Go.Maps

/-- the numbers that an operation is handed -/
def ArgsAt (K : Nat → Prop) (w : World) (av : Value) (a : List Int) : Prop :=
  a.length ≤ 1000 ∧ ∃ g cap, av = .slice (some ⟨g, 0, none⟩) a.length cap ∧ K g ∧ ∀ j, j < a.length → w.cell? ⟨g, j, none⟩ = some (.int .i64 (a[j]?.getD 0))

section
variable {c : MachC} {K : Nat → Prop} {w w' : World} {val : MVals} {s : StM} {av : Value} {a : List Int}

theorem ArgsAt.kf (h : ArgsAt K w av a) (hk : KF K w w') : ArgsAt K w' av a := by
  obtain ⟨h0, g, cap, h1, h2, h3⟩ := h
  exact ⟨h0, g, cap, h1, h2, fun j hj => (World.cell?_of_block (a := ⟨g, j, none⟩) (hk.block g h2)).trans (h3 j hj)⟩

theorem ArgsAt.ints (h : ArgsAt K w av a) (hl : ∀ b, K b → b < w.heap.size) : Ints w w.heap.size av a := by
  obtain ⟨h0, g, cap, h1, h2, h3⟩ := h
  exact ⟨_, cap, h1, by omega, fun j hj => ⟨g, 0, rfl, hl g h2, by rw [Nat.zero_add]; exact h3 j hj⟩⟩

/-- behind 'made' -/
def MadePost (c : MachC) (K : Nat → Prop) (w : World) (val : MVals) (r : StM × (Int ⊕ EndM)) (e : Ending) (w' : World) : Prop :=
  e = (match r.2 with | .inl v => .returned (.int .i64 v) | .inr en => endE en) ∧ MachR c K w' val r.1 ∧ KF K w w'

def boxI (x : InstrM) (xv : Value) : Value := .agg #[.int .i64 x.op, .int .i64 x.id, xv, .int .i64 x.n]

set_option maxRecDepth 100000 in
theorem made_const (h : MachR c K w val s) (x : InstrM) (xv : Value) (ho : x.op = 1 ∨ x.op = 2) :
    Calls Tryz.prog 110 #[.pointer (some ⟨c.m, 0, none⟩), boxI x xv, av] w (MadePost c K w val (madeM x a s)) := by
  have H := hideI h
  have he : madeM x a s = (s, .inl x.n) := by unfold madeM; rw [if_pos ho]
  rw [he]
  clear h he
  obtain ⟨op, id, args, n⟩ := x
  simp only [boxI] at ho ⊢
  rcases ho with rfl | rfl
  · go_enter Tryz.func110, Tryz.ntmps110
    go_wp2
    go_ret
    exact ⟨rfl, H.out.below ((Below.refl w.heap.size w).alloc (Nat.le_refl _) _), (KF.refl _).alloc H.out.low _⟩
  · go_enter Tryz.func110, Tryz.ntmps110
    go_wp2
    go_ret
    exact ⟨rfl, H.out.below ((Below.refl w.heap.size w).alloc (Nat.le_refl _) _), (KF.refl _).alloc H.out.low _⟩

set_option maxRecDepth 100000 in
theorem made_len (h : MachR c K w val s) (id : Int) (xa : List Int) (k : Nat) (xv : Value) {r : List Int} (hk : s.arrs[k]? = some r) :
    Calls Tryz.prog 110 #[.pointer (some ⟨c.m, 0, none⟩), boxI ⟨18, id, xa, k⟩ xv, av] w (MadePost c K w val (madeM ⟨18, id, xa, k⟩ a s)) := by
  obtain ⟨ga, ca, A, cp, X⟩ := h.arrAt hk
  have H := hideI h
  have ha : arrM s k = r := by unfold arrM; rw [List.getD_eq_getElem?_getD, Int.toNat_natCast, hk]; rfl
  have he : madeM ⟨18, id, xa, k⟩ a s = (s, .inl r.length) := by unfold madeM; rw [if_neg (by simp), if_pos rfl]; simp only; rw [ha]
  rw [he]
  have hml := h.m_lt
  have c4 := h.cells 4
  simp only [machCells] at c4
  rw [X.arrs] at c4
  have a0 := X.at_
  have a1 := X.ne
  have a2 := X.lt
  have a3 := X.klt
  obtain ⟨na, hna⟩ : ∃ na, na = s.arrs.length := ⟨_, rfl⟩
  rw [← hna] at c4 a3
  simp only [boxI]
  obtain ⟨la, hla⟩ : ∃ la, la = r.length := ⟨_, rfl⟩
  rw [← hla] at a0 ⊢
  clear h he ha hna X hk hla
  go_enter Tryz.func110, Tryz.ntmps110
  go_wp2
  go_quiet (fail)
  go_wp2
  go_ret
  exact ⟨rfl, (H.out.below ((Below.refl w.heap.size w).alloc (Nat.le_refl _) _)).drewN nq, ((KF.refl _).alloc H.out.low _).drewN nq⟩

set_option maxRecDepth 100000 in
theorem made_get (h : MachR c K w val s) (id : Int) (xa : List Int) (k : Nat) (xv : Value) (hk : k < s.cells.length) :
    Calls Tryz.prog 110 #[.pointer (some ⟨c.m, 0, none⟩), boxI ⟨24, id, xa, k⟩ xv, av] w (MadePost c K w val (madeM ⟨24, id, xa, k⟩ a s)) := by
  have H := hideI h
  have he : madeM ⟨24, id, xa, k⟩ a s = (s, .inl (s.cells.getD k 0)) := by unfold madeM; rw [if_neg (by simp), if_neg (by simp), if_neg (by simp), if_pos rfl]; rfl
  rw [he]
  have hr : mRow s c.nv val .cells = some (intRow s.cells) := rfl
  obtain ⟨ga, ca, hv⟩ := h.slice hr (by show 0 < s.cells.length; omega)
  have a0 := (h.cell hr hv (j := k) hk).1
  have hml := h.m_lt
  have c12 := h.cells 12
  simp only [machCells] at c12
  rw [hv] at c12
  have e1 : (intRow s.cells).len = s.cells.length := rfl
  have e2 : (intRow s.cells).cells[k]? = some (.int .i64 (s.cells.getD k 0)) := by
    show (s.cells.map _)[k]? = _
    rw [List.getElem?_map, List.getD_eq_getElem?_getD, List.getElem?_eq_getElem hk]
    rfl
  rw [e2] at a0
  rw [e1] at c12
  have a1 := (h.off .cells _ ga hr (by rw [hv]; rfl)).1
  have a2 := h.own_lt hr (show (val .cells).ownBlock = some ga by rw [hv]; rfl)
  obtain ⟨na, hna⟩ : ∃ na, na = s.cells.length := ⟨_, rfl⟩
  rw [← hna] at c12 hk
  simp only [boxI]
  generalize s.cells.getD k 0 = y at a0 ⊢
  clear h he hr hv hna e1 e2
  go_enter Tryz.func110, Tryz.ntmps110
  go_wp2
  go_quiet (fail)
  go_wp2
  go_ret
  exact ⟨rfl, (H.out.below ((Below.refl w.heap.size w).alloc (Nat.le_refl _) _)).drewN nq, ((KF.refl _).alloc H.out.low _).drewN nq⟩
end
end Go.Proofs.YtncmnbchkabgaaaGreat

namespace Go.Proofs.YtncmnbchkabgaaaGreat
open Go.RowKit

section
variable {P : Program} {ops : Array Oper} {w0 : World}

/-- operations that read alone, one behind the other -/
def wpPure (P : Program) (ops : Array Oper) (w0 : World) (Q : Act → Prop) : List Oper → Act → Prop
  | [], a => Q a
  | o :: rest, a => if Region.wanted o (yielded ops a.tmps) then ∃ v, (∀ w, (∃ n, w = w0.drewN n) → (execOp a.eval o).run P w = .ok (.value v) w) ∧ wpPure P ops w0 Q rest (a.put o.dst v) else wpPure P ops w0 Q rest (a.put o.dst undef)

theorem wpPure_step {Q : Act → Prop} {a : Act} {o : Oper} {rest : List Oper}
    (h : ∀ K : Act → Prop, (∀ a, wpPure P ops w0 Q rest a → K a) → if Region.wanted o (yielded ops a.tmps) then ∃ v, (∀ w, (∃ n, w = w0.drewN n) → (execOp a.eval o).run P w = .ok (.value v) w) ∧ K (a.put o.dst v) else K (a.put o.dst undef)) :
    wpPure P ops w0 Q (o :: rest) a := h _ (fun _ h => h)

theorem wpPure_nil {Q : Act → Prop} {a : Act} (h : Q a) : wpPure P ops w0 Q [] a := h

/-- so many operations in the order of the text; then none may come up but the next one -/
def lexTo (ops : Array Oper) : Nat → Nat → Array Bool → Bool
  | 0, k, listed => Region.ready .any ops listed == [k]
  | n + 1, k, listed => (Region.ready .any ops listed).contains k && Region.free .any ops listed k && lexTo ops n (k + 1) (listed.setIfInBounds k true)

theorem pure_lex {Q : Exit → Act → World → Prop} {o : Oper} (hs : Region.noSelect ops = true) (hQ : ∀ c a w d v, Q (.panic c) (a.put d v) w → Q (.panic c) a w) (fuel : Nat) :
    ∀ (l : List Oper) (k : Nat) (listed : Array Bool) (a : Act) (w : World), (∀ j, j < l.length → l[j]? = ops[k + j]?) → ops[k + l.length]? = some o → lexTo ops l.length k listed = true → (∃ n, w = w0.drewN n) →
      wpPure P ops w0 (fun a' => ∀ (w' : World), (∃ n, w' = w0.drewN n) → ∀ K' : Act → World → Prop, if Region.wanted o (yielded ops a'.tmps) then Oper.wp P o a' w' K' Q else False) l a →
      wpAnyH P .any ops Q (fun w' => ∃ n, w' = w0.drewN n) (l.length + (fuel + 1)) listed a w
  | [], k, listed, a, w, _, ho, hB, hw, h => by
    have hB' : Region.ready .any ops listed = [k] := by simpa [lexTo] using hB
    rw [show ([] : List Oper).length + (fuel + 1) = fuel + 1 by simp]
    refine wpAnyH_ready hB' (by simp) (AllReadyH.cons (o := o) (by simpa using ho) (fun K' _ => ?_) AllReadyH.nil)
    have h1 := h w hw K'
    split at h1
    · rename_i hwant
      rw [if_pos hwant]
      exact h1
    · exact h1.elim
  | o0 :: l, k, listed, a, w, hl, ho, hB, hw, h => by
    have h0 : ops[k]? = some o0 := by simpa using (hl 0 (by simp)).symm
    simp only [List.length_cons, lexTo, Bool.and_eq_true] at hB
    obtain ⟨⟨hr, hf⟩, hB'⟩ := hB
    have go : ∀ v, YieldsIf P ops (fun w' => ∃ n, w' = w0.drewN n) o0 v a → wpPure P ops w0 (fun a' => ∀ (w' : World), (∃ n, w' = w0.drewN n) → ∀ K' : Act → World → Prop, if Region.wanted o (yielded ops a'.tmps) then Oper.wp P o a' w' K' Q else False) l (a.put o0.dst v) →
        wpAnyH P .any ops Q (fun w' => ∃ n, w' = w0.drewN n) ((o0 :: l).length + (fuel + 1)) listed a w := fun v hy hrest => by
      rw [show (o0 :: l).length + (fuel + 1) = (l.length + (fuel + 1)) + 1 by simp; omega]
      refine wpAnyH_first h0 (Region.noSelect_spec hs) (fun c a w h => hQ c a w _ _ h) _ listed a w (Region.free_spec h0 hf) (by simpa using hr) hy hw ?_
      exact pure_lex hs hQ fuel l (k + 1) _ _ w (fun j hj => by have := hl (j + 1) (by simp; omega); simpa [Nat.add_assoc, Nat.add_comm 1 j] using this) (by rw [← ho]; congr 1; simp; omega) hB' hw hrest
    unfold wpPure at h
    split at h
    · rename_i hwant
      obtain ⟨v, hv, hrest⟩ := h
      exact go v (.inl ⟨hwant, hv⟩) hrest
    · rename_i hwant
      exact go undef (.inr ⟨by simpa using hwant, rfl⟩) h

/-- a region whose call, the n-th operation, panics, whatever the order -/
theorem wp_region_panics (n : Nat) {id : Nat} {Q : Exit → Act → World → Prop} {a : Act} {w : World} {ops : Array Oper} {o : Oper} (hm : P.follows .mixedOrders = true) (ho : ops[n]? = some o) (hs : Region.noSelect ops = true)
    (hB : lexTo ops n 0 (Array.replicate ops.size false) = true) (hQ : ∀ c a w d v, Q (.panic c) (a.put d v) w → Q (.panic c) a w)
    (h : wpPure P ops w (fun a' => ∀ (w' : World), (∃ n, w' = w.drewN n) → ∀ K' : Act → World → Prop, if Region.wanted o (yielded ops a'.tmps) then Oper.wp P o a' w' K' Q else False) (ops.toList.take n) a) :
    (Code.region id ops true).wp P Q a w := by
  have hn : n < ops.size := (Array.getElem?_eq_some_iff.1 ho).1
  have hl : (ops.toList.take n).length = n := by simp; omega
  refine wp_region_held_drew (S := fun w' => ∃ n, w' = w.drewN n) hm ⟨1, rfl⟩ (fun _ => ?_)
  have hp := pure_lex (P := P) (w0 := w) (Q := Q) (o := o) hs hQ (ops.size - n - 1) (ops.toList.take n) 0 (Array.replicate ops.size false) a w.drew (fun j hj => by
    rw [hl] at hj
    rw [List.getElem?_take, if_pos hj, Nat.zero_add, Array.getElem?_toList]) (by rw [hl, Nat.zero_add]; exact ho) (by rw [hl]; exact hB) ⟨1, rfl⟩ h
  rw [hl] at hp
  rwa [show n + (ops.size - n - 1 + 1) = ops.size by omega] at hp

theorem post_frame {fn : Func} {R : Ending → World → Prop} : ∀ c a w d v, bodyPost P fn R (.panic c) (Act.put a d v) w → bodyPost P fn R (.panic c) a w := by
  intro c a w d v h
  cases d <;> exact h
end
end Go.Proofs.YtncmnbchkabgaaaGreat

namespace Go.Proofs.YtncmnbchkabgaaaGreat
open Go.RowKit Go.Maps

section
variable {c : MachC} {K : Nat → Prop} {w w' : World} {val : MVals} {s : StM} {av : Value} {a : List Int}

/-- the box of an instruction, and what is kept besides -/
theorem box_facts (h : MachR c K w val s) (x : InstrM) (xv : Value) {W0 : World} (hW : W0 = w.alloc (.cells #[.int .i64 x.op, .int .i64 x.id, xv, .int .i64 x.n] 59)) :
    MachR c (fun b => K b ∨ b = w.heap.size) W0 val s ∧ KF K w W0 ∧ W0.heap[w.heap.size]? = some (.cells #[.int .i64 x.op, .int .i64 x.id, xv, .int .i64 x.n] 59 (0, 0)) := by
  subst hW
  exact ⟨h.add _, (KF.refl _).alloc h.low _, heap_alloc_new w _⟩

theorem KF.undrew {K : Nat → Prop} {w w1 : World} {n : Nat} (h : KF K (w.drewN n) w1) : KF K w w1 := ⟨h.os, h.tape, h.output, h.size, h.block⟩

/-- an element, as it lies -/
structure ElemAt (c : MachC) (w : World) (val : MVals) (s : StM) (k j : Nat) (r : List Int) (ga ca gb cp : Nat) : Prop where
  arrs : val .arrs = .slice (some ⟨ga, 0, none⟩) s.arrs.length ca
  at_ : w.cell? ⟨ga, k, none⟩ = some (.slice (some ⟨gb, 0, none⟩) r.length cp)
  own : val (.arr k) = .slice (some ⟨gb, 0, none⟩) r.length cp
  cell : w.cell? ⟨gb, j, none⟩ = some (.int .i64 (r.getD j 0))
  free : w.frozen? ⟨gb, j, none⟩ = false
  ne : ga ≠ c.m
  neb : gb ≠ c.m
  nab : gb ≠ ga
  lt : ga < w.heap.size
  ltb : gb < w.heap.size
  klt : k < s.arrs.length

theorem MachR.elemAt (h : MachR c K w val s) {k j : Nat} {r : List Int} (hk : s.arrs[k]? = some r) (hj : j < r.length) : ∃ ga ca gb cp, ElemAt c w val s k j r ga ca gb cp := by
  obtain ⟨ga, ca, A, cp, X⟩ := h.arrAt hk
  have hra : mRow s c.nv val (.arr k) = some (intRow r) := by simp [mRow, hk]
  obtain ⟨gb, cb, hv⟩ := h.slice hra (by show 0 < r.length; omega)
  have e : (intRow r).len = r.length := rfl
  have hc := h.cell hra hv (j := j) hj
  rw [e] at hv
  have e2 := X.own.symm.trans hv
  injection e2 with e3 _ e4
  subst e3 e4
  refine ⟨ga, ca, gb, cp, X.arrs, X.at_, hv, ?_, hc.2, X.ne, (h.off _ _ gb hra (by rw [hv]; rfl)).1, ?_, X.lt, h.own_lt hra (by rw [hv]; rfl), X.klt⟩
  · rw [hc.1]
    show (r.map _)[j]? = _
    rw [List.getElem?_map, List.getD_eq_getElem?_getD, List.getElem?_eq_getElem hj]
    rfl
  · intro e5
    have := h.apart (.arr k) .arrs _ _ gb hra rfl (by rw [hv]; rfl) (by rw [X.arrs, e5]; rfl)
    cases this

theorem look_arrs (op : Int) (s : StM) : (lookS op s).arrs = s.arrs := by unfold lookS; split <;> rfl

theorem in_nat {s : StM} {k : Nat} {i : Int} {r : List Int} (hk : s.arrs[k]? = some r) (h : inArr s k i = true) : ∃ j : Nat, i = j ∧ j < r.length := by
  have ha : arrM s k = r := by unfold arrM; rw [List.getD_eq_getElem?_getD, Int.toNat_natCast, hk]; rfl
  unfold inArr at h
  rw [ha] at h
  simp only [Bool.and_eq_true, decide_eq_true_eq] at h
  exact ⟨i.toNat, by omega, by omega⟩

set_option maxRecDepth 100000 in
set_option maxHeartbeats 1000000 in
theorem made_load (h : MachR c K w val s) (op id : Int) (xa : List Int) (k : Nat) (xv : Value) (i : Int) {r : List Int} (ho : op = 19 ∨ op = 21) (hk : s.arrs[k]? = some r) (hA : ArgsAt K w av [i]) :
    Calls Tryz.prog 110 #[.pointer (some ⟨c.m, 0, none⟩), boxI ⟨op, id, xa, k⟩ xv, av] w (MadePost c K w val (madeM ⟨op, id, xa, k⟩ [i] s)) := by
  have he : madeM ⟨op, id, xa, k⟩ [i] s = (if inArr s k i then (lookS op s, .inl (r.getD i.toNat 0)) else (lookS op s, .inr (missM op))) := by
    have ha : arrM s k = r := by unfold arrM; rw [List.getD_eq_getElem?_getD, Int.toNat_natCast, hk]; rfl
    unfold madeM
    rw [if_neg (by simp only; omega), if_neg (by simp only; omega), if_pos ho]
    simp only
    rw [ha]
    rfl
  rw [he]
  clear he
  have hr0 : (0 : Nat) ≤ 0 := Nat.le_refl _
  obtain ⟨W0, hW0⟩ : ∃ W0, W0 = w.alloc (.cells #[.int .i64 op, .int .i64 id, xv, .int .i64 k] 59) := ⟨_, rfl⟩
  obtain ⟨h1, hk1, hbox⟩ := box_facts h ⟨op, id, xa, k⟩ xv hW0
  obtain ⟨hlen, g, cap, rfl, hKg, hcell⟩ := hA
  have c0 : w.cell? ⟨g, 0, none⟩ = some (.int .i64 i) := hcell 0 (by simp)
  have HC0 : Hid (∀ W, KF (fun b => K b ∨ b = w.heap.size) W0 W → W.cell? ⟨g, 0, none⟩ = some (.int .i64 i) ∧ W.cell? ⟨w.heap.size, 0, none⟩ = some (.int .i64 op) ∧ W.cell? ⟨w.heap.size, 1, none⟩ = some (.int .i64 id) ∧ W.cell? ⟨w.heap.size, 2, none⟩ = some xv ∧ W.cell? ⟨w.heap.size, 3, none⟩ = some (.int .i64 k)) := hideI fun W hW => by
    have hx := hW.row hbox (.inr rfl)
    exact ⟨(World.cell?_of_block (a := ⟨g, 0, none⟩) ((hW.block g (.inl hKg)).trans (hk1.block g hKg))).trans c0, hx 0, hx 1, hx 2, hx 3⟩
  have HK1 := hideI hk1
  have HW0 := hideI hW0
  have HF : Hid (∀ n, _) := hideI fun n => element_any (h1.drewN n) hk op id xv i
  have HK := hideI hk
  have HKB := hideI (And.intro h.kB h.kM)
  obtain ⟨q0, q1, q2, q3, q4⟩ := HC0.out W0 (KF.refl _)
  clear h h1 hk1 hbox hcell c0 hKg hk hW0 hlen hr0
  simp only [boxI]
  by_cases hin : inArr s k i = true
  · rw [if_pos hin]
    replace HF : Hid (∀ n, Calls Tryz.prog 108 #[.pointer (some ⟨c.m, 0, none⟩), .agg #[.int .i64 op, .int .i64 id, xv, .int .i64 k], .int .i64 i] (W0.drewN n) fun e w' => e = .returned (.tuple #[]) ∧ MachR c (fun b => K b ∨ b = w.heap.size) w' val (lookS op s) ∧ KF (fun b => K b ∨ b = w.heap.size) W0 w') := hideI fun n => (HF.out n).mono fun e w' ⟨h1, h2, h3⟩ => by
      rcases h1 with ⟨_, h1⟩ | ⟨h1, _⟩
      · exact ⟨h1, h2, h3.undrew⟩
      · rw [hin] at h1; cases h1
    have HIN := hideI hin
    clear hin
    obtain ⟨j, rfl, hj⟩ := in_nat HK.out HIN.out
    have HJ := hideI hj
    rw [Int.toNat_natCast]
    clear hj
    rcases ho with rfl | rfl
    · go_enter Tryz.func110, Tryz.ntmps110
      go_upto_region 1 with fail
      rw [← HW0.out]
      go_upto_region 9 with fail
      go_region_held3 (fun w' => w'.cell? ⟨g, 0, none⟩ = some (.int .i64 j) ∧ w'.cell? ⟨w.heap.size, 0, none⟩ = some (.int .i64 19) ∧ w'.cell? ⟨w.heap.size, 1, none⟩ = some (.int .i64 id) ∧ w'.cell? ⟨w.heap.size, 2, none⟩ = some xv ∧ w'.cell? ⟨w.heap.size, 3, none⟩ = some (.int .i64 k)) (first | go_keep | exact HC0.out _ hf1) (first | (go_at_call 108; refine (HF.out 1).mono ?_; rintro e w1 ⟨rfl, hm1, hf1⟩))
      obtain ⟨ga, ca, gb, cp, X⟩ := hm1.elemAt (j := j) (by rw [look_arrs]; exact HK.out) HJ.out
      have c4 := hm1.cells 4
      simp only [machCells] at c4
      rw [X.arrs, look_arrs] at c4
      obtain ⟨q0, q1, q2, q3, q4⟩ := HC0.out _ hf1
      have a0 := X.at_
      have a1 := X.cell
      have a3 := X.klt
      rw [look_arrs] at a3
      have hj := HJ.out
      have HM1 := hideI hm1
      have HF1 := hideI hf1
      obtain ⟨y, hy⟩ : ∃ y, y = r.getD j 0 := ⟨_, rfl⟩
      rw [← hy] at a1
      have HY := hideI hy
      clear hy
      generalize r.length = rl at a0 hj
      generalize s.arrs.length = na at c4 a3
      clear X hm1 hf1
      go_wp2_with fail
      go_quiet (fail)
      go_wp2
      go_ret
      exact ⟨by rw [← HY.out]; rfl, (HM1.out.less (fun b hb => .inl hb) (fun b hb => HKB.out.1 b hb) HKB.out.2).drewN nq, (HK1.out.trans (HF1.out.mono (fun b hb => .inl hb))).drewN nq⟩
    · go_enter Tryz.func110, Tryz.ntmps110
      go_upto_region 1 with fail
      rw [← HW0.out]
      go_upto_region 9 with fail
      go_region_held3 (fun w' => w'.cell? ⟨g, 0, none⟩ = some (.int .i64 j) ∧ w'.cell? ⟨w.heap.size, 0, none⟩ = some (.int .i64 21) ∧ w'.cell? ⟨w.heap.size, 1, none⟩ = some (.int .i64 id) ∧ w'.cell? ⟨w.heap.size, 2, none⟩ = some xv ∧ w'.cell? ⟨w.heap.size, 3, none⟩ = some (.int .i64 k)) (first | go_keep | exact HC0.out _ hf1) (first | (go_at_call 108; refine (HF.out 1).mono ?_; rintro e w1 ⟨rfl, hm1, hf1⟩))
      obtain ⟨ga, ca, gb, cp, X⟩ := hm1.elemAt (j := j) (by rw [look_arrs]; exact HK.out) HJ.out
      have c4 := hm1.cells 4
      simp only [machCells] at c4
      rw [X.arrs, look_arrs] at c4
      obtain ⟨q0, q1, q2, q3, q4⟩ := HC0.out _ hf1
      have a0 := X.at_
      have a1 := X.cell
      have a3 := X.klt
      rw [look_arrs] at a3
      have hj := HJ.out
      have HM1 := hideI hm1
      have HF1 := hideI hf1
      obtain ⟨y, hy⟩ : ∃ y, y = r.getD j 0 := ⟨_, rfl⟩
      rw [← hy] at a1
      have HY := hideI hy
      clear hy
      generalize r.length = rl at a0 hj
      generalize s.arrs.length = na at c4 a3
      clear X hm1 hf1
      go_wp2_with fail
      go_quiet (fail)
      go_wp2
      go_ret
      exact ⟨by rw [← HY.out]; rfl, (HM1.out.less (fun b hb => .inl hb) (fun b hb => HKB.out.1 b hb) HKB.out.2).drewN nq, (HK1.out.trans (HF1.out.mono (fun b hb => .inl hb))).drewN nq⟩
  · rw [if_neg hin]
    replace HF : Hid (∀ n, Calls Tryz.prog 108 #[.pointer (some ⟨c.m, 0, none⟩), .agg #[.int .i64 op, .int .i64 id, xv, .int .i64 k], .int .i64 i] (W0.drewN n) fun e w' => e = endE (missM op) ∧ MachR c (fun b => K b ∨ b = w.heap.size) w' val (lookS op s) ∧ KF (fun b => K b ∨ b = w.heap.size) W0 w') := hideI fun n => (HF.out n).mono fun e w' ⟨h1, h2, h3⟩ => by
      rcases h1 with ⟨h1, _⟩ | ⟨_, h1⟩
      · exact absurd h1 hin
      · exact ⟨h1, h2, h3.undrew⟩
    clear hin
    rcases ho with rfl | rfl
    · go_enter Tryz.func110, Tryz.ntmps110
      go_upto_region 1 with fail
      rw [← HW0.out]
      go_upto_region 9 with fail
      refine wp_region_panics 5 (by kernel_rfl) rfl (by kernel_rfl) (by kernel_rfl) (fun c a w d v h => by cases d <;> exact h) ?_
      simp only [List.take_succ_cons, List.take_zero, List.getElem_toArray, List.getElem_cons_succ, List.getElem_cons_zero]
      repeat (refine wpPure_step (fun K hK => ?_); go_simp; refine hK _ ?_; clear hK K)
      refine wpPure_nil ?_
      rintro w' ⟨n, rfl⟩ K'
      go_simp
      refine (HF.out n).mono ?_
      rintro e w1 ⟨he, hm1, hf1⟩
      simp only [endE, endV] at he
      subst he
      exact ⟨rfl, rfl, hm1.less (fun b hb => .inl hb) (fun b hb => HKB.out.1 b hb) HKB.out.2, HK1.out.trans (hf1.mono (fun b hb => .inl hb))⟩
    · go_enter Tryz.func110, Tryz.ntmps110
      go_upto_region 1 with fail
      rw [← HW0.out]
      go_upto_region 9 with fail
      refine wp_region_panics 5 (by kernel_rfl) rfl (by kernel_rfl) (by kernel_rfl) (fun c a w d v h => by cases d <;> exact h) ?_
      simp only [List.take_succ_cons, List.take_zero, List.getElem_toArray, List.getElem_cons_succ, List.getElem_cons_zero]
      repeat (refine wpPure_step (fun K hK => ?_); go_simp; refine hK _ ?_; clear hK K)
      refine wpPure_nil ?_
      rintro w' ⟨n, rfl⟩ K'
      go_simp
      refine (HF.out n).mono ?_
      rintro e w1 ⟨he, hm1, hf1⟩
      simp only [endE, endV] at he
      subst he
      exact ⟨rfl, rfl, hm1.less (fun b hb => .inl hb) (fun b hb => HKB.out.1 b hb) HKB.out.2, HK1.out.trans (hf1.mono (fun b hb => .inl hb))⟩
end
end Go.Proofs.YtncmnbchkabgaaaGreat

namespace Go.Proofs.YtncmnbchkabgaaaGreat
open Go.RowKit Go.Maps

section
variable {c : MachC} {K : Nat → Prop} {w w' : World} {val : MVals} {s : StM} {av : Value} {a : List Int}

theorem made_eq_pure {op id n : Int} {xa a : List Int} {s : StM} (h1 : 3 ≤ op) (h2 : op ≤ 17) : madeM ⟨op, id, xa, n⟩ a s = if divZero op a then (s, .inr (2, 0, -1)) else (s, .inl (calcM op a)) := by
  unfold madeM
  rw [if_neg (by simp only; omega), if_neg (by simp only; omega), if_neg (by simp only; omega), if_neg (by simp only; omega)]

set_option maxRecDepth 100000 in
set_option maxHeartbeats 1000000 in
theorem made_pure (h : MachR c K w val s) (op id n : Int) (xa : List Int) (xv : Value) (h1 : 3 ≤ op) (h2 : op ≤ 17) (hl : a.length = (takesS op).length) (hA : ArgsAt K w av a) :
    Calls Tryz.prog 110 #[.pointer (some ⟨c.m, 0, none⟩), boxI ⟨op, id, xa, n⟩ xv, av] w (MadePost c K w val (madeM ⟨op, id, xa, n⟩ a s)) := by
  rw [made_eq_pure h1 h2]
  obtain ⟨W0, hW0⟩ : ∃ W0, W0 = w.alloc (.cells #[.int .i64 op, .int .i64 id, xv, .int .i64 n] 59) := ⟨_, rfl⟩
  obtain ⟨hm, hk1, hbox⟩ := box_facts h ⟨op, id, xa, n⟩ xv hW0
  have hints := (hA.kf hk1).ints (fun b hb => hm.low b (.inl hb))
  have H := hideI h
  have HK1 := hideI hk1
  have HW0 := hideI hW0
  have HM := hideI hm
  have HINT : Hid (∀ n, Ints (W0.drewN n) W0.heap.size av a) := hideI fun n => hints.keeps (fun b o _ => rfl)
  have HD := hideI (divZero_any op a (fun ho => by rw [hl, takes_two h1 (by omega)]; exact Nat.le_refl 2) W0.heap.size av W0 hints)
  have c8 := hm.cells 8
  simp only [machCells] at c8
  have q := row_cells hbox rfl
  have q0 := q 0
  have q3 := q 3
  have HB := hideI (And.intro h.kB h.kM)
  have d1 : (op == 1) = false := by rw [beq_eq_false_iff_ne]; omega
  have d2 : (op == 2) = false := by rw [beq_eq_false_iff_ne]; omega
  have d18 : (op == 18) = false := by rw [beq_eq_false_iff_ne]; omega
  have d19 : (op == 19) = false := by rw [beq_eq_false_iff_ne]; omega
  have d21 : (op == 21) = false := by rw [beq_eq_false_iff_ne]; omega
  have d24 : (op == 24) = false := by rw [beq_eq_false_iff_ne]; omega
  have HC : Hid (divZero op a = false → ∀ n, Calls Tryz.prog 152 #[.map (some c.M), .int .i64 op, av] (W0.drewN n) fun e w' => e = .returned (.int .i64 (calcM op a)) ∧ ∃ m, w' = (W0.drewN n).drewN m) := hideI fun hd n => calc_any op h1 h2 a hl hd c.M W0.heap.size av (W0.drewN n) (hm.ops.heap rfl) (HINT.out n)
  obtain ⟨hlen, g, cap, rfl, hKg, hcell⟩ := hA
  simp only [boxI]
  clear q hm hints hk1 hW0 h hbox hl hcell hlen hKg h1 h2
  cases hd : divZero op a with
  | true =>
    rw [if_pos rfl]
    rw [hd] at HD
    clear hd
    go_enter Tryz.func110, Tryz.ntmps110
    go_upto_region 1 with fail
    rw [← HW0.out]
    go_wp2_with (first
      | (go_at_call 151; refine HD.out.mono ?_; rintro e w1 ⟨rfl, rfl⟩)
      | (go_at_call 111; refine (trap_any _ _ _).mono ?_; rintro e w1 ⟨he, rfl⟩; simp only [endE, endV] at he; subst he))
    exact ⟨rfl, rfl, HM.out.less (fun b hb => .inl hb) (fun b hb => HB.out.1 b hb) HB.out.2, HK1.out⟩
  | false =>
    rw [if_neg (by decide)]
    rw [hd] at HD
    replace HC := hideI (HC.out hd)
    clear hd
    obtain ⟨y, hy⟩ : ∃ y, y = calcM op a := ⟨_, rfl⟩
    rw [← hy] at HC ⊢
    clear hy
    go_enter Tryz.func110, Tryz.ntmps110
    go_upto_region 1 with fail
    rw [← HW0.out]
    go_wp2_with (first
      | (go_at_call 151; refine HD.out.mono ?_; rintro e w1 ⟨rfl, rfl⟩))
    go_quiet (refine Calls.quiet_of (HC.out _))
    go_wp2
    go_ret
    exact ⟨rfl, (HM.out.less (fun b hb => .inl hb) (fun b hb => HB.out.1 b hb) HB.out.2).drewN nq, HK1.out.drewN nq⟩

/-- an instruction that may stand: what it takes, and where it looks -/
structure InstrOk (s : StM) (nv : Nat) (x : InstrM) : Prop where
  args : ∀ i ∈ x.args, 0 ≤ i ∧ i < nv
  len : x.args.length = (takesS x.op).length
  isop : isOp x.op = true
  arr : kindS x.op = 3 → 0 ≤ x.n ∧ x.n < s.arrs.length
  cell : kindS x.op = 4 → 0 ≤ x.n ∧ x.n < s.cells.length
  id : makesS x.op ≠ 0 → 0 ≤ x.id ∧ x.id < nv

theorem arr_at {n : Int} {s : StM} (h : 0 ≤ n ∧ n < s.arrs.length) : ∃ (k : Nat) (r : List Int), n = k ∧ s.arrs[k]? = some r := by
  obtain ⟨k, rfl⟩ := Int.eq_ofNat_of_zero_le h.1
  have hk : k < s.arrs.length := by omega
  exact ⟨k, s.arrs[k], rfl, List.getElem?_eq_getElem hk⟩

/-- made, whatever is made -/
theorem made_any (h : MachR c K w val s) (x : InstrM) (xv : Value) (hx : InstrOk s c.nv x) (hmk : makesS x.op ≠ 0) (hl : a.length = (takesS x.op).length) (hA : ArgsAt K w av a) :
    Calls Tryz.prog 110 #[.pointer (some ⟨c.m, 0, none⟩), boxI x xv, av] w (MadePost c K w val (madeM x a s)) := by
  obtain ⟨op, id, xa, n⟩ := x
  have ho := hx.isop
  simp only at ho hmk hl
  by_cases hp : 3 ≤ op ∧ op ≤ 17
  · exact made_pure h op id n xa xv hp.1 hp.2 hl hA
  · rcases op_cases op with h1 | h1 | h1
    · by_cases h12 : op = 1 ∨ op = 2
      · exact made_const h ⟨op, id, xa, n⟩ xv h12
      · omega
    · have hc : op = 18 ∨ (op = 19 ∨ op = 21) ∨ op = 24 ∨ (op = 20 ∨ op = 22 ∨ op = 23 ∨ op = 25) := by omega
      rcases hc with rfl | h2 | rfl | h2
      · obtain ⟨k, r, rfl, hk⟩ := arr_at (hx.arr (by show kindS 18 = 3; decide))
        exact made_len h id xa k xv hk
      · have hkind : kindS op = 3 := by rcases h2 with rfl | rfl <;> decide
        obtain ⟨k, r, rfl, hk⟩ := arr_at (hx.arr hkind)
        have hl1 : a.length = 1 := by rw [hl]; rcases h2 with rfl | rfl <;> decide
        obtain ⟨i, rfl⟩ : ∃ i, a = [i] := by
          match a, hl1 with
          | [i], _ => exact ⟨i, rfl⟩
        exact made_load h op id xa k xv i h2 hk hA
      · obtain ⟨h3, h4⟩ := hx.cell (by show kindS 24 = 4; decide)
        simp only at h3 h4
        obtain ⟨k, rfl⟩ := Int.eq_ofNat_of_zero_le h3
        exact made_get h id xa k xv (by omega)
      · exact absurd (by rcases h2 with rfl | rfl | rfl | rfl <;> decide) hmk
    · rw [show isOp op = false from by unfold isOp; rw [shapeS_none h1]] at ho
      cases ho
end
end Go.Proofs.YtncmnbchkabgaaaGreat
