/- What S6 rests on, part 2: FFunc, FDone, SplitM. -/
import Derived.Test.YtocnlclighonfaaPkS61
import Derived.Outline

namespace Go.Proofs.Ytocnlclighonfaa
open Go.RowKit

/-- the tags whose rows are copied when i blocks are -/
def EE (f : FuncM) (i : Nat) (t : Tag) : Prop := t = .params ∨ t = .blocks ∨ ∃ k b, k < i ∧ f.blocks[k]? = some b ∧ DD k b.phis.length b.code.length t

structure FnSt (f : FuncM) (val : Vals) (N : Nat) (w0 wx : World) (val1 : Vals) (i : Nat) : Prop where
  same : ∀ t, ¬ EE f i t → val1 t = val t
  own : OwnG wx (N + 2) (rowOf f val1) val1 (EE f i)
  box : wx.heap[N]? = some (.cells #[val1 .params, .int .i64 f.arrays, .int .i64 f.cells, val1 .blocks] 25 (0, 0))
  res : wx.heap[N + 1]? = some (.cells #[.slice none 0 0, .int .i64 0, .int .i64 0, .slice none 0 0] 25 (0, 0))
  low : Below N w0 wx

theorem DD.blk {k np nc : Nat} {t : Tag} (h : DD k np nc t) : blkOf t = some k := by
  rcases h with rfl | rfl | rfl | ⟨j, _, rfl | rfl⟩ | ⟨j, _, rfl⟩ <;> rfl

theorem EE.not {f : FuncM} {i : Nat} {t : Tag} (h : blkOf t = some i) : ¬ EE f i t := by
  rintro (rfl | rfl | ⟨k, b, hk, _, hd⟩)
  · cases h
  · cases h
  · rw [hd.blk] at h
    cases h
    omega

theorem EE.succ {f : FuncM} {i : Nat} {b : BlockM} (hb : f.blocks[i]? = some b) {t : Tag} : EE f (i + 1) t ↔ EE f i t ∨ DD i b.phis.length b.code.length t := by
  unfold EE
  constructor
  · rintro (h | h | ⟨k, q, hk, hq, hd⟩)
    · exact .inl (.inl h)
    · exact .inl (.inr (.inl h))
    · by_cases e : k = i
      · subst e
        rw [hb] at hq
        cases hq
        exact .inr hd
      · exact .inl (.inr (.inr ⟨k, q, by omega, hq, hd⟩))
  · rintro ((h | h | ⟨k, q, hk, hq, hd⟩) | h)
    · exact .inl h
    · exact .inr (.inl h)
    · exact .inr (.inr ⟨k, q, by omega, hq, hd⟩)
    · exact .inr (.inr ⟨i, b, by omega, hb, h⟩)

theorem OwnG.join {w1 w2 : World} {base : Nat} {r1 r2 r3 : Rows} {v1 v2 v3 : Vals} {D1 D2 : Tag → Prop} {b2 : Nat} (h1 : OwnG w1 base r1 v1 D1) (hb : Below w1.heap.size w1 w2) (h2 : OwnG w2 b2 r2 v2 D2) (hb2 : w1.heap.size ≤ b2) (hbase : base ≤ w1.heap.size)
    (e1 : ∀ t, D1 t → r3 t = r1 t ∧ v3 t = v1 t) (e2 : ∀ t, D2 t → r3 t = r2 t ∧ v3 t = v2 t) : OwnG w2 base r3 v3 (fun t => D1 t ∨ D2 t) := by
  have k1 := h1.below hb
  refine ⟨fun t ht => ?_, fun t d ht hd => ?_, fun t t' g ht ht' hg hg' => ?_⟩
  · rcases ht with ht | ht
    · rw [(e1 t ht).1]; exact h1.has t ht
    · rw [(e2 t ht).1]; exact h2.has t ht
  · rcases ht with ht | ht
    · rw [(e1 t ht).2]
      exact k1.rows t d ht (by rw [← (e1 t ht).1]; exact hd)
    · rw [(e2 t ht).2]
      exact World.ownsRow.mono (h2.rows t d ht (by rw [← (e2 t ht).1]; exact hd)) (by omega)
  · rcases ht with ht | ht <;> rcases ht' with ht' | ht'
    · rw [(e1 t ht).2] at hg
      rw [(e1 t' ht').2] at hg'
      exact h1.apart t t' g ht ht' hg hg'
    · rw [(e1 t ht).2] at hg
      rw [(e2 t' ht').2] at hg'
      have := (h1.lt ht hg).2
      have := (h2.lt ht' hg').1
      omega
    · rw [(e2 t ht).2] at hg
      rw [(e1 t' ht').2] at hg'
      have := (h2.lt ht hg).1
      have := (h1.lt ht' hg').2
      omega
    · rw [(e2 t ht).2] at hg
      rw [(e2 t' ht').2] at hg'
      exact h2.apart t t' g ht ht' hg hg'

theorem set_same {l : List Value} {j : Nat} {u : Value} (h : l[j]? = some u) : l.set j u = l := by
  apply List.ext_getElem?
  intro i
  by_cases e : j = i
  · subst e
    rw [List.getElem?_set_self (List.getElem?_eq_some_iff.1 h).1, h]
  · rw [List.getElem?_set_ne e]

theorem blocks_set {val : Vals} {l : List BlockM} {i : Nat} {b : BlockM} {c0 c1 c4 : Value} (hb : l[i]? = some b) :
    ((((((cellsOf (blockCells val) 0 l).set (i * 6 + 0) c0).set (i * 6 + 1) c1).set (i * 6 + 2) (.int .i64 b.term.op)).set (i * 6 + 3) (.int .i64 b.term.val)).set (i * 6 + 4) c4).set (i * 6 + 5) (.int .i64 b.term.n) =
      cellsOf (blockCells (upd (upd (upd val (.phis i) c0) (.code i) c1) (.ends i) c4)) 0 l := by
  have hi := (List.getElem?_eq_some_iff.1 hb).1
  have e0 : (cellsOf (blockCells val) 0 l).set (i * 6 + 0) c0 = cellsOf (blockCells (upd val (.phis i) c0)) 0 l := by
    refine cellsOf_set (blockCells_len _) (blockCells_len _) hi (by omega) ?_ ?_
    · intro j a _ hne; simp [blockCells, upd, hne]
    · intro a _; simp [blockCells, upd]
  have e1 : (cellsOf (blockCells (upd val (.phis i) c0)) 0 l).set (i * 6 + 1) c1 = cellsOf (blockCells (upd (upd val (.phis i) c0) (.code i) c1)) 0 l := by
    refine cellsOf_set (blockCells_len _) (blockCells_len _) hi (by omega) ?_ ?_
    · intro j a _ hne; simp [blockCells, upd, hne]
    · intro a _; simp [blockCells, upd]
  have e4 : (cellsOf (blockCells (upd (upd val (.phis i) c0) (.code i) c1)) 0 l).set (i * 6 + 4) c4 = cellsOf (blockCells (upd (upd (upd val (.phis i) c0) (.code i) c1) (.ends i) c4)) 0 l := by
    refine cellsOf_set (blockCells_len _) (blockCells_len _) hi (by omega) ?_ ?_
    · intro j a _ hne; simp [blockCells, upd, hne]
    · intro a _; simp [blockCells, upd]
  have hat : ∀ (v : Vals) r u, r < 6 → (blockCells v i b)[r]? = some u → (cellsOf (blockCells v) 0 l)[i * 6 + r]? = some u := fun v r u hr hu => by
    have := cellsOf_at (blockCells_len v) l 0 i r b hb hr
    rw [Nat.zero_add] at this
    exact this.trans hu
  rw [e0, e1, set_same (hat _ 2 _ (by omega) rfl), set_same (hat _ 3 _ (by omega) rfl), e4, set_same (hat _ 5 _ (by omega) rfl)]

/-- one block is copied -/
theorem FnSt.step {f : FuncM} {val val1 val2 : Vals} {N i g c : Nat} {b : BlockM} {w0 wx w2 : World} (h : FnSt f val N w0 wx val1 i) (hb : f.blocks[i]? = some b) (hN : N + 2 ≤ wx.heap.size) (hg : val1 .blocks = .slice (some ⟨g, 0, none⟩) f.blocks.length c)
    (hb2 : Below wx.heap.size wx w2) (hsame : ∀ t, ¬ DD i b.phis.length b.code.length t → val2 t = val t) (ho2 : OwnG w2 (wx.heap.size + 2) (rowOf f val2) val2 (DD i b.phis.length b.code.length)) :
    FnSt f val N w0 ((((((w2.setCell ⟨g, i * 6, none⟩ (val2 (.phis i))).setCell ⟨g, i * 6 + 1, none⟩ (val2 (.code i))).setCell ⟨g, i * 6 + 2, none⟩ (.int .i64 b.term.op)).setCell ⟨g, i * 6 + 3, none⟩ (.int .i64 b.term.val)).setCell ⟨g, i * 6 + 4, none⟩ (val2 (.ends i))).setCell ⟨g, i * 6 + 5, none⟩ (.int .i64 b.term.n))
      (fun t => if blkOf t = some i then val2 t else val1 t) (i + 1) := by
  have hs2 := hb2.size
  have DB : EE f i .blocks := .inr (.inl rfl)
  have hgl := h.own.lt DB (by rw [hg]; rfl : (val1 .blocks).ownBlock = some g)
  have hne : g ≠ N ∧ g ≠ N + 1 := by omega
  have e1 : ∀ t, EE f i t → blkOf t ≠ some i := fun t ht e => EE.not e ht
  have o1 := OwnG.join (r3 := fun t => if blkOf t = some i then rowOf f val2 t else rowOf f val1 t) (v3 := fun t => if blkOf t = some i then val2 t else val1 t) h.own hb2 ho2 (by omega) hN
    (fun t ht => ⟨if_neg (e1 t ht), if_neg (e1 t ht)⟩) (fun t ht => ⟨if_pos ht.blk, if_pos ht.blk⟩)
  have hv : (fun t => if blkOf t = some i then val2 t else val1 t) Tag.blocks = .slice (some ⟨g, 0, none⟩) f.blocks.length c := hg
  have hr0 : (fun t => if blkOf t = some i then rowOf f val2 t else rowOf f val1 t) Tag.blocks = some ⟨54, 6, f.blocks.length, cellsOf (blockCells val1) 0 f.blocks⟩ := rfl
  have s0 := o1.set (tp := .blocks) (j := i * 6 + 0) (u := val2 (.phis i)) (.inl DB) hr0 hv rfl
  have s1 := s0.set (tp := .blocks) (j := i * 6 + 1) (u := val2 (.code i)) (.inl DB) (upd_same _ _ _) hv rfl
  have s2 := s1.set (tp := .blocks) (j := i * 6 + 2) (u := .int .i64 b.term.op) (.inl DB) (upd_same _ _ _) hv rfl
  have s3 := s2.set (tp := .blocks) (j := i * 6 + 3) (u := .int .i64 b.term.val) (.inl DB) (upd_same _ _ _) hv rfl
  have s4 := s3.set (tp := .blocks) (j := i * 6 + 4) (u := val2 (.ends i)) (.inl DB) (upd_same _ _ _) hv rfl
  have s5 := s4.set (tp := .blocks) (j := i * 6 + 5) (u := .int .i64 b.term.n) (.inl DB) (upd_same _ _ _) hv rfl
  refine ⟨fun t ht => ?_, ?_, ?_, ?_, ?_⟩
  · have h1 : ¬ EE f i t := fun e => ht ((EE.succ hb).2 (.inl e))
    have h2 : ¬ DD i b.phis.length b.code.length t := fun e => ht ((EE.succ hb).2 (.inr e))
    by_cases e : blkOf t = some i
    · simp only [if_pos e]
      exact hsame t h2
    · simp only [if_neg e]
      exact h.same t h1
  · refine s5.congr (fun t ht => ?_) (fun t _ => rfl) (fun t ht => (EE.succ hb).1 ht)
    by_cases eb : t = .blocks
    · subst eb
      rw [upd_same, blocks_set hb]
      show some _ = some _
      congr 2
      refine cellsOf_congr _ _ fun k q hq => ?_
      rw [Nat.zero_add]
      by_cases ek : k = i
      · subst ek
        simp [blockCells, upd, blkOf]
      · simp [blockCells, upd, blkOf, ek]
    · rw [upd_ne _ _ eb, upd_ne _ _ eb, upd_ne _ _ eb, upd_ne _ _ eb, upd_ne _ _ eb, upd_ne _ _ eb]
      cases t with
      | params => rfl
      | blocks => exact absurd rfl eb
      | phis k =>
        by_cases ek : k = i
        · subst ek
          have e : phiCells (fun t => if blkOf t = some k then val2 t else val1 t) k = phiCells val2 k := by funext j p; simp [phiCells, blkOf]
          have h1 : (fun t => if blkOf t = some k then rowOf f val2 t else rowOf f val1 t) (Tag.phis k) = rowOf f val2 (.phis k) := if_pos rfl
          refine Eq.trans ?_ h1.symm
          simp only [rowOf]
          rw [e]
        · have e : phiCells (fun t => if blkOf t = some i then val2 t else val1 t) k = phiCells val1 k := by funext j p; simp [phiCells, blkOf, ek]
          have h1 : (fun t => if blkOf t = some i then rowOf f val2 t else rowOf f val1 t) (Tag.phis k) = rowOf f val1 (.phis k) := if_neg (by simp [blkOf, ek])
          refine Eq.trans ?_ h1.symm
          simp only [rowOf]
          rw [e]
      | code k =>
        by_cases ek : k = i
        · subst ek
          have e : instrCells (fun t => if blkOf t = some k then val2 t else val1 t) k = instrCells val2 k := by funext j p; simp [instrCells, blkOf]
          have h1 : (fun t => if blkOf t = some k then rowOf f val2 t else rowOf f val1 t) (Tag.code k) = rowOf f val2 (.code k) := if_pos rfl
          refine Eq.trans ?_ h1.symm
          simp only [rowOf]
          rw [e]
        · have e : instrCells (fun t => if blkOf t = some i then val2 t else val1 t) k = instrCells val1 k := by funext j p; simp [instrCells, blkOf, ek]
          have h1 : (fun t => if blkOf t = some i then rowOf f val2 t else rowOf f val1 t) (Tag.code k) = rowOf f val1 (.code k) := if_neg (by simp [blkOf, ek])
          refine Eq.trans ?_ h1.symm
          simp only [rowOf]
          rw [e]
      | ends k => by_cases ek : k = i <;> simp [rowOf, blkOf, ek]
      | fr k j => by_cases ek : k = i <;> simp [rowOf, blkOf, ek]
      | vals k j => by_cases ek : k = i <;> simp [rowOf, blkOf, ek]
      | args k j => by_cases ek : k = i <;> simp [rowOf, blkOf, ek]
  · rw [heap_setCell_other _ _ _ _ (by simpa using hne.1.symm), heap_setCell_other _ _ _ _ (by simpa using hne.1.symm), heap_setCell_other _ _ _ _ (by simpa using hne.1.symm), heap_setCell_other _ _ _ _ (by simpa using hne.1.symm), heap_setCell_other _ _ _ _ (by simpa using hne.1.symm), heap_setCell_other _ _ _ _ (by simpa using hne.1.symm), hb2.block N (by omega)]
    exact h.box
  · rw [heap_setCell_other _ _ _ _ (by simpa using hne.2.symm), heap_setCell_other _ _ _ _ (by simpa using hne.2.symm), heap_setCell_other _ _ _ _ (by simpa using hne.2.symm), heap_setCell_other _ _ _ _ (by simpa using hne.2.symm), heap_setCell_other _ _ _ _ (by simpa using hne.2.symm), heap_setCell_other _ _ _ _ (by simpa using hne.2.symm), hb2.block (N + 1) (by omega)]
    exact h.res
  · exact ((((((h.low.trans (hb2.mono (by omega))).setCell (by simp; omega) _).setCell (by simp; omega) _).setCell (by simp; omega) _).setCell (by simp; omega) _).setCell (by simp; omega) _).setCell (by simp; omega) _

end Go.Proofs.Ytocnlclighonfaa

namespace Go.Proofs.Ytocnlclighonfaa
open Go.RowKit

theorem FnSt.start {f : FuncM} {val : Vals} {N : Nat} {w0 W0 w2 w3 : World} {v1 v3 : Value} (hs : W0.heap.size = N + 2) (hbox : W0.heap[N]? = some (.cells #[val .params, .int .i64 f.arrays, .int .i64 f.cells, val .blocks] 25 (0, 0)))
    (hres : W0.heap[N + 1]? = some (.cells #[.slice none 0 0, .int .i64 0, .int .i64 0, .slice none 0 0] 25 (0, 0))) (hlow : Below N w0 W0)
    (hb2 : Below W0.heap.size W0 w2) (ho2 : w2.ownsRow W0.heap.size 3 1 v1 f.params.length (f.params.map (Value.int .i64)))
    (hb3 : Below w2.heap.size w2 w3) (ho3 : w3.ownsRow w2.heap.size 54 6 v3 f.blocks.length (cellsOf (blockCells val) 0 f.blocks)) :
    FnSt f val N w0 ((w3.setCell ⟨N, 0, none⟩ v1).setCell ⟨N, 3, none⟩ v3) (upd (upd val .params v1) .blocks v3) 0 := by
  have s2 := hb2.size
  have s3 := hb3.size
  have o1 := (OwnG.nothing W0 (N + 2) (rowOf f val) val).add (t0 := .params) (d := intsRow f.params) (by simp) hb2 ho2 (by omega)
  have o2 := o1.add (t0 := .blocks) (d := ⟨54, 6, f.blocks.length, cellsOf (blockCells val) 0 f.blocks⟩) (by simp) hb3 ho3 (by omega)
  have hne : ∀ t, ((False ∨ t = .params) ∨ t = .blocks) → (upd (upd val .params v1) .blocks v3 t).ownBlock ≠ some N := fun t ht e => by have := (o2.lt ht e).1; omega
  have o4 := (o2.other (a := ⟨N, 0, none⟩) (u := v1) hne).other (a := ⟨N, 3, none⟩) (u := v3) hne
  have hbx : w3.heap[N]? = some (.cells #[val .params, .int .i64 f.arrays, .int .i64 f.cells, val .blocks] 25 (0, 0)) := by rw [hb3.block N (by omega), hb2.block N (by omega)]; exact hbox
  have hEE : ∀ t, EE f 0 t → (False ∨ t = .params) ∨ t = .blocks := by
    rintro t (h | h | ⟨k, b, hk, _⟩)
    · exact .inl (.inr h)
    · exact .inr h
    · omega
  refine ⟨fun t ht => ?_, ?_, ?_, ?_, ?_⟩
  · have h1 : t ≠ .params := fun e => ht (.inl e)
    have h2 : t ≠ .blocks := fun e => ht (.inr (.inl e))
    rw [upd_ne _ _ h2, upd_ne _ _ h1]
  · refine o4.congr (fun t ht => ?_) (fun t _ => rfl) hEE
    rcases hEE t ht with (h | rfl) | rfl
    · exact h.elim
    · simp [rowOf, upd]
    · rw [upd_same]
      show some _ = some _
      congr 2
  · rw [heap_setCell_same _ N 3 _ _ _ (heap_setCell_same _ N 0 _ _ _ hbx)]
    simp [upd]
  · rw [heap_setCell_other _ _ _ _ (by simp), heap_setCell_other _ _ _ _ (by simp), hb3.block (N + 1) (by omega), hb2.block (N + 1) (by omega)]
    exact hres
  · exact (((hlow.trans (hb2.mono (by omega))).trans (hb3.mono (by omega))).setCell (by simp) _).setCell (by simp) _

theorem rd_block_one {w : World} {B : Nat} {f : FuncM} {val : Vals} (h : RdF w B f val) : ∀ u ∈ cellsOf (blockCells val) 0 f.blocks, u.oneCell' = true := by
  intro u hu
  obtain ⟨j, hj⟩ := List.getElem?_of_mem hu
  obtain ⟨i, r, q, rfl, hr, hq, hc⟩ := cellsOf_div (blockCells_len val) hj
  have hm := List.mem_of_getElem? hc
  unfold blockCells at hm
  simp only [List.mem_cons, List.not_mem_nil, or_false] at hm
  rcases hm with rfl | rfl | rfl | rfl | rfl | rfl
  · exact slice_one (h (.phis i) _ (row_phis hq))
  · exact slice_one (h (.code i) _ (row_code hq))
  · rfl
  · rfl
  · exact slice_one (h (.ends i) _ (row_ends hq))
  · rfl

/-- .. its value written out -/
def FreshBlkPost' (f : FuncM) (val : Vals) (k : Nat) (b : BlockM) (w : World) (e : Ending) (w' : World) : Prop :=
  ∃ (val1 : Vals) (A : Option Addr) (c : Nat) (A' : Option Addr) (c' : Nat) (A'' : Option Addr) (c'' : Nat), e = .returned (.agg #[.slice A b.phis.length c, .slice A' b.code.length c', .int .i64 b.term.op, .int .i64 b.term.val, .slice A'' b.term.to.length c'', .int .i64 b.term.n]) ∧
    (val1 (.phis k) = .slice A b.phis.length c ∧ val1 (.code k) = .slice A' b.code.length c' ∧ val1 (.ends k) = .slice A'' b.term.to.length c'') ∧
    (∀ t, ¬ DD k b.phis.length b.code.length t → val1 t = val t) ∧ OwnG w' (w.heap.size + 2) (rowOf f val1) val1 (DD k b.phis.length b.code.length) ∧ Below w.heap.size w w'

theorem FreshBlkPost.form {f : FuncM} {val : Vals} {k : Nat} {b : BlockM} {w w' : World} {e : Ending} (hb : f.blocks[k]? = some b) (h : FreshBlkPost f val k b w e w') : FreshBlkPost' f val k b w e w' := by
  obtain ⟨val1, rfl, hs, ho, hbl⟩ := h
  obtain ⟨A, c, e1⟩ := ho.form (.inl rfl) (row_phis hb)
  obtain ⟨A', c', e2⟩ := ho.form (.inr (.inl rfl)) (row_code hb)
  obtain ⟨A'', c'', e3⟩ := ho.form (.inr (.inr (.inl rfl))) (row_ends hb)
  have e1' : val1 (.phis k) = .slice A b.phis.length c := e1
  have e2' : val1 (.code k) = .slice A' b.code.length c' := e2
  have e3' : val1 (.ends k) = .slice A'' b.term.to.length c'' := e3
  exact ⟨val1, A, c, A', c', A'', c'', by unfold blockCells; rw [e1', e2', e3'], ⟨e1', e2', e3'⟩, hs, ho, hbl⟩

def FreshPost (f : FuncM) (w : World) (e : Ending) (w' : World) : Prop :=
  ∃ val1 : Vals, e = .returned (.agg #[val1 .params, .int .i64 f.arrays, .int .i64 f.cells, val1 .blocks]) ∧ OwnG w' (w.heap.size + 2) (rowOf f val1) val1 (EE f f.blocks.length) ∧ Below w.heap.size w w'

set_option maxRecDepth 100000 in
set_option maxHeartbeats 8000000 in
theorem freshFunc_any (f : FuncM) (B : Nat) (val : Vals) (w : World) (hrd : RdF w B f val) (hB : B ≤ w.heap.size) (h1 : f.params.length ≤ 100000) (h2 : f.blocks.length ≤ 100000) (hsm : ∀ b ∈ f.blocks, Small b) :
    Calls Try.prog 44 #[.agg #[val .params, .int .i64 f.arrays, .int .i64 f.cells, val .blocks]] w (FreshPost f w) := by
  have HRD := hideI hrd
  have HSM := hideI hsm
  have rp := hrd .params (intsRow f.params) rfl
  have rb := hrd .blocks ⟨54, 6, f.blocks.length, cellsOf (blockCells val) 0 f.blocks⟩ rfl
  have C1 : Hid (∀ W, Keeps B w W → Calls Try.prog 67 #[val .params] W (ListPost' 3 1 (intsRow f.params) W)) := fun W hW =>
    (listInt_any _ B _ W (rp.keeps hW) (by simp [intsRow]) h1 (ints_one _)).mono fun _ _ h => h.form
  have C2 : Hid (∀ W, Keeps B w W → Calls Try.prog 68 #[val .blocks] W (ListPost' 54 6 ⟨54, 6, f.blocks.length, cellsOf (blockCells val) 0 f.blocks⟩ W)) := fun W hW =>
    (listBlock_any _ B _ W (rb.keeps hW) (cellsOf_len (blockCells_len val) _ _) h2 (rd_block_one hrd)).mono fun _ _ h => h.form
  obtain ⟨P, pc, hpv, _⟩ := rp
  obtain ⟨A, c, hbv, _⟩ := rb
  have e1 : (intsRow f.params).len = f.params.length := rfl
  rw [e1] at hpv
  have HPV := hideI hpv
  have HBV : Hid (val .blocks = .slice A f.blocks.length c) := hbv
  rw [hpv] at C1 ⊢
  rw [HBV.out] at C2 ⊢
  obtain ⟨W0, hW0⟩ : ∃ W0 : World, W0 = (w.alloc (.cells #[.slice P f.params.length pc, .int .i64 f.arrays, .int .i64 f.cells, .slice A f.blocks.length c] 25)).alloc (.cells #[.slice none 0 0, .int .i64 0, .int .i64 0, .slice none 0 0] 25) := ⟨_, rfl⟩
  have hs0 : W0.heap.size = w.heap.size + 2 := by rw [hW0]; simp
  have hbox : W0.heap[w.heap.size]? = some (.cells #[.slice P f.params.length pc, .int .i64 f.arrays, .int .i64 f.cells, .slice A f.blocks.length c] 25 (0, 0)) := by
    rw [hW0, Below.heap_alloc _ _ _ (by simp)]
    exact heap_alloc_new w _
  have hres : W0.heap[w.heap.size + 1]? = some (.cells #[.slice none 0 0, .int .i64 0, .int .i64 0, .slice none 0 0] 25 (0, 0)) := by
    rw [hW0]
    have := heap_alloc_new (w.alloc (.cells #[.slice P f.params.length pc, .int .i64 f.arrays, .int .i64 f.cells, .slice A f.blocks.length c] 25)) (.cells #[.slice none 0 0, .int .i64 0, .int .i64 0, .slice none 0 0] 25)
    simpa using this
  have hlow : Below w.heap.size w W0 := by rw [hW0]; exact ((Below.refl _ w).alloc (Nat.le_refl _) _).alloc (by simp) _
  have HBOX := hideI hbox
  have HRES := hideI hres
  have HLOW := hideI hlow
  have HS0 := hideI hs0
  have HW0 := hideI hW0
  have G0 : Hid (∀ W, Below W0.heap.size W0 W → W.cell? ⟨w.heap.size, 0, none⟩ = some (.slice P f.params.length pc) ∧ W.cell? ⟨w.heap.size, 3, none⟩ = some (.slice A f.blocks.length c) ∧ W.frozen? ⟨w.heap.size, 0, none⟩ = false ∧ W.frozen? ⟨w.heap.size, 3, none⟩ = false) := fun W hW => by
    have hx := row_cells HBOX.out (hW.block _ (by have := HS0.out; omega))
    have hf := free_row' HBOX.out (hW.block _ (by have := HS0.out; omega))
    exact ⟨hx 0, hx 3, hf 0, hf 3⟩
  have KP : Hid (∀ W, Below W0.heap.size W0 W → Keeps B w W) := fun W hW => (Keeps.of_below (HLOW.out.mono hB)).trans (Keeps.of_below (hW.mono (by have := HS0.out; omega)))
  obtain ⟨q0, q3, f0, f3⟩ := G0.out W0 (Below.refl _ _)
  clear hrd hsm hpv hbv e1 hbox hres hlow hW0 hs0
  go_enter Try.func44, Try.ntmps44
  go_upto_region 1 with fail
  rw [← HW0.out]
  go_cut [] (fun wx => ∃ val1, Hid (FnSt f val w.heap.size w wx val1 0))
  case first =>
    go_region_with (first
      | (go_at_call 67; refine (C1.out _ (by exact KP.out _ ⟨rfl, rfl, rfl, Nat.le_refl _, fun _ _ => rfl⟩)).mono ?_; rintro e w2 ⟨A2, c2, rfl, hown2, hb2⟩; have hba : Below W0.heap.size W0 w2 := undrew2 hb2; obtain ⟨q0, q3, f0, f3⟩ := G0.out _ hba)
      | (go_at_call 68; refine (C2.out _ (by exact KP.out _ hba)).mono ?_; rintro e w3 ⟨A3, c3, rfl, hown3, hb3⟩; have hbb : Below W0.heap.size W0 w3 := hba.trans (hb3.mono hba.size); obtain ⟨q0, q3, f0, f3⟩ := G0.out _ hbb))
    all_goals (go_wp2_with fail; go_meet; exact ⟨_, hideI (FnSt.start HS0.out (by rw [HPV.out, HBV.out]; exact HBOX.out) HRES.out HLOW.out hba (undrewO hown2) hb3 hown3)⟩)
  case rest =>
    obtain ⟨val1, HST⟩ := hcut
    clear q0 q3 f0 f3
    obtain ⟨A1, c1, hp1⟩ := HST.out.own.form (t := .blocks) (.inr (.inl rfl)) rfl
    have hp1' : val1 .blocks = .slice A1 f.blocks.length c1 := hp1
    have b3 := (row_cells HST.out.box rfl 3).trans (show (#[val1 .params, .int .i64 f.arrays, .int .i64 f.cells, val1 .blocks] : Array Value)[3]? = some (.slice A1 f.blocks.length c1) by simp [hp1'])
    clear hp1 hp1'
    go_wp2
    clear b3
    go_loopw [15] (fun u wr => ∃ (i : Nat) (val1 : Vals), i ≤ f.blocks.length ∧ u = .int .i64 i ∧ Hid (FnSt f val w.heap.size w wr val1 i)) (fun u _ => f.blocks.length - (intOf u).toNat)
    case atStart => exact ⟨0, val1, Nat.zero_le _, rfl, HST⟩
    case round =>
      obtain ⟨i, val1, hi, rfl, HST⟩ := hrel
      have hN2 : w.heap.size + 2 ≤ wr.heap.size := by
        have := (Array.getElem?_eq_some_iff.1 HST.out.res).1
        omega
      by_cases hlt : i < f.blocks.length
      · obtain ⟨b, hb⟩ : ∃ b, f.blocks[i]? = some b := ⟨_, List.getElem?_eq_getElem hlt⟩
        obtain ⟨g, bc, hg, hgb, hgl⟩ := HST.out.own.slice (tp := .blocks) (.inr (.inl rfl)) rfl (by show 0 < f.blocks.length; omega)
        have HBI := hideI hb
        have HG : Hid (val1 .blocks = .slice (some ⟨g, 0, none⟩) f.blocks.length bc) := hg
        have hsb := HSM.out b (List.mem_of_getElem? hb)
        have KP : Hid (∀ W, Below wr.heap.size wr W → Keeps B w W) := fun W hW => (Keeps.of_below (HST.out.low.mono hB)).trans (Keeps.of_below (hW.mono (by omega)))
        have CB : Hid (∀ W, Below wr.heap.size wr W → Calls Try.prog 69 #[.agg #[val (.phis i), val (.code i), .int .i64 b.term.op, .int .i64 b.term.val, val (.ends i), .int .i64 b.term.n]] W (FreshBlkPost' f val i b W)) := fun W hW =>
          (freshBlock_any f B val i b W hb (HRD.out.keeps (KP.out W hW)) (by have := hW.size; omega) hsb).mono fun _ _ h => h.form hb
        have e1 : val1 (.phis i) = val (.phis i) := HST.out.same _ (EE.not rfl)
        have e2 : val1 (.code i) = val (.code i) := HST.out.same _ (EE.not rfl)
        have e3 : val1 (.ends i) = val (.ends i) := HST.out.same _ (EE.not rfl)
        obtain ⟨PA, pc2, d1, _⟩ := HRD.out (.phis i) _ (row_phis hb)
        obtain ⟨CA, cc2, d2, _⟩ := HRD.out (.code i) _ (row_code hb)
        obtain ⟨TA, tc2, d3, _⟩ := HRD.out (.ends i) _ (row_ends hb)
        have d3' : val (.ends i) = .slice TA b.term.to.length tc2 := d3
        have d1' : val (.phis i) = .slice PA b.phis.length pc2 := d1
        have d2' : val (.code i) = .slice CA b.code.length cc2 := d2
        have G0 : Hid (∀ W, Below wr.heap.size wr W → (∀ r u, r < 6 → (blockCells val1 i b)[r]? = some u → W.cell? ⟨g, i * 6 + r, none⟩ = some u ∧ W.frozen? ⟨g, i * 6 + r, none⟩ = false) ∧ W.cell? ⟨w.heap.size, 3, none⟩ = some (.slice (some ⟨g, 0, none⟩) f.blocks.length bc)) := fun W hW => by
          have o := HST.out.own.below hW
          refine ⟨fun r u hr hu => ?_, ?_⟩
          · have k2 := o.cell (tp := .blocks) (j := i * 6 + r) (.inr (.inl rfl)) rfl HG.out rfl (by show _ < f.blocks.length * 6; omega)
            have hc := cellsOf_at (blockCells_len val1) f.blocks 0 i r b HBI.out hr
            rw [Nat.zero_add] at hc
            exact ⟨k2.1.trans (hc.trans hu), k2.2⟩
          · exact (row_cells HST.out.box (hW.block _ (by omega)) 3).trans (by show some (val1 .blocks) = _; rw [HG.out])
        have H6 : Hid (∀ W, Below wr.heap.size wr W → (W.cell? ⟨g, i * 6, none⟩ = some (.slice PA b.phis.length pc2) ∧ W.cell? ⟨g, i * 6 + 1, none⟩ = some (.slice CA b.code.length cc2) ∧ W.cell? ⟨g, i * 6 + 2, none⟩ = some (.int .i64 b.term.op) ∧ W.cell? ⟨g, i * 6 + 3, none⟩ = some (.int .i64 b.term.val) ∧ W.cell? ⟨g, i * 6 + 4, none⟩ = some (.slice TA b.term.to.length tc2) ∧ W.cell? ⟨g, i * 6 + 5, none⟩ = some (.int .i64 b.term.n)) ∧
            (W.frozen? ⟨g, i * 6, none⟩ = false ∧ W.frozen? ⟨g, i * 6 + 1, none⟩ = false ∧ W.frozen? ⟨g, i * 6 + 2, none⟩ = false ∧ W.frozen? ⟨g, i * 6 + 3, none⟩ = false ∧ W.frozen? ⟨g, i * 6 + 4, none⟩ = false ∧ W.frozen? ⟨g, i * 6 + 5, none⟩ = false) ∧ W.cell? ⟨w.heap.size, 3, none⟩ = some (.slice (some ⟨g, 0, none⟩) f.blocks.length bc)) := fun W hW => by
          obtain ⟨k, kb⟩ := G0.out W hW
          have k0 := k 0 (.slice PA b.phis.length pc2) (by omega) (by show some (val1 _) = _; rw [e1, d1'])
          have k1 := k 1 (.slice CA b.code.length cc2) (by omega) (by show some (val1 _) = _; rw [e2, d2'])
          have k2 := k 2 _ (by omega) rfl
          have k3 := k 3 _ (by omega) rfl
          have k4 := k 4 (.slice TA b.term.to.length tc2) (by omega) (by show some (val1 _) = _; rw [e3, d3'])
          have k5 := k 5 _ (by omega) rfl
          exact ⟨⟨k0.1, k1.1, k2.1, k3.1, k4.1, k5.1⟩, ⟨k0.2, k1.2, k2.2, k3.2, k4.2, k5.2⟩, kb⟩
        rw [d1', d2', d3'] at CB
        obtain ⟨⟨c0, c1, c2, c3, c4, c5⟩, ⟨f0, f1, f2, f3, f4, f5⟩, b3⟩ := H6.out wr (Below.refl _ _)
        clear hb hg e1 e2 e3 d1 d2 d3 d1' d2' d3'
        go_wp2
        go_region_with (first
          | (go_at_call 69; refine (CB.out _ (by exact ⟨rfl, rfl, rfl, Nat.le_refl _, fun _ _ => rfl⟩)).mono ?_; rintro e w2 ⟨val2, A2, c2, A3, c3, A4, c4, rfl, hval2, hsame2, hown2, hb2⟩; have hba : Below wr.heap.size wr w2 := undrew2 hb2; obtain ⟨⟨c0, c1, c2, c3, c4, c5⟩, ⟨f0, f1, f2, f3, f4, f5⟩, b3⟩ := H6.out _ hba))
        all_goals
          have HST2 := hideI (HST.out.step HBI.out hN2 HG.out hba hsame2 hown2)
          rw [hval2.1, hval2.2.1, hval2.2.2] at HST2
          clear c0 c1 c2 c3 c4 c5 f0 f1 f2 f3 f4 f5 b3 hval2 hsame2 hown2 hb2 hba
          go_wp2
          go_roundw
          case rel => exact ⟨i + 1, _, by omega, by go_num, HST2⟩
          case measure => simp [intOf]; omega
      · have hin : i = f.blocks.length := by omega
        rw [hin] at HST
        obtain ⟨PA1, pc1, e1⟩ := HST.out.own.form (t := .params) (.inl rfl) rfl
        obtain ⟨BA1, bc1, e2⟩ := HST.out.own.form (t := .blocks) (.inr (.inl rfl)) rfl
        have e1' : val1 .params = .slice PA1 f.params.length pc1 := e1
        have e2' : val1 .blocks = .slice BA1 f.blocks.length bc1 := e2
        have E1 := hideI e1'
        have E2 := hideI e2'
        have hbx := HST.out.box
        rw [e1', e2'] at hbx
        have hx := row_cells hbx rfl
        have hr := row_cells HST.out.res rfl
        have hf := free_row' HST.out.res (rfl : wr.heap[w.heap.size + 1]? = _)
        have b0 := hx 0
        have b1 := hx 1
        have b2 := hx 2
        have b3 := hx 3
        have r0 := hr 0
        have r1 := hr 1
        have r2 := hr 2
        have r3 := hr 3
        have f0 := hf 0
        have f1 := hf 1
        have f2 := hf 2
        have f3 := hf 3
        clear e1 e2 e1' e2' hbx hx hr hf hin
        go_wp2
        have hne : ∀ t, EE f f.blocks.length t → (val1 t).ownBlock ≠ some (w.heap.size + 1) := fun t ht e => by have := (HST.out.own.lt ht e).1; omega
        refine bodyPost_ret (v := .agg #[.slice PA1 f.params.length pc1, .int .i64 f.arrays, .int .i64 f.cells, .slice BA1 f.blocks.length bc1]) (by simp [results, Try.results44, go_sem, r0, r1, r2, r3]) rfl ⟨val1, by rw [E1.out, E2.out], ?_, ?_⟩
        · exact (((HST.out.own.other hne).other hne).other hne).other hne
        · exact (((HST.out.low.setCell (by simp) _).setCell (by simp) _).setCell (by simp) _).setCell (by simp) _

end Go.Proofs.Ytocnlclighonfaa

namespace Go.Proofs.Ytocnlclighonfaa
open Go.RowKit

def cellAt (w : World) (v : Value) (j : Nat) : Value := match v with
  | .slice (some a) _ _ => (w.cell? ⟨a.block, a.off + j, none⟩).getD (.slice none 0 0)
  | _ => .slice none 0 0

/-- what each list's value is, as it lies in memory -/
def readVals (w : World) (pv bv : Value) : Vals
  | .params => pv
  | .blocks => bv
  | .phis k => cellAt w bv (k * 6)
  | .code k => cellAt w bv (k * 6 + 1)
  | .ends k => cellAt w bv (k * 6 + 4)
  | .fr k i => cellAt w (cellAt w bv (k * 6)) (i * 4 + 2)
  | .vals k i => cellAt w (cellAt w bv (k * 6)) (i * 4 + 3)
  | .args k i => cellAt w (cellAt w bv (k * 6 + 1)) (i * 4 + 2)

section
variable {w : World} {B : Nat} {pv bv : Value} {f : FuncM}

theorem cellAt_of {b off n c j : Nat} {u : Value} (h : w.cell? ⟨b, off + j, none⟩ = some u) : cellAt w (.slice (some ⟨b, off, none⟩) n c) j = u := by
  unfold cellAt
  simp only [h, Option.getD_some]

/-- what a list of blocks says at k -/
theorem read_block (hb : BlocksR w B bv f.blocks) {k : Nat} {q : BlockM} (hq : f.blocks[k]? = some q) :
    ∃ b off n c, bv = .slice (some ⟨b, off, none⟩) n c ∧ b < B ∧ w.cell? ⟨b, off + k * 6, none⟩ = some (readVals w pv bv (.phis k)) ∧ w.cell? ⟨b, off + k * 6 + 1, none⟩ = some (readVals w pv bv (.code k)) ∧ w.cell? ⟨b, off + k * 6 + 2, none⟩ = some (.int .i64 q.term.op) ∧ w.cell? ⟨b, off + k * 6 + 3, none⟩ = some (.int .i64 q.term.val) ∧
      w.cell? ⟨b, off + k * 6 + 4, none⟩ = some (readVals w pv bv (.ends k)) ∧ w.cell? ⟨b, off + k * 6 + 5, none⟩ = some (.int .i64 q.term.n) ∧
      PhisR w B (readVals w pv bv (.phis k)) q.phis ∧ CodeR w B (readVals w pv bv (.code k)) q.code ∧ Ints w B (readVals w pv bv (.ends k)) q.term.to := by
  obtain ⟨A, c, rfl, hm, hx⟩ := hb
  obtain ⟨b, off, p, cv, tv, rfl, hbB, e0, e1, e2, e3, e4, e5, hp, hc, ht, _⟩ := hx k q hq
  have h0 : readVals w pv (.slice (some ⟨b, off, none⟩) f.blocks.length c) (.phis k) = p := by show cellAt w (.slice (some ⟨b, off, none⟩) f.blocks.length c) (k * 6) = p; exact cellAt_of e0
  have h1 : readVals w pv (.slice (some ⟨b, off, none⟩) f.blocks.length c) (.code k) = cv := by show cellAt w (.slice (some ⟨b, off, none⟩) f.blocks.length c) (k * 6 + 1) = cv; exact cellAt_of (by rw [← Nat.add_assoc]; exact e1)
  have h4 : readVals w pv (.slice (some ⟨b, off, none⟩) f.blocks.length c) (.ends k) = tv := by show cellAt w (.slice (some ⟨b, off, none⟩) f.blocks.length c) (k * 6 + 4) = tv; exact cellAt_of (by rw [← Nat.add_assoc]; exact e4)
  rw [h0, h1, h4]
  exact ⟨b, off, _, _, rfl, hbB, e0, e1, e2, e3, e4, e5, hp, hc, ht⟩

theorem read_phi {v : Value} {ps : List PhiM} (hp : PhisR w B v ps) {i : Nat} {p : PhiM} (hi : ps[i]? = some p) :
    ∃ b off n c, v = .slice (some ⟨b, off, none⟩) n c ∧ b < B ∧ w.cell? ⟨b, off + i * 4, none⟩ = some (.int .i64 p.id) ∧ w.cell? ⟨b, off + i * 4 + 1, none⟩ = some (.int .i64 p.typ) ∧ w.cell? ⟨b, off + i * 4 + 2, none⟩ = some (cellAt w v (i * 4 + 2)) ∧ w.cell? ⟨b, off + i * 4 + 3, none⟩ = some (cellAt w v (i * 4 + 3)) ∧
      Ints w B (cellAt w v (i * 4 + 2)) p.fr ∧ Ints w B (cellAt w v (i * 4 + 3)) p.vals := by
  obtain ⟨A, c, rfl, hm, hx⟩ := hp
  obtain ⟨b, off, fv, vv, rfl, hbB, e0, e1, e2, e3, hf, hv, _⟩ := hx i p hi
  have h2 : cellAt w (.slice (some ⟨b, off, none⟩) ps.length c) (i * 4 + 2) = fv := cellAt_of (by rw [← Nat.add_assoc]; exact e2)
  have h3 : cellAt w (.slice (some ⟨b, off, none⟩) ps.length c) (i * 4 + 3) = vv := cellAt_of (by rw [← Nat.add_assoc]; exact e3)
  rw [h2, h3]
  exact ⟨b, off, _, _, rfl, hbB, e0, e1, e2, e3, hf, hv⟩

theorem read_instr {v : Value} {ps : List InstrM} (hp : CodeR w B v ps) {i : Nat} {p : InstrM} (hi : ps[i]? = some p) :
    ∃ b off n c, v = .slice (some ⟨b, off, none⟩) n c ∧ b < B ∧ w.cell? ⟨b, off + i * 4, none⟩ = some (.int .i64 p.op) ∧ w.cell? ⟨b, off + i * 4 + 1, none⟩ = some (.int .i64 p.id) ∧ w.cell? ⟨b, off + i * 4 + 2, none⟩ = some (cellAt w v (i * 4 + 2)) ∧ w.cell? ⟨b, off + i * 4 + 3, none⟩ = some (.int .i64 p.n) ∧
      Ints w B (cellAt w v (i * 4 + 2)) p.args := by
  obtain ⟨A, c, rfl, hm, hx⟩ := hp
  obtain ⟨b, off, fv, rfl, hbB, e0, e1, e2, e3, hf, _⟩ := hx i p hi
  have h2 : cellAt w (.slice (some ⟨b, off, none⟩) ps.length c) (i * 4 + 2) = fv := cellAt_of (by rw [← Nat.add_assoc]; exact e2)
  rw [h2]
  exact ⟨b, off, _, _, rfl, hbB, e0, e1, e2, e3, hf⟩

theorem read_all (hp : Ints w B pv f.params) (hb : BlocksR w B bv f.blocks) : RdF w B f (readVals w pv bv) := by
  intro t d hd
  cases t with
  | params =>
    cases hd
    exact hp.row
  | blocks =>
    cases hd
    obtain ⟨A, c, hv, hm, _⟩ := id hb
    refine ⟨A, c, hv, hm, fun j u hu => ?_⟩
    obtain ⟨k, r, q, rfl, hr, hq, hc⟩ := cellsOf_div (blockCells_len _) hu
    obtain ⟨b, off, n, c', hv', hbB, e0, e1, e2, e3, e4, e5, _⟩ := read_block (pv := pv) hb hq
    have hA : A = some ⟨b, off, none⟩ := by rw [hv] at hv'; cases hv'; rfl
    refine ⟨b, off, hA, hbB, ?_⟩
    obtain rfl | rfl | rfl | rfl | rfl | rfl : r = 0 ∨ r = 1 ∨ r = 2 ∨ r = 3 ∨ r = 4 ∨ r = 5 := by omega
    all_goals (cases hc; rw [← Nat.add_assoc]; assumption)
  | phis k =>
    cases hq : f.blocks[k]? with
    | none => simp only [rowOf, hq] at hd; cases hd
    | some q =>
      simp only [rowOf, hq, Option.map_some, Option.some.injEq] at hd
      subst hd
      obtain ⟨_, _, _, _, _, _, _, _, _, _, _, _, hph, _⟩ := read_block (pv := pv) hb hq
      obtain ⟨A, c, hv, hm, _⟩ := id hph
      refine ⟨A, c, hv, hm, fun j u hu => ?_⟩
      obtain ⟨i, r, p, rfl, hr, hp, hc⟩ := cellsOf_div (phiCells_len _ k) hu
      obtain ⟨b, off, n, c', hv', hbB, e0, e1, e2, e3, _⟩ := read_phi hph hp
      have hA : A = some ⟨b, off, none⟩ := by rw [hv] at hv'; cases hv'; rfl
      refine ⟨b, off, hA, hbB, ?_⟩
      obtain rfl | rfl | rfl | rfl : r = 0 ∨ r = 1 ∨ r = 2 ∨ r = 3 := by omega
      all_goals (cases hc; rw [← Nat.add_assoc]; assumption)
  | code k =>
    cases hq : f.blocks[k]? with
    | none => simp only [rowOf, hq] at hd; cases hd
    | some q =>
      simp only [rowOf, hq, Option.map_some, Option.some.injEq] at hd
      subst hd
      obtain ⟨_, _, _, _, _, _, _, _, _, _, _, _, _, hco, _⟩ := read_block (pv := pv) hb hq
      obtain ⟨A, c, hv, hm, _⟩ := id hco
      refine ⟨A, c, hv, hm, fun j u hu => ?_⟩
      obtain ⟨i, r, p, rfl, hr, hp, hc⟩ := cellsOf_div (instrCells_len _ k) hu
      obtain ⟨b, off, n, c', hv', hbB, e0, e1, e2, e3, _⟩ := read_instr hco hp
      have hA : A = some ⟨b, off, none⟩ := by rw [hv] at hv'; cases hv'; rfl
      refine ⟨b, off, hA, hbB, ?_⟩
      obtain rfl | rfl | rfl | rfl : r = 0 ∨ r = 1 ∨ r = 2 ∨ r = 3 := by omega
      all_goals (cases hc; rw [← Nat.add_assoc]; assumption)
  | ends k =>
    cases hq : f.blocks[k]? with
    | none => simp only [rowOf, hq] at hd; cases hd
    | some q =>
      simp only [rowOf, hq, Option.map_some, Option.some.injEq] at hd
      subst hd
      obtain ⟨_, _, _, _, _, _, _, _, _, _, _, _, _, _, ht⟩ := read_block (pv := pv) hb hq
      exact ht.row
  | fr k i =>
    cases hq : f.blocks[k]? with
    | none => simp only [rowOf, hq] at hd; cases hd
    | some q =>
      cases hp : q.phis[i]? with
      | none => simp only [rowOf, hq, Option.bind_some, hp] at hd; cases hd
      | some p =>
        simp only [rowOf, hq, Option.bind_some, hp, Option.map_some, Option.some.injEq] at hd
        subst hd
        obtain ⟨_, _, _, _, _, _, _, _, _, _, _, _, hph, _⟩ := read_block (pv := pv) hb hq
        obtain ⟨_, _, _, _, _, _, _, _, _, _, hf, _⟩ := read_phi hph hp
        exact hf.row
  | vals k i =>
    cases hq : f.blocks[k]? with
    | none => simp only [rowOf, hq] at hd; cases hd
    | some q =>
      cases hp : q.phis[i]? with
      | none => simp only [rowOf, hq, Option.bind_some, hp] at hd; cases hd
      | some p =>
        simp only [rowOf, hq, Option.bind_some, hp, Option.map_some, Option.some.injEq] at hd
        subst hd
        obtain ⟨_, _, _, _, _, _, _, _, _, _, _, _, hph, _⟩ := read_block (pv := pv) hb hq
        obtain ⟨_, _, _, _, _, _, _, _, _, _, _, hf⟩ := read_phi hph hp
        exact hf.row
  | args k i =>
    cases hq : f.blocks[k]? with
    | none => simp only [rowOf, hq] at hd; cases hd
    | some q =>
      cases hp : q.code[i]? with
      | none => simp only [rowOf, hq, Option.bind_some, hp] at hd; cases hd
      | some p =>
        simp only [rowOf, hq, Option.bind_some, hp, Option.map_some, Option.some.injEq] at hd
        subst hd
        obtain ⟨_, _, _, _, _, _, _, _, _, _, _, _, _, hco, _⟩ := read_block (pv := pv) hb hq
        obtain ⟨_, _, _, _, _, _, _, _, _, _, hf⟩ := read_instr hco hp
        exact hf.row
end

end Go.Proofs.Ytocnlclighonfaa

namespace Go.Proofs.Ytocnlclighonfaa
open Go.RowKit

structure SmallF (f : FuncM) : Prop where
  params : f.params.length ≤ 100000
  blocks : f.blocks.length ≤ 100000
  each : ∀ b ∈ f.blocks, Small b

theorem EE.all {f : FuncM} {val : Vals} {t : Tag} {d : RowD} (h : rowOf f val t = some d) : EE f f.blocks.length t := by
  cases t with
  | params => exact .inl rfl
  | blocks => exact .inr (.inl rfl)
  | phis k =>
    cases hq : f.blocks[k]? with
    | none => simp only [rowOf, hq] at h; cases h
    | some q => exact .inr (.inr ⟨k, q, (List.getElem?_eq_some_iff.1 hq).1, hq, .inl rfl⟩)
  | code k =>
    cases hq : f.blocks[k]? with
    | none => simp only [rowOf, hq] at h; cases h
    | some q => exact .inr (.inr ⟨k, q, (List.getElem?_eq_some_iff.1 hq).1, hq, .inr (.inl rfl)⟩)
  | ends k =>
    cases hq : f.blocks[k]? with
    | none => simp only [rowOf, hq] at h; cases h
    | some q => exact .inr (.inr ⟨k, q, (List.getElem?_eq_some_iff.1 hq).1, hq, .inr (.inr (.inl rfl))⟩)
  | fr k i =>
    cases hq : f.blocks[k]? with
    | none => simp only [rowOf, hq] at h; cases h
    | some q =>
      cases hp : q.phis[i]? with
      | none => simp only [rowOf, hq, Option.bind_some, hp] at h; cases h
      | some p => exact .inr (.inr ⟨k, q, (List.getElem?_eq_some_iff.1 hq).1, hq, .inr (.inr (.inr (.inl ⟨i, (List.getElem?_eq_some_iff.1 hp).1, .inl rfl⟩)))⟩)
  | vals k i =>
    cases hq : f.blocks[k]? with
    | none => simp only [rowOf, hq] at h; cases h
    | some q =>
      cases hp : q.phis[i]? with
      | none => simp only [rowOf, hq, Option.bind_some, hp] at h; cases h
      | some p => exact .inr (.inr ⟨k, q, (List.getElem?_eq_some_iff.1 hq).1, hq, .inr (.inr (.inr (.inl ⟨i, (List.getElem?_eq_some_iff.1 hp).1, .inr rfl⟩)))⟩)
  | args k i =>
    cases hq : f.blocks[k]? with
    | none => simp only [rowOf, hq] at h; cases h
    | some q =>
      cases hp : q.code[i]? with
      | none => simp only [rowOf, hq, Option.bind_some, hp] at h; cases h
      | some p => exact .inr (.inr ⟨k, q, (List.getElem?_eq_some_iff.1 hq).1, hq, .inr (.inr (.inr (.inr ⟨i, (List.getElem?_eq_some_iff.1 hp).1, rfl⟩)))⟩)

theorem SmallF.len {f : FuncM} {val : Vals} {t : Tag} {d : RowD} (hs : SmallF f) (h : rowOf f val t = some d) : d.len ≤ 100000 := by
  cases t with
  | params => cases h; exact hs.params
  | blocks => cases h; exact hs.blocks
  | phis k =>
    cases hq : f.blocks[k]? with
    | none => simp only [rowOf, hq] at h; cases h
    | some q => rw [row_phis hq] at h; cases h; exact (hs.each q (List.mem_of_getElem? hq)).phis
  | code k =>
    cases hq : f.blocks[k]? with
    | none => simp only [rowOf, hq] at h; cases h
    | some q => rw [row_code hq] at h; cases h; exact (hs.each q (List.mem_of_getElem? hq)).code
  | ends k =>
    cases hq : f.blocks[k]? with
    | none => simp only [rowOf, hq] at h; cases h
    | some q => rw [row_ends hq] at h; cases h; exact (hs.each q (List.mem_of_getElem? hq)).ends
  | fr k i =>
    cases hq : f.blocks[k]? with
    | none => simp only [rowOf, hq] at h; cases h
    | some q =>
      cases hp : q.phis[i]? with
      | none => simp only [rowOf, hq, Option.bind_some, hp] at h; cases h
      | some p => simp only [rowOf, hq, Option.bind_some, hp, Option.map_some, Option.some.injEq] at h; subst h; exact ((hs.each q (List.mem_of_getElem? hq)).fr p (List.mem_of_getElem? hp)).1
  | vals k i =>
    cases hq : f.blocks[k]? with
    | none => simp only [rowOf, hq] at h; cases h
    | some q =>
      cases hp : q.phis[i]? with
      | none => simp only [rowOf, hq, Option.bind_some, hp] at h; cases h
      | some p => simp only [rowOf, hq, Option.bind_some, hp, Option.map_some, Option.some.injEq] at h; subst h; exact ((hs.each q (List.mem_of_getElem? hq)).fr p (List.mem_of_getElem? hp)).2
  | args k i =>
    cases hq : f.blocks[k]? with
    | none => simp only [rowOf, hq] at h; cases h
    | some q =>
      cases hp : q.code[i]? with
      | none => simp only [rowOf, hq, Option.bind_some, hp] at h; cases h
      | some p => simp only [rowOf, hq, Option.bind_some, hp, Option.map_some, Option.some.injEq] at h; subst h; exact (hs.each q (List.mem_of_getElem? hq)).args p (List.mem_of_getElem? hp)

/-- what is owned whole can be read -/
theorem OwnG.rd {w : World} {base : Nat} {f : FuncM} {val : Vals} (h : OwnG w base (rowOf f val) val (EE f f.blocks.length)) (hs : SmallF f) : RdF w w.heap.size f val := by
  intro t d hd
  have hown := h.rows t d (EE.all hd) hd
  have hl := hs.len hd
  rcases hown.2 with ⟨hv, h0⟩ | ⟨g, cap, cur, hv, hb, hg, r⟩
  · refine ⟨none, 0, by rw [hv, h0], by omega, fun j u hu => ?_⟩
    have h1 := hown.1
    have h2 := (List.getElem?_eq_some_iff.1 hu).1
    rw [h1, h0] at h2
    omega
  · refine ⟨some ⟨g, 0, none⟩, cap, hv, by omega, fun j u hu => ⟨g, 0, rfl, (Array.getElem?_eq_some_iff.1 hg).1, ?_⟩⟩
    rw [hv] at hown
    have hj := (List.getElem?_eq_some_iff.1 hu).1
    rw [hown.1] at hj
    rw [Nat.zero_add, World.ownsRow.cellAt hown j hj, hu]

theorem mem_sum {l : List BlockM} {b : BlockM} (h : b ∈ l) : sizeB b ≤ (l.map sizeB).sum := by
  induction l with
  | nil => cases h
  | cons a l ih =>
    rw [List.map_cons, List.sum_cons]
    rcases List.mem_cons.1 h with rfl | h
    · omega
    · have := ih h; omega

theorem takes_few (op : Int) : (takesS op).length ≤ 3 := by
  unfold takesS
  rw [List.length_map]
  rcases op_cases op with h | h | h
  · rcases h with rfl | rfl | rfl | rfl | rfl | rfl | rfl | rfl | rfl | rfl | rfl | rfl | rfl <;> decide
  · rcases h with rfl | rfl | rfl | rfl | rfl | rfl | rfl | rfl | rfl | rfl | rfl | rfl <;> decide
  · rw [shapeS_none h]; decide

theorem term_few {f : FuncM} {t : TermM} (h : termB f t = true) : t.to.length ≤ 2 := by
  unfold termB at h
  simp only [Bool.and_eq_true] at h
  have h2 := h.2
  split at h2
  · simp only [Bool.and_eq_true, beq_iff_eq] at h2; omega
  · split at h2
    · simp only [Bool.and_eq_true, beq_iff_eq] at h2; omega
    · split at h2
      · simp only [Bool.and_eq_true, beq_iff_eq] at h2; omega
      · split at h2
        · simp only [Bool.and_eq_true, beq_iff_eq] at h2; omega
        · cases h2

/-- a right function is small -/
theorem look_small {f : FuncM} (h : (lookM f).1 = 0) : SmallF f := by
  have hsz := look_size h
  have hall := (formed_all (look_formed h)).1
  have hterm := look_term h
  have hnb := look_some_block h
  have hpar : f.params.length ≤ 16 := by
    have hf := look_formed h
    unfold formedM at hf
    split at hf
    · rename_i hl
      simp only [Bool.and_eq_true] at hl
      have h1 := hl.1.1
      unfold limitsB at h1
      simp only [Bool.and_eq_true, decide_eq_true_eq] at h1
      exact h1.1
    · cases hf
  refine ⟨by omega, by omega, fun b hb => ?_⟩
  have hs := mem_sum hb
  unfold sizeM at hsz
  unfold sizeB at hs hsz
  have hr := hall b hb
  refine ⟨by omega, by omega, by have := term_few (hterm b hb); omega, fun p hp => ?_, fun x hx => ?_⟩
  · have h2 := hr.1 p hp
    unfold phiB at h2
    simp only [Bool.and_eq_true, beq_iff_eq] at h2
    have h3 := once_len h2.2.2
    omega
  · have h2 := hr.2 x hx
    unfold instrB at h2
    simp only [Bool.and_eq_true, beq_iff_eq] at h2
    have := takes_few x.op
    omega

/-- fresh.Func of a right function, as it is called: all of its lists are new, each apart from the others -/
theorem fresh_any (f : FuncM) (B : Nat) (pv bv : Value) (w : World) (hpv : Ints w B pv f.params) (hbv : BlocksR w B bv f.blocks) (hB : B ≤ w.heap.size) (h0 : (lookM f).1 = 0) :
    Calls Try.prog 44 #[.agg #[pv, .int .i64 f.arrays, .int .i64 f.cells, bv]] w (FreshPost f w) := by
  have hs := look_small h0
  exact freshFunc_any f B (readVals w pv bv) w (read_all hpv hbv) hB hs.params hs.blocks hs.each

end Go.Proofs.Ytocnlclighonfaa

namespace Go.Proofs.Ytocnlclighonfaa

/-- a phi is told of the block in the middle -/
def comeM (from_ mid : Int) (stays : Bool) (p : PhiM) : PhiM :=
  if from_ ∈ p.fr then
    (if stays then { p with fr := p.fr ++ [mid], vals := p.vals ++ [p.vals[p.fr.idxOf from_]?.getD 0] } else { p with fr := p.fr.set (p.fr.idxOf from_) mid })
  else p

def endM (k : Nat) (mid : Int) (b : BlockM) : BlockM := { b with term := ⟨b.term.op, b.term.val, b.term.to.set k mid, b.term.n⟩ }
def phisM (from_ mid : Int) (stays : Bool) (b : BlockM) : BlockM := { b with phis := b.phis.map (comeM from_ mid stays) }

/-- the target of an end -/
def toOf (f : FuncM) (from_ k : Nat) : Int := match f.blocks[from_]? with | some b => b.term.to[k]?.getD 0 | none => 0
def staysM (f : FuncM) (from_ k : Nat) : Bool := match f.blocks[from_]? with | some b => decide (toOf f from_ k ∈ b.term.to.set k (f.blocks.length : Int)) | none => false

def splitM (f : FuncM) (from_ k : Nat) : FuncM :=
  { f with blocks := ((f.blocks.modify from_ (endM k f.blocks.length)).modify (toOf f from_ k).toNat (phisM from_ f.blocks.length (staysM f from_ k))) ++ [⟨[], [], ⟨1, -1, [toOf f from_ k], 0⟩⟩] }

theorem onceS_of {nb : Nat} : ∀ (l seen : List Int), l.Nodup → (∀ x ∈ l, 0 ≤ x ∧ x ≤ (nb : Int) - 1) → (∀ x ∈ l, x ∉ seen) → onceB nb seen l = true := by
  intro l
  induction l with
  | nil => intro _ _ _ _; rfl
  | cons a l ih =>
    intro seen hn hr hs
    rw [List.nodup_cons] at hn
    have h1 := hr a (List.mem_cons_self ..)
    have h2 := hs a (List.mem_cons_self ..)
    unfold onceB withinB
    simp only [Bool.and_eq_true, decide_eq_true_eq, Bool.not_eq_true', List.contains_eq_mem, decide_eq_false_iff_not]
    refine ⟨⟨⟨h1.1, h1.2⟩, h2⟩, ih (a :: seen) hn.2 (fun x hx => hr x (List.mem_cons_of_mem _ hx)) (fun x hx => ?_)⟩
    rw [List.mem_cons, not_or]
    exact ⟨fun e => hn.1 (e ▸ hx), hs x (List.mem_cons_of_mem _ hx)⟩

theorem once_more {nb : Nat} {l : List Int} (h : onceB nb [] l = true) : onceB (nb + 1) [] l = true := by
  obtain ⟨h1, h2, _⟩ := once_nodup l [] h
  exact onceS_of l [] h1 (fun x hx => by have := h2 x hx; omega) (by simp)

theorem once_push {nb : Nat} {l : List Int} (h : onceB nb [] l = true) : onceB (nb + 1) [] (l ++ [(nb : Int)]) = true := by
  obtain ⟨h1, h2, _⟩ := once_nodup l [] h
  refine onceS_of _ [] ?_ (fun x hx => ?_) (by simp)
  · rw [List.nodup_append]
    refine ⟨h1, by simp, fun a ha b hb e => ?_⟩
    simp at hb
    have := h2 a ha
    omega
  · rcases List.mem_append.1 hx with hx | hx
    · have := h2 x hx; omega
    · simp at hx; omega

theorem nodup_set {l : List Int} {i : Nat} {y : Int} (h : l.Nodup) (hy : y ∉ l) : (l.set i y).Nodup := by
  induction l generalizing i with
  | nil => simp
  | cons a l ih =>
    rw [List.nodup_cons] at h
    rw [List.mem_cons, not_or] at hy
    cases i with
    | zero => rw [List.set_cons_zero, List.nodup_cons]; exact ⟨hy.2, h.2⟩
    | succ i =>
      rw [List.set_cons_succ, List.nodup_cons]
      refine ⟨fun hm => ?_, ih h.2 hy.2⟩
      rcases List.mem_or_eq_of_mem_set hm with h2 | h2
      · exact h.1 h2
      · exact hy.1 h2.symm

theorem once_set {nb i : Nat} {l : List Int} (h : onceB nb [] l = true) : onceB (nb + 1) [] (l.set i (nb : Int)) = true := by
  obtain ⟨h1, h2, _⟩ := once_nodup l [] h
  refine onceS_of _ [] (nodup_set h1 (fun hm => by have := h2 _ hm; omega)) (fun x hx => ?_) (by simp)
  rcases List.mem_or_eq_of_mem_set hx with h3 | h3
  · have := h2 x h3; omega
  · omega

/-- one more block, otherwise the same -/
def Wider (f g : FuncM) : Prop := g.params = f.params ∧ g.arrays = f.arrays ∧ g.cells = f.cells ∧ g.blocks.length = f.blocks.length + 1

theorem phi_wider {f g : FuncM} (hw : Wider f g) {p : PhiM} (h : phiB f p = true) : phiB g p = true := by
  unfold phiB at *
  simp only [Bool.and_eq_true, beq_iff_eq] at *
  rw [hw.2.2.2]
  exact ⟨h.1, h.2.1, once_more h.2.2⟩

theorem phi_come {f g : FuncM} (hw : Wider f g) {p : PhiM} {from_ : Int} {s : Bool} (h : phiB f p = true) : phiB g (comeM from_ f.blocks.length s p) = true := by
  unfold comeM
  split
  · unfold phiB at *
    simp only [Bool.and_eq_true, beq_iff_eq] at h
    split
    · simp only [Bool.and_eq_true, beq_iff_eq, List.length_append, List.length_cons, List.length_nil]
      rw [hw.2.2.2]
      exact ⟨h.1, by omega, once_push h.2.2⟩
    · simp only [Bool.and_eq_true, beq_iff_eq, List.length_set]
      rw [hw.2.2.2]
      exact ⟨h.1, h.2.1, once_set h.2.2⟩
  · exact phi_wider hw h

theorem targets_wider {nb : Nat} {ts : List Int} (h : targetsB nb ts = true) : targetsB (nb + 1) ts = true := by
  unfold targetsB withinB at *
  simp only [List.all_eq_true, Bool.and_eq_true, decide_eq_true_eq] at *
  intro x hx
  have := h x hx
  omega

theorem term_wider {f g : FuncM} (hw : Wider f g) {t : TermM} (h : termB f t = true) : termB g t = true := by
  unfold termB at *
  simp only [Bool.and_eq_true] at *
  rw [hw.2.2.2]
  exact ⟨targets_wider h.1, h.2⟩

theorem term_end {f g : FuncM} (hw : Wider f g) (h0 : 0 < f.blocks.length) {b : BlockM} {k : Nat} (h : termB f b.term = true) : termB g (endM k f.blocks.length b).term = true := by
  unfold termB at *
  simp only [Bool.and_eq_true] at h
  simp only [endM, Bool.and_eq_true, List.length_set]
  rw [hw.2.2.2]
  refine ⟨?_, h.2⟩
  have h1 := h.1
  unfold targetsB withinB at *
  simp only [List.all_eq_true, Bool.and_eq_true, decide_eq_true_eq] at *
  intro x hx
  rcases List.mem_or_eq_of_mem_set hx with h3 | h3
  · have := h1 x h3; omega
  · omega

/-- a block that defines the same, and is right beside one more block -/
structure Variant (f g : FuncM) (b c : BlockM) : Prop where
  ids : c.phis.map (fun p => (p.id, p.typ)) = b.phis.map (fun p => (p.id, p.typ))
  phis : (∀ p ∈ b.phis, phiB f p = true) → ∀ p ∈ c.phis, phiB g p = true
  code : c.code = b.code
  term : termB f b.term = true → termB g c.term = true
  uses : ∀ u ∈ usesBlock c, u ∈ usesBlock b

theorem phisStep_variant {f g : FuncM} (hw : Wider f g) : ∀ (l m : List PhiM) (ds d : Defs), m.map (fun p => (p.id, p.typ)) = l.map (fun p => (p.id, p.typ)) → (∀ p ∈ m, phiB g p = true) → phisStep f ds l = some d → phisStep g ds m = some d := by
  intro l
  induction l with
  | nil =>
    intro m ds d hm _ h
    have : m = [] := by simpa using hm
    subst this
    exact h
  | cons p l ih =>
    intro m ds d hm hg h
    cases m with
    | nil => simp at hm
    | cons q m =>
      simp only [List.map_cons, List.cons.injEq, Prod.mk.injEq] at hm
      unfold phisStep at h ⊢
      rw [Option.bind_eq_some_iff] at h
      obtain ⟨d1, h1, h2⟩ := h
      have hq : phiStep g ds q = some d1 := by
        unfold phiStep at *
        rw [if_pos (hg q (List.mem_cons_self ..))]
        split at h1
        · rw [hm.1.1, hm.1.2, hw.1]; exact h1
        · cases h1
      rw [hq]
      exact ih m d1 d hm.2 (fun p hp => hg p (List.mem_cons_of_mem _ hp)) h2

theorem instr_wider {f g : FuncM} (hw : Wider f g) (x : InstrM) : instrB g x = instrB f x := by
  unfold instrB fitsB
  rw [hw.2.1, hw.2.2.1]

theorem codeStep_wider {f g : FuncM} (hw : Wider f g) : ∀ (l : List InstrM) (ds : Defs), codeStep g ds l = codeStep f ds l := by
  intro l
  induction l with
  | nil => intro ds; rfl
  | cons x l ih =>
    intro ds
    unfold codeStep
    have : instrStep g ds x = instrStep f ds x := by
      unfold instrStep
      rw [instr_wider hw, hw.1]
    rw [this]
    congr 1
    funext d
    exact ih d

theorem blockStep_variant {f g : FuncM} (hw : Wider f g) {b c : BlockM} {ds d : Defs} (hv : Variant f g b c) (hr : ∀ p ∈ b.phis, phiB f p = true) (h : blockStep f ds b = some d) : blockStep g ds c = some d := by
  unfold blockStep at *
  rw [Option.bind_eq_some_iff] at h
  obtain ⟨d2, h3, h4⟩ := h
  rw [Option.bind_eq_some_iff] at h4
  obtain ⟨d3, h5, h6⟩ := h4
  rw [phisStep_variant hw _ _ _ _ hv.ids (hv.phis hr) h3, Option.bind_some, hv.code, codeStep_wider hw, h5, Option.bind_some]
  split at h6
  · rename_i ht
    rw [if_pos (hv.term ht)]
    exact h6
  · cases h6

theorem blocksStep_variant {f g : FuncM} (hw : Wider f g) : ∀ (l m : List BlockM) (ds d : Defs), l.length = m.length → (∀ (i : Nat) b c, l[i]? = some b → m[i]? = some c → Variant f g b c) → (∀ b ∈ l, ∀ p ∈ b.phis, phiB f p = true) → blocksStep f ds l = some d → blocksStep g ds m = some d := by
  intro l
  induction l with
  | nil =>
    intro m ds d hl _ _ h
    have : m = [] := List.eq_nil_of_length_eq_zero (by simpa using hl.symm)
    subst this
    exact h
  | cons b l ih =>
    intro m ds d hl hv hr h
    cases m with
    | nil => simp at hl
    | cons c m =>
      unfold blocksStep at h ⊢
      rw [Option.bind_eq_some_iff] at h
      obtain ⟨d1, h1, h2⟩ := h
      rw [blockStep_variant hw (hv 0 b c rfl rfl) (hr b (List.mem_cons_self ..)) h1, Option.bind_some]
      exact ih m d1 d (by simpa using hl) (fun i x y hx hy => hv (i + 1) x y (by simpa using hx) (by simpa using hy)) (fun x hx => hr x (List.mem_cons_of_mem _ hx)) h2

theorem blocksStep_snoc {g : FuncM} {d e : Defs} {c : BlockM} : ∀ (m : List BlockM) (ds : Defs), blocksStep g ds m = some d → blockStep g d c = some e → blocksStep g ds (m ++ [c]) = some e := by
  intro m
  induction m with
  | nil =>
    intro ds h hc
    injection h with h
    subst h
    show (blockStep g ds c).bind _ = some e
    rw [hc]
    rfl
  | cons b m ih =>
    intro ds h hc
    unfold blocksStep at h
    rw [Option.bind_eq_some_iff] at h
    obtain ⟨d1, h1, h2⟩ := h
    show (blockStep g ds b).bind _ = some e
    rw [h1]
    exact ih d1 h2 hc

theorem come_ids (from_ mid : Int) (s : Bool) (p : PhiM) : ((comeM from_ mid s p).id, (comeM from_ mid s p).typ) = (p.id, p.typ) := by
  unfold comeM
  split
  · split <;> rfl
  · rfl

theorem come_uses {from_ mid : Int} {s : Bool} {p : PhiM} (hl : p.vals.length = p.fr.length) : ∀ u ∈ usesPhi (comeM from_ mid s p), u ∈ usesPhi p := by
  intro u hu
  unfold comeM at hu
  split at hu
  · rename_i hm
    split at hu
    · unfold usesPhi at *
      simp only [List.map_append, List.mem_append, List.map_cons, List.map_nil, List.mem_singleton] at hu
      rcases hu with hu | hu
      · exact hu
      · have hlt : p.fr.idxOf from_ < p.vals.length := by rw [hl]; exact List.idxOf_lt_length_iff.2 hm
        rw [hu, List.getElem?_eq_getElem hlt]
        exact List.mem_map.2 ⟨_, List.getElem_mem hlt, rfl⟩
    · exact hu
  · exact hu

theorem variant_phis {f g : FuncM} (hw : Wider f g) {b c : BlockM} {from_ : Int} {s : Bool} (hr : ∀ p ∈ b.phis, phiB f p = true) (hv : Variant f g b c) (hc : c.phis = b.phis) : Variant f g b (phisM from_ f.blocks.length s c) := by
  refine ⟨?_, fun _ p hp => ?_, hv.code, hv.term, fun u hu => ?_⟩
  · unfold phisM
    simp only [List.map_map]
    rw [hc]
    apply List.map_congr_left
    intro p _
    exact come_ids _ _ _ p
  · unfold phisM at hp
    simp only [List.mem_map] at hp
    obtain ⟨q, hq, rfl⟩ := hp
    rw [hc] at hq
    exact phi_come hw (hr q hq)
  · unfold usesBlock phisM at hu
    simp only [List.mem_append, List.mem_flatMap, List.mem_map] at hu
    rcases hu with ⟨p, ⟨q, hq, rfl⟩, hu⟩ | hu
    · rw [hc] at hq
      have h1 := hr q hq
      unfold phiB at h1
      simp only [Bool.and_eq_true, beq_iff_eq] at h1
      have h2 := come_uses h1.2.1 u hu
      exact List.mem_append.2 (.inl (List.mem_flatMap.2 ⟨q, hq, h2⟩))
    · exact hv.uses u (List.mem_append.2 (.inr (by simpa using hu)))

theorem variant_self {f g : FuncM} (hw : Wider f g) (b : BlockM) : Variant f g b b :=
  ⟨rfl, fun h p hp => phi_wider hw (h p hp), rfl, fun h => term_wider hw h, fun _ h => h⟩

theorem variant_end {f g : FuncM} (hw : Wider f g) (h0 : 0 < f.blocks.length) (b : BlockM) (k : Nat) : Variant f g b (endM k f.blocks.length b) :=
  ⟨rfl, fun h p hp => phi_wider hw (h p hp), rfl, fun h => term_end hw h0 h, fun _ h => h⟩

/-- each block of a split function but the last one is a variant -/
theorem split_variant {f : FuncM} {from_ k : Nat} (hw : Wider f (splitM f from_ k)) (h0 : 0 < f.blocks.length) (hr : ∀ b ∈ f.blocks, ∀ p ∈ b.phis, phiB f p = true) :
    ∀ (i : Nat) b c, f.blocks[i]? = some b → ((f.blocks.modify from_ (endM k f.blocks.length)).modify (toOf f from_ k).toNat (phisM from_ f.blocks.length (staysM f from_ k)))[i]? = some c → Variant f (splitM f from_ k) b c := by
  intro i b c hb hc
  rw [List.getElem?_modify, List.getElem?_modify, hb] at hc
  have hrb := hr b (List.mem_of_getElem? hb)
  simp only [Option.map_eq_map, Option.map_some, Option.some.injEq] at hc
  subst hc
  split
  · split
    · exact variant_phis hw hrb (variant_end hw h0 b k) rfl
    · exact variant_phis hw hrb (variant_self hw b) rfl
  · split
    · exact variant_end hw h0 b k
    · exact variant_self hw b

theorem variant_size {f g : FuncM} {b c : BlockM} (h : Variant f g b c) : sizeB c = sizeB b := by
  unfold sizeB
  have h1 := congrArg List.length h.ids
  simp only [List.length_map] at h1
  rw [h1, h.code]

theorem sizes_same {f g : FuncM} : ∀ (l m : List BlockM), l.length = m.length → (∀ (i : Nat) b c, l[i]? = some b → m[i]? = some c → Variant f g b c) → (m.map sizeB).sum = (l.map sizeB).sum := by
  intro l
  induction l with
  | nil =>
    intro m hl _
    have : m = [] := List.eq_nil_of_length_eq_zero (by simpa using hl.symm)
    subst this
    rfl
  | cons b l ih =>
    intro m hl hv
    cases m with
    | nil => simp at hl
    | cons c m =>
      rw [List.map_cons, List.map_cons, List.sum_cons, List.sum_cons, variant_size (hv 0 b c rfl rfl), ih m (by simpa using hl) (fun i x y hx hy => hv (i + 1) x y (by simpa using hx) (by simpa using hy))]

theorem split_wider (f : FuncM) (from_ k : Nat) : Wider f (splitM f from_ k) := ⟨rfl, rfl, rfl, by simp [splitM]⟩

theorem split_size {f : FuncM} {from_ k : Nat} (h0 : 0 < f.blocks.length) (hr : ∀ b ∈ f.blocks, ∀ p ∈ b.phis, phiB f p = true) : sizeM (splitM f from_ k) = sizeM f + 1 := by
  have := sizes_same f.blocks _ (by simp) (split_variant (split_wider f from_ k) h0 hr)
  unfold sizeM splitM
  rw [List.map_append, List.sum_append, this]
  rfl

/-- a split function is right, if there is room -/
theorem look_split {f : FuncM} {from_ k : Nat} {b : BlockM} (h : (lookM f).1 = 0) (hb : f.blocks[from_]? = some b) (hk : k < b.term.to.length) (hn : f.blocks.length < 512) (hs : sizeM f < 4096) : (lookM (splitM f from_ k)).1 = 0 := by
  have hw := split_wider f from_ k
  have hnb := look_some_block h
  have hr : ∀ b ∈ f.blocks, ∀ p ∈ b.phis, phiB f p = true := fun b hb => ((formed_all (look_formed h)).1 b hb).1
  have hv := split_variant hw hnb.1 hr
  have hsz := split_size (from_ := from_) (k := k) hnb.1 hr
  have hto : 1 ≤ toOf f from_ k ∧ toOf f from_ k < f.blocks.length := by
    have h1 := term_in rfl (look_term h b (List.mem_of_getElem? hb))
    unfold toOf
    rw [hb]
    simp only [List.getElem?_eq_getElem hk, Option.getD_some]
    exact h1 _ (List.getElem_mem hk)
  have hfm : formedM (splitM f from_ k) = some (lookM f).2 := by
    have hf := look_formed h
    unfold formedM at hf ⊢
    split at hf
    · rename_i hl
      simp only [Bool.and_eq_true] at hl
      obtain ⟨⟨hlim, hpar⟩, hhead⟩ := hl
      rw [if_pos]
      · rw [hw.1]
        show blocksStep (splitM f from_ k) _ (_ ++ [_]) = _
        refine blocksStep_snoc _ _ (blocksStep_variant hw f.blocks _ _ _ (by simp) hv hr hf) ?_
        unfold blockStep
        show (some _).bind _ = _
        rw [Option.bind_some]
        show (some _).bind _ = _
        rw [Option.bind_some, if_pos]
        unfold termB targetsB withinB
        rw [hw.2.2.2]
        simp
        omega
      · simp only [Bool.and_eq_true]
        refine ⟨⟨?_, by rw [hw.1]; exact hpar⟩, ?_⟩
        · unfold limitsB withinB at *
          rw [hw.1, hw.2.1, hw.2.2.1, hw.2.2.2, hsz]
          simp only [Bool.and_eq_true, decide_eq_true_eq] at *
          omega
        · cases hbl : f.blocks with
          | nil => rw [hbl] at hnb; simp at hnb
          | cons b0 r =>
            rw [hbl] at hhead
            have hm : ∃ c0 m, ((f.blocks.modify from_ (endM k f.blocks.length)).modify (toOf f from_ k).toNat (phisM from_ f.blocks.length (staysM f from_ k))) = c0 :: m := by
              cases hx : ((f.blocks.modify from_ (endM k f.blocks.length)).modify (toOf f from_ k).toNat (phisM from_ f.blocks.length (staysM f from_ k))) with
              | nil =>
                have := congrArg List.length hx
                rw [List.length_modify, List.length_modify, hbl] at this
                simp at this
              | cons c0 m => exact ⟨c0, m, rfl⟩
            obtain ⟨c0, m, hm⟩ := hm
            have hv0 := hv 0 b0 c0 (by rw [hbl]; rfl) (by rw [hm]; rfl)
            have hl0 := congrArg List.length hv0.ids
            simp only [List.length_map] at hl0
            have hcons : (splitM f from_ k).blocks = c0 :: (m ++ [⟨[], [], ⟨1, -1, [toOf f from_ k], 0⟩⟩]) := by
              show _ ++ _ = _
              rw [hm]
              rfl
            rw [hcons]
            show c0.phis.isEmpty = true
            have hb0 : b0.phis.isEmpty = true := hhead
            rw [List.isEmpty_iff_length_eq_zero] at hb0 ⊢
            omega
    · cases hf
  have huse : ∀ u ∈ usesM (splitM f from_ k), u ∈ usesM f := by
    intro u hu
    unfold usesM at hu ⊢
    rw [List.mem_flatMap] at hu
    obtain ⟨c, hc, hu⟩ := hu
    rcases List.mem_append.1 hc with hc | hc
    · obtain ⟨i, hi⟩ := List.getElem?_of_mem hc
      have hil : i < f.blocks.length := by have := (List.getElem?_eq_some_iff.1 hi).1; simpa using this
      have := (hv i _ c (List.getElem?_eq_getElem hil) hi).uses u hu
      exact List.mem_flatMap.2 ⟨_, List.getElem_mem hil, this⟩
    · rw [List.mem_singleton] at hc
      subst hc
      simp [usesBlock, usesTerm] at hu
  have h1 := h
  unfold lookM at h1
  rw [look_formed h] at h1
  unfold lookM
  rw [hfm]
  simp only at h1 ⊢
  have hun : unknownB (lookM f).2 (usesM f) = false := by
    by_cases e : unknownB (lookM f).2 (usesM f) = true
    · rw [if_pos e] at h1; cases h1
    · simpa using e
  rw [hun] at h1
  have hfit : unfitB (lookM f).2 (usesM f) = false := by
    by_cases e : unfitB (lookM f).2 (usesM f) = true
    · rw [if_neg (by simp), if_pos e] at h1; cases h1
    · simpa using e
  have hun2 : unknownB (lookM f).2 (usesM (splitM f from_ k)) = false := by
    unfold unknownB at *
    rw [List.any_eq_false] at *
    exact fun u hu => hun u (huse u hu)
  have hfit2 : unfitB (lookM f).2 (usesM (splitM f from_ k)) = false := by
    unfold unfitB at *
    rw [List.any_eq_false] at *
    exact fun u hu => hfit u (huse u hu)
  rw [hun2, hfit2]
  rfl

end Go.Proofs.Ytocnlclighonfaa
