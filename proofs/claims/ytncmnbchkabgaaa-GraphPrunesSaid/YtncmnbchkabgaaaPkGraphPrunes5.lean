/- What GraphPrunes rests on, part 5: FFunc, RefUses, Used. -/
import Derived.Test.YtncmnbchkabgaaaPkGraphPrunes4
import Derived.Outline
import Derived.Deep.RegionHeld3
import Derived.Deep.AppendLies

namespace Go.Proofs.Ytncmnbchkabgaaa
open Go.RowKit

/-- the tags whose rows are copied when i blocks are -/
def EE (f : FuncM) (i : Nat) (t : Tag) : Prop := t = .params ∨ t = .blocks ∨ ∃ k b, k < i ∧ f.blocks[k]? = some b ∧ DD k b.phis.length b.code.length t

structure FnSt (f : FuncM) (val : Vals) (N : Nat) (w0 wx : World) (val1 : Vals) (i : Nat) : Prop where
  same : ∀ t, ¬ EE f i t → val1 t = val t
  own : OwnG wx (N + 2) (rowOf f val1) val1 (EE f i)
  box : wx.heap[N]? = some (.cells #[val1 .params, .int .i64 f.arrays, .int .i64 f.cells, val1 .blocks] 25 (0, 0))
  res : wx.heap[N + 1]? = some (.cells #[.slice none 0 0, .int .i64 0, .int .i64 0, .slice none 0 0] 25 (0, 0))
  low : Below N w0 wx

theorem DD.blk {k np nc : Nat} {t : Tag} (h : DD k np nc t) : blkOf t = some k := by
  rcases h with rfl | rfl | rfl | ⟨j, _, rfl | rfl⟩ | ⟨j, _, rfl⟩ <;> rfl

theorem EE.not {f : FuncM} {i : Nat} {t : Tag} (h : blkOf t = some i) : ¬ EE f i t := by
  rintro (rfl | rfl | ⟨k, b, hk, _, hd⟩)
  · cases h
  · cases h
  · rw [hd.blk] at h
    cases h
    omega

theorem EE.succ {f : FuncM} {i : Nat} {b : BlockM} (hb : f.blocks[i]? = some b) {t : Tag} : EE f (i + 1) t ↔ EE f i t ∨ DD i b.phis.length b.code.length t := by
  unfold EE
  constructor
  · rintro (h | h | ⟨k, q, hk, hq, hd⟩)
    · exact .inl (.inl h)
    · exact .inl (.inr (.inl h))
    · by_cases e : k = i
      · subst e
        rw [hb] at hq
        cases hq
        exact .inr hd
      · exact .inl (.inr (.inr ⟨k, q, by omega, hq, hd⟩))
  · rintro ((h | h | ⟨k, q, hk, hq, hd⟩) | h)
    · exact .inl h
    · exact .inr (.inl h)
    · exact .inr (.inr ⟨k, q, by omega, hq, hd⟩)
    · exact .inr (.inr ⟨i, b, by omega, hb, h⟩)

theorem OwnG.join {w1 w2 : World} {base : Nat} {r1 r2 r3 : Rows} {v1 v2 v3 : Vals} {D1 D2 : Tag → Prop} {b2 : Nat} (h1 : OwnG w1 base r1 v1 D1) (hb : Below w1.heap.size w1 w2) (h2 : OwnG w2 b2 r2 v2 D2) (hb2 : w1.heap.size ≤ b2) (hbase : base ≤ w1.heap.size)
    (e1 : ∀ t, D1 t → r3 t = r1 t ∧ v3 t = v1 t) (e2 : ∀ t, D2 t → r3 t = r2 t ∧ v3 t = v2 t) : OwnG w2 base r3 v3 (fun t => D1 t ∨ D2 t) := by
  have k1 := h1.below hb
  refine ⟨fun t ht => ?_, fun t d ht hd => ?_, fun t t' g ht ht' hg hg' => ?_⟩
  · rcases ht with ht | ht
    · rw [(e1 t ht).1]; exact h1.has t ht
    · rw [(e2 t ht).1]; exact h2.has t ht
  · rcases ht with ht | ht
    · rw [(e1 t ht).2]
      exact k1.rows t d ht (by rw [← (e1 t ht).1]; exact hd)
    · rw [(e2 t ht).2]
      exact World.ownsRow.mono (h2.rows t d ht (by rw [← (e2 t ht).1]; exact hd)) (by omega)
  · rcases ht with ht | ht <;> rcases ht' with ht' | ht'
    · rw [(e1 t ht).2] at hg
      rw [(e1 t' ht').2] at hg'
      exact h1.apart t t' g ht ht' hg hg'
    · rw [(e1 t ht).2] at hg
      rw [(e2 t' ht').2] at hg'
      have := (h1.lt ht hg).2
      have := (h2.lt ht' hg').1
      omega
    · rw [(e2 t ht).2] at hg
      rw [(e1 t' ht').2] at hg'
      have := (h2.lt ht hg).1
      have := (h1.lt ht' hg').2
      omega
    · rw [(e2 t ht).2] at hg
      rw [(e2 t' ht').2] at hg'
      exact h2.apart t t' g ht ht' hg hg'

theorem set_same {l : List Value} {j : Nat} {u : Value} (h : l[j]? = some u) : l.set j u = l := by
  apply List.ext_getElem?
  intro i
  by_cases e : j = i
  · subst e
    rw [List.getElem?_set_self (List.getElem?_eq_some_iff.1 h).1, h]
  · rw [List.getElem?_set_ne e]

theorem blocks_set {val : Vals} {l : List BlockM} {i : Nat} {b : BlockM} {c0 c1 c4 : Value} (hb : l[i]? = some b) :
    ((((((cellsOf (blockCells val) 0 l).set (i * 6 + 0) c0).set (i * 6 + 1) c1).set (i * 6 + 2) (.int .i64 b.term.op)).set (i * 6 + 3) (.int .i64 b.term.val)).set (i * 6 + 4) c4).set (i * 6 + 5) (.int .i64 b.term.n) =
      cellsOf (blockCells (upd (upd (upd val (.phis i) c0) (.code i) c1) (.ends i) c4)) 0 l := by
  have hi := (List.getElem?_eq_some_iff.1 hb).1
  have e0 : (cellsOf (blockCells val) 0 l).set (i * 6 + 0) c0 = cellsOf (blockCells (upd val (.phis i) c0)) 0 l := by
    refine cellsOf_set (blockCells_len _) (blockCells_len _) hi (by omega) ?_ ?_
    · intro j a _ hne; simp [blockCells, upd, hne]
    · intro a _; simp [blockCells, upd]
  have e1 : (cellsOf (blockCells (upd val (.phis i) c0)) 0 l).set (i * 6 + 1) c1 = cellsOf (blockCells (upd (upd val (.phis i) c0) (.code i) c1)) 0 l := by
    refine cellsOf_set (blockCells_len _) (blockCells_len _) hi (by omega) ?_ ?_
    · intro j a _ hne; simp [blockCells, upd, hne]
    · intro a _; simp [blockCells, upd]
  have e4 : (cellsOf (blockCells (upd (upd val (.phis i) c0) (.code i) c1)) 0 l).set (i * 6 + 4) c4 = cellsOf (blockCells (upd (upd (upd val (.phis i) c0) (.code i) c1) (.ends i) c4)) 0 l := by
    refine cellsOf_set (blockCells_len _) (blockCells_len _) hi (by omega) ?_ ?_
    · intro j a _ hne; simp [blockCells, upd, hne]
    · intro a _; simp [blockCells, upd]
  have hat : ∀ (v : Vals) r u, r < 6 → (blockCells v i b)[r]? = some u → (cellsOf (blockCells v) 0 l)[i * 6 + r]? = some u := fun v r u hr hu => by
    have := cellsOf_at (blockCells_len v) l 0 i r b hb hr
    rw [Nat.zero_add] at this
    exact this.trans hu
  rw [e0, e1, set_same (hat _ 2 _ (by omega) rfl), set_same (hat _ 3 _ (by omega) rfl), e4, set_same (hat _ 5 _ (by omega) rfl)]

/-- one block is copied -/
theorem FnSt.step {f : FuncM} {val val1 val2 : Vals} {N i g c : Nat} {b : BlockM} {w0 wx w2 : World} (h : FnSt f val N w0 wx val1 i) (hb : f.blocks[i]? = some b) (hN : N + 2 ≤ wx.heap.size) (hg : val1 .blocks = .slice (some ⟨g, 0, none⟩) f.blocks.length c)
    (hb2 : Below wx.heap.size wx w2) (hsame : ∀ t, ¬ DD i b.phis.length b.code.length t → val2 t = val t) (ho2 : OwnG w2 (wx.heap.size + 2) (rowOf f val2) val2 (DD i b.phis.length b.code.length)) :
    FnSt f val N w0 ((((((w2.setCell ⟨g, i * 6, none⟩ (val2 (.phis i))).setCell ⟨g, i * 6 + 1, none⟩ (val2 (.code i))).setCell ⟨g, i * 6 + 2, none⟩ (.int .i64 b.term.op)).setCell ⟨g, i * 6 + 3, none⟩ (.int .i64 b.term.val)).setCell ⟨g, i * 6 + 4, none⟩ (val2 (.ends i))).setCell ⟨g, i * 6 + 5, none⟩ (.int .i64 b.term.n))
      (fun t => if blkOf t = some i then val2 t else val1 t) (i + 1) := by
  have hs2 := hb2.size
  have DB : EE f i .blocks := .inr (.inl rfl)
  have hgl := h.own.lt DB (by rw [hg]; rfl : (val1 .blocks).ownBlock = some g)
  have hne : g ≠ N ∧ g ≠ N + 1 := by omega
  have e1 : ∀ t, EE f i t → blkOf t ≠ some i := fun t ht e => EE.not e ht
  have o1 := OwnG.join (r3 := fun t => if blkOf t = some i then rowOf f val2 t else rowOf f val1 t) (v3 := fun t => if blkOf t = some i then val2 t else val1 t) h.own hb2 ho2 (by omega) hN
    (fun t ht => ⟨if_neg (e1 t ht), if_neg (e1 t ht)⟩) (fun t ht => ⟨if_pos ht.blk, if_pos ht.blk⟩)
  have hv : (fun t => if blkOf t = some i then val2 t else val1 t) Tag.blocks = .slice (some ⟨g, 0, none⟩) f.blocks.length c := hg
  have hr0 : (fun t => if blkOf t = some i then rowOf f val2 t else rowOf f val1 t) Tag.blocks = some ⟨46, 6, f.blocks.length, cellsOf (blockCells val1) 0 f.blocks⟩ := rfl
  have s0 := o1.set (tp := .blocks) (j := i * 6 + 0) (u := val2 (.phis i)) (.inl DB) hr0 hv rfl
  have s1 := s0.set (tp := .blocks) (j := i * 6 + 1) (u := val2 (.code i)) (.inl DB) (upd_same _ _ _) hv rfl
  have s2 := s1.set (tp := .blocks) (j := i * 6 + 2) (u := .int .i64 b.term.op) (.inl DB) (upd_same _ _ _) hv rfl
  have s3 := s2.set (tp := .blocks) (j := i * 6 + 3) (u := .int .i64 b.term.val) (.inl DB) (upd_same _ _ _) hv rfl
  have s4 := s3.set (tp := .blocks) (j := i * 6 + 4) (u := val2 (.ends i)) (.inl DB) (upd_same _ _ _) hv rfl
  have s5 := s4.set (tp := .blocks) (j := i * 6 + 5) (u := .int .i64 b.term.n) (.inl DB) (upd_same _ _ _) hv rfl
  refine ⟨fun t ht => ?_, ?_, ?_, ?_, ?_⟩
  · have h1 : ¬ EE f i t := fun e => ht ((EE.succ hb).2 (.inl e))
    have h2 : ¬ DD i b.phis.length b.code.length t := fun e => ht ((EE.succ hb).2 (.inr e))
    by_cases e : blkOf t = some i
    · simp only [if_pos e]
      exact hsame t h2
    · simp only [if_neg e]
      exact h.same t h1
  · refine s5.congr (fun t ht => ?_) (fun t _ => rfl) (fun t ht => (EE.succ hb).1 ht)
    by_cases eb : t = .blocks
    · subst eb
      rw [upd_same, blocks_set hb]
      show some _ = some _
      congr 2
      refine cellsOf_congr _ _ fun k q hq => ?_
      rw [Nat.zero_add]
      by_cases ek : k = i
      · subst ek
        simp [blockCells, upd, blkOf]
      · simp [blockCells, upd, blkOf, ek]
    · rw [upd_ne _ _ eb, upd_ne _ _ eb, upd_ne _ _ eb, upd_ne _ _ eb, upd_ne _ _ eb, upd_ne _ _ eb]
      cases t with
      | params => rfl
      | blocks => exact absurd rfl eb
      | phis k =>
        by_cases ek : k = i
        · subst ek
          have e : phiCells (fun t => if blkOf t = some k then val2 t else val1 t) k = phiCells val2 k := by funext j p; simp [phiCells, blkOf]
          have h1 : (fun t => if blkOf t = some k then rowOf f val2 t else rowOf f val1 t) (Tag.phis k) = rowOf f val2 (.phis k) := if_pos rfl
          refine Eq.trans ?_ h1.symm
          simp only [rowOf]
          rw [e]
        · have e : phiCells (fun t => if blkOf t = some i then val2 t else val1 t) k = phiCells val1 k := by funext j p; simp [phiCells, blkOf, ek]
          have h1 : (fun t => if blkOf t = some i then rowOf f val2 t else rowOf f val1 t) (Tag.phis k) = rowOf f val1 (.phis k) := if_neg (by simp [blkOf, ek])
          refine Eq.trans ?_ h1.symm
          simp only [rowOf]
          rw [e]
      | code k =>
        by_cases ek : k = i
        · subst ek
          have e : instrCells (fun t => if blkOf t = some k then val2 t else val1 t) k = instrCells val2 k := by funext j p; simp [instrCells, blkOf]
          have h1 : (fun t => if blkOf t = some k then rowOf f val2 t else rowOf f val1 t) (Tag.code k) = rowOf f val2 (.code k) := if_pos rfl
          refine Eq.trans ?_ h1.symm
          simp only [rowOf]
          rw [e]
        · have e : instrCells (fun t => if blkOf t = some i then val2 t else val1 t) k = instrCells val1 k := by funext j p; simp [instrCells, blkOf, ek]
          have h1 : (fun t => if blkOf t = some i then rowOf f val2 t else rowOf f val1 t) (Tag.code k) = rowOf f val1 (.code k) := if_neg (by simp [blkOf, ek])
          refine Eq.trans ?_ h1.symm
          simp only [rowOf]
          rw [e]
      | ends k => by_cases ek : k = i <;> simp [rowOf, blkOf, ek]
      | fr k j => by_cases ek : k = i <;> simp [rowOf, blkOf, ek]
      | vals k j => by_cases ek : k = i <;> simp [rowOf, blkOf, ek]
      | args k j => by_cases ek : k = i <;> simp [rowOf, blkOf, ek]
  · rw [heap_setCell_other _ _ _ _ (by simpa using hne.1.symm), heap_setCell_other _ _ _ _ (by simpa using hne.1.symm), heap_setCell_other _ _ _ _ (by simpa using hne.1.symm), heap_setCell_other _ _ _ _ (by simpa using hne.1.symm), heap_setCell_other _ _ _ _ (by simpa using hne.1.symm), heap_setCell_other _ _ _ _ (by simpa using hne.1.symm), hb2.block N (by omega)]
    exact h.box
  · rw [heap_setCell_other _ _ _ _ (by simpa using hne.2.symm), heap_setCell_other _ _ _ _ (by simpa using hne.2.symm), heap_setCell_other _ _ _ _ (by simpa using hne.2.symm), heap_setCell_other _ _ _ _ (by simpa using hne.2.symm), heap_setCell_other _ _ _ _ (by simpa using hne.2.symm), heap_setCell_other _ _ _ _ (by simpa using hne.2.symm), hb2.block (N + 1) (by omega)]
    exact h.res
  · exact ((((((h.low.trans (hb2.mono (by omega))).setCell (by simp; omega) _).setCell (by simp; omega) _).setCell (by simp; omega) _).setCell (by simp; omega) _).setCell (by simp; omega) _).setCell (by simp; omega) _

end Go.Proofs.Ytncmnbchkabgaaa

namespace Go.Proofs.Ytncmnbchkabgaaa
open Go.RowKit

theorem FnSt.start {f : FuncM} {val : Vals} {N : Nat} {w0 W0 w2 w3 : World} {v1 v3 : Value} (hs : W0.heap.size = N + 2) (hbox : W0.heap[N]? = some (.cells #[val .params, .int .i64 f.arrays, .int .i64 f.cells, val .blocks] 25 (0, 0)))
    (hres : W0.heap[N + 1]? = some (.cells #[.slice none 0 0, .int .i64 0, .int .i64 0, .slice none 0 0] 25 (0, 0))) (hlow : Below N w0 W0)
    (hb2 : Below W0.heap.size W0 w2) (ho2 : w2.ownsRow W0.heap.size 3 1 v1 f.params.length (f.params.map (Value.int .i64)))
    (hb3 : Below w2.heap.size w2 w3) (ho3 : w3.ownsRow w2.heap.size 46 6 v3 f.blocks.length (cellsOf (blockCells val) 0 f.blocks)) :
    FnSt f val N w0 ((w3.setCell ⟨N, 0, none⟩ v1).setCell ⟨N, 3, none⟩ v3) (upd (upd val .params v1) .blocks v3) 0 := by
  have s2 := hb2.size
  have s3 := hb3.size
  have o1 := (OwnG.nothing W0 (N + 2) (rowOf f val) val).add (t0 := .params) (d := intsRow f.params) (by simp) hb2 ho2 (by omega)
  have o2 := o1.add (t0 := .blocks) (d := ⟨46, 6, f.blocks.length, cellsOf (blockCells val) 0 f.blocks⟩) (by simp) hb3 ho3 (by omega)
  have hne : ∀ t, ((False ∨ t = .params) ∨ t = .blocks) → (upd (upd val .params v1) .blocks v3 t).ownBlock ≠ some N := fun t ht e => by have := (o2.lt ht e).1; omega
  have o4 := (o2.other (a := ⟨N, 0, none⟩) (u := v1) hne).other (a := ⟨N, 3, none⟩) (u := v3) hne
  have hbx : w3.heap[N]? = some (.cells #[val .params, .int .i64 f.arrays, .int .i64 f.cells, val .blocks] 25 (0, 0)) := by rw [hb3.block N (by omega), hb2.block N (by omega)]; exact hbox
  have hEE : ∀ t, EE f 0 t → (False ∨ t = .params) ∨ t = .blocks := by
    rintro t (h | h | ⟨k, b, hk, _⟩)
    · exact .inl (.inr h)
    · exact .inr h
    · omega
  refine ⟨fun t ht => ?_, ?_, ?_, ?_, ?_⟩
  · have h1 : t ≠ .params := fun e => ht (.inl e)
    have h2 : t ≠ .blocks := fun e => ht (.inr (.inl e))
    rw [upd_ne _ _ h2, upd_ne _ _ h1]
  · refine o4.congr (fun t ht => ?_) (fun t _ => rfl) hEE
    rcases hEE t ht with (h | rfl) | rfl
    · exact h.elim
    · simp [rowOf, upd]
    · rw [upd_same]
      show some _ = some _
      congr 2
  · rw [heap_setCell_same _ N 3 _ _ _ (heap_setCell_same _ N 0 _ _ _ hbx)]
    simp [upd]
  · rw [heap_setCell_other _ _ _ _ (by simp), heap_setCell_other _ _ _ _ (by simp), hb3.block (N + 1) (by omega), hb2.block (N + 1) (by omega)]
    exact hres
  · exact (((hlow.trans (hb2.mono (by omega))).trans (hb3.mono (by omega))).setCell (by simp) _).setCell (by simp) _

theorem rd_block_one {w : World} {B : Nat} {f : FuncM} {val : Vals} (h : RdF w B f val) : ∀ u ∈ cellsOf (blockCells val) 0 f.blocks, u.oneCell' = true := by
  intro u hu
  obtain ⟨j, hj⟩ := List.getElem?_of_mem hu
  obtain ⟨i, r, q, rfl, hr, hq, hc⟩ := cellsOf_div (blockCells_len val) hj
  have hm := List.mem_of_getElem? hc
  unfold blockCells at hm
  simp only [List.mem_cons, List.not_mem_nil, or_false] at hm
  rcases hm with rfl | rfl | rfl | rfl | rfl | rfl
  · exact slice_one (h (.phis i) _ (row_phis hq))
  · exact slice_one (h (.code i) _ (row_code hq))
  · rfl
  · rfl
  · exact slice_one (h (.ends i) _ (row_ends hq))
  · rfl

/-- .. its value written out -/
def FreshBlkPost' (f : FuncM) (val : Vals) (k : Nat) (b : BlockM) (w : World) (e : Ending) (w' : World) : Prop :=
  ∃ (val1 : Vals) (A : Option Addr) (c : Nat) (A' : Option Addr) (c' : Nat) (A'' : Option Addr) (c'' : Nat), e = .returned (.agg #[.slice A b.phis.length c, .slice A' b.code.length c', .int .i64 b.term.op, .int .i64 b.term.val, .slice A'' b.term.to.length c'', .int .i64 b.term.n]) ∧
    (val1 (.phis k) = .slice A b.phis.length c ∧ val1 (.code k) = .slice A' b.code.length c' ∧ val1 (.ends k) = .slice A'' b.term.to.length c'') ∧
    (∀ t, ¬ DD k b.phis.length b.code.length t → val1 t = val t) ∧ OwnG w' (w.heap.size + 2) (rowOf f val1) val1 (DD k b.phis.length b.code.length) ∧ Below w.heap.size w w'

theorem FreshBlkPost.form {f : FuncM} {val : Vals} {k : Nat} {b : BlockM} {w w' : World} {e : Ending} (hb : f.blocks[k]? = some b) (h : FreshBlkPost f val k b w e w') : FreshBlkPost' f val k b w e w' := by
  obtain ⟨val1, rfl, hs, ho, hbl⟩ := h
  obtain ⟨A, c, e1⟩ := ho.form (.inl rfl) (row_phis hb)
  obtain ⟨A', c', e2⟩ := ho.form (.inr (.inl rfl)) (row_code hb)
  obtain ⟨A'', c'', e3⟩ := ho.form (.inr (.inr (.inl rfl))) (row_ends hb)
  have e1' : val1 (.phis k) = .slice A b.phis.length c := e1
  have e2' : val1 (.code k) = .slice A' b.code.length c' := e2
  have e3' : val1 (.ends k) = .slice A'' b.term.to.length c'' := e3
  exact ⟨val1, A, c, A', c', A'', c'', by unfold blockCells; rw [e1', e2', e3'], ⟨e1', e2', e3'⟩, hs, ho, hbl⟩

def FreshPost (f : FuncM) (w : World) (e : Ending) (w' : World) : Prop :=
  ∃ val1 : Vals, e = .returned (.agg #[val1 .params, .int .i64 f.arrays, .int .i64 f.cells, val1 .blocks]) ∧ OwnG w' (w.heap.size + 2) (rowOf f val1) val1 (EE f f.blocks.length) ∧ Below w.heap.size w w'

set_option maxRecDepth 100000 in
set_option maxHeartbeats 8000000 in
theorem freshFunc_any (f : FuncM) (B : Nat) (val : Vals) (w : World) (hrd : RdF w B f val) (hB : B ≤ w.heap.size) (h1 : f.params.length ≤ 100000) (h2 : f.blocks.length ≤ 100000) (hsm : ∀ b ∈ f.blocks, Small b) :
    Calls Try.prog 12 #[.agg #[val .params, .int .i64 f.arrays, .int .i64 f.cells, val .blocks]] w (FreshPost f w) := by
  have HRD := hideI hrd
  have HSM := hideI hsm
  have rp := hrd .params (intsRow f.params) rfl
  have rb := hrd .blocks ⟨46, 6, f.blocks.length, cellsOf (blockCells val) 0 f.blocks⟩ rfl
  have C1 : Hid (∀ W, Keeps B w W → Calls Try.prog 27 #[val .params] W (ListPost' 3 1 (intsRow f.params) W)) := fun W hW =>
    (listInt_any _ B _ W (rp.keeps hW) (by simp [intsRow]) h1 (ints_one _)).mono fun _ _ h => h.form
  have C2 : Hid (∀ W, Keeps B w W → Calls Try.prog 28 #[val .blocks] W (ListPost' 46 6 ⟨46, 6, f.blocks.length, cellsOf (blockCells val) 0 f.blocks⟩ W)) := fun W hW =>
    (listBlock_any _ B _ W (rb.keeps hW) (cellsOf_len (blockCells_len val) _ _) h2 (rd_block_one hrd)).mono fun _ _ h => h.form
  obtain ⟨P, pc, hpv, _⟩ := rp
  obtain ⟨A, c, hbv, _⟩ := rb
  have e1 : (intsRow f.params).len = f.params.length := rfl
  rw [e1] at hpv
  have HPV := hideI hpv
  have HBV : Hid (val .blocks = .slice A f.blocks.length c) := hbv
  rw [hpv] at C1 ⊢
  rw [HBV.out] at C2 ⊢
  obtain ⟨W0, hW0⟩ : ∃ W0 : World, W0 = (w.alloc (.cells #[.slice P f.params.length pc, .int .i64 f.arrays, .int .i64 f.cells, .slice A f.blocks.length c] 25)).alloc (.cells #[.slice none 0 0, .int .i64 0, .int .i64 0, .slice none 0 0] 25) := ⟨_, rfl⟩
  have hs0 : W0.heap.size = w.heap.size + 2 := by rw [hW0]; simp
  have hbox : W0.heap[w.heap.size]? = some (.cells #[.slice P f.params.length pc, .int .i64 f.arrays, .int .i64 f.cells, .slice A f.blocks.length c] 25 (0, 0)) := by
    rw [hW0, Below.heap_alloc _ _ _ (by simp)]
    exact heap_alloc_new w _
  have hres : W0.heap[w.heap.size + 1]? = some (.cells #[.slice none 0 0, .int .i64 0, .int .i64 0, .slice none 0 0] 25 (0, 0)) := by
    rw [hW0]
    have := heap_alloc_new (w.alloc (.cells #[.slice P f.params.length pc, .int .i64 f.arrays, .int .i64 f.cells, .slice A f.blocks.length c] 25)) (.cells #[.slice none 0 0, .int .i64 0, .int .i64 0, .slice none 0 0] 25)
    simpa using this
  have hlow : Below w.heap.size w W0 := by rw [hW0]; exact ((Below.refl _ w).alloc (Nat.le_refl _) _).alloc (by simp) _
  have HBOX := hideI hbox
  have HRES := hideI hres
  have HLOW := hideI hlow
  have HS0 := hideI hs0
  have HW0 := hideI hW0
  have G0 : Hid (∀ W, Below W0.heap.size W0 W → W.cell? ⟨w.heap.size, 0, none⟩ = some (.slice P f.params.length pc) ∧ W.cell? ⟨w.heap.size, 3, none⟩ = some (.slice A f.blocks.length c) ∧ W.frozen? ⟨w.heap.size, 0, none⟩ = false ∧ W.frozen? ⟨w.heap.size, 3, none⟩ = false) := fun W hW => by
    have hx := row_cells HBOX.out (hW.block _ (by have := HS0.out; omega))
    have hf := free_row' HBOX.out (hW.block _ (by have := HS0.out; omega))
    exact ⟨hx 0, hx 3, hf 0, hf 3⟩
  have KP : Hid (∀ W, Below W0.heap.size W0 W → Keeps B w W) := fun W hW => (Keeps.of_below (HLOW.out.mono hB)).trans (Keeps.of_below (hW.mono (by have := HS0.out; omega)))
  obtain ⟨q0, q3, f0, f3⟩ := G0.out W0 (Below.refl _ _)
  clear hrd hsm hpv hbv e1 hbox hres hlow hW0 hs0
  go_enter Try.func12, Try.ntmps12
  go_upto_region 1 with fail
  rw [← HW0.out]
  go_cut [] (fun wx => ∃ val1, Hid (FnSt f val w.heap.size w wx val1 0))
  case first =>
    go_region_with (first
      | (go_at_call 27; refine (C1.out _ (by exact KP.out _ ⟨rfl, rfl, rfl, Nat.le_refl _, fun _ _ => rfl⟩)).mono ?_; rintro e w2 ⟨A2, c2, rfl, hown2, hb2⟩; have hba : Below W0.heap.size W0 w2 := undrew2 hb2; obtain ⟨q0, q3, f0, f3⟩ := G0.out _ hba)
      | (go_at_call 28; refine (C2.out _ (by exact KP.out _ hba)).mono ?_; rintro e w3 ⟨A3, c3, rfl, hown3, hb3⟩; have hbb : Below W0.heap.size W0 w3 := hba.trans (hb3.mono hba.size); obtain ⟨q0, q3, f0, f3⟩ := G0.out _ hbb))
    all_goals (go_wp2_with fail; go_meet; exact ⟨_, hideI (FnSt.start HS0.out (by rw [HPV.out, HBV.out]; exact HBOX.out) HRES.out HLOW.out hba (undrewO hown2) hb3 hown3)⟩)
  case rest =>
    obtain ⟨val1, HST⟩ := hcut
    clear q0 q3 f0 f3
    obtain ⟨A1, c1, hp1⟩ := HST.out.own.form (t := .blocks) (.inr (.inl rfl)) rfl
    have hp1' : val1 .blocks = .slice A1 f.blocks.length c1 := hp1
    have b3 := (row_cells HST.out.box rfl 3).trans (show (#[val1 .params, .int .i64 f.arrays, .int .i64 f.cells, val1 .blocks] : Array Value)[3]? = some (.slice A1 f.blocks.length c1) by simp [hp1'])
    clear hp1 hp1'
    go_wp2
    clear b3
    go_loopw [15] (fun u wr => ∃ (i : Nat) (val1 : Vals), i ≤ f.blocks.length ∧ u = .int .i64 i ∧ Hid (FnSt f val w.heap.size w wr val1 i)) (fun u _ => f.blocks.length - (intOf u).toNat)
    case atStart => exact ⟨0, val1, Nat.zero_le _, rfl, HST⟩
    case round =>
      obtain ⟨i, val1, hi, rfl, HST⟩ := hrel
      have hN2 : w.heap.size + 2 ≤ wr.heap.size := by
        have := (Array.getElem?_eq_some_iff.1 HST.out.res).1
        omega
      by_cases hlt : i < f.blocks.length
      · obtain ⟨b, hb⟩ : ∃ b, f.blocks[i]? = some b := ⟨_, List.getElem?_eq_getElem hlt⟩
        obtain ⟨g, bc, hg, hgb, hgl⟩ := HST.out.own.slice (tp := .blocks) (.inr (.inl rfl)) rfl (by show 0 < f.blocks.length; omega)
        have HBI := hideI hb
        have HG : Hid (val1 .blocks = .slice (some ⟨g, 0, none⟩) f.blocks.length bc) := hg
        have hsb := HSM.out b (List.mem_of_getElem? hb)
        have KP : Hid (∀ W, Below wr.heap.size wr W → Keeps B w W) := fun W hW => (Keeps.of_below (HST.out.low.mono hB)).trans (Keeps.of_below (hW.mono (by omega)))
        have CB : Hid (∀ W, Below wr.heap.size wr W → Calls Try.prog 29 #[.agg #[val (.phis i), val (.code i), .int .i64 b.term.op, .int .i64 b.term.val, val (.ends i), .int .i64 b.term.n]] W (FreshBlkPost' f val i b W)) := fun W hW =>
          (freshBlock_any f B val i b W hb (HRD.out.keeps (KP.out W hW)) (by have := hW.size; omega) hsb).mono fun _ _ h => h.form hb
        have e1 : val1 (.phis i) = val (.phis i) := HST.out.same _ (EE.not rfl)
        have e2 : val1 (.code i) = val (.code i) := HST.out.same _ (EE.not rfl)
        have e3 : val1 (.ends i) = val (.ends i) := HST.out.same _ (EE.not rfl)
        obtain ⟨PA, pc2, d1, _⟩ := HRD.out (.phis i) _ (row_phis hb)
        obtain ⟨CA, cc2, d2, _⟩ := HRD.out (.code i) _ (row_code hb)
        obtain ⟨TA, tc2, d3, _⟩ := HRD.out (.ends i) _ (row_ends hb)
        have d3' : val (.ends i) = .slice TA b.term.to.length tc2 := d3
        have d1' : val (.phis i) = .slice PA b.phis.length pc2 := d1
        have d2' : val (.code i) = .slice CA b.code.length cc2 := d2
        have G0 : Hid (∀ W, Below wr.heap.size wr W → (∀ r u, r < 6 → (blockCells val1 i b)[r]? = some u → W.cell? ⟨g, i * 6 + r, none⟩ = some u ∧ W.frozen? ⟨g, i * 6 + r, none⟩ = false) ∧ W.cell? ⟨w.heap.size, 3, none⟩ = some (.slice (some ⟨g, 0, none⟩) f.blocks.length bc)) := fun W hW => by
          have o := HST.out.own.below hW
          refine ⟨fun r u hr hu => ?_, ?_⟩
          · have k2 := o.cell (tp := .blocks) (j := i * 6 + r) (.inr (.inl rfl)) rfl HG.out rfl (by show _ < f.blocks.length * 6; omega)
            have hc := cellsOf_at (blockCells_len val1) f.blocks 0 i r b HBI.out hr
            rw [Nat.zero_add] at hc
            exact ⟨k2.1.trans (hc.trans hu), k2.2⟩
          · exact (row_cells HST.out.box (hW.block _ (by omega)) 3).trans (by show some (val1 .blocks) = _; rw [HG.out])
        have H6 : Hid (∀ W, Below wr.heap.size wr W → (W.cell? ⟨g, i * 6, none⟩ = some (.slice PA b.phis.length pc2) ∧ W.cell? ⟨g, i * 6 + 1, none⟩ = some (.slice CA b.code.length cc2) ∧ W.cell? ⟨g, i * 6 + 2, none⟩ = some (.int .i64 b.term.op) ∧ W.cell? ⟨g, i * 6 + 3, none⟩ = some (.int .i64 b.term.val) ∧ W.cell? ⟨g, i * 6 + 4, none⟩ = some (.slice TA b.term.to.length tc2) ∧ W.cell? ⟨g, i * 6 + 5, none⟩ = some (.int .i64 b.term.n)) ∧
            (W.frozen? ⟨g, i * 6, none⟩ = false ∧ W.frozen? ⟨g, i * 6 + 1, none⟩ = false ∧ W.frozen? ⟨g, i * 6 + 2, none⟩ = false ∧ W.frozen? ⟨g, i * 6 + 3, none⟩ = false ∧ W.frozen? ⟨g, i * 6 + 4, none⟩ = false ∧ W.frozen? ⟨g, i * 6 + 5, none⟩ = false) ∧ W.cell? ⟨w.heap.size, 3, none⟩ = some (.slice (some ⟨g, 0, none⟩) f.blocks.length bc)) := fun W hW => by
          obtain ⟨k, kb⟩ := G0.out W hW
          have k0 := k 0 (.slice PA b.phis.length pc2) (by omega) (by show some (val1 _) = _; rw [e1, d1'])
          have k1 := k 1 (.slice CA b.code.length cc2) (by omega) (by show some (val1 _) = _; rw [e2, d2'])
          have k2 := k 2 _ (by omega) rfl
          have k3 := k 3 _ (by omega) rfl
          have k4 := k 4 (.slice TA b.term.to.length tc2) (by omega) (by show some (val1 _) = _; rw [e3, d3'])
          have k5 := k 5 _ (by omega) rfl
          exact ⟨⟨k0.1, k1.1, k2.1, k3.1, k4.1, k5.1⟩, ⟨k0.2, k1.2, k2.2, k3.2, k4.2, k5.2⟩, kb⟩
        rw [d1', d2', d3'] at CB
        obtain ⟨⟨c0, c1, c2, c3, c4, c5⟩, ⟨f0, f1, f2, f3, f4, f5⟩, b3⟩ := H6.out wr (Below.refl _ _)
        clear hb hg e1 e2 e3 d1 d2 d3 d1' d2' d3'
        go_wp2
        go_region_with (first
          | (go_at_call 29; refine (CB.out _ (by exact ⟨rfl, rfl, rfl, Nat.le_refl _, fun _ _ => rfl⟩)).mono ?_; rintro e w2 ⟨val2, A2, c2, A3, c3, A4, c4, rfl, hval2, hsame2, hown2, hb2⟩; have hba : Below wr.heap.size wr w2 := undrew2 hb2; obtain ⟨⟨c0, c1, c2, c3, c4, c5⟩, ⟨f0, f1, f2, f3, f4, f5⟩, b3⟩ := H6.out _ hba))
        all_goals
          have HST2 := hideI (HST.out.step HBI.out hN2 HG.out hba hsame2 hown2)
          rw [hval2.1, hval2.2.1, hval2.2.2] at HST2
          clear c0 c1 c2 c3 c4 c5 f0 f1 f2 f3 f4 f5 b3 hval2 hsame2 hown2 hb2 hba
          go_wp2
          go_roundw
          case rel => exact ⟨i + 1, _, by omega, by go_num, HST2⟩
          case measure => simp [intOf]; omega
      · have hin : i = f.blocks.length := by omega
        rw [hin] at HST
        obtain ⟨PA1, pc1, e1⟩ := HST.out.own.form (t := .params) (.inl rfl) rfl
        obtain ⟨BA1, bc1, e2⟩ := HST.out.own.form (t := .blocks) (.inr (.inl rfl)) rfl
        have e1' : val1 .params = .slice PA1 f.params.length pc1 := e1
        have e2' : val1 .blocks = .slice BA1 f.blocks.length bc1 := e2
        have E1 := hideI e1'
        have E2 := hideI e2'
        have hbx := HST.out.box
        rw [e1', e2'] at hbx
        have hx := row_cells hbx rfl
        have hr := row_cells HST.out.res rfl
        have hf := free_row' HST.out.res (rfl : wr.heap[w.heap.size + 1]? = _)
        have b0 := hx 0
        have b1 := hx 1
        have b2 := hx 2
        have b3 := hx 3
        have r0 := hr 0
        have r1 := hr 1
        have r2 := hr 2
        have r3 := hr 3
        have f0 := hf 0
        have f1 := hf 1
        have f2 := hf 2
        have f3 := hf 3
        clear e1 e2 e1' e2' hbx hx hr hf hin
        go_wp2
        have hne : ∀ t, EE f f.blocks.length t → (val1 t).ownBlock ≠ some (w.heap.size + 1) := fun t ht e => by have := (HST.out.own.lt ht e).1; omega
        refine bodyPost_ret (v := .agg #[.slice PA1 f.params.length pc1, .int .i64 f.arrays, .int .i64 f.cells, .slice BA1 f.blocks.length bc1]) (by simp [results, Try.results12, go_sem, r0, r1, r2, r3]) rfl ⟨val1, by rw [E1.out, E2.out], ?_, ?_⟩
        · exact (((HST.out.own.other hne).other hne).other hne).other hne
        · exact (((HST.out.low.setCell (by simp) _).setCell (by simp) _).setCell (by simp) _).setCell (by simp) _

end Go.Proofs.Ytncmnbchkabgaaa

namespace Go.Proofs.Ytncmnbchkabgaaa
open Go.RowKit

theorem use_info : (Try.prog.info? 81).map (fun i => (i.zero, i.size, i.bytes)) = some (some (.agg #[.int .i64 0, .int .i64 0, .int .i64 0, .int .i64 0, .int .i64 0]), 5, 40) := by kernel_rfl

/-- the slice v is the call's own row of uses: of each the value and the type -/
def RU (w : World) (base : Nat) (v : Value) (us : List (Int × Int)) : Prop :=
  ∃ rows : List (List Int), rows.map (fun r => (r.getD 0 0, r.getD 1 0)) = us ∧ (∀ r ∈ rows, r.length = 5) ∧ w.ownsRow base 81 5 v us.length (rows.flatten.map (Value.int .i64))

theorem RU.push {w' : World} {base : Nat} {v' : Value} {us : List (Int × Int)} {rows : List (List Int)} (h1 : rows.map (fun r => (r.getD 0 0, r.getD 1 0)) = us) (h2 : ∀ r ∈ rows, r.length = 5) {a b c d e : Int}
    (h : w'.ownsRow base 81 5 v' (us.length + 1) (rows.flatten.map (Value.int .i64) ++ [.int .i64 a, .int .i64 b, .int .i64 c, .int .i64 d, .int .i64 e])) : RU w' base v' (us ++ [(a, b)]) := by
  refine ⟨rows ++ [[a, b, c, d, e]], by rw [List.map_append, h1]; rfl, ?_, ?_⟩
  · intro r hr
    rcases List.mem_append.1 hr with hr | hr
    · exact h2 r hr
    · simp at hr
      subst hr
      rfl
  · simpa using h

theorem RU.alloc {w : World} {base : Nat} {v : Value} {us : List (Int × Int)} (h : RU w base v us) (o : Obj) : RU (w.alloc o) base v us := by
  obtain ⟨rows, h1, h2, h3⟩ := h
  exact ⟨rows, h1, h2, h3.alloc o⟩

theorem RU.below {w w' : World} {base : Nat} {v : Value} {us : List (Int × Int)} (h : RU w base v us) (hb : Below w.heap.size w w') : RU w' base v us := by
  obtain ⟨rows, h1, h2, h3⟩ := h
  exact ⟨rows, h1, h2, h3.kept (row := none) ⟨hb.os, hb.tape, hb.output, hb.size, fun k hk _ => hb.block k hk⟩ (by
    cases hv : v.ownBlock with
    | none => exact .inl rfl
    | some k => exact .inr (by simp))⟩

theorem five_new (w : World) (cs : List Value) (t : TypeId) : ∀ (j : Nat) (u : Value), cs[j]? = some u → (w.alloc (.cells cs.toArray t)).cell? ((⟨w.heap.size, 0, none⟩ : Addr).add j) = some u := by
  intro j u hu
  rw [Go.WideShapes.add_plain, cell_of_row _ _ _ _ _ _ (heap_alloc_new w _), Nat.zero_add]
  simpa using hu

/-- what a walk keeps that appends to a row of uses: all but that row -/
structure Ka (base : Nat) (w w' : World) : Prop where
  os : w'.os = w.os
  tape : w'.tape = w.tape
  output : w'.output = w.output
  size : w.heap.size ≤ w'.heap.size
  low : ∀ b, b < base → w'.heap[b]? = w.heap[b]?
  other : ∀ (b : Nat) (cs : Array Value) (t : TypeId), w.heap[b]? = some (Obj.cells cs t (0, 0)) → t ≠ 81 → w'.heap[b]? = some (Obj.cells cs t (0, 0))

theorem Ka.refl (base : Nat) (w : World) : Ka base w w := ⟨rfl, rfl, rfl, Nat.le_refl _, fun _ _ => rfl, fun _ _ _ h _ => h⟩
theorem Ka.trans {base : Nat} {a b c : World} (h : Ka base a b) (k : Ka base b c) : Ka base a c :=
  ⟨k.os.trans h.os, k.tape.trans h.tape, k.output.trans h.output, Nat.le_trans h.size k.size, fun i hi => (k.low i hi).trans (h.low i hi), fun i cs t hi ht => k.other i cs t (h.other i cs t hi ht) ht⟩
theorem Ka.of_below {base : Nat} {w w' : World} (h : Below w.heap.size w w') (hb : base ≤ w.heap.size) : Ka base w w' :=
  ⟨h.os, h.tape, h.output, h.size, fun i hi => h.block i (by omega), fun i cs t hi _ => (h.block i (lt_of_heap hi)).trans hi⟩
theorem Ka.alloc {base : Nat} {a w : World} (h : Ka base a w) (hb : base ≤ w.heap.size) (o : Obj) : Ka base a (w.alloc o) := h.trans (Ka.of_below ((Below.refl _ _).alloc (Nat.le_refl _) o) hb)
theorem Ka.drew {base : Nat} {a w : World} (h : Ka base a w) : Ka base a w.drew := h.trans ⟨rfl, rfl, rfl, Nat.le_refl _, fun _ _ => rfl, fun _ _ _ h _ => h⟩
theorem own_ne' {w : World} {base : Nat} {e t : TypeId} {size n g : Nat} {v : Value} {xs : List Value} {cs : Array Value} (h : w.ownsRow base e size v n xs) (hg : w.heap[g]? = some (.cells cs t (0, 0))) (hne : e ≠ t) : some g ≠ v.ownBlock := by
  rcases h.2 with ⟨rfl, _⟩ | ⟨g2, cap, cur, rfl, _, hh, _⟩
  · simp [Value.ownBlock]
  · intro he
    have : g = g2 := by simpa [Value.ownBlock] using he
    subst this
    rw [hg] at hh
    injection hh with hh
    injection hh with _ ht
    exact hne ht.symm

theorem Ka.grown {base n : Nat} {w w' : World} {v : Value} {xs : List Value} (hg : w.grownBy w' v.ownBlock) (ho : w.ownsRow base 81 5 v n xs) (hb : base ≤ w.heap.size) : Ka base w w' :=
  ⟨hg.os, hg.tape, hg.output, hg.size, fun i hi => hg.block i (by omega) (fun e => by have := (ho.lt i e.symm).1; omega), fun i cs t hi ht => (hg.block i (lt_of_heap hi) (own_ne' ho hi (fun e => ht e.symm))).trans hi⟩
theorem Ka.keeps {base : Nat} {w w' : World} (h : Ka base w w') : Keeps base w w' := fun b o hb => World.cell?_of_block (a := ⟨b, o, none⟩) (h.low b hb)
theorem Keeps.mono' {B B' : Nat} {w w' : World} (h : Keeps B' w w') (hB : B ≤ B') : Keeps B w w' := fun b o hb => h b o (by omega)
theorem Ka.row {base g : Nat} {w w' : World} {cs : Array Value} {t : TypeId} (h : Ka base w w') (hg : w.heap[g]? = some (.cells cs t (0, 0))) (ht : t ≠ 81) : ∀ o, w'.cell? ⟨g, o, none⟩ = cs[o]? :=
  row_cells hg ((h.other g cs t hg ht).trans hg.symm)
theorem Ka.below {w w' : World} (h : Ka w.heap.size w w') : Below w.heap.size w w' := ⟨h.os, h.tape, h.output, h.size, h.low⟩

theorem nodup_lt : ∀ (n : Nat) (l : List Nat), l.Nodup → (∀ x ∈ l, x < n) → l.length ≤ n := by
  intro n
  induction n with
  | zero =>
    intro l _ h
    cases l with
    | nil => simp
    | cons a l => exact absurd (h a (List.mem_cons_self ..)) (by omega)
  | succ n ih =>
    intro l hn h
    have h1 := ih (l.erase n) (hn.erase _) (fun x hx => by
      have h2 := h x (List.mem_of_mem_erase hx)
      have h3 : x ≠ n := fun e => by subst e; exact (hn.not_mem_erase) hx
      omega)
    have h2 := List.length_erase (a := n) (l := l)
    split at h2 <;> omega

theorem once_nodup {nb : Nat} : ∀ (l seen : List Int), onceB nb seen l = true → l.Nodup ∧ (∀ x ∈ l, 0 ≤ x ∧ x ≤ nb - 1) ∧ ∀ x ∈ l, x ∉ seen := by
  intro l
  induction l with
  | nil => intro seen _; exact ⟨List.nodup_nil, (fun _ h => by cases h), (fun _ h => by cases h)⟩
  | cons b l ih =>
    intro seen h
    unfold onceB at h
    simp only [Bool.and_eq_true, Bool.not_eq_true'] at h
    obtain ⟨h1, h2, h3⟩ := ih _ h.2
    have hb := within_bd h.1.1
    have hbs : b ∉ seen := fun hm => by have := h.1.2; rw [List.contains_eq_mem] at this; simp [hm] at this
    refine ⟨List.nodup_cons.2 ⟨fun hm => h3 b hm (List.mem_cons_self ..), h1⟩, fun x hx => ?_, fun x hx => ?_⟩
    · rcases List.mem_cons.1 hx with rfl | hx
      · exact hb
      · exact h2 x hx
    · rcases List.mem_cons.1 hx with rfl | hx
      · exact hbs
      · exact fun hm => h3 x hx (List.mem_cons_of_mem _ hm)

theorem once_len {nb : Nat} {l : List Int} (h : onceB nb [] l = true) : l.length ≤ nb := by
  obtain ⟨h1, h2, _⟩ := once_nodup l [] h
  have h3 := nodup_lt nb (l.map Int.toNat) (by
    rw [List.Nodup, List.pairwise_map]
    refine List.Pairwise.imp_of_mem ?_ h1
    intro a b ha hb hne e
    have := h2 a ha
    have := h2 b hb
    omega) (fun x hx => by
    obtain ⟨a, ha, rfl⟩ := List.mem_map.1 hx
    have := h2 a ha
    omega)
  rw [List.length_map] at h3
  exact h3

theorem flat_take' {α β : Type} (g : α → List β) (l : List α) (k : Nat) (a : α) (h : l[k]? = some a) : (l.take (k + 1)).flatMap g = (l.take k).flatMap g ++ g a := by
  obtain ⟨hk, rfl⟩ := List.getElem?_eq_some_iff.1 h
  rw [List.take_succ_eq_append_getElem hk, List.flatMap_append]
  simp

theorem map_take' {α β : Type} (g : α → β) (l : List α) (k : Nat) (a : α) (h : l[k]? = some a) : (l.take (k + 1)).map g = (l.take k).map g ++ [g a] := by
  obtain ⟨hk, rfl⟩ := List.getElem?_eq_some_iff.1 h
  rw [List.take_succ_eq_append_getElem hk, List.map_append]
  rfl

theorem zip_take' {α β : Type} (l : List α) (r : List β) (k : Nat) (a : α) (b : β) (h : l[k]? = some a) (h2 : r[k]? = some b) : (l.take (k + 1)).zip (r.take (k + 1)) = (l.take k).zip (r.take k) ++ [(a, b)] := by
  obtain ⟨hk, rfl⟩ := List.getElem?_eq_some_iff.1 h
  obtain ⟨hk2, rfl⟩ := List.getElem?_eq_some_iff.1 h2
  rw [List.take_succ_eq_append_getElem hk, List.take_succ_eq_append_getElem hk2, List.zip_append (by simp; omega)]
  rfl

theorem flat_take_le {α β : Type} (g : α → List β) (l : List α) (k : Nat) : ((l.take k).flatMap g).length ≤ (l.flatMap g).length := by
  conv => rhs; rw [← List.take_append_drop k l, List.flatMap_append, List.length_append]
  omega

theorem flat_at_le {α β : Type} (g : α → List β) (l : List α) (k : Nat) (a : α) (h : l[k]? = some a) : ((l.take k).flatMap g).length + (g a).length ≤ (l.flatMap g).length := by
  have h1 := flat_take_le g l (k + 1)
  rw [flat_take' g l k a h, List.length_append] at h1
  exact h1

theorem usesBlock_parts (q : BlockM) : (usesBlock q).length = (q.phis.flatMap usesPhi).length + ((q.code.flatMap usesInstr).length + (usesTerm q.term).length) := by
  unfold usesBlock
  rw [List.length_append, List.length_append]

/-- the uses are few enough, whatever has been seen -/
def Few (bs : List BlockM) : Prop := (bs.flatMap usesBlock).length ≤ 3000000

theorem few_phi {bs : List BlockM} (hf : Few bs) {k j m : Nat} {q : BlockM} {p : PhiM} (hq : bs[k]? = some q) (hp : q.phis[j]? = some p) (hm : m < p.vals.length) (us1 us2 : List (Int × Int)) (h1 : us1 = (bs.take k).flatMap usesBlock) (h2 : us2 = us1 ++ (q.phis.take j).flatMap usesPhi) :
    (us2 ++ (p.vals.take m).map fun v => (v, p.typ)).length < 3000000 := by
  have a := flat_at_le usesBlock bs k q hq
  have b := flat_at_le usesPhi q.phis j p hp
  have c := usesBlock_parts q
  have d : (usesPhi p).length = p.vals.length := by unfold usesPhi; rw [List.length_map]
  unfold Few at hf
  rw [h2, h1]
  simp only [List.length_append, List.length_map, List.length_take]
  omega

theorem few_instr {bs : List BlockM} (hf : Few bs) {k j m : Nat} {q : BlockM} {x : InstrM} (hq : bs[k]? = some q) (hp : q.code[j]? = some x) (hm : m < x.args.length) (hl : x.args.length = (takesS x.op).length) (us1 us2 us3 : List (Int × Int)) (h1 : us1 = (bs.take k).flatMap usesBlock) (h2 : us2 = us1 ++ q.phis.flatMap usesPhi) (h3 : us3 = us2 ++ (q.code.take j).flatMap usesInstr) :
    (us3 ++ (x.args.take m).zip ((takesS x.op).take m)).length < 3000000 := by
  have a := flat_at_le usesBlock bs k q hq
  have b := flat_at_le usesInstr q.code j x hp
  have c := usesBlock_parts q
  have d : (usesInstr x).length = x.args.length := by unfold usesInstr; rw [List.length_zip]; omega
  unfold Few at hf
  rw [h3, h2, h1]
  simp only [List.length_append, List.length_zip, List.length_take]
  omega

theorem few_term {bs : List BlockM} (hf : Few bs) {k : Nat} {q : BlockM} (hq : bs[k]? = some q) (hm : 0 < (usesTerm q.term).length) (us1 us2 : List (Int × Int)) (h1 : us1 = (bs.take k).flatMap usesBlock) (h2 : us2 = us1 ++ q.phis.flatMap usesPhi) :
    (us2 ++ q.code.flatMap usesInstr).length < 3000000 := by
  have a := flat_at_le usesBlock bs k q hq
  have c := usesBlock_parts q
  unfold Few at hf
  rw [h2, h1]
  simp only [List.length_append]
  omega

set_option maxRecDepth 100000 in
set_option maxHeartbeats 8000000 in
theorem refUses_any (bs : List BlockM) (B : Nat) (pv xv cv bv : Value) (w : World) (hbv : BlocksR w B bv bs) (hB : B ≤ w.heap.size) (hfew : Few bs) (hl5 : bs.length ≤ 512)
    (hform : ∀ b ∈ bs, ∀ x ∈ b.code, x.args.length = (takesS x.op).length) (hphi : ∀ b ∈ bs, ∀ p ∈ b.phis, p.vals.length = p.fr.length) :
    Calls Try.prog 36 #[.agg #[pv, xv, cv, bv]] w fun e w' => ∃ v, e = .returned v ∧ RU w' w.heap.size v (bs.flatMap usesBlock) ∧ Below w.heap.size w w' := by
  have HFEW := hideI hfew
  have HFO := hideI hform
  have HPH := hideI hphi
  have HBB := hideI hbv
  obtain ⟨i0, hi, hz0, hz1, hz2⟩ := info_parts use_info
  obtain ⟨A, c, rfl, hbm, hbx⟩ := hbv
  have HX := hideI hbx
  clear hbx hfew hform hphi
  obtain ⟨W0, hW0⟩ : ∃ W0 : World, W0 = (w.alloc (.cells #[pv, xv, cv, .slice A bs.length c] 25)).alloc (.cells #[] 81) := ⟨_, rfl⟩
  have hK0 : Hid (Ka w.heap.size w W0) := by rw [hW0]; exact ((Ka.refl _ w).alloc (Nat.le_refl _) _).alloc (by simp) _
  have hbox0 : Hid (W0.heap[w.heap.size]? = some (.cells #[pv, xv, cv, .slice A bs.length c] 25 (0, 0))) := by
    show _ = _
    rw [hW0, Below.heap_alloc _ _ _ (by simp)]
    exact heap_alloc_new w _
  have hR0 : Hid (RU W0 w.heap.size (.slice (some ⟨w.heap.size + 1, 0, none⟩) 0 0) []) := by
    have := World.ownsRow_made (base := w.heap.size) (e := 81) (size := 5) (w.alloc (.cells #[pv, xv, cv, .slice A bs.length c] 25)) #[] 0 (by simp) (by decide) rfl
    show RU W0 _ _ _
    rw [hW0]
    exact ⟨[], rfl, (fun _ h => by cases h), by simpa using this⟩
  have HW0 := hideI hW0
  clear hW0
  go_enter Try.func36, Try.ntmps36
  go_wp2
  rw [← HW0.out]
  go_loopw [3, 4] (fun o i wr => ∃ k : Nat, k ≤ bs.length ∧ i = .int .i64 k ∧ RU wr w.heap.size o ((bs.take k).flatMap usesBlock) ∧ Ka w.heap.size W0 wr) (fun _ i _ => bs.length - (intOf i).toNat)
  case atStart => exact ⟨0, Nat.zero_le _, rfl, by simpa using hR0.out, Ka.refl _ _⟩
  case round =>
    obtain ⟨k, hk, rfl, hIk, hFk⟩ := hrel
    obtain ⟨u3, rfl⟩ : ∃ u3' : Value, u3' = u3 := ⟨_, rfl⟩
    have HIk := hideI hIk
    have HFk := hideI hFk
    have hx := hFk.row hbox0.out (by decide)
    have hsz : w.heap.size < wr.heap.size := by have h1 := hFk.size; have h2 := lt_of_heap hbox0.out; omega
    have HK := hideI (Keeps.mono' (hK0.out.trans hFk).keeps hB)
    clear hIk hFk
    by_cases hlt : k < bs.length
    · obtain ⟨q, hq⟩ : ∃ q, bs[k]? = some q := ⟨_, List.getElem?_eq_getElem hlt⟩
      obtain ⟨b, off, qpv, qcv, qtv, rfl, hb, e0, e1, e2, e3, e4, e5, hpv, hcv, htv, _⟩ := HX.out k q hq
      have c0 := (HK.out b (off + k * 6) hb).trans e0
      have c1 := (HK.out b (off + k * 6 + 1) hb).trans e1
      have c2 := (HK.out b (off + k * 6 + 2) hb).trans e2
      have c3 := (HK.out b (off + k * 6 + 3) hb).trans e3
      have c4 := (HK.out b (off + k * 6 + 4) hb).trans e4
      have c5 := (HK.out b (off + k * 6 + 5) hb).trans e5
      have HQ := hideI hq
      obtain ⟨PA, pc, rfl, hpm, hpx⟩ := hpv
      obtain ⟨CA, cc, rfl, hcm, hcx⟩ := hcv
      obtain ⟨TA, tc, rfl, _⟩ := htv
      have HPX := hideI hpx
      have HCX := hideI hcx
      clear e0 e1 e2 e3 e4 e5 hq hpx hcx
      obtain ⟨wo, rfl⟩ : ∃ wo : World, wo = wr := ⟨_, rfl⟩
      obtain ⟨W1, hW1⟩ : ∃ W1 : World, W1 = wo.alloc (.cells #[.slice PA q.phis.length pc, .slice CA q.code.length cc, .int .i64 q.term.op, .int .i64 q.term.val, .slice TA q.term.to.length tc, .int .i64 q.term.n] 46) := ⟨_, rfl⟩
      have HF1 : Hid (Ka w.heap.size W0 W1) := by rw [hW1]; exact HFk.out.alloc (by omega) _
      have HI1 : Hid (RU W1 w.heap.size u3 ((bs.take k).flatMap usesBlock)) := by rw [hW1]; exact HIk.out.alloc _
      have HB1 : Hid (W1.heap[wo.heap.size]? = some (.cells #[.slice PA q.phis.length pc, .slice CA q.code.length cc, .int .i64 q.term.op, .int .i64 q.term.val, .slice TA q.term.to.length tc, .int .i64 q.term.n] 46 (0, 0))) := by rw [hW1]; exact heap_alloc_new wo _
      have HW1 := hideI hW1
      clear hW1
      obtain ⟨us1, hus1⟩ : ∃ us1, us1 = (bs.take k).flatMap usesBlock := ⟨_, rfl⟩
      rw [← hus1] at HI1
      have HU1 := hideI hus1
      clear hus1
      go_wp2
      rw [← HW1.out]
      go_loopw [3, 6] (fun o i wr => ∃ j : Nat, j ≤ q.phis.length ∧ i = .int .i64 j ∧ RU wr w.heap.size o (us1 ++ (q.phis.take j).flatMap usesPhi) ∧ Ka w.heap.size W1 wr) (fun _ i _ => q.phis.length - (intOf i).toNat)
      case atStart => exact ⟨0, Nat.zero_le _, rfl, by simpa using HI1.out, Ka.refl _ _⟩
      case round =>
        obtain ⟨j, hj, rfl, hIj, hFj⟩ := hrel
        have HIj := hideI hIj
        have HFj := hideI hFj
        have hx1 := hFj.row HB1.out (by decide)
        have hsz1 : wo.heap.size < wr.heap.size := by have h1 := hFj.size; have h2 := lt_of_heap HB1.out; omega
        have HK1 := hideI (Keeps.mono' ((hK0.out.trans HF1.out).trans hFj).keeps hB)
        clear hIj hFj
        by_cases hlj : j < q.phis.length
        · obtain ⟨p, hp⟩ : ∃ p, q.phis[j]? = some p := ⟨_, List.getElem?_eq_getElem hlj⟩
          obtain ⟨b2, off2, fv, vv, rfl, hb2, e0, e1, e2, e3, hf, hv, _⟩ := HPX.out j p hp
          have HQ2 := hideI hp
          have hpl : Hid (p.vals.length = p.fr.length) := HPH.out q (List.mem_of_getElem? HQ.out) p (List.mem_of_getElem? hp)
          obtain ⟨FA, fc, rfl, hfm, hfx⟩ := hf
          obtain ⟨VA, vc, rfl, hvm, hvx⟩ := hv
          have HVX := hideI hvx
          have HFX := hideI hfx
          have HE := hideI (And.intro e1 (And.intro e2 e3))
          have d3 := (HK1.out b2 (off2 + j * 4 + 3) hb2).trans e3
          obtain ⟨wi, rfl⟩ : ∃ wi : World, wi = wr := ⟨_, rfl⟩
          obtain ⟨us2, hus2⟩ : ∃ us2, us2 = us1 ++ (q.phis.take j).flatMap usesPhi := ⟨_, rfl⟩
          rw [← hus2] at HIj
          have HU2 := hideI hus2
          clear e0 e1 e2 e3 hp hvx hfx hus2
          go_wp2
          clear d3
          go_loopw [3, 7] (fun o i wr => ∃ m : Nat, m ≤ p.vals.length ∧ i = .int .i64 m ∧ RU wr w.heap.size o (us2 ++ (p.vals.take m).map fun v => (v, p.typ)) ∧ Ka w.heap.size wi wr) (fun _ i _ => p.vals.length - (intOf i).toNat)
          case atStart => exact ⟨0, Nat.zero_le _, rfl, by simpa using HIj.out, Ka.refl _ _⟩
          case round =>
            obtain ⟨m, hm, rfl, hIm, hFm⟩ := hrel
            have hx2 := (HFj.out.trans hFm).row HB1.out (by decide)
            have HK2 := hideI (Keeps.mono' (((hK0.out.trans HF1.out).trans HFj.out).trans hFm).keeps hB)
            have hsz2 : w.heap.size ≤ wr.heap.size := by have h1 := hFm.size; omega
            have d1 := (HK2.out b2 (off2 + j * 4 + 1) hb2).trans HE.out.1
            have d2 := (HK2.out b2 (off2 + j * 4 + 2) hb2).trans HE.out.2.1
            have d3 := (HK2.out b2 (off2 + j * 4 + 3) hb2).trans HE.out.2.2
            have HIm := hideI hIm
            have HFm := hideI hFm
            clear hIm hFm
            by_cases hlm : m < p.vals.length
            · obtain ⟨b3, off3, rfl, hb3, e3⟩ := HVX.out m hlm
              obtain ⟨v, hv⟩ : ∃ v, p.vals[m]? = some v := ⟨_, List.getElem?_eq_getElem hlm⟩
              have hlf : m < p.fr.length := by rw [← hpl.out]; exact hlm
              obtain ⟨b4, off4, rfl, hb4, e4⟩ := HFX.out m hlf
              obtain ⟨fr, hfr⟩ : ∃ fr, p.fr[m]? = some fr := ⟨_, List.getElem?_eq_getElem hlf⟩
              rw [hv] at e3
              rw [hfr] at e4
              have f3 := (HK2.out b3 (off3 + m) hb3).trans e3
              have f4 := (HK2.out b4 (off4 + m) hb4).trans e4
              simp only [Option.getD_some] at f3 f4
              have HV := hideI hv
              have hfw := few_phi HFEW.out HQ.out HQ2.out hlm us1 us2 HU1.out HU2.out
              obtain ⟨uu, huu⟩ : ∃ uu, uu = us2 ++ (p.vals.take m).map fun v => (v, p.typ) := ⟨_, rfl⟩
              rw [← huu] at hfw HIm
              have HUU := hideI huu
              clear e3 e4 hv hfr huu
              have g0 : wr.cell? ⟨wo.heap.size, 0, none⟩ = some (.slice (some ⟨b2, off2, none⟩) q.phis.length pc) := hx2 0
              clear hx2
              obtain ⟨rows, hrw1, hrw2, hown⟩ := HIm.out
              have HR1 := hideI hrw1
              have HR2 := hideI hrw2
              clear hrw1 hrw2
              have G0 : Hid (∀ W, Ka w.heap.size wr W → W.cell? ⟨wo.heap.size, 0, none⟩ = some (.slice (some ⟨b2, off2, none⟩) q.phis.length pc) ∧ W.cell? ⟨b2, off2 + j * 4 + 1, none⟩ = some (.int .i64 p.typ) ∧ W.cell? ⟨b2, off2 + j * 4 + 2, none⟩ = some (.slice (some ⟨b4, off4, none⟩) p.fr.length fc) ∧ W.cell? ⟨b2, off2 + j * 4 + 3, none⟩ = some (.slice (some ⟨b3, off3, none⟩) p.vals.length vc) ∧ W.cell? ⟨b3, off3 + m, none⟩ = some (.int .i64 v) ∧ W.cell? ⟨b4, off4 + m, none⟩ = some (.int .i64 fr)) :=
                fun W hW => ⟨((HFj.out.trans HFm.out).trans hW).row HB1.out (by decide) 0, (hW.keeps _ _ (by omega)).trans d1, (hW.keeps _ _ (by omega)).trans d2, (hW.keeps _ _ (by omega)).trans d3, (hW.keeps _ _ (by omega)).trans f3, (hW.keeps _ _ (by omega)).trans f4⟩
              go_wp2
              go_region_held3 (fun w' => w'.cell? ⟨wo.heap.size, 0, none⟩ = some (.slice (some ⟨b2, off2, none⟩) q.phis.length pc) ∧ w'.cell? ⟨b2, off2 + j * 4 + 1, none⟩ = some (.int .i64 p.typ) ∧ w'.cell? ⟨b2, off2 + j * 4 + 2, none⟩ = some (.slice (some ⟨b4, off4, none⟩) p.fr.length fc) ∧ w'.cell? ⟨b2, off2 + j * 4 + 3, none⟩ = some (.slice (some ⟨b3, off3, none⟩) p.vals.length vc) ∧ w'.cell? ⟨b3, off3 + m, none⟩ = some (.int .i64 v) ∧ w'.cell? ⟨b4, off4 + m, none⟩ = some (.int .i64 fr)) (first | go_keep | exact G0.out _ ((((Ka.refl _ wr).alloc hsz2 _).drew).trans hka) | exact G0.out _ (((Ka.refl _ wr).alloc hsz2 _).trans hka))
                (first | (refine step_append_lies _ rfl (.tmp 44) (.tmp 71) _ rfl w.heap.size 81 i0 _ 5 40 Try.underlying78 hi hz0 hz1 hz2 rfl (by decide) _ _ _ rfl (hown.alloc _) ⟨wr.heap.size, 0, none⟩ 1 1 [.int .i64 v, .int .i64 p.typ, .int .i64 k, .int .i64 (-1), .int .i64 fr] rfl rfl (five_new _ _ _) (by simp [Value.oneCell']) (by decide) (by unfold maxLen; omega) (by omega) (by simp; omega) _ rfl ?_; intro g1 cap1 w4 hown1 hgrow1 hor hgl1; have hka := Ka.grown hgrow1 (hown.alloc _) (by simp; omega)))
              have HIN : Hid (RU w4 w.heap.size (.slice (some ⟨g1, 0, none⟩) (uu.length + 1) cap1) (us2 ++ (p.vals.take (m + 1)).map fun v => (v, p.typ))) := by
                have := RU.push (b := p.typ) HR1.out HR2.out hown1
                rw [map_take' (fun v => (v, p.typ)) p.vals m v HV.out, ← List.append_assoc, ← HUU.out]
                exact this
              have HFN : Hid (Ka w.heap.size wi w4) := (HFm.out.trans (((Ka.refl _ wr).alloc hsz2 _).drew)).trans hka
              clear hown1 hgrow1 hor hgl1 hka
              go_wp2
              go_roundw
              case rel => exact ⟨m + 1, by omega, by go_num, HIN.out, HFN.out⟩
              case measure => simp [intOf]; omega
            · have HIend : Hid (RU wr w.heap.size u3 (us2 ++ usesPhi p)) := by have := HIm.out; rw [List.take_of_length_le (by omega)] at this; exact this
              go_wp2
              go_roundw
              case rel => exact ⟨j + 1, by omega, by go_num, by rw [flat_take' _ _ _ _ HQ2.out, ← List.append_assoc, ← HU2.out]; exact HIend.out, HFj.out.trans HFm.out⟩
              case measure => simp [intOf]; omega
        · have HIend : Hid (RU wr w.heap.size u3 (us1 ++ q.phis.flatMap usesPhi)) := by have := HIj.out; rw [List.take_of_length_le (by omega)] at this; exact this
          go_wp2
          obtain ⟨wp, rfl⟩ : ∃ wp : World, wp = wr := ⟨_, rfl⟩
          clear hx1 hsz1 HK1 hlj
          obtain ⟨us3, hus3⟩ : ∃ us3, us3 = us1 ++ q.phis.flatMap usesPhi := ⟨_, rfl⟩
          rw [← hus3] at HIend
          have HU3 := hideI hus3
          clear hus3
          go_loopw [3, 8] (fun o i wr => ∃ j : Nat, j ≤ q.code.length ∧ i = .int .i64 j ∧ RU wr w.heap.size o (us3 ++ (q.code.take j).flatMap usesInstr) ∧ Ka w.heap.size W1 wr) (fun _ i _ => q.code.length - (intOf i).toNat)
          case atStart => exact ⟨0, Nat.zero_le _, rfl, by simpa using HIend.out, HFj.out⟩
          case round =>
            obtain ⟨j2, hj2, rfl, hIj2, hFj2⟩ := hrel
            have HIj2 := hideI hIj2
            have HFj2 := hideI hFj2
            have hx1 := hFj2.row HB1.out (by decide)
            have hsz1 : wo.heap.size < wr.heap.size := by have h1 := hFj2.size; have h2 := lt_of_heap HB1.out; omega
            have hsz0 : w.heap.size ≤ wr.heap.size := by omega
            have HK1 := hideI (Keeps.mono' ((hK0.out.trans HF1.out).trans hFj2).keeps hB)
            clear hIj2 hFj2
            by_cases hlj2 : j2 < q.code.length
            · obtain ⟨x, hp⟩ : ∃ x, q.code[j2]? = some x := ⟨_, List.getElem?_eq_getElem hlj2⟩
              have hxl : Hid (x.args.length = (takesS x.op).length) := HFO.out q (List.mem_of_getElem? HQ.out) x (List.mem_of_getElem? hp)
              obtain ⟨b2, off2, av, rfl, hb2, e0, e1, e2, e3, hf, _⟩ := HCX.out j2 x hp
              have d0 := (HK1.out b2 (off2 + j2 * 4) hb2).trans e0
              have HE2 := hideI e2
              have HQ2 := hideI hp
              obtain ⟨AA, ac, rfl, ham, hax⟩ := hf
              have HAX := hideI hax
              clear e0 e1 e2 e3 hp hax
              obtain ⟨wi, rfl⟩ : ∃ wi : World, wi = wr := ⟨_, rfl⟩
              go_wp2_with (go_at_call 51; refine (refArgs_any _ _).mono ?_; rintro e w3 ⟨tv, rfl, htv, hbA⟩; obtain ⟨TK, tkc, rfl, htm, htx⟩ := htv; have HTX := hideI htx; have HBA := hideI hbA; clear htx hbA)
              have HF3 : Hid (Ka w.heap.size W1 w3) := HFj2.out.trans (Ka.of_below HBA.out hsz0)
              have HI3 : Hid (RU w3 w.heap.size u3 (us3 ++ (q.code.take j2).flatMap usesInstr)) := HIj2.out.below HBA.out
              obtain ⟨us4, hus4⟩ : ∃ us4, us4 = us3 ++ (q.code.take j2).flatMap usesInstr := ⟨_, rfl⟩
              rw [← hus4] at HI3
              have HU4 := hideI hus4
              have hsz3 : wi.heap.size ≤ w3.heap.size := HBA.out.size
              clear hus4 hx1 d0
              go_loopw [3, 12] (fun o i wr => ∃ m : Nat, m ≤ (takesS x.op).length ∧ i = .int .i64 m ∧ RU wr w.heap.size o (us4 ++ (x.args.take m).zip ((takesS x.op).take m)) ∧ Ka w.heap.size w3 wr) (fun _ i _ => (takesS x.op).length - (intOf i).toNat)
              case atStart => exact ⟨0, Nat.zero_le _, rfl, by simpa using HI3.out, Ka.refl _ _⟩
              case round =>
                obtain ⟨m, hm, rfl, hIm, hFm⟩ := hrel
                have HIm := hideI hIm
                have HFm := hideI hFm
                have HK2 := hideI (Keeps.mono' ((hK0.out.trans HF1.out).trans (HF3.out.trans hFm)).keeps hB)
                have hsz2 : w.heap.size ≤ wr.heap.size := by have h1 := hFm.size; omega
                clear hIm hFm
                by_cases hlm : m < (takesS x.op).length
                · have hla : m < x.args.length := by rw [hxl.out]; exact hlm
                  obtain ⟨b3, off3, rfl, hb3, e3⟩ := HAX.out m hla
                  obtain ⟨v, hv⟩ : ∃ v, x.args[m]? = some v := ⟨_, List.getElem?_eq_getElem hla⟩
                  obtain ⟨t, ht⟩ : ∃ t, (takesS x.op)[m]? = some t := ⟨_, List.getElem?_eq_getElem hlm⟩
                  obtain ⟨g, cs, rfl, hg, hgb, hgc⟩ := HTX.out (by omega)
                  have hgx := (HFm.out.row hgb (by decide) m).trans (hgc m hlm)
                  rw [hv] at e3
                  rw [ht] at hgx
                  have f3 := (HK2.out b3 (off3 + m) hb3).trans e3
                  have d2 := (HK2.out b2 (off2 + j2 * 4 + 2) hb2).trans HE2.out
                  simp only [Option.getD_some] at f3 hgx
                  have HV := hideI hv
                  have HT2 := hideI ht
                  have HGB := hideI (And.intro hgb (hgc m hlm))
                  have hfw := few_instr HFEW.out HQ.out HQ2.out hla hxl.out us1 us3 us4 HU1.out HU3.out HU4.out
                  obtain ⟨uu, huu⟩ : ∃ uu, uu = us4 ++ (x.args.take m).zip ((takesS x.op).take m) := ⟨_, rfl⟩
                  rw [← huu] at hfw HIm
                  have HUU := hideI huu
                  obtain ⟨rows, hrw1, hrw2, hown⟩ := HIm.out
                  have HR1 := hideI hrw1
                  have HR2 := hideI hrw2
                  have g0 : wr.cell? ⟨wo.heap.size, 1, none⟩ = some (.slice (some ⟨b2, off2, none⟩) q.code.length cc) := ((HF3.out.trans HFm.out).row HB1.out (by decide) 1)
                  clear e3 hv ht hgb hgc huu hrw1 hrw2
                  have G0 : Hid (∀ W, Ka w.heap.size wr W → W.cell? ⟨wo.heap.size, 1, none⟩ = some (.slice (some ⟨b2, off2, none⟩) q.code.length cc) ∧ W.cell? ⟨b2, off2 + j2 * 4 + 2, none⟩ = some (.slice (some ⟨b3, off3, none⟩) x.args.length ac) ∧ W.cell? ⟨b3, off3 + m, none⟩ = some (.int .i64 v) ∧ W.cell? ⟨g, m, none⟩ = some (.int .i64 t)) :=
                    fun W hW => ⟨((HF3.out.trans HFm.out).trans hW).row HB1.out (by decide) 1, (hW.keeps _ _ (by omega)).trans d2, (hW.keeps _ _ (by omega)).trans f3, (by rw [((HFm.out.trans hW).row HGB.out.1 (by decide) m), ← hgx, HFm.out.row HGB.out.1 (by decide) m])⟩
                  go_wp2
                  go_region_held3 (fun w' => w'.cell? ⟨wo.heap.size, 1, none⟩ = some (.slice (some ⟨b2, off2, none⟩) q.code.length cc) ∧ w'.cell? ⟨b2, off2 + j2 * 4 + 2, none⟩ = some (.slice (some ⟨b3, off3, none⟩) x.args.length ac) ∧ w'.cell? ⟨b3, off3 + m, none⟩ = some (.int .i64 v) ∧ w'.cell? ⟨g, m, none⟩ = some (.int .i64 t)) (first | go_keep | exact G0.out _ ((((Ka.refl _ wr).alloc hsz2 _).drew).trans hka) | exact G0.out _ (((Ka.refl _ wr).alloc hsz2 _).trans hka))
                    (first | (refine step_append_lies _ rfl (.tmp 97) (.tmp 114) _ rfl w.heap.size 81 i0 _ 5 40 Try.underlying78 hi hz0 hz1 hz2 rfl (by decide) _ _ _ rfl (hown.alloc _) ⟨wr.heap.size, 0, none⟩ 1 1 [.int .i64 v, .int .i64 t, .int .i64 k, .int .i64 j2, .int .i64 0] rfl rfl (five_new _ _ _) (by simp [Value.oneCell']) (by decide) (by unfold maxLen; omega) (by omega) (by simp; omega) _ rfl ?_; intro g1 cap1 w4 hown1 hgrow1 hor hgl1; have hka := Ka.grown hgrow1 (hown.alloc _) (by simp; omega)))
                  have HIN : Hid (RU w4 w.heap.size (.slice (some ⟨g1, 0, none⟩) (uu.length + 1) cap1) (us4 ++ (x.args.take (m + 1)).zip ((takesS x.op).take (m + 1)))) := by
                    have := RU.push (b := t) HR1.out HR2.out hown1
                    rw [zip_take' _ _ _ _ _ HV.out HT2.out, ← List.append_assoc, ← HUU.out]
                    exact this
                  have HFN : Hid (Ka w.heap.size w3 w4) := (HFm.out.trans (((Ka.refl _ wr).alloc hsz2 _).drew)).trans hka
                  clear hown1 hgrow1 hor hgl1 hka
                  go_wp2
                  go_roundw
                  case rel => exact ⟨m + 1, by omega, by go_num, HIN.out, HFN.out⟩
                  case measure => simp [intOf]; omega
                · have HIe : Hid (RU wr w.heap.size u3 (us4 ++ usesInstr x)) := by
                    have := HIm.out
                    rw [List.take_of_length_le (by rw [hxl.out]; omega), List.take_of_length_le (by omega)] at this
                    exact this
                  go_wp2
                  go_roundw
                  case rel => exact ⟨j2 + 1, by omega, by go_num, by rw [flat_take' _ _ _ _ HQ2.out, ← List.append_assoc, ← HU4.out]; exact HIe.out, HF3.out.trans HFm.out⟩
                  case measure => simp [intOf]; omega
            · have HIe : Hid (RU wr w.heap.size u3 (us3 ++ q.code.flatMap usesInstr)) := by have := HIj2.out; rw [List.take_of_length_le (by omega)] at this; exact this
              have HUB : Hid ((bs.take (k + 1)).flatMap usesBlock = (us3 ++ q.code.flatMap usesInstr) ++ usesTerm q.term) := by
                show _ = _
                rw [flat_take' _ _ _ _ HQ.out, HU3.out, HU1.out]
                simp only [usesBlock, List.append_assoc]
              cases h2 : q.term.op == 2
              · cases h3 : q.term.op == 3
                · have hu : usesTerm q.term = [] := by
                    unfold usesTerm
                    rw [if_neg (by simpa using h2), if_neg (by simpa using h3)]
                  have HU := hideI hu
                  clear hu
                  go_wp2
                  go_roundw
                  case rel => exact ⟨k + 1, by omega, by go_num, by rw [HUB.out, HU.out, List.append_nil]; exact HIe.out, HF1.out.trans HFj2.out⟩
                  case measure => simp [intOf]; omega
                · have hu : usesTerm q.term = [(q.term.val, 0)] := by
                    unfold usesTerm
                    rw [if_neg (by simpa using h2), if_pos (by simpa using h3)]
                  have HU := hideI hu
                  have hfw := few_term HFEW.out HQ.out (by rw [hu]; exact Nat.zero_lt_one) us1 us3 HU1.out HU3.out
                  clear hu
                  obtain ⟨uu, huu⟩ : ∃ uu, uu = us3 ++ q.code.flatMap usesInstr := ⟨_, rfl⟩
                  rw [← huu] at hfw HIe HUB
                  clear huu
                  obtain ⟨rows, hrw1, hrw2, hown⟩ := HIe.out
                  have HR1 := hideI hrw1
                  have HR2 := hideI hrw2
                  clear hrw1 hrw2
                  go_wp2_with (at_builtin; refine wpList_append_lies _ rfl _ _ _ rfl w.heap.size 81 i0 _ 5 40 Try.underlying78 hi hz0 hz1 hz2 rfl (by decide) _ _ _ rfl (hown.alloc _) ⟨wr.heap.size, 0, none⟩ 1 1 [.int .i64 q.term.val, .int .i64 0, .int .i64 k, .int .i64 q.code.length, .int .i64 0] rfl rfl (five_new _ _ _) (by simp [Value.oneCell']) (by decide) (by unfold maxLen; omega) (by omega) (by simp; omega) _ rfl ?_; intro g1 cap1 w4 hown1 hgrow1 hor hgl1; have hka := hideI (Ka.grown hgrow1 (hown.alloc _) (by simp; omega)); have HO1 := hideI hown1; clear hown1 hgrow1 hor hgl1)
                  go_roundw
                  case rel => exact ⟨k + 1, by omega, by go_num, by rw [HUB.out, HU.out]; exact RU.push HR1.out HR2.out HO1.out, (HF1.out.trans (HFj2.out.alloc hsz0 _)).trans hka.out⟩
                  case measure => simp [intOf]; omega
              · have hu : usesTerm q.term = [(q.term.val, 2)] := by
                  unfold usesTerm
                  rw [if_pos (by simpa using h2)]
                have HU := hideI hu
                have hfw := few_term HFEW.out HQ.out (by rw [hu]; exact Nat.zero_lt_one) us1 us3 HU1.out HU3.out
                clear hu
                have h3 : (q.term.op == 3) = false := by
                  have : q.term.op = 2 := by simpa using h2
                  rw [this]; rfl
                obtain ⟨uu, huu⟩ : ∃ uu, uu = us3 ++ q.code.flatMap usesInstr := ⟨_, rfl⟩
                rw [← huu] at hfw HIe HUB
                clear huu
                obtain ⟨rows, hrw1, hrw2, hown⟩ := HIe.out
                have HR1 := hideI hrw1
                have HR2 := hideI hrw2
                clear hrw1 hrw2
                go_wp2_with (at_builtin; refine wpList_append_lies _ rfl _ _ _ rfl w.heap.size 81 i0 _ 5 40 Try.underlying78 hi hz0 hz1 hz2 rfl (by decide) _ _ _ rfl (hown.alloc _) ⟨wr.heap.size, 0, none⟩ 1 1 [.int .i64 q.term.val, .int .i64 2, .int .i64 k, .int .i64 q.code.length, .int .i64 0] rfl rfl (five_new _ _ _) (by simp [Value.oneCell']) (by decide) (by unfold maxLen; omega) (by omega) (by simp; omega) _ rfl ?_; intro g1 cap1 w4 hown1 hgrow1 hor hgl1; have hka := hideI (Ka.grown hgrow1 (hown.alloc _) (by simp; omega)); have HO1 := hideI hown1; have hx4 := ((HFj2.out.alloc hsz0 _).trans hka.out).row HB1.out (by decide); clear hown1 hgrow1 hor hgl1)
                go_roundw
                case rel => exact ⟨k + 1, by omega, by go_num, by rw [HUB.out, HU.out]; exact RU.push HR1.out HR2.out HO1.out, (HF1.out.trans (HFj2.out.alloc hsz0 _)).trans hka.out⟩
                case measure => simp [intOf]; omega
    · go_wp2
      go_ret
      refine ⟨_, rfl, ?_, (hK0.out.trans HFk.out).below⟩
      have := HIk.out
      rw [List.take_of_length_le (by omega)] at this
      exact this

end Go.Proofs.Ytncmnbchkabgaaa

namespace Go.Proofs.Ytncmnbchkabgaaa
open Go.RowKit

theorem makes_type {op : Int} (h : makesS op ≠ 0) : isTypeB (makesS op) = true := by
  unfold makesS at h ⊢
  rcases op_cases op with h1 | h1 | h1
  · rcases h1 with rfl | rfl | rfl | rfl | rfl | rfl | rfl | rfl | rfl | rfl | rfl | rfl | rfl <;> first | decide | exact absurd rfl h
  · rcases h1 with rfl | rfl | rfl | rfl | rfl | rfl | rfl | rfl | rfl | rfl | rfl | rfl <;> first | decide | exact absurd rfl h
  · rw [shapeS_none h1] at h; exact absurd rfl h

def Typed (ds d : Defs) : Prop := ∀ x ∈ d, x ∈ ds ∨ isTypeB x.2 = true
theorem Typed.refl (ds : Defs) : Typed ds ds := fun _ h => .inl h
theorem Typed.trans {a b c : Defs} (h : Typed a b) (k : Typed b c) : Typed a c := fun x hx => by
  rcases k x hx with h1 | h1
  · exact h x h1
  · exact .inr h1

theorem addDef_typed {np : Nat} {ds d : Defs} {id t : Int} (ht : isTypeB t = true) (h : addDef np ds id t = some d) : Typed ds d := by
  unfold addDef at h
  split at h
  · injection h with h
    subst h
    intro x hx
    rcases List.mem_append.1 hx with hx | hx
    · exact .inl hx
    · simp at hx
      subst hx
      exact .inr ht
  · cases h

theorem phisStep_all {f : FuncM} : ∀ {l : List PhiM} {ds d : Defs}, phisStep f ds l = some d → (∀ p ∈ l, phiB f p = true) ∧ Typed ds d := by
  intro l
  induction l with
  | nil => intro ds d h; injection h with h; subst h; exact ⟨(fun _ h => by cases h), Typed.refl _⟩
  | cons p l ih =>
    intro ds d h
    unfold phisStep at h
    rw [Option.bind_eq_some_iff] at h
    obtain ⟨d1, h1, h2⟩ := h
    obtain ⟨i1, i2⟩ := ih h2
    unfold phiStep at h1
    split at h1
    · rename_i hp
      have ht : isTypeB p.typ = true := by unfold phiB at hp; simp only [Bool.and_eq_true] at hp; exact hp.1
      refine ⟨fun x hx => ?_, (addDef_typed ht h1).trans i2⟩
      rcases List.mem_cons.1 hx with rfl | hx
      · exact hp
      · exact i1 x hx
    · cases h1

theorem codeStep_all {f : FuncM} : ∀ {l : List InstrM} {ds d : Defs}, codeStep f ds l = some d → (∀ x ∈ l, instrB f x = true) ∧ Typed ds d := by
  intro l
  induction l with
  | nil => intro ds d h; injection h with h; subst h; exact ⟨(fun _ h => by cases h), Typed.refl _⟩
  | cons p l ih =>
    intro ds d h
    unfold codeStep at h
    rw [Option.bind_eq_some_iff] at h
    obtain ⟨d1, h1, h2⟩ := h
    obtain ⟨i1, i2⟩ := ih h2
    unfold instrStep at h1
    split at h1
    · rename_i hp
      have hd : Typed ds d1 := by
        split at h1
        · split at h1
          · injection h1 with h1; subst h1; exact Typed.refl _
          · cases h1
        · rename_i hm
          exact addDef_typed (makes_type hm) h1
      refine ⟨fun x hx => ?_, hd.trans i2⟩
      rcases List.mem_cons.1 hx with rfl | hx
      · exact hp
      · exact i1 x hx
    · cases h1

def Right (f : FuncM) (b : BlockM) : Prop := (∀ p ∈ b.phis, phiB f p = true) ∧ ∀ x ∈ b.code, instrB f x = true

theorem blocksStep_all {f : FuncM} : ∀ {l : List BlockM} {ds d : Defs}, blocksStep f ds l = some d → (∀ b ∈ l, Right f b) ∧ Typed ds d := by
  intro l
  induction l with
  | nil => intro ds d h; injection h with h; subst h; exact ⟨(fun _ h => by cases h), Typed.refl _⟩
  | cons b l ih =>
    intro ds d h
    unfold blocksStep at h
    rw [Option.bind_eq_some_iff] at h
    obtain ⟨d1, h1, h2⟩ := h
    obtain ⟨i1, i2⟩ := ih h2
    unfold blockStep at h1
    rw [Option.bind_eq_some_iff] at h1
    obtain ⟨d2, h3, h4⟩ := h1
    rw [Option.bind_eq_some_iff] at h4
    obtain ⟨d3, h5, h6⟩ := h4
    obtain ⟨p1, p2⟩ := phisStep_all h3
    obtain ⟨c1, c2⟩ := codeStep_all h5
    split at h6
    · injection h6 with h6
      subst h6
      refine ⟨fun x hx => ?_, (p2.trans c2).trans i2⟩
      rcases List.mem_cons.1 hx with rfl | hx
      · exact ⟨p1, c1⟩
      · exact i1 x hx
    · cases h6

theorem paramDefs_typ (l : List Int) : ∀ j, ∀ d ∈ paramDefs j l, d.2 ∈ l := by
  induction l with
  | nil => intro j d h; cases h
  | cons t l ih =>
    intro j d h
    rcases List.mem_cons.1 h with rfl | h
    · exact List.mem_cons_self ..
    · exact List.mem_cons_of_mem _ (ih _ d h)

theorem formed_all {f : FuncM} {ds : Defs} (h : formedM f = some ds) : (∀ b ∈ f.blocks, Right f b) ∧ ∀ x ∈ ds, isTypeB x.2 = true := by
  unfold formedM at h
  split at h
  · rename_i hc
    simp only [Bool.and_eq_true] at hc
    obtain ⟨h1, h2⟩ := blocksStep_all h
    refine ⟨h1, fun x hx => ?_⟩
    rcases h2 x hx with h3 | h3
    · exact List.all_eq_true.1 hc.1.2 _ (paramDefs_typ _ _ x h3)
    · exact h3
  · cases h

theorem right_block {f : FuncM} {q : BlockM} (hb : f.blocks.length ≤ 512) (h : Right f q) : (usesBlock q).length ≤ sizeB q * 512 := by
  unfold usesBlock sizeB
  rw [List.length_append, List.length_append]
  have h1 := flat_len usesPhi 512 q.phis (fun p hp => by
    have h2 := h.1 p hp
    unfold phiB at h2
    simp only [Bool.and_eq_true, beq_iff_eq] at h2
    unfold usesPhi
    rw [List.length_map, h2.2.1]
    exact Nat.le_trans (once_len h2.2.2) hb)
  have h2 := flat_len usesInstr 512 q.code (fun x _ => by
    unfold usesInstr
    rw [List.length_zip]
    have := shapeS_short x.op
    unfold takesS
    rw [List.length_map]
    omega)
  have h3 : (usesTerm q.term).length ≤ 1 := by
    unfold usesTerm
    split
    · simp
    · split <;> simp
  rw [Nat.add_mul, Nat.add_mul]
  omega

theorem right_blocks {f : FuncM} (hb : f.blocks.length ≤ 512) : ∀ l : List BlockM, (∀ q ∈ l, Right f q) → (l.flatMap usesBlock).length ≤ (l.map sizeB).sum * 512 := by
  intro l
  induction l with
  | nil => intro _; simp
  | cons q l ih =>
    intro h
    rw [List.flatMap_cons, List.length_append, List.map_cons, List.sum_cons, Nat.add_mul]
    have h1 := right_block hb (h q (List.mem_cons_self ..))
    have h2 := ih (fun b hb => h b (List.mem_cons_of_mem _ hb))
    omega

theorem look_few {f : FuncM} (h : (lookM f).1 = 0) : Few f.blocks := by
  have h1 := right_blocks (look_bd h) f.blocks (formed_all (look_formed h)).1
  have h2 := look_size h
  unfold sizeM at h2
  unfold Few
  omega

theorem look_form {f : FuncM} (h : (lookM f).1 = 0) : ∀ b ∈ f.blocks, ∀ x ∈ b.code, x.args.length = (takesS x.op).length := by
  intro b hb x hx
  have h1 := ((formed_all (look_formed h)).1 b hb).2 x hx
  unfold instrB at h1
  simp only [Bool.and_eq_true, beq_iff_eq] at h1
  exact h1.2.1

theorem look_phi {f : FuncM} (h : (lookM f).1 = 0) : ∀ b ∈ f.blocks, ∀ p ∈ b.phis, p.vals.length = p.fr.length := by
  intro b hb x hx
  have h1 := ((formed_all (look_formed h)).1 b hb).1 x hx
  unfold phiB at h1
  simp only [Bool.and_eq_true, beq_iff_eq] at h1
  exact h1.2.1

theorem look_type {f : FuncM} (h : (lookM f).1 = 0) {id : Int} (hi : id ∈ idsS f) : ∃ t, (lookM f).2.at id = some t ∧ (t = 1 ∨ t = 2) := by
  rw [idsS_mem] at hi
  obtain ⟨t, ht⟩ := Option.isSome_iff_exists.1 (at_some.2 hi)
  refine ⟨t, ht, ?_⟩
  unfold Defs.at at ht
  rw [Option.map_eq_some_iff] at ht
  obtain ⟨d, hd, rfl⟩ := ht
  have := (formed_all (look_formed h)).2 d (List.mem_of_find?_eq_some hd)
  unfold isTypeB at this
  simpa using this

theorem idsS_nodup {f : FuncM} (h : (lookM f).1 = 0) : (idsS f).Nodup := by
  unfold idsS
  exact (List.mergeSort_perm _ _).nodup_iff.2 (formed_nodup (look_formed h))

theorem idsS_less {f : FuncM} (h : (lookM f).1 = 0) {k : Nat} {a b : Int} (ha : (idsS f)[k]? = some a) (hb : (idsS f)[k + 1]? = some b) : a < b := by
  obtain ⟨h1, rfl⟩ := List.getElem?_eq_some_iff.1 ha
  obtain ⟨h2, rfl⟩ := List.getElem?_eq_some_iff.1 hb
  have h3 := List.pairwise_iff_getElem.1 (idsS_sorted f) k (k + 1) h1 h2 (by omega)
  have h4 := List.pairwise_iff_getElem.1 (idsS_nodup h) k (k + 1) h1 h2 (by omega)
  omega

theorem idsS_bd {f : FuncM} (h : (lookM f).1 = 0) {x : Int} (hx : x ∈ idsS f) : 0 ≤ x ∧ x ≤ 1048575 := by
  rw [idsS_mem] at hx
  obtain ⟨d, hd, rfl⟩ := List.mem_map.1 hx
  exact (formed_keys (look_formed h)).1 d hd

theorem sub_len : ∀ l r : List Int, l.Nodup → (∀ x ∈ l, x ∈ r) → l.length ≤ r.length := by
  intro l
  induction l with
  | nil => intro r _ _; simp
  | cons a l ih =>
    intro r hn hs
    rw [List.nodup_cons] at hn
    have ha := hs a (List.mem_cons_self ..)
    have h1 := ih (r.erase a) hn.2 (fun x hx => (List.mem_erase_of_ne (fun e => hn.1 (by rw [← e]; exact hx))).2 (hs x (List.mem_cons_of_mem _ hx)))
    rw [List.length_erase_of_mem ha] at h1
    have h2 := List.length_pos_of_mem ha
    rw [List.length_cons]
    omega

theorem idsS_params {f : FuncM} (h : (lookM f).1 = 0) : f.params.length ≤ (idsS f).length := by
  have h1 := (formed_keys (look_formed h)).2
  have h2 : ((List.range f.params.length).map fun k : Nat => (k : Int)) ⊆ idsS f := by
    intro x hx
    obtain ⟨k, hk, rfl⟩ := List.mem_map.1 hx
    rw [idsS_mem]
    exact h1 k (List.mem_range.1 hk)
  have h3 : ((List.range f.params.length).map fun k : Nat => (k : Int)).Nodup := by
    rw [List.Nodup, List.pairwise_map]
    exact List.nodup_range.imp (fun h e => h (by omega))
  have h4 := sub_len _ _ h3 (fun x hx => h2 hx)
  simpa using h4

/-- the uses of the values of l, summed -/
def sumU (l : List Int) (us : List (Int × Int)) : Int := (l.map fun id => cntU id us).sum

theorem cnt_cons (id : Int) (u : Int × Int) (us : List (Int × Int)) : cntU id (u :: us) = cntU id us + if u.1 = id then 1 else 0 := by
  unfold cntU
  rw [List.countP_cons]
  by_cases h : u.1 = id <;> simp [h]

theorem sum_cons (u : Int × Int) (us : List (Int × Int)) : ∀ l : List Int, l.Nodup → sumU l (u :: us) = sumU l us + if u.1 ∈ l then 1 else 0 := by
  intro l
  induction l with
  | nil => intro _; simp [sumU]
  | cons a l ih =>
    intro h
    rw [List.nodup_cons] at h
    have h1 := ih h.2
    unfold sumU at h1 ⊢
    rw [List.map_cons, List.map_cons, List.sum_cons, List.sum_cons, h1, cnt_cons]
    by_cases e : u.1 = a
    · have : u.1 ∉ l := by rw [e]; exact h.1
      rw [if_pos e, if_neg this, if_pos (by rw [e]; exact List.mem_cons_self ..)]
      omega
    · by_cases e2 : u.1 ∈ l
      · rw [if_neg e, if_pos e2, if_pos (List.mem_cons_of_mem _ e2)]
        omega
      · rw [if_neg e, if_neg e2, if_neg (by rw [List.mem_cons]; exact fun h => by rcases h with h | h; exact e h; exact e2 h)]
        omega

theorem sum_le (l : List Int) (h : l.Nodup) : ∀ us : List (Int × Int), 0 ≤ sumU l us ∧ sumU l us ≤ us.length := by
  intro us
  induction us with
  | nil =>
    have : sumU l [] = 0 := by
      unfold sumU
      clear h
      induction l with
      | nil => rfl
      | cons a l ih => rw [List.map_cons, List.sum_cons, ih]; rfl
    rw [this]
    simp
  | cons u us ih =>
    rw [sum_cons u us l h, List.length_cons]
    split <;> omega

theorem sum_all (l : List Int) (h : l.Nodup) : ∀ us : List (Int × Int), (∀ u ∈ us, u.1 ∈ l) → sumU l us = us.length := by
  intro us
  induction us with
  | nil => intro _; have := sum_le l h []; simp at this ⊢; omega
  | cons u us ih =>
    intro hu
    rw [sum_cons u us l h, List.length_cons, ih (fun x hx => hu x (List.mem_cons_of_mem _ hx)), if_pos (hu u (List.mem_cons_self ..))]
    omega

theorem sum_take {l : List Int} {k : Nat} {id : Int} (us : List (Int × Int)) (h : l[k]? = some id) : sumU (l.take (k + 1)) us = sumU (l.take k) us + cntU id us := by
  obtain ⟨hk, rfl⟩ := List.getElem?_eq_some_iff.1 h
  unfold sumU
  rw [List.take_succ_eq_append_getElem hk, List.map_append, List.sum_append]
  simp

theorem look_sum {f : FuncM} (h : (lookM f).1 = 0) : sumU (idsS f) (usesM f) = (usesM f).length := by
  refine sum_all _ (idsS_nodup h) _ fun u hu => ?_
  rw [idsS_mem, ← at_some]
  have hun : unknownB (lookM f).2 (usesM f) = false := by
    cases hf : formedM f with
    | none => rw [look_none hf] at h; cases h
    | some ds =>
      unfold lookM at h ⊢
      rw [hf] at h ⊢
      simp only at h ⊢
      cases hx : unknownB ds (usesM f)
      · rw [hx] at h
        simp only [Bool.false_eq_true, if_false] at h ⊢
        split at h
        · cases h
        · rename_i hy
          rw [if_neg hy]
          exact hx
      · rw [hx] at h
        simp at h
  unfold unknownB at hun
  rw [List.any_eq_false] at hun
  have := hun u hu
  simpa [Option.isSome_iff_ne_none] using this

theorem cnt_nonneg (id : Int) (us : List (Int × Int)) : 0 ≤ cntU id us := by unfold cntU; omega

end Go.Proofs.Ytncmnbchkabgaaa
