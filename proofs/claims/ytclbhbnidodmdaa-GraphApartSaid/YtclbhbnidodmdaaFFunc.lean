/- fresh.Func: a function of its own memory. -/
import Derived.Test.YtclbhbnidodmdaaFBlockW
import Derived.Outline
namespace Go.Proofs.Ytclbhbnidodmdaa
open Go.RowKit

/-- the tags whose rows are copied when i blocks are -/
def EE (f : FuncM) (i : Nat) (t : Tag) : Prop := t = .params ∨ t = .blocks ∨ ∃ k b, k < i ∧ f.blocks[k]? = some b ∧ DD k b.phis.length b.code.length t

structure FnSt (f : FuncM) (val : Vals) (N : Nat) (w0 wx : World) (val1 : Vals) (i : Nat) : Prop where
  same : ∀ t, ¬ EE f i t → val1 t = val t
  own : OwnG wx (N + 2) (rowOf f val1) val1 (EE f i)
  box : wx.heap[N]? = some (.cells #[val1 .params, .int .i64 f.arrays, .int .i64 f.cells, val1 .blocks] 25 (0, 0))
  res : wx.heap[N + 1]? = some (.cells #[.slice none 0 0, .int .i64 0, .int .i64 0, .slice none 0 0] 25 (0, 0))
  low : Below N w0 wx

theorem DD.blk {k np nc : Nat} {t : Tag} (h : DD k np nc t) : blkOf t = some k := by
  rcases h with rfl | rfl | rfl | ⟨j, _, rfl | rfl⟩ | ⟨j, _, rfl⟩ <;> rfl

theorem EE.not {f : FuncM} {i : Nat} {t : Tag} (h : blkOf t = some i) : ¬ EE f i t := by
  rintro (rfl | rfl | ⟨k, b, hk, _, hd⟩)
  · cases h
  · cases h
  · rw [hd.blk] at h
    cases h
    omega

theorem EE.succ {f : FuncM} {i : Nat} {b : BlockM} (hb : f.blocks[i]? = some b) {t : Tag} : EE f (i + 1) t ↔ EE f i t ∨ DD i b.phis.length b.code.length t := by
  unfold EE
  constructor
  · rintro (h | h | ⟨k, q, hk, hq, hd⟩)
    · exact .inl (.inl h)
    · exact .inl (.inr (.inl h))
    · by_cases e : k = i
      · subst e
        rw [hb] at hq
        cases hq
        exact .inr hd
      · exact .inl (.inr (.inr ⟨k, q, by omega, hq, hd⟩))
  · rintro ((h | h | ⟨k, q, hk, hq, hd⟩) | h)
    · exact .inl h
    · exact .inr (.inl h)
    · exact .inr (.inr ⟨k, q, by omega, hq, hd⟩)
    · exact .inr (.inr ⟨i, b, by omega, hb, h⟩)

theorem OwnG.join {w1 w2 : World} {base : Nat} {r1 r2 r3 : Rows} {v1 v2 v3 : Vals} {D1 D2 : Tag → Prop} {b2 : Nat} (h1 : OwnG w1 base r1 v1 D1) (hb : Below w1.heap.size w1 w2) (h2 : OwnG w2 b2 r2 v2 D2) (hb2 : w1.heap.size ≤ b2) (hbase : base ≤ w1.heap.size)
    (e1 : ∀ t, D1 t → r3 t = r1 t ∧ v3 t = v1 t) (e2 : ∀ t, D2 t → r3 t = r2 t ∧ v3 t = v2 t) : OwnG w2 base r3 v3 (fun t => D1 t ∨ D2 t) := by
  have k1 := h1.below hb
  refine ⟨fun t ht => ?_, fun t d ht hd => ?_, fun t t' g ht ht' hg hg' => ?_⟩
  · rcases ht with ht | ht
    · rw [(e1 t ht).1]; exact h1.has t ht
    · rw [(e2 t ht).1]; exact h2.has t ht
  · rcases ht with ht | ht
    · rw [(e1 t ht).2]
      exact k1.rows t d ht (by rw [← (e1 t ht).1]; exact hd)
    · rw [(e2 t ht).2]
      exact World.ownsRow.mono (h2.rows t d ht (by rw [← (e2 t ht).1]; exact hd)) (by omega)
  · rcases ht with ht | ht <;> rcases ht' with ht' | ht'
    · rw [(e1 t ht).2] at hg
      rw [(e1 t' ht').2] at hg'
      exact h1.apart t t' g ht ht' hg hg'
    · rw [(e1 t ht).2] at hg
      rw [(e2 t' ht').2] at hg'
      have := (h1.lt ht hg).2
      have := (h2.lt ht' hg').1
      omega
    · rw [(e2 t ht).2] at hg
      rw [(e1 t' ht').2] at hg'
      have := (h2.lt ht hg).1
      have := (h1.lt ht' hg').2
      omega
    · rw [(e2 t ht).2] at hg
      rw [(e2 t' ht').2] at hg'
      exact h2.apart t t' g ht ht' hg hg'

theorem set_same {l : List Value} {j : Nat} {u : Value} (h : l[j]? = some u) : l.set j u = l := by
  apply List.ext_getElem?
  intro i
  by_cases e : j = i
  · subst e
    rw [List.getElem?_set_self (List.getElem?_eq_some_iff.1 h).1, h]
  · rw [List.getElem?_set_ne e]

theorem blocks_set {val : Vals} {l : List BlockM} {i : Nat} {b : BlockM} {c0 c1 c4 : Value} (hb : l[i]? = some b) :
    ((((((cellsOf (blockCells val) 0 l).set (i * 6 + 0) c0).set (i * 6 + 1) c1).set (i * 6 + 2) (.int .i64 b.term.op)).set (i * 6 + 3) (.int .i64 b.term.val)).set (i * 6 + 4) c4).set (i * 6 + 5) (.int .i64 b.term.n) =
      cellsOf (blockCells (upd (upd (upd val (.phis i) c0) (.code i) c1) (.ends i) c4)) 0 l := by
  have hi := (List.getElem?_eq_some_iff.1 hb).1
  have e0 : (cellsOf (blockCells val) 0 l).set (i * 6 + 0) c0 = cellsOf (blockCells (upd val (.phis i) c0)) 0 l := by
    refine cellsOf_set (blockCells_len _) (blockCells_len _) hi (by omega) ?_ ?_
    · intro j a _ hne; simp [blockCells, upd, hne]
    · intro a _; simp [blockCells, upd]
  have e1 : (cellsOf (blockCells (upd val (.phis i) c0)) 0 l).set (i * 6 + 1) c1 = cellsOf (blockCells (upd (upd val (.phis i) c0) (.code i) c1)) 0 l := by
    refine cellsOf_set (blockCells_len _) (blockCells_len _) hi (by omega) ?_ ?_
    · intro j a _ hne; simp [blockCells, upd, hne]
    · intro a _; simp [blockCells, upd]
  have e4 : (cellsOf (blockCells (upd (upd val (.phis i) c0) (.code i) c1)) 0 l).set (i * 6 + 4) c4 = cellsOf (blockCells (upd (upd (upd val (.phis i) c0) (.code i) c1) (.ends i) c4)) 0 l := by
    refine cellsOf_set (blockCells_len _) (blockCells_len _) hi (by omega) ?_ ?_
    · intro j a _ hne; simp [blockCells, upd, hne]
    · intro a _; simp [blockCells, upd]
  have hat : ∀ (v : Vals) r u, r < 6 → (blockCells v i b)[r]? = some u → (cellsOf (blockCells v) 0 l)[i * 6 + r]? = some u := fun v r u hr hu => by
    have := cellsOf_at (blockCells_len v) l 0 i r b hb hr
    rw [Nat.zero_add] at this
    exact this.trans hu
  rw [e0, e1, set_same (hat _ 2 _ (by omega) rfl), set_same (hat _ 3 _ (by omega) rfl), e4, set_same (hat _ 5 _ (by omega) rfl)]

/-- one block is copied -/
theorem FnSt.step {f : FuncM} {val val1 val2 : Vals} {N i g c : Nat} {b : BlockM} {w0 wx w2 : World} (h : FnSt f val N w0 wx val1 i) (hb : f.blocks[i]? = some b) (hN : N + 2 ≤ wx.heap.size) (hg : val1 .blocks = .slice (some ⟨g, 0, none⟩) f.blocks.length c)
    (hb2 : Below wx.heap.size wx w2) (hsame : ∀ t, ¬ DD i b.phis.length b.code.length t → val2 t = val t) (ho2 : OwnG w2 (wx.heap.size + 2) (rowOf f val2) val2 (DD i b.phis.length b.code.length)) :
    FnSt f val N w0 ((((((w2.setCell ⟨g, i * 6, none⟩ (val2 (.phis i))).setCell ⟨g, i * 6 + 1, none⟩ (val2 (.code i))).setCell ⟨g, i * 6 + 2, none⟩ (.int .i64 b.term.op)).setCell ⟨g, i * 6 + 3, none⟩ (.int .i64 b.term.val)).setCell ⟨g, i * 6 + 4, none⟩ (val2 (.ends i))).setCell ⟨g, i * 6 + 5, none⟩ (.int .i64 b.term.n))
      (fun t => if blkOf t = some i then val2 t else val1 t) (i + 1) := by
  have hs2 := hb2.size
  have DB : EE f i .blocks := .inr (.inl rfl)
  have hgl := h.own.lt DB (by rw [hg]; rfl : (val1 .blocks).ownBlock = some g)
  have hne : g ≠ N ∧ g ≠ N + 1 := by omega
  have e1 : ∀ t, EE f i t → blkOf t ≠ some i := fun t ht e => EE.not e ht
  have o1 := OwnG.join (r3 := fun t => if blkOf t = some i then rowOf f val2 t else rowOf f val1 t) (v3 := fun t => if blkOf t = some i then val2 t else val1 t) h.own hb2 ho2 (by omega) hN
    (fun t ht => ⟨if_neg (e1 t ht), if_neg (e1 t ht)⟩) (fun t ht => ⟨if_pos ht.blk, if_pos ht.blk⟩)
  have hv : (fun t => if blkOf t = some i then val2 t else val1 t) Tag.blocks = .slice (some ⟨g, 0, none⟩) f.blocks.length c := hg
  have hr0 : (fun t => if blkOf t = some i then rowOf f val2 t else rowOf f val1 t) Tag.blocks = some ⟨54, 6, f.blocks.length, cellsOf (blockCells val1) 0 f.blocks⟩ := rfl
  have s0 := o1.set (tp := .blocks) (j := i * 6 + 0) (u := val2 (.phis i)) (.inl DB) hr0 hv rfl
  have s1 := s0.set (tp := .blocks) (j := i * 6 + 1) (u := val2 (.code i)) (.inl DB) (upd_same _ _ _) hv rfl
  have s2 := s1.set (tp := .blocks) (j := i * 6 + 2) (u := .int .i64 b.term.op) (.inl DB) (upd_same _ _ _) hv rfl
  have s3 := s2.set (tp := .blocks) (j := i * 6 + 3) (u := .int .i64 b.term.val) (.inl DB) (upd_same _ _ _) hv rfl
  have s4 := s3.set (tp := .blocks) (j := i * 6 + 4) (u := val2 (.ends i)) (.inl DB) (upd_same _ _ _) hv rfl
  have s5 := s4.set (tp := .blocks) (j := i * 6 + 5) (u := .int .i64 b.term.n) (.inl DB) (upd_same _ _ _) hv rfl
  refine ⟨fun t ht => ?_, ?_, ?_, ?_, ?_⟩
  · have h1 : ¬ EE f i t := fun e => ht ((EE.succ hb).2 (.inl e))
    have h2 : ¬ DD i b.phis.length b.code.length t := fun e => ht ((EE.succ hb).2 (.inr e))
    by_cases e : blkOf t = some i
    · simp only [if_pos e]
      exact hsame t h2
    · simp only [if_neg e]
      exact h.same t h1
  · refine s5.congr (fun t ht => ?_) (fun t _ => rfl) (fun t ht => (EE.succ hb).1 ht)
    by_cases eb : t = .blocks
    · subst eb
      rw [upd_same, blocks_set hb]
      show some _ = some _
      congr 2
      refine cellsOf_congr _ _ fun k q hq => ?_
      rw [Nat.zero_add]
      by_cases ek : k = i
      · subst ek
        simp [blockCells, upd, blkOf]
      · simp [blockCells, upd, blkOf, ek]
    · rw [upd_ne _ _ eb, upd_ne _ _ eb, upd_ne _ _ eb, upd_ne _ _ eb, upd_ne _ _ eb, upd_ne _ _ eb]
      cases t with
      | params => rfl
      | blocks => exact absurd rfl eb
      | phis k =>
        by_cases ek : k = i
        · subst ek
          have e : phiCells (fun t => if blkOf t = some k then val2 t else val1 t) k = phiCells val2 k := by funext j p; simp [phiCells, blkOf]
          have h1 : (fun t => if blkOf t = some k then rowOf f val2 t else rowOf f val1 t) (Tag.phis k) = rowOf f val2 (.phis k) := if_pos rfl
          refine Eq.trans ?_ h1.symm
          simp only [rowOf]
          rw [e]
        · have e : phiCells (fun t => if blkOf t = some i then val2 t else val1 t) k = phiCells val1 k := by funext j p; simp [phiCells, blkOf, ek]
          have h1 : (fun t => if blkOf t = some i then rowOf f val2 t else rowOf f val1 t) (Tag.phis k) = rowOf f val1 (.phis k) := if_neg (by simp [blkOf, ek])
          refine Eq.trans ?_ h1.symm
          simp only [rowOf]
          rw [e]
      | code k =>
        by_cases ek : k = i
        · subst ek
          have e : instrCells (fun t => if blkOf t = some k then val2 t else val1 t) k = instrCells val2 k := by funext j p; simp [instrCells, blkOf]
          have h1 : (fun t => if blkOf t = some k then rowOf f val2 t else rowOf f val1 t) (Tag.code k) = rowOf f val2 (.code k) := if_pos rfl
          refine Eq.trans ?_ h1.symm
          simp only [rowOf]
          rw [e]
        · have e : instrCells (fun t => if blkOf t = some i then val2 t else val1 t) k = instrCells val1 k := by funext j p; simp [instrCells, blkOf, ek]
          have h1 : (fun t => if blkOf t = some i then rowOf f val2 t else rowOf f val1 t) (Tag.code k) = rowOf f val1 (.code k) := if_neg (by simp [blkOf, ek])
          refine Eq.trans ?_ h1.symm
          simp only [rowOf]
          rw [e]
      | ends k => by_cases ek : k = i <;> simp [rowOf, blkOf, ek]
      | fr k j => by_cases ek : k = i <;> simp [rowOf, blkOf, ek]
      | vals k j => by_cases ek : k = i <;> simp [rowOf, blkOf, ek]
      | args k j => by_cases ek : k = i <;> simp [rowOf, blkOf, ek]
  · rw [heap_setCell_other _ _ _ _ (by simpa using hne.1.symm), heap_setCell_other _ _ _ _ (by simpa using hne.1.symm), heap_setCell_other _ _ _ _ (by simpa using hne.1.symm), heap_setCell_other _ _ _ _ (by simpa using hne.1.symm), heap_setCell_other _ _ _ _ (by simpa using hne.1.symm), heap_setCell_other _ _ _ _ (by simpa using hne.1.symm), hb2.block N (by omega)]
    exact h.box
  · rw [heap_setCell_other _ _ _ _ (by simpa using hne.2.symm), heap_setCell_other _ _ _ _ (by simpa using hne.2.symm), heap_setCell_other _ _ _ _ (by simpa using hne.2.symm), heap_setCell_other _ _ _ _ (by simpa using hne.2.symm), heap_setCell_other _ _ _ _ (by simpa using hne.2.symm), heap_setCell_other _ _ _ _ (by simpa using hne.2.symm), hb2.block (N + 1) (by omega)]
    exact h.res
  · exact ((((((h.low.trans (hb2.mono (by omega))).setCell (by simp; omega) _).setCell (by simp; omega) _).setCell (by simp; omega) _).setCell (by simp; omega) _).setCell (by simp; omega) _).setCell (by simp; omega) _

end Go.Proofs.Ytclbhbnidodmdaa

namespace Go.Proofs.Ytclbhbnidodmdaa
open Go.RowKit

theorem FnSt.start {f : FuncM} {val : Vals} {N : Nat} {w0 W0 w2 w3 : World} {v1 v3 : Value} (hs : W0.heap.size = N + 2) (hbox : W0.heap[N]? = some (.cells #[val .params, .int .i64 f.arrays, .int .i64 f.cells, val .blocks] 25 (0, 0)))
    (hres : W0.heap[N + 1]? = some (.cells #[.slice none 0 0, .int .i64 0, .int .i64 0, .slice none 0 0] 25 (0, 0))) (hlow : Below N w0 W0)
    (hb2 : Below W0.heap.size W0 w2) (ho2 : w2.ownsRow W0.heap.size 3 1 v1 f.params.length (f.params.map (Value.int .i64)))
    (hb3 : Below w2.heap.size w2 w3) (ho3 : w3.ownsRow w2.heap.size 54 6 v3 f.blocks.length (cellsOf (blockCells val) 0 f.blocks)) :
    FnSt f val N w0 ((w3.setCell ⟨N, 0, none⟩ v1).setCell ⟨N, 3, none⟩ v3) (upd (upd val .params v1) .blocks v3) 0 := by
  have s2 := hb2.size
  have s3 := hb3.size
  have o1 := (OwnG.nothing W0 (N + 2) (rowOf f val) val).add (t0 := .params) (d := intsRow f.params) (by simp) hb2 ho2 (by omega)
  have o2 := o1.add (t0 := .blocks) (d := ⟨54, 6, f.blocks.length, cellsOf (blockCells val) 0 f.blocks⟩) (by simp) hb3 ho3 (by omega)
  have hne : ∀ t, ((False ∨ t = .params) ∨ t = .blocks) → (upd (upd val .params v1) .blocks v3 t).ownBlock ≠ some N := fun t ht e => by have := (o2.lt ht e).1; omega
  have o4 := (o2.other (a := ⟨N, 0, none⟩) (u := v1) hne).other (a := ⟨N, 3, none⟩) (u := v3) hne
  have hbx : w3.heap[N]? = some (.cells #[val .params, .int .i64 f.arrays, .int .i64 f.cells, val .blocks] 25 (0, 0)) := by rw [hb3.block N (by omega), hb2.block N (by omega)]; exact hbox
  have hEE : ∀ t, EE f 0 t → (False ∨ t = .params) ∨ t = .blocks := by
    rintro t (h | h | ⟨k, b, hk, _⟩)
    · exact .inl (.inr h)
    · exact .inr h
    · omega
  refine ⟨fun t ht => ?_, ?_, ?_, ?_, ?_⟩
  · have h1 : t ≠ .params := fun e => ht (.inl e)
    have h2 : t ≠ .blocks := fun e => ht (.inr (.inl e))
    rw [upd_ne _ _ h2, upd_ne _ _ h1]
  · refine o4.congr (fun t ht => ?_) (fun t _ => rfl) hEE
    rcases hEE t ht with (h | rfl) | rfl
    · exact h.elim
    · simp [rowOf, upd]
    · rw [upd_same]
      show some _ = some _
      congr 2
  · rw [heap_setCell_same _ N 3 _ _ _ (heap_setCell_same _ N 0 _ _ _ hbx)]
    simp [upd]
  · rw [heap_setCell_other _ _ _ _ (by simp), heap_setCell_other _ _ _ _ (by simp), hb3.block (N + 1) (by omega), hb2.block (N + 1) (by omega)]
    exact hres
  · exact (((hlow.trans (hb2.mono (by omega))).trans (hb3.mono (by omega))).setCell (by simp) _).setCell (by simp) _

theorem rd_block_one {w : World} {B : Nat} {f : FuncM} {val : Vals} (h : RdF w B f val) : ∀ u ∈ cellsOf (blockCells val) 0 f.blocks, u.oneCell' = true := by
  intro u hu
  obtain ⟨j, hj⟩ := List.getElem?_of_mem hu
  obtain ⟨i, r, q, rfl, hr, hq, hc⟩ := cellsOf_div (blockCells_len val) hj
  have hm := List.mem_of_getElem? hc
  unfold blockCells at hm
  simp only [List.mem_cons, List.not_mem_nil, or_false] at hm
  rcases hm with rfl | rfl | rfl | rfl | rfl | rfl
  · exact slice_one (h (.phis i) _ (row_phis hq))
  · exact slice_one (h (.code i) _ (row_code hq))
  · rfl
  · rfl
  · exact slice_one (h (.ends i) _ (row_ends hq))
  · rfl

/-- .. its value written out -/
def FreshBlkPost' (f : FuncM) (val : Vals) (k : Nat) (b : BlockM) (w : World) (e : Ending) (w' : World) : Prop :=
  ∃ (val1 : Vals) (A : Option Addr) (c : Nat) (A' : Option Addr) (c' : Nat) (A'' : Option Addr) (c'' : Nat), e = .returned (.agg #[.slice A b.phis.length c, .slice A' b.code.length c', .int .i64 b.term.op, .int .i64 b.term.val, .slice A'' b.term.to.length c'', .int .i64 b.term.n]) ∧
    (val1 (.phis k) = .slice A b.phis.length c ∧ val1 (.code k) = .slice A' b.code.length c' ∧ val1 (.ends k) = .slice A'' b.term.to.length c'') ∧
    (∀ t, ¬ DD k b.phis.length b.code.length t → val1 t = val t) ∧ OwnG w' (w.heap.size + 2) (rowOf f val1) val1 (DD k b.phis.length b.code.length) ∧ Below w.heap.size w w'

theorem FreshBlkPost.form {f : FuncM} {val : Vals} {k : Nat} {b : BlockM} {w w' : World} {e : Ending} (hb : f.blocks[k]? = some b) (h : FreshBlkPost f val k b w e w') : FreshBlkPost' f val k b w e w' := by
  obtain ⟨val1, rfl, hs, ho, hbl⟩ := h
  obtain ⟨A, c, e1⟩ := ho.form (.inl rfl) (row_phis hb)
  obtain ⟨A', c', e2⟩ := ho.form (.inr (.inl rfl)) (row_code hb)
  obtain ⟨A'', c'', e3⟩ := ho.form (.inr (.inr (.inl rfl))) (row_ends hb)
  have e1' : val1 (.phis k) = .slice A b.phis.length c := e1
  have e2' : val1 (.code k) = .slice A' b.code.length c' := e2
  have e3' : val1 (.ends k) = .slice A'' b.term.to.length c'' := e3
  exact ⟨val1, A, c, A', c', A'', c'', by unfold blockCells; rw [e1', e2', e3'], ⟨e1', e2', e3'⟩, hs, ho, hbl⟩

def FreshPost (f : FuncM) (w : World) (e : Ending) (w' : World) : Prop :=
  ∃ val1 : Vals, e = .returned (.agg #[val1 .params, .int .i64 f.arrays, .int .i64 f.cells, val1 .blocks]) ∧ OwnG w' (w.heap.size + 2) (rowOf f val1) val1 (EE f f.blocks.length) ∧ Below w.heap.size w w'

set_option maxRecDepth 100000 in
set_option maxHeartbeats 8000000 in
theorem freshFunc_any (f : FuncM) (B : Nat) (val : Vals) (w : World) (hrd : RdF w B f val) (hB : B ≤ w.heap.size) (h1 : f.params.length ≤ 100000) (h2 : f.blocks.length ≤ 100000) (hsm : ∀ b ∈ f.blocks, Small b) :
    Calls Try.prog 50 #[.agg #[val .params, .int .i64 f.arrays, .int .i64 f.cells, val .blocks]] w (FreshPost f w) := by
  have HRD := hideI hrd
  have HSM := hideI hsm
  have rp := hrd .params (intsRow f.params) rfl
  have rb := hrd .blocks ⟨54, 6, f.blocks.length, cellsOf (blockCells val) 0 f.blocks⟩ rfl
  have C1 : Hid (∀ W, Keeps B w W → Calls Try.prog 75 #[val .params] W (ListPost' 3 1 (intsRow f.params) W)) := fun W hW =>
    (listInt_any _ B _ W (rp.keeps hW) (by simp [intsRow]) h1 (ints_one _)).mono fun _ _ h => h.form
  have C2 : Hid (∀ W, Keeps B w W → Calls Try.prog 76 #[val .blocks] W (ListPost' 54 6 ⟨54, 6, f.blocks.length, cellsOf (blockCells val) 0 f.blocks⟩ W)) := fun W hW =>
    (listBlock_any _ B _ W (rb.keeps hW) (cellsOf_len (blockCells_len val) _ _) h2 (rd_block_one hrd)).mono fun _ _ h => h.form
  obtain ⟨P, pc, hpv, _⟩ := rp
  obtain ⟨A, c, hbv, _⟩ := rb
  have e1 : (intsRow f.params).len = f.params.length := rfl
  rw [e1] at hpv
  have HPV := hideI hpv
  have HBV : Hid (val .blocks = .slice A f.blocks.length c) := hbv
  rw [hpv] at C1 ⊢
  rw [HBV.out] at C2 ⊢
  obtain ⟨W0, hW0⟩ : ∃ W0 : World, W0 = (w.alloc (.cells #[.slice P f.params.length pc, .int .i64 f.arrays, .int .i64 f.cells, .slice A f.blocks.length c] 25)).alloc (.cells #[.slice none 0 0, .int .i64 0, .int .i64 0, .slice none 0 0] 25) := ⟨_, rfl⟩
  have hs0 : W0.heap.size = w.heap.size + 2 := by rw [hW0]; simp
  have hbox : W0.heap[w.heap.size]? = some (.cells #[.slice P f.params.length pc, .int .i64 f.arrays, .int .i64 f.cells, .slice A f.blocks.length c] 25 (0, 0)) := by
    rw [hW0, Below.heap_alloc _ _ _ (by simp)]
    exact heap_alloc_new w _
  have hres : W0.heap[w.heap.size + 1]? = some (.cells #[.slice none 0 0, .int .i64 0, .int .i64 0, .slice none 0 0] 25 (0, 0)) := by
    rw [hW0]
    have := heap_alloc_new (w.alloc (.cells #[.slice P f.params.length pc, .int .i64 f.arrays, .int .i64 f.cells, .slice A f.blocks.length c] 25)) (.cells #[.slice none 0 0, .int .i64 0, .int .i64 0, .slice none 0 0] 25)
    simpa using this
  have hlow : Below w.heap.size w W0 := by rw [hW0]; exact ((Below.refl _ w).alloc (Nat.le_refl _) _).alloc (by simp) _
  have HBOX := hideI hbox
  have HRES := hideI hres
  have HLOW := hideI hlow
  have HS0 := hideI hs0
  have HW0 := hideI hW0
  have G0 : Hid (∀ W, Below W0.heap.size W0 W → W.cell? ⟨w.heap.size, 0, none⟩ = some (.slice P f.params.length pc) ∧ W.cell? ⟨w.heap.size, 3, none⟩ = some (.slice A f.blocks.length c) ∧ W.frozen? ⟨w.heap.size, 0, none⟩ = false ∧ W.frozen? ⟨w.heap.size, 3, none⟩ = false) := fun W hW => by
    have hx := row_cells HBOX.out (hW.block _ (by have := HS0.out; omega))
    have hf := free_row' HBOX.out (hW.block _ (by have := HS0.out; omega))
    exact ⟨hx 0, hx 3, hf 0, hf 3⟩
  have KP : Hid (∀ W, Below W0.heap.size W0 W → Keeps B w W) := fun W hW => (Keeps.of_below (HLOW.out.mono hB)).trans (Keeps.of_below (hW.mono (by have := HS0.out; omega)))
  obtain ⟨q0, q3, f0, f3⟩ := G0.out W0 (Below.refl _ _)
  clear hrd hsm hpv hbv e1 hbox hres hlow hW0 hs0
  go_enter Try.func50, Try.ntmps50
  go_upto_region 1 with fail
  rw [← HW0.out]
  go_cut [] (fun wx => ∃ val1, Hid (FnSt f val w.heap.size w wx val1 0))
  case first =>
    go_region_with (first
      | (go_at_call 75; refine (C1.out _ (by exact KP.out _ ⟨rfl, rfl, rfl, Nat.le_refl _, fun _ _ => rfl⟩)).mono ?_; rintro e w2 ⟨A2, c2, rfl, hown2, hb2⟩; have hba : Below W0.heap.size W0 w2 := undrew2 hb2; obtain ⟨q0, q3, f0, f3⟩ := G0.out _ hba)
      | (go_at_call 76; refine (C2.out _ (by exact KP.out _ hba)).mono ?_; rintro e w3 ⟨A3, c3, rfl, hown3, hb3⟩; have hbb : Below W0.heap.size W0 w3 := hba.trans (hb3.mono hba.size); obtain ⟨q0, q3, f0, f3⟩ := G0.out _ hbb))
    all_goals (go_wp2_with fail; go_meet; exact ⟨_, hideI (FnSt.start HS0.out (by rw [HPV.out, HBV.out]; exact HBOX.out) HRES.out HLOW.out hba (undrewO hown2) hb3 hown3)⟩)
  case rest =>
    obtain ⟨val1, HST⟩ := hcut
    clear q0 q3 f0 f3
    obtain ⟨A1, c1, hp1⟩ := HST.out.own.form (t := .blocks) (.inr (.inl rfl)) rfl
    have hp1' : val1 .blocks = .slice A1 f.blocks.length c1 := hp1
    have b3 := (row_cells HST.out.box rfl 3).trans (show (#[val1 .params, .int .i64 f.arrays, .int .i64 f.cells, val1 .blocks] : Array Value)[3]? = some (.slice A1 f.blocks.length c1) by simp [hp1'])
    clear hp1 hp1'
    go_wp2
    clear b3
    go_loopw [15] (fun u wr => ∃ (i : Nat) (val1 : Vals), i ≤ f.blocks.length ∧ u = .int .i64 i ∧ Hid (FnSt f val w.heap.size w wr val1 i)) (fun u _ => f.blocks.length - (intOf u).toNat)
    case atStart => exact ⟨0, val1, Nat.zero_le _, rfl, HST⟩
    case round =>
      obtain ⟨i, val1, hi, rfl, HST⟩ := hrel
      have hN2 : w.heap.size + 2 ≤ wr.heap.size := by
        have := (Array.getElem?_eq_some_iff.1 HST.out.res).1
        omega
      by_cases hlt : i < f.blocks.length
      · obtain ⟨b, hb⟩ : ∃ b, f.blocks[i]? = some b := ⟨_, List.getElem?_eq_getElem hlt⟩
        obtain ⟨g, bc, hg, hgb, hgl⟩ := HST.out.own.slice (tp := .blocks) (.inr (.inl rfl)) rfl (by show 0 < f.blocks.length; omega)
        have HBI := hideI hb
        have HG : Hid (val1 .blocks = .slice (some ⟨g, 0, none⟩) f.blocks.length bc) := hg
        have hsb := HSM.out b (List.mem_of_getElem? hb)
        have KP : Hid (∀ W, Below wr.heap.size wr W → Keeps B w W) := fun W hW => (Keeps.of_below (HST.out.low.mono hB)).trans (Keeps.of_below (hW.mono (by omega)))
        have CB : Hid (∀ W, Below wr.heap.size wr W → Calls Try.prog 77 #[.agg #[val (.phis i), val (.code i), .int .i64 b.term.op, .int .i64 b.term.val, val (.ends i), .int .i64 b.term.n]] W (FreshBlkPost' f val i b W)) := fun W hW =>
          (freshBlock_any f B val i b W hb (HRD.out.keeps (KP.out W hW)) (by have := hW.size; omega) hsb).mono fun _ _ h => h.form hb
        have e1 : val1 (.phis i) = val (.phis i) := HST.out.same _ (EE.not rfl)
        have e2 : val1 (.code i) = val (.code i) := HST.out.same _ (EE.not rfl)
        have e3 : val1 (.ends i) = val (.ends i) := HST.out.same _ (EE.not rfl)
        obtain ⟨PA, pc2, d1, _⟩ := HRD.out (.phis i) _ (row_phis hb)
        obtain ⟨CA, cc2, d2, _⟩ := HRD.out (.code i) _ (row_code hb)
        obtain ⟨TA, tc2, d3, _⟩ := HRD.out (.ends i) _ (row_ends hb)
        have d3' : val (.ends i) = .slice TA b.term.to.length tc2 := d3
        have d1' : val (.phis i) = .slice PA b.phis.length pc2 := d1
        have d2' : val (.code i) = .slice CA b.code.length cc2 := d2
        have G0 : Hid (∀ W, Below wr.heap.size wr W → (∀ r u, r < 6 → (blockCells val1 i b)[r]? = some u → W.cell? ⟨g, i * 6 + r, none⟩ = some u ∧ W.frozen? ⟨g, i * 6 + r, none⟩ = false) ∧ W.cell? ⟨w.heap.size, 3, none⟩ = some (.slice (some ⟨g, 0, none⟩) f.blocks.length bc)) := fun W hW => by
          have o := HST.out.own.below hW
          refine ⟨fun r u hr hu => ?_, ?_⟩
          · have k2 := o.cell (tp := .blocks) (j := i * 6 + r) (.inr (.inl rfl)) rfl HG.out rfl (by show _ < f.blocks.length * 6; omega)
            have hc := cellsOf_at (blockCells_len val1) f.blocks 0 i r b HBI.out hr
            rw [Nat.zero_add] at hc
            exact ⟨k2.1.trans (hc.trans hu), k2.2⟩
          · exact (row_cells HST.out.box (hW.block _ (by omega)) 3).trans (by show some (val1 .blocks) = _; rw [HG.out])
        have H6 : Hid (∀ W, Below wr.heap.size wr W → (W.cell? ⟨g, i * 6, none⟩ = some (.slice PA b.phis.length pc2) ∧ W.cell? ⟨g, i * 6 + 1, none⟩ = some (.slice CA b.code.length cc2) ∧ W.cell? ⟨g, i * 6 + 2, none⟩ = some (.int .i64 b.term.op) ∧ W.cell? ⟨g, i * 6 + 3, none⟩ = some (.int .i64 b.term.val) ∧ W.cell? ⟨g, i * 6 + 4, none⟩ = some (.slice TA b.term.to.length tc2) ∧ W.cell? ⟨g, i * 6 + 5, none⟩ = some (.int .i64 b.term.n)) ∧
            (W.frozen? ⟨g, i * 6, none⟩ = false ∧ W.frozen? ⟨g, i * 6 + 1, none⟩ = false ∧ W.frozen? ⟨g, i * 6 + 2, none⟩ = false ∧ W.frozen? ⟨g, i * 6 + 3, none⟩ = false ∧ W.frozen? ⟨g, i * 6 + 4, none⟩ = false ∧ W.frozen? ⟨g, i * 6 + 5, none⟩ = false) ∧ W.cell? ⟨w.heap.size, 3, none⟩ = some (.slice (some ⟨g, 0, none⟩) f.blocks.length bc)) := fun W hW => by
          obtain ⟨k, kb⟩ := G0.out W hW
          have k0 := k 0 (.slice PA b.phis.length pc2) (by omega) (by show some (val1 _) = _; rw [e1, d1'])
          have k1 := k 1 (.slice CA b.code.length cc2) (by omega) (by show some (val1 _) = _; rw [e2, d2'])
          have k2 := k 2 _ (by omega) rfl
          have k3 := k 3 _ (by omega) rfl
          have k4 := k 4 (.slice TA b.term.to.length tc2) (by omega) (by show some (val1 _) = _; rw [e3, d3'])
          have k5 := k 5 _ (by omega) rfl
          exact ⟨⟨k0.1, k1.1, k2.1, k3.1, k4.1, k5.1⟩, ⟨k0.2, k1.2, k2.2, k3.2, k4.2, k5.2⟩, kb⟩
        rw [d1', d2', d3'] at CB
        obtain ⟨⟨c0, c1, c2, c3, c4, c5⟩, ⟨f0, f1, f2, f3, f4, f5⟩, b3⟩ := H6.out wr (Below.refl _ _)
        clear hb hg e1 e2 e3 d1 d2 d3 d1' d2' d3'
        go_wp2
        go_region_with (first
          | (go_at_call 77; refine (CB.out _ (by exact ⟨rfl, rfl, rfl, Nat.le_refl _, fun _ _ => rfl⟩)).mono ?_; rintro e w2 ⟨val2, A2, c2, A3, c3, A4, c4, rfl, hval2, hsame2, hown2, hb2⟩; have hba : Below wr.heap.size wr w2 := undrew2 hb2; obtain ⟨⟨c0, c1, c2, c3, c4, c5⟩, ⟨f0, f1, f2, f3, f4, f5⟩, b3⟩ := H6.out _ hba))
        all_goals
          have HST2 := hideI (HST.out.step HBI.out hN2 HG.out hba hsame2 hown2)
          rw [hval2.1, hval2.2.1, hval2.2.2] at HST2
          clear c0 c1 c2 c3 c4 c5 f0 f1 f2 f3 f4 f5 b3 hval2 hsame2 hown2 hb2 hba
          go_wp2
          go_roundw
          case rel => exact ⟨i + 1, _, by omega, by go_num, HST2⟩
          case measure => simp [intOf]; omega
      · have hin : i = f.blocks.length := by omega
        rw [hin] at HST
        obtain ⟨PA1, pc1, e1⟩ := HST.out.own.form (t := .params) (.inl rfl) rfl
        obtain ⟨BA1, bc1, e2⟩ := HST.out.own.form (t := .blocks) (.inr (.inl rfl)) rfl
        have e1' : val1 .params = .slice PA1 f.params.length pc1 := e1
        have e2' : val1 .blocks = .slice BA1 f.blocks.length bc1 := e2
        have E1 := hideI e1'
        have E2 := hideI e2'
        have hbx := HST.out.box
        rw [e1', e2'] at hbx
        have hx := row_cells hbx rfl
        have hr := row_cells HST.out.res rfl
        have hf := free_row' HST.out.res (rfl : wr.heap[w.heap.size + 1]? = _)
        have b0 := hx 0
        have b1 := hx 1
        have b2 := hx 2
        have b3 := hx 3
        have r0 := hr 0
        have r1 := hr 1
        have r2 := hr 2
        have r3 := hr 3
        have f0 := hf 0
        have f1 := hf 1
        have f2 := hf 2
        have f3 := hf 3
        clear e1 e2 e1' e2' hbx hx hr hf hin
        go_wp2
        have hne : ∀ t, EE f f.blocks.length t → (val1 t).ownBlock ≠ some (w.heap.size + 1) := fun t ht e => by have := (HST.out.own.lt ht e).1; omega
        refine bodyPost_ret (v := .agg #[.slice PA1 f.params.length pc1, .int .i64 f.arrays, .int .i64 f.cells, .slice BA1 f.blocks.length bc1]) (by simp [results, Try.results50, go_sem, r0, r1, r2, r3]) rfl ⟨val1, by rw [E1.out, E2.out], ?_, ?_⟩
        · exact (((HST.out.own.other hne).other hne).other hne).other hne
        · exact (((HST.out.low.setCell (by simp) _).setCell (by simp) _).setCell (by simp) _).setCell (by simp) _

end Go.Proofs.Ytclbhbnidodmdaa
