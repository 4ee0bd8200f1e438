/- What LoopsEnds rests on, part 13: INext, IRunM, IKeep, ICatch, IRunL, Shelf, Ids, IRoom, ITake, IMake. -/
import Derived.Test.YtglbepdjahddmaaGreatPkLoopsEnds12
import Derived.Tactics
import Derived.Tactics2
import Derived.Defers
import Derived.Recover
import Derived.Laws.Pointers
import Derived.Shelf.SlIterI.Nil
import Derived.Shelf.SortM.Plain
import Derived.Shelf.SortM.SortNone

namespace Go.Proofs.YtglbepdjahddmaaGreat
open Go.RowKit Go.Maps

section
variable {c : MachC} {K : Nat → Prop} {w w' : World} {val : MVals} {s : StM}

/-- an end that may stand -/
structure TermOk (nv : Nat) (t : TermM) : Prop where
  op : t.op = 1 ∧ t.to.length = 1 ∨ t.op = 2 ∧ t.to.length = 2 ∨ t.op = 3 ∧ t.to.length = 0 ∨ t.op = 4 ∧ t.to.length = 0
  val : t.op = 2 ∨ t.op = 3 → 0 ≤ t.val ∧ t.val < nv

def termV (t : TermM) (tv : Value) : Value := .agg #[.int .i64 t.op, .int .i64 t.val, tv, .int .i64 t.n]

/-- how a block's end ends -/
def nextR (t : TermM) (s : StM) : Int ⊕ EndM := if t.op = 3 then .inr (1, s.val t.val, 0) else if t.op = 4 then .inr (2, 0, t.n) else .inl (nextM t s)

def NextPost (c : MachC) (K : Nat → Prop) (w : World) (val : MVals) (s : StM) (t : TermM) (e : Ending) (w' : World) : Prop :=
  e = (match nextR t s with | .inl v => .returned (.int .i64 v) | .inr en => endE en) ∧ MachR c K w' val s ∧ KF K w w'

set_option maxRecDepth 100000 in
set_option maxHeartbeats 4000000 in
theorem next_any (h : MachR c K w val s) (t : TermM) (tv : Value) (ht : TermOk c.nv t) (htv : Ints w c.B tv t.to) :
    Calls Tryz.prog 81 #[.pointer (some ⟨c.m, 0, none⟩), termV t tv] w (NextPost c K w val s t) := by
  obtain ⟨W0, hW0⟩ : ∃ W0, W0 = w.alloc (.cells #[.int .i64 t.op, .int .i64 t.val, tv, .int .i64 t.n] 57) := ⟨_, rfl⟩
  have hm : MachR c (fun b => K b ∨ b = w.heap.size) W0 val s := by rw [hW0]; exact h.add _
  have hk1 : KF K w W0 := by rw [hW0]; exact (KF.refl _).alloc h.low _
  have hbox : W0.heap[w.heap.size]? = some (.cells #[.int .i64 t.op, .int .i64 t.val, tv, .int .i64 t.n] 57 (0, 0)) := by rw [hW0]; exact heap_alloc_new w _
  have hints := htv.keeps (hk1.keeps h.kB)
  obtain ⟨P, pc, htv1, _, hat⟩ := hints
  subst htv1
  have H := hideI h
  have HM := hideI hm
  have HDONE : Hid (∀ n, MachR c K (W0.drewN n) val s ∧ KF K w (W0.drewN n)) := hideI fun n => ⟨(hm.less (fun b hb => .inl hb) (fun b hb => h.kB b hb) h.kM).drewN n, hk1.drewN n⟩
  have HW0 := hideI hW0
  have hlm := hm.m_lt
  have q := row_cells hbox rfl
  have q0 := q 0
  have q1 := q 1
  have q2 := q 2
  have q3 := q 3
  have HT := hideI ht
  simp only [termV]
  clear q hm hk1 hbox hW0 h htv
  rcases ht.op with ⟨ho, hl⟩ | ⟨ho, hl⟩ | ⟨ho, hl⟩ | ⟨ho, hl⟩
  · have HR : Hid (nextR t s = .inl (t.to.getD 0 0)) := hideI (by unfold nextR nextM; rw [if_neg (by omega), if_neg (by omega), if_neg (by omega)])
    obtain ⟨b, off, rfl, hb, d0⟩ := hat 0 (by omega)
    rw [show t.to[0]?.getD 0 = t.to.getD 0 0 from (List.getD_eq_getElem?_getD ..).symm, Nat.add_zero] at d0
    rw [ho, hl] at HW0
    rw [ho] at q0
    rw [hl] at q2
    rw [ho, hl]
    clear hat ht ho hl
    generalize t.to.getD 0 0 = y at d0 HR
    go_enter Tryz.func81, Tryz.ntmps81
    go_upto_region 1 with fail
    rw [← HW0.out]
    go_wp2
    go_ret
    exact ⟨by rw [HR.out]; rfl, HDONE.out 0⟩
  · have hv := ht.val (.inl ho)
    obtain ⟨b, off, rfl, hb, d0⟩ := hat 0 (by omega)
    obtain ⟨_, _, e, _, d1⟩ := hat 1 (by omega)
    cases e
    rw [show t.to[0]?.getD 0 = t.to.getD 0 0 from (List.getD_eq_getElem?_getD ..).symm, Nat.add_zero] at d0
    rw [show t.to[1]?.getD 0 = t.to.getD 1 0 from (List.getD_eq_getElem?_getD ..).symm] at d1
    obtain ⟨gv, cv, j, hj, hjn, hvv, hvc, _, hgm, hgv⟩ := HM.out.valAt hv.1 hv.2
    have c11 := HM.out.cells 11
    simp only [machCells] at c11
    rw [hvv] at c11
    rw [ho, hl, hj] at HW0
    rw [ho] at q0
    rw [hj] at q1
    rw [hl] at q2
    by_cases h0 : s.val t.val = 0
    · have HR : Hid (nextR t s = .inl (t.to.getD 1 0)) := hideI (by unfold nextR nextM; rw [if_neg (by omega), if_neg (by omega), if_pos ⟨ho, h0⟩])
      rw [h0] at hvc
      rw [ho, hl, hj]
      clear hat ht ho hl hv hj hvv h0
      generalize t.to.getD 1 0 = y1 at d1 HR
      generalize t.to.getD 0 0 = y0 at d0
      go_enter Tryz.func81, Tryz.ntmps81
      go_upto_region 1 with fail
      rw [← HW0.out]
      go_wp2
      go_quiet (fail)
      go_wp2
      go_ret
      exact ⟨by rw [HR.out]; rfl, HDONE.out nq⟩
    · have HR : Hid (nextR t s = .inl (t.to.getD 0 0)) := hideI (by unfold nextR nextM; rw [if_neg (by omega), if_neg (by omega), if_neg (fun e => h0 e.2)])
      have h1 : (s.val t.val == 0) = false := by simpa using h0
      rw [ho, hl]
      generalize s.val t.val = sv at hvc h1
      rw [hj]
      clear hat ht ho hl hv hj hvv h0
      generalize t.to.getD 1 0 = y1 at d1
      generalize t.to.getD 0 0 = y0 at d0 HR
      go_enter Tryz.func81, Tryz.ntmps81
      go_upto_region 1 with fail
      rw [← HW0.out]
      go_wp2
      go_quiet (fail)
      go_wp2
      go_ret
      exact ⟨by rw [HR.out]; rfl, HDONE.out nq⟩
  · have hv := ht.val (.inr ho)
    have HR : Hid (nextR t s = .inr (1, s.val t.val, 0)) := hideI (by unfold nextR; rw [if_pos ho])
    obtain ⟨gv, cv, j, hj, hjn, hvv, hvc, _, hgm, hgv⟩ := HM.out.valAt hv.1 hv.2
    have c11 := HM.out.cells 11
    simp only [machCells] at c11
    rw [hvv] at c11
    rw [ho, hj] at HW0
    rw [ho] at q0
    rw [hj] at q1
    rw [ho]
    generalize s.val t.val = sv at hvc HR
    rw [hj]
    clear hat ht ho hl hv hj hvv
    go_enter Tryz.func81, Tryz.ntmps81
    go_upto_region 1 with fail
    rw [← HW0.out]
    go_wp2
    refine wp_region_panics 10 (by kernel_rfl) rfl (by kernel_rfl) (by kernel_rfl) (fun c a w d v h => by cases d <;> exact h) ?_
    simp only [List.take_succ_cons, List.take_zero, List.getElem_toArray, List.getElem_cons_succ, List.getElem_cons_zero]
    repeat (refine wpPure_step (fun K hK => ?_); go_simp; refine hK _ ?_; clear hK K)
    refine wpPure_nil ?_
    rintro w' ⟨n, rfl⟩ K'
    go_simp
    exact ⟨rfl, by rw [HR.out]; rfl, HDONE.out n⟩
  · have HR : Hid (nextR t s = .inr (2, 0, t.n)) := hideI (by unfold nextR; rw [if_neg (by omega), if_pos ho])
    rw [ho] at q0 HW0 ⊢
    clear hat ht ho hl
    go_enter Tryz.func81, Tryz.ntmps81
    go_upto_region 1 with fail
    rw [← HW0.out]
    go_wp2_with (first | (go_at_call 123; refine (trap_any _ _ _).mono ?_; rintro e w1 ⟨he, rfl⟩; simp only [endE, endV] at he; subst he))
    exact ⟨rfl, by rw [HR.out]; rfl, HDONE.out 0⟩
end
end Go.Proofs.YtglbepdjahddmaaGreat

namespace Go.Proofs.YtglbepdjahddmaaGreat
open Go.RowKit Go.Maps

structure CodeOk (na nc nv : Nat) (x : InstrM) : Prop where
  args : ∀ i ∈ x.args, 0 ≤ i ∧ i < nv
  len : x.args.length = (takesS x.op).length
  isop : isOp x.op = true
  arr : kindS x.op = 3 → 0 ≤ x.n ∧ x.n < na
  cell : kindS x.op = 4 → 0 ≤ x.n ∧ x.n < nc
  id : makesS x.op ≠ 0 → 0 ≤ x.id ∧ x.id < nv
  few : x.args.length ≤ 3

/-- a function that may be run -/
structure FOk (f : FuncM) (nv : Nat) : Prop where
  code : ∀ (b : Nat) (q : BlockM), f.blocks[b]? = some q → ∀ x ∈ q.code, CodeOk f.arrays.toNat f.cells.toNat nv x
  term : ∀ (b : Nat) (q : BlockM), f.blocks[b]? = some q → TermOk nv q.term
  goes : ∀ (b : Nat) (q : BlockM), f.blocks[b]? = some q → ∀ t ∈ q.term.to, ∃ (t' : Nat), t = t' ∧ t' < f.blocks.length ∧ ∀ q', f.blocks[t']? = some q' → ∀ p ∈ q'.phis, PhiOk nv b p
  phis : ∀ (b : Nat) (q : BlockM), f.blocks[b]? = some q → q.phis.length ≤ 4096
  codes : ∀ (b : Nat) (q : BlockM), f.blocks[b]? = some q → q.code.length ≤ 4096
  first : 0 < f.blocks.length ∧ ∀ q, f.blocks[0]? = some q → q.phis = []

/-- what a run keeps -/
structure Fit (f : FuncM) (s : StM) : Prop where
  arrs : s.arrs.length = f.arrays.toNat
  cells : s.cells.length = f.cells.toNat
  vis : s.vis.length = f.blocks.length
  out : s.out.length ≤ 4096

section
variable {f : FuncM} {s : StM} {nv : Nat}
theorem Fit.tick (h : Fit f s) : Fit f (tickM s) := ⟨h.arrs, h.cells, h.vis, h.out⟩
theorem Fit.arrive (h : Fit f s) (b : Nat) (fr : Int) : Fit f (arriveM f b fr s) := ⟨h.arrs, h.cells, by unfold arriveM; simp [h.vis], h.out⟩
theorem Fit.look (h : Fit f s) (op : Int) : Fit f (lookS op s) := by unfold lookS; split <;> exact ⟨h.arrs, h.cells, h.vis, h.out⟩

theorem made_fit (h : Fit f s) (x : InstrM) (a : List Int) : Fit f (madeM x a s).1 := by
  unfold madeM
  repeat' split
  all_goals first | exact h | exact h.look _

theorem Fit.done (h : Fit f s) (x : InstrM) : Fit f (doM x s).1 := by
  have hm := made_fit h x (x.args.map s.val)
  unfold doM
  simp only
  repeat' split
  · exact ⟨by simp [h.arrs], (h.look x.op).cells, (h.look x.op).vis, (h.look x.op).out⟩
  · exact h.look _
  · exact h
  · rename_i h4
    refine ⟨h.arrs, h.cells, h.vis, ?_⟩
    have := h.out
    simp
    omega
  · exact ⟨h.arrs, by simp [h.cells], h.vis, h.out⟩
  · rename_i h5
    rw [h5] at hm
    exact ⟨hm.arrs, hm.cells, hm.vis, hm.out⟩
  · rename_i h5
    rw [h5] at hm
    exact hm

theorem CodeOk.instr {x : InstrM} (h : CodeOk f.arrays.toNat f.cells.toNat nv x) (hs : Fit f s) : InstrOk s nv x :=
  ⟨h.args, h.len, h.isop, fun e => by have := h.arr e; have := hs.arrs; omega, fun e => by have := h.cell e; have := hs.cells; omega, h.id⟩

theorem blk_at {b : Nat} {q : BlockM} (h : f.blocks[b]? = some q) : blkM f b = q := by unfold blkM; rw [List.getD_eq_getElem?_getD, h]; rfl

/-- how the run ends, with so much fuel -/
def EndIs (f : FuncM) (I : InM) (F : Nat) (s : StM) (en : EndM) : Prop := (goN f F (startM f I)).s = s ∧ finM (goN f F (startM f I)) = en

def Reach (f : FuncM) (I : InM) (n : Nat) (c : CfgM) : Prop := goN f n (startM f I) = c

theorem Reach.next {I : InM} {n : Nat} {c : CfgM} (h : Reach f I n c) : Reach f I (n + 1) (goM f c) := by
  unfold Reach at *
  show goM f (goN f n _) = _
  rw [h]

theorem Reach.stop {I : InM} {F b k : Nat} (h : Reach f I F ⟨s, b, k, none⟩) : EndIs f I F s (3, 0, 0) := by
  unfold EndIs
  unfold Reach at h
  rw [h]
  exact ⟨rfl, rfl⟩

theorem Reach.fin {I : InM} {n F b k : Nat} {en : EndM} (h : Reach f I n ⟨s, b, k, some en⟩) (hn : n ≤ F) : EndIs f I F s en := by
  unfold EndIs
  unfold Reach at h
  rw [goN_ended hn (by rw [h]; simp), h]
  exact ⟨rfl, rfl⟩

/-- an instruction's step -/
theorem Reach.code {I : InM} {b k : Nat} {q : BlockM} {x : InstrM} (h : Reach f I s.steps ⟨s, b, k, none⟩) (hq : f.blocks[b]? = some q) (hx : q.code[k]? = some x) :
    Reach f I (s.steps + 1) ⟨(doM x (tickM s)).1, b, k + 1, (doM x (tickM s)).2⟩ := by
  have h1 := h.next
  unfold goM at h1
  simp only [blk_at hq, hx] at h1
  exact h1

/-- an end's step -/
theorem Reach.leave {I : InM} {b k : Nat} {q : BlockM} (h : Reach f I s.steps ⟨s, b, k, none⟩) (hq : f.blocks[b]? = some q) (hx : q.code.length ≤ k) : Reach f I (s.steps + 1) (leaveM f b k (tickM s)) := by
  have h1 := h.next
  unfold goM at h1
  simp only [blk_at hq, List.getElem?_eq_none hx] at h1
  exact h1

theorem leave_fin {b k : Nat} {q : BlockM} {en : EndM} (hq : f.blocks[b]? = some q) (hn : nextR q.term s = .inr en) : leaveM f b k s = ⟨s, b, k, some en⟩ := by
  unfold nextR at hn
  unfold leaveM
  simp only [blk_at hq]
  split at hn
  · rename_i h3
    injection hn with hn
    rw [if_pos h3, hn]
  · rename_i h3
    split at hn
    · rename_i h4
      injection hn with hn
      rw [if_neg h3, if_pos h4, hn]
    · cases hn

theorem leave_go {b k : Nat} {q : BlockM} {t : Int} (hq : f.blocks[b]? = some q) (hn : nextR q.term s = .inl t) (ht : TermOk nv q.term) : leaveM f b k s = enterM f t.toNat b s ∧ t ∈ q.term.to := by
  unfold nextR at hn
  unfold leaveM
  simp only [blk_at hq]
  split at hn
  · cases hn
  · rename_i h3
    split at hn
    · cases hn
    · rename_i h4
      injection hn with hn
      rw [if_neg h3, if_neg h4, hn]
      refine ⟨rfl, ?_⟩
      rw [← hn]
      unfold nextM
      have hm : ∀ j, j < q.term.to.length → q.term.to.getD j 0 ∈ q.term.to := fun j hj => by
        rw [List.getD_eq_getElem?_getD, List.getElem?_eq_getElem hj]
        exact List.getElem_mem hj
      rcases ht.op with ⟨_, h5⟩ | ⟨h6, h5⟩ | ⟨h6, _⟩ | ⟨h6, _⟩
      · split
        · rename_i h7; omega
        · exact hm 0 (by omega)
      · split
        · exact hm 1 (by omega)
        · exact hm 0 (by omega)
      · exact absurd h6 h3
      · exact absurd h6 h4
end
end Go.Proofs.YtglbepdjahddmaaGreat

namespace Go.Proofs.YtglbepdjahddmaaGreat
open Go.RowKit Go.Maps

/-- what is kept from step to step -/
structure KeepM (f : FuncM) (I : InM) (s : StM) : Prop where
  fit : Fit f s
  lens : s.arrs.map List.length = (startS f I).arrs.map List.length
  told : 0 ≤ s.checks ∧ (s.out.length : Int) + s.checks ≤ s.steps

theorem lookS_arrs (op : Int) (s : StM) : (lookS op s).arrs = s.arrs := by unfold lookS; split <;> rfl
theorem lookS_out (op : Int) (s : StM) : (lookS op s).out = s.out := by unfold lookS; split <;> rfl
theorem lookS_checks (op : Int) (s : StM) (h : 0 ≤ s.checks ∧ s.checks < 4294967296) : s.checks ≤ (lookS op s).checks ∧ (lookS op s).checks ≤ s.checks + 1 := by
  unfold lookS
  split
  · simp only
    rw [show wrap64 (s.checks + 1) = s.checks + 1 by unfold wrap64; omega]
    omega
  · omega

theorem made_arrs (x : InstrM) (a : List Int) (s : StM) : (madeM x a s).1.arrs = s.arrs ∧ (madeM x a s).1.out = s.out ∧ ((madeM x a s).1 = s ∨ (madeM x a s).1 = lookS x.op s) := by
  unfold madeM
  repeat' split
  all_goals first | exact ⟨rfl, rfl, .inl rfl⟩ | exact ⟨lookS_arrs _ _, lookS_out _ _, .inr rfl⟩

/-- what an instruction tells and looks at -/
theorem done_told (x : InstrM) (s : StM) (h : 0 ≤ s.checks ∧ s.checks < 4294967296) :
    (doM x s).1.arrs.map List.length = s.arrs.map List.length ∧ s.checks ≤ (doM x s).1.checks ∧ ((doM x s).1.out.length : Int) + (doM x s).1.checks ≤ s.out.length + s.checks + 1 := by
  have hl := lookS_checks x.op s h
  have ha := lookS_arrs x.op s
  have ho := lookS_out x.op s
  obtain ⟨m1, m2, m3⟩ := made_arrs x (x.args.map s.val) s
  have hm : s.checks ≤ (madeM x (x.args.map s.val) s).1.checks ∧ (madeM x (x.args.map s.val) s).1.checks ≤ s.checks + 1 := by
    rcases m3 with e | e
    · rw [e]; omega
    · rw [e]; omega
  unfold doM
  simp only
  split
  · split
    · refine ⟨?_, hl.1, by show ((lookS x.op s).out.length : Int) + (lookS x.op s).checks ≤ _; rw [ho]; omega⟩
      simp only
      apply List.ext_getElem?
      intro i
      rw [List.getElem?_map, List.getElem?_map]
      by_cases e : x.n.toNat = i
      · subst e
        by_cases hi : x.n.toNat < s.arrs.length
        · rw [List.getElem?_set_self hi]
          unfold arrM
          rw [List.getD_eq_getElem?_getD, List.getElem?_eq_getElem hi]
          simp
        · rw [List.getElem?_eq_none (by rw [List.length_set]; omega), List.getElem?_eq_none (by omega)]
      · rw [List.getElem?_set_ne e]
    · exact ⟨by rw [ha], hl.1, by show ((lookS x.op s).out.length : Int) + (lookS x.op s).checks ≤ _; rw [ho]; omega⟩
  · split
    · split
      · exact ⟨rfl, by simp, by simp; omega⟩
      · exact ⟨rfl, by simp, by simp; omega⟩
    · split
      · exact ⟨rfl, by simp, by simp; omega⟩
      · split
        · rename_i h5
          rw [h5] at m1 m2 hm
          simp only at m1 m2 hm ⊢
          exact ⟨by rw [m1], hm.1, by rw [m2]; omega⟩
        · rename_i h5
          rw [h5] at m1 m2 hm
          simp only at m1 m2 hm ⊢
          exact ⟨by rw [m1], hm.1, by rw [m2]; omega⟩

theorem leave_keeps {f : FuncM} {b k : Nat} {s : StM} (h : Fit f s) : Fit f (leaveM f b k s).s ∧ (leaveM f b k s).s.arrs = s.arrs ∧ (leaveM f b k s).s.out = s.out ∧ (leaveM f b k s).s.checks = s.checks ∧ (leaveM f b k s).s.steps = s.steps := by
  unfold leaveM enterM
  simp only
  split
  · exact ⟨h, rfl, rfl, rfl, rfl⟩
  · split
    · exact ⟨h, rfl, rfl, rfl, rfl⟩
    · exact ⟨h.arrive _ _, rfl, rfl, rfl, rfl⟩

theorem go_keeps {f : FuncM} {I : InM} {c : CfgM} (h : KeepM f I c.s) (hs : c.s.steps < 4294967295) : KeepM f I (goM f c).s := by
  have ht := h.told
  unfold goM
  cases c.fin with
  | some e => exact h
  | none =>
    simp only
    split
    · rename_i x hx
      obtain ⟨d1, d2, d3⟩ := done_told x (tickM c.s) (by show 0 ≤ c.s.checks ∧ c.s.checks < 4294967296; omega)
      have d4 := doM_steps x (tickM c.s)
      simp only [tickM] at d1 d2 d3 d4
      refine ⟨h.fit.tick.done x, d1.trans h.lens, ?_, ?_⟩
      · show 0 ≤ (doM x (tickM c.s)).1.checks
        simp only [tickM]
        omega
      · show ((doM x (tickM c.s)).1.out.length : Int) + (doM x (tickM c.s)).1.checks ≤ (doM x (tickM c.s)).1.steps
        simp only [tickM]
        rw [d4]
        omega
    · obtain ⟨l1, l2, l3, l4, l5⟩ := leave_keeps (b := c.b) (k := c.k) h.fit.tick
      refine ⟨l1, by rw [l2]; exact h.lens, by rw [l4]; exact ht.1, ?_⟩
      rw [l3, l4, l5]
      simp only [tickM]
      omega

theorem go_steps_le (f : FuncM) (c : CfgM) : (goM f c).s.steps ≤ c.s.steps + 1 := by
  cases h : c.fin with
  | some e => rw [goM_fin (by rw [h]; simp)]; omega
  | none => rw [goM_steps h]; omega

theorem start_keeps (f : FuncM) (I : InM) (hfit : Fit f (startS f I)) : KeepM f I (startM f I).s := by
  unfold startM enterM
  refine ⟨hfit.arrive 0 (-1), rfl, ?_⟩
  simp [arriveM, startS]

theorem goN_keeps {f : FuncM} {I : InM} (hfit : Fit f (startS f I)) : ∀ n, n ≤ 200000 → KeepM f I (goN f n (startM f I)).s ∧ (goN f n (startM f I)).s.steps ≤ n
  | 0, _ => ⟨start_keeps f I hfit, Nat.le_refl _⟩
  | n + 1, hn => by
    obtain ⟨h1, h2⟩ := goN_keeps hfit n (by omega)
    refine ⟨go_keeps h1 (by omega), ?_⟩
    have := go_steps_le f (goN f n (startM f I))
    show (goM f (goN f n (startM f I))).s.steps ≤ n + 1
    omega

theorem start_lens (f : FuncM) (I : InM) : ∀ l ∈ (startS f I).arrs, l.length ≤ 4096 := by
  intro l hl
  unfold startS at hl
  obtain ⟨i, _, rfl⟩ := List.mem_map.1 hl
  rw [List.length_take]
  omega

theorem KeepM.short {f : FuncM} {I : InM} {s : StM} (h : KeepM f I s) : ∀ l ∈ s.arrs, l.length ≤ 4096 := by
  intro l hl
  have : l.length ∈ s.arrs.map List.length := List.mem_map.2 ⟨l, hl, rfl⟩
  rw [h.lens] at this
  obtain ⟨l2, h2, e⟩ := List.mem_map.1 this
  rw [← e]
  exact start_lens f I l2 h2

/-- what stands of a run that is done -/
theorem end_keeps {f : FuncM} {I : InM} {F : Nat} {s : StM} {en : EndM} (hfit : Fit f (startS f I)) (h : EndIs f I (min F 200000) s en) : KeepM f I s ∧ s.steps ≤ min F 200000 := by
  obtain ⟨rfl, _⟩ := h
  exact goN_keeps hfit _ (by omega)

end Go.Proofs.YtglbepdjahddmaaGreat

namespace Go.Proofs.YtglbepdjahddmaaGreat
open Go.RowKit Go.Maps

section
variable {c : MachC} {K : Nat → Prop} {w w' : World} {val : MVals} {s : StM}

/-- a region ahead of the rest, which stays behind a letter -/
theorem wpS_seq_region (l : List Nat) {P : Program} {id : Nat} {ops : Array Oper} {y : Code} {Q : Exit → Act → List Frame → World → Prop} {a : Act} {cs : List Frame} {w : World} (hl : List.range ops.size = l)
    (h : ∀ N : Exit → Act → List Frame → World → Prop, Hid (∀ a cs w, y.wpS P Q a cs w → N .normal a cs w) → wpOpsS P ops N l a cs w) : (Code.seq (Code.region id ops false) y).wpS P Q a cs w :=
  wpS_seq (wpS_region (hl ▸ h (Exit.thenS (y.wpS P Q) Q) (fun _ _ _ h => h)))

theorem wpOpsS_step {P : Program} {ops : Array Oper} {Q : Exit → Act → List Frame → World → Prop} {a : Act} {cs : List Frame} {w : World} {i : Nat} {rest : List Nat} {o : Oper} (ho : ops[i]? = some o)
    (h : ∀ K : Act → World → Prop, (∀ a w, wpOpsS P ops Q rest a cs w → K a w) → if Region.wanted o (yielded ops a.tmps) = true then Oper.wp P o a w K (fun e a' w' => Q e a' cs w') else K (a.put o.dst undef) w) : wpOpsS P ops Q (i :: rest) a cs w := by
  have h1 := h _ (fun _ _ h => h)
  simp only [wpOpsS, ho]
  split at h1
  · rename_i hw
    rw [if_pos hw]
    unfold Oper.wp at h1
    split
    · rename_i w' hr
      rw [hr] at h1
      exact (h1 : False).elim
    · exact h1
  · rename_i hw
    rw [if_neg hw]
    exact h1

theorem wpOpsS_recover {P : Program} {ops : Array Oper} {Q : Exit → Act → List Frame → World → Prop} {a : Act} {cs cs' : List Frame} {w : World} {i : Nat} {rest : List Nat} {o : Oper} {v : Value} (ho : ops[i]? = some o) (hg : o.guard = none)
    (hr : (execOp a.eval o).run P w = .ok .recover w) (hrec : recoverD cs = some (v, cs')) (h : wpOpsS P ops Q rest (a.put o.dst v) cs' w) : wpOpsS P ops Q (i :: rest) a cs w := by
  have hw : Region.wanted o (yielded ops a.tmps) = true := by simp [Region.wanted, hg]
  simp only [wpOpsS, ho]
  rw [if_pos hw, hr]
  simp only [hrec]
  exact h

theorem wpOpsS_nil {P : Program} {ops : Array Oper} {Q : Exit → Act → List Frame → World → Prop} {a : Act} {cs : List Frame} {w : World} (h : Q .normal a cs w) : wpOpsS P ops Q [] a cs w := h

theorem run_recover {P : Program} {w : World} (a : Act) (o : Oper) (ho : o.op = Op.call { callee := Callee.builtin Builtin.recover, args := #[], argTypes := #[] }) : (execOp a.eval o).run P w = .ok .recover w := by
  unfold execOp
  simp [ho, resolve, invoke, builtin]

theorem assert_ending (en : EndM) (w : World) : (Instr.typeAssert (endV en) 20 141 true).run Tryz.prog w = .ok (.tuple #[.agg #[.int .i64 en.1, .int .i64 en.2.1, .int .i64 en.2.2], .bool true]) w := by
  unfold endV
  simp [Instr.typeAssert, run_underlying Tryz.underlying141, go_sem, Result.andThen]

/-- a run that has ended: the machine's block, and the rows, as they lie -/
structure DoneAt (c : MachC) (val : MVals) (s : StM) (en : EndM) (w : World) : Prop where
  blk : ∃ o8 o9 o10 o11 o12, w.heap[c.m]? = some (.cells #[.int .i64 en.1, .int .i64 en.2.1, .int .i64 en.2.2, val .out, val .arrs, .int .i64 s.steps, .int .i64 s.checks, val .vis, o8, o9, o10, o11, o12] 97 (0, 0))
  rows : ∀ t d, mRow s c.nv val t = some d → w.ownsRow 0 d.elem 1 (val t) d.len d.cells

theorem DoneAt.drewN {c : MachC} {val : MVals} {s : StM} {en : EndM} {w : World} (h : DoneAt c val s en w) (n : Nat) : DoneAt c val s en (w.drewN n) := ⟨h.blk, h.rows⟩

theorem MachR.done (h : MachR c K w val s) (e0 e1 e2 : Int) : KF K w (((w.setCell ⟨c.m, 0, none⟩ (.int .i64 e0)).setCell ⟨c.m, 1, none⟩ (.int .i64 e1)).setCell ⟨c.m, 2, none⟩ (.int .i64 e2)) ∧
    DoneAt c val s (e0, e1, e2) (((w.setCell ⟨c.m, 0, none⟩ (.int .i64 e0)).setCell ⟨c.m, 1, none⟩ (.int .i64 e1)).setCell ⟨c.m, 2, none⟩ (.int .i64 e2)) := by
  have h0 := heap_setCell_same w c.m 0 _ _ (.int .i64 e0) h.blk
  have h1 := heap_setCell_same _ c.m 1 _ _ (.int .i64 e1) h0
  have h2 := heap_setCell_same _ c.m 2 _ _ (.int .i64 e2) h1
  refine ⟨(((KF.refl w).setCell h.offm _).setCell h.offm _).setCell h.offm _, ⟨⟨.map (some c.M), c.bv, .int .i64 c.fuel, val .vals, val .cells, h2.trans ?_⟩, fun t d ht => ?_⟩⟩
  · unfold machCells
    simp
  · have hne : (val t).ownBlock ≠ some c.m := fun e => (h.off t d _ ht e).1 rfl
    exact ownsRow_setCell_other (a := ⟨c.m, 2, none⟩) (ownsRow_setCell_other (a := ⟨c.m, 1, none⟩) (ownsRow_setCell_other (a := ⟨c.m, 0, none⟩) (h.rows t d ht) hne _) hne _) hne _

set_option maxRecDepth 100000 in
set_option maxHeartbeats 4000000 in
theorem catch_any (h : MachR c K w val s) (g : Nat) (hg : K g) (hbox : w.cell? ⟨g, 0, none⟩ = some (.pointer (some ⟨c.m, 0, none⟩))) (e0 e1 e2 : Int) (older : List PanicEntry) :
    CallsD Tryz.prog 77 #[.pointer (some ⟨g, 0, none⟩)] (.panicking ({ v := endV (e0, e1, e2), recovered := false } :: older)) w fun e u' w' =>
      e = .returned (.tuple #[]) ∧ u' = .panicking ({ v := endV (e0, e1, e2), recovered := true } :: older) ∧ KF K w w' ∧ DoneAt c val s (e0, e1, e2) w' := by
  refine callsD_of_wpS Tryz.func77 rfl fun c₀ cs hu => ?_
  simp only [Tryz.ntmps77, List.size_toArray, List.length_cons, List.length_nil, Nat.reduceAdd, Nat.reduceSub, Array.replicate_succ,
     Array.replicate_zero, List.push_toArray, List.append_toArray, List.nil_append, List.cons_append]
  have hlm := h.m_lt
  have hgl := h.low g hg
  have hcl := h.cells
  have H := hideI h
  simp only [machCells] at hcl
  clear h
  refine wpS_seq_region [0, 1, 2, 3, 4, 5, 6, 7] (by kernel_rfl) fun N hN => ?_
  have hta := assert_ending
  obtain ⟨c1, hc1⟩ : ∃ c1 : Frame, c1 = { c₀ with mode := .panicking ({ v := endV (e0, e1, e2), recovered := true } :: older) } := ⟨_, rfl⟩
  have hrec : recoverD (c₀ :: cs) = some (endV (e0, e1, e2), c1 :: cs) := by
    rw [hc1]
    simp only [recoverD, hu]
  have hta := assert_ending (e0, e1, e2)
  have HC1 := hideI hc1
  clear hu hc1
  obtain ⟨VV, hVV⟩ : ∃ VV, VV = endV (e0, e1, e2) := ⟨_, rfl⟩
  rw [← hVV] at hrec hta
  clear hVV
  apply wpOpsS_recover (cs' := c1 :: cs)
  case ho => rfl
  case hg => rfl
  case hr => exact run_recover _ _ rfl
  case hrec => exact hrec
  case h =>
    simp only [Act.put, List.setIfInBounds_toArray]
    clear hrec
    repeat (refine wpOpsS_step rfl (fun K hK => ?_); go_simp; refine hK _ _ ?_; clear hK K)
    refine wpOpsS_nil (hN.out _ _ _ ?_)
    clear hN N hta
    refine wpS_seq_region [0] (by kernel_rfl) fun N hN => ?_
    repeat (refine wpOpsS_step rfl (fun K hK => ?_); go_simp; refine hK _ _ ?_; clear hK K)
    refine wpOpsS_nil (hN.out _ _ _ ?_)
    clear hN N
    refine wpS_cond (t := true) (by simp [Act.eval]) ?_
    simp only [if_true]
    refine wpS_of_wp ?_
    obtain ⟨W0, hW0⟩ : ∃ W0, W0 = w.alloc (.cells #[.int .i64 e0, .int .i64 e1, .int .i64 e2] 141) := ⟨_, rfl⟩
    have hm0 : MachR c (fun b => K b ∨ b = w.heap.size) W0 val s := by rw [hW0]; exact H.out.add _
    have hk0 : KF K w W0 := by rw [hW0]; exact (KF.refl _).alloc H.out.low _
    have hb0 : W0.heap[w.heap.size]? = some (.cells #[.int .i64 e0, .int .i64 e1, .int .i64 e2] 141 (0, 0)) := by rw [hW0]; exact heap_alloc_new w _
    rw [← hW0]
    have hx := row_cells hb0 rfl
    have b0 := hx 0
    have b1 := hx 1
    have b2 := hx 2
    have bg : W0.cell? ⟨g, 0, none⟩ = some (.pointer (some ⟨c.m, 0, none⟩)) := (World.cell?_of_block (a := ⟨g, 0, none⟩) (hk0.block g hg)).trans hbox
    have m0 := hm0.cells 0
    have m1 := hm0.cells 1
    have m2 := hm0.cells 2
    simp only [machCells] at m0 m1 m2
    have f0 := hm0.free 0
    have f1 := hm0.free 1
    have f2 := hm0.free 2
    have z1 : ¬ c.m = g := fun e => H.out.offm (e ▸ hg)
    have z1' : ¬ g = c.m := fun e => z1 e.symm
    have z2 : ¬ c.m = w.heap.size := fun e => by omega
    have z2' : ¬ w.heap.size = c.m := fun e => z2 e.symm
    have HM0 := hideI hm0
    have HK0 := hideI hk0
    clear hx hm0 hk0 hb0 hW0 hcl hbox
    go_region_held3 (fun w' => w'.cell? ⟨g, 0, none⟩ = some (.pointer (some ⟨c.m, 0, none⟩)) ∧ w'.cell? ⟨w.heap.size, 0, none⟩ = some (.int .i64 e0) ∧ w'.cell? ⟨w.heap.size, 1, none⟩ = some (.int .i64 e1) ∧ w'.cell? ⟨w.heap.size, 2, none⟩ = some (.int .i64 e2)) (first | go_keep) (first | fail)
    obtain ⟨d1, d2⟩ := HM0.out.done e0 e1 e2
    exact ⟨rfl, _, by rw [HC1.out], _, results_none rfl _ _ _, rfl, rfl, HK0.out.trans ((d1.mono (fun b hb => .inl hb)).drewN 1), d2.drewN 1⟩
end
end Go.Proofs.YtglbepdjahddmaaGreat

namespace Go.Proofs.YtglbepdjahddmaaGreat
open Go.RowKit Go.Maps

section
variable {P : Program}
theorem results_same {fn : Func} (h : fn.results = #[]) (t t' : Array Value) : results fn t = results fn t' := by unfold results; simp [h]

theorem leaves_tmps {fn : Func} {t t' : Array Value} {R : Ending → World → Prop} (h : fn.results = #[]) : ∀ (ds : List Deferred) (u : FrameMode) (w : World), Leaves P fn t R ds u w → Leaves P fn t' R ds u w := by
  intro ds
  induction ds with
  | nil =>
    intro u w hl
    cases u with
    | run => exact hl
    | returning =>
      obtain ⟨v, hr, hR⟩ := hl
      exact ⟨v, by rw [results_same h t' t]; exact hr, hR⟩
    | panicking chain => exact hl
  | cons d ds ih =>
    intro u w hl
    obtain ⟨h1, fv, cap, f, args, ht, hi, hc⟩ := hl
    refine ⟨h1, fv, cap, f, args, ht, hi, hc.mono fun e u' w' hh => ?_⟩
    cases e with
    | returned v => exact ih _ _ hh
    | panicked c => exact ih _ _ hh
    | outgrown => exact hh

theorem post_frameD {fn : Func} {R : Ending → World → Prop} (h : fn.results = #[]) : ∀ c a w d v, bodyPostD P fn R (.panic c) (Act.put a d v) w → bodyPostD P fn R (.panic c) a w := by
  intro c a w d v hh
  cases d with
  | none => exact hh
  | some t => exact leaves_tmps h _ _ _ hh
end

section
variable {c : MachC} {K K1 : Nat → Prop} {w w' : World} {val : MVals} {s : StM}

/-- behind 'run' -/
def RunPost (c : MachC) (K : Nat → Prop) (I : InM) (F : Nat) (w : World) (e : Ending) (w' : World) : Prop :=
  e = .returned (.tuple #[]) ∧ ∃ val s en, EndIs c.f I F s en ∧ DoneAt c val s en w' ∧ (∀ t d g, mRow s c.nv val t = some d → (val t).ownBlock = some g → ¬ K g) ∧ KF K w w'

theorem run_end (h : MachR c K1 w' val s) (hk : KF K w w') (hK : ∀ b, K b → K1 b) {g : Nat} (hg : K1 g) (hbox : w'.cell? ⟨g, 0, none⟩ = some (.pointer (some ⟨c.m, 0, none⟩))) {I : InM} {F : Nat} {e0 e1 e2 : Int} (he : EndIs c.f I F s (e0, e1, e2)) (tmps : Array Value) :
    Leaves Tryz.prog Tryz.f43 tmps (RunPost c K I F w) [{ target := .fn (.func 77) #[.pointer (some ⟨g, 0, none⟩)], args := #[] }] (.panicking [{ v := endV (e0, e1, e2), recovered := false }]) w' := by
  refine leaves_cons (f := 77) (args := #[.pointer (some ⟨g, 0, none⟩)]) (by simp) (by kernel_rfl) ?_
  refine (catch_any h g hg hbox e0 e1 e2 []).mono ?_
  rintro e u' w2 ⟨rfl, rfl, hk2, hd⟩
  refine ⟨.tuple #[], results_none rfl _ _ _, rfl, val, s, (e0, e1, e2), he, hd, (fun t d g h1 h2 h3 => (h.off t d g h1 h2).2 (hK g h3)), hk.trans (hk2.mono hK)⟩

/-- where a run stands as a block is come to -/
structure OutSt (c : MachC) (K1 : Nat → Prop) (I : InM) (F : Nat) (W0 wr : World) (val : MVals) (s : StM) (b : Nat) (fr : Int) : Prop where
  m : MachR c K1 wr val s
  kf : KF K1 W0 wr
  fit : Fit c.f s
  phis : ∀ q, c.f.blocks[b]? = some q → ∀ p ∈ q.phis, PhiOk c.nv fr p
  reach : Reach c.f I s.steps (enterM c.f b fr s)
  le : s.steps ≤ F

/-- where a run stands within a block -/
structure InSt (c : MachC) (K1 : Nat → Prop) (I : InM) (F : Nat) (W0 wr : World) (val : MVals) (s : StM) (b k st0 : Nat) : Prop where
  m : MachR c K1 wr val s
  kf : KF K1 W0 wr
  fit : Fit c.f s
  reach : Reach c.f I s.steps ⟨s, b, k, none⟩
  le : s.steps ≤ F
  ge : st0 ≤ s.steps

theorem code_cells {B : Nat} {cv : Value} {xs : List InstrM} (h : CodeR w B cv xs) : ∃ A pc, cv = .slice A xs.length pc ∧ ∀ k x, xs[k]? = some x → ∃ b off XA xc, A = some ⟨b, off, none⟩ ∧ b < B ∧
    w.cell? ⟨b, off + k * 4, none⟩ = some (.int .i64 x.op) ∧ w.cell? ⟨b, off + k * 4 + 1, none⟩ = some (.int .i64 x.id) ∧ w.cell? ⟨b, off + k * 4 + 2, none⟩ = some (.slice XA x.args.length xc) ∧ w.cell? ⟨b, off + k * 4 + 3, none⟩ = some (.int .i64 x.n) ∧
    Ints w B (.slice XA x.args.length xc) x.args := by
  obtain ⟨A, pc, rfl, hl, hat⟩ := h
  refine ⟨A, pc, rfl, fun k x hx => ?_⟩
  obtain ⟨b, off, av, e, hb, h0, h1, h2, h3, ha, _⟩ := hat k x hx
  have ha' := ha
  obtain ⟨XA, xc, rfl, _⟩ := ha
  exact ⟨b, off, XA, xc, e, hb, h0, h1, h2, h3, ha'⟩

theorem steps_cell (h : MachR c K w val s) : w.cell? ⟨c.m, 5, none⟩ = some (.int .i64 s.steps) := h.cells 5

set_option maxRecDepth 100000 in
set_option maxHeartbeats 16000000 in
theorem run_any (h : MachR c K w val s) (I : InM) (F : Nat) (hF : c.fuel = F) (hF2 : F ≤ 200000) (hok : FOk c.f c.nv) (hfit : Fit c.f s) (hst : s = startS c.f I) :
    Calls Tryz.prog 43 #[.pointer (some ⟨c.m, 0, none⟩)] w (RunPost c K I F w) := by
  have hmf : ∀ (fn : Fn) (first cap : Array Value) (w : World), (Instr.makeFunc fn first cap).run Tryz.prog w = .ok (.func fn first cap) w := fun _ _ _ _ => rfl
  obtain ⟨W0, hW0⟩ : ∃ W0, W0 = w.alloc (.cells #[.pointer (some ⟨c.m, 0, none⟩)] 92) := ⟨_, rfl⟩
  obtain ⟨K1, hK1⟩ : ∃ K1 : Nat → Prop, K1 = fun b => K b ∨ b = w.heap.size := ⟨_, rfl⟩
  have hm0 : MachR c K1 W0 val s := by rw [hW0, hK1]; exact h.add _
  have hk0 : KF K w W0 := by rw [hW0]; exact (KF.refl _).alloc h.low _
  have hb0 : W0.heap[w.heap.size]? = some (.cells #[.pointer (some ⟨c.m, 0, none⟩)] 92 (0, 0)) := by rw [hW0]; exact heap_alloc_new w _
  have hKG : K1 w.heap.size := by rw [hK1]; exact .inr rfl
  have hKK : ∀ b, K b → K1 b := fun b hb => by rw [hK1]; exact .inl hb
  have HBX : Hid (∀ W, KF K1 W0 W → W.cell? ⟨w.heap.size, 0, none⟩ = some (.pointer (some ⟨c.m, 0, none⟩))) := hideI fun W hW => row_cells hb0 (hW.block _ hKG) 0
  have HKG := hideI hKG
  have HKK := hideI hKK
  have HK0 := hideI hk0
  have HW0 := hideI hW0
  have HOK := hideI hok
  have HF := hideI hF
  have HF2 := hideI hF2
  have HSTART : Hid (OutSt c K1 I F W0 W0 val s 0 (-1)) := hideI ⟨hm0, KF.refl _, hfit, (fun q hq p hp => by rw [hok.first.2 q hq] at hp; cases hp), (by rw [hst]; rfl), (by rw [hst]; exact Nat.zero_le _)⟩
  have h0 := hok.first.1
  have q0 := HBX.out W0 (KF.refl _)
  clear hm0 hk0 hb0 hW0 h hok hfit hst hF hF2 hKG hKK hK1
  go_enter_defers Tryz.func43, Tryz.ntmps43
  go_upto_region 1 with fail
  rw [← HW0.out]
  clear q0
  go_wp2
  go_loopw [2, 3] (fun u v wr => ∃ (b : Nat) (fr : Int) (s : StM) (val : MVals), u = .int .i64 fr ∧ v = .int .i64 b ∧ b < c.f.blocks.length ∧ Hid (OutSt c K1 I F W0 wr val s b fr) ∧ wr.cell? ⟨c.m, 5, none⟩ = some (.int .i64 s.steps)) (fun _ _ wr => F - (intOf ((wr.cell? ⟨c.m, 5, none⟩).getD (.bool false))).toNat)
  case atStart => exact ⟨0, -1, s, val, rfl, rfl, h0, HSTART, steps_cell HSTART.out.m⟩
  case round =>
    obtain ⟨b, fr, s, val, rfl, rfl, hb, HO, h5⟩ := hrel
    obtain ⟨q, hq⟩ : ∃ q, c.f.blocks[b]? = some q := ⟨_, List.getElem?_eq_getElem hb⟩
    have HQ := hideI hq
    have HC := hideI (arrive_any HO.out.m b fr q hq (by rw [HO.out.fit.vis]; exact hb) (HO.out.phis q hq) (HOK.out.phis b q hq))
    have H5 := hideI h5
    have g0 := HBX.out wr HO.out.kf
    obtain ⟨A, cc, hbv, _, hbat⟩ := HSTART.out.m.blks
    obtain ⟨bb, boff, pv, cv, tv, rfl, hbb, _, d1, d2, d3, d4, d5, _, hcode, htv, _⟩ := hbat b q hq
    obtain ⟨CA, cc2, rfl, hcat⟩ := code_cells hcode
    have HCAT := hideI hcat
    have HBV := hideI hbv
    have HTV := hideI htv
    obtain ⟨nc, hnc⟩ : ∃ nc, nc = q.code.length := ⟨_, rfl⟩
    obtain ⟨nb, hnb⟩ : ∃ nb, nb = c.f.blocks.length := ⟨_, rfl⟩
    rw [← hnc] at d1
    rw [← hnb] at HBV hb
    have HNC := hideI hnc
    have HNB := hideI hnb
    have HCELL : Hid (∀ W, KF K1 W0 W → MachR c K1 W val s → True) := hideI fun _ _ _ => trivial
    have HBC : Hid (∀ W, KF K1 W0 W → W.cell? ⟨bb, boff + b * 6 + 1, none⟩ = some (.slice CA nc cc2) ∧ W.cell? ⟨bb, boff + b * 6 + 2, none⟩ = some (.int .i64 q.term.op) ∧ W.cell? ⟨bb, boff + b * 6 + 3, none⟩ = some (.int .i64 q.term.val) ∧ W.cell? ⟨bb, boff + b * 6 + 4, none⟩ = some tv ∧ W.cell? ⟨bb, boff + b * 6 + 5, none⟩ = some (.int .i64 q.term.n)) := hideI fun W hW => by
      have hk : Keeps c.B W0 W := hW.keeps HSTART.out.m.kB
      rw [hk _ _ hbb, hk _ _ hbb, hk _ _ hbb, hk _ _ hbb, hk _ _ hbb]
      exact ⟨d1, d2, d3, d4, d5⟩
    have hnc4 : nc ≤ 4096 := by rw [hnc]; exact HOK.out.codes b q hq
    clear hq h5 hbat hbv hcode hcat d1 d2 d3 d4 d5 htv hnc hnb HCELL
    go_upto_region 4 with (first | (go_at_call 78; refine HC.out.mono ?_; rintro e w1 ⟨rfl, hm1, hf1⟩))
    have HI : Hid (InSt c K1 I F W0 w1 val (arriveM c.f b fr s) b 0 s.steps) := hideI ⟨hm1, HO.out.kf.trans hf1, HO.out.fit.arrive b fr, HO.out.reach, HO.out.le, Nat.le_refl _⟩
    clear g0 hm1 hf1
    have g0 := HBX.out w1 HI.out.kf
    have c9 := HI.out.m.cells 9
    simp only [machCells] at c9
    rw [HBV.out] at c9
    have e1 := (HBC.out w1 HI.out.kf).1
    obtain ⟨st0, hst0⟩ : ∃ st0, st0 = s.steps := ⟨_, rfl⟩
    rw [← hst0] at HI
    have HST0 := hideI hst0
    clear hst0
    go_wp2
    clear g0 c9 e1
    obtain ⟨wo, rfl⟩ : ∃ wo : World, wo = wr := ⟨_, rfl⟩
    go_loopw [20] (fun u wr => ∃ (k : Nat) (s : StM) (val : MVals), k ≤ nc ∧ u = .int .i64 k ∧ Hid (InSt c K1 I F W0 wr val s b k st0)) (fun u _ => nc - (intOf u).toNat)
    case atStart => exact ⟨0, _, _, Nat.zero_le _, rfl, HI⟩
    case round =>
      obtain ⟨k, s2, val2, hk, rfl, HJ⟩ := hrel
      have g0 := HBX.out wr HJ.out.kf
      by_cases hlt : k < nc
      · obtain ⟨x, hx⟩ : ∃ x, q.code[k]? = some x := ⟨_, List.getElem?_eq_getElem (by rw [← HNC.out]; exact hlt)⟩
        obtain ⟨xb, xoff, XA, xc, rfl, hxb, e0, e1, e2, e3, hxa⟩ := HCAT.out k x hx
        have kp : Keeps c.B W0 wr := HJ.out.kf.keeps HSTART.out.m.kB
        rw [← kp _ _ hxb] at e0 e1 e2 e3
        have hxl := World.block_lt_of_cell? wr _ e0
        obtain ⟨W2, hW2⟩ : ∃ W2, W2 = wr.alloc (.cells #[.int .i64 x.op, .int .i64 x.id, .slice XA x.args.length xc, .int .i64 x.n] 89) := ⟨_, rfl⟩
        have hm2 : MachR c (fun b => K1 b ∨ b = wr.heap.size) W2 val2 s2 := by rw [hW2]; exact HJ.out.m.add _
        have hk2 : KF K1 wr W2 := by rw [hW2]; exact (KF.refl _).alloc HJ.out.m.low _
        have hb2 : W2.heap[wr.heap.size]? = some (.cells #[.int .i64 x.op, .int .i64 x.id, .slice XA x.args.length xc, .int .i64 x.n] 89 (0, 0)) := by rw [hW2]; exact heap_alloc_new wr _
        have HXA : Hid (Ints W0 c.B (.slice XA x.args.length xc) x.args) := hideI hxa
        have HX := hideI hx
        have HM2 := hideI hm2
        have HK2 := hideI (HJ.out.kf.trans hk2)
        have HB2 := hideI hb2
        have HXOK := hideI (HOK.out.code b q HQ.out x (List.mem_of_getElem? hx))
        obtain ⟨na, hna⟩ : ∃ na, na = x.args.length := ⟨_, rfl⟩
        rw [← hna] at e2 hW2 HB2
        have HNA := hideI hna
        have HW2 := hideI hW2
        have g2 := HBX.out W2 HK2.out
        clear hx hm2 hk2 hb2 hxa hna hW2 kp hxb
        by_cases hstop : (s2.steps : Int) = c.fuel
        · have HS := hideI (step_stop HM2.out hstop)
          have HEND : Hid (EndIs c.f I F s2 (3, 0, 0)) := hideI (by
            have e : s2.steps = F := by have := HF.out; omega
            have h1 := HJ.out.reach
            rw [e] at h1
            exact h1.stop)
          clear hstop
          go_upto_region 7 with fail
          rw [← HW2.out]
          go_wp2_with (first | (go_at_call 79; refine HS.out.mono ?_; rintro e w3 ⟨he, hm1, hf1⟩; simp only [endE, endV] at he; subst he))
          exact run_end hm1 (HK0.out.trans ((HK2.out.mono HKK.out).trans (hf1.mono (fun b hb => .inl (HKK.out b hb))))) (fun b hb => .inl (HKK.out b hb)) (.inl HKG.out) (HBX.out _ (HK2.out.trans (hf1.mono (fun b hb => .inl hb)))) HEND.out _
        · have hlt2 : s2.steps < F := by have := HF.out; have := HJ.out.le; omega
          have HS := hideI (step_go HM2.out hstop (by have := HF2.out; omega))
          have HR := hideI (HJ.out.reach.code HQ.out HX.out)
          have HFI := hideI (HJ.out.fit.tick)
          have HLT2 := hideI hlt2
          clear hstop hlt2
          have HDO : Hid (∀ W, MachR c (fun b => K1 b ∨ b = wr.heap.size) W val2 (tickM s2) → KF K1 W0 W → Calls Tryz.prog 80 #[.pointer (some ⟨c.m, 0, none⟩), .agg #[.int .i64 x.op, .int .i64 x.id, .slice XA na xc, .int .i64 x.n]] W (DoPost c (fun b => K1 b ∨ b = wr.heap.size) W (doM x (tickM s2)))) := hideI fun W h1 h2 => by
            have h3 := do_any h1 x (.slice XA x.args.length xc) (HXOK.out.instr HFI.out) (HXA.out.keeps (h2.keeps HSTART.out.m.kB)) HXOK.out.few HFI.out.out
            unfold boxI at h3
            rw [← HNA.out] at h3
            exact h3
          have HBC2 : Hid (∀ W, KF (fun b => K1 b ∨ b = wr.heap.size) W2 W → W.cell? ⟨wr.heap.size, 0, none⟩ = some (.int .i64 x.op) ∧ W.cell? ⟨wr.heap.size, 1, none⟩ = some (.int .i64 x.id) ∧ W.cell? ⟨wr.heap.size, 2, none⟩ = some (.slice XA na xc) ∧ W.cell? ⟨wr.heap.size, 3, none⟩ = some (.int .i64 x.n)) := hideI fun W hW => by
            have hx := row_cells HB2.out (hW.block _ (.inr rfl))
            exact ⟨hx 0, hx 1, hx 2, hx 3⟩
          cases hd : (doM x (tickM s2)).2 with
          | none =>
            have HFD := hideI (HFI.out.done x)
            have HST := hideI (doM_steps x (tickM s2))
            rw [hd] at HR
            have HD := hideI hd
            clear hd
            go_upto_region 7 with fail
            rw [← HW2.out]
            go_wp2_with (first
              | (go_at_call 79; refine HS.out.mono ?_; rintro e w3 ⟨rfl, hm1, hf1⟩; have HM3 := hideI hm1; have HF3 := hideI hf1; clear hm1 hf1 e0 e1 e2 e3 g0 g2; have g3 := HBX.out _ (HK2.out.trans (HF3.out.mono (fun b hb => .inl hb))); obtain ⟨i0, i1, i2, i3⟩ := HBC2.out _ HF3.out)
              | (go_at_call 80; refine (HDO.out _ HM3.out (HK2.out.trans (HF3.out.mono (fun b hb => .inl hb)))).mono ?_; rintro e w4 ⟨he, ⟨val4, hm4⟩, hf4⟩; rw [HD.out] at he; subst he; have HM4 := hideI hm4; have HF4 := hideI hf4; clear hm4 hf4 g3 i0 i1 i2 i3))
            go_roundw
            case rel => exact ⟨k + 1, _, val4, by omega, by go_num, hideI ⟨HM4.out.less (fun b hb => .inl hb) HSTART.out.m.kB HSTART.out.m.kM, HK2.out.trans ((HF3.out.trans HF4.out).mono (fun b hb => .inl hb)), HFD.out, by rw [HST.out]; exact HR.out, by rw [HST.out]; exact HLT2.out, by rw [HST.out]; exact Nat.le_succ_of_le HJ.out.ge⟩⟩
            case measure => simp [intOf]; omega
          | some en =>
            rw [hd] at HR
            obtain ⟨e0', e1', e2'⟩ := en
            have HEND : Hid (EndIs c.f I F (doM x (tickM s2)).1 (e0', e1', e2')) := hideI (HR.out.fin HLT2.out)
            have HD := hideI hd
            clear hd
            go_upto_region 7 with fail
            rw [← HW2.out]
            go_wp2_with (first
              | (go_at_call 79; refine HS.out.mono ?_; rintro e w3 ⟨rfl, hm1, hf1⟩; have HM3 := hideI hm1; have HF3 := hideI hf1; clear hm1 hf1 e0 e1 e2 e3 g0 g2; have g3 := HBX.out _ (HK2.out.trans (HF3.out.mono (fun b hb => .inl hb))); obtain ⟨i0, i1, i2, i3⟩ := HBC2.out _ HF3.out)
              | (go_at_call 80; refine (HDO.out _ HM3.out (HK2.out.trans (HF3.out.mono (fun b hb => .inl hb)))).mono ?_; rintro e w4 ⟨he, ⟨val4, hm4⟩, hf4⟩; rw [HD.out] at he; simp only [endE, endV] at he; subst he; have HM4 := hideI hm4; have HF4 := hideI hf4; clear hm4 hf4 g3 i0 i1 i2 i3))
            have hkf := HK2.out.trans ((HF3.out.trans HF4.out).mono (fun b hb => .inl hb))
            exact run_end HM4.out (HK0.out.trans (hkf.mono HKK.out)) (fun b hb => .inl (HKK.out b hb)) (.inl HKG.out) (HBX.out _ hkf) HEND.out _
      · have hkn : k = nc := by omega
        subst hkn
        have HTOK := hideI (HOK.out.term b q HQ.out)
        by_cases hstop : (s2.steps : Int) = c.fuel
        · have HS := hideI (step_stop HJ.out.m hstop)
          have HEND : Hid (EndIs c.f I F s2 (3, 0, 0)) := hideI (by
            have e : s2.steps = F := by have := HF.out; omega
            have h1 := HJ.out.reach
            rw [e] at h1
            exact h1.stop)
          clear hstop
          go_wp2_with (first | (go_at_call 79; refine HS.out.mono ?_; rintro e w3 ⟨he, hm1, hf1⟩; simp only [endE, endV] at he; subst he))
          exact run_end hm1 (HK0.out.trans ((HJ.out.kf.trans hf1).mono HKK.out)) HKK.out HKG.out (HBX.out _ (HJ.out.kf.trans hf1)) HEND.out _
        · have hlt2 : s2.steps < F := by have := HF.out; have := HJ.out.le; omega
          have HS := hideI (step_go HJ.out.m hstop (by have := HF2.out; omega))
          have HR := hideI (HJ.out.reach.leave HQ.out (by rw [← HNC.out]; exact Nat.le_refl _))
          have HFI := hideI (HJ.out.fit.tick)
          have HLT2 := hideI hlt2
          clear hstop hlt2
          have HNX : Hid (∀ W, MachR c K1 W val2 (tickM s2) → KF K1 W0 W → Calls Tryz.prog 81 #[.pointer (some ⟨c.m, 0, none⟩), .agg #[.int .i64 q.term.op, .int .i64 q.term.val, tv, .int .i64 q.term.n]] W (NextPost c K1 W val2 (tickM s2) q.term)) := hideI fun W h1 h2 =>
            next_any h1 q.term tv HTOK.out (HTV.out.keeps (h2.keeps HSTART.out.m.kB))
          go_upto_region 11 with (first
              | (go_at_call 79; refine HS.out.mono ?_; rintro e w3 ⟨rfl, hm1, hf1⟩; have HM3 := hideI hm1; have HF3 := hideI (HJ.out.kf.trans hf1); clear hm1 hf1 g0))
          have g3 := HBX.out w3 HF3.out
          have c9 := HM3.out.cells 9
          simp only [machCells] at c9
          rw [HBV.out] at c9
          obtain ⟨_, i2, i3, i4, i5⟩ := HBC.out w3 HF3.out
          have hbl := World.block_lt_of_cell? w3 _ i2
          have hgl := World.block_lt_of_cell? w3 _ g3
          have hml := HM3.out.m_lt
          cases hn : nextR q.term (tickM s2) with
          | inr en =>
            rw [leave_fin HQ.out hn] at HR
            obtain ⟨e0', e1', e2'⟩ := en
            have HEND : Hid (EndIs c.f I F (tickM s2) (e0', e1', e2')) := hideI (HR.out.fin HLT2.out)
            have HN := hideI hn
            clear hn
            refine wp_region_panics 10 (by kernel_rfl) rfl (by kernel_rfl) (by kernel_rfl) (fun c a w d v h => post_frameD rfl c a w d v h) ?_
            simp only [List.take_succ_cons, List.take_zero, List.getElem_toArray, List.getElem_cons_succ, List.getElem_cons_zero]
            repeat (refine wpPure_step (fun K hK => ?_); go_simp; refine hK _ ?_; clear hK K)
            refine wpPure_nil ?_
            rintro w' ⟨n, rfl⟩ K'
            go_simp
            refine (HNX.out _ (HM3.out.drewN n) (HF3.out.drewN n)).mono ?_
            rintro e w4 ⟨he, hm4, hf4⟩
            rw [HN.out] at he
            simp only [endE, endV] at he
            subst he
            have hkf := HF3.out.trans hf4.undrew
            exact run_end hm4 (HK0.out.trans (hkf.mono HKK.out)) HKK.out HKG.out (HBX.out _ hkf) HEND.out _
          | inl t =>
            obtain ⟨hlv, hmem⟩ := leave_go (k := k) HQ.out hn HTOK.out
            obtain ⟨t', rfl, htl, hphi⟩ := HOK.out.goes b q HQ.out t hmem
            rw [hlv] at HR
            have HN := hideI hn
            have HPH := hideI hphi
            rw [← HNB.out] at htl
            have HSS : Hid (∀ W, MachR c K1 W val2 (tickM s2) → KF K1 W0 W → W.cell? ⟨w.heap.size, 0, none⟩ = some (.pointer (some ⟨c.m, 0, none⟩)) ∧ W.cell? ⟨c.m, 9, none⟩ = some (.slice (some ⟨bb, boff, none⟩) nb cc) ∧ W.cell? ⟨bb, boff + b * 6 + 2, none⟩ = some (.int .i64 q.term.op) ∧ W.cell? ⟨bb, boff + b * 6 + 3, none⟩ = some (.int .i64 q.term.val) ∧ W.cell? ⟨bb, boff + b * 6 + 4, none⟩ = some tv ∧ W.cell? ⟨bb, boff + b * 6 + 5, none⟩ = some (.int .i64 q.term.n)) := hideI fun W h1 h2 =>
              ⟨HBX.out W h2, (h1.cells 9).trans (by simp [machCells, HBV.out, HNB.out]), (HBC.out W h2).2⟩
            clear hlv hmem hn hphi
            go_region_held3 (fun w' => w'.cell? ⟨w.heap.size, 0, none⟩ = some (.pointer (some ⟨c.m, 0, none⟩)) ∧ w'.cell? ⟨c.m, 9, none⟩ = some (.slice (some ⟨bb, boff, none⟩) nb cc) ∧ w'.cell? ⟨bb, boff + b * 6 + 2, none⟩ = some (.int .i64 q.term.op) ∧ w'.cell? ⟨bb, boff + b * 6 + 3, none⟩ = some (.int .i64 q.term.val) ∧ w'.cell? ⟨bb, boff + b * 6 + 4, none⟩ = some tv ∧ w'.cell? ⟨bb, boff + b * 6 + 5, none⟩ = some (.int .i64 q.term.n)) (first | exact HSS.out _ HM4.out HF4.out | go_keep)
              (first | (go_at_call 81; refine (HNX.out _ (HM3.out.drewN 1) (HF3.out.drewN 1)).mono ?_; rintro e w4 ⟨he, hm4, hf4⟩; rw [HN.out] at he; obtain rfl : e = .returned (.int .i64 (t' : Int)) := he; have HM4 := hideI hm4; have HF4 := hideI (HF3.out.trans hf4.undrew); clear hm4 hf4))
            clear g3 c9 i2 i3 i4 i5
            go_wp2
            go_roundw
            case rel => exact ⟨t', b, tickM s2, val2, rfl, rfl, by rw [← HNB.out]; exact htl, hideI ⟨HM4.out, HF4.out, HFI.out, HPH.out, by rw [Int.toNat_natCast] at HR; exact HR.out, HLT2.out⟩, steps_cell HM4.out⟩
            case measure =>
              rw [H5.out, steps_cell HM4.out]
              have h1 := HJ.out.ge
              have h2 := HST0.out
              have h3 := HLT2.out
              have h4 : (tickM s2).steps = s2.steps + 1 := rfl
              simp only [Option.getD_some, intOf, Int.toNat_natCast]
              omega
end
end Go.Proofs.YtglbepdjahddmaaGreat

namespace Go.Proofs.YtglbepdjahddmaaGreat
open Go.RowKit Go.Maps Go.Sort Go.Shelf

def keysL_ren : Go.Shelf.Ren := ⟨fun | 7 => 143 | 10 => 155 | n => n, fun | 23 => 150 | 26 => 3 | 3 => 3 | 28 => 201 | 0 => 0 | 27 => 200 | 33 => 100 | 4 => 4 | n => n, fun | n => n⟩
theorem keysL : Go.Proofs.SlLaysZI.n7 Tryz.prog keysL_ren := {
  mixed := by kernel_rfl,
  f7 := ⟨Tryz.f143.name, by decide, Tryz.func143.trans (congrArg some (by kernel_rfl))⟩,
  f10 := ⟨Tryz.f155.name, by decide, Tryz.func155.trans (congrArg some (by kernel_rfl))⟩,
  t0 := Tryz.underlying0,
  a0 := Tryz.isAgg0,
  z0 := Tryz.sizeOf0,
  v0 := Tryz.zeroValue0,
  t4 := Tryz.underlying4,
  a4 := Tryz.isAgg4,
  z4 := Tryz.sizeOf4,
  v4 := Tryz.zeroValue4,
  t23 := Tryz.underlying150,
  a23 := Tryz.isAgg150,
  z23 := Tryz.sizeOf150,
  v23 := Tryz.zeroValue150,
  t26 := Tryz.underlying3,
  a26 := Tryz.isAgg3,
  z26 := Tryz.sizeOf3,
  v26 := Tryz.zeroValue3,
  t27 := Tryz.underlying200,
  a27 := Tryz.isAgg200,
  z27 := Tryz.sizeOf200,
  v27 := Tryz.zeroValue200,
  t28 := Tryz.underlying201,
  a28 := Tryz.isAgg201,
  z28 := Tryz.sizeOf201,
  v28 := Tryz.zeroValue201,
  t33 := Tryz.underlying100,
  a33 := Tryz.isAgg100,
  z33 := Tryz.sizeOf100,
  v33 := Tryz.zeroValue100 }
def sortedL_ren : Go.Shelf.Ren := ⟨fun | 6 => 142 | 8 => 153 | 9 => 154 | 11 => 165 | 13 => 167 | 12 => 166 | 23 => 180 | 24 => 181 | 14 => 172 | 15 => 173 | 16 => 174 | 17 => 175 | 18 => 176 | 19 => 177 | 20 => 130 | 21 => 178 | 22 => 179 | 25 => 182 | 26 => 183 | 27 => 184 | 28 => 185 | 29 => 186 | 30 => 149 | 31 => 187 | n => n, fun | 26 => 3 | 28 => 201 | 24 => 22 | 0 => 0 | 3 => 3 | 37 => 106 | 48 => 211 | 50 => 107 | 4 => 4 | 40 => 223 | 39 => 222 | 45 => 164 | 5 => 5 | 9 => 9 | 51 => 231 | 55 => 235 | 57 => 237 | 58 => 238 | 33 => 100 | n => n, fun | n => n⟩
theorem sortedL : Go.Proofs.SlLaysZI.n6 Tryz.prog sortedL_ren := {
  mixed := by kernel_rfl,
  f6 := ⟨Tryz.f142.name, by decide, Tryz.func142.trans (congrArg some (by kernel_rfl))⟩,
  f8 := ⟨Tryz.f153.name, by decide, Tryz.func153.trans (congrArg some (by kernel_rfl))⟩,
  f11 := ⟨Tryz.f165.name, by decide, Tryz.func165.trans (congrArg some (by kernel_rfl))⟩,
  t0 := Tryz.underlying0,
  a0 := Tryz.isAgg0,
  z0 := Tryz.sizeOf0,
  v0 := Tryz.zeroValue0,
  t24 := Tryz.underlying22,
  a24 := Tryz.isAgg22,
  z24 := Tryz.sizeOf22,
  v24 := Tryz.zeroValue22,
  t26 := Tryz.underlying3,
  a26 := Tryz.isAgg3,
  z26 := Tryz.sizeOf3,
  v26 := Tryz.zeroValue3,
  t28 := Tryz.underlying201,
  a28 := Tryz.isAgg201,
  z28 := Tryz.sizeOf201,
  v28 := Tryz.zeroValue201,
  i26 := by kernel_rfl }
def sortL_ren : Go.Shelf.Ren := ⟨fun | 5 => 154 | 8 => 167 | 7 => 166 | 19 => 180 | 20 => 181 | 10 => 172 | 11 => 173 | 12 => 174 | 13 => 175 | 14 => 176 | 15 => 177 | 16 => 130 | 17 => 178 | 18 => 179 | 30 => 182 | 31 => 183 | 32 => 184 | 33 => 185 | 34 => 186 | 35 => 149 | 40 => 187 | n => n, fun | 23 => 22 | 25 => 3 | 3 => 3 | 32 => 106 | 22 => 22 | 0 => 0 | 44 => 211 | 46 => 107 | 4 => 4 | 36 => 223 | 35 => 222 | 41 => 164 | 5 => 5 | 9 => 9 | 53 => 231 | 57 => 235 | 63 => 237 | 64 => 238 | n => n, fun | n => n⟩
theorem sortL : Go.Proofs.SlLaysM.n5 Tryz.prog sortL_ren := {
  mixed := by kernel_rfl,
  f5 := ⟨Tryz.f154.name, by decide, Tryz.func154.trans (congrArg some (by kernel_rfl))⟩,
  f7 := ⟨Tryz.f166.name, by decide, Tryz.func166.trans (congrArg some (by kernel_rfl))⟩,
  f8 := Tryz.func167.trans (congrArg some (by kernel_rfl)),
  f10 := ⟨Tryz.f172.name, by decide, Tryz.func172.trans (congrArg some (by kernel_rfl))⟩,
  f11 := ⟨Tryz.f173.name, by decide, Tryz.func173.trans (congrArg some (by kernel_rfl))⟩,
  f12 := ⟨Tryz.f174.name, by decide, Tryz.func174.trans (congrArg some (by kernel_rfl))⟩,
  f13 := ⟨Tryz.f175.name, by decide, Tryz.func175.trans (congrArg some (by kernel_rfl))⟩,
  f14 := ⟨Tryz.f176.name, by decide, Tryz.func176.trans (congrArg some (by kernel_rfl))⟩,
  f15 := ⟨Tryz.f177.name, by decide, Tryz.func177.trans (congrArg some (by kernel_rfl))⟩,
  f16 := ⟨Tryz.f130.name, by decide, Tryz.func130.trans (congrArg some (by kernel_rfl))⟩,
  f17 := ⟨Tryz.f178.name, by decide, Tryz.func178.trans (congrArg some (by kernel_rfl))⟩,
  f18 := ⟨Tryz.f179.name, by decide, Tryz.func179.trans (congrArg some (by kernel_rfl))⟩,
  f19 := Tryz.func180.trans (congrArg some (by kernel_rfl)),
  f20 := Tryz.func181.trans (congrArg some (by kernel_rfl)),
  f30 := ⟨Tryz.f182.name, by decide, Tryz.func182.trans (congrArg some (by kernel_rfl))⟩,
  f31 := Tryz.func183.trans (congrArg some (by kernel_rfl)),
  f32 := Tryz.func184.trans (congrArg some (by kernel_rfl)),
  f33 := ⟨Tryz.f185.name, by decide, Tryz.func185.trans (congrArg some (by kernel_rfl))⟩,
  f34 := ⟨Tryz.f186.name, by decide, Tryz.func186.trans (congrArg some (by kernel_rfl))⟩,
  f35 := ⟨Tryz.f149.name, by decide, Tryz.func149.trans (congrArg some (by kernel_rfl))⟩,
  f40 := ⟨Tryz.f187.name, by decide, Tryz.func187.trans (congrArg some (by kernel_rfl))⟩,
  t0 := Tryz.underlying0,
  a0 := Tryz.isAgg0,
  z0 := Tryz.sizeOf0,
  v0 := Tryz.zeroValue0,
  t3 := Tryz.underlying3,
  a3 := Tryz.isAgg3,
  z3 := Tryz.sizeOf3,
  v3 := Tryz.zeroValue3,
  t4 := Tryz.underlying4,
  a4 := Tryz.isAgg4,
  z4 := Tryz.sizeOf4,
  v4 := Tryz.zeroValue4,
  t5 := Tryz.underlying5,
  a5 := Tryz.isAgg5,
  z5 := Tryz.sizeOf5,
  v5 := Tryz.zeroValue5,
  t9 := Tryz.underlying9,
  a9 := Tryz.isAgg9,
  z9 := Tryz.sizeOf9,
  v9 := Tryz.zeroValue9,
  t22 := Tryz.underlying22,
  a22 := Tryz.isAgg22,
  z22 := Tryz.sizeOf22,
  v22 := Tryz.zeroValue22,
  t23 := Tryz.underlying22,
  a23 := Tryz.isAgg22,
  z23 := Tryz.sizeOf22,
  v23 := Tryz.zeroValue22,
  t25 := Tryz.underlying3,
  a25 := Tryz.isAgg3,
  z25 := Tryz.sizeOf3,
  v25 := Tryz.zeroValue3,
  t32 := Tryz.underlying106,
  a32 := Tryz.isAgg106,
  z32 := Tryz.sizeOf106,
  v32 := Tryz.zeroValue106,
  t35 := Tryz.underlying222,
  a35 := Tryz.isAgg222,
  z35 := Tryz.sizeOf222,
  v35 := Tryz.zeroValue222,
  t36 := Tryz.underlying223,
  a36 := Tryz.isAgg223,
  z36 := Tryz.sizeOf223,
  v36 := Tryz.zeroValue223,
  t41 := Tryz.underlying164,
  a41 := Tryz.isAgg164,
  z41 := Tryz.sizeOf164,
  v41 := Tryz.zeroValue164,
  t44 := Tryz.underlying211,
  a44 := Tryz.isAgg211,
  z44 := Tryz.sizeOf211,
  v44 := Tryz.zeroValue211,
  t46 := Tryz.underlying107,
  a46 := Tryz.isAgg107,
  z46 := Tryz.sizeOf107,
  v46 := Tryz.zeroValue107,
  t53 := Tryz.underlying231,
  a53 := Tryz.isAgg231,
  z53 := Tryz.sizeOf231,
  v53 := Tryz.zeroValue231,
  t57 := Tryz.underlying235,
  a57 := Tryz.isAgg235,
  z57 := Tryz.sizeOf235,
  v57 := Tryz.zeroValue235,
  t63 := Tryz.underlying237,
  a63 := Tryz.isAgg237,
  z63 := Tryz.sizeOf237,
  v63 := Tryz.zeroValue237,
  t64 := Tryz.underlying238,
  a64 := Tryz.isAgg238,
  z64 := Tryz.sizeOf238,
  v64 := Tryz.zeroValue238 }

theorem sortsL (m : Nat) : AnyZI.SortsIn Tryz.prog sortedL_ren Fence.wide m :=
  ⟨fun blk off cap ss W hH hblk hsz => callsIn_wide.2 (AnyM.slices_Sort_int sortL blk off cap ss W hH hblk hsz),
   fun p cap W => callsIn_wide.2 (AnyM.slices_Sort_int_none sortL p cap W)⟩

end Go.Proofs.YtglbepdjahddmaaGreat

namespace Go.Proofs.YtglbepdjahddmaaGreat
open Go.RowKit Go.Maps Go.Sort Go.Shelf

theorem MapIs.keys {w : World} {M : Nat} {ds : Defs} {D : DataW Unit} (hown : w.ownsMap Tryz.prog 3 (plainElem Tryz.prog 3) M ds.length D) (hat : ∀ id z, D.atKey (.int .i64 id) z = match ds.at id with | some t => .lit (.int .i64 t) | none => z) (hn : (ds.map (·.1)).Nodup) :
    (ds.map (·.1)).Perm (intKeys D) := by
  refine CollectedI.perm (left := fun _ => false) ⟨hn, fun x => ?_⟩ hown lawInt Tryz.underlying3 (fun _ => rfl)
  rw [MapIs.has hat x, at_some]
  simp

theorem mapsKeys (mb : Option Nat) (W : World) : Calls Tryz.prog 143 #[.map mb] W fun e w' => e = .returned (.func (.func 155) #[] #[.pointer (some ⟨W.heap.size, 0, none⟩)]) ∧ w' = W.alloc (.cells #[.map mb] 150) :=
  (callsIn_wide (n := 5)).1 (AnyZI.keys_in keysL Fence.wide 5 trivial rfl mb W)

theorem sortedKeys' {H : Type} (b nn : Nat) (D0 : DataW H) (R : Value → Option (DataW H × List MemPlace)) (w : World) (hown : w.ownsMap Tryz.prog 3 R b nn D0) (hmax : Maps.size D0 ≤ maxLen) (hbytes : Maps.size D0 * 8 ≤ 140737488355328) :
    Calls Tryz.prog 142 #[.func (.func 155) #[] #[.pointer (some ⟨w.heap.size, 0, none⟩)]] (w.alloc (.cells #[.map (some b)] 150)) fun e w' => ∃ (v : Value) (ss : List Int), e = .returned v ∧ ss.Perm (intKeys D0) ∧
      w'.ownsRow (w.alloc (.cells #[.map (some b)] 150)).heap.size 3 1 v ss.length ((ss.mergeSort (fun x y => decide (x ≤ y))).map encZ) ∧ (v = .slice none 0 0 ↔ ss = []) ∧ Below (w.alloc (.cells #[.map (some b)] 150)).heap.size (w.alloc (.cells #[.map (some b)] 150)) w' := by
  have hbl := hown.lt
  have hseq : SeqGives Fence.wide 2 Tryz.prog 155 #[.pointer (some ⟨w.heap.size, 0, none⟩)] encZ (fun ss => ss.Perm (intKeys D0)) (Maps.size D0) (w.alloc (.cells #[.map (some b)] 150)) :=
    AnyZI.keys_gives (ρ := keysL_ren) { keysL with } Fence.wide _ trivial rfl (by omega) w.heap.size b nn D0 _ (by simp) (by simp) (by
      obtain ⟨es, clock, hb, Ft, hs, hD⟩ := hown
      exact ⟨es, clock, (Below.heap_alloc _ _ b hbl).trans hb, Ft, hs, hD⟩)
  exact (callsIn_wide (n := 5)).1 (AnyZI.sorted_in sortedL Fence.wide 5 trivial trivial trivial trivial rfl (by omega) (sortsL _) (enters_of Tryz.func154 (by kernel_rfl) rfl) 155 #[.pointer (some ⟨w.heap.size, 0, none⟩)] trivial (enters_of Tryz.func155 (by kernel_rfl) rfl) _ _ hmax hbytes _ hseq)

theorem sortedKeys {H : Type} (b nn : Nat) (D0 : DataW H) (R : Value → Option (DataW H × List MemPlace)) (w : World) (n : Nat) (hn : n = w.heap.size) (hown : w.ownsMap Tryz.prog 3 R b nn D0) (hmax : Maps.size D0 ≤ maxLen) (hbytes : Maps.size D0 * 8 ≤ 140737488355328) :
    Calls Tryz.prog 142 #[.func (.func 155) #[] #[.pointer (some ⟨n, 0, none⟩)]] (w.alloc (.cells #[.map (some b)] 150)) fun e w' => ∃ (v : Value) (ss : List Int), e = .returned v ∧ ss.Perm (intKeys D0) ∧
      w'.ownsRow (n + 1) 3 1 v ss.length ((ss.mergeSort (fun x y => decide (x ≤ y))).map encZ) ∧ Below (n + 1) (w.alloc (.cells #[.map (some b)] 150)) w' := by
  subst hn
  refine (sortedKeys' b nn D0 R w hown hmax hbytes).mono ?_
  rintro e w' ⟨v, ss, rfl, hS, hrow, _, hb⟩
  exact ⟨v, ss, rfl, hS, by simpa using hrow, by simpa using hb⟩

def IdsPost (f : FuncM) (w : World) (e : Ending) (w' : World) : Prop :=
  ∃ v, e = .returned (.tuple #[v, .int .i64 (lookM f).1]) ∧ NewInts w.heap.size w' v (idsOut f) ∧ Below w.heap.size w w'

set_option maxHeartbeats 1000000 in
theorem ids_any (f : FuncM) (B : Nat) (pv bv : Value) (w : World) (hpv : Ints w B pv f.params) (hbv : BlocksR w B bv f.blocks) (hB : B ≤ w.heap.size) (hid : ∀ u ∈ usesM f, I64 u.1) :
    Calls Tryz.prog 118 #[.agg #[pv, .int .i64 f.arrays, .int .i64 f.cells, bv]] w (IdsPost f w) := by
  have HP := hideI hpv
  have HB := hideI hbv
  have HID := hideI hid
  obtain ⟨P, pc, rfl, _⟩ := hpv
  obtain ⟨A, c, rfl, _⟩ := hbv
  have hk : Keeps B w (w.alloc (.cells #[.slice P f.params.length pc, .int .i64 f.arrays, .int .i64 f.cells, .slice A f.blocks.length c] 25)) := (Keeps.refl w).alloc hB _
  have HL := hideI (lookAt_any f B _ _ _ (HP.out.keeps hk) (HB.out.keeps hk) (by simp; omega) HID.out)
  clear hid hk
  go_enter Tryz.func118, Tryz.ntmps118
  go_wp2_with fail
  refine HL.out.mono ?_
  rintro e w1 ⟨hb1, h | h⟩
  · obtain ⟨h0, M, hM, rfl, hm⟩ := h
    have HB1 := hideI (below_one (hb1.mono (by simp)))
    obtain ⟨D, hown, hD, hwd, hat⟩ := hm
    have hnd := formed_nodup (look_formed h0)
    have hpm := MapIs.keys hown hat hnd
    have hsl := hown.size_le
    have hl := look_len h0
    have HS := hideI (sortedKeys M _ D _ _ (w1.heap.size + 1) (by simp) (hown.alloc (.cells #[.slice P f.params.length pc, .int .i64 f.arrays, .int .i64 f.cells, .slice A f.blocks.length c, .map (some M)] 152)) (by unfold maxLen; omega) (by omega))
    have HPM := hideI hpm
    have HLEN := hideI hl
    have H0 := hideI h0
    clear hb1 h0 hat hwd hpm hsl hl hnd hown
    go_wp2_with (first
      | (go_at_call 143; refine (mapsKeys _ _).mono ?_; rintro e w2 ⟨rfl, rfl⟩)
      | (go_at_call 142; refine HS.out.mono ?_; rintro e w3 ⟨v, ss, rfl, hS, hrow, hb3⟩; have HR := hideI hrow; have HSS := hideI hS; have HB3 := hideI hb3; clear hS hrow hb3))
    go_ret2
    have e1 : idsOut f = ss.mergeSort fun x y => decide (x ≤ y) := by
      unfold idsOut idsS
      rw [if_pos H0.out]
      exact mergeSort_of_perm_i (HPM.out.trans HSS.out.symm)
    refine ⟨v, by rw [H0.out]; rfl, ?_, ?_⟩
    · rw [e1]
      have h1 := newInts_own HR.out (by rw [List.length_mergeSort, HSS.out.length_eq, ← HPM.out.length_eq, List.length_map]; have := HLEN.out; omega)
      obtain ⟨A2, c2, hv, hm2, hx2⟩ := h1
      exact ⟨A2, c2, hv, hm2, fun hp => by obtain ⟨g, cs, q1, q2, q3⟩ := hx2 hp; exact ⟨g, cs, q1, by have := HB1.out.size; omega, q3⟩⟩
    · exact ((HB1.out.alloc HB1.out.size _).alloc (by have := HB1.out.size; simp; omega) _).trans (HB3.out.mono (by have := HB1.out.size; simp; omega))
  · obtain ⟨h0, rfl⟩ := h
    have HB1 := hideI (below_one (hb1.mono (by simp)))
    have hb : ((lookM f).1 != 0) = true := by simpa using h0
    have H0 := hideI h0
    clear hb1 h0
    go_wp2
    go_ret2
    exact ⟨_, rfl, by unfold idsOut; rw [if_neg H0.out]; exact NewInts.nil _ _, HB1.out.alloc HB1.out.size _⟩

end Go.Proofs.YtglbepdjahddmaaGreat

namespace Go.Proofs.YtglbepdjahddmaaGreat
open Go.RowKit Go.Maps

/-- one more than the greatest value -/
def roomM (f : FuncM) : Int := match (idsOut f).getLast? with | some x => x + 1 | none => 0

set_option maxRecDepth 100000 in
set_option maxHeartbeats 1000000 in
theorem roomFor_any (f : FuncM) (B : Nat) (pv bv : Value) (w : World) (hpv : Ints w B pv f.params) (hbv : BlocksR w B bv f.blocks) (hB : B ≤ w.heap.size) (hid : ∀ u ∈ usesM f, I64 u.1) (hr : ∀ x ∈ idsOut f, 0 ≤ x ∧ x ≤ 1048575) :
    Calls Tryz.prog 74 #[.agg #[pv, .int .i64 f.arrays, .int .i64 f.cells, bv]] w fun e w' => e = .returned (.int .i64 (roomM f)) ∧ Below w.heap.size w w' := by
  have HP := hideI hpv
  have HB := hideI hbv
  obtain ⟨P, pc, rfl, _⟩ := hpv
  obtain ⟨A, c, rfl, _⟩ := hbv
  obtain ⟨W0, hW0⟩ : ∃ W0 : World, W0 = w.alloc (.cells #[.slice P f.params.length pc, .int .i64 f.arrays, .int .i64 f.cells, .slice A f.blocks.length c] 25) := ⟨_, rfl⟩
  have hb0 : Below w.heap.size w W0 := by rw [hW0]; exact (Below.refl _ w).alloc (Nat.le_refl _) _
  have hx0 : W0.heap[w.heap.size]? = some (.cells #[.slice P f.params.length pc, .int .i64 f.arrays, .int .i64 f.cells, .slice A f.blocks.length c] 25 (0, 0)) := by rw [hW0]; exact heap_alloc_new w _
  have hk : Keeps B w W0 := Keeps.of_below (hb0.mono hB)
  have HC := hideI (ids_any f B _ _ W0 (HP.out.keeps hk) (HB.out.keeps hk) (Nat.le_trans hB hb0.size) hid)
  have HB0 := hideI hb0
  have HW0 := hideI hW0
  have q := row_cells hx0 rfl
  have q0 := q 0
  have q1 := q 1
  have q2 := q 2
  have q3 := q 3
  have HR := hideI hr
  clear q hb0 hx0 hk hW0 hid hr
  obtain ⟨ids, hids⟩ : ∃ ids, ids = idsOut f := ⟨_, rfl⟩
  have HIDS := hideI hids
  unfold IdsPost at HC
  rw [← hids] at HC HR
  clear hids
  go_enter Tryz.func74, Tryz.ntmps74
  go_upto_region 1 with fail
  rw [← HW0.out]
  cases hl : ids.getLast? with
  | none =>
    obtain rfl : ids = [] := by simpa using hl
    have HE : Hid (roomM f = 0) := hideI (by unfold roomM; rw [← HIDS.out]; rfl)
    clear hl
    go_wp2_with (first | (go_at_call 118; refine HC.out.mono ?_; rintro e w1 ⟨v, rfl, ⟨A1, c1, hv, _, _⟩, hb⟩; obtain rfl : v = .slice A1 0 c1 := hv; have HB1 := hideI hb; clear hb))
    go_ret
    exact ⟨by rw [HE.out]; rfl, HB0.out.trans (HB1.out.mono HB0.out.size)⟩
  | some x =>
    obtain ⟨r, hr⟩ : ∃ r, ids = r ++ [x] := by
      cases hl2 : ids.reverse with
      | nil => have : ids = [] := by simpa using hl2
               subst this; cases hl
      | cons a r =>
        have hle : ids = r.reverse ++ [a] := by rw [← List.reverse_reverse ids, hl2, List.reverse_cons]
        rw [hle, List.getLast?_append] at hl
        simp at hl
        subst hl
        exact ⟨_, hle⟩
    have hxr := HR.out x (by rw [hr]; simp)
    have HE : Hid (roomM f = x + 1) := hideI (by unfold roomM; rw [← HIDS.out, hl])
    have hlen : ids.length = r.length + 1 := by rw [hr]; simp
    have HLAST : Hid (ids[r.length]?.getD 0 = x) := hideI (by rw [hr]; simp)
    obtain ⟨n, hn⟩ : ∃ n, n = r.length := ⟨_, rfl⟩
    rw [← hn] at hlen HLAST
    have HLEN := hideI hlen
    have hw : IntKind.i64.wrap (x + 1) = x + 1 := IntWalk.i64_in _ (by omega)
    have hw2 : wrap64 (x + 1) = x + 1 := by unfold wrap64; omega
    clear hl hr hn hlen
    go_wp2_with (first | (go_at_call 118; refine HC.out.mono ?_; rintro e w1 ⟨v, rfl, ⟨A1, c1, hv, hle, hnew⟩, hb⟩; obtain ⟨g1, cs1, rfl, _, hg1, hc1⟩ := hnew (by rw [HLEN.out]; omega); rw [HLEN.out] at hv hle; obtain rfl : v = .slice (some ⟨g1, 0, none⟩) (n + 1) c1 := hv; have HB1 := hideI hb; have y0 : w1.cell? ⟨g1, n, none⟩ = some (.int .i64 x) := (cell_of_row w1 g1 n cs1 _ (0, 0) hg1).trans ((hc1 n (by rw [HLEN.out]; omega)).trans (by rw [HLAST.out])); clear hb hnew hg1 hc1))
    go_ret
    exact ⟨by rw [HE.out]; rfl, HB0.out.trans (HB1.out.mono HB0.out.size)⟩
end Go.Proofs.YtglbepdjahddmaaGreat

namespace Go.Proofs.YtglbepdjahddmaaGreat
open Go.RowKit Go.Maps

def argOf (ps xs : List Int) (i : Nat) : Int := if ps.getD i 0 = 2 ∧ xs.getD i 0 ≠ 0 then 1 else xs.getD i 0
def argVals (g : Int → Int) (ps xs : List Int) (n : Nat) : Int → Int := fun x => if 0 ≤ x ∧ x < n then argOf ps xs x.toNat else g x

theorem argVals_zero (g : Int → Int) (ps xs : List Int) : argVals g ps xs 0 = g := by
  funext x
  unfold argVals
  rw [if_neg (by omega)]

theorem argVals_next (g : Int → Int) (ps xs : List Int) (i : Nat) : setV (argVals g ps xs i) i (argOf ps xs i) = argVals g ps xs (i + 1) := by
  funext x
  unfold setV argVals
  by_cases h : x = i
  · subst h
    rw [if_pos rfl, if_pos (by omega), Int.toNat_natCast]
  · rw [if_neg h]
    by_cases h2 : 0 ≤ x ∧ x < i
    · rw [if_pos h2, if_pos (by omega)]
    · rw [if_neg h2, if_neg (by omega)]

theorem setV_twice (g : Int → Int) (i a b : Int) : setV (setV g i a) i b = setV g i b := by
  funext x
  unfold setV
  by_cases h : x = i
  · rw [if_pos h, if_pos h]
  · rw [if_neg h, if_neg h, if_neg h]

section
variable {c : MachC} {K : Nat → Prop} {w w' : World} {val : MVals} {s : StM}

theorem ints_at {B : Nat} {v : Value} {xs : List Int} (h : Ints w B v xs) : ∃ A cp, v = .slice A xs.length cp ∧ xs.length ≤ 140737488351232 ∧ ∀ i, i < xs.length → ∃ b off, A = some ⟨b, off, none⟩ ∧ b < B ∧ w.cell? ⟨b, off + i, none⟩ = some (.int .i64 (xs.getD i 0)) := by
  obtain ⟨A, cp, rfl, hl, hat⟩ := h
  refine ⟨A, cp, rfl, hl, fun i hi => ?_⟩
  obtain ⟨b, off, e, hb, hc⟩ := hat i hi
  exact ⟨b, off, e, hb, by rw [hc, List.getD_eq_getElem?_getD]⟩

set_option maxRecDepth 100000 in
set_option maxHeartbeats 4000000 in
theorem takeArgs_any (h : MachR c K w val s) (ps xs : List Int) (B : Nat) (pv av : Value) (hp : Ints w B pv ps) (ha : Ints w B av xs) (hK : ∀ b, b < B → K b) (hl : ps.length ≤ c.nv) (hl2 : ps.length ≤ 16) :
    Calls Tryz.prog 75 #[.pointer (some ⟨c.m, 0, none⟩), pv, av] w fun e w' => e = .returned (.tuple #[]) ∧ MachR c K w' val { s with val := argVals s.val ps xs (min ps.length xs.length) } ∧ KF K w w' := by
  have H := hideI h
  obtain ⟨P, pc, rfl, _, hpat⟩ := ints_at hp
  obtain ⟨A, ac, rfl, hal, hat⟩ := ints_at ha
  obtain ⟨np, hnp⟩ : ∃ np, np = ps.length := ⟨_, rfl⟩
  obtain ⟨na, hna⟩ : ∃ na, na = xs.length := ⟨_, rfl⟩
  have HPAT : Hid (∀ i, i < np → ∃ b off, P = some ⟨b, off, none⟩ ∧ b < B ∧ w.cell? ⟨b, off + i, none⟩ = some (.int .i64 (ps.getD i 0))) := by rw [hnp]; exact hideI hpat
  have HAT : Hid (∀ i, i < na → ∃ b off, A = some ⟨b, off, none⟩ ∧ b < B ∧ w.cell? ⟨b, off + i, none⟩ = some (.int .i64 (xs.getD i 0))) := by rw [hna]; exact hideI hat
  have HK := hideI hK
  have HL : Hid (np ≤ c.nv) := by rw [hnp]; exact hideI hl
  rw [← hnp, ← hna]
  rw [← hnp] at hl2
  rw [← hna] at hal
  obtain ⟨n, hn⟩ : ∃ n : Nat, n = min np na := ⟨_, rfl⟩
  have hnp2 : n ≤ np := by omega
  have hna2 : n ≤ na := by omega
  have hmin : min (np : Int) (na : Int) = (n : Int) := by omega
  have HN := hideI hn
  rw [← hn]
  clear h hp ha hpat hat hK hl hnp hna hn
  go_enter Tryz.func75, Tryz.ntmps75
  go_wp2
  try (case' inl => (obtain rfl : n = na := by have := HN.out; omega))
  try (case' inr => (obtain rfl : n = np := by have := HN.out; omega))
  all_goals
    try clear h
    try clear hmin
    go_loopw [12] (fun u wr => ∃ i : Nat, i ≤ n ∧ u = .int .i64 i ∧ Hid (MachR c K wr val { s with val := argVals s.val ps xs i }) ∧ Hid (KF K w wr)) (fun u _ => n - (intOf u).toNat)
    case atStart => exact ⟨0, Nat.zero_le _, rfl, hideI (by rw [argVals_zero]; exact H.out), hideI (KF.refl _)⟩
    case round =>
      obtain ⟨i, hi, rfl, HMr, HFr⟩ := hrel
      by_cases hlt : i < n
      · obtain ⟨pb, poff, rfl, hpb, p0⟩ := HPAT.out i (by omega)
        obtain ⟨ab, aoff, rfl, hab, a0⟩ := HAT.out i (by omega)
        have kp : ∀ b o, b < B → wr.cell? ⟨b, o, none⟩ = w.cell? ⟨b, o, none⟩ := fun b o hb => World.cell?_of_block (a := ⟨b, o, none⟩) (HFr.out.block b (HK.out b hb))
        rw [← kp _ _ hpb] at p0
        rw [← kp _ _ hab] at a0
        obtain ⟨gv, cv, j, hj, hjn, hvv, hvc, hvf, hgm, hgv⟩ := HMr.out.valAt (a := (i : Int)) (by omega) (by have := HL.out; omega)
        obtain rfl : i = j := by omega
        have c11 := HMr.out.cells 11
        simp only [machCells] at c11
        rw [hvv] at c11
        have HV := hideI hvv
        have z1 : ¬ c.m = gv := fun e => hgm e.symm
        have z2 : ¬ gv = ab := fun e => (HMr.out.off .vals _ gv rfl (by rw [HV.out]; rfl)).2 (by rw [e]; exact HK.out ab hab)
        have z2' : ¬ ab = gv := fun e => z2 e.symm
        have z3 : ¬ gv = pb := fun e => (HMr.out.off .vals _ gv rfl (by rw [HV.out]; rfl)).2 (by rw [e]; exact HK.out pb hpb)
        have z3' : ¬ pb = gv := fun e => z3 e.symm
        obtain ⟨x, hx⟩ : ∃ x, x = xs.getD i 0 := ⟨_, rfl⟩
        obtain ⟨y, hy⟩ : ∃ y, y = ps.getD i 0 := ⟨_, rfl⟩
        have hip := Nat.lt_of_lt_of_le hlt hnp2
        have hia := Nat.lt_of_lt_of_le hlt hna2
        rw [← hx] at a0
        rw [← hy] at p0
        have HX := hideI hx
        have HY := hideI hy
        have HS1 := hideI (HMr.out.setVal hvv (j := i) x)
        have hpl := World.block_lt_of_cell? wr _ p0
        have hal2 := World.block_lt_of_cell? wr _ a0
        have hml := HMr.out.m_lt
        clear kp hj hvv hx hy hpb hab
        by_cases hc : y = 2 ∧ x ≠ 0
        · have HE : Hid (argOf ps xs i = 1) := hideI (by unfold argOf; rw [← HX.out, ← HY.out, if_pos hc])
          have y2 : (y == 2) = true := by simpa using hc.1
          have x0 : (x != 0) = true := by simpa using hc.2
          have HS2 := hideI (HS1.out.1.setVal HV.out (j := i) 1)
          clear hc
          go_wp2
          go_region_held3 (fun w' => w'.cell? ⟨c.m, 11, none⟩ = some (.slice (some ⟨gv, 0, none⟩) c.nv cv) ∧ w'.cell? ⟨ab, aoff + i, none⟩ = some (.int .i64 x)) (first | go_keep) (first | fail)
          go_wp2
          go_roundw
          case rel =>
            refine ⟨i + 1, by omega, by go_num, hideI ?_, hideI (HFr.out.trans ((HS1.out.2.trans HS2.out.2).drewN 1))⟩
            have h6 := HS2.out.1.drewN 1
            rw [← argVals_next, HE.out, ← setV_twice (argVals s.val ps xs i) i x 1]
            exact h6
          case measure => simp [intOf]; omega
        · have HE : Hid (argOf ps xs i = x) := hideI (by unfold argOf; rw [← HX.out, ← HY.out, if_neg hc])
          have HREL : Hid (∀ W : World, W = (wr.setCell ⟨gv, i, none⟩ (.int .i64 x)).drewN 1 → MachR c K W val { s with val := argVals s.val ps xs (i + 1) } ∧ KF K w W) := hideI fun W hW => by
            subst hW
            refine ⟨?_, HFr.out.trans (HS1.out.2.drewN 1)⟩
            have h6 := HS1.out.1.drewN 1
            rw [← argVals_next, HE.out]
            exact h6
          by_cases hy2 : y = 2
          · have y2 : (y == 2) = true := by simpa using hy2
            have x0 : (x != 0) = false := by simpa using fun e => hc ⟨hy2, e⟩
            clear hc hy2
            go_wp2
            go_region_held3 (fun w' => w'.cell? ⟨c.m, 11, none⟩ = some (.slice (some ⟨gv, 0, none⟩) c.nv cv) ∧ w'.cell? ⟨ab, aoff + i, none⟩ = some (.int .i64 x)) (first | go_keep) (first | fail)
            go_wp2
            go_roundw
            case rel => exact ⟨i + 1, by omega, by go_num, hideI (HREL.out _ rfl).1, hideI (HREL.out _ rfl).2⟩
            case measure => simp [intOf]; omega
          · have y2 : (y == 2) = false := by simpa using hy2
            clear hc hy2
            go_wp2
            go_region_held3 (fun w' => w'.cell? ⟨c.m, 11, none⟩ = some (.slice (some ⟨gv, 0, none⟩) c.nv cv) ∧ w'.cell? ⟨ab, aoff + i, none⟩ = some (.int .i64 x)) (first | go_keep) (first | fail)
            go_wp2
            go_roundw
            case rel => exact ⟨i + 1, by omega, by go_num, hideI (HREL.out _ rfl).1, hideI (HREL.out _ rfl).2⟩
            case measure => simp [intOf]; omega
      · obtain rfl : i = n := by omega
        go_wp2
        go_end0
        exact ⟨rfl, HMr.out, HFr.out⟩
end
end Go.Proofs.YtglbepdjahddmaaGreat

namespace Go.Proofs.YtglbepdjahddmaaGreat
open Go.RowKit Go.Maps

/-- between two makings -/
structure MN (W1 W : World) (nv nc : Nat) (M V C : Option Nat) : Prop where
  below : Below W1.heap.size W1 W
  m : ∀ g, M = some g → W1.heap.size ≤ g ∧ g < W.heap.size ∧ OpsAt W g
  v : ∀ g, V = some g → W1.heap.size ≤ g ∧ g < W.heap.size ∧ W.ownsRow 0 3 1 (.slice (some ⟨g, 0, none⟩) nv nv) nv (List.replicate nv (.int .i64 0))
  c : ∀ g, C = some g → W1.heap.size ≤ g ∧ g < W.heap.size ∧ W.ownsRow 0 3 1 (.slice (some ⟨g, 0, none⟩) nc nc) nc (List.replicate nc (.int .i64 0))
  mv : ∀ g h, M = some g → V = some h → g ≠ h
  mc : ∀ g h, M = some g → C = some h → g ≠ h
  vc : ∀ g h, V = some g → C = some h → g ≠ h

section
variable {W1 W W' : World} {nv nc : Nat} {M V C : Option Nat}

theorem MN.start (W1 : World) (n : Nat) : MN W1 (W1.drewN n) nv nc none none none :=
  ⟨below_drewN (Below.refl _ _) n, (fun _ h => by cases h), (fun _ h => by cases h), (fun _ h => by cases h), (fun _ _ h => by cases h), (fun _ _ h => by cases h), (fun _ _ h => by cases h)⟩

theorem MN.grow (h : MN W1 W nv nc M V C) (hb : Below W.heap.size W W') : MN W1 W' nv nc M V C :=
  ⟨h.below.trans (hb.mono h.below.size), fun g e => ⟨(h.m g e).1, Nat.lt_of_lt_of_le (h.m g e).2.1 hb.size, (h.m g e).2.2.below hb (h.m g e).2.1⟩,
    fun g e => ⟨(h.v g e).1, Nat.lt_of_lt_of_le (h.v g e).2.1 hb.size, owns_kept (h.v g e).2.2 fun k hk => hb.block k (by injection hk with hk; rw [← hk]; exact (h.v g e).2.1)⟩,
    fun g e => ⟨(h.c g e).1, Nat.lt_of_lt_of_le (h.c g e).2.1 hb.size, owns_kept (h.c g e).2.2 fun k hk => hb.block k (by injection hk with hk; rw [← hk]; exact (h.c g e).2.1)⟩, h.mv, h.mc, h.vc⟩

theorem MN.ops (h : MN W1 W nv nc none V C) (hb : Below W.heap.size W W') (ho : OpsAt W' W.heap.size) : MN W1 W' nv nc (some W.heap.size) V C := by
  have h1 := h.grow hb
  exact ⟨h1.below, (fun g e => by cases e; exact ⟨h.below.size, ho.lt, ho⟩), h1.v, h1.c, (fun g k e e2 => by cases e; have := (h.v k e2).2.1; omega), (fun g k e e2 => by cases e; have := (h.c k e2).2.1; omega), h1.vc⟩

theorem made_own (W : World) (n : Nat) (hn : n ≤ 2000000) {R : Array Value} (e : R.toList = List.replicate n (.int .i64 0)) : (W.alloc (.cells R 3)).ownsRow 0 3 1 (.slice (some ⟨W.heap.size, 0, none⟩) n n) n (List.replicate n (.int .i64 0)) := by
  have hs : R.size = n := by rw [← Array.length_toList, e]; simp
  exact ⟨by simp, .inr ⟨W.heap.size, n, _, rfl, Nat.zero_le _, heap_alloc_new W _, Nat.le_refl _, by unfold maxLen; omega, by rw [hs]; simp, by rw [e]; simp⟩⟩

theorem MN.vals (h : MN W1 W nv nc M none C) (hn : nv ≤ 2000000) {R : Array Value} (e0 : R.toList = List.replicate nv (.int .i64 0)) : MN W1 (W.alloc (.cells R 3)) nv nc M (some W.heap.size) C := by
  have h1 := h.grow ((Below.refl W.heap.size W).alloc (Nat.le_refl _) (.cells R 3))
  exact ⟨h1.below, h1.m, (fun g e => by cases e; exact ⟨h.below.size, by simp, made_own W nv hn e0⟩), h1.c, (fun g k e e2 => by cases e2; have := (h.m g e).2.1; omega), h1.mc, (fun g k e e2 => by cases e; have := (h.c k e2).2.1; omega)⟩

theorem MN.cells (h : MN W1 W nv nc M V none) (hn : nc ≤ 2000000) {R : Array Value} (e0 : R.toList = List.replicate nc (.int .i64 0)) : MN W1 (W.alloc (.cells R 3)) nv nc M V (some W.heap.size) := by
  have h1 := h.grow ((Below.refl W.heap.size W).alloc (Nat.le_refl _) (.cells R 3))
  exact ⟨h1.below, h1.m, h1.v, (fun g e => by cases e; exact ⟨h.below.size, by simp, made_own W nc hn e0⟩), h1.mv, (fun g k e e2 => by cases e2; have := (h.m g e).2.1; omega), (fun g k e e2 => by cases e2; have := (h.v g e).2.1; omega)⟩
end

/-- a machine, before the rest is made -/
def firstS (nc : Nat) : StM where
  val := fun _ => 0
  cells := List.replicate nc 0
  arrs := []
  out := []
  steps := 0
  checks := 0
  vis := []

/-- the machine is made -/
theorem MN.machine {W1 W : World} {nv nc M V C B : Nat} {f : FuncM} {bv : Value} {F : Int} (h : MN W1 W nv nc (some M) (some V) (some C)) (hbv : BlocksR W1 B bv f.blocks) (hB : B ≤ W1.heap.size) :
    ∃ val : MVals, val .vis = .slice none 0 0 ∧ val .arrs = .slice none 0 0 ∧ MachR ⟨f, B, W.heap.size, M, nv, bv, F⟩ (fun b => b < W1.heap.size ∨ b = M) (W.alloc (.cells #[.int .i64 0, .int .i64 0, .int .i64 0, .slice none 0 0, .slice none 0 0, .int .i64 0, .int .i64 0, .slice none 0 0, .map (some M), bv, .int .i64 F, .slice (some ⟨V, 0, none⟩) nv nv, .slice (some ⟨C, 0, none⟩) nc nc] 97)) val (firstS nc) := by
  have hb := (Below.refl W.heap.size W).alloc (Nat.le_refl _) (.cells #[.int .i64 0, .int .i64 0, .int .i64 0, .slice none 0 0, .slice none 0 0, .int .i64 0, .int .i64 0, .slice none 0 0, .map (some M), bv, .int .i64 F, .slice (some ⟨V, 0, none⟩) nv nv, .slice (some ⟨C, 0, none⟩) nc nc] 97)
  have h1 := h.grow hb
  have hm := h1.m M rfl
  have hv := h1.v V rfl
  have hc := h1.c C rfl
  have hvl := (h.v V rfl).2.1
  have hcl := (h.c C rfl).2.1
  have hml := (h.m M rfl).2.1
  have hvc := h.vc V C rfl rfl
  have hmv := h.mv M V rfl rfl
  have hmc := h.mc M C rfl rfl
  refine ⟨fun t => match t with | .vals => .slice (some ⟨V, 0, none⟩) nv nv | .cells => .slice (some ⟨C, 0, none⟩) nc nc | _ => .slice none 0 0, rfl, rfl, ?_⟩
  have own : ∀ t g, (match t with | MTag.vals => Value.slice (some ⟨V, 0, none⟩) nv nv | .cells => .slice (some ⟨C, 0, none⟩) nc nc | _ => .slice none 0 0).ownBlock = some g → (t = .vals ∧ g = V) ∨ (t = .cells ∧ g = C) := fun t g e => by
    cases t with
    | vals => injection e with e; exact .inl ⟨rfl, e.symm⟩
    | cells => injection e with e; exact .inr ⟨rfl, e.symm⟩
    | _ => cases e
  refine ⟨heap_alloc_new W _, fun t d ht => ?_, fun t t' d d' g _ _ e1 e2 => ?_, fun t d g _ e => ?_, ?_, fun b hb2 => ?_, fun b hb2 => .inl (Nat.lt_of_lt_of_le hb2 hB), .inr rfl, hm.2.2, hbv.keeps (Keeps.of_below (h1.below.mono hB))⟩
  · cases t with
    | vals =>
      injection ht with ht
      subst ht
      have e : (intRow ((List.range nv).map fun (i : Nat) => (firstS nc).val i)) = ⟨3, nv, List.replicate nv (.int .i64 0)⟩ := by
        unfold intRow firstS
        congr 1
        · simp
        · rw [List.map_map]
          apply List.ext_getElem?
          intro k
          by_cases hk : k < nv <;> simp [hk]
      rw [e]
      exact hv.2.2
    | cells =>
      injection ht with ht
      subst ht
      have e : intRow (firstS nc).cells = ⟨3, nc, List.replicate nc (.int .i64 0)⟩ := by
        unfold intRow firstS
        simp
      rw [e]
      exact hc.2.2
    | vis => injection ht with ht; subst ht; exact World.ownsRow_nil _ _ _ _
    | out => injection ht with ht; subst ht; exact World.ownsRow_nil _ _ _ _
    | arrs => injection ht with ht; subst ht; exact World.ownsRow_nil _ _ _ _
    | arr i => cases ht
  · rcases own t g e1 with ⟨rfl, rfl⟩ | ⟨rfl, rfl⟩ <;> rcases own t' _ e2 with ⟨rfl, e3⟩ | ⟨rfl, e3⟩ <;> first | rfl | omega
  · have hge : g = V ∨ g = C := by rcases own t g e with ⟨_, e⟩ | ⟨_, e⟩ <;> simp [e]
    have h3 := (h.v V rfl).1
    have h4 := (h.c C rfl).1
    refine ⟨by show g ≠ W.heap.size; omega, ?_⟩
    rintro (h5 | h5) <;> omega
  · show ¬ (W.heap.size < W1.heap.size ∨ W.heap.size = M)
    have := h.below.size
    omega
  · have := h.below.size
    rcases hb2 with h5 | h5
    · simp; omega
    · simp; omega
end Go.Proofs.YtglbepdjahddmaaGreat
