/- What InterpSpareUpto rests on, part 6: INext, IRunM, Shelf, Ids, IRoom, ITake, IMake, IMachOf. -/
import Derived.Test.YtncmnbchkabgaaaGreatPkInterpSpareUpto5
import Derived.Shelf.SlIterI.Nil
import Derived.Shelf.SortM.Plain
import Derived.Shelf.SortM.SortNone

namespace Go.Proofs.YtncmnbchkabgaaaGreat
open Go.RowKit Go.Maps

section
variable {c : MachC} {K : Nat → Prop} {w w' : World} {val : MVals} {s : StM}

/-- an end that may stand -/
structure TermOk (nv : Nat) (t : TermM) : Prop where
  op : t.op = 1 ∧ t.to.length = 1 ∨ t.op = 2 ∧ t.to.length = 2 ∨ t.op = 3 ∧ t.to.length = 0 ∨ t.op = 4 ∧ t.to.length = 0
  val : t.op = 2 ∨ t.op = 3 → 0 ≤ t.val ∧ t.val < nv

def termV (t : TermM) (tv : Value) : Value := .agg #[.int .i64 t.op, .int .i64 t.val, tv, .int .i64 t.n]

/-- how a block's end ends -/
def nextR (t : TermM) (s : StM) : Int ⊕ EndM := if t.op = 3 then .inr (1, s.val t.val, 0) else if t.op = 4 then .inr (2, 0, t.n) else .inl (nextM t s)

def NextPost (c : MachC) (K : Nat → Prop) (w : World) (val : MVals) (s : StM) (t : TermM) (e : Ending) (w' : World) : Prop :=
  e = (match nextR t s with | .inl v => .returned (.int .i64 v) | .inr en => endE en) ∧ MachR c K w' val s ∧ KF K w w'

set_option maxRecDepth 100000 in
set_option maxHeartbeats 4000000 in
theorem next_any (h : MachR c K w val s) (t : TermM) (tv : Value) (ht : TermOk c.nv t) (htv : Ints w c.B tv t.to) :
    Calls Tryz.prog 60 #[.pointer (some ⟨c.m, 0, none⟩), termV t tv] w (NextPost c K w val s t) := by
  obtain ⟨W0, hW0⟩ : ∃ W0, W0 = w.alloc (.cells #[.int .i64 t.op, .int .i64 t.val, tv, .int .i64 t.n] 51) := ⟨_, rfl⟩
  have hm : MachR c (fun b => K b ∨ b = w.heap.size) W0 val s := by rw [hW0]; exact h.add _
  have hk1 : KF K w W0 := by rw [hW0]; exact (KF.refl _).alloc h.low _
  have hbox : W0.heap[w.heap.size]? = some (.cells #[.int .i64 t.op, .int .i64 t.val, tv, .int .i64 t.n] 51 (0, 0)) := by rw [hW0]; exact heap_alloc_new w _
  have hints := htv.keeps (hk1.keeps h.kB)
  obtain ⟨P, pc, htv1, _, hat⟩ := hints
  subst htv1
  have H := hideI h
  have HM := hideI hm
  have HDONE : Hid (∀ n, MachR c K (W0.drewN n) val s ∧ KF K w (W0.drewN n)) := hideI fun n => ⟨(hm.less (fun b hb => .inl hb) (fun b hb => h.kB b hb) h.kM).drewN n, hk1.drewN n⟩
  have HW0 := hideI hW0
  have hlm := hm.m_lt
  have q := row_cells hbox rfl
  have q0 := q 0
  have q1 := q 1
  have q2 := q 2
  have q3 := q 3
  have HT := hideI ht
  simp only [termV]
  clear q hm hk1 hbox hW0 h htv
  rcases ht.op with ⟨ho, hl⟩ | ⟨ho, hl⟩ | ⟨ho, hl⟩ | ⟨ho, hl⟩
  · have HR : Hid (nextR t s = .inl (t.to.getD 0 0)) := hideI (by unfold nextR nextM; rw [if_neg (by omega), if_neg (by omega), if_neg (by omega)])
    obtain ⟨b, off, rfl, hb, d0⟩ := hat 0 (by omega)
    rw [show t.to[0]?.getD 0 = t.to.getD 0 0 from (List.getD_eq_getElem?_getD ..).symm, Nat.add_zero] at d0
    rw [ho, hl] at HW0
    rw [ho] at q0
    rw [hl] at q2
    rw [ho, hl]
    clear hat ht ho hl
    generalize t.to.getD 0 0 = y at d0 HR
    go_enter Tryz.func60, Tryz.ntmps60
    go_upto_region 1 with fail
    rw [← HW0.out]
    go_wp2
    go_ret
    exact ⟨by rw [HR.out]; rfl, HDONE.out 0⟩
  · have hv := ht.val (.inl ho)
    obtain ⟨b, off, rfl, hb, d0⟩ := hat 0 (by omega)
    obtain ⟨_, _, e, _, d1⟩ := hat 1 (by omega)
    cases e
    rw [show t.to[0]?.getD 0 = t.to.getD 0 0 from (List.getD_eq_getElem?_getD ..).symm, Nat.add_zero] at d0
    rw [show t.to[1]?.getD 0 = t.to.getD 1 0 from (List.getD_eq_getElem?_getD ..).symm] at d1
    obtain ⟨gv, cv, j, hj, hjn, hvv, hvc, _, hgm, hgv⟩ := HM.out.valAt hv.1 hv.2
    have c11 := HM.out.cells 11
    simp only [machCells] at c11
    rw [hvv] at c11
    rw [ho, hl, hj] at HW0
    rw [ho] at q0
    rw [hj] at q1
    rw [hl] at q2
    by_cases h0 : s.val t.val = 0
    · have HR : Hid (nextR t s = .inl (t.to.getD 1 0)) := hideI (by unfold nextR nextM; rw [if_neg (by omega), if_neg (by omega), if_pos ⟨ho, h0⟩])
      rw [h0] at hvc
      rw [ho, hl, hj]
      clear hat ht ho hl hv hj hvv h0
      generalize t.to.getD 1 0 = y1 at d1 HR
      generalize t.to.getD 0 0 = y0 at d0
      go_enter Tryz.func60, Tryz.ntmps60
      go_upto_region 1 with fail
      rw [← HW0.out]
      go_wp2
      go_quiet (fail)
      go_wp2
      go_ret
      exact ⟨by rw [HR.out]; rfl, HDONE.out nq⟩
    · have HR : Hid (nextR t s = .inl (t.to.getD 0 0)) := hideI (by unfold nextR nextM; rw [if_neg (by omega), if_neg (by omega), if_neg (fun e => h0 e.2)])
      have h1 : (s.val t.val == 0) = false := by simpa using h0
      rw [ho, hl]
      generalize s.val t.val = sv at hvc h1
      rw [hj]
      clear hat ht ho hl hv hj hvv h0
      generalize t.to.getD 1 0 = y1 at d1
      generalize t.to.getD 0 0 = y0 at d0 HR
      go_enter Tryz.func60, Tryz.ntmps60
      go_upto_region 1 with fail
      rw [← HW0.out]
      go_wp2
      go_quiet (fail)
      go_wp2
      go_ret
      exact ⟨by rw [HR.out]; rfl, HDONE.out nq⟩
  · have hv := ht.val (.inr ho)
    have HR : Hid (nextR t s = .inr (1, s.val t.val, 0)) := hideI (by unfold nextR; rw [if_pos ho])
    obtain ⟨gv, cv, j, hj, hjn, hvv, hvc, _, hgm, hgv⟩ := HM.out.valAt hv.1 hv.2
    have c11 := HM.out.cells 11
    simp only [machCells] at c11
    rw [hvv] at c11
    rw [ho, hj] at HW0
    rw [ho] at q0
    rw [hj] at q1
    rw [ho]
    generalize s.val t.val = sv at hvc HR
    rw [hj]
    clear hat ht ho hl hv hj hvv
    go_enter Tryz.func60, Tryz.ntmps60
    go_upto_region 1 with fail
    rw [← HW0.out]
    go_wp2
    refine wp_region_panics 10 (by kernel_rfl) rfl (by kernel_rfl) (by kernel_rfl) (fun c a w d v h => by cases d <;> exact h) ?_
    simp only [List.take_succ_cons, List.take_zero, List.getElem_toArray, List.getElem_cons_succ, List.getElem_cons_zero]
    repeat (refine wpPure_step (fun K hK => ?_); go_simp; refine hK _ ?_; clear hK K)
    refine wpPure_nil ?_
    rintro w' ⟨n, rfl⟩ K'
    go_simp
    exact ⟨rfl, by rw [HR.out]; rfl, HDONE.out n⟩
  · have HR : Hid (nextR t s = .inr (2, 0, t.n)) := hideI (by unfold nextR; rw [if_neg (by omega), if_pos ho])
    rw [ho] at q0 HW0 ⊢
    clear hat ht ho hl
    go_enter Tryz.func60, Tryz.ntmps60
    go_upto_region 1 with fail
    rw [← HW0.out]
    go_wp2_with (first | (go_at_call 111; refine (trap_any _ _ _).mono ?_; rintro e w1 ⟨he, rfl⟩; simp only [endE, endV] at he; subst he))
    exact ⟨rfl, by rw [HR.out]; rfl, HDONE.out 0⟩
end
end Go.Proofs.YtncmnbchkabgaaaGreat

namespace Go.Proofs.YtncmnbchkabgaaaGreat
open Go.RowKit Go.Maps

structure CodeOk (na nc nv : Nat) (x : InstrM) : Prop where
  args : ∀ i ∈ x.args, 0 ≤ i ∧ i < nv
  len : x.args.length = (takesS x.op).length
  isop : isOp x.op = true
  arr : kindS x.op = 3 → 0 ≤ x.n ∧ x.n < na
  cell : kindS x.op = 4 → 0 ≤ x.n ∧ x.n < nc
  id : makesS x.op ≠ 0 → 0 ≤ x.id ∧ x.id < nv
  few : x.args.length ≤ 3

/-- a function that may be run -/
structure FOk (f : FuncM) (nv : Nat) : Prop where
  code : ∀ (b : Nat) (q : BlockM), f.blocks[b]? = some q → ∀ x ∈ q.code, CodeOk f.arrays.toNat f.cells.toNat nv x
  term : ∀ (b : Nat) (q : BlockM), f.blocks[b]? = some q → TermOk nv q.term
  goes : ∀ (b : Nat) (q : BlockM), f.blocks[b]? = some q → ∀ t ∈ q.term.to, ∃ (t' : Nat), t = t' ∧ t' < f.blocks.length ∧ ∀ q', f.blocks[t']? = some q' → ∀ p ∈ q'.phis, PhiOk nv b p
  phis : ∀ (b : Nat) (q : BlockM), f.blocks[b]? = some q → q.phis.length ≤ 4096
  codes : ∀ (b : Nat) (q : BlockM), f.blocks[b]? = some q → q.code.length ≤ 4096
  first : 0 < f.blocks.length ∧ ∀ q, f.blocks[0]? = some q → q.phis = []

/-- what a run keeps -/
structure Fit (f : FuncM) (s : StM) : Prop where
  arrs : s.arrs.length = f.arrays.toNat
  cells : s.cells.length = f.cells.toNat
  vis : s.vis.length = f.blocks.length
  out : s.out.length ≤ 4096

section
variable {f : FuncM} {s : StM} {nv : Nat}
theorem Fit.tick (h : Fit f s) : Fit f (tickM s) := ⟨h.arrs, h.cells, h.vis, h.out⟩
theorem Fit.arrive (h : Fit f s) (b : Nat) (fr : Int) : Fit f (arriveM f b fr s) := ⟨h.arrs, h.cells, by unfold arriveM; simp [h.vis], h.out⟩
theorem Fit.look (h : Fit f s) (op : Int) : Fit f (lookS op s) := by unfold lookS; split <;> exact ⟨h.arrs, h.cells, h.vis, h.out⟩

theorem made_fit (h : Fit f s) (x : InstrM) (a : List Int) : Fit f (madeM x a s).1 := by
  unfold madeM
  repeat' split
  all_goals first | exact h | exact h.look _

theorem Fit.done (h : Fit f s) (x : InstrM) : Fit f (doM x s).1 := by
  have hm := made_fit h x (x.args.map s.val)
  unfold doM
  simp only
  repeat' split
  · exact ⟨by simp [h.arrs], (h.look x.op).cells, (h.look x.op).vis, (h.look x.op).out⟩
  · exact h.look _
  · exact h
  · rename_i h4
    refine ⟨h.arrs, h.cells, h.vis, ?_⟩
    have := h.out
    simp
    omega
  · exact ⟨h.arrs, by simp [h.cells], h.vis, h.out⟩
  · rename_i h5
    rw [h5] at hm
    exact ⟨hm.arrs, hm.cells, hm.vis, hm.out⟩
  · rename_i h5
    rw [h5] at hm
    exact hm

theorem CodeOk.instr {x : InstrM} (h : CodeOk f.arrays.toNat f.cells.toNat nv x) (hs : Fit f s) : InstrOk s nv x :=
  ⟨h.args, h.len, h.isop, fun e => by have := h.arr e; have := hs.arrs; omega, fun e => by have := h.cell e; have := hs.cells; omega, h.id⟩

theorem blk_at {b : Nat} {q : BlockM} (h : f.blocks[b]? = some q) : blkM f b = q := by unfold blkM; rw [List.getD_eq_getElem?_getD, h]; rfl

/-- how the run ends, with so much fuel -/
def EndIs (f : FuncM) (I : InM) (F : Nat) (s : StM) (en : EndM) : Prop := (goN f F (startM f I)).s = s ∧ finM (goN f F (startM f I)) = en

def Reach (f : FuncM) (I : InM) (n : Nat) (c : CfgM) : Prop := goN f n (startM f I) = c

theorem Reach.next {I : InM} {n : Nat} {c : CfgM} (h : Reach f I n c) : Reach f I (n + 1) (goM f c) := by
  unfold Reach at *
  show goM f (goN f n _) = _
  rw [h]

theorem Reach.stop {I : InM} {F b k : Nat} (h : Reach f I F ⟨s, b, k, none⟩) : EndIs f I F s (3, 0, 0) := by
  unfold EndIs
  unfold Reach at h
  rw [h]
  exact ⟨rfl, rfl⟩

theorem Reach.fin {I : InM} {n F b k : Nat} {en : EndM} (h : Reach f I n ⟨s, b, k, some en⟩) (hn : n ≤ F) : EndIs f I F s en := by
  unfold EndIs
  unfold Reach at h
  rw [goN_ended hn (by rw [h]; simp), h]
  exact ⟨rfl, rfl⟩

/-- an instruction's step -/
theorem Reach.code {I : InM} {b k : Nat} {q : BlockM} {x : InstrM} (h : Reach f I s.steps ⟨s, b, k, none⟩) (hq : f.blocks[b]? = some q) (hx : q.code[k]? = some x) :
    Reach f I (s.steps + 1) ⟨(doM x (tickM s)).1, b, k + 1, (doM x (tickM s)).2⟩ := by
  have h1 := h.next
  unfold goM at h1
  simp only [blk_at hq, hx] at h1
  exact h1

/-- an end's step -/
theorem Reach.leave {I : InM} {b k : Nat} {q : BlockM} (h : Reach f I s.steps ⟨s, b, k, none⟩) (hq : f.blocks[b]? = some q) (hx : q.code.length ≤ k) : Reach f I (s.steps + 1) (leaveM f b k (tickM s)) := by
  have h1 := h.next
  unfold goM at h1
  simp only [blk_at hq, List.getElem?_eq_none hx] at h1
  exact h1

theorem leave_fin {b k : Nat} {q : BlockM} {en : EndM} (hq : f.blocks[b]? = some q) (hn : nextR q.term s = .inr en) : leaveM f b k s = ⟨s, b, k, some en⟩ := by
  unfold nextR at hn
  unfold leaveM
  simp only [blk_at hq]
  split at hn
  · rename_i h3
    injection hn with hn
    rw [if_pos h3, hn]
  · rename_i h3
    split at hn
    · rename_i h4
      injection hn with hn
      rw [if_neg h3, if_pos h4, hn]
    · cases hn

theorem leave_go {b k : Nat} {q : BlockM} {t : Int} (hq : f.blocks[b]? = some q) (hn : nextR q.term s = .inl t) (ht : TermOk nv q.term) : leaveM f b k s = enterM f t.toNat b s ∧ t ∈ q.term.to := by
  unfold nextR at hn
  unfold leaveM
  simp only [blk_at hq]
  split at hn
  · cases hn
  · rename_i h3
    split at hn
    · cases hn
    · rename_i h4
      injection hn with hn
      rw [if_neg h3, if_neg h4, hn]
      refine ⟨rfl, ?_⟩
      rw [← hn]
      unfold nextM
      have hm : ∀ j, j < q.term.to.length → q.term.to.getD j 0 ∈ q.term.to := fun j hj => by
        rw [List.getD_eq_getElem?_getD, List.getElem?_eq_getElem hj]
        exact List.getElem_mem hj
      rcases ht.op with ⟨_, h5⟩ | ⟨h6, h5⟩ | ⟨h6, _⟩ | ⟨h6, _⟩
      · split
        · rename_i h7; omega
        · exact hm 0 (by omega)
      · split
        · exact hm 1 (by omega)
        · exact hm 0 (by omega)
      · exact absurd h6 h3
      · exact absurd h6 h4
end
end Go.Proofs.YtncmnbchkabgaaaGreat

namespace Go.Proofs.YtncmnbchkabgaaaGreat
open Go.RowKit Go.Maps Go.Sort Go.Shelf

def keysL_ren : Go.Shelf.Ren := ⟨fun | 7 => 150 | 10 => 178 | n => n, fun | 23 => 126 | 26 => 3 | 3 => 3 | 28 => 131 | 0 => 0 | 27 => 130 | 33 => 117 | 4 => 4 | n => n, fun | n => n⟩
theorem keysL : Go.Proofs.SlLaysZI.n7 Tryz.prog keysL_ren := {
  mixed := by kernel_rfl,
  f7 := ⟨Tryz.f150.name, by decide, Tryz.func150.trans (congrArg some (by kernel_rfl))⟩,
  f10 := ⟨Tryz.f178.name, by decide, Tryz.func178.trans (congrArg some (by kernel_rfl))⟩,
  t0 := Tryz.underlying0,
  a0 := Tryz.isAgg0,
  z0 := Tryz.sizeOf0,
  v0 := Tryz.zeroValue0,
  t4 := Tryz.underlying4,
  a4 := Tryz.isAgg4,
  z4 := Tryz.sizeOf4,
  v4 := Tryz.zeroValue4,
  t23 := Tryz.underlying126,
  a23 := Tryz.isAgg126,
  z23 := Tryz.sizeOf126,
  v23 := Tryz.zeroValue126,
  t26 := Tryz.underlying3,
  a26 := Tryz.isAgg3,
  z26 := Tryz.sizeOf3,
  v26 := Tryz.zeroValue3,
  t27 := Tryz.underlying130,
  a27 := Tryz.isAgg130,
  z27 := Tryz.sizeOf130,
  v27 := Tryz.zeroValue130,
  t28 := Tryz.underlying131,
  a28 := Tryz.isAgg131,
  z28 := Tryz.sizeOf131,
  v28 := Tryz.zeroValue131,
  t33 := Tryz.underlying117,
  a33 := Tryz.isAgg117,
  z33 := Tryz.sizeOf117,
  v33 := Tryz.zeroValue117 }
def sortedL_ren : Go.Shelf.Ren := ⟨fun | 6 => 149 | 8 => 176 | 9 => 177 | 11 => 192 | 13 => 194 | 12 => 193 | 23 => 213 | 24 => 214 | 14 => 205 | 15 => 206 | 16 => 207 | 17 => 208 | 18 => 209 | 19 => 210 | 20 => 190 | 21 => 211 | 22 => 212 | 25 => 219 | 26 => 220 | 27 => 221 | 28 => 222 | 29 => 223 | 30 => 204 | 31 => 224 | n => n, fun | 26 => 3 | 28 => 131 | 24 => 22 | 0 => 0 | 3 => 3 | 37 => 206 | 48 => 230 | 50 => 115 | 4 => 4 | 40 => 243 | 39 => 242 | 45 => 182 | 5 => 5 | 9 => 9 | 51 => 251 | 55 => 183 | 57 => 257 | 58 => 258 | 33 => 117 | n => n, fun | n => n⟩
theorem sortedL : Go.Proofs.SlLaysZI.n6 Tryz.prog sortedL_ren := {
  mixed := by kernel_rfl,
  f6 := ⟨Tryz.f149.name, by decide, Tryz.func149.trans (congrArg some (by kernel_rfl))⟩,
  f8 := ⟨Tryz.f176.name, by decide, Tryz.func176.trans (congrArg some (by kernel_rfl))⟩,
  f11 := ⟨Tryz.f192.name, by decide, Tryz.func192.trans (congrArg some (by kernel_rfl))⟩,
  t0 := Tryz.underlying0,
  a0 := Tryz.isAgg0,
  z0 := Tryz.sizeOf0,
  v0 := Tryz.zeroValue0,
  t24 := Tryz.underlying22,
  a24 := Tryz.isAgg22,
  z24 := Tryz.sizeOf22,
  v24 := Tryz.zeroValue22,
  t26 := Tryz.underlying3,
  a26 := Tryz.isAgg3,
  z26 := Tryz.sizeOf3,
  v26 := Tryz.zeroValue3,
  t28 := Tryz.underlying131,
  a28 := Tryz.isAgg131,
  z28 := Tryz.sizeOf131,
  v28 := Tryz.zeroValue131,
  i26 := by kernel_rfl }
def sortL_ren : Go.Shelf.Ren := ⟨fun | 5 => 177 | 8 => 194 | 7 => 193 | 19 => 213 | 20 => 214 | 10 => 205 | 11 => 206 | 12 => 207 | 13 => 208 | 14 => 209 | 15 => 210 | 16 => 190 | 17 => 211 | 18 => 212 | 30 => 219 | 31 => 220 | 32 => 221 | 33 => 222 | 34 => 223 | 35 => 204 | 40 => 224 | n => n, fun | 23 => 22 | 25 => 3 | 3 => 3 | 32 => 206 | 22 => 22 | 0 => 0 | 44 => 230 | 46 => 115 | 4 => 4 | 36 => 243 | 35 => 242 | 41 => 182 | 5 => 5 | 9 => 9 | 53 => 251 | 57 => 183 | 63 => 257 | 64 => 258 | n => n, fun | n => n⟩
theorem sortL : Go.Proofs.SlLaysM.n5 Tryz.prog sortL_ren := {
  mixed := by kernel_rfl,
  f5 := ⟨Tryz.f177.name, by decide, Tryz.func177.trans (congrArg some (by kernel_rfl))⟩,
  f7 := ⟨Tryz.f193.name, by decide, Tryz.func193.trans (congrArg some (by kernel_rfl))⟩,
  f8 := Tryz.func194.trans (congrArg some (by kernel_rfl)),
  f10 := ⟨Tryz.f205.name, by decide, Tryz.func205.trans (congrArg some (by kernel_rfl))⟩,
  f11 := ⟨Tryz.f206.name, by decide, Tryz.func206.trans (congrArg some (by kernel_rfl))⟩,
  f12 := ⟨Tryz.f207.name, by decide, Tryz.func207.trans (congrArg some (by kernel_rfl))⟩,
  f13 := ⟨Tryz.f208.name, by decide, Tryz.func208.trans (congrArg some (by kernel_rfl))⟩,
  f14 := ⟨Tryz.f209.name, by decide, Tryz.func209.trans (congrArg some (by kernel_rfl))⟩,
  f15 := ⟨Tryz.f210.name, by decide, Tryz.func210.trans (congrArg some (by kernel_rfl))⟩,
  f16 := ⟨Tryz.f190.name, by decide, Tryz.func190.trans (congrArg some (by kernel_rfl))⟩,
  f17 := ⟨Tryz.f211.name, by decide, Tryz.func211.trans (congrArg some (by kernel_rfl))⟩,
  f18 := ⟨Tryz.f212.name, by decide, Tryz.func212.trans (congrArg some (by kernel_rfl))⟩,
  f19 := Tryz.func213.trans (congrArg some (by kernel_rfl)),
  f20 := Tryz.func214.trans (congrArg some (by kernel_rfl)),
  f30 := ⟨Tryz.f219.name, by decide, Tryz.func219.trans (congrArg some (by kernel_rfl))⟩,
  f31 := Tryz.func220.trans (congrArg some (by kernel_rfl)),
  f32 := Tryz.func221.trans (congrArg some (by kernel_rfl)),
  f33 := ⟨Tryz.f222.name, by decide, Tryz.func222.trans (congrArg some (by kernel_rfl))⟩,
  f34 := ⟨Tryz.f223.name, by decide, Tryz.func223.trans (congrArg some (by kernel_rfl))⟩,
  f35 := ⟨Tryz.f204.name, by decide, Tryz.func204.trans (congrArg some (by kernel_rfl))⟩,
  f40 := ⟨Tryz.f224.name, by decide, Tryz.func224.trans (congrArg some (by kernel_rfl))⟩,
  t0 := Tryz.underlying0,
  a0 := Tryz.isAgg0,
  z0 := Tryz.sizeOf0,
  v0 := Tryz.zeroValue0,
  t3 := Tryz.underlying3,
  a3 := Tryz.isAgg3,
  z3 := Tryz.sizeOf3,
  v3 := Tryz.zeroValue3,
  t4 := Tryz.underlying4,
  a4 := Tryz.isAgg4,
  z4 := Tryz.sizeOf4,
  v4 := Tryz.zeroValue4,
  t5 := Tryz.underlying5,
  a5 := Tryz.isAgg5,
  z5 := Tryz.sizeOf5,
  v5 := Tryz.zeroValue5,
  t9 := Tryz.underlying9,
  a9 := Tryz.isAgg9,
  z9 := Tryz.sizeOf9,
  v9 := Tryz.zeroValue9,
  t22 := Tryz.underlying22,
  a22 := Tryz.isAgg22,
  z22 := Tryz.sizeOf22,
  v22 := Tryz.zeroValue22,
  t23 := Tryz.underlying22,
  a23 := Tryz.isAgg22,
  z23 := Tryz.sizeOf22,
  v23 := Tryz.zeroValue22,
  t25 := Tryz.underlying3,
  a25 := Tryz.isAgg3,
  z25 := Tryz.sizeOf3,
  v25 := Tryz.zeroValue3,
  t32 := Tryz.underlying206,
  a32 := Tryz.isAgg206,
  z32 := Tryz.sizeOf206,
  v32 := Tryz.zeroValue206,
  t35 := Tryz.underlying242,
  a35 := Tryz.isAgg242,
  z35 := Tryz.sizeOf242,
  v35 := Tryz.zeroValue242,
  t36 := Tryz.underlying243,
  a36 := Tryz.isAgg243,
  z36 := Tryz.sizeOf243,
  v36 := Tryz.zeroValue243,
  t41 := Tryz.underlying182,
  a41 := Tryz.isAgg182,
  z41 := Tryz.sizeOf182,
  v41 := Tryz.zeroValue182,
  t44 := Tryz.underlying230,
  a44 := Tryz.isAgg230,
  z44 := Tryz.sizeOf230,
  v44 := Tryz.zeroValue230,
  t46 := Tryz.underlying115,
  a46 := Tryz.isAgg115,
  z46 := Tryz.sizeOf115,
  v46 := Tryz.zeroValue115,
  t53 := Tryz.underlying251,
  a53 := Tryz.isAgg251,
  z53 := Tryz.sizeOf251,
  v53 := Tryz.zeroValue251,
  t57 := Tryz.underlying183,
  a57 := Tryz.isAgg183,
  z57 := Tryz.sizeOf183,
  v57 := Tryz.zeroValue183,
  t63 := Tryz.underlying257,
  a63 := Tryz.isAgg257,
  z63 := Tryz.sizeOf257,
  v63 := Tryz.zeroValue257,
  t64 := Tryz.underlying258,
  a64 := Tryz.isAgg258,
  z64 := Tryz.sizeOf258,
  v64 := Tryz.zeroValue258 }

theorem sortsL (m : Nat) : AnyZI.SortsIn Tryz.prog sortedL_ren Fence.wide m :=
  ⟨fun blk off cap ss W hH hblk hsz => callsIn_wide.2 (AnyM.slices_Sort_int sortL blk off cap ss W hH hblk hsz),
   fun p cap W => callsIn_wide.2 (AnyM.slices_Sort_int_none sortL p cap W)⟩

end Go.Proofs.YtncmnbchkabgaaaGreat

namespace Go.Proofs.YtncmnbchkabgaaaGreat
open Go.RowKit Go.Maps Go.Sort Go.Shelf

theorem MapIs.keys {w : World} {M : Nat} {ds : Defs} {D : DataW Unit} (hown : w.ownsMap Tryz.prog 3 (plainElem Tryz.prog 3) M ds.length D) (hat : ∀ id z, D.atKey (.int .i64 id) z = match ds.at id with | some t => .lit (.int .i64 t) | none => z) (hn : (ds.map (·.1)).Nodup) :
    (ds.map (·.1)).Perm (intKeys D) := by
  refine CollectedI.perm (left := fun _ => false) ⟨hn, fun x => ?_⟩ hown lawInt Tryz.underlying3 (fun _ => rfl)
  rw [MapIs.has hat x, at_some]
  simp

theorem mapsKeys (mb : Option Nat) (W : World) : Calls Tryz.prog 150 #[.map mb] W fun e w' => e = .returned (.func (.func 178) #[] #[.pointer (some ⟨W.heap.size, 0, none⟩)]) ∧ w' = W.alloc (.cells #[.map mb] 126) :=
  (callsIn_wide (n := 5)).1 (AnyZI.keys_in keysL Fence.wide 5 trivial rfl mb W)

theorem sortedKeys' {H : Type} (b nn : Nat) (D0 : DataW H) (R : Value → Option (DataW H × List MemPlace)) (w : World) (hown : w.ownsMap Tryz.prog 3 R b nn D0) (hmax : Maps.size D0 ≤ maxLen) (hbytes : Maps.size D0 * 8 ≤ 140737488355328) :
    Calls Tryz.prog 149 #[.func (.func 178) #[] #[.pointer (some ⟨w.heap.size, 0, none⟩)]] (w.alloc (.cells #[.map (some b)] 126)) fun e w' => ∃ (v : Value) (ss : List Int), e = .returned v ∧ ss.Perm (intKeys D0) ∧
      w'.ownsRow (w.alloc (.cells #[.map (some b)] 126)).heap.size 3 1 v ss.length ((ss.mergeSort (fun x y => decide (x ≤ y))).map encZ) ∧ (v = .slice none 0 0 ↔ ss = []) ∧ Below (w.alloc (.cells #[.map (some b)] 126)).heap.size (w.alloc (.cells #[.map (some b)] 126)) w' := by
  have hbl := hown.lt
  have hseq : SeqGives Fence.wide 2 Tryz.prog 178 #[.pointer (some ⟨w.heap.size, 0, none⟩)] encZ (fun ss => ss.Perm (intKeys D0)) (Maps.size D0) (w.alloc (.cells #[.map (some b)] 126)) :=
    AnyZI.keys_gives (ρ := keysL_ren) { keysL with } Fence.wide _ trivial rfl (by omega) w.heap.size b nn D0 _ (by simp) (by simp) (by
      obtain ⟨es, clock, hb, Ft, hs, hD⟩ := hown
      exact ⟨es, clock, (Below.heap_alloc _ _ b hbl).trans hb, Ft, hs, hD⟩)
  exact (callsIn_wide (n := 5)).1 (AnyZI.sorted_in sortedL Fence.wide 5 trivial trivial trivial trivial rfl (by omega) (sortsL _) (enters_of Tryz.func177 (by kernel_rfl) rfl) 178 #[.pointer (some ⟨w.heap.size, 0, none⟩)] trivial (enters_of Tryz.func178 (by kernel_rfl) rfl) _ _ hmax hbytes _ hseq)

theorem sortedKeys {H : Type} (b nn : Nat) (D0 : DataW H) (R : Value → Option (DataW H × List MemPlace)) (w : World) (n : Nat) (hn : n = w.heap.size) (hown : w.ownsMap Tryz.prog 3 R b nn D0) (hmax : Maps.size D0 ≤ maxLen) (hbytes : Maps.size D0 * 8 ≤ 140737488355328) :
    Calls Tryz.prog 149 #[.func (.func 178) #[] #[.pointer (some ⟨n, 0, none⟩)]] (w.alloc (.cells #[.map (some b)] 126)) fun e w' => ∃ (v : Value) (ss : List Int), e = .returned v ∧ ss.Perm (intKeys D0) ∧
      w'.ownsRow (n + 1) 3 1 v ss.length ((ss.mergeSort (fun x y => decide (x ≤ y))).map encZ) ∧ Below (n + 1) (w.alloc (.cells #[.map (some b)] 126)) w' := by
  subst hn
  refine (sortedKeys' b nn D0 R w hown hmax hbytes).mono ?_
  rintro e w' ⟨v, ss, rfl, hS, hrow, _, hb⟩
  exact ⟨v, ss, rfl, hS, by simpa using hrow, by simpa using hb⟩

def IdsPost (f : FuncM) (w : World) (e : Ending) (w' : World) : Prop :=
  ∃ v, e = .returned (.tuple #[v, .int .i64 (lookM f).1]) ∧ NewInts w.heap.size w' v (idsOut f) ∧ Below w.heap.size w w'

set_option maxHeartbeats 1000000 in
theorem ids_any (f : FuncM) (B : Nat) (pv bv : Value) (w : World) (hpv : Ints w B pv f.params) (hbv : BlocksR w B bv f.blocks) (hB : B ≤ w.heap.size) (hid : ∀ u ∈ usesM f, I64 u.1) :
    Calls Tryz.prog 106 #[.agg #[pv, .int .i64 f.arrays, .int .i64 f.cells, bv]] w (IdsPost f w) := by
  have HP := hideI hpv
  have HB := hideI hbv
  have HID := hideI hid
  obtain ⟨P, pc, rfl, _⟩ := hpv
  obtain ⟨A, c, rfl, _⟩ := hbv
  have hk : Keeps B w (w.alloc (.cells #[.slice P f.params.length pc, .int .i64 f.arrays, .int .i64 f.cells, .slice A f.blocks.length c] 25)) := (Keeps.refl w).alloc hB _
  have HL := hideI (lookAt_any f B _ _ _ (HP.out.keeps hk) (HB.out.keeps hk) (by simp; omega) HID.out)
  clear hid hk
  go_enter Tryz.func106, Tryz.ntmps106
  go_wp2_with fail
  refine HL.out.mono ?_
  rintro e w1 ⟨hb1, h | h⟩
  · obtain ⟨h0, M, hM, rfl, hm⟩ := h
    have HB1 := hideI (below_one (hb1.mono (by simp)))
    obtain ⟨D, hown, hD, hwd, hat⟩ := hm
    have hnd := formed_nodup (look_formed h0)
    have hpm := MapIs.keys hown hat hnd
    have hsl := hown.size_le
    have hl := look_len h0
    have HS := hideI (sortedKeys M _ D _ _ (w1.heap.size + 1) (by simp) (hown.alloc (.cells #[.slice P f.params.length pc, .int .i64 f.arrays, .int .i64 f.cells, .slice A f.blocks.length c, .map (some M)] 174)) (by unfold maxLen; omega) (by omega))
    have HPM := hideI hpm
    have HLEN := hideI hl
    have H0 := hideI h0
    clear hb1 h0 hat hwd hpm hsl hl hnd hown
    go_wp2_with (first
      | (go_at_call 150; refine (mapsKeys _ _).mono ?_; rintro e w2 ⟨rfl, rfl⟩)
      | (go_at_call 149; refine HS.out.mono ?_; rintro e w3 ⟨v, ss, rfl, hS, hrow, hb3⟩; have HR := hideI hrow; have HSS := hideI hS; have HB3 := hideI hb3; clear hS hrow hb3))
    go_ret2
    have e1 : idsOut f = ss.mergeSort fun x y => decide (x ≤ y) := by
      unfold idsOut idsS
      rw [if_pos H0.out]
      exact mergeSort_of_perm_i (HPM.out.trans HSS.out.symm)
    refine ⟨v, by rw [H0.out]; rfl, ?_, ?_⟩
    · rw [e1]
      have h1 := newInts_own HR.out (by rw [List.length_mergeSort, HSS.out.length_eq, ← HPM.out.length_eq, List.length_map]; have := HLEN.out; omega)
      obtain ⟨A2, c2, hv, hm2, hx2⟩ := h1
      exact ⟨A2, c2, hv, hm2, fun hp => by obtain ⟨g, cs, q1, q2, q3⟩ := hx2 hp; exact ⟨g, cs, q1, by have := HB1.out.size; omega, q3⟩⟩
    · exact ((HB1.out.alloc HB1.out.size _).alloc (by have := HB1.out.size; simp; omega) _).trans (HB3.out.mono (by have := HB1.out.size; simp; omega))
  · obtain ⟨h0, rfl⟩ := h
    have HB1 := hideI (below_one (hb1.mono (by simp)))
    have hb : ((lookM f).1 != 0) = true := by simpa using h0
    have H0 := hideI h0
    clear hb1 h0
    go_wp2
    go_ret2
    exact ⟨_, rfl, by unfold idsOut; rw [if_neg H0.out]; exact NewInts.nil _ _, HB1.out.alloc HB1.out.size _⟩

end Go.Proofs.YtncmnbchkabgaaaGreat

namespace Go.Proofs.YtncmnbchkabgaaaGreat
open Go.RowKit Go.Maps

/-- one more than the greatest value -/
def roomM (f : FuncM) : Int := match (idsOut f).getLast? with | some x => x + 1 | none => 0

set_option maxRecDepth 100000 in
set_option maxHeartbeats 1000000 in
theorem roomFor_any (f : FuncM) (B : Nat) (pv bv : Value) (w : World) (hpv : Ints w B pv f.params) (hbv : BlocksR w B bv f.blocks) (hB : B ≤ w.heap.size) (hid : ∀ u ∈ usesM f, I64 u.1) (hr : ∀ x ∈ idsOut f, 0 ≤ x ∧ x ≤ 1048575) :
    Calls Tryz.prog 53 #[.agg #[pv, .int .i64 f.arrays, .int .i64 f.cells, bv]] w fun e w' => e = .returned (.int .i64 (roomM f)) ∧ Below w.heap.size w w' := by
  have HP := hideI hpv
  have HB := hideI hbv
  obtain ⟨P, pc, rfl, _⟩ := hpv
  obtain ⟨A, c, rfl, _⟩ := hbv
  obtain ⟨W0, hW0⟩ : ∃ W0 : World, W0 = w.alloc (.cells #[.slice P f.params.length pc, .int .i64 f.arrays, .int .i64 f.cells, .slice A f.blocks.length c] 25) := ⟨_, rfl⟩
  have hb0 : Below w.heap.size w W0 := by rw [hW0]; exact (Below.refl _ w).alloc (Nat.le_refl _) _
  have hx0 : W0.heap[w.heap.size]? = some (.cells #[.slice P f.params.length pc, .int .i64 f.arrays, .int .i64 f.cells, .slice A f.blocks.length c] 25 (0, 0)) := by rw [hW0]; exact heap_alloc_new w _
  have hk : Keeps B w W0 := Keeps.of_below (hb0.mono hB)
  have HC := hideI (ids_any f B _ _ W0 (HP.out.keeps hk) (HB.out.keeps hk) (Nat.le_trans hB hb0.size) hid)
  have HB0 := hideI hb0
  have HW0 := hideI hW0
  have q := row_cells hx0 rfl
  have q0 := q 0
  have q1 := q 1
  have q2 := q 2
  have q3 := q 3
  have HR := hideI hr
  clear q hb0 hx0 hk hW0 hid hr
  obtain ⟨ids, hids⟩ : ∃ ids, ids = idsOut f := ⟨_, rfl⟩
  have HIDS := hideI hids
  unfold IdsPost at HC
  rw [← hids] at HC HR
  clear hids
  go_enter Tryz.func53, Tryz.ntmps53
  go_upto_region 1 with fail
  rw [← HW0.out]
  cases hl : ids.getLast? with
  | none =>
    obtain rfl : ids = [] := by simpa using hl
    have HE : Hid (roomM f = 0) := hideI (by unfold roomM; rw [← HIDS.out]; rfl)
    clear hl
    go_wp2_with (first | (go_at_call 106; refine HC.out.mono ?_; rintro e w1 ⟨v, rfl, ⟨A1, c1, hv, _, _⟩, hb⟩; obtain rfl : v = .slice A1 0 c1 := hv; have HB1 := hideI hb; clear hb))
    go_ret
    exact ⟨by rw [HE.out]; rfl, HB0.out.trans (HB1.out.mono HB0.out.size)⟩
  | some x =>
    obtain ⟨r, hr⟩ : ∃ r, ids = r ++ [x] := by
      cases hl2 : ids.reverse with
      | nil => have : ids = [] := by simpa using hl2
               subst this; cases hl
      | cons a r =>
        have hle : ids = r.reverse ++ [a] := by rw [← List.reverse_reverse ids, hl2, List.reverse_cons]
        rw [hle, List.getLast?_append] at hl
        simp at hl
        subst hl
        exact ⟨_, hle⟩
    have hxr := HR.out x (by rw [hr]; simp)
    have HE : Hid (roomM f = x + 1) := hideI (by unfold roomM; rw [← HIDS.out, hl])
    have hlen : ids.length = r.length + 1 := by rw [hr]; simp
    have HLAST : Hid (ids[r.length]?.getD 0 = x) := hideI (by rw [hr]; simp)
    obtain ⟨n, hn⟩ : ∃ n, n = r.length := ⟨_, rfl⟩
    rw [← hn] at hlen HLAST
    have HLEN := hideI hlen
    have hw : IntKind.i64.wrap (x + 1) = x + 1 := IntWalk.i64_in _ (by omega)
    have hw2 : wrap64 (x + 1) = x + 1 := by unfold wrap64; omega
    clear hl hr hn hlen
    go_wp2_with (first | (go_at_call 106; refine HC.out.mono ?_; rintro e w1 ⟨v, rfl, ⟨A1, c1, hv, hle, hnew⟩, hb⟩; obtain ⟨g1, cs1, rfl, _, hg1, hc1⟩ := hnew (by rw [HLEN.out]; omega); rw [HLEN.out] at hv hle; obtain rfl : v = .slice (some ⟨g1, 0, none⟩) (n + 1) c1 := hv; have HB1 := hideI hb; have y0 : w1.cell? ⟨g1, n, none⟩ = some (.int .i64 x) := (cell_of_row w1 g1 n cs1 _ (0, 0) hg1).trans ((hc1 n (by rw [HLEN.out]; omega)).trans (by rw [HLAST.out])); clear hb hnew hg1 hc1))
    go_ret
    exact ⟨by rw [HE.out]; rfl, HB0.out.trans (HB1.out.mono HB0.out.size)⟩
end Go.Proofs.YtncmnbchkabgaaaGreat

namespace Go.Proofs.YtncmnbchkabgaaaGreat
open Go.RowKit Go.Maps

def argOf (ps xs : List Int) (i : Nat) : Int := if ps.getD i 0 = 2 ∧ xs.getD i 0 ≠ 0 then 1 else xs.getD i 0
def argVals (g : Int → Int) (ps xs : List Int) (n : Nat) : Int → Int := fun x => if 0 ≤ x ∧ x < n then argOf ps xs x.toNat else g x

theorem argVals_zero (g : Int → Int) (ps xs : List Int) : argVals g ps xs 0 = g := by
  funext x
  unfold argVals
  rw [if_neg (by omega)]

theorem argVals_next (g : Int → Int) (ps xs : List Int) (i : Nat) : setV (argVals g ps xs i) i (argOf ps xs i) = argVals g ps xs (i + 1) := by
  funext x
  unfold setV argVals
  by_cases h : x = i
  · subst h
    rw [if_pos rfl, if_pos (by omega), Int.toNat_natCast]
  · rw [if_neg h]
    by_cases h2 : 0 ≤ x ∧ x < i
    · rw [if_pos h2, if_pos (by omega)]
    · rw [if_neg h2, if_neg (by omega)]

theorem setV_twice (g : Int → Int) (i a b : Int) : setV (setV g i a) i b = setV g i b := by
  funext x
  unfold setV
  by_cases h : x = i
  · rw [if_pos h, if_pos h]
  · rw [if_neg h, if_neg h, if_neg h]

section
variable {c : MachC} {K : Nat → Prop} {w w' : World} {val : MVals} {s : StM}

theorem ints_at {B : Nat} {v : Value} {xs : List Int} (h : Ints w B v xs) : ∃ A cp, v = .slice A xs.length cp ∧ xs.length ≤ 140737488351232 ∧ ∀ i, i < xs.length → ∃ b off, A = some ⟨b, off, none⟩ ∧ b < B ∧ w.cell? ⟨b, off + i, none⟩ = some (.int .i64 (xs.getD i 0)) := by
  obtain ⟨A, cp, rfl, hl, hat⟩ := h
  refine ⟨A, cp, rfl, hl, fun i hi => ?_⟩
  obtain ⟨b, off, e, hb, hc⟩ := hat i hi
  exact ⟨b, off, e, hb, by rw [hc, List.getD_eq_getElem?_getD]⟩

set_option maxRecDepth 100000 in
set_option maxHeartbeats 4000000 in
theorem takeArgs_any (h : MachR c K w val s) (ps xs : List Int) (B : Nat) (pv av : Value) (hp : Ints w B pv ps) (ha : Ints w B av xs) (hK : ∀ b, b < B → K b) (hl : ps.length ≤ c.nv) (hl2 : ps.length ≤ 16) :
    Calls Tryz.prog 54 #[.pointer (some ⟨c.m, 0, none⟩), pv, av] w fun e w' => e = .returned (.tuple #[]) ∧ MachR c K w' val { s with val := argVals s.val ps xs (min ps.length xs.length) } ∧ KF K w w' := by
  have H := hideI h
  obtain ⟨P, pc, rfl, _, hpat⟩ := ints_at hp
  obtain ⟨A, ac, rfl, hal, hat⟩ := ints_at ha
  obtain ⟨np, hnp⟩ : ∃ np, np = ps.length := ⟨_, rfl⟩
  obtain ⟨na, hna⟩ : ∃ na, na = xs.length := ⟨_, rfl⟩
  have HPAT : Hid (∀ i, i < np → ∃ b off, P = some ⟨b, off, none⟩ ∧ b < B ∧ w.cell? ⟨b, off + i, none⟩ = some (.int .i64 (ps.getD i 0))) := by rw [hnp]; exact hideI hpat
  have HAT : Hid (∀ i, i < na → ∃ b off, A = some ⟨b, off, none⟩ ∧ b < B ∧ w.cell? ⟨b, off + i, none⟩ = some (.int .i64 (xs.getD i 0))) := by rw [hna]; exact hideI hat
  have HK := hideI hK
  have HL : Hid (np ≤ c.nv) := by rw [hnp]; exact hideI hl
  rw [← hnp, ← hna]
  rw [← hnp] at hl2
  rw [← hna] at hal
  obtain ⟨n, hn⟩ : ∃ n : Nat, n = min np na := ⟨_, rfl⟩
  have hnp2 : n ≤ np := by omega
  have hna2 : n ≤ na := by omega
  have hmin : min (np : Int) (na : Int) = (n : Int) := by omega
  have HN := hideI hn
  rw [← hn]
  clear h hp ha hpat hat hK hl hnp hna hn
  go_enter Tryz.func54, Tryz.ntmps54
  go_wp2
  try (case' inl => (obtain rfl : n = na := by have := HN.out; omega))
  try (case' inr => (obtain rfl : n = np := by have := HN.out; omega))
  all_goals
    try clear h
    try clear hmin
    go_loopw [12] (fun u wr => ∃ i : Nat, i ≤ n ∧ u = .int .i64 i ∧ Hid (MachR c K wr val { s with val := argVals s.val ps xs i }) ∧ Hid (KF K w wr)) (fun u _ => n - (intOf u).toNat)
    case atStart => exact ⟨0, Nat.zero_le _, rfl, hideI (by rw [argVals_zero]; exact H.out), hideI (KF.refl _)⟩
    case round =>
      obtain ⟨i, hi, rfl, HMr, HFr⟩ := hrel
      by_cases hlt : i < n
      · obtain ⟨pb, poff, rfl, hpb, p0⟩ := HPAT.out i (by omega)
        obtain ⟨ab, aoff, rfl, hab, a0⟩ := HAT.out i (by omega)
        have kp : ∀ b o, b < B → wr.cell? ⟨b, o, none⟩ = w.cell? ⟨b, o, none⟩ := fun b o hb => World.cell?_of_block (a := ⟨b, o, none⟩) (HFr.out.block b (HK.out b hb))
        rw [← kp _ _ hpb] at p0
        rw [← kp _ _ hab] at a0
        obtain ⟨gv, cv, j, hj, hjn, hvv, hvc, hvf, hgm, hgv⟩ := HMr.out.valAt (a := (i : Int)) (by omega) (by have := HL.out; omega)
        obtain rfl : i = j := by omega
        have c11 := HMr.out.cells 11
        simp only [machCells] at c11
        rw [hvv] at c11
        have HV := hideI hvv
        have z1 : ¬ c.m = gv := fun e => hgm e.symm
        have z2 : ¬ gv = ab := fun e => (HMr.out.off .vals _ gv rfl (by rw [HV.out]; rfl)).2 (by rw [e]; exact HK.out ab hab)
        have z2' : ¬ ab = gv := fun e => z2 e.symm
        have z3 : ¬ gv = pb := fun e => (HMr.out.off .vals _ gv rfl (by rw [HV.out]; rfl)).2 (by rw [e]; exact HK.out pb hpb)
        have z3' : ¬ pb = gv := fun e => z3 e.symm
        obtain ⟨x, hx⟩ : ∃ x, x = xs.getD i 0 := ⟨_, rfl⟩
        obtain ⟨y, hy⟩ : ∃ y, y = ps.getD i 0 := ⟨_, rfl⟩
        have hip := Nat.lt_of_lt_of_le hlt hnp2
        have hia := Nat.lt_of_lt_of_le hlt hna2
        rw [← hx] at a0
        rw [← hy] at p0
        have HX := hideI hx
        have HY := hideI hy
        have HS1 := hideI (HMr.out.setVal hvv (j := i) x)
        have hpl := World.block_lt_of_cell? wr _ p0
        have hal2 := World.block_lt_of_cell? wr _ a0
        have hml := HMr.out.m_lt
        clear kp hj hvv hx hy hpb hab
        by_cases hc : y = 2 ∧ x ≠ 0
        · have HE : Hid (argOf ps xs i = 1) := hideI (by unfold argOf; rw [← HX.out, ← HY.out, if_pos hc])
          have y2 : (y == 2) = true := by simpa using hc.1
          have x0 : (x != 0) = true := by simpa using hc.2
          have HS2 := hideI (HS1.out.1.setVal HV.out (j := i) 1)
          clear hc
          go_wp2
          go_region_held3 (fun w' => w'.cell? ⟨c.m, 11, none⟩ = some (.slice (some ⟨gv, 0, none⟩) c.nv cv) ∧ w'.cell? ⟨ab, aoff + i, none⟩ = some (.int .i64 x)) (first | go_keep) (first | fail)
          go_wp2
          go_roundw
          case rel =>
            refine ⟨i + 1, by omega, by go_num, hideI ?_, hideI (HFr.out.trans ((HS1.out.2.trans HS2.out.2).drewN 1))⟩
            have h6 := HS2.out.1.drewN 1
            rw [← argVals_next, HE.out, ← setV_twice (argVals s.val ps xs i) i x 1]
            exact h6
          case measure => simp [intOf]; omega
        · have HE : Hid (argOf ps xs i = x) := hideI (by unfold argOf; rw [← HX.out, ← HY.out, if_neg hc])
          have HREL : Hid (∀ W : World, W = (wr.setCell ⟨gv, i, none⟩ (.int .i64 x)).drewN 1 → MachR c K W val { s with val := argVals s.val ps xs (i + 1) } ∧ KF K w W) := hideI fun W hW => by
            subst hW
            refine ⟨?_, HFr.out.trans (HS1.out.2.drewN 1)⟩
            have h6 := HS1.out.1.drewN 1
            rw [← argVals_next, HE.out]
            exact h6
          by_cases hy2 : y = 2
          · have y2 : (y == 2) = true := by simpa using hy2
            have x0 : (x != 0) = false := by simpa using fun e => hc ⟨hy2, e⟩
            clear hc hy2
            go_wp2
            go_region_held3 (fun w' => w'.cell? ⟨c.m, 11, none⟩ = some (.slice (some ⟨gv, 0, none⟩) c.nv cv) ∧ w'.cell? ⟨ab, aoff + i, none⟩ = some (.int .i64 x)) (first | go_keep) (first | fail)
            go_wp2
            go_roundw
            case rel => exact ⟨i + 1, by omega, by go_num, hideI (HREL.out _ rfl).1, hideI (HREL.out _ rfl).2⟩
            case measure => simp [intOf]; omega
          · have y2 : (y == 2) = false := by simpa using hy2
            clear hc hy2
            go_wp2
            go_region_held3 (fun w' => w'.cell? ⟨c.m, 11, none⟩ = some (.slice (some ⟨gv, 0, none⟩) c.nv cv) ∧ w'.cell? ⟨ab, aoff + i, none⟩ = some (.int .i64 x)) (first | go_keep) (first | fail)
            go_wp2
            go_roundw
            case rel => exact ⟨i + 1, by omega, by go_num, hideI (HREL.out _ rfl).1, hideI (HREL.out _ rfl).2⟩
            case measure => simp [intOf]; omega
      · obtain rfl : i = n := by omega
        go_wp2
        go_end0
        exact ⟨rfl, HMr.out, HFr.out⟩
end
end Go.Proofs.YtncmnbchkabgaaaGreat

namespace Go.Proofs.YtncmnbchkabgaaaGreat
open Go.RowKit Go.Maps

/-- between two makings -/
structure MN (W1 W : World) (nv nc : Nat) (M V C : Option Nat) : Prop where
  below : Below W1.heap.size W1 W
  m : ∀ g, M = some g → W1.heap.size ≤ g ∧ g < W.heap.size ∧ OpsAt W g
  v : ∀ g, V = some g → W1.heap.size ≤ g ∧ g < W.heap.size ∧ W.ownsRow 0 3 1 (.slice (some ⟨g, 0, none⟩) nv nv) nv (List.replicate nv (.int .i64 0))
  c : ∀ g, C = some g → W1.heap.size ≤ g ∧ g < W.heap.size ∧ W.ownsRow 0 3 1 (.slice (some ⟨g, 0, none⟩) nc nc) nc (List.replicate nc (.int .i64 0))
  mv : ∀ g h, M = some g → V = some h → g ≠ h
  mc : ∀ g h, M = some g → C = some h → g ≠ h
  vc : ∀ g h, V = some g → C = some h → g ≠ h

section
variable {W1 W W' : World} {nv nc : Nat} {M V C : Option Nat}

theorem MN.start (W1 : World) (n : Nat) : MN W1 (W1.drewN n) nv nc none none none :=
  ⟨below_drewN (Below.refl _ _) n, (fun _ h => by cases h), (fun _ h => by cases h), (fun _ h => by cases h), (fun _ _ h => by cases h), (fun _ _ h => by cases h), (fun _ _ h => by cases h)⟩

theorem MN.grow (h : MN W1 W nv nc M V C) (hb : Below W.heap.size W W') : MN W1 W' nv nc M V C :=
  ⟨h.below.trans (hb.mono h.below.size), fun g e => ⟨(h.m g e).1, Nat.lt_of_lt_of_le (h.m g e).2.1 hb.size, (h.m g e).2.2.below hb (h.m g e).2.1⟩,
    fun g e => ⟨(h.v g e).1, Nat.lt_of_lt_of_le (h.v g e).2.1 hb.size, owns_kept (h.v g e).2.2 fun k hk => hb.block k (by injection hk with hk; rw [← hk]; exact (h.v g e).2.1)⟩,
    fun g e => ⟨(h.c g e).1, Nat.lt_of_lt_of_le (h.c g e).2.1 hb.size, owns_kept (h.c g e).2.2 fun k hk => hb.block k (by injection hk with hk; rw [← hk]; exact (h.c g e).2.1)⟩, h.mv, h.mc, h.vc⟩

theorem MN.ops (h : MN W1 W nv nc none V C) (hb : Below W.heap.size W W') (ho : OpsAt W' W.heap.size) : MN W1 W' nv nc (some W.heap.size) V C := by
  have h1 := h.grow hb
  exact ⟨h1.below, (fun g e => by cases e; exact ⟨h.below.size, ho.lt, ho⟩), h1.v, h1.c, (fun g k e e2 => by cases e; have := (h.v k e2).2.1; omega), (fun g k e e2 => by cases e; have := (h.c k e2).2.1; omega), h1.vc⟩

theorem made_own (W : World) (n : Nat) (hn : n ≤ 2000000) {R : Array Value} (e : R.toList = List.replicate n (.int .i64 0)) : (W.alloc (.cells R 3)).ownsRow 0 3 1 (.slice (some ⟨W.heap.size, 0, none⟩) n n) n (List.replicate n (.int .i64 0)) := by
  have hs : R.size = n := by rw [← Array.length_toList, e]; simp
  exact ⟨by simp, .inr ⟨W.heap.size, n, _, rfl, Nat.zero_le _, heap_alloc_new W _, Nat.le_refl _, by unfold maxLen; omega, by rw [hs]; simp, by rw [e]; simp⟩⟩

theorem MN.vals (h : MN W1 W nv nc M none C) (hn : nv ≤ 2000000) {R : Array Value} (e0 : R.toList = List.replicate nv (.int .i64 0)) : MN W1 (W.alloc (.cells R 3)) nv nc M (some W.heap.size) C := by
  have h1 := h.grow ((Below.refl W.heap.size W).alloc (Nat.le_refl _) (.cells R 3))
  exact ⟨h1.below, h1.m, (fun g e => by cases e; exact ⟨h.below.size, by simp, made_own W nv hn e0⟩), h1.c, (fun g k e e2 => by cases e2; have := (h.m g e).2.1; omega), h1.mc, (fun g k e e2 => by cases e; have := (h.c k e2).2.1; omega)⟩

theorem MN.cells (h : MN W1 W nv nc M V none) (hn : nc ≤ 2000000) {R : Array Value} (e0 : R.toList = List.replicate nc (.int .i64 0)) : MN W1 (W.alloc (.cells R 3)) nv nc M V (some W.heap.size) := by
  have h1 := h.grow ((Below.refl W.heap.size W).alloc (Nat.le_refl _) (.cells R 3))
  exact ⟨h1.below, h1.m, h1.v, (fun g e => by cases e; exact ⟨h.below.size, by simp, made_own W nc hn e0⟩), h1.mv, (fun g k e e2 => by cases e2; have := (h.m g e).2.1; omega), (fun g k e e2 => by cases e2; have := (h.v g e).2.1; omega)⟩
end

/-- a machine, before the rest is made -/
def firstS (nc : Nat) : StM where
  val := fun _ => 0
  cells := List.replicate nc 0
  arrs := []
  out := []
  steps := 0
  checks := 0
  vis := []

/-- the machine is made -/
theorem MN.machine {W1 W : World} {nv nc M V C B : Nat} {f : FuncM} {bv : Value} {F : Int} (h : MN W1 W nv nc (some M) (some V) (some C)) (hbv : BlocksR W1 B bv f.blocks) (hB : B ≤ W1.heap.size) :
    ∃ val : MVals, val .vis = .slice none 0 0 ∧ val .arrs = .slice none 0 0 ∧ MachR ⟨f, B, W.heap.size, M, nv, bv, F⟩ (fun b => b < W1.heap.size ∨ b = M) (W.alloc (.cells #[.int .i64 0, .int .i64 0, .int .i64 0, .slice none 0 0, .slice none 0 0, .int .i64 0, .int .i64 0, .slice none 0 0, .map (some M), bv, .int .i64 F, .slice (some ⟨V, 0, none⟩) nv nv, .slice (some ⟨C, 0, none⟩) nc nc] 66)) val (firstS nc) := by
  have hb := (Below.refl W.heap.size W).alloc (Nat.le_refl _) (.cells #[.int .i64 0, .int .i64 0, .int .i64 0, .slice none 0 0, .slice none 0 0, .int .i64 0, .int .i64 0, .slice none 0 0, .map (some M), bv, .int .i64 F, .slice (some ⟨V, 0, none⟩) nv nv, .slice (some ⟨C, 0, none⟩) nc nc] 66)
  have h1 := h.grow hb
  have hm := h1.m M rfl
  have hv := h1.v V rfl
  have hc := h1.c C rfl
  have hvl := (h.v V rfl).2.1
  have hcl := (h.c C rfl).2.1
  have hml := (h.m M rfl).2.1
  have hvc := h.vc V C rfl rfl
  have hmv := h.mv M V rfl rfl
  have hmc := h.mc M C rfl rfl
  refine ⟨fun t => match t with | .vals => .slice (some ⟨V, 0, none⟩) nv nv | .cells => .slice (some ⟨C, 0, none⟩) nc nc | _ => .slice none 0 0, rfl, rfl, ?_⟩
  have own : ∀ t g, (match t with | MTag.vals => Value.slice (some ⟨V, 0, none⟩) nv nv | .cells => .slice (some ⟨C, 0, none⟩) nc nc | _ => .slice none 0 0).ownBlock = some g → (t = .vals ∧ g = V) ∨ (t = .cells ∧ g = C) := fun t g e => by
    cases t with
    | vals => injection e with e; exact .inl ⟨rfl, e.symm⟩
    | cells => injection e with e; exact .inr ⟨rfl, e.symm⟩
    | _ => cases e
  refine ⟨heap_alloc_new W _, fun t d ht => ?_, fun t t' d d' g _ _ e1 e2 => ?_, fun t d g _ e => ?_, ?_, fun b hb2 => ?_, fun b hb2 => .inl (Nat.lt_of_lt_of_le hb2 hB), .inr rfl, hm.2.2, hbv.keeps (Keeps.of_below (h1.below.mono hB))⟩
  · cases t with
    | vals =>
      injection ht with ht
      subst ht
      have e : (intRow ((List.range nv).map fun (i : Nat) => (firstS nc).val i)) = ⟨3, nv, List.replicate nv (.int .i64 0)⟩ := by
        unfold intRow firstS
        congr 1
        · simp
        · rw [List.map_map]
          apply List.ext_getElem?
          intro k
          by_cases hk : k < nv <;> simp [hk]
      rw [e]
      exact hv.2.2
    | cells =>
      injection ht with ht
      subst ht
      have e : intRow (firstS nc).cells = ⟨3, nc, List.replicate nc (.int .i64 0)⟩ := by
        unfold intRow firstS
        simp
      rw [e]
      exact hc.2.2
    | vis => injection ht with ht; subst ht; exact World.ownsRow_nil _ _ _ _
    | out => injection ht with ht; subst ht; exact World.ownsRow_nil _ _ _ _
    | arrs => injection ht with ht; subst ht; exact World.ownsRow_nil _ _ _ _
    | arr i => cases ht
  · rcases own t g e1 with ⟨rfl, rfl⟩ | ⟨rfl, rfl⟩ <;> rcases own t' _ e2 with ⟨rfl, e3⟩ | ⟨rfl, e3⟩ <;> first | rfl | omega
  · have hge : g = V ∨ g = C := by rcases own t g e with ⟨_, e⟩ | ⟨_, e⟩ <;> simp [e]
    have h3 := (h.v V rfl).1
    have h4 := (h.c C rfl).1
    refine ⟨by show g ≠ W.heap.size; omega, ?_⟩
    rintro (h5 | h5) <;> omega
  · show ¬ (W.heap.size < W1.heap.size ∨ W.heap.size = M)
    have := h.below.size
    omega
  · have := h.below.size
    rcases hb2 with h5 | h5
    · simp; omega
    · simp; omega
end Go.Proofs.YtncmnbchkabgaaaGreat

namespace Go.Proofs.YtncmnbchkabgaaaGreat
open Go.RowKit Go.Maps

section
variable {c : MachC} {K : Nat → Prop} {w w1 : World} {val val' : MVals} {s s' : StM}

/-- one row is another one now -/
theorem MachR.remake (h : MachR c K w val s) (t0 : MTag) (hk : KF K w w1) (hblk : w1.heap[c.m]? = some (.cells (machCells c val' s') 66 (0, 0)))
    (hrows : ∀ t d, mRow s' c.nv val' t = some d → w1.ownsRow 0 d.elem 1 (val' t) d.len d.cells)
    (hown : ∀ t d g, mRow s' c.nv val' t = some d → (val' t).ownBlock = some g → (t ≠ t0 ∧ (∃ d0, mRow s c.nv val t = some d0) ∧ (val t).ownBlock = some g) ∨ (t = t0 ∧ w.heap.size ≤ g)) : MachR c K w1 val' s' := by
  refine ⟨hblk, hrows, fun t t' d d' g h1 h2 e1 e2 => ?_, fun t d g h1 e1 => ?_, h.offm, fun b hb => Nat.lt_of_lt_of_le (h.low b hb) hk.size, h.kB, h.kM, h.ops.heap (hk.block _ h.kM), h.blks.keeps (hk.keeps h.kB)⟩
  · rcases hown t d g h1 e1 with ⟨_, ⟨d0, x0⟩, x1⟩ | ⟨x0, x1⟩
    · rcases hown t' d' g h2 e2 with ⟨_, ⟨d1, y0⟩, y1⟩ | ⟨y0, y1⟩
      · exact h.apart t t' d0 d1 g x0 y0 x1 y1
      · have := h.own_lt x0 x1; omega
    · rcases hown t' d' g h2 e2 with ⟨_, ⟨d1, y0⟩, y1⟩ | ⟨y0, y1⟩
      · have := h.own_lt y0 y1; omega
      · rw [x0, y0]
  · rcases hown t d g h1 e1 with ⟨_, ⟨d0, x0⟩, x1⟩ | ⟨x0, x1⟩
    · exact h.off t d0 g x0 x1
    · refine ⟨by have := h.m_lt; omega, fun hK => by have := h.low g hK; omega⟩

theorem MachR.newVis (h : MachR c K w val s) {v : Value} {n : Nat} (hb : Below w.heap.size w w1) (hown : w1.ownsRow w.heap.size 3 1 v n (List.replicate n (.int .i64 0))) :
    MachR c K (w1.setCell ⟨c.m, 7, none⟩ v) (fun t => if t = .vis then v else val t) { s with vis := List.replicate n 0 } ∧ KF K w (w1.setCell ⟨c.m, 7, none⟩ v) := by
  have hk : KF K w (w1.setCell ⟨c.m, 7, none⟩ v) := (KF.of_below hb h.low).setCell h.offm v
  have hml := h.m_lt
  have row : ∀ t, t ≠ .vis → mRow { s with vis := List.replicate n 0 } c.nv (fun t => if t = .vis then v else val t) t = mRow s c.nv val t := fun t ht => by
    cases t with
    | vis => exact absurd rfl ht
    | arrs => simp [mRow]
    | _ => rfl
  have hge : ∀ g, v.ownBlock = some g → w.heap.size ≤ g := fun g e => (hown.lt g e).1
  refine ⟨h.remake .vis hk ?_ (fun t d ht => ?_) (fun t d g ht e => ?_), hk⟩
  · rw [heap_setCell_same w1 c.m 7 _ _ v ((hb.block _ hml).trans h.blk)]
    congr 2
  · by_cases e : t = .vis
    · subst e
      injection ht with ht
      subst ht
      rw [if_pos rfl]
      have e2 : intRow (List.replicate n 0) = ⟨3, n, List.replicate n (.int .i64 0)⟩ := by unfold intRow; simp
      rw [e2]
      exact ownsRow_setCell_other (World.ownsRow.mono hown (Nat.zero_le _)) (fun e3 => by have := hge _ e3; simp at this; omega) v
    · rw [if_neg e]
      rw [row t e] at ht
      refine owns_kept (h.rows t d ht) fun g hg => ?_
      rw [Below.heap_setCell _ _ _ _ (h.off t d g ht hg).1]
      exact hb.block g (h.own_lt ht hg)
  · by_cases e2 : t = .vis
    · rw [if_pos e2] at e
      exact .inr ⟨e2, hge g e⟩
    · rw [if_neg e2] at e
      rw [row t e2] at ht
      exact .inl ⟨e2, ⟨d, ht⟩, e⟩

theorem MachR.newArrs (h : MachR c K w val s) {v : Value} {n : Nat} (hb : Below w.heap.size w w1) (hown : w1.ownsRow w.heap.size 22 1 v n (List.replicate n (.slice none 0 0))) :
    ∃ val', MachR c K (w1.setCell ⟨c.m, 4, none⟩ v) val' { s with arrs := List.replicate n [] } ∧ KF K w (w1.setCell ⟨c.m, 4, none⟩ v) := by
  have hk : KF K w (w1.setCell ⟨c.m, 4, none⟩ v) := (KF.of_below hb h.low).setCell h.offm v
  have hml := h.m_lt
  have hge : ∀ g, v.ownBlock = some g → w.heap.size ≤ g := fun g e => (hown.lt g e).1
  refine ⟨fun t => match t with | .arrs => v | .arr _ => .slice none 0 0 | t => val t, h.remake .arrs hk ?_ (fun t d ht => ?_) (fun t d g ht e => ?_), hk⟩
  · rw [heap_setCell_same w1 c.m 4 _ _ v ((hb.block _ hml).trans h.blk)]
    congr 2
  · have old : ∀ t', mRow s c.nv val t' = some d → (w1.setCell ⟨c.m, 4, none⟩ v).ownsRow 0 d.elem 1 (val t') d.len d.cells := fun t' ht' => by
      refine owns_kept (h.rows t' d ht') fun g hg => ?_
      rw [Below.heap_setCell _ _ _ _ (h.off t' d g ht' hg).1]
      exact hb.block g (h.own_lt ht' hg)
    cases t with
    | arrs =>
      injection ht with ht
      subst ht
      have e2 : ((List.range (List.replicate n ([] : List Int)).length).map fun i => (Value.slice none 0 0)) = List.replicate n (.slice none 0 0) := by
        rw [List.length_replicate]
        apply List.ext_getElem?
        intro k
        by_cases hk : k < n <;> simp [hk]
      simp only [List.length_replicate] at e2 ⊢
      rw [e2]
      exact ownsRow_setCell_other (World.ownsRow.mono hown (Nat.zero_le _)) (fun e3 => by have := hge _ e3; simp at this; omega) v
    | arr i =>
      simp only [mRow] at ht
      obtain ⟨a, ha, rfl⟩ : ∃ a, (List.replicate n ([] : List Int))[i]? = some a ∧ intRow a = d := by
        cases hx : (List.replicate n ([] : List Int))[i]? with
        | none => rw [hx] at ht; cases ht
        | some a => rw [hx] at ht; exact ⟨a, rfl, by injection ht⟩
      have : a = [] := by
        rw [List.getElem?_replicate] at ha
        split at ha
        · injection ha with ha; exact ha.symm
        · cases ha
      subst this
      exact World.ownsRow_nil _ _ _ _
    | vals => exact old .vals ht
    | cells => exact old .cells ht
    | vis => exact old .vis ht
    | out => exact old .out ht
  · cases t with
    | arrs => exact .inr ⟨rfl, hge g e⟩
    | arr i => cases e
    | vals => exact .inl ⟨by simp, ⟨d, ht⟩, e⟩
    | cells => exact .inl ⟨by simp, ⟨d, ht⟩, e⟩
    | vis => exact .inl ⟨by simp, ⟨d, ht⟩, e⟩
    | out => exact .inl ⟨by simp, ⟨d, ht⟩, e⟩
end

/-- what takeArrays is to do -/
def TakeArrs (f : FuncM) (I : InM) (B : Nat) (w : World) (av : Value) : Prop :=
  ∀ (c : MachC) (K : Nat → Prop) (W : World) (val : MVals) (s : StM), MachR c K W val s → Keeps B w W → (∀ b, b < B → K b) → s.arrs = List.replicate f.arrays.toNat [] →
    Calls Tryz.prog 55 #[.pointer (some ⟨c.m, 0, none⟩), av] W fun e w' => e = .returned (.tuple #[]) ∧ ∃ val', MachR c K w' val' { s with arrs := (startS f I).arrs } ∧ KF K W w'

set_option maxRecDepth 100000 in
set_option maxHeartbeats 1000000 in
theorem takeArrays_none (f : FuncM) (I : InM) (B : Nat) (w : World) (av : Value) (A : Option Addr) (n cp : Nat) (hav : av = .slice A n cp) (h0 : f.arrays = 0) : TakeArrs f I B w av := by
  intro c K W val s h _ _ hs
  subst hav
  have H := hideI h
  have hs0 : s.arrs = [] := by rw [hs, h0]; rfl
  have HE : Hid ({ s with arrs := (startS f I).arrs } = s) := hideI (by
    have : (startS f I).arrs = s.arrs := by rw [hs0]; unfold startS; rw [h0]; rfl
    rw [this])
  have hrow := h.rows .arrs _ rfl
  rw [hs0] at hrow
  have c4 := h.cells 4
  simp only [machCells] at c4
  obtain ⟨A2, cp2, hv⟩ : ∃ A2 cp2, val .arrs = .slice A2 0 cp2 := by
    rcases hrow.2 with ⟨e, _⟩ | ⟨g, cap, cur, e, _⟩
    · exact ⟨none, 0, e⟩
    · exact ⟨_, _, e⟩
  rw [hv] at c4
  clear hrow hv hs hs0 h0 h
  go_enter Tryz.func55, Tryz.ntmps55
  go_wp2
  go_loopw [15] (fun u wr => u = .int .i64 0 ∧ wr = W) (fun _ _ => 0)
  case atStart => exact ⟨rfl, rfl⟩
  case round =>
    obtain ⟨rfl, rfl⟩ := hrel
    go_wp2
    go_end0
    exact ⟨rfl, val, by rw [HE.out]; exact H.out, KF.refl _⟩

theorem MN.done {W1 W : World} {nv nc M V C B : Nat} {f : FuncM} {bv : Value} {F : Int} (h : MN W1 W nv nc (some M) (some V) (some C)) (hbv : BlocksR W1 B bv f.blocks) (hB : B ≤ W1.heap.size) :
    ∃ (c : MachC) (val : MVals), Value.pointer (some ⟨W.heap.size, 0, none⟩) = .pointer (some ⟨c.m, 0, none⟩) ∧ Hid (c.f = f ∧ c.B = B ∧ c.nv = nv ∧ c.fuel = F ∧
      MachR c (fun b => b < W1.heap.size ∨ b = c.M) (W.alloc (.cells #[.int .i64 0, .int .i64 0, .int .i64 0, .slice none 0 0, .slice none 0 0, .int .i64 0, .int .i64 0, .slice none 0 0, .map (some M), bv, .int .i64 F, .slice (some ⟨V, 0, none⟩) nv nv, .slice (some ⟨C, 0, none⟩) nc nc] 66)) val (firstS nc) ∧
      Below W1.heap.size W1 (W.alloc (.cells #[.int .i64 0, .int .i64 0, .int .i64 0, .slice none 0 0, .slice none 0 0, .int .i64 0, .int .i64 0, .slice none 0 0, .map (some M), bv, .int .i64 F, .slice (some ⟨V, 0, none⟩) nv nv, .slice (some ⟨C, 0, none⟩) nc nc] 66))) := by
  obtain ⟨val, _, _, hm⟩ := h.machine (F := F) hbv hB
  exact ⟨_, val, rfl, hideI ⟨rfl, rfl, rfl, rfl, hm, h.below.alloc h.below.size _⟩⟩

theorem start_vals (f : FuncM) (I : InM) : argVals (fun _ => 0) f.params I.args (min f.params.length I.args.length) = (startS f I).val := by
  funext x
  show argVals (fun _ => 0) f.params I.args (min f.params.length I.args.length) x = if 0 ≤ x then argM f I x.toNat else 0
  unfold argVals argM argOf
  by_cases h0 : 0 ≤ x
  · by_cases h1 : x < (min f.params.length I.args.length : Nat)
    · rw [if_pos ⟨h0, h1⟩, if_pos h0]
      exact (if_pos ⟨by omega, by omega⟩).symm
    · rw [if_neg (fun e => h1 e.2), if_pos h0]
      exact (if_neg (by omega)).symm
  · rw [if_neg (fun e => h0 e.1), if_neg h0]

/-- what machineOf hands back -/
def MachPost (f : FuncM) (I : InM) (B : Nat) (_bv : Value) (F : Nat) (w : World) (e : Ending) (w' : World) : Prop :=
  ∃ (c : MachC) (val : MVals), e = .returned (.pointer (some ⟨c.m, 0, none⟩)) ∧ c.f = f ∧ c.B = B ∧ c.nv = (roomM f).toNat ∧ c.fuel = F ∧ MachR c (fun b => b < w.heap.size ∨ b = c.M) w' val (startS f I) ∧ Below w.heap.size w w'

set_option maxRecDepth 100000 in
set_option maxHeartbeats 8000000 in
theorem machineOf_any (f : FuncM) (I : InM) (B : Nat) (pv bv av rv : Value) (F : Nat) (w : World) (hpv : Ints w B pv f.params) (hbv : BlocksR w B bv f.blocks) (hB : B ≤ w.heap.size) (hid : ∀ u ∈ usesM f, I64 u.1)
    (hr : ∀ x ∈ idsOut f, 0 ≤ x ∧ x ≤ 1048575) (hpar : f.params.length ≤ 16 ∧ (f.params.length : Int) ≤ roomM f) (hcel : 0 ≤ f.cells ∧ f.cells ≤ 64) (harr : 0 ≤ f.arrays ∧ f.arrays ≤ 8) (hnb : f.blocks.length ≤ 512)
    (ha : Ints w B av I.args) (hT : TakeArrs f I B w rv) (A2 : Option Addr) (rl rc : Nat) (hrv : rv = .slice A2 rl rc) :
    Calls Tryz.prog 30 #[.agg #[pv, .int .i64 f.arrays, .int .i64 f.cells, bv], .agg #[av, rv], .int .i64 F] w (MachPost f I B bv F w) := by
  obtain ⟨i0, hix, hi2⟩ : ∃ i, Tryz.prog.info? 3 = some i ∧ i.zero = some (.int .i64 0) ∧ i.size = 1 ∧ i.bytes = 8 := ⟨_, rfl, rfl, rfl, rfl⟩
  obtain ⟨hz0, hz1, hz2⟩ := hi2
  obtain ⟨j0, hjx, hj2⟩ : ∃ i, Tryz.prog.info? 22 = some i ∧ i.zero = some (.slice none 0 0) ∧ i.size = 1 ∧ i.bytes = 24 := ⟨_, rfl, rfl, rfl, rfl⟩
  obtain ⟨hy0, hy1, hy2⟩ := hj2
  have HPV := hideI hpv
  have HBV := hideI hbv
  have HAV := hideI ha
  obtain ⟨P, pc, rfl, _, _⟩ := hpv
  obtain ⟨A, cc, rfl, _, _⟩ := hbv
  obtain ⟨A1, ac, rfl, _, _⟩ := ha
  subst hrv
  obtain ⟨nvN, hnv⟩ : ∃ n : Nat, n = (roomM f).toNat := ⟨_, rfl⟩
  have hroom : roomM f = nvN ∧ nvN ≤ 1048576 := by
    unfold roomM at *
    cases hl : (idsOut f).getLast? with
    | none => rw [hl] at hnv; simp only at hnv ⊢; omega
    | some x =>
      have := hr x (List.mem_of_getLast? hl)
      rw [hl] at hnv
      simp only at hnv ⊢
      omega
  obtain ⟨ncN, hnc⟩ : ∃ n : Nat, f.cells = n := ⟨f.cells.toNat, by omega⟩
  obtain ⟨naN, hna⟩ : ∃ n : Nat, f.arrays = n := ⟨f.arrays.toNat, by omega⟩
  obtain ⟨nb, hnbN⟩ : ∃ n : Nat, n = f.blocks.length := ⟨_, rfl⟩
  obtain ⟨W1, hW1⟩ : ∃ W1, W1 = (w.alloc (.cells #[.slice P f.params.length pc, .int .i64 f.arrays, .int .i64 f.cells, .slice A f.blocks.length cc] 25)).alloc (.cells #[.slice A1 I.args.length ac, .slice A2 rl rc] 28) := ⟨_, rfl⟩
  have hb1 : Below w.heap.size w W1 := by rw [hW1]; exact ((Below.refl _ w).alloc (Nat.le_refl _) _).alloc (by simp) _
  have hs1 : W1.heap.size = w.heap.size + 2 := by rw [hW1]; simp
  have hf0 : W1.heap[w.heap.size]? = some (.cells #[.slice P f.params.length pc, .int .i64 f.arrays, .int .i64 f.cells, .slice A f.blocks.length cc] 25 (0, 0)) := by
    rw [hW1, Below.heap_alloc _ _ _ (by simp)]
    exact heap_alloc_new w _
  have hi0 : W1.heap[w.heap.size + 1]? = some (.cells #[.slice A1 I.args.length ac, .slice A2 rl rc] 28 (0, 0)) := by
    rw [hW1]
    have := heap_alloc_new (w.alloc (.cells #[.slice P f.params.length pc, .int .i64 f.arrays, .int .i64 f.cells, .slice A f.blocks.length cc] 25)) (.cells #[.slice A1 I.args.length ac, .slice A2 rl rc] 28)
    simpa using this
  have hk1 : Keeps B w W1 := Keeps.of_below (hb1.mono hB)
  rw [hnc, hna, ← hnbN] at hf0
  rw [hnc, hna, ← hnbN] at hW1
  have HF0 := hideI hf0
  have HI0 := hideI hi0
  have HB1 := hideI hb1
  have HS1 := hideI hs1
  have HW1 := hideI hW1
  have HBX : Hid (∀ W, Below W1.heap.size W1 W → W.cell? ⟨w.heap.size, 0, none⟩ = some (.slice P f.params.length pc) ∧ W.cell? ⟨w.heap.size, 1, none⟩ = some (.int .i64 naN) ∧ W.cell? ⟨w.heap.size, 2, none⟩ = some (.int .i64 ncN) ∧ W.cell? ⟨w.heap.size, 3, none⟩ = some (.slice A nb cc) ∧ W.cell? ⟨w.heap.size + 1, 0, none⟩ = some (.slice A1 I.args.length ac) ∧ W.cell? ⟨w.heap.size + 1, 1, none⟩ = some (.slice A2 rl rc)) := hideI fun W hW => by
    have hx := row_cells HF0.out (hW.block _ (by have := HS1.out; omega))
    have hy := row_cells HI0.out (hW.block _ (by have := HS1.out; omega))
    exact ⟨hx 0, hx 1, hx 2, hx 3, hy 0, hy 1⟩
  have HROOM : Hid (∀ W, Below W1.heap.size W1 W → Calls Tryz.prog 53 #[.agg #[.slice P f.params.length pc, .int .i64 naN, .int .i64 ncN, .slice A nb cc]] W fun e w' => e = .returned (.int .i64 nvN) ∧ Below W.heap.size W w') := hideI fun W hW => by
    have hk := hk1.trans (Keeps.of_below (hW.mono (by have := HS1.out; omega)))
    have h := roomFor_any f B _ _ W (HPV.out.keeps hk) (HBV.out.keeps hk) (by have := hW.size; have := HS1.out; omega) hid hr
    rw [hroom.1, hnc, hna, ← hnbN] at h
    exact h
  obtain ⟨RV, hRV⟩ : ∃ RV, RV = madeCells (Value.int .i64 0).cells (nvN * 1) := ⟨_, rfl⟩
  obtain ⟨RC, hRC⟩ : ∃ RC, RC = madeCells (Value.int .i64 0).cells (ncN * 1) := ⟨_, rfl⟩
  have HRV : Hid (RV.toList = List.replicate nvN (.int .i64 0)) := hideI (by rw [hRV, Nat.mul_one]; exact madeRow_zero nvN)
  have HRC : Hid (RC.toList = List.replicate ncN (.int .i64 0)) := hideI (by rw [hRC, Nat.mul_one]; exact madeRow_zero ncN)
  have hmkV : ∀ W : World, (Instr.makeSlice 22 (.int .i64 nvN) (.int .i64 nvN)).run Tryz.prog W = .ok (.slice (some ⟨W.heap.size, 0, none⟩) nvN nvN) (W.alloc (.cells RV 3)) := fun W => by
    have := run_make (P := Tryz.prog) W 22 3 i0 (.int .i64 0) Tryz.underlying22 hix hz0 .i64 .i64 (nvN : Int) (nvN : Int) (by omega) (Int.le_refl _) (by rw [hz2]; omega) (by omega)
    rw [hz1, Int.toNat_natCast, ← hRV] at this
    exact this
  have hmkC : ∀ W : World, (Instr.makeSlice 22 (.int .i64 ncN) (.int .i64 ncN)).run Tryz.prog W = .ok (.slice (some ⟨W.heap.size, 0, none⟩) ncN ncN) (W.alloc (.cells RC 3)) := fun W => by
    have := run_make (P := Tryz.prog) W 22 3 i0 (.int .i64 0) Tryz.underlying22 hix hz0 .i64 .i64 (ncN : Int) (ncN : Int) (by omega) (Int.le_refl _) (by rw [hz2]; omega) (by omega)
    rw [hz1, Int.toNat_natCast, ← hRC] at this
    exact this
  have HNV : Hid (nvN = (roomM f).toNat ∧ nvN ≤ 1048576 ∧ ncN ≤ 64 ∧ naN ≤ 8 ∧ nb ≤ 512) := hideI ⟨hnv, hroom.2, by omega, by omega, by omega⟩
  have HBV1 := hideI (HBV.out.keeps hk1)
  rw [← hnbN] at HBV1
  have HNC := hideI hnc
  have HNA := hideI hna
  have HNB := hideI hnbN
  have HPAR := hideI hpar
  have HT := hideI hT
  have hbx := HBX.out W1 (Below.refl _ _)
  obtain ⟨q0, q1, q2, q3, q4, q5⟩ := hbx
  have hlt0 : w.heap.size < W1.heap.size := by omega
  have hlt1 : w.heap.size + 1 < W1.heap.size := by omega
  rw [hnc, hna, ← hnbN]
  clear hRV hRC hnv hroom hnc hna hnbN hpar hT hW1 hb1 hs1 hf0 hi0 hk1 hid hr hcel harr hnb
  go_enter Tryz.func30, Tryz.ntmps30
  go_upto_region 1 with fail
  rw [← HW1.out]
  go_cut [7] (fun u wx => ∃ (c : MachC) (val : MVals), u = .pointer (some ⟨c.m, 0, none⟩) ∧ Hid (c.f = f ∧ c.B = B ∧ c.nv = nvN ∧ c.fuel = F ∧ MachR c (fun b => b < W1.heap.size ∨ b = c.M) wx val (firstS ncN) ∧ Below W1.heap.size W1 wx))
  case first =>
    have hc64 : ncN ≤ 2000000 := by have := HNV.out; omega
    have hv20 : nvN ≤ 2000000 := by have := HNV.out; omega
    have HC64 := hideI hc64
    have HV20 := hideI hv20
    have hw1B : B ≤ W1.heap.size := by have := HS1.out; omega
    have HW1B := hideI hw1B
    clear hc64 hv20 hw1B q4 q5
    go_region_held3 (fun w' => w'.cell? ⟨w.heap.size, 0, none⟩ = some (.slice P f.params.length pc) ∧ w'.cell? ⟨w.heap.size, 1, none⟩ = some (.int .i64 naN) ∧ w'.cell? ⟨w.heap.size, 2, none⟩ = some (.int .i64 ncN) ∧ w'.cell? ⟨w.heap.size, 3, none⟩ = some (.slice A nb cc)) (first | go_keep | exact HKP.out)
      (first
        | (go_at_call 52; refine (pairs_any _).mono ?_; rintro e w2 ⟨rfl, hops, hbp⟩; (first | (have hMN := hideI (MN.ops (MN.start W1 1 (nv := nvN) (nc := ncN)) hbp hops)) | (have hMN := hideI (MN.ops (MN.cells (MN.start W1 1 (nv := nvN) (nc := ncN)) HC64.out HRC.out) hbp hops))); have hpp := HBX.out _ hMN.out.below; have HKP := hideI (And.intro hpp.1 (And.intro hpp.2.1 (And.intro hpp.2.2.1 hpp.2.2.2.1))); have hw2l := hMN.out.below.size; clear hpp hops hbp)
        | (go_at_call 53; refine (HROOM.out _ (by first | exact hMN.out.below | exact (hMN.out.cells HC64.out HRC.out).below)).mono ?_; rintro e w3 ⟨rfl, hbr⟩; (first | (have hMN2 := hideI (hMN.out.grow hbr)) | (have hMN2 := hideI ((hMN.out.cells HC64.out HRC.out).grow hbr))); have hpp := HBX.out _ hMN2.out.below; have HKP := hideI (And.intro hpp.1 (And.intro hpp.2.1 (And.intro hpp.2.2.1 hpp.2.2.2.1))); have hw3l := hMN2.out.below.size; clear hpp hbr))
    all_goals
      go_wp2_with fail
      go_meet
      first
        | (have hd := MN.done (F := (F : Int)) (hMN2.out.vals HV20.out HRV.out) HBV1.out HW1B.out
           simp only [World.size_alloc, World.heap_drewN] at hd
           exact hd)
        | (have hd := MN.done (F := (F : Int)) ((hMN2.out.cells HC64.out HRC.out).vals HV20.out HRV.out) HBV1.out HW1B.out
           simp only [World.size_alloc, World.heap_drewN] at hd
           exact hd)
        | (have hd := MN.done (F := (F : Int)) ((hMN2.out.vals HV20.out HRV.out).cells HC64.out HRC.out) HBV1.out HW1B.out
           simp only [World.size_alloc, World.heap_drewN] at hd
           exact hd)
  case rest =>
    obtain ⟨c, val, rfl, hcut⟩ := hcut
    obtain ⟨hcf, hcB, hcn, hcF, hm, hb⟩ := hcut.out
    have HC := hideI (And.intro hcf (And.intro hcB (And.intro hcn hcF)))
    have HM := hideI hm
    have HBW := hideI hb
    have q := HBX.out _ hb
    clear q0 q1 q2 q3 q4 q5 hcut hcf hcB hcn hcF
    obtain ⟨q0, q1, q2, q3, q4, q5⟩ := q
    have f7 := hm.free 7
    have c7 := hm.cells 7
    simp only [machCells] at c7
    have hml := hm.m_lt
    have hnbl := HNV.out
    have z1 : ¬ c.m = w.heap.size := fun e => HM.out.offm (.inl (by rw [e]; omega))
    have z1' : ¬ w.heap.size = c.m := fun e => z1 e.symm
    have z2 : ¬ c.m = w.heap.size + 1 := fun e => HM.out.offm (.inl (by rw [e]; omega))
    have z2' : ¬ w.heap.size + 1 = c.m := fun e => z2 e.symm
    have HBY : Hid (∀ W, Below wc.heap.size wc W → Below W1.heap.size W1 W) := hideI fun W hW => HBW.out.trans (hW.mono HBW.out.size)
    clear hm hb
    go_upto_region 3 with (first
      | (at_make; go_must (refine wpList_make_full _ rfl _ _ 22 rfl wc.heap.size 3 i0 (.int .i64 0) 1 Tryz.underlying22 hix hz0 hz1 .i64 .i64 _ _ nb rfl rfl rfl rfl (by rw [hz2]; omega) (by unfold maxLen; omega) (Nat.le_refl _) ?_); intro w5 hown5 hg5; have hB5 : Below wc.heap.size wc w5 := (Below.refl _ _).grown hg5 (Nat.le_refl _) (by simp); have HB5 := hideI hB5; have HO5 := hideI hown5; have c7' := (World.cell?_of_block (a := ⟨c.m, 7, none⟩) (hB5.block _ hml)).trans c7; have f7' := (World.frozen?_of_block (a := ⟨c.m, 7, none⟩) (hB5.block _ hml)).trans f7; clear hown5 hg5 hB5 c7 f7 q0 q1 q2 q3 q4 q5))
    obtain ⟨W6, hW6⟩ : ∃ W6, W6 = w5.setCell ⟨c.m, 7, none⟩ (.slice (some ⟨wc.heap.size, 0, none⟩) nb nb) := ⟨_, rfl⟩
    have h6 := HM.out.newVis (n := nb) HB5.out (v := .slice (some ⟨wc.heap.size, 0, none⟩) nb nb) (by have h := HO5.out; rw [Nat.mul_one, madeRow_zero] at h; exact h)
    have hb6 : Below W1.heap.size W1 W6 := by rw [hW6]; exact (HBY.out _ HB5.out).setCell (p := ⟨c.m, 7, none⟩) (Nat.not_lt.1 (fun e => HM.out.offm (.inl e))) _
    rw [← hW6] at h6 ⊢
    obtain ⟨h6a, h6b⟩ := h6
    obtain ⟨q0, q1, q2, q3, q4, q5⟩ := HBX.out _ hb6
    have f4 := h6a.free 4
    have c4 := h6a.cells 4
    simp only [machCells] at c4
    have hml6 := h6a.m_lt
    have HM6 := hideI h6a
    have HB6 := hideI hb6
    clear c7' f7' h6a h6b hW6 hb6
    have hna8 := HNV.out
    go_upto_region 4 with (first
      | (at_make; go_must (refine wpList_make_full _ rfl _ _ 26 rfl W6.heap.size 22 j0 (.slice none 0 0) 1 Tryz.underlying26 hjx hy0 hy1 .i64 .i64 _ _ naN rfl rfl rfl rfl (by rw [hy2]; omega) (by unfold maxLen; omega) (Nat.le_refl _) ?_); intro w7 hown7 hg7; have hB7 : Below W6.heap.size W6 w7 := (Below.refl _ _).grown hg7 (Nat.le_refl _) (by simp); have HB7 := hideI hB7; have HO7 := hideI hown7; have c4' := (World.cell?_of_block (a := ⟨c.m, 4, none⟩) (hB7.block _ hml6)).trans c4; have f4' := (World.frozen?_of_block (a := ⟨c.m, 4, none⟩) (hB7.block _ hml6)).trans f4; clear hown7 hg7 hB7 c4 f4 q0 q1 q2 q3 q4 q5))
    obtain ⟨W8, hW8⟩ : ∃ W8, W8 = w7.setCell ⟨c.m, 4, none⟩ (.slice (some ⟨W6.heap.size, 0, none⟩) naN naN) := ⟨_, rfl⟩
    have h8 := HM6.out.newArrs (n := naN) HB7.out (v := .slice (some ⟨W6.heap.size, 0, none⟩) naN naN) (by have h := HO7.out; rw [Nat.mul_one, show (Value.slice none 0 0).cells = #[.slice none 0 0] from rfl, toList_madeCells_one] at h; exact h)
    rw [← hW8] at h8 ⊢
    obtain ⟨val8, h8a, h8b⟩ := h8
    have hb8 : Below W1.heap.size W1 W8 := HB6.out.trans (h8b.below (fun b hb => .inl hb))
    obtain ⟨q0, q1, q2, q3, q4, q5⟩ := HBX.out _ hb8
    have HM8 := hideI h8a
    have HB8 := hideI hb8
    have HKB : Hid (∀ W, Below W1.heap.size W1 W → Keeps B w W) := hideI fun W hW => (Keeps.of_below (HB1.out.mono hB)).trans (Keeps.of_below (hW.mono (by have := HS1.out; omega)))
    have HBK : Hid (∀ b, b < B → b < W1.heap.size ∨ b = c.M) := hideI fun b hb => .inl (by have := HS1.out; omega)
    have HA := hideI (takeArgs_any h8a f.params I.args B (.slice P f.params.length pc) (.slice A1 I.args.length ac) (HPV.out.keeps (HKB.out _ hb8)) (HAV.out.keeps (HKB.out _ hb8)) HBK.out (by have := HPAR.out; have := HNV.out; have := HC.out.2.2.1; omega) HPAR.out.1)
    clear c4' f4' hW8 h8a h8b hb8
    go_wp2_with (first
      | (go_at_call 54; refine HA.out.mono ?_; rintro e w9 ⟨rfl, hm9, hf9⟩; have hb9 : Below W1.heap.size W1 w9 := HB8.out.trans (hf9.below (fun b hb => .inl hb)); have HM9 := hideI hm9; have HB9 := hideI hb9; clear hm9 hf9 hb9 q0 q1 q2 q3 q4 q5; have qq := HBX.out w9 HB9.out; obtain ⟨q0, q1, q2, q3, q4, q5⟩ := qq)
      | (go_at_call 55; refine (HT.out c _ w9 val8 _ HM9.out (HKB.out _ HB9.out) HBK.out (by rw [HNA.out]; rfl)).mono ?_; rintro e w10 ⟨rfl, val10, hm10, hf10⟩; have HM10 := hideI hm10; have HB10 := hideI (HB9.out.trans (hf10.below (fun b hb => .inl hb))); clear hm10 hf10))
    go_ret
    have e : startS f I = { val := argVals (fun _ => 0) f.params I.args (min f.params.length I.args.length), cells := List.replicate ncN 0, arrs := (startS f I).arrs, out := [], steps := 0, checks := 0, vis := List.replicate nb 0 } := by
      rw [start_vals]
      unfold startS
      rw [HNC.out, ← HNB.out]
      rfl
    refine ⟨c, val10, rfl, HC.out.1, HC.out.2.1, by rw [HC.out.2.2.1]; exact HNV.out.1, HC.out.2.2.2, ?_, HB1.out.trans (HB10.out.mono (by have := HS1.out; omega))⟩
    rw [e]
    exact HM10.out.less (fun b hb => by rcases hb with hb | hb; exact .inl (by have := HS1.out; omega); exact .inr hb) (fun b hb => .inl (by have := HC.out.2.1; omega)) (.inr rfl)

end Go.Proofs.YtncmnbchkabgaaaGreat
