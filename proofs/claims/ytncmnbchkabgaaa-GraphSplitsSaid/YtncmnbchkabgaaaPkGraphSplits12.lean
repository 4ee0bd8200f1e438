/- What GraphSplits rests on, part 12: RSplitY, AwakeM, AwakeN, Awake3, RefSame. -/
import Derived.Test.YtncmnbchkabgaaaPkGraphSplits11
import Derived.IntWalk
import Derived.Outline
import Derived.Deep.RegionHeld3
import Derived.Deep.DeepCutAuto
import Derived.Deep.RegionWith
import Derived.Deep.AppendLies
import Derived.BigQuiet
import Derived.Deep.QuietTactic

namespace Go.Proofs.Ytncmnbchkabgaaa
open Go.RowKit Go.Maps

/-- how far the reference's Split has come: n phis are done, and m places of the next one -/
structure RsSt (fA : FuncM) (t n m : Nat) (from_ mid : Int) (st : Bool) (p : PhiM) (PV BV PH : Value) (bl : List VarD) (w wr : World) (v : Vals) : Prop where
  own : OwnC w wr (rowOf (setPhi (comeTo fA t n from_ mid st) t n (stepM from_ mid st m p)) v) v (TI (setPhi (comeTo fA t n from_ mid st) t n (stepM from_ mid st m p))) bl
  par : v .params = PV
  blk : v .blocks = BV
  phs : v (.phis t) = PH

structure RsSt0 (fA : FuncM) (t n : Nat) (from_ mid : Int) (st : Bool) (PV BV PH : Value) (bl : List VarD) (w wr : World) (v : Vals) : Prop where
  own : OwnC w wr (rowOf (comeTo fA t n from_ mid st) v) v (TI (comeTo fA t n from_ mid st)) bl
  par : v .params = PV
  blk : v .blocks = BV
  phs : v (.phis t) = PH

section
variable {fA : FuncM} {t n m : Nat} {from_ mid : Int} {st : Bool} {p : PhiM} {q : BlockM} {PV BV PH : Value} {bl : List VarD} {w wr : World} {v : Vals}

theorem RsSt0.enter (h : RsSt0 fA t n from_ mid st PV BV PH bl w wr v) (hq : fA.blocks[t]? = some q) (hp : q.phis[n]? = some p) : RsSt fA t n 0 from_ mid st p PV BV PH bl w wr v := by
  have e : setPhi (comeTo fA t n from_ mid st) t n (stepM from_ mid st 0 p) = comeTo fA t n from_ mid st := by
    rw [stepM_zero]
    exact setPhi_self (comeTo_block hq) (phisTo_at hp)
  exact ⟨by rw [e]; exact h.own, h.par, h.blk, h.phs⟩

theorem RsSt.leave (h : RsSt fA t n m from_ mid st p PV BV PH bl w wr v) (hq : fA.blocks[t]? = some q) (hp : q.phis[n]? = some p) (hm : p.fr.length ≤ m) : RsSt0 fA t (n + 1) from_ mid st PV BV PH bl w wr v := by
  have e : setPhi (comeTo fA t n from_ mid st) t n (stepM from_ mid st m p) = comeTo fA t (n + 1) from_ mid st := by
    rw [stepM_all hm]
    exact comeTo_next hq hp
  exact ⟨by rw [← e]; exact h.own, h.par, h.blk, h.phs⟩

theorem RsSt.skip {x : Int} (h : RsSt fA t n m from_ mid st p PV BV PH bl w wr v) (hx : p.fr[m]? = some x) (hne : x ≠ from_) : RsSt fA t n (m + 1) from_ mid st p PV BV PH bl w wr v := by
  have e := stepM_skip (mid := mid) (st := st) hx hne
  exact ⟨by rw [e]; exact h.own, h.par, h.blk, h.phs⟩

/-- the block and the phi that are worked at -/
theorem rs_block (hq : fA.blocks[t]? = some q) (hp : q.phis[n]? = some p) : ∃ q2, (setPhi (comeTo fA t n from_ mid st) t n (stepM from_ mid st m p)).blocks[t]? = some q2 ∧ q2.phis[n]? = some (stepM from_ mid st m p) ∧ q2.phis.length = q.phis.length := by
  have hn := (List.getElem?_eq_some_iff.1 hp).1
  refine ⟨putPhi n (stepM from_ mid st m p) (phisTo n from_ mid st q), ?_, ?_, ?_⟩
  · rw [setPhi_block, if_pos rfl, comeTo_block hq]
    rfl
  · show ((phisTo n from_ mid st q).phis.set n _)[n]? = _
    rw [List.getElem?_set_self (by rw [phisTo_len]; exact hn)]
  · show ((phisTo n from_ mid st q).phis.set n _).length = _
    rw [List.length_set, phisTo_len]

/-- a phi that is put again -/
theorem setPhi_twice {f : FuncM} {t i : Nat} {a b : PhiM} : setPhi (setPhi f t i a) t i b = setPhi f t i b := by
  unfold setPhi
  congr 1
  apply List.ext_getElem?
  intro k
  rw [modify_at, modify_at, modify_at]
  split
  · cases f.blocks[k]? with
    | none => rfl
    | some q =>
      simp only [Option.map_some]
      unfold putPhi
      simp
  · rfl
end

section
variable {f : FuncM} {val : Vals} {k : Nat} {q : BlockM} {w0 w : World} {bl : List VarD}

theorem OwnC.blockCell {gb n bc r : Nat} {u : Value} (h : OwnC w0 w (rowOf f val) val (TI f) bl) (hq : f.blocks[k]? = some q) (hv : val .blocks = .slice (some ⟨gb, 0, none⟩) n bc) (hn : f.blocks.length = n) (hr : r < 6) (hu : (blockCells val k q)[r]? = some u) : w.cell? ⟨gb, k * 6 + r, none⟩ = some u := by
  have hkl := (List.getElem?_eq_some_iff.1 hq).1
  have := (h.own.cell (tp := .blocks) rfl rfl hv hn (j := k * 6 + r) (by show _ < n * 6; omega)).1
  have h2 := cellsOf_at (blockCells_len val) f.blocks 0 k r q hq hr
  rw [Nat.zero_add] at h2
  exact this.trans (h2.trans hu)

theorem OwnC.phiCell {gp n pc r i : Nat} {u : Value} {p : PhiM} (h : OwnC w0 w (rowOf f val) val (TI f) bl) (hq : f.blocks[k]? = some q) (hp : q.phis[i]? = some p) (hv : val (.phis k) = .slice (some ⟨gp, 0, none⟩) n pc) (hn : q.phis.length = n) (hr : r < 4) (hu : (phiCells val k i p)[r]? = some u) : w.cell? ⟨gp, i * 4 + r, none⟩ = some u ∧ w.frozen? ⟨gp, i * 4 + r, none⟩ = false := by
  have hil := (List.getElem?_eq_some_iff.1 hp).1
  have := h.own.cell (tp := .phis k) (TI.of (val := val) (row_phis hq)) (row_phis hq) hv hn (j := i * 4 + r) (by show _ < n * 4; omega)
  rw [phi_cell hp hr, hu] at this
  exact this

theorem OwnC.box {g : Nat} {cs : Array Value} {T : TypeId} {row : Rows} {D : Tag → Prop} (h : OwnC w0 w row val D bl) (hm : (g, cs, T) ∈ bl) : ∀ o, w.cell? ⟨g, o, none⟩ = cs[o]? ∧ w.frozen? ⟨g, o, none⟩ = false := fun o =>
  ⟨row_cells (h.cells _ hm).1 rfl o, frozen_of_row w g o _ _ (h.cells _ hm).1⟩
end

section
variable {fA : FuncM} {t n m : Nat} {from_ mid : Int} {st : Bool} {p : PhiM} {q : BlockM} {PV BV PH : Value} {bl : List VarD} {w wr : World} {v : Vals}

theorem stepM_len : p.fr.length ≤ (stepM from_ mid st m p).fr.length := by
  unfold stepM comeM
  split
  · split
    · split
      · simp
      · simp
    · exact Nat.le_refl _
  · exact Nat.le_refl _

/-- at the place that is looked for, the phi is as it was -/
theorem RsSt.hit (h : RsSt fA t n m from_ mid st p PV BV PH bl w wr v) (hq : fA.blocks[t]? = some q) (hp : q.phis[n]? = some p) (hn : p.fr.Nodup) (hx : p.fr[m]? = some from_) : RsSt0 fA t n from_ mid st PV BV PH bl w wr v := by
  have e : setPhi (comeTo fA t n from_ mid st) t n (stepM from_ mid st m p) = comeTo fA t n from_ mid st := by
    rw [stepM_at_hit hn hx]
    exact setPhi_self (comeTo_block hq) (phisTo_at hp)
  exact ⟨by rw [← e]; exact h.own, h.par, h.blk, h.phs⟩

/-- the place is put -/
theorem RsSt0.put {gf fc : Nat} (h : RsSt0 fA t n from_ mid false PV BV PH bl w wr v) (hq : fA.blocks[t]? = some q) (hp : q.phis[n]? = some p) (hn : p.fr.Nodup) (hx : p.fr[m]? = some from_) (hv : v (.fr t n) = .slice (some ⟨gf, 0, none⟩) p.fr.length fc) :
    RsSt fA t n (m + 1) from_ mid false p PV BV PH bl w (wr.setCell ⟨gf, m, none⟩ (.int .i64 mid)) v := by
  have e : stepM from_ mid false (m + 1) p = { p with fr := p.fr.set m mid } := by
    rw [stepM_hit hx]
    unfold comeM
    rw [if_pos (List.mem_of_getElem? hx), idx_hit hn hx]
    rfl
  refine ⟨?_, h.par, h.blk, h.phs⟩
  rw [e]
  exact h.own.putFr (comeTo_block hq) (phisTo_at hp) hv

/-- both lists have grown -/
theorem RsSt0.grown {y : Int} {F V : Value} {row2 : Rows} (h : RsSt0 fA t n from_ mid true PV BV PH bl w wr v) (hq : fA.blocks[t]? = some q) (hp : q.phis[n]? = some p) (hn : p.fr.Nodup) (hx : p.fr[m]? = some from_) (hy : p.vals[m]? = some y) {w2 : World}
    (hr : row2 = upd (upd (upd (upd (rowOf (comeTo fA t n from_ mid true) v) (.fr t n) (some (intsRow (p.fr ++ [mid])))) (.phis t) (some ⟨49, 4, (phisTo n from_ mid true q).phis.length, (cellsOf (phiCells v t) 0 (phisTo n from_ mid true q).phis).set (n * 4 + 2) F⟩)) (.vals t n) (some (intsRow (p.vals ++ [y])))) (.phis t) (some ⟨49, 4, (phisTo n from_ mid true q).phis.length, ((cellsOf (phiCells v t) 0 (phisTo n from_ mid true q).phis).set (n * 4 + 2) F).set (n * 4 + 3) V⟩))
    (ho : OwnC w w2 row2 (upd (upd v (.fr t n) F) (.vals t n) V) (TI (comeTo fA t n from_ mid true)) bl) :
    RsSt fA t n (m + 1) from_ mid true p PV BV PH bl w w2 (upd (upd v (.fr t n) F) (.vals t n) V) := by
  have e : stepM from_ mid true (m + 1) p = { p with fr := p.fr ++ [mid], vals := p.vals ++ [y] } := by
    rw [stepM_hit hx]
    unfold comeM
    rw [if_pos (List.mem_of_getElem? hx), idx_hit hn hx, hy]
    rfl
  refine ⟨?_, ?_, ?_, ?_⟩
  · rw [e]
    exact OwnC.putBoth (comeTo_block hq) (phisTo_at hp) hr ho
  · rw [upd_ne _ _ (by simp), upd_ne _ _ (by simp)]; exact h.par
  · rw [upd_ne _ _ (by simp), upd_ne _ _ (by simp)]; exact h.blk
  · rw [upd_ne _ _ (by simp), upd_ne _ _ (by simp)]; exact h.phs
end
set_option maxRecDepth 100000 in
set_option maxHeartbeats 8000000 in
theorem refSplit_yes (f : FuncM) (from_ k : Int) (B : Nat) (pv bv : Value) (w : World) (hpv : Ints w B pv f.params) (hbv : BlocksR w B bv f.blocks) (hB : B ≤ w.heap.size) (hyes : splitErr f from_ k = 0) :
    Calls Try.prog 10 #[.agg #[pv, .int .i64 f.arrays, .int .i64 f.cells, bv], .int .i64 from_, .int .i64 k] w (GSplitPost f from_ k w) := by
  have HYES := hideI hyes
  obtain ⟨h0, hh, hl5, hs4⟩ := splitErr_zero hyes
  obtain ⟨i, j, b, rfl, rfl, hb, hj⟩ := hasM_yes hh
  have HP := hideI hpv
  have HBL := hideI hbv
  obtain ⟨P, pc, rfl, _⟩ := hpv
  obtain ⟨A, c, rfl, _, hbm⟩ := hbv
  have hi := (List.getElem?_eq_some_iff.1 hb).1
  have hs := look_small h0
  obtain ⟨tz, htz⟩ : ∃ tz, b.term.to[j]? = some tz := ⟨_, List.getElem?_eq_getElem hj⟩
  have hto : toOf f i j = tz := by unfold toOf; rw [hb]; show (b.term.to[j]?).getD 0 = tz; rw [htz]; rfl
  have hst : staysM f i j = decide (tz ∈ b.term.to.set j (f.blocks.length : Int)) := by unfold staysM; rw [hb, hto]
  obtain ⟨tn, htn, htl⟩ : ∃ tn : Nat, tz = tn ∧ tn < f.blocks.length := by
    have h1 := look_term h0 b (List.mem_of_getElem? hb)
    unfold termB targetsB withinB at h1
    simp only [Bool.and_eq_true, List.all_eq_true, decide_eq_true_eq] at h1
    have h2 := h1.1 tz (List.mem_of_getElem? htz)
    exact ⟨tz.toNat, by omega, by omega⟩
  subst htn
  obtain ⟨g, off, phv, cov, tv, rfl, hg, _, _, _, _, q4, _, _, _, hti, _⟩ := hbm i b hb
  obtain ⟨T, tc, rfl, _, htx⟩ := id hti
  obtain ⟨tb, u, rfl, htb, q5⟩ := htx j hj
  rw [htz] at q5
  obtain ⟨nb, hnb⟩ : ∃ nb, nb = f.blocks.length := ⟨_, rfl⟩
  obtain ⟨np, hnp⟩ : ∃ np, np = f.params.length := ⟨_, rfl⟩
  obtain ⟨nt, hnt⟩ : ∃ nt, nt = b.term.to.length := ⟨_, rfl⟩
  obtain ⟨bx, hbx⟩ : ∃ bx : Array Value, bx = #[.slice P np pc, .int .i64 f.arrays, .int .i64 f.cells, .slice (some ⟨g, off, none⟩) nb c] := ⟨_, rfl⟩
  obtain ⟨rs, hrs⟩ : ∃ rs : Array Value, rs = #[.slice none 0 0, .int .i64 0, .int .i64 0, .slice none 0 0] := ⟨_, rfl⟩
  obtain ⟨W0, hW0⟩ : ∃ W0, W0 = (w.alloc (.cells #[.slice P np pc, .int .i64 f.arrays, .int .i64 f.cells, .slice (some ⟨g, off, none⟩) nb c] 25)).alloc (.cells #[.slice none 0 0, .int .i64 0, .int .i64 0, .slice none 0 0] 25) := ⟨_, rfl⟩
  have hst0 := ((OwnC.nothing w (fun _ => none) (fun _ => .slice none 0 0)).make #[.slice P np pc, .int .i64 f.arrays, .int .i64 f.cells, .slice (some ⟨g, off, none⟩) nb c] 25).make #[.slice none 0 0, .int .i64 0, .int .i64 0, .slice none 0 0] 25
  rw [← hW0] at hst0
  simp only [World.size_alloc] at hst0
  rw [← hbx, ← hrs] at hst0
  have HST := hideI hst0
  have HW0 := hideI hW0
  have HBX := hideI hbx
  have HRS := hideI hrs
  have HKB : Hid (∀ W, Below w.heap.size w W → Keeps B w W) := hideI fun W hW => Keeps.of_below (hW.mono hB)
  have HFX : Hid (∀ W row vv D bl, OwnC w W row vv D bl → (w.heap.size, bx, 25) ∈ bl → W.cell? ⟨w.heap.size, 0, none⟩ = some (.slice P np pc) ∧ W.cell? ⟨w.heap.size, 1, none⟩ = some (.int .i64 f.arrays) ∧ W.cell? ⟨w.heap.size, 2, none⟩ = some (.int .i64 f.cells) ∧ W.cell? ⟨w.heap.size, 3, none⟩ = some (.slice (some ⟨g, off, none⟩) nb c)) := hideI fun W row vv D bl h hm => by
    have hx := row_cells (h.cells _ hm).1 rfl
    rw [hbx] at hx
    exact ⟨hx 0, hx 1, hx 2, hx 3⟩
  have HTC : Hid (∀ W, Below w.heap.size w W → W.cell? ⟨g, off + i * 6 + 4, none⟩ = some (.slice (some ⟨tb, u, none⟩) nt tc) ∧ W.cell? ⟨tb, u + j, none⟩ = some (.int .i64 (tn : Int))) := hideI fun W hW => by
    rw [hnt]
    exact ⟨(Keeps.of_below (hW.mono hB) _ _ hg).trans q4, (Keeps.of_below (hW.mono hB) _ _ htb).trans q5⟩
  have HBM := hideI hbm
  have H0 := hideI h0
  have HB := hideI hb
  have HTZ := hideI htz
  have HTO := hideI hto
  have HSTA := hideI hst
  have HS := hideI hs
  have HN := hideI (And.intro hnb (And.intro hnp hnt))
  have hi' : i < nb := by omega
  have hj' : j < nt := by omega
  have htl' : tn < nb := by omega
  have hl5' : nb < 512 := by omega
  have e5 : ((nb : Int) == 512) = false := by rw [beq_eq_false_iff_ne]; omega
  have e6 : (((f.blocks.map sizeB).sum : Nat) == (4096 : Int)) = false := by have hs4 : (f.blocks.map sizeB).sum < 4096 := hs4; rw [beq_eq_false_iff_ne]; omega
  have HE6 := hideI e6
  have i1 : (0 : Int) ≤ (i : Int) := by omega
  have i2 : (i : Int) < (nb : Int) := by omega
  have i3 : (0 : Int) ≤ (j : Int) := by omega
  have i4 : (j : Int) < (nt : Int) := by omega
  rw [← hnb] at HBL
  rw [← hnp] at HP
  rw [← hnb, ← hnp]
  obtain ⟨b0, b1, b2, b3⟩ := HFX.out _ _ _ _ _ HST.out (List.mem_cons_of_mem _ (List.mem_cons_self ..))
  clear hyes h0 hh hs4 hb hbm hs htz hto hst hl5 q4 q5 hg htb hti htx hnb hnp hnt hbx hrs hst0 hW0 hi hj htl e6
  go_enter Try.func10, Try.ntmps10
  go_upto_region 1 with fail
  rw [← HW0.out]
  go_upto_region 8 with (first
    | (go_at_call 14; go_must (refine (refCheck_any f B _ _ W0 (HP.out.keeps (HKB.out _ HST.out.below)) (HBL.out.keeps (HKB.out _ HST.out.below)) (Nat.le_trans hB HST.out.below.size)).mono ?_); rw [H0.out]; rintro e w1 ⟨rfl, hb⟩; have HS1 := hideI (HST.out.grows hb); obtain ⟨q4, _⟩ := HTC.out _ HS1.out.below; clear b0 b1 b2 b3; (obtain ⟨b0, b1, b2, b3⟩ := HFX.out _ _ _ _ _ HS1.out (List.mem_cons_of_mem _ (List.mem_cons_self ..))); clear hb)
    | (go_at_call 24; go_must (refine (refSize_any f.blocks B _ _ _ _ _ (HBL.out.keeps (HKB.out _ HS1.out.below)) (Nat.le_trans hB HS1.out.below.size) (by have := HN.out.1; omega)).mono ?_); rintro e w2 ⟨rfl, hb⟩; have e6 := HE6.out; have HS2 := hideI (HS1.out.grows hb); clear b0 b1 b2 b3; (obtain ⟨b0, b1, b2, b3⟩ := HFX.out _ _ _ _ _ HS2.out (List.mem_cons_of_mem _ (List.mem_cons_self ..))); clear hb))
  clear q4 e5 e6
  go_upto_region 9 with (first
    | (go_at_call 16; go_loud (refine (copy_any f B _ _ w2 (Nat.le_trans hB HS2.out.below.size) (HP.out.keeps (HKB.out _ HS2.out.below)) (HBL.out.keeps (HKB.out _ HS2.out.below)) (small_copy HS.out)).mono ?_; rintro e w3 ⟨val, rfl, hown3, hb3⟩; have HS3 := hideI ((HS2.out.join hb3 (r3 := rowOf f val) (v3 := val) hown3 (fun t h => h.elim) (fun t h => ⟨rfl, rfl⟩)).congr (D' := TI f) (fun _ _ => rfl) (fun _ _ => rfl) (fun t ht => Or.inr (by obtain ⟨d, hd⟩ := Option.isSome_iff_exists.1 (id ht : (rowOf f (fun _ => .bool false) t).isSome = true); exact EE.all hd))); obtain ⟨PA, pa, hvp⟩ := own_form (HS3.out.own.rows .params _ rfl rfl); obtain ⟨gb, bc, hvb, hgb1, hgb2⟩ := HS3.out.own.slice (tp := .blocks) rfl rfl (by show 0 < f.blocks.length; have := HN.out.1; omega); have hvp : val .params = .slice PA np pa := (by rw [hvp, HN.out.2.1]; try rfl); have hvb : val .blocks = .slice (some ⟨gb, 0, none⟩) nb bc := (by rw [hvb, HN.out.1]; try rfl); rw [hvp, hvb]; have HVP := hideI hvp; have HVB := hideI hvb; clear hvp hvb hown3 hb3 b0 b1 b2 b3)))
  obtain ⟨W4, hW4⟩ : ∃ W4, W4 = w3.alloc (.cells #[.slice PA np pa, .int .i64 f.arrays, .int .i64 f.cells, .slice (some ⟨gb, 0, none⟩) nb bc] 25) := ⟨_, rfl⟩
  have hs4 := HS3.out.make #[.slice PA np pa, .int .i64 f.arrays, .int .i64 f.cells, .slice (some ⟨gb, 0, none⟩) nb bc] 25
  obtain ⟨gO, hgO⟩ : ∃ g, g = w3.heap.size := ⟨_, rfl⟩
  rw [← hW4, ← hgO] at hs4
  rw [← hW4, ← hgO]
  have HS4 := hideI hs4
  have hgOl : gO < W4.heap.size := hs4.lt (List.mem_cons_self ..)
  obtain ⟨b0, b1, b2, b3⟩ := HFX.out _ _ _ _ _ HS4.out (List.mem_cons_of_mem _ (List.mem_cons_of_mem _ (List.mem_cons_self ..)))
  obtain ⟨q4, q5⟩ := HTC.out _ HS4.out.below
  have o3 := (HS4.out.box (List.mem_cons_self ..) 3).1
  have tiE : TI f (.ends i) := TI.of (val := val) (row_ends HB.out)
  obtain ⟨ge, ec, hvE, hge1, hge2⟩ := HS4.out.own.slice tiE (row_ends HB.out) (by show 0 < b.term.to.length; have := HN.out.2.2; omega)
  have hvE' : val (.ends i) = .slice (some ⟨ge, 0, none⟩) nt ec := by rw [hvE, HN.out.2.2]; try rfl
  have o4 := HS4.out.blockCell (r := 4) (u := .slice (some ⟨ge, 0, none⟩) nt ec) HB.out HVB.out HN.out.1.symm (by omega) (by show some (val (.ends i)) = _; rw [hvE'])
  obtain ⟨o5, o6⟩ := HS4.out.own.cell tiE (row_ends HB.out) hvE rfl (j := j) (by show _ < b.term.to.length * 1; have := HN.out.2.2; omega)
  replace o5 : W4.cell? ⟨ge, j, none⟩ = some (.int .i64 (tn : Int)) := o5.trans (by show (b.term.to.map (Value.int .i64))[j]? = _; rw [List.getElem?_map, HTZ.out]; rfl)
  have HVE := hideI hvE
  have HVE' := hideI hvE'
  clear hs4 hW4 hgO hvE hvE' tiE hvp hvb
  go_upto_region 12 with fail
  clear q4 q5 b0 b1 b2 b3 o4 o5 o6 o3
  have hs5 := HS4.out.putEnd (j := j) (mid := (nb : Int)) HB.out HVE.out
  obtain ⟨W5, hW5⟩ : ∃ W5, W5 = W4.setCell ⟨ge, j, none⟩ (.int .i64 (nb : Int)) := ⟨_, rfl⟩
  rw [← hW5] at hs5
  rw [← hW5]
  obtain ⟨fE, hfE⟩ : ∃ fE, fE = setEnds f i j (nb : Int) := ⟨_, rfl⟩
  rw [← hfE] at hs5
  have hEl : fE.blocks.length = nb := by rw [hfE, HN.out.1]; show (f.blocks.modify _ _).length = _; rw [List.length_modify]
  have HS5 := hideI hs5
  have HFE := hideI hfE
  have HEL := hideI hEl
  have o3 := (HS5.out.box (List.mem_cons_self ..) 3).1
  have hgOl5 : gO < W5.heap.size := hs5.lt (List.mem_cons_self ..)
  obtain ⟨i0, hix, hz0, hz1, hz2⟩ := info_parts block_info
  have HOWNB : Hid (W5.ownsRow w.heap.size 46 6 (.slice (some ⟨gb, 0, none⟩) nb bc) nb (cellsOf (blockCells val) 0 fE.blocks)) := by
    have h2 := HS5.out.own.rows .blocks _ rfl rfl
    rw [HVB.out] at h2
    have h3 : W5.ownsRow w.heap.size 46 6 (.slice (some ⟨gb, 0, none⟩) nb bc) fE.blocks.length (cellsOf (blockCells val) 0 fE.blocks) := h2
    rw [hEl] at h3
    exact h3
  have hbs5 : w.heap.size ≤ W5.heap.size := hs5.below.size
  clear hs5 hW5 hfE hEl hgOl
  go_upto_region 13 with (first
    | (at_builtin; go_loud (refine wpList_append_lies _ rfl _ _ _ rfl w.heap.size 46 i0 _ 6 96 Try.underlying23 hix hz0 hz1 hz2 rfl (by decide) _ _ _ rfl ((HOWNB.out.alloc _).alloc _) ⟨W5.heap.size + 1, 0, none⟩ 1 1 [.slice none 0 0, .slice none 0 0, .int .i64 1, .int .i64 (-1), .slice (some ⟨W5.heap.size, 0, none⟩) 1 1, .int .i64 0] rfl rfl (block_new' W5 _ _ _) (by simp [Value.oneCell']) (by decide) (by unfold maxLen; omega) (by omega) (by simp; omega) _ rfl ?_; intro g1 cap1 w6 hown6 hgrow6 hor6 _; have hga : (W5.alloc (.cells #[.int .i64 (tn : Int)] 3)).ownsRow W5.heap.size 3 1 (.slice (some ⟨W5.heap.size, 0, none⟩) 1 1) 1 [.int .i64 (tn : Int)] := ⟨rfl, .inr ⟨W5.heap.size, 1, #[.int .i64 (tn : Int)], rfl, Nat.le_refl _, heap_alloc_new W5 _, Nat.le_refl _, by decide, rfl, rfl⟩⟩; obtain ⟨v2, hv2⟩ : ∃ v2 : Vals, v2 = upd (upd (upd (upd val (.ends nb) (.slice (some ⟨W5.heap.size, 0, none⟩) 1 1)) (.phis nb) (.slice none 0 0)) (.code nb) (.slice none 0 0)) .blocks (.slice (some ⟨g1, 0, none⟩) (nb + 1) cap1) := ⟨_, rfl⟩; have HS6 := hideI (HS5.out.addBlock (tt := (tn : Int)) ((Below.refl _ _).alloc (Nat.le_refl _) _) hga ((Below.refl _ _).alloc (Nat.le_refl _) _) (by rw [HEL.out]; exact hown6) (by rw [HVB.out]; exact hgrow6) (by rw [HVB.out]; exact hor6) v2 (by rw [HEL.out]; exact hv2)); have HV2 := hideI hv2; have hbo := HS6.out.box (List.mem_cons_self ..) 3; have o3 : w6.cell? ⟨gO, 3, none⟩ = some (.slice (some ⟨gb, 0, none⟩) nb bc) := hbo.1; have o3z := hbo.2; clear hbo hown6 hgrow6 hor6 hga hv2)))
  have hs7 := HS6.out.store (j := 3) (.slice (some ⟨g1, 0, none⟩) (nb + 1) cap1)
  simp only [List.setIfInBounds_toArray, List.set_cons_zero, List.set_cons_succ] at hs7
  obtain ⟨W7, hW7⟩ : ∃ W7, W7 = w6.setCell ⟨gO, 3, none⟩ (.slice (some ⟨g1, 0, none⟩) (nb + 1) cap1) := ⟨_, rfl⟩
  rw [← hW7] at hs7
  rw [← hW7]
  have HS7 := hideI hs7
  clear hs7 hW7 HS6 o3 o3z HOWNB hix hz0 hz1 hz2 hgOl5 hbs5
  obtain ⟨fA, hfA⟩ : ∃ fA, fA = addBlock fE (tn : Int) := ⟨_, rfl⟩
  rw [← hfA] at HS7
  have hin : i ≠ nb := by omega
  have hEi : fE.blocks[i]? = some (endM j (nb : Int) b) := by
    rw [HFE.out]
    show (f.blocks.modify i _)[i]? = _
    rw [modify_at, if_pos rfl, HB.out]
    rfl
  have hAi : fA.blocks[i]? = some (endM j (nb : Int) b) := by rw [hfA, addBlock_at, if_neg (by rw [HEL.out]; exact hin), hEi]
  have hAl : fA.blocks.length = nb + 1 := by rw [hfA, ← HEL.out]; show (fE.blocks ++ _).length = _; simp
  obtain ⟨q0, hq0⟩ : ∃ q0, f.blocks[tn]? = some q0 := ⟨_, List.getElem?_eq_getElem (by rw [← HN.out.1]; exact htl')⟩
  obtain ⟨qA, hqA, hqp⟩ : ∃ qA, fA.blocks[tn]? = some qA ∧ qA.phis = q0.phis := by
    have h1 : fE.blocks[tn]? = if tn = i then f.blocks[tn]?.map (endM j (nb : Int)) else f.blocks[tn]? := by rw [HFE.out]; exact modify_at _ _ _ _
    rw [hq0] at h1
    rw [hfA, addBlock_at, if_neg (by rw [HEL.out]; omega), h1]
    split
    · exact ⟨_, rfl, rfl⟩
    · exact ⟨_, rfl, rfl⟩
  have hvB2 : v2 .blocks = .slice (some ⟨g1, 0, none⟩) (nb + 1) cap1 := by rw [HV2.out, upd_same]
  have hvP2 : v2 .params = .slice PA np pa := by rw [HV2.out, upd_ne _ _ (by simp), upd_ne _ _ (by simp), upd_ne _ _ (by simp), upd_ne _ _ (by simp)]; exact HVP.out
  have hvE2 : v2 (.ends i) = .slice (some ⟨ge, 0, none⟩) nt ec := by rw [HV2.out, upd_ne _ _ (by simp), upd_ne _ _ (by simp), upd_ne _ _ (by simp), upd_ne _ _ (by simpa using hin)]; exact HVE'.out
  obtain ⟨L, hL⟩ : ∃ L, L = qA.phis.length := ⟨_, rfl⟩
  obtain ⟨PH, phc, hvH⟩ : ∃ PH phc, v2 (.phis tn) = .slice PH L phc := by
    obtain ⟨A1, c1, h⟩ := own_form (HS7.out.own.rows (.phis tn) _ (TI.of (val := v2) (row_phis hqA)) (row_phis hqA))
    exact ⟨A1, c1, by rw [h, hL]⟩
  have hPH : ∃ gp, 0 < L → PH = some ⟨gp, 0, none⟩ := by
    by_cases h : 0 < L
    · obtain ⟨gp, cap, h1, _⟩ := HS7.out.own.slice (TI.of (val := v2) (row_phis hqA)) (row_phis hqA) (by show 0 < qA.phis.length; omega)
      rw [hvH] at h1
      injection h1 with h1
      exact ⟨gp, fun _ => h1⟩
    · exact ⟨0, fun h2 => absurd h2 h⟩
  obtain ⟨gp, hPH⟩ := hPH
  have o3 : W7.cell? ⟨gO, 3, none⟩ = some (.slice (some ⟨g1, 0, none⟩) (nb + 1) cap1) := (HS7.out.box (List.mem_cons_self ..) 3).1
  have o4 : W7.cell? ⟨g1, i * 6 + 4, none⟩ = some (.slice (some ⟨ge, 0, none⟩) nt ec) := HS7.out.blockCell (r := 4) hAi hvB2 hAl (by omega) (by show some (v2 (.ends i)) = _; rw [hvE2])
  have o5 : W7.cell? ⟨g1, tn * 6, none⟩ = some (.slice PH L phc) := HS7.out.blockCell (r := 0) hqA hvB2 hAl (by omega) (by show some (v2 (.phis tn)) = _; rw [hvH])
  have HIE : Hid (Ints W7 W7.heap.size (.slice (some ⟨ge, 0, none⟩) nt ec) (b.term.to.set j (nb : Int))) := by
    have h1 := HS7.out.own.rows (.ends i) _ (TI.of (val := v2) (row_ends hAi)) (row_ends hAi)
    have h2 := (row_read h1 (by show (b.term.to.set j _).length ≤ _; rw [List.length_set]; exact (HS.out.each b (List.mem_of_getElem? HB.out)).ends)).ints
    rw [hvE2] at h2
    exact hideI h2
  obtain ⟨st, hst⟩ : ∃ st, st = staysM f i j := ⟨_, rfl⟩
  have HSTE : Hid (decide ((tn : Int) ∈ b.term.to.set j (nb : Int)) = st) := by show _ = _; rw [hst, HSTA.out, HN.out.1]
  have HST := hideI hst
  have HAL := hideI hAl
  have HQA := hideI hqA
  have HQP := hideI hqp
  have HQ0 := hideI hq0
  have HFA := hideI hfA
  have HPHN := hideI hPH
  have HLN := hideI hL
  have HS0 : Hid (RsSt0 fA tn 0 (i : Int) (nb : Int) st (.slice PA np pa) (.slice (some ⟨g1, 0, none⟩) (nb + 1) cap1) (.slice PH L phc) [(gO, #[.slice PA np pa, .int .i64 f.arrays, .int .i64 f.cells, .slice (some ⟨g1, 0, none⟩) (nb + 1) cap1], 25), (w.heap.size + 1, rs, 25), (w.heap.size, bx, 25)] w W7 v2) := by
    refine hideI ⟨?_, hvP2, hvB2, hvH⟩
    rw [comeTo_zero]
    exact HS7.out
  obtain ⟨bl, hbl⟩ : ∃ bl : List VarD, bl = [(gO, #[.slice PA np pa, .int .i64 f.arrays, .int .i64 f.cells, .slice (some ⟨g1, 0, none⟩) (nb + 1) cap1], 25), (w.heap.size + 1, rs, 25), (w.heap.size, bx, 25)] := ⟨_, rfl⟩
  rw [← hbl] at HS0
  have HBLS := hideI hbl
  have HPHI : Hid (∀ p, p ∈ qA.phis → p.vals.length = p.fr.length ∧ p.fr.length ≤ 512 ∧ p.fr.Nodup) := hideI fun p hp => by
    rw [hqp] at hp
    have h1 := (formed_all (look_formed H0.out)).1 q0 (List.mem_of_getElem? hq0)
    have h2 := h1.1 p hp
    unfold phiB at h2
    simp only [Bool.and_eq_true, beq_iff_eq] at h2
    have h3 := once_len h2.2.2
    have h4 := look_512 H0.out
    exact ⟨h2.2.1, by omega, (once_nodup _ [] h2.2.2).1⟩
  have HLL : Hid (L ≤ 100000) := by
    show L ≤ 100000
    rw [hL, hqp]
    exact (HS.out.each q0 (List.mem_of_getElem? hq0)).phis
  clear hfA hEi hAi hAl hq0 hqA hqp hvB2 hvP2 hvE2 hL hvH hPH hst hbl hin
  go_upto_region 15 with (first
    | (go_at_call 25; go_loud (refine (has_any _ _ _ _ _ HIE.out).mono ?_; rw [HSTE.out]; rintro e w8 ⟨rfl, rfl⟩)))
  clear o3 o4 o5
  have HBOX : Hid (∀ wr v n, RsSt0 fA tn n (i : Int) (nb : Int) st (.slice PA np pa) (.slice (some ⟨g1, 0, none⟩) (nb + 1) cap1) (.slice PH L phc) bl w wr v → wr.cell? ⟨w.heap.size, 3, none⟩ = some (.slice (some ⟨g, off, none⟩) nb c) ∧ Below w.heap.size w wr) := hideI fun wr v n h => by
    refine ⟨(HFX.out _ _ _ _ _ h.own ?_).2.2.2, h.own.below⟩
    rw [HBLS.out]
    exact List.mem_cons_of_mem _ (List.mem_cons_of_mem _ (List.mem_cons_self ..))
  have HBOX2 : Hid (∀ wr v n m p, RsSt fA tn n m (i : Int) (nb : Int) st p (.slice PA np pa) (.slice (some ⟨g1, 0, none⟩) (nb + 1) cap1) (.slice PH L phc) bl w wr v → wr.cell? ⟨w.heap.size, 3, none⟩ = some (.slice (some ⟨g, off, none⟩) nb c) ∧ Below w.heap.size w wr) := hideI fun wr v n m p h => by
    refine ⟨(HFX.out _ _ _ _ _ h.own ?_).2.2.2, h.own.below⟩
    rw [HBLS.out]
    exact List.mem_cons_of_mem _ (List.mem_cons_of_mem _ (List.mem_cons_self ..))
  have HRD : Hid (∀ n p, qA.phis[n]? = some p → ∃ pb po pc' F fc lf, lf = p.fr.length ∧ g < B ∧ pb < B ∧ w.cell? ⟨g, off + tn * 6, none⟩ = some (.slice (some ⟨pb, po, none⟩) L pc') ∧ w.cell? ⟨pb, po + n * 4 + 2, none⟩ = some (.slice F lf fc)) := hideI fun n p hp => by
    obtain ⟨g', off', phv, _, _, e, hg', d0, _, _, _, _, _, hph, _⟩ := HBM.out tn q0 HQ0.out
    cases e
    rw [HQP.out] at hp
    obtain ⟨A2, c2, rfl, _, hx⟩ := hph
    obtain ⟨pb, po, fv, vv, rfl, hpb, _, _, c2', _, hf, _⟩ := hx n p hp
    obtain ⟨F, fc, rfl, _⟩ := hf
    rw [HLN.out, HQP.out]
    exact ⟨pb, po, _, F, fc, _, rfl, hg', hpb, d0, c2'⟩
  have hLL : L ≤ 100000 := HLL.out
  go_upto_region 16 with fail
  go_loopw [14, 15] (fun u _ wr => ∃ (n : Nat) (v : Vals), n ≤ L ∧ u = .int .i64 n ∧ Hid (RsSt0 fA tn n (i : Int) (nb : Int) st (.slice PA np pa) (.slice (some ⟨g1, 0, none⟩) (nb + 1) cap1) (.slice PH L phc) bl w wr v)) (fun u _ _ => L - (intOf u).toNat)
  case atStart => exact ⟨0, v2, Nat.zero_le _, by go_num, HS0⟩
  case round =>
    obtain ⟨n, v, hn, rfl, HS1⟩ := hrel
    by_cases hlt : n < L
    · obtain ⟨p, hp⟩ : ∃ p, qA.phis[n]? = some p := ⟨_, List.getElem?_eq_getElem (by rw [← HLN.out]; exact hlt)⟩
      obtain ⟨pb, po, pc2, F, fc0, lf, hlf, hgB, hpb, d0, d2⟩ := HRD.out n p hp
      obtain ⟨hlen, h512, hnd⟩ := HPHI.out p (List.mem_of_getElem? hp)
      obtain rfl := HPHN.out (by omega)
      have HS2 : Hid (RsSt fA tn n 0 (i : Int) (nb : Int) st p (.slice PA np pa) (.slice (some ⟨g1, 0, none⟩) (nb + 1) cap1) (.slice (some ⟨gp, 0, none⟩) L phc) bl w wr v) := hideI (HS1.out.enter HQA.out hp)
      have HP1 := hideI hp
      have HLF := hideI hlf
      have HLEN := hideI hlen
      have HND := hideI hnd
      have h512' : lf ≤ 512 := by omega
      have i5 : (0 : Int) ≤ (n : Int) := by omega
      have i6 : (n : Int) < (L : Int) := by omega
      clear hp hlf hlen hnd h512 HS1
      go_upto_region 19 with fail
      go_loopw [15] (fun u wr => ∃ (m : Nat) (v : Vals), m ≤ lf ∧ u = .int .i64 m ∧ Hid (RsSt fA tn n m (i : Int) (nb : Int) st p (.slice PA np pa) (.slice (some ⟨g1, 0, none⟩) (nb + 1) cap1) (.slice (some ⟨gp, 0, none⟩) L phc) bl w wr v)) (fun u _ => lf - (intOf u).toNat)
      case atStart => exact ⟨0, v, Nat.zero_le _, by go_num, HS2⟩
      case round =>
        clear HS2
        obtain ⟨m, v, hm, rfl, HS3⟩ := hrel
        obtain ⟨b3, hlow⟩ := HBOX2.out _ _ _ _ _ HS3.out
        have k1 := HKB.out _ hlow
        have c0 := (k1 _ _ hgB).trans d0
        have c2 := (k1 _ _ hpb).trans d2
        clear k1 hlow
        by_cases hlm : m < lf
        · obtain ⟨x, hx⟩ : ∃ x, p.fr[m]? = some x := ⟨_, List.getElem?_eq_getElem (by have := HLF.out; omega)⟩
          obtain ⟨q2, hq2, hp2, hl2⟩ := rs_block (from_ := (i : Int)) (mid := (nb : Int)) (st := st) (m := m) HQA.out HP1.out
          have hl2 : q2.phis.length = L := by rw [hl2, ← HLN.out]
          have hsl := stepM_len (from_ := (i : Int)) (mid := (nb : Int)) (st := st) (m := m) (p := p)
          obtain ⟨gf, fc, hvF, _, _⟩ := HS3.out.own.own.slice (TI.of (val := v) (row_fr hq2 hp2)) (row_fr hq2 hp2) (by show 0 < (stepM _ _ _ _ p).fr.length; have := HLF.out; omega)
          obtain ⟨ls, hls⟩ : ∃ ls, ls = (stepM (i : Int) (nb : Int) st m p).fr.length := ⟨_, rfl⟩
          have hvF' : v (.fr tn n) = .slice (some ⟨gf, 0, none⟩) ls fc := by rw [hvF, hls]; try rfl
          have r2 := (HS3.out.own.phiCell (r := 2) (u := .slice (some ⟨gf, 0, none⟩) ls fc) hq2 hp2 HS3.out.phs hl2 (by omega) (by show some (v (.fr tn n)) = _; rw [hvF'])).1
          have r3 := (HS3.out.own.own.cell (TI.of (val := v) (row_fr hq2 hp2)) (row_fr hq2 hp2) hvF rfl (j := m) (by show _ < (stepM _ _ _ _ p).fr.length * 1; have := HLF.out; omega)).1
          replace r3 : wr.cell? ⟨gf, m, none⟩ = some (.int .i64 x) := r3.trans (by show ((stepM (i : Int) (nb : Int) st m p).fr.map (Value.int .i64))[m]? = _; rw [List.getElem?_map, stepM_at HND.out hx]; rfl)
          have hml : m < ls := by rw [hls]; have := HLF.out; omega
          have i7 : (0 : Int) ≤ (m : Int) := by omega
          have i8 : (m : Int) < (lf : Int) := by omega
          have i9 : (m : Int) < (ls : Int) := by omega
          have HX := hideI hx
          clear hq2 hp2 hl2 hsl hvF hls hvF' hx
          by_cases hxi : x = (i : Int)
          · subst hxi
            have e1 : ((i : Int) != (i : Int)) = false := by simp
            have HS4 := hideI (HS3.out.hit HQA.out HP1.out HND.out HX.out)
            have hq3 := comeTo_block (j := n) (from_ := (i : Int)) (mid := (nb : Int)) (stays := st) HQA.out
            have hp3 := phisTo_at (from_ := (i : Int)) (mid := (nb : Int)) (stays := st) HP1.out
            have hl3 : (phisTo n (i : Int) (nb : Int) st qA).phis.length = L := by rw [phisTo_len, ← HLN.out]
            obtain ⟨gf', fc', hvF, hgf1, hgf2⟩ := HS4.out.own.own.slice (TI.of (val := v) (row_fr hq3 hp3)) (row_fr hq3 hp3) (by show 0 < p.fr.length; have := HLF.out; omega)
            obtain ⟨gv, vc, hvV, hgv1, hgv2⟩ := HS4.out.own.own.slice (TI.of (val := v) (row_vals hq3 hp3)) (row_vals hq3 hp3) (by show 0 < p.vals.length; have := HLF.out; have := HLEN.out; omega)
            have hvF' : v (.fr tn n) = .slice (some ⟨gf', 0, none⟩) lf fc' := by rw [hvF, HLF.out]; try rfl
            have hvV' : v (.vals tn n) = .slice (some ⟨gv, 0, none⟩) lf vc := by rw [hvV, HLF.out, ← HLEN.out]; try rfl
            have s2 := HS4.out.own.phiCell (r := 2) (u := .slice (some ⟨gf', 0, none⟩) lf fc') hq3 hp3 HS4.out.phs hl3 (by omega) (by show some (v (.fr tn n)) = _; rw [hvF'])
            have s3 := HS4.out.own.phiCell (r := 3) (u := .slice (some ⟨gv, 0, none⟩) lf vc) hq3 hp3 HS4.out.phs hl3 (by omega) (by show some (v (.vals tn n)) = _; rw [hvV'])
            obtain ⟨rfl, rfl, rfl⟩ : gf' = gf ∧ lf = ls ∧ fc' = fc := by
              have h := s2.1.symm.trans r2
              injection h with h
              injection h with h1 h2 h3
              injection h1 with h1
              injection h1 with h1
              exact ⟨h1, h2, h3⟩
            obtain ⟨s2, z2⟩ := s2
            obtain ⟨s3, z3⟩ := s3
            have z1 := (HS4.out.own.own.cell (TI.of (val := v) (row_fr hq3 hp3)) (row_fr hq3 hp3) hvF rfl (j := m) (by show _ < p.fr.length * 1; have := HLF.out; omega)).2
            have HQ3 := hideI hq3
            have HP3 := hideI hp3
            have HL3 := hideI hl3
            have HVF := hideI hvF
            have HVV := hideI hvV
            have HVF' := hideI hvF'
            have HVV' := hideI hvV'
            clear hq3 hp3 hl3 hvF hvV hvF' hvV' r2
            cases st with
            | false =>
              clear s3 z2 z3 hgf1 hgv1 hgv2
              have HS5 := hideI (HS4.out.put HQA.out HP1.out HND.out HX.out HVF.out)
              go_wp2
              go_roundw
              case rel => exact ⟨m + 1, v, by omega, by go_num, HS5⟩
              case measure => simp [intOf]; omega
            | true =>
              obtain ⟨i1, hjx, hy0, hy1, hy2⟩ := info_parts int_info
              obtain ⟨fC, hfC⟩ : ∃ fC, fC = comeTo fA tn n (i : Int) (nb : Int) true := ⟨_, rfl⟩
              obtain ⟨qC, hqC⟩ : ∃ qC, qC = phisTo n (i : Int) (nb : Int) true qA := ⟨_, rfl⟩
              have hq3 := HQ3.out
              have hp3 := HP3.out
              have hl3 := HL3.out
              rw [← hfC, ← hqC] at hq3
              rw [← hqC] at hp3 hl3
              have hO : OwnC w wr (rowOf fC v) v (TI fC) bl := by rw [hfC]; exact HS4.out.own
              have tiF : TI fC (.fr tn n) := TI.of (val := v) (row_fr hq3 hp3)
              have tiV : TI fC (.vals tn n) := TI.of (val := v) (row_vals hq3 hp3)
              have tiP : TI fC (.phis tn) := TI.of (val := v) (row_phis hq3)
              have hownF : wr.ownsRow w.heap.size 3 1 (.slice (some ⟨gf', 0, none⟩) lf fc') lf (p.fr.map (Value.int .i64)) := by
                have h := hO.own.rows _ _ tiF (row_fr hq3 hp3)
                rw [HVF'.out] at h
                have h2 : wr.ownsRow w.heap.size 3 1 (.slice (some ⟨gf', 0, none⟩) lf fc') p.fr.length (p.fr.map (Value.int .i64)) := h
                rw [← HLF.out] at h2
                exact h2
              obtain ⟨y, hy⟩ : ∃ y, p.vals[m]? = some y := ⟨_, List.getElem?_eq_getElem (by have := HLF.out; have := HLEN.out; omega)⟩
              have hwr : w.heap.size ≤ wr.heap.size := hO.below.size
              have HO := hideI hO
              have HOWNF := hideI hownF
              have HQC := hideI (And.intro hfC hqC)
              have HQ4 := hideI hq3
              have HP4 := hideI hp3
              have HL4 := hideI hl3
              have HTI := hideI (And.intro tiF (And.intro tiV tiP))
              have HY := hideI hy
              clear hfC hqC hq3 hp3 hl3 hO tiF tiV tiP hownF hy z1 HS4 HQ3 HP3 HL3 hgf1 hgf2 hgv1 hgv2 s3 z2 z3
              go_upto_region 24 with (first
                | (at_builtin; go_loud (refine wpList_append_lies _ rfl _ _ _ rfl w.heap.size 3 i1 (.int .i64 0) 1 8 Try.underlying22 hjx hy0 hy1 hy2 rfl (by decide) _ _ _ rfl (HOWNF.out.alloc _) ⟨wr.heap.size, 0, none⟩ 1 1 [.int .i64 (nb : Int)] rfl rfl (news_at (heap_alloc_new wr _)) (by simp [Value.oneCell']) (by decide) (by simp only [maxLen]; omega) (by omega) (by simp; omega) _ rfl ?_; intro g2 cap2 w8 hown8 hgrow8 hor8 _; have hown8' : w8.ownsRow w.heap.size 3 1 (.slice (some ⟨g2, 0, none⟩) (lf + 1) cap2) (p.fr ++ [(nb : Int)]).length ((p.fr ++ [(nb : Int)]).map (Value.int .i64)) := (by rw [List.length_append, List.map_append, ← HLF.out]; exact hown8); have HA := hideI (OwnC.grow (t0 := .fr tn n) (d := intsRow (p.fr ++ [(nb : Int)])) (HO.out.grows ((Below.refl _ _).alloc (Nat.le_refl _) _)) HTI.out.1 hown8' (by rw [HVF'.out]; exact hgrow8) rfl (by rw [HVF'.out]; exact hor8)); have hcel := HA.out.own.cell (tp := .phis tn) (j := n * 4 + 2) HTI.out.2.2 (by rw [upd_ne _ _ (by simp)]; exact row_phis HQ4.out) (by rw [upd_ne _ _ (by simp)]; exact HS3.out.phs) HL4.out (by show _ < L * 4; omega); have s2 : w8.cell? ⟨gp, n * 4 + 2, none⟩ = some (.slice (some ⟨gf', 0, none⟩) lf fc') := hcel.1.trans (by show (cellsOf (phiCells v tn) 0 qC.phis)[n * 4 + 2]? = _; rw [phi_cell HP4.out (by omega)]; show some (v (.fr tn n)) = _; rw [HVF'.out]); have z2 := hcel.2; clear hown8 hown8' hgrow8 hor8 hcel r3)))
              clear s2 z2
              obtain ⟨F, hF⟩ : ∃ F, F = Value.slice (some ⟨g2, 0, none⟩) (lf + 1) cap2 := ⟨_, rfl⟩
              have hB9 := HA.out.put (tp := .phis tn) (j := n * 4 + 2) (u := F) HTI.out.2.2 (by rw [upd_ne _ _ (by simp)]; exact row_phis HQ4.out) (by rw [upd_ne _ _ (by simp)]; exact HS3.out.phs) HL4.out
              obtain ⟨W9, hW9⟩ : ∃ W9, W9 = w8.setCell ⟨gp, n * 4 + 2, none⟩ F := ⟨_, rfl⟩
              rw [← hF] at hB9
              rw [← hF, ← hW9]
              rw [← hW9] at hB9
              have hvph : upd v (.fr tn n) F (.phis tn) = .slice (some ⟨gp, 0, none⟩) L phc := by rw [upd_ne _ _ (by simp)]; exact HS3.out.phs
              have hvva : upd v (.fr tn n) F (.vals tn n) = .slice (some ⟨gv, 0, none⟩) lf vc := by rw [upd_ne _ _ (by simp)]; exact HVV'.out
              have hrva : upd (upd (rowOf fC v) (.fr tn n) (some (intsRow (p.fr ++ [(nb : Int)])))) (.phis tn) (some ⟨49, 4, qC.phis.length, (cellsOf (phiCells v tn) 0 qC.phis).set (n * 4 + 2) F⟩) (.vals tn n) = some (intsRow p.vals) := by rw [upd_ne _ _ (by simp), upd_ne _ _ (by simp)]; exact row_vals HQ4.out HP4.out
              have hS0 : W9.drew.cell? ⟨gp, n * 4 + 3, none⟩ = some (.slice (some ⟨gv, 0, none⟩) lf vc) ∧ W9.drew.cell? ⟨gv, m, none⟩ = some (.int .i64 y) := by
                refine ⟨?_, ?_⟩
                · refine (hB9.own.cell (tp := .phis tn) (j := n * 4 + 3) HTI.out.2.2 (upd_same _ _ _) hvph HL4.out (by show _ < L * 4; omega)).1.trans ?_
                  show ((cellsOf (phiCells v tn) 0 qC.phis).set (n * 4 + 2) F)[n * 4 + 3]? = _
                  rw [List.getElem?_set_ne (by omega), phi_cell HP4.out (by omega)]
                  show some (v (.vals tn n)) = _
                  rw [HVV'.out]
                · refine (hB9.own.cell (tp := .vals tn n) (j := m) HTI.out.2.1 hrva hvva (by show p.vals.length = lf; rw [HLEN.out, HLF.out]) (by show _ < lf * 1; omega)).1.trans ?_
                  show (p.vals.map (Value.int .i64))[m]? = _
                  rw [List.getElem?_map, HY.out]
                  rfl
              have hgp9 : gp < W9.heap.size := (hB9.own.lt (t := .phis tn) (g := gp) HTI.out.2.2 (by rw [hvph]; rfl)).2
              have hgv9 : gv < W9.heap.size := (hB9.own.lt (t := .vals tn n) (g := gv) HTI.out.2.1 (by rw [hvva]; rfl)).2
              have HB9 := hideI hB9
              have HF := hideI hF
              have HVPH := hideI hvph
              have HVVA := hideI hvva
              have HRVA := hideI hrva
              have h9s : w.heap.size ≤ W9.heap.size := hB9.below.size
              clear hB9 hF hW9 hvph hvva hrva HA
              refine wp_region_late (by kernel_rfl) (fun W => W.cell? ⟨gp, n * 4 + 3, none⟩ = some (.slice (some ⟨gv, 0, none⟩) lf vc) ∧ W.cell? ⟨gv, m, none⟩ = some (.int .i64 y)) [16, 19] ?_
              refine wpAnyT_quiet (i := 0) (v := ?_) rfl (by kernel_rfl) (by kernel_rfl) (by kernel_rfl) (fun _ _ _ h => h) (Or.inl ⟨by rfl, ?_⟩) ?_
              rotate_left
              · (intro w; go_simp; try with_reducible rfl)
              try simp only [Act.put, List.setIfInBounds_toArray, List.set_cons_zero, List.set_cons_succ]
              refine wpAnyT_quiet (i := 1) (v := ?_) rfl (by kernel_rfl) (by kernel_rfl) (by kernel_rfl) (fun _ _ _ h => h) (Or.inl ⟨by rfl, ?_⟩) ?_
              rotate_left
              · (intro w; go_simp; try with_reducible rfl)
              try simp only [Act.put, List.setIfInBounds_toArray, List.set_cons_zero, List.set_cons_succ]
              refine wpAnyT_quiet (i := 2) (v := ?_) rfl (by kernel_rfl) (by kernel_rfl) (by kernel_rfl) (fun _ _ _ h => h) (Or.inl ⟨by rfl, ?_⟩) ?_
              rotate_left
              · (intro w; go_simp; try with_reducible rfl)
              try simp only [Act.put, List.setIfInBounds_toArray, List.set_cons_zero, List.set_cons_succ]
              refine wpAnyT_quiet (i := 3) (v := ?_) rfl (by kernel_rfl) (by kernel_rfl) (by kernel_rfl) (fun _ _ _ h => h) (Or.inl ⟨by rfl, ?_⟩) ?_
              rotate_left
              · (intro w; go_simp; try with_reducible rfl)
              try simp only [Act.put, List.setIfInBounds_toArray, List.set_cons_zero, List.set_cons_succ]
              refine wpAnyT_quiet (i := 4) (v := ?_) rfl (by kernel_rfl) (by kernel_rfl) (by kernel_rfl) (fun _ _ _ h => h) (Or.inl ⟨by rfl, ?_⟩) ?_
              rotate_left
              · (intro w; go_simp; try with_reducible rfl)
              try simp only [Act.put, List.setIfInBounds_toArray, List.set_cons_zero, List.set_cons_succ]
              refine wpAnyT_quiet (i := 5) (v := ?_) rfl (by kernel_rfl) (by kernel_rfl) (by kernel_rfl) (fun _ _ _ h => h) (Or.inl ⟨by rfl, ?_⟩) ?_
              rotate_left
              · (intro w; go_simp; try with_reducible rfl)
              try simp only [Act.put, List.setIfInBounds_toArray, List.set_cons_zero, List.set_cons_succ]
              refine wpAnyT_take [16, 19] (i := 6) (v := ?_) rfl (by kernel_rfl) (by kernel_rfl) (by kernel_rfl) (by kernel_rfl) (by kernel_rfl) (by kernel_rfl) (fun _ _ _ h => h) hS0 (Or.inl ⟨by rfl, ?_⟩) ?_
              rotate_left
              · (intro w hSw; go_split_ands; go_simp; try with_reducible rfl)
              try simp only [Act.put, List.setIfInBounds_toArray, List.set_cons_zero, List.set_cons_succ]
              refine wpAnyT_quiet (i := 7) (v := ?_) rfl (by kernel_rfl) (by kernel_rfl) (by kernel_rfl) (fun _ _ _ h => h) (Or.inl ⟨by rfl, ?_⟩) ?_
              rotate_left
              · (intro w; go_simp; try with_reducible rfl)
              try simp only [Act.put, List.setIfInBounds_toArray, List.set_cons_zero, List.set_cons_succ]
              refine wpAnyT_quiet (i := 8) (v := ?_) rfl (by kernel_rfl) (by kernel_rfl) (by kernel_rfl) (fun _ _ _ h => h) (Or.inl ⟨by rfl, ?_⟩) ?_
              rotate_left
              · (intro w; go_simp; try with_reducible rfl)
              try simp only [Act.put, List.setIfInBounds_toArray, List.set_cons_zero, List.set_cons_succ]
              refine wpAnyT_quiet (i := 9) (v := ?_) rfl (by kernel_rfl) (by kernel_rfl) (by kernel_rfl) (fun _ _ _ h => h) (Or.inl ⟨by rfl, ?_⟩) ?_
              rotate_left
              · (intro w; go_simp; try with_reducible rfl)
              try simp only [Act.put, List.setIfInBounds_toArray, List.set_cons_zero, List.set_cons_succ]
              refine wpAnyT_quiet (i := 10) (v := ?_) rfl (by kernel_rfl) (by kernel_rfl) (by kernel_rfl) (fun _ _ _ h => h) (Or.inl ⟨by rfl, ?_⟩) ?_
              rotate_left
              · (intro w; go_simp; try with_reducible rfl)
              try simp only [Act.put, List.setIfInBounds_toArray, List.set_cons_zero, List.set_cons_succ]
              refine wpAnyT_take [13, 14, 15, 16, 19] (i := 11) (v := ?_) rfl (by kernel_rfl) (by kernel_rfl) (by kernel_rfl) (by kernel_rfl) (by kernel_rfl) (by kernel_rfl) (fun _ _ _ h => h) hS0 (Or.inl ⟨by rfl, ?_⟩) ?_
              rotate_left
              · (intro w hSw; go_split_ands; go_simp; try with_reducible rfl)
              try simp only [Act.put, List.setIfInBounds_toArray, List.set_cons_zero, List.set_cons_succ]
              refine wpAnyT_quiet (i := 12) (v := ?_) rfl (by kernel_rfl) (by kernel_rfl) (by kernel_rfl) (fun _ _ _ h => h) (Or.inl ⟨by rfl, ?_⟩) ?_
              rotate_left
              · (intro w; go_simp; try with_reducible rfl)
              try simp only [Act.put, List.setIfInBounds_toArray, List.set_cons_zero, List.set_cons_succ]
              refine wpAnyT_quiet (i := 13) (v := ?_) rfl (by kernel_rfl) (by kernel_rfl) (by kernel_rfl) (fun _ _ _ h => h) (Or.inl ⟨by rfl, ?_⟩) ?_
              rotate_left
              · (intro w; go_simp; try with_reducible rfl)
              try simp only [Act.put, List.setIfInBounds_toArray, List.set_cons_zero, List.set_cons_succ]
              refine wpAnyT_take [15, 16, 19] (i := 14) (v := ?_) rfl (by kernel_rfl) (by kernel_rfl) (by kernel_rfl) (by kernel_rfl) (by kernel_rfl) (by kernel_rfl) (fun _ _ _ h => h) hS0 (Or.inl ⟨by rfl, ?_⟩) ?_
              rotate_left
              · (intro w hSw; go_split_ands; go_simp; try with_reducible rfl)
              try simp only [Act.put, List.setIfInBounds_toArray, List.set_cons_zero, List.set_cons_succ]
              refine wpAnyT_ready (rs := [15]) (by kernel_rfl) (by simp) ?_
              refine AllReadyT.cons rfl (fun K hK => ?_) ?_
              · go_simp
                have HC : Hid (OwnC w (W9.drew.alloc (.cells #[.int .i64 y] 3)) (upd (upd (rowOf fC v) (.fr tn n) (some (intsRow (p.fr ++ [(nb : Int)])))) (.phis tn) (some ⟨49, 4, qC.phis.length, (cellsOf (phiCells v tn) 0 qC.phis).set (n * 4 + 2) F⟩)) (upd v (.fr tn n) F) (TI fC) bl) := hideI (HB9.out.grows ((Below.refl _ _).drew.alloc (Nat.le_refl _) _))
                refine hK.out _ _ (fun _ _ => ⟨(World.cell?_alloc_lt _ _ _ (by simpa using hgp9)).trans hS0.1, (World.cell?_alloc_lt _ _ _ (by simpa using hgv9)).trans hS0.2⟩) ?_
                clear hK K
                try simp only [Act.put, List.setIfInBounds_toArray, List.set_cons_zero, List.set_cons_succ]
                have hownV : (W9.drew.alloc (.cells #[.int .i64 y] 3)).ownsRow w.heap.size 3 1 (.slice (some ⟨gv, 0, none⟩) lf vc) lf (p.vals.map (Value.int .i64)) := by
                  have h := HC.out.own.rows _ _ HTI.out.2.1 HRVA.out
                  rw [HVVA.out] at h
                  have h2 : (W9.drew.alloc (.cells #[.int .i64 y] 3)).ownsRow w.heap.size 3 1 (.slice (some ⟨gv, 0, none⟩) lf vc) p.vals.length (p.vals.map (Value.int .i64)) := h
                  rw [HLEN.out, ← HLF.out] at h2
                  exact h2
                refine wpAnyT_ready (rs := [16]) (by kernel_rfl) (by simp) ?_
                refine AllReadyT.cons rfl (fun K hK => ?_) ?_
                · refine step_append_lies _ rfl (.tmp 157) (.tmp 166) _ rfl w.heap.size 3 i1 (.int .i64 0) 1 8 Try.underlying22 hjx hy0 hy1 hy2 rfl (by decide) _ _ _ rfl hownV ⟨W9.drew.heap.size, 0, none⟩ 1 1 [.int .i64 y] rfl rfl (news_at (heap_alloc_new W9.drew _)) (by simp [Value.oneCell']) (by decide) (by simp only [maxLen]; omega) (by omega) (by simp; omega) _ rfl ?_
                  intro g4 cap4 w10 hown10 hgrow10 hor10 _
                  obtain ⟨V, hV⟩ : ∃ V, V = Value.slice (some ⟨g4, 0, none⟩) (lf + 1) cap4 := ⟨_, rfl⟩
                  have hown10' : w10.ownsRow w.heap.size 3 1 (.slice (some ⟨g4, 0, none⟩) (lf + 1) cap4) (p.vals ++ [y]).length ((p.vals ++ [y]).map (Value.int .i64)) := by rw [List.length_append, List.map_append, HLEN.out, ← HLF.out]; exact hown10
                  have HD := hideI (OwnC.grow (t0 := .vals tn n) (d := intsRow (p.vals ++ [y])) HC.out HTI.out.2.1 hown10' (by rw [HVVA.out]; exact hgrow10) rfl (by rw [HVVA.out]; exact hor10))
                  rw [← hV] at HD
                  have HV := hideI hV
                  clear hownV hown10 hown10' hgrow10 hor10
                  refine hK.out _ _ (fun h => absurd (by simp) h) ?_
                  clear hK K
                  try simp only [Act.put, List.setIfInBounds_toArray, List.set_cons_zero, List.set_cons_succ]
                  refine wpAnyT_quiet (i := 17) (v := ?_) rfl (by kernel_rfl) (by kernel_rfl) (by kernel_rfl) (fun _ _ _ h => h) (Or.inl ⟨by rfl, ?_⟩) ?_
                  rotate_left
                  · (intro w; go_simp; try with_reducible rfl)
                  try simp only [Act.put, List.setIfInBounds_toArray, List.set_cons_zero, List.set_cons_succ]
                  refine wpAnyT_quiet (i := 18) (v := ?_) rfl (by kernel_rfl) (by kernel_rfl) (by kernel_rfl) (fun _ _ _ h => h) (Or.inl ⟨by rfl, ?_⟩) ?_
                  rotate_left
                  · (intro w; go_simp; try with_reducible rfl)
                  try simp only [Act.put, List.setIfInBounds_toArray, List.set_cons_zero, List.set_cons_succ]
                  have hrp : upd (upd (upd (rowOf fC v) (.fr tn n) (some (intsRow (p.fr ++ [(nb : Int)])))) (.phis tn) (some ⟨49, 4, qC.phis.length, (cellsOf (phiCells v tn) 0 qC.phis).set (n * 4 + 2) F⟩)) (.vals tn n) (some (intsRow (p.vals ++ [y]))) (.phis tn) = some ⟨49, 4, qC.phis.length, (cellsOf (phiCells v tn) 0 qC.phis).set (n * 4 + 2) F⟩ := by rw [upd_ne _ _ (by simp), upd_same]
                  have hvp4 : upd (upd v (.fr tn n) F) (.vals tn n) V (.phis tn) = .slice (some ⟨gp, 0, none⟩) L phc := by rw [upd_ne _ _ (by simp)]; exact HVPH.out
                  have hc4 := HD.out.own.cell (tp := .phis tn) (j := n * 4 + 3) HTI.out.2.2 hrp hvp4 HL4.out (by show _ < L * 4; omega)
                  have y3 : w10.cell? ⟨gp, n * 4 + 3, none⟩ = some (.slice (some ⟨gv, 0, none⟩) lf vc) := by
                    refine hc4.1.trans ?_
                    show ((cellsOf (phiCells v tn) 0 qC.phis).set (n * 4 + 2) F)[n * 4 + 3]? = _
                    rw [List.getElem?_set_ne (by omega), phi_cell HP4.out (by omega)]
                    show some (v (.vals tn n)) = _
                    rw [HVV'.out]
                  have z3 := hc4.2
                  have HE := hideI (HD.out.put (tp := .phis tn) (j := n * 4 + 3) (u := V) HTI.out.2.2 hrp hvp4 HL4.out)
                  clear hc4 hrp hvp4
                  refine wpAnyT_ready (rs := [19]) (by kernel_rfl) (by simp) ?_
                  refine AllReadyT.cons rfl (fun K hK => ?_) ?_
                  · go_simp
                    refine hK.out _ _ (fun h => absurd (by simp) h) ?_
                    clear hK K
                    try simp only [Act.put, List.setIfInBounds_toArray, List.set_cons_zero, List.set_cons_succ]
                    refine wpAnyT_done (by kernel_rfl) ?_ _
                    rw [← HV.out]
                    have hfin := RsSt0.grown (w2 := w10.setCell ⟨gp, n * 4 + 3, none⟩ V) (y := y) (F := F) (V := V) (HS3.out.hit HQA.out HP1.out HND.out HX.out) HQA.out HP1.out HND.out HX.out HY.out (row2 := _) rfl (by rw [← HQC.out.1, ← HQC.out.2]; exact HE.out)
                    have HFIN := hideI hfin
                    clear hfin HE HD y3 z3 hS0
                    go_wp2
                    exact ⟨⟨m + 1, _, by omega, by go_num, by rw [← HV.out]; exact HFIN⟩, by simp [intOf]; omega⟩
                  · exact AllReadyT.nil
                · exact AllReadyT.nil
              · exact AllReadyT.nil
          · have e1 : (x != (i : Int)) = true := by simpa using hxi
            have HS4 := hideI (HS3.out.skip HX.out hxi)
            clear hxi
            go_wp2
            go_roundw
            case rel => exact ⟨m + 1, v, by omega, by go_num, HS4⟩
            case measure => simp [intOf]; omega
        · have hme : lf ≤ m := by omega
          have HS4 := hideI (HS3.out.leave HQA.out HP1.out (by rw [← HLF.out]; exact hme))
          go_wp2
          exact ⟨⟨n + 1, v, by omega, by go_num, HS4⟩, by simp [intOf]; omega⟩
    · have hnL : n = L := by omega
      rw [hnL] at HS1
      clear hnL
      go_upto_region 26 with fail
      have hfin := HS1.out.own
      rw [HBLS.out] at hfin
      have hsp : comeTo fA tn L (i : Int) (nb : Int) st = splitM f i j := by
        have h := comeTo_split (f := f) (i := i) (j := j) (q := qA) (by rw [HTO.out, Int.toNat_natCast, ← HN.out.1]; exact htl') (by rw [HTO.out, Int.toNat_natCast, ← HN.out.1, ← HFE.out, ← HFA.out]; exact HQA.out)
        rw [HTO.out, Int.toNat_natCast, ← HN.out.1, ← HFE.out, ← HFA.out, ← HST.out, ← HLN.out] at h
        exact h
      rw [hsp] at hfin
      have hbo := hfin.box (List.mem_cons_self ..)
      have o0 : wr.cell? ⟨gO, 0, none⟩ = some (.slice PA np pa) := (hbo 0).1
      have o1 : wr.cell? ⟨gO, 1, none⟩ = some (.int .i64 f.arrays) := (hbo 1).1
      have o2 : wr.cell? ⟨gO, 2, none⟩ = some (.int .i64 f.cells) := (hbo 2).1
      have o3 : wr.cell? ⟨gO, 3, none⟩ = some (.slice (some ⟨g1, 0, none⟩) (nb + 1) cap1) := (hbo 3).1
      have hrr := hfin.box (List.mem_cons_of_mem _ (List.mem_cons_self ..))
      rw [HRS.out] at hrr
      have s0 : wr.cell? ⟨w.heap.size + 1, 0, none⟩ = some (.slice none 0 0) := (hrr 0).1
      have s1 : wr.cell? ⟨w.heap.size + 1, 1, none⟩ = some (.int .i64 0) := (hrr 1).1
      have s2 : wr.cell? ⟨w.heap.size + 1, 2, none⟩ = some (.int .i64 0) := (hrr 2).1
      have s3 : wr.cell? ⟨w.heap.size + 1, 3, none⟩ = some (.slice none 0 0) := (hrr 3).1
      have z0 := (hrr 0).2
      have z1 := (hrr 1).2
      have z2 := (hrr 2).2
      have z3 := (hrr 3).2
      have hp := hfin.perm (List.Perm.swap _ _ _)
      rw [HRS.out] at hp
      have h6 := (((hp.store (j := 0) (.slice PA np pa)).store (j := 1) (.int .i64 f.arrays)).store (j := 2) (.int .i64 f.cells)).store (j := 3) (.slice (some ⟨g1, 0, none⟩) (nb + 1) cap1)
      simp only [List.setIfInBounds_toArray, List.set_cons_zero, List.set_cons_succ] at h6
      have H6 := hideI h6
      have HPAR := hideI (And.intro HS1.out.par HS1.out.blk)
      clear hfin hsp hbo hrr hp h6
      go_wp2
      obtain ⟨W8, hW8⟩ : ∃ W8, W8 = (((wr.setCell ⟨w.heap.size + 1, 0, none⟩ (.slice PA np pa)).setCell ⟨w.heap.size + 1, 1, none⟩ (.int .i64 f.arrays)).setCell ⟨w.heap.size + 1, 2, none⟩ (.int .i64 f.cells)).setCell ⟨w.heap.size + 1, 3, none⟩ (.slice (some ⟨g1, 0, none⟩) (nb + 1) cap1) := ⟨_, rfl⟩
      rw [← hW8] at H6
      rw [← hW8]
      have hx := row_cells (H6.out.cells _ (List.mem_cons_self ..)).1 rfl
      have t0 := hx 0
      have t1 := hx 1
      have t2 := hx 2
      have t3 := hx 3
      clear hx hW8 o0 o1 o2 o3 s0 s1 s2 s3 z0 z1 z2 z3
      refine bodyPost_ret (v := .tuple #[.agg #[.slice PA np pa, .int .i64 f.arrays, .int .i64 f.cells, .slice (some ⟨g1, 0, none⟩) (nb + 1) cap1], .int .i64 0]) (by simp [results, Try.results10, go_sem, t0, t1, t2, t3]) rfl ?_
      refine .inr ⟨HYES.out, i, j, v, w.heap.size, PA, pa, some ⟨g1, 0, none⟩, cap1, rfl, rfl, by rw [← HN.out.1, ← HN.out.2.1], by rw [← HN.out.2.1]; exact HPAR.out.1, by rw [← HN.out.1]; exact HPAR.out.2, ?_, Nat.le_refl _, H6.out.below.size, H6.out.below⟩
      exact H6.out.own

theorem refSplit_any (f : FuncM) (from_ k : Int) (B : Nat) (pv bv : Value) (w : World) (hpv : Ints w B pv f.params) (hbv : BlocksR w B bv f.blocks) (hB : B ≤ w.heap.size) :
    Calls Try.prog 10 #[.agg #[pv, .int .i64 f.arrays, .int .i64 f.cells, bv], .int .i64 from_, .int .i64 k] w (GSplitPost f from_ k w) := by
  by_cases h : splitErr f from_ k = 0
  · exact refSplit_yes f from_ k B pv bv w hpv hbv hB h
  · exact refSplit_no f from_ k B pv bv w hpv hbv hB h

end Go.Proofs.Ytncmnbchkabgaaa

namespace Go.Proofs.Ytncmnbchkabgaaa
open Go.RowKit Go.Maps

def awakeF : FuncM := ⟨[], 0, 0, [⟨[], [⟨1, 0, [], 5⟩], ⟨3, 0, [], 0⟩⟩]⟩

theorem awake_look : lookM awakeF = (0, [(0, 1)]) := by decide
theorem awake_size : sizeM awakeF = 2 := by decide

theorem awake_reads (w W : World) (h0 : W.heap[w.heap.size]? = some (.cells #[.int .i64 1, .int .i64 0, .slice none 0 0, .int .i64 5] 53 (0, 0)))
    (h1 : W.heap[w.heap.size + 1]? = some (.cells #[.slice none 0 0, .slice (some ⟨w.heap.size, 0, none⟩) 1 1, .int .i64 3, .int .i64 0, .slice none 0 0, .int .i64 0] 46 (0, 0))) :
    BlocksR W (w.heap.size + 2) (.slice (some ⟨w.heap.size + 1, 0, none⟩) 1 1) awakeF.blocks := by
  have c0 := row_cells h0 (rfl : W.heap[w.heap.size]? = W.heap[w.heap.size]?)
  have c1 := row_cells h1 (rfl : W.heap[w.heap.size + 1]? = W.heap[w.heap.size + 1]?)
  refine ⟨_, _, rfl, by decide, fun k q hk => ?_⟩
  have hq : k = 0 ∧ q = ⟨[], [⟨1, 0, [], 5⟩], ⟨3, 0, [], 0⟩⟩ := by
    rcases k with _ | k
    · simp [awakeF] at hk
      exact ⟨rfl, hk.symm⟩
    · simp [awakeF] at hk
  obtain ⟨rfl, rfl⟩ := hq
  refine ⟨_, 0, _, _, _, rfl, by omega, c1 _, c1 _, c1 _, c1 _, c1 _, c1 _, ⟨none, 0, rfl, by decide, fun k p hp => by simp at hp⟩, ⟨_, _, rfl, by decide, fun k x hx => ?_⟩, Ints.nil _ _, by unfold I64; decide, by unfold I64; decide, by unfold I64; decide⟩
  have hx' : k = 0 ∧ x = ⟨1, 0, [], 5⟩ := by
    rcases k with _ | k
    · simp at hx
      exact ⟨rfl, hx.symm⟩
    · simp at hx
  obtain ⟨rfl, rfl⟩ := hx'
  exact ⟨_, 0, _, rfl, by omega, c0 _, c0 _, c0 _, c0 _, Ints.nil _ _, by unfold I64; decide, by unfold I64; decide, by unfold I64; decide⟩

end Go.Proofs.Ytncmnbchkabgaaa

namespace Go.Proofs.Ytncmnbchkabgaaa
open Go.RowKit Go.Maps

theorem awake_order {o : List Nat} (h : OrderIs awakeF.blocks o) : o = [0] := by
  refine h.one ⟨[0], [], ?_, rfl⟩
  have : succM awakeF.blocks 0 = [] := rfl
  rw [this]
  exact .nil _

theorem awake_uses : ∀ u ∈ usesM awakeF, I64 u.1 := by
  intro u hu
  simp [usesM, awakeF, usesBlock, usesInstr, usesTerm, takesS, shapeS] at hu
  subst hu
  unfold I64
  decide

/-- the simplest function, made anew -/
def awakeMade (w : World) : World := (w.alloc (.cells #[.int .i64 1, .int .i64 0, .slice none 0 0, .int .i64 5] 53)).alloc (.cells #[.slice none 0 0, .slice (some ⟨w.heap.size, 0, none⟩) 1 1, .int .i64 3, .int .i64 0, .slice none 0 0, .int .i64 0] 46)

theorem awakeMade_facts (w : World) : BlocksR (awakeMade w) (w.heap.size + 2) (.slice (some ⟨w.heap.size + 1, 0, none⟩) 1 1) awakeF.blocks ∧ (awakeMade w).heap.size = w.heap.size + 2 ∧ Below w.heap.size w (awakeMade w) := by
  have hsz : (awakeMade w).heap.size = w.heap.size + 2 := by unfold awakeMade; simp
  have hBl : Below w.heap.size w (awakeMade w) := by unfold awakeMade; exact (((Below.refl _ w).alloc (Nat.le_refl _) _).alloc (by simp) _)
  have h0 : (awakeMade w).heap[w.heap.size]? = some (.cells #[.int .i64 1, .int .i64 0, .slice none 0 0, .int .i64 5] 53 (0, 0)) := by
    unfold awakeMade
    rw [Below.heap_alloc _ _ _ (by simp)]
    exact heap_alloc_new w _
  have h1 : (awakeMade w).heap[w.heap.size + 1]? = some (.cells #[.slice none 0 0, .slice (some ⟨w.heap.size, 0, none⟩) 1 1, .int .i64 3, .int .i64 0, .slice none 0 0, .int .i64 0] 46 (0, 0)) := by
    unfold awakeMade
    have := heap_alloc_new (w.alloc (.cells #[.int .i64 1, .int .i64 0, .slice none 0 0, .int .i64 5] 53)) (.cells #[.slice none 0 0, .slice (some ⟨w.heap.size, 0, none⟩) 1 1, .int .i64 3, .int .i64 0, .slice none 0 0, .int .i64 0] 46)
    simpa using this
  exact ⟨awake_reads w _ h0 h1, hsz, hBl⟩

theorem awake_orderIs : OrderIs awakeF.blocks [0] := by
  refine ⟨[0], [], ?_, rfl⟩
  have : succM awakeF.blocks 0 = [] := rfl
  rw [this]
  exact .nil _

end Go.Proofs.Ytncmnbchkabgaaa

namespace Go.Proofs.Ytncmnbchkabgaaa
open Go.RowKit Go.Maps

set_option maxHeartbeats 1000000 in
theorem awake3_any (w : World) : Calls Try.prog 7 #[] w fun e w' => e = .returned (.bool true) ∧ Below w.heap.size w w' := by
  obtain ⟨W2, hW2⟩ : ∃ W2 : World, W2 = (w.alloc (.cells #[.int .i64 1, .int .i64 0, .slice none 0 0, .int .i64 5] 53)).alloc (.cells #[.slice none 0 0, .slice (some ⟨w.heap.size, 0, none⟩) 1 1, .int .i64 3, .int .i64 0, .slice none 0 0, .int .i64 0] 46) := ⟨_, rfl⟩
  have hsz : W2.heap.size = w.heap.size + 2 := by rw [hW2]; simp
  have hBl : Below w.heap.size w W2 := by rw [hW2]; exact (((Below.refl _ w).alloc (Nat.le_refl _) _).alloc (by simp) _)
  have h0 : W2.heap[w.heap.size]? = some (.cells #[.int .i64 1, .int .i64 0, .slice none 0 0, .int .i64 5] 53 (0, 0)) := by
    rw [hW2, Below.heap_alloc _ _ _ (by simp)]
    exact heap_alloc_new w _
  have h1 : W2.heap[w.heap.size + 1]? = some (.cells #[.slice none 0 0, .slice (some ⟨w.heap.size, 0, none⟩) 1 1, .int .i64 3, .int .i64 0, .slice none 0 0, .int .i64 0] 46 (0, 0)) := by
    rw [hW2]
    have := heap_alloc_new (w.alloc (.cells #[.int .i64 1, .int .i64 0, .slice none 0 0, .int .i64 5] 53)) (.cells #[.slice none 0 0, .slice (some ⟨w.heap.size, 0, none⟩) 1 1, .int .i64 3, .int .i64 0, .slice none 0 0, .int .i64 0] 46)
    simpa using this
  have HC := hideI (gOrder_any awakeF (w.heap.size + 2) (.slice none 0 0) _ W2 (Ints.nil _ _) (awake_reads w W2 h0 h1) (by omega) awake_uses)
  have HBl := hideI hBl
  have HSZ := hideI hsz
  clear h0 h1 hsz hBl
  subst hW2
  go_enter Try.func7, Try.ntmps7
  go_wp2_with (first
    | (go_at_call 18; go_must (refine HC.out.mono ?_); rintro e w1 (⟨hbad, _⟩ | ⟨_, o, g, cap, rfl, ho, _, _, hown, hb⟩); (exact absurd (congrArg Prod.fst awake_look) hbad); have ho := awake_order ho; subst ho; have hc := nat_cell hown (i := 0) rfl; have HB := hideI hb; clear hown hb))
  go_ret
  exact ⟨rfl, HBl.out.trans (HB.out.mono (by rw [HSZ.out]; omega))⟩

end Go.Proofs.Ytncmnbchkabgaaa

namespace Go.Proofs.Ytncmnbchkabgaaa
open Go.RowKit

/-- two boxes -/
structure TwoAt (W0 wx : World) (g6 g7 : Nat) (cs ds : Array Value) (t : TypeId) : Prop where
  one : wx.heap[g6]? = some (.cells cs t (0, 0))
  two : wx.heap[g7]? = some (.cells ds t (0, 0))
  below : Below W0.heap.size W0 wx

theorem TwoAt.ab {W0 wr : World} (h : Below W0.heap.size W0 wr) (cs ds : Array Value) (t : TypeId) : TwoAt W0 ((wr.alloc (.cells cs t)).alloc (.cells ds t)).drew wr.heap.size (wr.heap.size + 1) cs ds t := by
  refine ⟨?_, ?_, ((h.alloc h.size _).alloc (by have := h.size; simp; omega) _).drew⟩
  · show ((wr.alloc (.cells cs t)).alloc (.cells ds t)).heap[wr.heap.size]? = _
    rw [Below.heap_alloc _ _ _ (by simp)]
    exact heap_alloc_new wr _
  · show ((wr.alloc (.cells cs t)).alloc (.cells ds t)).heap[wr.heap.size + 1]? = _
    have := heap_alloc_new (wr.alloc (.cells cs t)) (.cells ds t)
    simpa using this

theorem TwoAt.ba {W0 wr : World} (h : Below W0.heap.size W0 wr) (cs ds : Array Value) (t : TypeId) : TwoAt W0 ((wr.alloc (.cells ds t)).alloc (.cells cs t)).drew (wr.heap.size + 1) wr.heap.size cs ds t :=
  ⟨(TwoAt.ab h ds cs t).two, (TwoAt.ab h ds cs t).one, (TwoAt.ab h ds cs t).below⟩

theorem below_drew2 {B : Nat} {w w' : World} (h : Below B w w') (m : Nat) : Below B w (w'.drewN m) := ⟨h.os, h.tape, h.output, h.size, h.block⟩

set_option maxRecDepth 100000 in
set_option maxHeartbeats 4000000 in
theorem sameBlock_yes (b : BlockM) (B : Nat) (pv cv tv pv' cv' tv' : Value) (w : World) (hp : PhisR w B pv b.phis) (hc : CodeR w B cv b.code) (ht : Ints w B tv b.term.to) (hp' : PhisR w B pv' b.phis) (hc' : CodeR w B cv' b.code) (ht' : Ints w B tv' b.term.to) (hB : B ≤ w.heap.size) :
    Calls Try.prog 20 #[.agg #[pv, cv, .int .i64 b.term.op, .int .i64 b.term.val, tv, .int .i64 b.term.n], .agg #[pv', cv', .int .i64 b.term.op, .int .i64 b.term.val, tv', .int .i64 b.term.n]] w fun e w' => e = .returned (.bool true) ∧ Below w.heap.size w w' := by
  have HP := hideI hp
  have HC := hideI hc
  have HT := hideI ht
  have HP' := hideI hp'
  have HC' := hideI hc'
  have HT' := hideI ht'
  obtain ⟨A, c, rfl, hpm, _⟩ := hp
  obtain ⟨A', c', rfl, _, _⟩ := hp'
  obtain ⟨C, d, rfl, hcm, _⟩ := hc
  obtain ⟨C', d', rfl, _, _⟩ := hc'
  obtain ⟨W0, hW0⟩ : ∃ W0, W0 = (w.alloc (.cells #[.slice A b.phis.length c, .slice C b.code.length d, .int .i64 b.term.op, .int .i64 b.term.val, tv, .int .i64 b.term.n] 46)).alloc (.cells #[.slice A' b.phis.length c', .slice C' b.code.length d', .int .i64 b.term.op, .int .i64 b.term.val, tv', .int .i64 b.term.n] 46) := ⟨_, rfl⟩
  have hB0 : Below w.heap.size w W0 := by rw [hW0]; exact ((Below.refl _ w).alloc (Nat.le_refl _) _).alloc (by simp) _
  have hs0 : W0.heap.size = w.heap.size + 2 := by rw [hW0]; simp
  have hb1 : W0.heap[w.heap.size]? = some (.cells #[.slice A b.phis.length c, .slice C b.code.length d, .int .i64 b.term.op, .int .i64 b.term.val, tv, .int .i64 b.term.n] 46 (0, 0)) := by
    rw [hW0, Below.heap_alloc _ _ _ (by simp)]
    exact heap_alloc_new w _
  have hb2 : W0.heap[w.heap.size + 1]? = some (.cells #[.slice A' b.phis.length c', .slice C' b.code.length d', .int .i64 b.term.op, .int .i64 b.term.val, tv', .int .i64 b.term.n] 46 (0, 0)) := by
    rw [hW0]
    have := heap_alloc_new (w.alloc (.cells #[.slice A b.phis.length c, .slice C b.code.length d, .int .i64 b.term.op, .int .i64 b.term.val, tv, .int .i64 b.term.n] 46)) (.cells #[.slice A' b.phis.length c', .slice C' b.code.length d', .int .i64 b.term.op, .int .i64 b.term.val, tv', .int .i64 b.term.n] 46)
    simpa using this
  have HW0 := hideI hW0
  have HB0 := hideI hB0
  have HS0 := hideI hs0
  have G0 : Hid (∀ W, Below W0.heap.size W0 W → (∀ o, W.cell? ⟨w.heap.size, o, none⟩ = (#[.slice A b.phis.length c, .slice C b.code.length d, .int .i64 b.term.op, .int .i64 b.term.val, tv, .int .i64 b.term.n] : Array Value)[o]?) ∧ (∀ o, W.cell? ⟨w.heap.size + 1, o, none⟩ = (#[.slice A' b.phis.length c', .slice C' b.code.length d', .int .i64 b.term.op, .int .i64 b.term.val, tv', .int .i64 b.term.n] : Array Value)[o]?)) := fun W hW =>
    ⟨row_cells hb1 (hW.block w.heap.size (by omega)), row_cells hb2 (hW.block (w.heap.size + 1) (by omega))⟩
  have HK : Hid (∀ W, Below W0.heap.size W0 W → Keeps B w W) := fun W hW => Keeps.of_below ((HB0.out.trans (hW.mono (by omega))).mono hB)
  obtain ⟨q1, q2⟩ := G0.out W0 (Below.refl _ _)
  have a0 := q1 0
  have a1 := q1 1
  have a2 := q1 2
  have a3 := q1 3
  have a4 := q1 4
  have a5 := q1 5
  have b0 := q2 0
  have b1 := q2 1
  have b2 := q2 2
  have b3 := q2 3
  have b4 := q2 4
  have b5 := q2 5
  clear hW0 hB0 hs0 hb1 hb2 q1 q2
  go_enter Try.func20, Try.ntmps20
  go_upto_region 1 with fail
  rw [← HW0.out]
  have e1 : (b.term.op != b.term.op) = false := by simp
  have e2 : (b.term.val != b.term.val) = false := by simp
  have e3 : (b.term.n != b.term.n) = false := by simp
  have e4 : ((b.phis.length : Int) != (b.phis.length : Int)) = false := by simp
  have e5 : ((b.code.length : Int) != (b.code.length : Int)) = false := by simp
  go_wp2_with (first
    | (go_at_call 19; go_must (refine (sameInts_any _ B _ _ b.term.to b.term.to (HT.out.keeps (HK.out _ (Below.refl _ _))) (HT'.out.keeps (HK.out _ (Below.refl _ _)))).mono ?_); rintro e w1 ⟨rfl, m1, rfl⟩; rw [beq_self_eq_true]))
  clear a0 a1 a2 a3 a4 a5 b0 b1 b2 b3 b4 b5
  go_loopw [5] (fun u wr => ∃ k : Nat, k ≤ b.phis.length ∧ u = .int .i64 k ∧ Hid (Below W0.heap.size W0 wr)) (fun u _ => b.phis.length - (intOf u).toNat)
  case atStart => exact ⟨0, Nat.zero_le _, rfl, hideI (below_drew2 (Below.refl _ _) _)⟩
  case round =>
    obtain ⟨k, hk, rfl, HR⟩ := hrel
    obtain ⟨q1, q2⟩ := G0.out wr HR.out
    have a0 := q1 0
    have b0 := q2 0
    by_cases hlt : k < b.phis.length
    · clear q1 q2
      obtain ⟨p, hp⟩ : ∃ p, b.phis[k]? = some p := ⟨_, List.getElem?_eq_getElem hlt⟩
      obtain ⟨_, _, hh, _, hx⟩ := HP.out
      cases hh
      obtain ⟨g1, o1, fv, vv, rfl, hg1, c0, c1, c2, c3, hf, hv, _⟩ := hx k p hp
      obtain ⟨_, _, hh, _, hx'⟩ := HP'.out
      cases hh
      obtain ⟨g2, o2, fv', vv', rfl, hg2, f0, f1, f2, f3, hf', hv', _⟩ := hx' k p hp
      have HF := hideI hf
      have HV := hideI hv
      have HF' := hideI hf'
      have HV' := hideI hv'
      obtain ⟨F, fc, rfl, _⟩ := hf
      obtain ⟨V, vc, rfl, _⟩ := hv
      obtain ⟨F', fc', rfl, _⟩ := hf'
      obtain ⟨V', vc', rfl, _⟩ := hv'
      have G8 : Hid (∀ W2, Below W0.heap.size W0 W2 → W2.cell? ⟨w.heap.size, 0, none⟩ = some (.slice (some ⟨g1, o1, none⟩) b.phis.length c) ∧ W2.cell? ⟨w.heap.size + 1, 0, none⟩ = some (.slice (some ⟨g2, o2, none⟩) b.phis.length c') ∧ W2.cell? ⟨g1, o1 + k * 4, none⟩ = some (.int .i64 p.id) ∧ W2.cell? ⟨g1, o1 + k * 4 + 1, none⟩ = some (.int .i64 p.typ) ∧ W2.cell? ⟨g1, o1 + k * 4 + 2, none⟩ = some (.slice F p.fr.length fc) ∧ W2.cell? ⟨g1, o1 + k * 4 + 3, none⟩ = some (.slice V p.vals.length vc) ∧ W2.cell? ⟨g2, o2 + k * 4, none⟩ = some (.int .i64 p.id) ∧ W2.cell? ⟨g2, o2 + k * 4 + 1, none⟩ = some (.int .i64 p.typ) ∧ W2.cell? ⟨g2, o2 + k * 4 + 2, none⟩ = some (.slice F' p.fr.length fc') ∧ W2.cell? ⟨g2, o2 + k * 4 + 3, none⟩ = some (.slice V' p.vals.length vc')) := fun W2 h2 => by
        have hkp := HK.out W2 h2
        obtain ⟨r1, r2⟩ := G0.out W2 h2
        exact ⟨r1 0, r2 0, (hkp _ _ hg1).trans c0, (hkp _ _ hg1).trans c1, (hkp _ _ hg1).trans c2, (hkp _ _ hg1).trans c3, (hkp _ _ hg2).trans f0, (hkp _ _ hg2).trans f1, (hkp _ _ hg2).trans f2, (hkp _ _ hg2).trans f3⟩
      clear hp hx hx' c0 c1 c2 c3 f0 f1 f2 f3 a0 b0
      obtain ⟨a0, b0, c0, c1, c2, c3, f0, f1, f2, f3⟩ := G8.out wr HR.out
      go_upto_region 6 with fail
      go_cut [6, 7] (fun s6 s7 wx => ∃ g6 g7 : Nat, s6 = .pointer (some ⟨g6, 0, none⟩) ∧ s7 = .pointer (some ⟨g7, 0, none⟩) ∧ Hid (TwoAt W0 wx g6 g7 #[.int .i64 p.id, .int .i64 p.typ, .slice F p.fr.length fc, .slice V p.vals.length vc] #[.int .i64 p.id, .int .i64 p.typ, .slice F' p.fr.length fc', .slice V' p.vals.length vc'] 49))
      case first =>
        go_region_held3 (fun w' => w'.cell? ⟨w.heap.size, 0, none⟩ = some (.slice (some ⟨g1, o1, none⟩) b.phis.length c) ∧ w'.cell? ⟨w.heap.size + 1, 0, none⟩ = some (.slice (some ⟨g2, o2, none⟩) b.phis.length c') ∧ w'.cell? ⟨g1, o1 + k * 4, none⟩ = some (.int .i64 p.id) ∧ w'.cell? ⟨g1, o1 + k * 4 + 1, none⟩ = some (.int .i64 p.typ) ∧ w'.cell? ⟨g1, o1 + k * 4 + 2, none⟩ = some (.slice F p.fr.length fc) ∧ w'.cell? ⟨g1, o1 + k * 4 + 3, none⟩ = some (.slice V p.vals.length vc) ∧ w'.cell? ⟨g2, o2 + k * 4, none⟩ = some (.int .i64 p.id) ∧ w'.cell? ⟨g2, o2 + k * 4 + 1, none⟩ = some (.int .i64 p.typ) ∧ w'.cell? ⟨g2, o2 + k * 4 + 2, none⟩ = some (.slice F' p.fr.length fc') ∧ w'.cell? ⟨g2, o2 + k * 4 + 3, none⟩ = some (.slice V' p.vals.length vc')) (first | go_keep) (fail)
        all_goals (go_wp2_with fail; go_meet)
        · exact ⟨_, _, rfl, rfl, hideI (TwoAt.ab HR.out _ _ _)⟩
        · exact ⟨_, _, rfl, rfl, hideI (TwoAt.ba HR.out _ _ _)⟩
      case rest =>
        obtain ⟨g6, g7, rfl, rfl, HTW⟩ := hcut
        clear a0 b0 c0 c1 c2 c3 f0 f1 f2 f3
        have hx := row_cells HTW.out.one rfl
        have r0 := hx 0
        have r1 := hx 1
        have r2 := hx 2
        have r3 := hx 3
        have hy := row_cells HTW.out.two rfl
        have s0 := hy 0
        have s1 := hy 1
        have s2 := hy 2
        have s3 := hy 3
        have i1 : (p.id != p.id) = false := by simp
        have i2 : (p.typ != p.typ) = false := by simp
        clear hx hy
        go_wp2_with fail
        refine (sameInts_any _ B _ _ p.fr p.fr (HF.out.keeps (HK.out _ HTW.out.below)) (HF'.out.keeps (HK.out _ HTW.out.below))).mono ?_
        rintro e w1 ⟨rfl, m1, rfl⟩
        rw [beq_self_eq_true]
        go_wp2_with fail
        refine (sameInts_any _ B _ _ p.vals p.vals (HV.out.keeps (HK.out _ (below_drew2 HTW.out.below _))) (HV'.out.keeps (HK.out _ (below_drew2 HTW.out.below _)))).mono ?_
        rintro e w1 ⟨rfl, m2, rfl⟩
        rw [beq_self_eq_true]
        go_wp2_with fail
        go_roundw
        case rel => exact ⟨k + 1, by omega, by go_num, hideI (below_drew2 HTW.out.below _)⟩
        case measure => simp [intOf]; omega
    · have a1 := q1 1
      have b1 := q2 1
      clear q1 q2
      go_wp2_with fail
      clear a1 b1
      go_loopw [8] (fun u wr => ∃ k : Nat, k ≤ b.code.length ∧ u = .int .i64 k ∧ Hid (Below W0.heap.size W0 wr)) (fun u _ => b.code.length - (intOf u).toNat)
      case atStart => exact ⟨0, Nat.zero_le _, rfl, HR⟩
      case round =>
        obtain ⟨k, hk, rfl, HR⟩ := hrel
        obtain ⟨q1, q2⟩ := G0.out wr HR.out
        have a1 := q1 1
        have b1 := q2 1
        by_cases hlt : k < b.code.length
        · clear q1 q2
          obtain ⟨p, hp⟩ : ∃ p, b.code[k]? = some p := ⟨_, List.getElem?_eq_getElem hlt⟩
          obtain ⟨_, _, hh, _, hx⟩ := HC.out
          cases hh
          obtain ⟨g1, o1, av, rfl, hg1, c0, c1, c2, c3, hf, _⟩ := hx k p hp
          obtain ⟨_, _, hh, _, hx'⟩ := HC'.out
          cases hh
          obtain ⟨g2, o2, av', rfl, hg2, f0, f1, f2, f3, hf', _⟩ := hx' k p hp
          have HF := hideI hf
          have HF' := hideI hf'
          obtain ⟨F, fc, rfl, _⟩ := hf
          obtain ⟨F', fc', rfl, _⟩ := hf'
          have G8 : Hid (∀ W2, Below W0.heap.size W0 W2 → W2.cell? ⟨w.heap.size, 1, none⟩ = some (.slice (some ⟨g1, o1, none⟩) b.code.length d) ∧ W2.cell? ⟨w.heap.size + 1, 1, none⟩ = some (.slice (some ⟨g2, o2, none⟩) b.code.length d') ∧ W2.cell? ⟨g1, o1 + k * 4, none⟩ = some (.int .i64 p.op) ∧ W2.cell? ⟨g1, o1 + k * 4 + 1, none⟩ = some (.int .i64 p.id) ∧ W2.cell? ⟨g1, o1 + k * 4 + 2, none⟩ = some (.slice F p.args.length fc) ∧ W2.cell? ⟨g1, o1 + k * 4 + 3, none⟩ = some (.int .i64 p.n) ∧ W2.cell? ⟨g2, o2 + k * 4, none⟩ = some (.int .i64 p.op) ∧ W2.cell? ⟨g2, o2 + k * 4 + 1, none⟩ = some (.int .i64 p.id) ∧ W2.cell? ⟨g2, o2 + k * 4 + 2, none⟩ = some (.slice F' p.args.length fc') ∧ W2.cell? ⟨g2, o2 + k * 4 + 3, none⟩ = some (.int .i64 p.n)) := fun W2 h2 => by
            have hkp := HK.out W2 h2
            obtain ⟨r1, r2⟩ := G0.out W2 h2
            exact ⟨r1 1, r2 1, (hkp _ _ hg1).trans c0, (hkp _ _ hg1).trans c1, (hkp _ _ hg1).trans c2, (hkp _ _ hg1).trans c3, (hkp _ _ hg2).trans f0, (hkp _ _ hg2).trans f1, (hkp _ _ hg2).trans f2, (hkp _ _ hg2).trans f3⟩
          clear hp hx hx' c0 c1 c2 c3 f0 f1 f2 f3 a1 b1
          obtain ⟨a1, b1, c0, c1, c2, c3, f0, f1, f2, f3⟩ := G8.out wr HR.out
          go_upto_region 12 with fail
          go_cut [9, 10] (fun s9 s10 wx => ∃ g6 g7 : Nat, s9 = .pointer (some ⟨g6, 0, none⟩) ∧ s10 = .pointer (some ⟨g7, 0, none⟩) ∧ Hid (TwoAt W0 wx g6 g7 #[.int .i64 p.op, .int .i64 p.id, .slice F p.args.length fc, .int .i64 p.n] #[.int .i64 p.op, .int .i64 p.id, .slice F' p.args.length fc', .int .i64 p.n] 53))
          case first =>
            go_region_held3 (fun w' => w'.cell? ⟨w.heap.size, 1, none⟩ = some (.slice (some ⟨g1, o1, none⟩) b.code.length d) ∧ w'.cell? ⟨w.heap.size + 1, 1, none⟩ = some (.slice (some ⟨g2, o2, none⟩) b.code.length d') ∧ w'.cell? ⟨g1, o1 + k * 4, none⟩ = some (.int .i64 p.op) ∧ w'.cell? ⟨g1, o1 + k * 4 + 1, none⟩ = some (.int .i64 p.id) ∧ w'.cell? ⟨g1, o1 + k * 4 + 2, none⟩ = some (.slice F p.args.length fc) ∧ w'.cell? ⟨g1, o1 + k * 4 + 3, none⟩ = some (.int .i64 p.n) ∧ w'.cell? ⟨g2, o2 + k * 4, none⟩ = some (.int .i64 p.op) ∧ w'.cell? ⟨g2, o2 + k * 4 + 1, none⟩ = some (.int .i64 p.id) ∧ w'.cell? ⟨g2, o2 + k * 4 + 2, none⟩ = some (.slice F' p.args.length fc') ∧ w'.cell? ⟨g2, o2 + k * 4 + 3, none⟩ = some (.int .i64 p.n)) (first | go_keep) (fail)
            all_goals (go_wp2_with fail; go_meet)
            · exact ⟨_, _, rfl, rfl, hideI (TwoAt.ab HR.out _ _ _)⟩
            · exact ⟨_, _, rfl, rfl, hideI (TwoAt.ba HR.out _ _ _)⟩
          case rest =>
            obtain ⟨g6, g7, rfl, rfl, HTW⟩ := hcut
            clear a1 b1 c0 c1 c2 c3 f0 f1 f2 f3
            have hx := row_cells HTW.out.one rfl
            have r0 := hx 0
            have r1 := hx 1
            have r2 := hx 2
            have r3 := hx 3
            have hy := row_cells HTW.out.two rfl
            have s0 := hy 0
            have s1 := hy 1
            have s2 := hy 2
            have s3 := hy 3
            have i1 : (p.op != p.op) = false := by simp
            have i2 : (p.id != p.id) = false := by simp
            have i3 : (p.n != p.n) = false := by simp
            clear hx hy
            go_wp2_with fail
            refine (sameInts_any _ B _ _ p.args p.args (HF.out.keeps (HK.out _ HTW.out.below)) (HF'.out.keeps (HK.out _ HTW.out.below))).mono ?_
            rintro e w1 ⟨rfl, m1, rfl⟩
            rw [beq_self_eq_true]
            go_wp2_with fail
            go_roundw
            case rel => exact ⟨k + 1, by omega, by go_num, hideI (below_drew2 HTW.out.below _)⟩
            case measure => simp [intOf]; omega
        · clear q1 q2
          go_wp2_with fail
          go_ret
          exact ⟨rfl, HB0.out.trans (HR.out.mono (by rw [HS0.out]; omega))⟩

set_option maxRecDepth 100000 in
set_option maxHeartbeats 4000000 in
theorem same_yes (f : FuncM) (B : Nat) (pv bv pv' bv' : Value) (w : World) (hp : Ints w B pv f.params) (hb : BlocksR w B bv f.blocks) (hp' : Ints w B pv' f.params) (hb' : BlocksR w B bv' f.blocks) (hB : B ≤ w.heap.size) :
    Calls Try.prog 8 #[.agg #[pv, .int .i64 f.arrays, .int .i64 f.cells, bv], .agg #[pv', .int .i64 f.arrays, .int .i64 f.cells, bv']] w fun e w' => e = .returned (.bool true) ∧ Below w.heap.size w w' := by
  have HP := hideI hp
  have HP' := hideI hp'
  have HBL := hideI hb
  have HBL' := hideI hb'
  obtain ⟨P, pc, rfl, _⟩ := hp
  obtain ⟨P', pc', rfl, _⟩ := hp'
  obtain ⟨A, c, rfl, hbm, _⟩ := hb
  obtain ⟨A', c', rfl, _, _⟩ := hb'
  obtain ⟨W0, hW0⟩ : ∃ W0, W0 = (w.alloc (.cells #[.slice P f.params.length pc, .int .i64 f.arrays, .int .i64 f.cells, .slice A f.blocks.length c] 25)).alloc (.cells #[.slice P' f.params.length pc', .int .i64 f.arrays, .int .i64 f.cells, .slice A' f.blocks.length c'] 25) := ⟨_, rfl⟩
  have hB0 : Below w.heap.size w W0 := by rw [hW0]; exact ((Below.refl _ w).alloc (Nat.le_refl _) _).alloc (by simp) _
  have hs0 : W0.heap.size = w.heap.size + 2 := by rw [hW0]; simp
  have hb1 : W0.heap[w.heap.size]? = some (.cells #[.slice P f.params.length pc, .int .i64 f.arrays, .int .i64 f.cells, .slice A f.blocks.length c] 25 (0, 0)) := by
    rw [hW0, Below.heap_alloc _ _ _ (by simp)]
    exact heap_alloc_new w _
  have hb2 : W0.heap[w.heap.size + 1]? = some (.cells #[.slice P' f.params.length pc', .int .i64 f.arrays, .int .i64 f.cells, .slice A' f.blocks.length c'] 25 (0, 0)) := by
    rw [hW0]
    have := heap_alloc_new (w.alloc (.cells #[.slice P f.params.length pc, .int .i64 f.arrays, .int .i64 f.cells, .slice A f.blocks.length c] 25)) (.cells #[.slice P' f.params.length pc', .int .i64 f.arrays, .int .i64 f.cells, .slice A' f.blocks.length c'] 25)
    simpa using this
  have HW0 := hideI hW0
  have HB0 := hideI hB0
  have HS0 := hideI hs0
  have G0 : Hid (∀ W, Below W0.heap.size W0 W → (∀ o, W.cell? ⟨w.heap.size, o, none⟩ = (#[.slice P f.params.length pc, .int .i64 f.arrays, .int .i64 f.cells, .slice A f.blocks.length c] : Array Value)[o]?) ∧ (∀ o, W.cell? ⟨w.heap.size + 1, o, none⟩ = (#[.slice P' f.params.length pc', .int .i64 f.arrays, .int .i64 f.cells, .slice A' f.blocks.length c'] : Array Value)[o]?)) := fun W hW =>
    ⟨row_cells hb1 (hW.block w.heap.size (by omega)), row_cells hb2 (hW.block (w.heap.size + 1) (by omega))⟩
  have HK : Hid (∀ W, Below W0.heap.size W0 W → Keeps B w W) := fun W hW => Keeps.of_below ((HB0.out.trans (hW.mono (by omega))).mono hB)
  have hBW : B ≤ W0.heap.size := by omega
  obtain ⟨q1, q2⟩ := G0.out W0 (Below.refl _ _)
  have a0 := q1 0
  have a1 := q1 1
  have a2 := q1 2
  have a3 := q1 3
  have b0 := q2 0
  have b1 := q2 1
  have b2 := q2 2
  have b3 := q2 3
  clear hW0 hB0 hs0 hb1 hb2 q1 q2
  go_enter Try.func8, Try.ntmps8
  go_upto_region 1 with fail
  rw [← HW0.out]
  have e1 : (f.arrays != f.arrays) = false := by simp
  have e2 : (f.cells != f.cells) = false := by simp
  have e3 : ((f.blocks.length : Int) != (f.blocks.length : Int)) = false := by simp
  go_wp2_with fail
  refine (sameInts_any _ B _ _ f.params f.params (HP.out.keeps (HK.out _ (Below.refl _ _))) (HP'.out.keeps (HK.out _ (Below.refl _ _)))).mono ?_
  rintro e w1 ⟨rfl, m1, rfl⟩
  rw [beq_self_eq_true]
  have HB1 : Hid (Below W0.heap.size W0 (W0.drewN m1)) := below_drew2 (Below.refl _ _) _
  clear a0 a1 a2 a3 b0 b1 b2 b3
  obtain ⟨q1, q2⟩ := G0.out _ HB1.out
  have a3 := q1 3
  have b3 := q2 3
  clear q1 q2
  go_wp2_with fail
  clear a3 b3
  go_loopw [5] (fun u wr => ∃ k : Nat, k ≤ f.blocks.length ∧ u = .int .i64 k ∧ Hid (Below W0.heap.size W0 wr)) (fun u _ => f.blocks.length - (intOf u).toNat)
  case atStart => exact ⟨0, Nat.zero_le _, rfl, HB1⟩
  case round =>
    obtain ⟨k, hk, rfl, HR⟩ := hrel
    obtain ⟨q1, q2⟩ := G0.out wr HR.out
    have a3 := q1 3
    have b3 := q2 3
    clear q1 q2
    by_cases hlt : k < f.blocks.length
    · obtain ⟨q, hq⟩ : ∃ q, f.blocks[k]? = some q := ⟨_, List.getElem?_eq_getElem hlt⟩
      obtain ⟨_, _, hh, _, hx⟩ := HBL.out
      cases hh
      obtain ⟨g1, o1, hv, cv, tv, rfl, hg1, c0, c1, c2, c3, c4, c5, hph, hco, hto, _⟩ := hx k q hq
      obtain ⟨_, _, hh, _, hx'⟩ := HBL'.out
      cases hh
      obtain ⟨g2, o2, hv', cv', tv', rfl, hg2, f0, f1, f2, f3, f4, f5, hph', hco', hto', _⟩ := hx' k q hq
      have G8 : Hid (∀ W2, Below W0.heap.size W0 W2 → W2.cell? ⟨w.heap.size, 3, none⟩ = some (.slice (some ⟨g1, o1, none⟩) f.blocks.length c) ∧ W2.cell? ⟨w.heap.size + 1, 3, none⟩ = some (.slice (some ⟨g2, o2, none⟩) f.blocks.length c') ∧ W2.cell? ⟨g1, o1 + k * 6, none⟩ = some hv ∧ W2.cell? ⟨g1, o1 + k * 6 + 1, none⟩ = some cv ∧ W2.cell? ⟨g1, o1 + k * 6 + 2, none⟩ = some (.int .i64 q.term.op) ∧ W2.cell? ⟨g1, o1 + k * 6 + 3, none⟩ = some (.int .i64 q.term.val) ∧ W2.cell? ⟨g1, o1 + k * 6 + 4, none⟩ = some tv ∧ W2.cell? ⟨g1, o1 + k * 6 + 5, none⟩ = some (.int .i64 q.term.n) ∧ W2.cell? ⟨g2, o2 + k * 6, none⟩ = some hv' ∧ W2.cell? ⟨g2, o2 + k * 6 + 1, none⟩ = some cv' ∧ W2.cell? ⟨g2, o2 + k * 6 + 2, none⟩ = some (.int .i64 q.term.op) ∧ W2.cell? ⟨g2, o2 + k * 6 + 3, none⟩ = some (.int .i64 q.term.val) ∧ W2.cell? ⟨g2, o2 + k * 6 + 4, none⟩ = some tv' ∧ W2.cell? ⟨g2, o2 + k * 6 + 5, none⟩ = some (.int .i64 q.term.n)) := fun W2 h2 => by
        have hkp := HK.out W2 h2
        obtain ⟨r1, r2⟩ := G0.out W2 h2
        exact ⟨r1 3, r2 3, (hkp _ _ hg1).trans c0, (hkp _ _ hg1).trans c1, (hkp _ _ hg1).trans c2, (hkp _ _ hg1).trans c3, (hkp _ _ hg1).trans c4, (hkp _ _ hg1).trans c5, (hkp _ _ hg2).trans f0, (hkp _ _ hg2).trans f1, (hkp _ _ hg2).trans f2, (hkp _ _ hg2).trans f3, (hkp _ _ hg2).trans f4, (hkp _ _ hg2).trans f5⟩
      have HSB : Hid (∀ W2, Below W0.heap.size W0 W2 → Calls Try.prog 20 #[.agg #[hv, cv, .int .i64 q.term.op, .int .i64 q.term.val, tv, .int .i64 q.term.n], .agg #[hv', cv', .int .i64 q.term.op, .int .i64 q.term.val, tv', .int .i64 q.term.n]] W2 fun e w' => e = .returned (.bool true) ∧ Below W0.heap.size W0 w') := fun W2 h2 => by
        have hkp := HK.out W2 h2
        exact (sameBlock_yes q B _ _ _ _ _ _ W2 (hph.keeps hkp) (hco.keeps hkp) (hto.keeps hkp) (hph'.keeps hkp) (hco'.keeps hkp) (hto'.keeps hkp) (Nat.le_trans hBW h2.size)).mono fun e w' ⟨h1, h3⟩ => ⟨h1, h2.trans (h3.mono h2.size)⟩
      clear hq hx hx' c0 c1 c2 c3 c4 c5 f0 f1 f2 f3 f4 f5 a3 b3 hph hco hto hph' hco' hto'
      obtain ⟨a3, b3, c0, c1, c2, c3, c4, c5, f0, f1, f2, f3, f4, f5⟩ := G8.out wr HR.out
      go_upto_region 6 with fail
      go_region_held3 (fun w' => w'.cell? ⟨w.heap.size, 3, none⟩ = some (.slice (some ⟨g1, o1, none⟩) f.blocks.length c) ∧ w'.cell? ⟨w.heap.size + 1, 3, none⟩ = some (.slice (some ⟨g2, o2, none⟩) f.blocks.length c') ∧ w'.cell? ⟨g1, o1 + k * 6, none⟩ = some hv ∧ w'.cell? ⟨g1, o1 + k * 6 + 1, none⟩ = some cv ∧ w'.cell? ⟨g1, o1 + k * 6 + 2, none⟩ = some (.int .i64 q.term.op) ∧ w'.cell? ⟨g1, o1 + k * 6 + 3, none⟩ = some (.int .i64 q.term.val) ∧ w'.cell? ⟨g1, o1 + k * 6 + 4, none⟩ = some tv ∧ w'.cell? ⟨g1, o1 + k * 6 + 5, none⟩ = some (.int .i64 q.term.n) ∧ w'.cell? ⟨g2, o2 + k * 6, none⟩ = some hv' ∧ w'.cell? ⟨g2, o2 + k * 6 + 1, none⟩ = some cv' ∧ w'.cell? ⟨g2, o2 + k * 6 + 2, none⟩ = some (.int .i64 q.term.op) ∧ w'.cell? ⟨g2, o2 + k * 6 + 3, none⟩ = some (.int .i64 q.term.val) ∧ w'.cell? ⟨g2, o2 + k * 6 + 4, none⟩ = some tv' ∧ w'.cell? ⟨g2, o2 + k * 6 + 5, none⟩ = some (.int .i64 q.term.n)) (first | go_keep | exact G8.out _ hb8)
        (first | (go_at_call 20; refine (HSB.out _ (by exact below_drew2 HR.out 1)).mono ?_; rintro e w8 ⟨rfl, hb8⟩))
      clear a3 b3 c0 c1 c2 c3 c4 c5 f0 f1 f2 f3 f4 f5
      go_wp2
      go_roundw
      case rel => exact ⟨k + 1, by omega, by go_num, hb8⟩
      case measure => simp [intOf]; omega
    · go_wp2_with fail
      go_ret
      exact ⟨rfl, HB0.out.trans (HR.out.mono (by rw [HS0.out]; omega))⟩

end Go.Proofs.Ytncmnbchkabgaaa
