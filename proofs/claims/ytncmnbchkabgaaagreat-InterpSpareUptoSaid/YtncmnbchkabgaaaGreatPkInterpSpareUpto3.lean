/- What InterpSpareUpto rests on, part 3: IDo, RefArgs, Small, Define, Ways, GVisit, Once. -/
import Derived.Test.YtncmnbchkabgaaaGreatPkInterpSpareUpto2
import Derived.Deep.Light
import Derived.Deep.AppendLies
import Derived.OwnWalk
import Derived.OneCell
import Derived.Outline
import Derived.Laws.OwnMore

namespace Go.Proofs.YtncmnbchkabgaaaGreat
open Go.RowKit Go.Maps

section
variable {c : MachC} {K : Nat → Prop} {w w' : World} {val : MVals} {s : StM} {av : Value} {a : List Int}

/-- behind 'do' -/
def DoPost (c : MachC) (K : Nat → Prop) (w : World) (r : StM × Option EndM) (e : Ending) (w' : World) : Prop :=
  e = (match r.2 with | none => .returned (.tuple #[]) | some en => endE en) ∧ (∃ val', MachR c K w' val' r.1) ∧ KF K w w'

/-- the arguments so far -/
def argsRow (s : StM) (xs : List Int) (i : Nat) : List Value := ((xs.take i).map fun a => .int .i64 (s.val a)) ++ List.replicate (xs.length - i) (.int .i64 0)

theorem argsRow_zero (s : StM) (xs : List Int) : argsRow s xs 0 = List.replicate xs.length (.int .i64 0) := by simp [argsRow]

theorem argsRow_next (s : StM) (xs : List Int) {i : Nat} {a : Int} (hi : xs[i]? = some a) : (argsRow s xs i).set i (.int .i64 (s.val a)) = argsRow s xs (i + 1) := by
  have hlt := (List.getElem?_eq_some_iff.1 hi).1
  unfold argsRow
  rw [List.set_append_right _ _ (by simp; omega)]
  simp only [List.length_map, List.length_take]
  rw [show i - min i xs.length = 0 by omega, show xs.length - i = (xs.length - (i + 1)) + 1 by omega, List.replicate_succ, List.set_cons_zero, List.take_add_one, hi]
  simp

theorem argsRow_all (s : StM) (xs : List Int) : argsRow s xs xs.length = (xs.map s.val).map (Value.int .i64) := by simp [argsRow]

/-- a value, as it lies -/
theorem MachR.valAt (h : MachR c K w val s) {a : Int} (h0 : 0 ≤ a) (h1 : a < c.nv) : ∃ (gv cv j : Nat), a = j ∧ j < c.nv ∧ val .vals = .slice (some ⟨gv, 0, none⟩) c.nv cv ∧ w.cell? ⟨gv, j, none⟩ = some (.int .i64 (s.val a)) ∧ w.frozen? ⟨gv, j, none⟩ = false ∧ gv ≠ c.m ∧ gv < w.heap.size := by
  obtain ⟨j, rfl⟩ := Int.eq_ofNat_of_zero_le h0
  have hj : j < c.nv := by omega
  have hr : mRow s c.nv val .vals = some (intRow ((List.range c.nv).map fun (i : Nat) => s.val i)) := rfl
  have hl : (intRow ((List.range c.nv).map fun (i : Nat) => s.val i)).len = c.nv := by simp [intRow]
  obtain ⟨gv, cv, hv⟩ := h.slice hr (by rw [hl]; omega)
  have hc := h.cell hr hv (j := j) (by rw [hl]; exact hj)
  rw [hl] at hv
  refine ⟨gv, cv, j, rfl, hj, hv, ?_, hc.2, (h.off .vals _ gv hr (by rw [hv]; rfl)).1, h.own_lt hr (by rw [hv]; rfl)⟩
  rw [hc.1]
  simp [intRow, hj]

theorem MachR.valCell (h : MachR c K w val s) {gv cv j : Nat} (hv : val .vals = .slice (some ⟨gv, 0, none⟩) c.nv cv) (hj : j < c.nv) : w.cell? ⟨gv, j, none⟩ = some (.int .i64 (s.val j)) ∧ w.frozen? ⟨gv, j, none⟩ = false := by
  obtain ⟨gv', cv', j', e, _, hv', h1, h2, _⟩ := h.valAt (a := (j : Int)) (by omega) (by omega)
  obtain rfl : j = j' := by omega
  rw [hv] at hv'
  injection hv' with e1 e2 e3
  injection e1 with e1
  injection e1 with e1
  subst e1
  exact ⟨h1, h2⟩

theorem vals_set (f : Int → Int) (j : Nat) (v : Int) (n : Nat) : ((List.range n).map fun (i : Nat) => setV f j v i).map (Value.int .i64) = (((List.range n).map fun (i : Nat) => f i).map (Value.int .i64)).set j (.int .i64 v) := by
  apply List.ext_getElem?
  intro k
  rw [List.getElem?_set]
  by_cases hk : k < n
  · by_cases e : j = k
    · subst e
      simp [hk, setV]
    · rw [if_neg e]
      have : ¬ (k : Int) = (j : Int) := by omega
      simp [hk, setV, this]
  · by_cases e : j = k
    · subst e; simp [hk]
    · rw [if_neg e]; simp [hk]

/-- a value is set -/
theorem MachR.setVal (h : MachR c K w val s) {gv cv j : Nat} (hv : val .vals = .slice (some ⟨gv, 0, none⟩) c.nv cv) (v : Int) : MachR c K (w.setCell ⟨gv, j, none⟩ (.int .i64 v)) val { s with val := setV s.val j v } ∧ KF K w (w.setCell ⟨gv, j, none⟩ (.int .i64 v)) := by
  have hl : (intRow ((List.range c.nv).map fun (i : Nat) => s.val i)).len = c.nv := by simp [intRow]
  refine h.store (t := .vals) (d := intRow ((List.range c.nv).map fun (i : Nat) => s.val i)) (cap := cv) rfl (by rw [hl]; exact hv) ?_ (fun t ht => ?_) rfl rfl
  · show some (intRow _) = _
    unfold intRow
    congr 2
    · simp
    · exact vals_set s.val j v c.nv
  · cases t with
    | vals => exact absurd rfl ht
    | _ => rfl

theorem map_set_ints (xs : List Int) (j : Nat) (v : Int) : (xs.set j v).map (Value.int .i64) = (xs.map (Value.int .i64)).set j (.int .i64 v) := by simp [List.map_set]

/-- a cell is set -/
theorem MachR.setCells (h : MachR c K w val s) {gv cv j : Nat} (hv : val .cells = .slice (some ⟨gv, 0, none⟩) s.cells.length cv) (v : Int) : MachR c K (w.setCell ⟨gv, j, none⟩ (.int .i64 v)) val { s with cells := s.cells.set j v } ∧ KF K w (w.setCell ⟨gv, j, none⟩ (.int .i64 v)) := by
  refine h.store (t := .cells) (d := intRow s.cells) (cap := cv) rfl hv ?_ (fun t ht => ?_) rfl rfl
  · show some (intRow _) = _
    unfold intRow
    congr 2
    · simp
    · exact map_set_ints _ _ _
  · cases t with
    | cells => exact absurd rfl ht
    | _ => rfl

/-- an element is set -/
theorem MachR.setElem (h : MachR c K w val s) {k : Nat} {r : List Int} (hk : s.arrs[k]? = some r) {gb cp j : Nat} (hv : val (.arr k) = .slice (some ⟨gb, 0, none⟩) r.length cp) (v : Int) :
    MachR c K (w.setCell ⟨gb, j, none⟩ (.int .i64 v)) val { s with arrs := s.arrs.set k (r.set j v) } ∧ KF K w (w.setCell ⟨gb, j, none⟩ (.int .i64 v)) := by
  have hlt := (List.getElem?_eq_some_iff.1 hk).1
  refine h.store (t := .arr k) (d := intRow r) (cap := cp) (by simp [mRow, hk]) hv ?_ (fun t ht => ?_) rfl rfl
  · simp only [mRow]
    rw [List.getElem?_set_self hlt]
    show some (intRow _) = _
    unfold intRow
    congr 2
    · simp
    · exact map_set_ints _ _ _
  · cases t with
    | arr i =>
      simp only [mRow]
      rw [List.getElem?_set_ne (fun e => ht (by rw [e]))]
    | arrs => simp [mRow]
    | _ => rfl

theorem madeRow_zero (n : Nat) : (madeCells (Value.int .i64 0).cells n).toList = List.replicate n (.int .i64 0) := toList_madeCells_one _ n

set_option maxRecDepth 100000 in
set_option maxHeartbeats 8000000 in
theorem do_any (h : MachR c K w val s) (x : InstrM) (xv : Value) (hx : InstrOk s c.nv x) (hxv : Ints w c.B xv x.args) (hfew : x.args.length ≤ 3) (hout : s.out.length ≤ 4096) :
    Calls Tryz.prog 59 #[.pointer (some ⟨c.m, 0, none⟩), boxI x xv] w (DoPost c K w (doM x s)) := by
  obtain ⟨i0, hix, hi2⟩ : ∃ i, Tryz.prog.info? 3 = some i ∧ i.zero = some (.int .i64 0) ∧ i.size = 1 ∧ i.bytes = 8 := ⟨_, rfl, rfl, rfl, rfl⟩
  obtain ⟨hz0, hz1, hz2⟩ := hi2
  obtain ⟨W0, hW0⟩ : ∃ W0, W0 = w.alloc (.cells #[.int .i64 x.op, .int .i64 x.id, xv, .int .i64 x.n] 59) := ⟨_, rfl⟩
  obtain ⟨hm, hk1, hbox⟩ := box_facts h x xv hW0
  have HX := hideI hx
  have HOUT := hideI hout
  clear hout
  have H := hideI h
  have HK1 := hideI hk1
  have HM := hideI hm
  have HS0 : Hid (W0.heap.size = w.heap.size + 1) := by rw [hW0]; exact hideI (by simp)
  obtain ⟨P, pc, hpv, _, hpx⟩ := hxv
  subst hpv
  have HPX : Hid (∀ k, k < x.args.length → ∃ b off, P = some ⟨b, off, none⟩ ∧ b < c.B ∧ w.cell? ⟨b, off + k, none⟩ = some (.int .i64 (x.args[k]?.getD 0))) := hpx
  obtain ⟨n, hn⟩ : ∃ n, n = x.args.length := ⟨_, rfl⟩
  rw [← hn] at hW0 hbox
  have HW0 := hideI hW0
  have HBOX := hideI hbox
  have HN := hideI hn
  have HFEW : Hid (n ≤ 3) := by rw [hn]; exact hideI hfew
  have hfn := HFEW.out
  have q := row_cells hbox rfl
  have q0 := q 0
  have q1 := q 1
  have q2 := q 2
  have q3 := q 3
  simp only [boxI]
  rw [← hn]
  clear q hm hk1 hW0 h hbox hx hfew hpx hn
  go_enter Tryz.func59, Tryz.ntmps59
  go_upto_region 1 with fail
  rw [← HW0.out]
  go_wp2_with (first
    | (at_make; go_must (refine wpList_make_full _ rfl _ _ 22 rfl W0.heap.size 3 i0 (.int .i64 0) 1 Tryz.underlying22 hix hz0 hz1 .i64 .i64 _ _ n rfl rfl rfl rfl (by rw [hz2]; omega) (by unfold maxLen; omega) (Nat.le_refl _) ?_); intro w1 hown1 hg1; go_must (have HB1 : Hid (Below W0.heap.size W0 w1) := hideI ((Below.refl _ _).grown hg1 (Nat.le_refl _) (by simp)); have HO1 := hideI hown1; clear hown1 hg1 q0 q1 q2 q3; have q := row_cells HBOX.out (HB1.out.block _ (by have := HS0.out; omega)); have q0 := q 0; have q1 := q 1; have q2 := q 2; have q3 := q 3; clear q)))
  clear q0 q1 q2 q3
  go_loopw [14] (fun u wr => ∃ i : Nat, i ≤ n ∧ u = .int .i64 i ∧ Hid (Below W0.heap.size W0 wr) ∧ Hid (wr.ownsRow W0.heap.size 3 1 (.slice (some ⟨W0.heap.size, 0, none⟩) n n) n (argsRow s x.args i))) (fun u _ => n - (intOf u).toNat)
  case atStart => exact ⟨0, Nat.zero_le _, rfl, HB1, hideI (by have h1 := HO1.out; rw [Nat.mul_one, madeRow_zero] at h1; rw [argsRow_zero, ← HN.out]; exact h1)⟩
  case round =>
    obtain ⟨i, hi, rfl, HBr, HOr⟩ := hrel
    have hgl := (HOr.out.lt W0.heap.size rfl).2
    have q := row_cells HBOX.out (HBr.out.block _ (by have := HS0.out; omega))
    have q0 := q 0
    have q1 := q 1
    have q2 := q 2
    have q3 := q 3
    clear q
    by_cases hlt : i < n
    · obtain ⟨b, off, rfl, hb, d0⟩ := HPX.out i (by rw [← HN.out]; exact hlt)
      obtain ⟨a, ha⟩ : ∃ a, x.args[i]? = some a := ⟨_, List.getElem?_eq_getElem (by rw [← HN.out]; exact hlt)⟩
      rw [ha] at d0
      have hbK := H.out.kB b hb
      have d1 : wr.cell? ⟨b, off + i, none⟩ = some (.int .i64 a) := (World.cell?_of_block (a := ⟨b, off + i, none⟩) ((HBr.out.block b (by have := H.out.low b hbK; have := HS0.out; omega)).trans (HK1.out.block b hbK))).trans d0
      have hmr := HM.out.below HBr.out
      have hna := HX.out.args a (List.mem_of_getElem? ha)
      obtain ⟨gv, cv, j, rfl, hj, hv, hvc, _, hgm, hgv⟩ := hmr.valAt hna.1 hna.2
      have c11 := hmr.cells 11
      simp only [machCells] at c11
      rw [hv] at c11
      have r0 := World.ownsRow.cellAt HOr.out i (by omega)
      have r1 := World.ownsRow.frozenAt HOr.out i
      have hri : (argsRow s x.args i)[i]?.isSome = true := by
        unfold argsRow
        rw [List.getElem?_append_right (by simp; omega)]
        have := HN.out
        simp
        omega
      obtain ⟨u0, hu0⟩ := Option.isSome_iff_exists.1 hri
      rw [hu0] at r0
      have hlb := World.block_lt_of_cell? wr _ d1
      have hlm := hmr.m_lt
      have HA := hideI ha
      clear hna hmr ha hri hu0 d0 hb hbK hv
      go_wp2
      go_roundw
      case rel => exact ⟨i + 1, by omega, by go_num, hideI (HBr.out.setCell (p := ⟨W0.heap.size, i, none⟩) (Nat.le_refl _) _), hideI (by rw [← argsRow_next s x.args HA.out]; exact (World.ownsRow.stored HOr.out i _).1)⟩
      case measure => simp [intOf]; omega
    · have hin : i = n := by omega
      subst hin
      have HAR : Hid (ArgsAt (fun b => (K b ∨ b = w.heap.size) ∨ (W0.heap.size ≤ b ∧ b < wr.heap.size)) wr (.slice (some ⟨W0.heap.size, 0, none⟩) i i) (x.args.map s.val)) := hideI ⟨by rw [List.length_map, ← HN.out]; omega, W0.heap.size, i, by rw [List.length_map, ← HN.out], .inr ⟨Nat.le_refl _, hgl⟩, fun j hj => by
        have h1 := World.ownsRow.cellAt HOr.out j (by rw [List.length_map, ← HN.out] at hj; omega)
        rw [h1, HN.out, argsRow_all, List.getElem?_map, List.getElem?_eq_getElem hj]
        rfl⟩
      have HM3 := hideI (HM.out.adds HBr.out)
      have HDONE : Hid (∀ W t val', MachR c (fun b => (K b ∨ b = w.heap.size) ∨ (W0.heap.size ≤ b ∧ b < wr.heap.size)) W val' t → KF (fun b => (K b ∨ b = w.heap.size) ∨ (W0.heap.size ≤ b ∧ b < wr.heap.size)) wr W → (∃ val', MachR c K W val' t) ∧ KF K w W) := hideI fun W t val' h1 h2 =>
        ⟨⟨val', h1.less (fun b hb => .inl (.inl hb)) (fun b hb => H.out.kB b hb) H.out.kM⟩, (HK1.out.trans (KF.of_below HBr.out (fun b hb => HM.out.low b (.inl hb)))).trans (h2.mono (fun b hb => .inl (.inl hb)))⟩
      have HBX : Hid (∀ W, KF (fun b => (K b ∨ b = w.heap.size) ∨ (W0.heap.size ≤ b ∧ b < wr.heap.size)) wr W → W.cell? ⟨w.heap.size, 0, none⟩ = some (.int .i64 x.op) ∧ W.cell? ⟨w.heap.size, 1, none⟩ = some (.int .i64 x.id) ∧ W.cell? ⟨w.heap.size, 2, none⟩ = some (.slice P i pc) ∧ W.cell? ⟨w.heap.size, 3, none⟩ = some (.int .i64 x.n)) := hideI fun W hW => by
        have hq := row_cells HBOX.out ((hW.block _ (.inl (.inr rfl))).trans (HBr.out.block _ (by have := HS0.out; omega)))
        exact ⟨hq 0, hq 1, hq 2, hq 3⟩
      clear hgl HOr
      by_cases hmk : makesS x.op = 0
      · have hop := HX.out.isop
        have hcs : x.op = 20 ∨ x.op = 22 ∨ x.op = 23 ∨ x.op = 25 := by
          rcases op_cases x.op with h1 | h1 | h1
          · rcases h1 with e | e | e | e | e | e | e | e | e | e | e | e | e <;> rw [e] at hmk <;> exact absurd hmk (by decide)
          · rcases h1 with e | e | e | e | e | e | e | e | e | e | e | e <;> first | (rw [e] at hmk; exact absurd hmk (by decide)) | (rw [e]; simp)
          · rw [show isOp x.op = false from by unfold isOp; rw [shapeS_none h1]] at hop; cases hop
        clear hop hmk
        have hargs := HAR.out
        obtain ⟨_, ga, capa, hae, _, hac⟩ := hargs
        obtain ⟨e1, e2⟩ : ga = W0.heap.size ∧ capa = i := by injection hae with x1 _ x3; injection x1 with x1; injection x1 with x1; exact ⟨x1.symm, x3.symm⟩
        subst e1 e2
        have HAC := hideI hac
        have hlen := HX.out.len
        rw [← HN.out] at hlen
        clear hae hac
        rcases hcs with ho | ho | ho | ho
        · rw [ho] at q0 HBX
          obtain rfl : capa = 2 := by rw [hlen, ho]; decide
          obtain ⟨a0, a1, ha0⟩ : ∃ a0 a1, x.args.map s.val = [a0, a1] := by
            have h1 : (x.args.map s.val).length = 2 := by rw [List.length_map, ← HN.out]
            match x.args.map s.val, h1 with
            | [a0, a1], _ => exact ⟨a0, a1, rfl⟩
          have c0 := HAC.out 0 (by rw [ha0]; simp)
          have c1 := HAC.out 1 (by rw [ha0]; simp)
          rw [ha0] at c0 c1
          obtain ⟨k, r, hkn, hk⟩ := arr_at (HX.out.arr (by rw [ho]; decide))
          have hxk : x.n.toNat = k := by rw [hkn]; rfl
          have HE : Hid (doM x s = if inArr s k a0 then ({ lookS 20 s with arrs := s.arrs.set k (r.set a0.toNat a1) }, none) else (lookS 20 s, some (missM 20))) := hideI (by
            have har : arrM s x.n = r := by unfold arrM; rw [List.getD_eq_getElem?_getD, hxk, hk]; rfl
            unfold doM
            simp only
            rw [ho, if_pos (by simp), hxk, har, ha0, hkn]
            rfl)
          rw [hkn] at q3 HBX
          have HF : Hid (∀ n, _) := hideI fun n => element_any (HM3.out.drewN n) hk 20 x.id (.slice P 2 pc) a0
          have HK := hideI hk
          have HCC : Hid (∀ W, KF (fun b => (K b ∨ b = w.heap.size) ∨ (W0.heap.size ≤ b ∧ b < wr.heap.size)) wr W → W.cell? ⟨W0.heap.size, 0, none⟩ = some (.int .i64 a0) ∧ W.cell? ⟨W0.heap.size, 1, none⟩ = some (.int .i64 a1)) := hideI fun W hW => by
            have hb := hW.block W0.heap.size (.inr ⟨Nat.le_refl _, World.block_lt_of_cell? wr _ c0⟩)
            exact ⟨(World.cell?_of_block (a := ⟨W0.heap.size, 0, none⟩) hb).trans c0, (World.cell?_of_block (a := ⟨W0.heap.size, 1, none⟩) hb).trans c1⟩
          have HLT := hideI (World.block_lt_of_cell? wr _ c0)
          clear ha0 ho hlen hkn hxk hk
          by_cases hin : inArr s k a0 = true
          · rw [if_pos hin] at HE
            replace HF : Hid (∀ n, Calls Tryz.prog 108 #[.pointer (some ⟨c.m, 0, none⟩), .agg #[.int .i64 20, .int .i64 x.id, .slice P 2 pc, .int .i64 k], .int .i64 a0] (wr.drewN n) fun e w' => e = .returned (.tuple #[]) ∧ MachR c (fun b => (K b ∨ b = w.heap.size) ∨ (W0.heap.size ≤ b ∧ b < wr.heap.size)) w' val (lookS 20 s) ∧ KF (fun b => (K b ∨ b = w.heap.size) ∨ (W0.heap.size ≤ b ∧ b < wr.heap.size)) wr w') := hideI fun n => (HF.out n).mono fun e w' ⟨h1, h2, h3⟩ => by
              rcases h1 with ⟨_, h1⟩ | ⟨h1, _⟩
              · exact ⟨h1, h2, h3.undrew⟩
              · rw [hin] at h1; cases h1
            obtain ⟨j, hj0, hj⟩ := in_nat HK.out hin
            subst hj0
            have HJ := hideI hj
            rw [Int.toNat_natCast] at HE
            clear hin hj
            go_upto_region 11 with fail
            go_region_held3 (fun w' => w'.cell? ⟨W0.heap.size, 0, none⟩ = some (.int .i64 j) ∧ w'.cell? ⟨w.heap.size, 0, none⟩ = some (.int .i64 20) ∧ w'.cell? ⟨w.heap.size, 1, none⟩ = some (.int .i64 x.id) ∧ w'.cell? ⟨w.heap.size, 2, none⟩ = some (.slice P 2 pc) ∧ w'.cell? ⟨w.heap.size, 3, none⟩ = some (.int .i64 k)) (first | exact ⟨(HCC.out _ HF1.out).1, HBX.out _ HF1.out⟩ | go_keep) (first | (go_at_call 108; refine (HF.out 1).mono ?_; rintro e w4 ⟨rfl, hm1, hf1⟩; have HM1 := hideI hm1; have HF1 := hideI hf1; clear hm1 hf1))
            obtain ⟨ga, ca, gb, cp, X⟩ := HM1.out.elemAt (j := j) (by rw [look_arrs]; exact HK.out) HJ.out
            have c4 := HM1.out.cells 4
            simp only [machCells] at c4
            rw [X.arrs, look_arrs] at c4
            clear q0 q1 q2 q3 c0 c1
            obtain ⟨q0, q1, q2, q3⟩ := HBX.out _ HF1.out
            obtain ⟨c0, c1⟩ := HCC.out _ HF1.out
            have y0 := X.at_
            have y1 := X.cell
            have y2 := X.free
            have y3 := X.klt
            rw [look_arrs] at y3
            have hj := HJ.out
            have HV := hideI X.own
            have z1 : ¬ gb = c.m := X.neb
            have z1' : ¬ c.m = gb := fun e => z1 e.symm
            have z2 : ¬ gb = ga := X.nab
            have z2' : ¬ ga = gb := fun e => z2 e.symm
            have z3 : ¬ w.heap.size = gb := fun e => (HM1.out.off (.arr k) (intRow r) gb (by simp [mRow, look_arrs, HK.out]) (by rw [HV.out]; rfl)).2 (.inl (.inr e.symm))
            have z3' : ¬ gb = w.heap.size := fun e => z3 e.symm
            have z4 : ¬ W0.heap.size = gb := fun e => (HM1.out.off (.arr k) (intRow r) gb (by simp [mRow, look_arrs, HK.out]) (by rw [HV.out]; rfl)).2 (.inr ⟨by omega, by rw [← e]; exact HLT.out⟩)
            have z4' : ¬ gb = W0.heap.size := fun e => z4 e.symm
            have HRL : Hid (r.length = r.length) := rfl
            obtain ⟨rl, hrl⟩ : ∃ rl, rl = r.length := ⟨_, rfl⟩
            obtain ⟨na, hna⟩ : ∃ na, na = s.arrs.length := ⟨_, rfl⟩
            rw [← hrl] at y0 hj
            rw [← hna] at c4 y3
            clear X hrl hna
            go_wp2
            go_region_held3 (fun w' => w'.cell? ⟨W0.heap.size, 0, none⟩ = some (.int .i64 j) ∧ w'.cell? ⟨W0.heap.size, 1, none⟩ = some (.int .i64 a1) ∧ w'.cell? ⟨w.heap.size, 3, none⟩ = some (.int .i64 k) ∧ w'.cell? ⟨c.m, 4, none⟩ = some (.slice (some ⟨ga, 0, none⟩) na ca) ∧ w'.cell? ⟨ga, k, none⟩ = some (.slice (some ⟨gb, 0, none⟩) rl cp)) (first | go_keep) (first | fail)
            go_wp2
            go_end0
            have h5 := HM1.out.setElem (j := j) (by rw [look_arrs]; exact HK.out) HV.out a1
            rw [look_arrs] at h5
            exact ⟨by rw [HE.out], HDONE.out _ _ _ (by rw [HE.out]; exact h5.1.drewN 1) (HF1.out.trans (h5.2.drewN 1))⟩
          · rw [if_neg hin] at HE
            replace HF : Hid (∀ n, Calls Tryz.prog 108 #[.pointer (some ⟨c.m, 0, none⟩), .agg #[.int .i64 20, .int .i64 x.id, .slice P 2 pc, .int .i64 k], .int .i64 a0] (wr.drewN n) fun e w' => e = endE (missM 20) ∧ MachR c (fun b => (K b ∨ b = w.heap.size) ∨ (W0.heap.size ≤ b ∧ b < wr.heap.size)) w' val (lookS 20 s) ∧ KF (fun b => (K b ∨ b = w.heap.size) ∨ (W0.heap.size ≤ b ∧ b < wr.heap.size)) wr w') := hideI fun n => (HF.out n).mono fun e w' ⟨h1, h2, h3⟩ => by
              rcases h1 with ⟨h1, _⟩ | ⟨_, h1⟩
              · exact absurd h1 hin
              · exact ⟨h1, h2, h3.undrew⟩
            clear hin
            go_upto_region 11 with fail
            refine wp_region_panics 5 (by kernel_rfl) rfl (by kernel_rfl) (by kernel_rfl) (fun c a w d v h => by cases d <;> exact h) ?_
            simp only [List.take_succ_cons, List.take_zero, List.getElem_toArray, List.getElem_cons_succ, List.getElem_cons_zero]
            repeat (refine wpPure_step (fun K hK => ?_); go_simp; refine hK _ ?_; clear hK K)
            refine wpPure_nil ?_
            rintro w' ⟨n, rfl⟩ K'
            go_simp
            refine (HF.out n).mono ?_
            rintro e w4 ⟨he, hm1, hf1⟩
            simp only [endE, endV] at he
            subst he
            exact ⟨rfl, by rw [HE.out]; rfl, HDONE.out _ _ _ (by rw [HE.out]; exact hm1) hf1⟩
        · rw [ho] at q0 HBX
          obtain rfl : capa = 2 := by rw [hlen, ho]; decide
          obtain ⟨a0, a1, ha0⟩ : ∃ a0 a1, x.args.map s.val = [a0, a1] := by
            have h1 : (x.args.map s.val).length = 2 := by rw [List.length_map, ← HN.out]
            match x.args.map s.val, h1 with
            | [a0, a1], _ => exact ⟨a0, a1, rfl⟩
          have c0 := HAC.out 0 (by rw [ha0]; simp)
          have c1 := HAC.out 1 (by rw [ha0]; simp)
          rw [ha0] at c0 c1
          obtain ⟨k, r, hkn, hk⟩ := arr_at (HX.out.arr (by rw [ho]; decide))
          have hxk : x.n.toNat = k := by rw [hkn]; rfl
          have HE : Hid (doM x s = if inArr s k a0 then ({ lookS 22 s with arrs := s.arrs.set k (r.set a0.toNat a1) }, none) else (lookS 22 s, some (missM 22))) := hideI (by
            have har : arrM s x.n = r := by unfold arrM; rw [List.getD_eq_getElem?_getD, hxk, hk]; rfl
            unfold doM
            simp only
            rw [ho, if_pos (by simp), hxk, har, ha0, hkn]
            rfl)
          rw [hkn] at q3 HBX
          have HF : Hid (∀ n, _) := hideI fun n => element_any (HM3.out.drewN n) hk 22 x.id (.slice P 2 pc) a0
          have HK := hideI hk
          have HCC : Hid (∀ W, KF (fun b => (K b ∨ b = w.heap.size) ∨ (W0.heap.size ≤ b ∧ b < wr.heap.size)) wr W → W.cell? ⟨W0.heap.size, 0, none⟩ = some (.int .i64 a0) ∧ W.cell? ⟨W0.heap.size, 1, none⟩ = some (.int .i64 a1)) := hideI fun W hW => by
            have hb := hW.block W0.heap.size (.inr ⟨Nat.le_refl _, World.block_lt_of_cell? wr _ c0⟩)
            exact ⟨(World.cell?_of_block (a := ⟨W0.heap.size, 0, none⟩) hb).trans c0, (World.cell?_of_block (a := ⟨W0.heap.size, 1, none⟩) hb).trans c1⟩
          have HLT := hideI (World.block_lt_of_cell? wr _ c0)
          clear ha0 ho hlen hkn hxk hk
          by_cases hin : inArr s k a0 = true
          · rw [if_pos hin] at HE
            replace HF : Hid (∀ n, Calls Tryz.prog 108 #[.pointer (some ⟨c.m, 0, none⟩), .agg #[.int .i64 22, .int .i64 x.id, .slice P 2 pc, .int .i64 k], .int .i64 a0] (wr.drewN n) fun e w' => e = .returned (.tuple #[]) ∧ MachR c (fun b => (K b ∨ b = w.heap.size) ∨ (W0.heap.size ≤ b ∧ b < wr.heap.size)) w' val (lookS 22 s) ∧ KF (fun b => (K b ∨ b = w.heap.size) ∨ (W0.heap.size ≤ b ∧ b < wr.heap.size)) wr w') := hideI fun n => (HF.out n).mono fun e w' ⟨h1, h2, h3⟩ => by
              rcases h1 with ⟨_, h1⟩ | ⟨h1, _⟩
              · exact ⟨h1, h2, h3.undrew⟩
              · rw [hin] at h1; cases h1
            obtain ⟨j, hj0, hj⟩ := in_nat HK.out hin
            subst hj0
            have HJ := hideI hj
            rw [Int.toNat_natCast] at HE
            clear hin hj
            go_upto_region 11 with fail
            go_region_held3 (fun w' => w'.cell? ⟨W0.heap.size, 0, none⟩ = some (.int .i64 j) ∧ w'.cell? ⟨w.heap.size, 0, none⟩ = some (.int .i64 22) ∧ w'.cell? ⟨w.heap.size, 1, none⟩ = some (.int .i64 x.id) ∧ w'.cell? ⟨w.heap.size, 2, none⟩ = some (.slice P 2 pc) ∧ w'.cell? ⟨w.heap.size, 3, none⟩ = some (.int .i64 k)) (first | exact ⟨(HCC.out _ HF1.out).1, HBX.out _ HF1.out⟩ | go_keep) (first | (go_at_call 108; refine (HF.out 1).mono ?_; rintro e w4 ⟨rfl, hm1, hf1⟩; have HM1 := hideI hm1; have HF1 := hideI hf1; clear hm1 hf1))
            obtain ⟨ga, ca, gb, cp, X⟩ := HM1.out.elemAt (j := j) (by rw [look_arrs]; exact HK.out) HJ.out
            have c4 := HM1.out.cells 4
            simp only [machCells] at c4
            rw [X.arrs, look_arrs] at c4
            clear q0 q1 q2 q3 c0 c1
            obtain ⟨q0, q1, q2, q3⟩ := HBX.out _ HF1.out
            obtain ⟨c0, c1⟩ := HCC.out _ HF1.out
            have y0 := X.at_
            have y1 := X.cell
            have y2 := X.free
            have y3 := X.klt
            rw [look_arrs] at y3
            have hj := HJ.out
            have HV := hideI X.own
            have z1 : ¬ gb = c.m := X.neb
            have z1' : ¬ c.m = gb := fun e => z1 e.symm
            have z2 : ¬ gb = ga := X.nab
            have z2' : ¬ ga = gb := fun e => z2 e.symm
            have z3 : ¬ w.heap.size = gb := fun e => (HM1.out.off (.arr k) (intRow r) gb (by simp [mRow, look_arrs, HK.out]) (by rw [HV.out]; rfl)).2 (.inl (.inr e.symm))
            have z3' : ¬ gb = w.heap.size := fun e => z3 e.symm
            have z4 : ¬ W0.heap.size = gb := fun e => (HM1.out.off (.arr k) (intRow r) gb (by simp [mRow, look_arrs, HK.out]) (by rw [HV.out]; rfl)).2 (.inr ⟨by omega, by rw [← e]; exact HLT.out⟩)
            have z4' : ¬ gb = W0.heap.size := fun e => z4 e.symm
            have HRL : Hid (r.length = r.length) := rfl
            obtain ⟨rl, hrl⟩ : ∃ rl, rl = r.length := ⟨_, rfl⟩
            obtain ⟨na, hna⟩ : ∃ na, na = s.arrs.length := ⟨_, rfl⟩
            rw [← hrl] at y0 hj
            rw [← hna] at c4 y3
            clear X hrl hna
            go_wp2
            go_region_held3 (fun w' => w'.cell? ⟨W0.heap.size, 0, none⟩ = some (.int .i64 j) ∧ w'.cell? ⟨W0.heap.size, 1, none⟩ = some (.int .i64 a1) ∧ w'.cell? ⟨w.heap.size, 3, none⟩ = some (.int .i64 k) ∧ w'.cell? ⟨c.m, 4, none⟩ = some (.slice (some ⟨ga, 0, none⟩) na ca) ∧ w'.cell? ⟨ga, k, none⟩ = some (.slice (some ⟨gb, 0, none⟩) rl cp)) (first | go_keep) (first | fail)
            go_wp2
            go_end0
            have h5 := HM1.out.setElem (j := j) (by rw [look_arrs]; exact HK.out) HV.out a1
            rw [look_arrs] at h5
            exact ⟨by rw [HE.out], HDONE.out _ _ _ (by rw [HE.out]; exact h5.1.drewN 1) (HF1.out.trans (h5.2.drewN 1))⟩
          · rw [if_neg hin] at HE
            replace HF : Hid (∀ n, Calls Tryz.prog 108 #[.pointer (some ⟨c.m, 0, none⟩), .agg #[.int .i64 22, .int .i64 x.id, .slice P 2 pc, .int .i64 k], .int .i64 a0] (wr.drewN n) fun e w' => e = endE (missM 22) ∧ MachR c (fun b => (K b ∨ b = w.heap.size) ∨ (W0.heap.size ≤ b ∧ b < wr.heap.size)) w' val (lookS 22 s) ∧ KF (fun b => (K b ∨ b = w.heap.size) ∨ (W0.heap.size ≤ b ∧ b < wr.heap.size)) wr w') := hideI fun n => (HF.out n).mono fun e w' ⟨h1, h2, h3⟩ => by
              rcases h1 with ⟨h1, _⟩ | ⟨_, h1⟩
              · exact absurd h1 hin
              · exact ⟨h1, h2, h3.undrew⟩
            clear hin
            go_upto_region 11 with fail
            refine wp_region_panics 5 (by kernel_rfl) rfl (by kernel_rfl) (by kernel_rfl) (fun c a w d v h => by cases d <;> exact h) ?_
            simp only [List.take_succ_cons, List.take_zero, List.getElem_toArray, List.getElem_cons_succ, List.getElem_cons_zero]
            repeat (refine wpPure_step (fun K hK => ?_); go_simp; refine hK _ ?_; clear hK K)
            refine wpPure_nil ?_
            rintro w' ⟨n, rfl⟩ K'
            go_simp
            refine (HF.out n).mono ?_
            rintro e w4 ⟨he, hm1, hf1⟩
            simp only [endE, endV] at he
            subst he
            exact ⟨rfl, by rw [HE.out]; rfl, HDONE.out _ _ _ (by rw [HE.out]; exact hm1) hf1⟩
        · rw [ho] at q0
          obtain rfl : capa = 1 := by rw [hlen, ho]; decide
          obtain ⟨a0, ha0⟩ : ∃ a0, x.args.map s.val = [a0] := by
            have h1 : (x.args.map s.val).length = 1 := by rw [List.length_map, ← HN.out]
            match x.args.map s.val, h1 with
            | [a0], _ => exact ⟨a0, rfl⟩
          have c0 := HAC.out 0 (by rw [ha0]; simp)
          rw [ha0] at c0
          have HA0 := hideI ha0
          have HO := hideI ho
          clear ha0 ho hlen
          by_cases hful : s.out.length = 4096
          · have HT := hideI (tell_full HM3.out hful a0)
            have HE : Hid (doM x s = (s, some (4, 0, 0))) := hideI (by
              unfold doM
              simp only
              rw [HO.out, if_neg (by decide), if_pos rfl, if_pos hful])
            clear hful
            go_wp2_with (first | (go_at_call 109; refine HT.out.mono ?_; rintro e w3 ⟨he, hm1, hf1⟩; simp only [endE, endV] at he; subst he))
            exact ⟨rfl, by rw [HE.out]; rfl, HDONE.out _ _ _ (by rw [HE.out]; exact hm1) hf1⟩
          · have HT := hideI (tell_go HM3.out (by have := HOUT.out; omega) a0)
            have HE : Hid (doM x s = ({ s with out := s.out ++ [a0] }, none)) := hideI (by
              unfold doM
              simp only
              rw [HO.out, if_neg (by decide), if_pos rfl, if_neg hful, HA0.out]
              rfl)
            clear hful
            go_wp2_with (first | (go_at_call 109; refine HT.out.mono ?_; rintro e w3 ⟨rfl, val1, hm1, hf1⟩))
            go_end0
            exact ⟨by rw [HE.out], HDONE.out _ _ _ (by rw [HE.out]; exact hm1) hf1⟩
        · rw [ho] at q0
          obtain rfl : capa = 1 := by rw [hlen, ho]; decide
          obtain ⟨a0, ha0⟩ : ∃ a0, x.args.map s.val = [a0] := by
            have h1 : (x.args.map s.val).length = 1 := by rw [List.length_map, ← HN.out]
            match x.args.map s.val, h1 with
            | [a0], _ => exact ⟨a0, rfl⟩
          have c0 := HAC.out 0 (by rw [ha0]; simp)
          rw [ha0] at c0
          obtain ⟨hn0, hn1⟩ := HX.out.cell (by rw [ho]; decide)
          obtain ⟨j, hj⟩ := Int.eq_ofNat_of_zero_le hn0
          rw [hj] at hn1 q3
          have hjn : j < s.cells.length := by omega
          have hrr : mRow s c.nv val .cells = some (intRow s.cells) := rfl
          obtain ⟨gv, cv, hv⟩ := HM3.out.slice hrr (by show 0 < s.cells.length; omega)
          have hrc := HM3.out.cell hrr hv (j := j) hjn
          obtain ⟨x0, x1⟩ := hrc
          have e2 : (intRow s.cells).cells[j]? = some (.int .i64 (s.cells.getD j 0)) := by
            show (s.cells.map _)[j]? = _
            rw [List.getElem?_map, List.getD_eq_getElem?_getD, List.getElem?_eq_getElem hjn]
            rfl
          rw [e2] at x0
          have hv : val .cells = .slice (some ⟨gv, 0, none⟩) s.cells.length cv := hv
          have c12 := HM3.out.cells 12
          simp only [machCells] at c12
          rw [hv] at c12
          have HV := hideI hv
          have HE : Hid (doM x s = ({ s with cells := s.cells.set j a0 }, none)) := hideI (by
            unfold doM
            simp only
            rw [ho, if_neg (by decide), if_neg (by decide), if_pos rfl, hj, ha0]
            rfl)
          have hgm : ¬ c.m = gv := fun e => (HM3.out.off .cells _ gv rfl (by rw [HV.out]; rfl)).1 e.symm
          have hgb : ¬ w.heap.size = gv := fun e => (HM3.out.off .cells _ gv rfl (by rw [HV.out]; rfl)).2 (.inl (.inr e.symm))
          have hga : ¬ W0.heap.size = gv := fun e => (HM3.out.off .cells _ gv rfl (by rw [HV.out]; rfl)).2 (.inr ⟨by omega, by rw [← e]; exact World.block_lt_of_cell? wr _ c0⟩)
          have hgm' : ¬ gv = c.m := fun e => hgm e.symm
          have hgb' : ¬ gv = w.heap.size := fun e => hgb e.symm
          have hga' : ¬ gv = W0.heap.size := fun e => hga e.symm
          generalize s.cells.length = nc at c12 hjn
          clear ha0 ho hlen hn0 hn1 hj hrr e2 hv
          go_wp2
          go_region_held3 (fun w' => w'.cell? ⟨c.m, 12, none⟩ = some (.slice (some ⟨gv, 0, none⟩) nc cv) ∧ w'.cell? ⟨w.heap.size, 3, none⟩ = some (.int .i64 j) ∧ w'.cell? ⟨W0.heap.size, 0, none⟩ = some (.int .i64 a0)) (first | go_keep) (first | fail)
          go_wp2
          go_end0
          have h5 := HM3.out.setCells HV.out (j := j) a0
          exact ⟨by rw [HE.out], HDONE.out _ _ _ (by rw [HE.out]; exact h5.1.drewN 1) (h5.2.drewN 1)⟩
      · have HMK := hideI hmk
        have hop := HX.out.isop
        have hneq : x.op ≠ 20 ∧ x.op ≠ 22 ∧ x.op ≠ 23 ∧ x.op ≠ 25 := ⟨fun e => hmk (by rw [e]; decide), fun e => hmk (by rw [e]; decide), fun e => hmk (by rw [e]; decide), fun e => hmk (by rw [e]; decide)⟩
        have d20 : (x.op == 20) = false := by simpa using hneq.1
        have d22 : (x.op == 22) = false := by simpa using hneq.2.1
        have d23 : (x.op == 23) = false := by simpa using hneq.2.2.1
        have d25 : (x.op == 25) = false := by simpa using hneq.2.2.2
        have HE : Hid (doM x s = match madeM x (x.args.map s.val) s with | (s1, .inl v) => ({ s1 with val := setV s1.val x.id v }, none) | (s1, .inr e) => (s1, some e)) := hideI (by
          unfold doM
          simp only
          rw [if_neg (by rintro (e | e); exact hneq.1 e; exact hneq.2.1 e), if_neg hneq.2.2.1, if_neg hneq.2.2.2]
          rcases madeM x (x.args.map s.val) s with ⟨s1, v | e⟩ <;> rfl)
        have hid := HX.out.id hmk
        have HMADE : Hid (∀ n, Calls Tryz.prog 110 #[.pointer (some ⟨c.m, 0, none⟩), boxI x (.slice P i pc), .slice (some ⟨W0.heap.size, 0, none⟩) i i] (wr.drewN n) (MadePost c _ (wr.drewN n) val (madeM x (x.args.map s.val) s))) := hideI fun n =>
          made_any (HM3.out.drewN n) x (.slice P i pc) HX.out HMK.out (by rw [List.length_map]; exact HX.out.len) (HAR.out.kf (KF.drewN (KF.refl _) n))
        clear hop hneq hmk
        cases hr : madeM x (x.args.map s.val) s with
        | mk s1 r =>
          rw [hr] at HMADE HE
          cases r with
          | inl v =>
            clear hr
            obtain ⟨gv, cv, j, hj, hjn, hv, hrc, hrf, hgm, hgv⟩ := HM3.out.valAt hid.1 hid.2
            have c11 := HM3.out.cells 11
            simp only [machCells] at c11
            rw [hv] at c11
            unfold boxI at HMADE
            rw [hj] at q1 HBX HMADE
            have HV := hideI hv
            have HJ := hideI hj
            have hgb : gv ≠ w.heap.size := fun e => (HM3.out.off .vals _ gv rfl (by rw [HV.out]; rfl)).2 (.inl (.inr e))
            have hgb' : ¬ w.heap.size = gv := fun e => hgb e.symm
            have hgm' : ¬ c.m = gv := fun e => hgm e.symm
            have hlm := HM3.out.m_lt
            have HSS : Hid (∀ W t, MachR c (fun b => (K b ∨ b = w.heap.size) ∨ (W0.heap.size ≤ b ∧ b < wr.heap.size)) W val t → KF (fun b => (K b ∨ b = w.heap.size) ∨ (W0.heap.size ≤ b ∧ b < wr.heap.size)) wr W → W.cell? ⟨c.m, 11, none⟩ = some (.slice (some ⟨gv, 0, none⟩) c.nv cv) ∧ W.cell? ⟨w.heap.size, 0, none⟩ = some (.int .i64 x.op) ∧ W.cell? ⟨w.heap.size, 1, none⟩ = some (.int .i64 j) ∧ W.cell? ⟨w.heap.size, 2, none⟩ = some (.slice P i pc) ∧ W.cell? ⟨w.heap.size, 3, none⟩ = some (.int .i64 x.n)) := hideI fun W t h1 h2 => ⟨(h1.cells 11).trans (by simp [machCells, HV.out]), HBX.out W h2⟩
            clear hid hj hv hrc hrf
            go_wp2
            go_region_held3 (fun w' => w'.cell? ⟨c.m, 11, none⟩ = some (.slice (some ⟨gv, 0, none⟩) c.nv cv) ∧ w'.cell? ⟨w.heap.size, 0, none⟩ = some (.int .i64 x.op) ∧ w'.cell? ⟨w.heap.size, 1, none⟩ = some (.int .i64 j) ∧ w'.cell? ⟨w.heap.size, 2, none⟩ = some (.slice P i pc) ∧ w'.cell? ⟨w.heap.size, 3, none⟩ = some (.int .i64 x.n)) (first | exact HC1 | go_keep)
              (first | (go_at_call 110; refine (HMADE.out 1).mono ?_; rintro e w1 ⟨he, hm1, hf1⟩; obtain rfl : e = .returned (.int .i64 v) := he; have HM4 := hideI hm1; have HF4 := hideI hf1.undrew; obtain ⟨x0, x1⟩ := hm1.valCell HV.out hjn; have HC1 := HSS.out _ _ HM4.out HF4.out; clear hm1 hf1))
            go_wp2
            go_end0
            have h5 := HM4.out.setVal HV.out (j := j) v
            exact ⟨by rw [HE.out], HDONE.out _ _ _ (by rw [HE.out, HJ.out]; exact h5.1) (HF4.out.trans h5.2)⟩
          | inr en =>
            clear hr
            obtain ⟨gv, cv, j, hj, _, hv, _⟩ := HM3.out.valAt hid.1 hid.2
            have c11 := HM3.out.cells 11
            simp only [machCells] at c11
            rw [hv] at c11
            clear hid hj hv
            go_wp2
            refine wp_region_panics 9 (by kernel_rfl) rfl (by kernel_rfl) (by kernel_rfl) (fun c a w d v h => by cases d <;> exact h) ?_
            simp only [List.take_succ_cons, List.take_zero, List.getElem_toArray, List.getElem_cons_succ, List.getElem_cons_zero]
            repeat (refine wpPure_step (fun K hK => ?_); go_simp; refine hK _ ?_; clear hK K)
            refine wpPure_nil ?_
            rintro w' ⟨n, rfl⟩ K'
            go_simp
            refine (HMADE.out n).mono ?_
            rintro e w1 ⟨he, hm1, hf1⟩
            simp only [endE, endV] at he
            subst he
            exact ⟨rfl, by rw [HE.out]; rfl, HDONE.out _ _ _ (by rw [HE.out]; exact hm1) hf1.undrew⟩
end
end Go.Proofs.YtncmnbchkabgaaaGreat

namespace Go.Proofs.YtncmnbchkabgaaaGreat
open Go.RowKit

theorem int_info : (Tryz.prog.info? 3).map (fun i => (i.zero, i.size, i.bytes)) = some (some (.int .i64 0), 1, 8) := by kernel_rfl

def tyOf (c : UInt8) : Int := if c = 73 then 1 else 2

theorem takesS_eq (op : Int) : takesS op = (shapeS op).1.map tyOf := rfl

theorem take_tyOf (s : ByteArray) (k : Nat) (h : k < s.size) : (s.data.toList.take (k + 1)).map tyOf = (s.data.toList.take k).map tyOf ++ [tyOf s[k]] := by
  rw [List.take_succ_eq_append_getElem (by simpa using h), List.map_append]
  rfl

/-- the numbers of an owned row -/
theorem ints_own {w : World} {B n : Nat} {v : Value} {xs : List Int} (h : w.ownsRow B 3 1 v n (xs.map (Value.int .i64))) (hn : xs.length ≤ 140737488351232) : Ints w w.heap.size v xs := by
  have hl : n = xs.length := by have := h.1; simp at this; omega
  subst hl
  rcases Nat.eq_zero_or_pos xs.length with h0 | h0
  · rcases h.2 with ⟨rfl, _⟩ | ⟨g, cap, cur, rfl, _⟩
    · have : xs = [] := List.eq_nil_of_length_eq_zero h0
      subst this
      exact Ints.nil _ _
    · exact ⟨_, _, rfl, hn, fun k hk => by omega⟩
  · obtain ⟨g, cap, rfl, hb, hlt⟩ := h.form h0
    refine ⟨_, _, rfl, hn, fun k hk => ⟨g, 0, rfl, hlt, ?_⟩⟩
    rw [← Go.WideShapes.add_plain]
    exact h.cells (g := g) rfl k _ (by simp [hk])

theorem one_new (w : World) (x : Value) : ∀ (j : Nat) (u : Value), [x][j]? = some u → (w.alloc (.cells #[x] 3)).cell? ((⟨w.heap.size, 0, none⟩ : Addr).add j) = some u := by
  intro j u hu
  rcases j with _ | j
  · simp at hu
    subst hu
    rw [Go.WideShapes.add_plain, cell_of_row _ _ _ _ _ _ (heap_alloc_new w _)]
    rfl
  · simp at hu

theorem below_append {B : Nat} {w wr w1 : World} {o : Obj} {r : Option Nat} (hb : Below B w wr) (hg : (wr.alloc o).grownBy w1 r) (hr : ∀ g, r = some g → B ≤ g) (hB : B ≤ w.heap.size) : Below B w w1 :=
  (hb.alloc (Nat.le_trans hB hb.size) o).grown hg (by have := hb.size; simp; omega) hr

theorem byte_eq {c : UInt8} (h : ((c.toNat : Int) == 73) = true) : c = 73 := by
  have h1 : (c.toNat : Int) = 73 := by simpa using h
  apply UInt8.toNat_inj.1
  show c.toNat = 73
  omega

theorem byte_ne {c : UInt8} (h : ¬ ((c.toNat : Int) == 73) = true) : ¬ c = 73 := by
  rintro rfl
  exact h rfl

theorem newInts_own {w : World} {B n : Nat} {v : Value} {xs : List Int} (h : w.ownsRow B 3 1 v n (xs.map (Value.int .i64))) (hn : xs.length ≤ 140737488351232) : NewInts B w v xs := by
  have hl : n = xs.length := by have := h.1; simp at this; omega
  subst hl
  rcases h.2 with ⟨rfl, h0⟩ | ⟨g, cap, cur, rfl, hb, hg, hnc, hm, hs, ht⟩
  · have : xs = [] := List.eq_nil_of_length_eq_zero h0
    subst this
    exact NewInts.nil _ _
  · refine ⟨_, _, rfl, hn, fun _ => ⟨g, cur, rfl, hb, hg, fun k hk => ?_⟩⟩
    have h1 : (cur.toList.take (xs.length * 1))[k]? = some (.int .i64 (xs[k]?.getD 0)) := by rw [ht]; simp [hk]
    rw [List.getElem?_take] at h1
    split at h1
    · simpa using h1
    · cases h1

set_option maxHeartbeats 800000 in
theorem refArgs_core (op : Int) (w : World) (s : ByteArray) (mk nn : Int) (ok : Bool) (hs : s.size ≤ 3) (hS : ∀ W : World, Calls Tryz.prog 122 #[.int .i64 op] W fun e w' => e = .returned (.tuple #[.string s, .int .i64 mk, .int .i64 nn, .bool ok]) ∧ W = w') :
    Calls Tryz.prog 70 #[.int .i64 op] w fun e w' => ∃ v, e = .returned (.tuple #[.int .i64 mk, v, .bool ok]) ∧ w'.ownsRow w.heap.size 3 1 v s.size ((s.data.toList.map tyOf).map (Value.int .i64)) ∧ Below w.heap.size w w' := by
  obtain ⟨i0, hi, hz0, hz1, hz2⟩ := info_parts int_info
  have HS := hideI hS
  clear hS
  go_enter Tryz.func70, Tryz.ntmps70
  go_wp2_with (go_at_call 122; refine (HS.out _).mono ?_; rintro e w' ⟨rfl, rfl⟩)
  go_loopw [9, 10] (fun out i wr => ∃ k : Nat, k ≤ s.size ∧ i = .int .i64 k ∧ wr.ownsRow w.heap.size 3 1 out k (((s.data.toList.take k).map tyOf).map (Value.int .i64)) ∧ Below w.heap.size w wr) (fun _ i _ => s.size - (intOf i).toNat)
  case atStart => exact ⟨0, Nat.zero_le _, rfl, World.ownsRow_made w #[] 0 (Nat.le_refl _) (by decide) rfl, (Below.refl _ _).alloc (Nat.le_refl _) _⟩
  case round =>
    obtain ⟨k, hk, rfl, hown, hb⟩ := hrel
    by_cases hlt : k < s.size
    · have HT := hideI (take_tyOf s k hlt)
      by_cases hc : ((s[k].toNat : Int) == 73) = true
      · go_wp2_with (at_builtin; refine wpList_append_own _ rfl _ _ _ rfl w.heap.size 3 i0 (.int .i64 0) 1 8 Tryz.underlying22 hi hz0 hz1 hz2 rfl (by decide) _ _ _ rfl (hown.alloc _) ⟨wr.heap.size, 0, none⟩ 1 1 [.int .i64 1] rfl rfl (one_new wr _) (by simp [Value.oneCell']) (by simp only [maxLen]; omega) (by omega) (Nat.le_trans hb.size (by simp)) ?_; intro v1 w1 hown1 hgrow1 _)
        have hb1 : Below w.heap.size w w1 := below_append hb hgrow1 (fun g hg => ((hown.lt) g hg).1) (Nat.le_refl _)
        clear hgrow1
        go_roundw
        case rel => exact ⟨k + 1, by omega, by go_num, by rw [HT.out]; simpa [tyOf, byte_eq hc] using hown1, hb1⟩
        case measure => simp [intOf]; omega
      · go_wp2_with (at_builtin; refine wpList_append_own _ rfl _ _ _ rfl w.heap.size 3 i0 (.int .i64 0) 1 8 Tryz.underlying22 hi hz0 hz1 hz2 rfl (by decide) _ _ _ rfl (hown.alloc _) ⟨wr.heap.size, 0, none⟩ 1 1 [.int .i64 2] rfl rfl (one_new wr _) (by simp [Value.oneCell']) (by simp only [maxLen]; omega) (by omega) (Nat.le_trans hb.size (by simp)) ?_; intro v1 w1 hown1 hgrow1 _)
        have hb1 : Below w.heap.size w w1 := below_append hb hgrow1 (fun g hg => ((hown.lt) g hg).1) (Nat.le_refl _)
        clear hgrow1
        go_roundw
        case rel => exact ⟨k + 1, by omega, by go_num, by rw [HT.out]; simpa [tyOf, byte_ne hc] using hown1, hb1⟩
        case measure => simp [intOf]; omega
    · go_wp2
      go_ret3
      have hk' : k = s.size := by omega
      subst hk'
      refine ⟨_, rfl, ?_, hb⟩
      rw [List.take_of_length_le (by simp)] at hown
      exact hown

theorem shapeS_short (op : Int) : (shapeS op).1.length ≤ 3 := by
  rcases op_cases op with h | h | h
  · rcases h with rfl | rfl | rfl | rfl | rfl | rfl | rfl | rfl | rfl | rfl | rfl | rfl | rfl <;> decide
  · rcases h with rfl | rfl | rfl | rfl | rfl | rfl | rfl | rfl | rfl | rfl | rfl | rfl <;> decide
  · rw [shapeS_none h]; decide

/-- the reference's Args: the table's row. -/
theorem refArgs_any (op : Int) (w : World) : Calls Tryz.prog 70 #[.int .i64 op] w (ArgsPost op w) := by
  refine (refArgs_core op w ⟨(shapeS op).1.toArray⟩ (makesS op) (kindS op) (isOp op) (by simpa [ByteArray.size] using shapeS_short op) (fun W => shape_any op W)).mono ?_
  rintro e w' ⟨v, rfl, hown, hb⟩
  exact ⟨v, rfl, newInts_own hown (by have := shapeS_short op; unfold takesS; rw [List.length_map]; omega), hb⟩

end Go.Proofs.YtncmnbchkabgaaaGreat

namespace Go.Proofs.YtncmnbchkabgaaaGreat
open Go.RowKit

theorem within_any (n a b : Int) (w : World) :
    Calls Tryz.prog 197 #[.int .i64 n, .int .i64 a, .int .i64 b] w fun e w' => e = .returned (.bool (withinB n a b)) ∧ w = w' := by
  unfold withinB
  by_cases h : a ≤ n
  all_goals
    go_enter Tryz.func197, Tryz.ntmps197
    go_wp2
    go_ret
    refine ⟨?_, rfl⟩
    first | (simp [h]; done) | (simp; omega)

theorem isType_any (n : Int) (w : World) :
    Calls Tryz.prog 199 #[.int .i64 n] w fun e w' => e = .returned (.bool (isTypeB n)) ∧ w = w' := by
  unfold isTypeB
  by_cases h : (n == 1) = true
  all_goals
    go_enter Tryz.func199, Tryz.ntmps199
    go_wp2
    go_ret
    refine ⟨?_, rfl⟩
    simp [h]

/-- a call that only looks, and answers a bool -/
def Says (b : Bool) (w : World) (e : Ending) (w' : World) : Prop := e = .returned (.bool b) ∧ Below w.heap.size w w'

theorem fitsB_eq (f : FuncM) (op n : Int) (h : op ≠ 1) (h2 : op ≠ 2) (h3 : kindS op ≠ 3) (h4 : kindS op ≠ 4) : fitsB f op n = (n == 0) := by
  unfold fitsB
  rw [if_neg h, if_neg h2, if_neg h3, if_neg h4]

theorem says_new {b b' : Bool} {w : World} {o : Obj} (h : b = b') : Says b' w (.returned (.bool b)) (w.alloc o) := by
  subst h
  exact ⟨rfl, (Below.refl _ _).alloc (Nat.le_refl _) _⟩

theorem fitsN_a (f : FuncM) (pv bv mv : Value) (op n : Int) (w : World) (_ha : 0 ≤ f.arrays) (_ha' : f.arrays ≤ 8) (h : op = 1 ∨ op = 2 ∨ op = 3 ∨ op = 4 ∨ op = 5 ∨ op = 6 ∨ op = 7 ∨ op = 8 ∨ op = 9 ∨ op = 10 ∨ op = 11 ∨ op = 12 ∨ op = 13) :
    Calls Tryz.prog 217 #[.agg #[pv, .int .i64 f.arrays, .int .i64 f.cells, bv, mv], .int .i64 op, .int .i64 n] w (Says (fitsB f op n) w) := by
  rcases h with rfl | rfl | rfl | rfl | rfl | rfl | rfl | rfl | rfl | rfl | rfl | rfl | rfl
  all_goals
    go_enter Tryz.func217, Tryz.ntmps217
    go_wp2_with (go_at_call 197; refine (within_any _ _ _ _).mono ?_; rintro e w' ⟨rfl, rfl⟩)
    go_ret
    exact says_new rfl

theorem fitsN_b (f : FuncM) (pv bv mv : Value) (op n : Int) (w : World) (ha : 0 ≤ f.arrays) (ha' : f.arrays ≤ 8) (hc : 0 ≤ f.cells) (hc' : f.cells ≤ 64) (h : op = 14 ∨ op = 15 ∨ op = 16 ∨ op = 17 ∨ op = 18 ∨ op = 19 ∨ op = 20 ∨ op = 21 ∨ op = 22 ∨ op = 23 ∨ op = 24 ∨ op = 25) :
    Calls Tryz.prog 217 #[.agg #[pv, .int .i64 f.arrays, .int .i64 f.cells, bv, mv], .int .i64 op, .int .i64 n] w (Says (fitsB f op n) w) := by
  rcases h with rfl | rfl | rfl | rfl | rfl | rfl | rfl | rfl | rfl | rfl | rfl | rfl
  all_goals
    go_enter Tryz.func217, Tryz.ntmps217
    go_wp2_with (go_at_call 197; refine (within_any _ _ _ _).mono ?_; rintro e w' ⟨rfl, rfl⟩)
    go_ret
    exact says_new rfl

theorem fitsN_any (f : FuncM) (pv bv mv : Value) (op n : Int) (w : World) (ha : 0 ≤ f.arrays) (ha' : f.arrays ≤ 8) (hc : 0 ≤ f.cells) (hc' : f.cells ≤ 64) (h : isOp op = true) :
    Calls Tryz.prog 217 #[.agg #[pv, .int .i64 f.arrays, .int .i64 f.cells, bv, mv], .int .i64 op, .int .i64 n] w (Says (fitsB f op n) w) := by
  rcases op_cases op with g | g | g
  · exact fitsN_a f pv bv mv op n w ha ha' g
  · exact fitsN_b f pv bv mv op n w ha ha' hc hc' g
  · unfold isOp at h
    rw [shapeS_none g] at h
    cases h

theorem all_take_succ {α : Type} (p : α → Bool) (l : List α) (k : Nat) (h : k < l.length) : (l.take (k + 1)).all p = ((l.take k).all p && p (l[k])) := by
  rw [List.take_succ_eq_append_getElem h, List.all_append]
  simp

theorem getD_of {l : List Int} {k : Nat} (h : k < l.length) : l[k]?.getD 0 = l[k] := by simp [h]

theorem targets_no {nb : Nat} {to : List Int} {k : Nat} (h : k < to.length) (hf : withinB to[k] 1 (nb - 1) = false) : targetsB nb to = false := by
  unfold targetsB
  rw [List.all_eq_false]
  exact ⟨to[k], List.getElem_mem h, by simp [hf]⟩

set_option maxHeartbeats 400000 in
theorem areTargets_any (pv mv av cv : Value) (A : Option Addr) (nb c : Nat) (tv : Value) (to : List Int) (w : World) (hI : Ints w w.heap.size tv to) (h1 : 1 ≤ nb) (h2 : nb ≤ 512) :
    Calls Tryz.prog 218 #[.agg #[pv, av, cv, .slice A nb c, mv], tv] w (Says (targetsB nb to) w) := by
  obtain ⟨T, ct, rfl, hm, hx⟩ := hI
  have Hx := hideI hx
  clear hx
  go_enter Tryz.func218, Tryz.ntmps218
  go_wp2
  go_loop [9] (fun i => ∃ k : Nat, k ≤ to.length ∧ i = .int .i64 k ∧ (to.take k).all (fun b => withinB b 1 (nb - 1)) = true) (fun i => to.length - (intOf i).toNat)
  case atStart => exact ⟨0, Nat.zero_le _, rfl, by simp⟩
  case round =>
    obtain ⟨k, hk, rfl, ht⟩ := hrel
    have HT := hideI ht
    clear ht
    by_cases hlt : k < to.length
    · obtain ⟨b, off, rfl, hb, hc⟩ := Hx.out k hlt
      cases hw : withinB to[k] 1 (nb - 1)
      · have HW := hideI hw
        go_wp2_with (go_at_call 197; refine (within_any _ _ _ _).mono ?_; rintro e w' ⟨rfl, rfl⟩)
        go_ret
        exact says_new (targets_no hlt HW.out).symm
      · have HW := hideI hw
        go_wp2_with (go_at_call 197; refine (within_any _ _ _ _).mono ?_; rintro e w' ⟨rfl, rfl⟩)
        go_round
        case rel => exact ⟨k + 1, by omega, by go_num, by rw [all_take_succ _ _ _ hlt, HT.out, HW.out]; rfl⟩
        case measure => simp [intOf]; omega
    · go_wp2
      go_ret
      have h := HT.out
      rw [List.take_of_length_le (by omega)] at h
      exact says_new h.symm

end Go.Proofs.YtncmnbchkabgaaaGreat

namespace Go
theorem World.grownBy.trans_grown {a b c : World} {row : Option Nat} (h : a.grownBy b row) (k : b.grownBy c row) : a.grownBy c row :=
  ⟨k.os.trans h.os, k.tape.trans h.tape, k.output.trans h.output, Nat.le_trans h.size k.size, fun i hi hne => (k.block i (Nat.lt_of_lt_of_le hi h.size) hne).trans (h.block i hi hne)⟩
end Go

namespace Go.Proofs.YtncmnbchkabgaaaGreat
open Go.RowKit Go.Maps

/-- a call that writes into block M alone (and new ones), answers whether there is something, and leaves it in the map -/
def Defines (o : Option Defs) (M : Nat) (w : World) (e : Ending) (w' : World) : Prop :=
  e = .returned (.bool o.isSome) ∧ w.grownBy w' (some M) ∧ ∀ ds, o = some ds → MapIs w' M ds

theorem MapIs.put {w' : World} {M : Nat} {ds : Defs} {D : DataW Unit} {id typ : Int} (h2 : w'.ownsMap Tryz.prog 3 (plainElem Tryz.prog 3) M (ds.length + 1) (D.put (.int .i64 id) (.lit (.int .i64 typ))))
    (hD : IsMap D) (hw : ∀ d ∈ ds, I64 d.1 ∧ I64 d.2) (hi : I64 id) (ht : I64 typ) (hn : ds.at id = none) (h : ∀ id z, D.atKey (.int .i64 id) z = match ds.at id with | some t => .lit (.int .i64 t) | none => z) : MapIs w' M (ds ++ [(id, typ)]) := by
  refine ⟨_, by simpa using h2, IsMap.put hD _ _, ?_, ?_⟩
  · intro d hd
    rw [List.mem_append] at hd
    rcases hd with hd | hd
    · exact hw d hd
    · simp at hd
      subst hd
      exact ⟨hi, ht⟩
  · intro k z
    rw [Defs.at_snoc]
    by_cases hk : k = id
    · subst hk
      rw [atKey_put_same hD (by trivial), hn]
      simp
    · rw [atKey_put_other (by simpa using hk), h]
      cases ds.at k <;> simp [hk]

theorem addDef_some {np : Nat} {ds : Defs} {id typ t : Int} (h : ds.at id = some t) : addDef np ds id typ = none := by
  unfold addDef defB
  rw [h]
  rfl

theorem addDef_out {np : Nat} {ds : Defs} {id typ : Int} (h : withinB id np 1048575 = false) : addDef np ds id typ = none := by
  unfold addDef defB
  rw [h]
  simp

theorem addDef_ok {np : Nat} {ds : Defs} {id typ : Int} (h : ds.at id = none) (hw : withinB id np 1048575 = true) : addDef np ds id typ = some (ds ++ [(id, typ)]) := by
  unfold addDef defB
  rw [h, hw]
  rfl

theorem defines_no {M : Nat} {w : World} {r : Option Defs} {o : Obj} (h : r = none) : Defines r M w (.returned (.bool false)) (w.alloc o) := by
  subst h
  exact ⟨rfl, World.grownBy_alloc _ _ _, by simp⟩

set_option maxHeartbeats 400000 in
theorem define_any (av cv bv : Value) (P : Option Addr) (np c M : Nat) (ds : Defs) (id typ : Int) (w : World) (hM : MapIs w M ds) (hn : ds.length < 100000) (hi : I64 id) (ht : I64 typ) :
    Calls Tryz.prog 216 #[.agg #[.slice P np c, av, cv, bv, .map (some M)], .int .i64 id, .int .i64 typ] w (Defines (addDef np ds id typ) M w) := by
  obtain ⟨D, hown, hD, hwd, hat⟩ := hM
  have hh := MapIs.has hat id
  have HAT := hideI hat
  have HWD := hideI hwd
  have HI := hideI hi
  have HT := hideI ht
  clear hat hwd
  cases hd : ds.at id with
  | some t =>
    have HD := hideI hd
    rw [hd] at hh
    clear hd
    go_enter Tryz.func216, Tryz.ntmps216
    go_wp2_with (first
      | (at_lookup; refine wpList_lookup_own_ok_int _ rfl _ _ 126 rfl 3 3 .i64 lawInt Tryz.underlying126 Tryz.underlying3 (zeroInt _) M ds.length D rfl (hown.alloc _) _ _ rfl (keyOf_int_mk Tryz.underlying3 HI.out) ?_; intro c1 hat1 hwc1)
      | (go_at_call 197; refine (within_any _ _ _ _).mono ?_; rintro e w' ⟨rfl, rfl⟩))
    go_ret
    exact defines_no (addDef_some HD.out)
  | none =>
    rw [hd] at hh
    have HD := hideI hd
    clear hd
    cases hw : withinB id np 1048575
    · go_enter Tryz.func216, Tryz.ntmps216
      go_wp2_with (first
        | (at_lookup; refine wpList_lookup_own_ok_int _ rfl _ _ 126 rfl 3 3 .i64 lawInt Tryz.underlying126 Tryz.underlying3 (zeroInt _) M ds.length D rfl (hown.alloc _) _ _ rfl (keyOf_int_mk Tryz.underlying3 HI.out) ?_; intro c1 hat1 hwc1)
        | (go_at_call 197; refine (within_any _ _ _ _).mono ?_; rintro e w' ⟨rfl, rfl⟩))
      go_ret
      exact defines_no (addDef_out hw)
    · go_enter Tryz.func216, Tryz.ntmps216
      go_wp2_with (first
        | (at_lookup; refine wpList_lookup_own_ok_int _ rfl _ _ 126 rfl 3 3 .i64 lawInt Tryz.underlying126 Tryz.underlying3 (zeroInt _) M ds.length D rfl (hown.alloc _) _ _ rfl (keyOf_int_mk Tryz.underlying3 HI.out) ?_; intro c1 hat1 hwc1)
        | (go_at_call 197; refine (within_any _ _ _ _).mono ?_; rintro e w' ⟨rfl, rfl⟩)
        | (at_mapUpdate; refine wpList_mapUpdate_own _ rfl _ _ _ 126 rfl 3 3 lawInt Tryz.underlying126 _ M ds.length _ rfl (hown.alloc _) (by unfold maxLen; omega) _ _ _ rfl rfl (keyOf_int_mk Tryz.underlying3 HI.out) _ [] (plainElem_int Tryz.underlying3 HT.out) ?_; intro w1 hown1 hgrow1))
      go_ret
      refine ⟨by rw [addDef_ok HD.out hw]; rfl, (World.grownBy_alloc _ _ _).trans_grown hgrow1, fun ds' h => ?_⟩
      rw [addDef_ok HD.out hw] at h
      injection h with h
      subst h
      exact MapIs.put hown1 hD HWD.out hi ht HD.out HAT.out

end Go.Proofs.YtncmnbchkabgaaaGreat

namespace Go.Proofs.YtncmnbchkabgaaaGreat

/-- where a block goes to -/
def succM (bs : List BlockM) (b : Nat) : List Nat := match bs[b]? with | some q => q.term.to.map Int.toNat | none => []

/-- visits of a list of blocks: what was begun and done ahead, and behind -/
inductive Visit (succ : Nat → List Nat) : List Nat → List Nat × List Nat → List Nat × List Nat → Prop
  | nil (s : List Nat × List Nat) : Visit succ [] s s
  | skip {t : Nat} {r bg dn : List Nat} {s : List Nat × List Nat} (h : t ∈ bg) (k : Visit succ r (bg, dn) s) : Visit succ (t :: r) (bg, dn) s
  | go {t : Nat} {r bg dn bg1 dn1 : List Nat} {s : List Nat × List Nat} (h : t ∉ bg) (k : Visit succ (succ t) (t :: bg, dn) (bg1, dn1)) (l : Visit succ r (bg1, dn1 ++ [t]) s) : Visit succ (t :: r) (bg, dn) s

theorem Visit.append {succ : Nat → List Nat} {l1 l2 : List Nat} {s s1 s2 : List Nat × List Nat} (h : Visit succ l1 s s1) (k : Visit succ l2 s1 s2) : Visit succ (l1 ++ l2) s s2 := by
  induction h with
  | nil => exact k
  | skip h _ ih => exact .skip h (ih k)
  | go h k1 _ _ ih => exact .go h k1 (ih k)

theorem Visit.det {succ : Nat → List Nat} {l : List Nat} {s s1 s2 : List Nat × List Nat} (h : Visit succ l s s1) (k : Visit succ l s s2) : s1 = s2 := by
  induction h generalizing s2 with
  | nil => cases k; rfl
  | skip h _ ih =>
    cases k with
    | skip _ k => exact ih k
    | go h2 _ _ => exact absurd h h2
  | go h _ _ ih1 ih2 =>
    cases k with
    | skip h2 _ => exact absurd h2 h
    | go _ k1 k2 =>
      cases ih1 k1
      exact ih2 k2

/-- what a visit does: the new ones, in the order in which they were done -/
structure Did (succ : Nat → List Nat) (work bg dn bg' dn' new : List Nat) : Prop where
  done : dn' = dn ++ new
  nodup : new.Nodup
  fresh : ∀ x ∈ new, x ∉ bg
  begun : ∀ x, x ∈ bg' ↔ x ∈ bg ∨ x ∈ new
  len : bg'.length = bg.length + new.length
  all : ∀ x ∈ work, x ∈ bg'
  next : ∀ x ∈ new, ∀ y ∈ succ x, y ∈ bg'
  from_ : ∀ (i : Nat) x, new[i]? = some x → x ∈ work ∨ ∃ j y, i < j ∧ new[j]? = some y ∧ x ∈ succ y
  keepsNodup : bg.Nodup → bg'.Nodup

theorem Visit.did {succ : Nat → List Nat} {l : List Nat} {s s' : List Nat × List Nat} (h : Visit succ l s s') : ∃ new, Did succ l s.1 s.2 s'.1 s'.2 new := by
  induction h with
  | nil s => exact ⟨[], by simp, by simp, by simp, by simp, by simp, by simp, by simp, by simp, id⟩
  | @skip t r bg dn s h _ ih =>
    obtain ⟨new, d⟩ := ih
    refine ⟨new, d.done, d.nodup, d.fresh, d.begun, d.len, ?_, d.next, fun i x hx => ?_, d.keepsNodup⟩
    · intro x hx
      rcases List.mem_cons.1 hx with rfl | hx
      · exact (d.begun _).2 (.inl h)
      · exact d.all x hx
    · rcases d.from_ i x hx with h1 | h1
      · exact .inl (List.mem_cons_of_mem _ h1)
      · exact .inr h1
  | @go t r bg dn bg1 dn1 s h _ _ ih1 ih2 =>
    obtain ⟨n1, d1⟩ := ih1
    obtain ⟨n2, d2⟩ := ih2
    have hb1 : ∀ x, x ∈ bg1 ↔ (x = t ∨ x ∈ bg) ∨ x ∈ n1 := fun x => by have := d1.begun x; simpa using this
    have hf1 : ∀ x ∈ n1, x ≠ t ∧ x ∉ bg := fun x hx => by have := d1.fresh x hx; simpa using this
    have hf2 : ∀ x ∈ n2, x ≠ t ∧ x ∉ bg ∧ x ∉ n1 := fun x hx => by
      have := d2.fresh x hx
      rw [show ((bg1, dn1 ++ [t]) : List Nat × List Nat).1 = bg1 from rfl, hb1] at this
      exact ⟨fun e => this (.inl (.inl e)), fun e => this (.inl (.inr e)), fun e => this (.inr e)⟩
    refine ⟨n1 ++ t :: n2, ?_, ?_, ?_, ?_, ?_, ?_, ?_, ?_, fun hn => d2.keepsNodup (d1.keepsNodup (List.nodup_cons.2 ⟨h, hn⟩))⟩
    · rw [d2.done]
      have := d1.done
      simp only at this
      rw [this]
      simp
    · rw [List.nodup_append]
      refine ⟨d1.nodup, List.nodup_cons.2 ⟨fun hm => (hf2 t hm).1 rfl, d2.nodup⟩, fun a ha b hb e => ?_⟩
      subst e
      rcases List.mem_cons.1 hb with rfl | hb
      · exact (hf1 _ ha).1 rfl
      · exact (hf2 _ hb).2.2 ha
    · intro x hx
      rcases List.mem_append.1 hx with hx | hx
      · exact (hf1 x hx).2
      · rcases List.mem_cons.1 hx with rfl | hx
        · exact h
        · exact (hf2 x hx).2.1
    · intro x
      rw [d2.begun, show ((bg1, dn1 ++ [t]) : List Nat × List Nat).1 = bg1 from rfl, hb1]
      simp only [List.mem_append, List.mem_cons]
      constructor
      · rintro (((h1 | h1) | h1) | h1) <;> simp [h1]
      · rintro (h1 | h1 | h1 | h1) <;> simp [h1]
    · have e1 := d1.len
      have e2 := d2.len
      simp at e1 e2 ⊢
      omega
    · intro x hx
      rcases List.mem_cons.1 hx with rfl | hx
      · exact (d2.begun _).2 (.inl ((hb1 _).2 (.inl (.inl rfl))))
      · exact d2.all x hx
    · intro x hx y hy
      rcases List.mem_append.1 hx with hx | hx
      · exact (d2.begun _).2 (.inl (d1.next x hx y hy))
      · rcases List.mem_cons.1 hx with rfl | hx
        · exact (d2.begun _).2 (.inl (d1.all y hy))
        · exact d2.next x hx y hy
    · intro i x hx
      by_cases h1 : i < n1.length
      · rw [List.getElem?_append_left h1] at hx
        rcases d1.from_ i x hx with hw | ⟨j, y, hj, hy, hs⟩
        · exact .inr ⟨n1.length, t, h1, by simp, hw⟩
        · have hj1 : j < n1.length := (List.getElem?_eq_some_iff.1 hy).1
          exact .inr ⟨j, y, hj, by rw [List.getElem?_append_left hj1]; exact hy, hs⟩
      · rw [List.getElem?_append_right (by omega)] at hx
        obtain ⟨m, hm⟩ : ∃ m, i - n1.length = m := ⟨_, rfl⟩
        rw [hm] at hx
        cases m with
        | zero =>
          simp at hx
          subst hx
          exact .inl (List.mem_cons_self ..)
        | succ m =>
          simp at hx
          rcases d2.from_ m x hx with hw | ⟨j, y, hj, hy, hs⟩
          · exact .inl (List.mem_cons_of_mem _ hw)
          · refine .inr ⟨n1.length + 1 + j, y, by omega, ?_, hs⟩
            rw [List.getElem?_append_right (by omega), show n1.length + 1 + j - n1.length = j + 1 by omega]
            simpa using hy

/-- a list without doubles, all below n, and one below n that is not in it: shorter than n -/
theorem below_len : ∀ (n : Nat) (l : List Nat), l.Nodup → (∀ x ∈ l, x < n) → l.length ≤ n := by
  intro n
  induction n with
  | zero => intro l _ h; cases l with | nil => simp | cons a l => exact absurd (h a (List.mem_cons_self ..)) (by omega)
  | succ n ih =>
    intro l hn h
    have h1 := ih (l.erase n) (hn.erase n) (fun x hx => by
      have h2 := (List.Nodup.mem_erase_iff hn).1 hx
      have := h x h2.2
      omega)
    by_cases hm : n ∈ l
    · rw [List.length_erase_of_mem hm] at h1; omega
    · rw [List.erase_of_not_mem hm] at h1; omega

theorem fresh_len {n b : Nat} {l : List Nat} (hn : l.Nodup) (h : ∀ x ∈ l, x < n) (hb : b < n) (hf : b ∉ l) : l.length < n := by
  have := below_len n (b :: l) (List.nodup_cons.2 ⟨hf, hn⟩) (fun x hx => by rcases List.mem_cons.1 hx with rfl | hx; exact hb; exact h x hx)
  simp at this
  omega

theorem nodup_rev {α : Type} {l : List α} (h : l.Nodup) : l.reverse.Nodup := List.pairwise_reverse.2 (h.imp fun h e => h e.symm)

/-- the order of a function: a visit of block 0, the last one done first -/
def OrderIs (bs : List BlockM) (o : List Nat) : Prop := ∃ bg dn, Visit (succM bs) (succM bs 0) ([0], []) (bg, dn) ∧ o = (dn ++ [0]).reverse

theorem OrderIs.one {bs : List BlockM} {o o' : List Nat} (h : OrderIs bs o) (k : OrderIs bs o') : o = o' := by
  obtain ⟨bg, dn, v, rfl⟩ := h
  obtain ⟨bg', dn', v', rfl⟩ := k
  cases v.det v'
  rfl

/-- what an order is like -/
theorem OrderIs.facts {bs : List BlockM} {o : List Nat} (h : OrderIs bs o) :
    o[0]? = some 0 ∧ o.Nodup ∧ (∀ x ∈ o, ∀ y ∈ succM bs x, y ∈ o) ∧ ∀ (i : Nat) x, 0 < i → o[i]? = some x → ∃ j y, j < i ∧ o[j]? = some y ∧ x ∈ succM bs y := by
  obtain ⟨bg, dn, v, rfl⟩ := h
  have v2 : Visit (succM bs) [0] ([], []) (bg, dn ++ [0]) := .go (by simp) v (.nil _)
  obtain ⟨new, d⟩ := v2.did
  have hd : dn ++ [0] = new := by simpa using d.done
  rw [hd]
  have h0 : new.reverse[0]? = some 0 := by rw [← hd]; simp
  refine ⟨h0, nodup_rev d.nodup, fun x hx y hy => ?_, fun i x hi hx => ?_⟩
  · have hx' : x ∈ new := List.mem_reverse.1 hx
    have := (d.begun y).1 (d.next x hx' y hy)
    simpa using this
  · have hlt : i < new.length := by have := (List.getElem?_eq_some_iff.1 hx).1; simpa using this
    have hx1 : new[new.length - 1 - i]? = some x := by rw [← hx, List.getElem?_reverse hlt]
    rcases d.from_ _ x hx1 with hw | ⟨j, y, hj, hy, hs⟩
    · have e : x = 0 := by simpa using hw
      subst e
      exfalso
      have hn := nodup_rev d.nodup
      have := (List.getElem?_inj (by have := hlt; simp; omega) hn).1 (h0.trans hx.symm)
      omega
    · have hjl : j < new.length := (List.getElem?_eq_some_iff.1 hy).1
      refine ⟨new.length - 1 - j, y, by omega, ?_, hs⟩
      rw [List.getElem?_reverse (by omega), show new.length - 1 - (new.length - 1 - j) = j by omega]
      exact hy

end Go.Proofs.YtncmnbchkabgaaaGreat

namespace Go.Proofs.YtncmnbchkabgaaaGreat
open Go.RowKit Go.Maps

theorem PhisR.more' {w : World} {B B' : Nat} {v : Value} {ps : List PhiM} (h : PhisR w B v ps) (hB : B ≤ B') : PhisR w B' v ps := by
  obtain ⟨A, c, rfl, hm, h⟩ := h
  refine ⟨A, c, rfl, hm, fun k p hp => ?_⟩
  obtain ⟨b, off, fv, vv, rfl, hb, h0, h1, h2, h3, hf, hv, r⟩ := h k p hp
  exact ⟨b, off, fv, vv, rfl, by omega, h0, h1, h2, h3, hf.more hB, hv.more hB, r⟩

theorem CodeR.more' {w : World} {B B' : Nat} {v : Value} {xs : List InstrM} (h : CodeR w B v xs) (hB : B ≤ B') : CodeR w B' v xs := by
  obtain ⟨A, c, rfl, hm, h⟩ := h
  refine ⟨A, c, rfl, hm, fun k p hp => ?_⟩
  obtain ⟨b, off, av, rfl, hb, h0, h1, h2, h3, hf, r⟩ := h k p hp
  exact ⟨b, off, av, rfl, by omega, h0, h1, h2, h3, hf.more hB, r⟩

theorem BlocksR.more' {w : World} {B B' : Nat} {v : Value} {bs : List BlockM} (h : BlocksR w B v bs) (hB : B ≤ B') : BlocksR w B' v bs := by
  obtain ⟨A, c, rfl, hm, h⟩ := h
  refine ⟨A, c, rfl, hm, fun k q hq => ?_⟩
  obtain ⟨b, off, pv, cv, tv, rfl, hb, h0, h1, h2, h3, h4, h5, hp, hc, ht, r⟩ := h k q hq
  exact ⟨b, off, pv, cv, tv, rfl, by omega, h0, h1, h2, h3, h4, h5, hp.more' hB, hc.more' hB, ht.more hB, r⟩

/-- a bool for each block: was it begun? -/
def marks (n : Nat) (bg : List Nat) : List Value := (List.range n).map fun i => .bool (decide (i ∈ bg))
def natInts (l : List Nat) : List Value := l.map fun (x : Nat) => Value.int .i64 (x : Int)

theorem marks_at {n b : Nat} {bg : List Nat} (h : b < n) : (marks n bg)[b]? = some (.bool (decide (b ∈ bg))) := by
  unfold marks
  rw [List.getElem?_map, List.getElem?_eq_getElem (by simpa using h)]
  simp

theorem marks_set {n b : Nat} {bg : List Nat} : (marks n bg).set b (.bool true) = marks n (b :: bg) := by
  unfold marks
  apply List.ext_getElem?
  intro i
  by_cases hi : i < n
  · by_cases e : b = i
    · subst e
      rw [List.getElem?_set_self (by simpa using hi), List.getElem?_eq_getElem (by simpa using hi)]
      simp
    · rw [List.getElem?_set_ne e, List.getElem?_map, List.getElem?_map, List.getElem?_range hi]
      have e' : ¬ i = b := fun h => e h.symm
      simp [e']
  · rw [List.getElem?_eq_none (by simp; omega), List.getElem?_eq_none (by simp; omega)]

/-- what lies in memory between two visits -/
structure Dfs (N R n : Nat) (gr : Array Value) (bg dn : List Nat) (w : World) : Prop where
  hR : N + 1 < R
  gb : w.heap[N]? = some (.cells gr 154 (0, 0))
  row : w.ownsRow (N + 1) 4 1 (.slice (some ⟨N + 1, 0, none⟩) n n) n (marks n bg)
  bb : w.heap[R]? = some (.cells #[.slice (some ⟨N + 1, 0, none⟩) n n] 75 (0, 0))
  done : ∃ v, w.heap[R + 1]? = some (.cells #[v] 22 (0, 0)) ∧ w.ownsRow (R + 3) 3 1 v dn.length (natInts dn)
  vb : w.heap[R + 2]? = some (.cells #[.func (.func 153) #[] #[.pointer (some ⟨R, 0, none⟩), .pointer (some ⟨N, 0, none⟩), .pointer (some ⟨R + 2, 0, none⟩), .pointer (some ⟨R + 1, 0, none⟩)]] 133 (0, 0))

theorem Dfs.size {N R n : Nat} {gr : Array Value} {bg dn : List Nat} {w : World} (h : Dfs N R n gr bg dn w) : R + 2 < w.heap.size := lt_of_block h.vb

theorem Dfs.mark {N R n b : Nat} {gr : Array Value} {bg dn : List Nat} {w : World} (h : Dfs N R n gr bg dn w) : Dfs N R n gr (b :: bg) dn (w.setCell ⟨N + 1, b, none⟩ (.bool true)) := by
  have hs := h.row.stored b (.bool true)
  have ho : ∀ k, k ≠ N + 1 → (w.setCell ⟨N + 1, b, none⟩ (.bool true)).heap[k]? = w.heap[k]? := fun k hk => heap_setCell_other w ⟨N + 1, b, none⟩ k _ hk
  obtain ⟨v, hv, hown⟩ := h.done
  have hR := h.hR
  refine ⟨hR, (ho _ (by omega)).trans h.gb, ?_, (ho _ (by omega)).trans h.bb, ⟨v, (ho _ (by omega)).trans hv, ?_⟩, (ho _ (by omega)).trans h.vb⟩
  · have := hs.1
    rwa [marks_set] at this
  · refine hown.kept hs.2 ?_
    cases e : v.ownBlock with
    | none => exact .inl rfl
    | some k =>
      have := (hown.lt k e).1
      exact .inr (by simp; omega)

theorem Dfs.push {N R n b : Nat} {gr : Array Value} {bg dn : List Nat} {w w3 : World} {o : Obj} {v v' : Value} (h : Dfs N R n gr bg dn w) (hd : w.ownsRow (R + 3) 3 1 v dn.length (natInts dn))
    (hown' : w3.ownsRow (R + 3) 3 1 v' (dn.length + 1) (natInts dn ++ [.int .i64 (b : Int)])) (hg : (w.alloc o).grownBy w3 v.ownBlock) (hd3 : w3.heap[R + 1]? = some (.cells #[v] 22 (0, 0))) :
    Dfs N R n gr bg (dn ++ [b]) (w3.setCell ⟨R + 1, 0, none⟩ v') ∧ Below N w (w3.setCell ⟨R + 1, 0, none⟩ v') := by
  have hsz := h.size
  have hne : ∀ k, k < R + 3 → some k ≠ v.ownBlock := fun k hk e => by have := (hd.lt k e.symm).1; omega
  have hk : ∀ k, k < R + 3 → w3.heap[k]? = w.heap[k]? := fun k hk => by
    rw [hg.block k (by simp; omega) (hne k hk), Below.heap_alloc _ _ _ (by omega)]
  have ho : ∀ k, k < R + 3 → k ≠ R + 1 → (w3.setCell ⟨R + 1, 0, none⟩ v').heap[k]? = w.heap[k]? := fun k h1 h2 =>
    (heap_setCell_other w3 ⟨R + 1, 0, none⟩ k _ h2).trans (hk k h1)
  have hR := h.hR
  refine ⟨⟨hR, (ho _ (by omega) (by omega)).trans h.gb, ?_, (ho _ (by omega) (by omega)).trans h.bb, ⟨v', by simpa using one_setCell hd3, ?_⟩, (ho _ (by omega) (by omega)).trans h.vb⟩, ?_⟩
  · have h1 := (h.row.alloc o).kept hg (.inr (hne (N + 1) (by omega)))
    exact ownsRow_setCell_other h1 (by simp [Value.ownBlock]; omega) _
  · have h1 := ownsRow_setCell_other hown' (a := ⟨R + 1, 0, none⟩) (by
      intro e
      have := (hown'.lt _ e).1
      simp at this) v'
    simpa [natInts] using h1
  · refine (Below.grown ((Below.refl _ _).alloc (by omega) _) hg (by simp; omega) (fun j hj => ?_)).setCell (by simp; omega) _
    have := (hd.lt j hj).1
    omega

theorem done_block {R k : Nat} {w w1 : World} {o : Obj} {v : Value} {xs : List Value} (hd : w.heap[R + 1]? = some (.cells #[v] 22 (0, 0))) (ho : w.ownsRow (R + 3) 3 1 v k xs) (hg : (w.alloc o).grownBy w1 v.ownBlock) :
    w1.heap[R + 1]? = some (.cells #[v] 22 (0, 0)) := by
  have hl := lt_of_block hd
  rw [hg.block (R + 1) (by simp; omega) (fun e => by have := (ho.lt _ e.symm).1; omega), Below.heap_alloc _ _ _ hl]
  exact hd

theorem visit_range {succ : Nat → List Nat} {n : Nat} (hs : ∀ b, ∀ y ∈ succ b, y < n) {l : List Nat} {s s' : List Nat × List Nat} (h : Visit succ l s s') : (∀ x ∈ l, x < n) → (∀ x ∈ s.1, x < n) → ∀ x ∈ s'.1, x < n := by
  induction h with
  | nil => exact fun _ h => h
  | skip _ _ ih => exact fun hl h => ih (fun x hx => hl x (List.mem_cons_of_mem _ hx)) h
  | @go t r bg dn bg1 dn1 s h _ _ ih1 ih2 =>
    intro hl hb
    refine ih2 (fun x hx => hl x (List.mem_cons_of_mem _ hx)) (ih1 (hs t) fun x hx => ?_)
    rcases List.mem_cons.1 hx with rfl | hx
    · exact hl _ (List.mem_cons_self ..)
    · exact hb x hx

/-- all ends go to blocks that are there -/
def EndsIn (bs : List BlockM) : Prop := ∀ q ∈ bs, ∀ t ∈ q.term.to, 0 ≤ t ∧ t < bs.length

theorem EndsIn.succ {bs : List BlockM} (h : EndsIn bs) : ∀ b, ∀ y ∈ succM bs b, y < bs.length := by
  intro b y hy
  unfold succM at hy
  split at hy
  · rename_i q hq
    obtain ⟨t, ht, rfl⟩ := List.mem_map.1 hy
    have := h q (List.mem_of_getElem? hq) t ht
    omega
  · cases hy

def VisitPost (bs : List BlockM) (N R n : Nat) (gr : Array Value) (bg dn : List Nat) (b : Nat) (w : World) (e : Ending) (w' : World) : Prop :=
  ∃ bg' dn', e = .returned (.tuple #[]) ∧ Visit (succM bs) (succM bs b) (b :: bg, dn) (bg', dn') ∧ Dfs N R n gr bg' (dn' ++ [b]) w' ∧ Below N w w'

set_option maxRecDepth 100000 in
set_option maxHeartbeats 2000000 in
theorem visit_any (bs : List BlockM) (N R : Nat) (pv av cv bv : Value) (hn5 : bs.length ≤ 512) (hin : EndsIn bs) :
    ∀ (k : Nat) (bg dn : List Nat) (b : Nat) (w : World), bs.length ≤ bg.length + k → bg.Nodup → (∀ x ∈ bg, x < bs.length) → dn.length ≤ bg.length → b < bs.length → b ∉ bg → BlocksR w N bv bs → Dfs N R bs.length #[pv, av, cv, bv] bg dn w →
    Calls Tryz.prog 153 #[.int .i64 b, .pointer (some ⟨R, 0, none⟩), .pointer (some ⟨N, 0, none⟩), .pointer (some ⟨R + 2, 0, none⟩), .pointer (some ⟨R + 1, 0, none⟩)] w (VisitPost bs N R bs.length #[pv, av, cv, bv] bg dn b w) := by
  intro k
  induction k with
  | zero =>
    intro bg dn b w hk hnd hlt _ hb hf
    have := fresh_len hnd hlt hb hf
    omega
  | succ k ih =>
    intro bg dn b w hk hnd hlt hdl hb hf hbl hD
    have HIH := hideI ih
    have HIN := hideI hin
    have HND := hideI hnd
    have HLT := hideI hlt
    have HF := hideI hf
    have HBL := hideI hbl
    have HD := hideI hD
    obtain ⟨q, hq⟩ : ∃ q, bs[b]? = some q := ⟨_, List.getElem?_eq_getElem hb⟩
    obtain ⟨A, c, rfl, hbm, hbx⟩ := hbl
    obtain ⟨ab, off, pq, cq, tv, rfl, hab, x0, x1, x2, x3, x4, x5, _, _, htv, _⟩ := hbx b q hq
    have HTV := hideI htv
    have HQ := hideI hq
    have HSU : Hid (succM bs b = q.term.to.map Int.toNat) := by show _ = _; unfold succM; rw [hq]
    have hgb := row_cells hD.gb rfl
    have g3 := hgb 3
    have hbb := cell_of_one hD.bb
    have hmk : w.cell? ⟨N + 1, b, none⟩ = some (.bool false) := by
      rw [World.ownsRow.cellAt hD.row b (by omega), marks_at hb]
      simp [hf]
    have hmf : w.frozen? ⟨N + 1, b, none⟩ = false := World.ownsRow.frozenAt hD.row b
    have hne1 : ab ≠ N + 1 := by omega
    obtain ⟨TA, tc, rfl, htm, _⟩ := htv
    obtain ⟨m, hm⟩ : ∃ m, m = q.term.to.length := ⟨_, rfl⟩
    have HW1 := hideI (hD.mark (b := b))
    have HM := hideI hm
    rw [← hm] at x4 htm
    clear ih hin hnd hlt hf hD hbx hq hgb x0 x1 x2 x3 x5 hm
    go_enter Tryz.func153, Tryz.ntmps153
    go_wp2
    obtain ⟨wm, hwm⟩ : ∃ wm : World, wm = w.setCell ⟨N + 1, b, none⟩ (.bool true) := ⟨_, rfl⟩
    have HBM : Hid (Below N w wm) := by rw [hwm]; exact (Below.refl N w).setCell (by simp) _
    rw [← hwm] at HW1 ⊢
    clear hwm g3 hbb hmk hmf x4
    go_loopw [20] (fun u wr => ∃ (i : Nat) (bgi dni : List Nat), i ≤ m ∧ u = .int .i64 i ∧ Hid (Visit (succM bs) ((q.term.to.map Int.toNat).take i) (b :: bg, dn) (bgi, dni)) ∧ Hid (Dfs N R bs.length #[pv, av, cv, .slice (some ⟨ab, off, none⟩) bs.length c] bgi dni wr) ∧ Hid (Below N w wr)) (fun u _ => m - (intOf u).toNat)
    case atStart => exact ⟨0, b :: bg, dn, Nat.zero_le _, rfl, by exact hideI (.nil _), HW1, HBM⟩
    case round =>
      obtain ⟨i, bgi, dni, hi, rfl, HV, HDr, HBr⟩ := hrel
      obtain ⟨new, hdid⟩ := HV.out.did
      have hndi : bgi.Nodup := hdid.keepsNodup (List.nodup_cons.2 ⟨HF.out, HND.out⟩)
      have hleni : bgi.length = bg.length + 1 + new.length := hdid.len
      have hdni : dni.length = dn.length + new.length := by have := hdid.done; simp only at this; rw [this, List.length_append]
      have hlti : ∀ x ∈ bgi, x < bs.length := visit_range HIN.out.succ HV.out (fun x hx => HIN.out.succ b x (by rw [HSU.out]; exact List.mem_of_mem_take hx)) (fun x hx => by
        rcases List.mem_cons.1 hx with rfl | hx
        · exact hb
        · exact HLT.out x hx)
      have hlb : bg.length + 1 ≤ bgi.length := by omega
      have hdb0 : dni.length ≤ bgi.length := by omega
      have HNDI := hideI hndi
      have HLTI := hideI hlti
      have hbgl := below_len _ _ hndi hlti
      have hbb := cell_of_one HDr.out.bb
      clear hdid hndi hlti hleni hdni
      by_cases hlt : i < m
      · obtain ⟨t, ht⟩ : ∃ t, q.term.to[i]? = some t := ⟨_, List.getElem?_eq_getElem (by rw [HM.out] at hlt; exact hlt)⟩
        have htn := HIN.out q (List.mem_of_getElem? HQ.out) t (List.mem_of_getElem? ht)
        obtain ⟨tn, rfl⟩ : ∃ tn : Nat, t = (tn : Int) := ⟨t.toNat, by omega⟩
        have htl : tn < bs.length := by omega
        have htk : Hid ((q.term.to.map Int.toNat).take (i + 1) = (q.term.to.map Int.toNat).take i ++ [tn]) := by
          show _ = _
          rw [List.take_add_one, List.getElem?_map, ht]
          rfl
        obtain ⟨TA', tc', e0, _, hxx⟩ := HTV.out.keep HBr.out
        cases e0
        obtain ⟨tb, toff, rfl, htb, hcell⟩ := hxx i (by rw [← HM.out]; exact hlt)
        rw [ht] at hcell
        simp only [Option.getD_some] at hcell
        have hmk : wr.cell? ⟨N + 1, tn, none⟩ = some (.bool (decide (tn ∈ bgi))) := by rw [World.ownsRow.cellAt HDr.out.row tn (by omega), marks_at htl]
        clear hxx ht htn
        by_cases hin2 : tn ∈ bgi
        · have HIN2 := hideI hin2
          rw [show decide (tn ∈ bgi) = true from by simpa using hin2] at hmk
          clear hin2
          go_wp2
          go_roundw
          case rel => exact ⟨i + 1, bgi, dni, by omega, by go_num, by rw [htk.out]; exact hideI (HV.out.append (.skip HIN2.out (.nil _))), HDr, HBr⟩
          case measure => simp [intOf]; omega
        · have HIN2 := hideI hin2
          rw [show decide (tn ∈ bgi) = false from by simpa using hin2] at hmk
          have hvb := cell_of_one HDr.out.vb
          have HC := hideI (HIH.out bgi dni tn wr (by omega) HNDI.out HLTI.out (by omega) htl HIN2.out (HBL.out.keeps (Keeps.of_below HBr.out)) HDr.out)
          clear hin2
          go_wp2_with (go_at_call 153; refine HC.out.mono ?_; rintro e w2 ⟨bg2, dn2, rfl, hv2, hd2, hb2⟩; have HV2 := hideI hv2; have HD2 := hideI hd2; have HB2 := hideI hb2; clear hv2 hd2 hb2)
          go_roundw
          case rel => exact ⟨i + 1, bg2, dn2 ++ [tn], by omega, by go_num, by rw [htk.out]; exact hideI (HV.out.append (.go HIN2.out HV2.out (.nil _))), HD2, hideI (HBr.out.trans HB2.out)⟩
          case measure => simp [intOf]; omega
      · obtain ⟨v, hdv, hown⟩ := HDr.out.done
        have hdb := cell_of_one hdv
        have HDV := hideI hdv
        have HOWN := hideI hown
        have hsz := HDr.out.size
        obtain ⟨i0, hix, hz0, hz1, hz2⟩ := info_parts int_info
        have hall : (q.term.to.map Int.toNat).take i = succM bs b := by rw [HSU.out, List.take_of_length_le (by rw [List.length_map, ← HM.out]; omega)]
        rw [hall] at HV
        clear hdv hall
        go_wp2_with (at_builtin; go_must (refine wpList_append_lies _ rfl _ _ _ rfl (R + 3) 3 i0 (.int .i64 0) 1 8 Tryz.underlying22 hix hz0 hz1 hz2 rfl (by decide) _ _ _ rfl (HOWN.out.alloc _) ⟨wr.heap.size, 0, none⟩ 1 1 [.int .i64 b] rfl rfl (one_new wr _) (by simp [Value.oneCell']) (by decide) (by simp only [maxLen]; omega) (by omega) (by simp; omega) _ rfl ?_); intro g1 cap1 w1 hown1 hgrow1 _ _; have HO1 := hideI hown1; have HG1 := hideI hgrow1; have HD1 := hideI (done_block HDV.out HOWN.out hgrow1); clear hown1 hgrow1; have hdb1 := free_of_one HD1.out; have hdc1 := cell_of_one HD1.out)

        go_end0
        have hp := HDr.out.push HOWN.out HO1.out HG1.out HD1.out
        exact ⟨bgi, dni, rfl, HV.out, hp.1, HBr.out.trans hp.2⟩

end Go.Proofs.YtncmnbchkabgaaaGreat

namespace Go.Proofs.YtncmnbchkabgaaaGreat
open Go.RowKit

theorem zero111 : Tryz.zeroCells256 = Array.replicate 512 (Value.bool false) := by kernel_rfl

/-- block S says of each number below 512 whether it was seen -/
def SeenIs (w : World) (S : Nat) (seen : List Int) : Prop :=
  ∃ cs : Array Value, w.heap[S]? = some (.cells cs 256 (0, 0)) ∧ cs.size = 512 ∧ ∀ i : Nat, i < 512 → cs[i]? = some (.bool (seen.contains (i : Int)))

theorem SeenIs.cell {w : World} {S : Nat} {seen : List Int} (h : SeenIs w S seen) (m : Nat) (hm : m < 512) : w.cell? ⟨S, m, none⟩ = some (.bool (seen.contains (m : Int))) := by
  obtain ⟨cs, hc, hs, h⟩ := h
  rw [cell_of_row w S m cs 256 (0, 0) hc]
  exact h m hm

theorem SeenIs.free {w : World} {S : Nat} {seen : List Int} (h : SeenIs w S seen) (m : Nat) : w.frozen? ⟨S, m, none⟩ = false := by
  obtain ⟨cs, hc, hs, h⟩ := h
  simp [World.frozen?, hc]

theorem SeenIs.set_ {w : World} {S : Nat} {seen : List Int} (h : SeenIs w S seen) (m : Nat) (hm : m < 512) : SeenIs (w.setCell ⟨S, m, none⟩ (.bool true)) S ((m : Int) :: seen) := by
  obtain ⟨cs, hc, hs, h⟩ := h
  refine ⟨cs.setIfInBounds m (.bool true), ?_, by simp [hs], fun i hi => ?_⟩
  · simp [World.setCell, Array.getElem?_modify, hc]
  · rw [Array.getElem?_setIfInBounds]
    by_cases e : m = i
    · subst e; simp [hs, hm]
    · have e' : ((i : Int) == (m : Int)) = false := by simp; omega
      rw [if_neg e, h i hi, List.contains_cons, e', Bool.false_or]

theorem seen_new (w : World) : SeenIs (w.alloc (.cells Tryz.zeroCells256 256)) w.heap.size [] := by
  refine ⟨_, heap_alloc_new w _, by rw [zero111]; simp, fun i hi => ?_⟩
  rw [zero111]
  simp [hi]

/-- what is left to be asked, k behind the start -/
theorem once_step (nb : Nat) (seen : List Int) (to : List Int) (k : Nat) (h : k < to.length) (x : Int) (hx : to[k]?.getD 0 = x) :
    onceB nb seen (to.drop k) = (withinB x 0 (nb - 1) && !(seen.contains x) && onceB nb (x :: seen) (to.drop (k + 1))) := by
  rw [List.drop_eq_getElem_cons h]
  rw [getD_of h] at hx
  rw [hx]
  rfl

theorem once_no (nb : Nat) (seen to : List Int) (k : Nat) (h : k < to.length) (x : Int) (hx : to[k]?.getD 0 = x) (hf : withinB x 0 (nb - 1) = false ∨ seen.contains x = true) :
    onceB nb seen (to.drop k) = false := by
  rw [once_step nb seen to k h x hx]
  rcases hf with e | e <;> rw [e] <;> simp

theorem once_yes (nb : Nat) (seen to : List Int) (k : Nat) (h : k < to.length) (x : Int) (hx : to[k]?.getD 0 = x) (h1 : withinB x 0 (nb - 1) = true) (h2 : seen.contains x = false) :
    onceB nb seen (to.drop k) = onceB nb (x :: seen) (to.drop (k + 1)) := by
  rw [once_step nb seen to k h x hx, h1, h2]
  simp

theorem within_bd {x a b : Int} (h : withinB x a b = true) : a ≤ x ∧ x ≤ b := by
  unfold withinB at h
  simpa using h

theorem says_below {b b' : Bool} {w wr : World} {o : Obj} (h : b = b') (hb : Below (w.heap.size + 1) (w.alloc o) wr) : Says b' w (.returned (.bool b)) wr := by
  subst h
  exact ⟨rfl, ((Below.refl _ _).alloc (Nat.le_refl _) _).trans (hb.mono (by omega))⟩

set_option maxHeartbeats 400000 in
theorem once_any (pv mv av cv : Value) (A : Option Addr) (nb c : Nat) (tv : Value) (to : List Int) (w : World) (hI : Ints w w.heap.size tv to) (h1 : 1 ≤ nb) (h2 : nb ≤ 512) :
    Calls Tryz.prog 215 #[.agg #[pv, av, cv, .slice A nb c, mv], tv] w (Says (onceB nb [] to) w) := by
  obtain ⟨T, ct, rfl, hm, hx⟩ := hI
  have Hx := hideI hx
  clear hx
  go_enter Tryz.func215, Tryz.ntmps215
  go_wp2
  go_loopw [10] (fun i wr => ∃ (k : Nat) (seen : List Int), k ≤ to.length ∧ i = .int .i64 k ∧ onceB nb [] to = onceB nb seen (to.drop k) ∧ SeenIs wr (w.heap.size + 1) seen ∧ Below (w.heap.size + 1) (w.alloc (.cells #[pv, av, cv, .slice A nb c, mv] 174)) wr) (fun i _ => to.length - (intOf i).toNat)
  case atStart =>
    refine ⟨0, [], Nat.zero_le _, rfl, rfl, ?_, (Below.refl _ _).alloc (by simp) _⟩
    have h := seen_new (w.alloc (.cells #[pv, av, cv, .slice A nb c, mv] 174))
    simpa using h
  case round =>
    obtain ⟨k, seen, hk, rfl, ht, hS, hB⟩ := hrel
    have HT := hideI ht
    have HB := hideI hB
    have HS := hideI hS
    have hbx : wr.cell? ⟨w.heap.size, 3, none⟩ = some (.slice A nb c) := by
      rw [hB.cell (p := ⟨w.heap.size, 3, none⟩) (by simp), cell_of_row _ _ _ _ _ _ (heap_alloc_new w _)]
      rfl
    clear ht hB hS
    by_cases hlt : k < to.length
    · obtain ⟨b, off, rfl, hb, hc0⟩ := Hx.out k hlt
      have hc : wr.cell? ⟨b, off + k, none⟩ = some (.int .i64 (to[k]?.getD 0)) := by
        rw [HB.out.cell (p := ⟨b, off + k, none⟩) (by simp; omega), World.cell?_alloc_lt _ _ _ (by simpa using hb), hc0]
      obtain ⟨x, hxk⟩ : ∃ x, to[k]?.getD 0 = x := ⟨_, rfl⟩
      rw [hxk] at hc
      have HX := hideI hxk
      clear hxk hc0
      have hsz : wr.heap.size = wr.heap.size := rfl
      cases hw : withinB x 0 (nb - 1)
      · go_wp2_with (go_at_call 197; refine (within_any _ _ _ _).mono ?_; rintro e w' ⟨rfl, rfl⟩)
        go_ret
        exact says_below (by rw [HT.out]; exact (once_no nb seen to k hlt x HX.out (.inl hw)).symm) HB.out
      · obtain ⟨m, rfl⟩ : ∃ m : Nat, x = m := ⟨x.toNat, by have := within_bd hw; omega⟩
        have hm5 : m < 512 := by have := within_bd hw; omega
        have hcs := HS.out.cell m hm5
        have hfs := HS.out.free m
        cases hsn : seen.contains (m : Int)
        · rw [hsn] at hcs
          go_wp2_with (go_at_call 197; refine (within_any _ _ _ _).mono ?_; rintro e w' ⟨rfl, rfl⟩)
          go_roundw
          case rel => exact ⟨k + 1, (m : Int) :: seen, by omega, by go_num, by rw [HT.out]; exact once_yes nb seen to k hlt _ HX.out hw hsn, HS.out.set_ m hm5, HB.out.setCell (by simp) _⟩
          case measure => simp [intOf]; omega
        · rw [hsn] at hcs
          go_wp2_with (go_at_call 197; refine (within_any _ _ _ _).mono ?_; rintro e w' ⟨rfl, rfl⟩)
          go_ret
          exact says_below (by rw [HT.out]; exact (once_no nb seen to k hlt _ HX.out (.inr hsn)).symm) HB.out
    · go_wp2
      go_ret
      exact says_below (by rw [HT.out, List.drop_of_length_le (by omega)]; rfl) HB.out

end Go.Proofs.YtncmnbchkabgaaaGreat
