/- What LoopsEnds rests on, part 12: IMade, Panics, IMadeL, IMadeP, IDo, ICome. -/
import Derived.Test.YtglbepdjahddmaaGreatPkLoopsEnds11
import Derived.Deep.RegionHeld3
import Derived.Deep.QuietTactic
import Derived.BigQuiet
import Derived.Deep.RegionWith
import Derived.Deep.DeepCutAuto
import Derived.Deep.CutRange
import Derived.Deep.Light

namespace Go.Proofs.YtglbepdjahddmaaGreat
open Go.RowKit Go.Maps

/-- the numbers that an operation is handed -/
def ArgsAt (K : Nat → Prop) (w : World) (av : Value) (a : List Int) : Prop :=
  a.length ≤ 1000 ∧ ∃ g cap, av = .slice (some ⟨g, 0, none⟩) a.length cap ∧ K g ∧ ∀ j, j < a.length → w.cell? ⟨g, j, none⟩ = some (.int .i64 (a[j]?.getD 0))

section
variable {c : MachC} {K : Nat → Prop} {w w' : World} {val : MVals} {s : StM} {av : Value} {a : List Int}

theorem ArgsAt.kf (h : ArgsAt K w av a) (hk : KF K w w') : ArgsAt K w' av a := by
  obtain ⟨h0, g, cap, h1, h2, h3⟩ := h
  exact ⟨h0, g, cap, h1, h2, fun j hj => (World.cell?_of_block (a := ⟨g, j, none⟩) (hk.block g h2)).trans (h3 j hj)⟩

theorem ArgsAt.ints (h : ArgsAt K w av a) (hl : ∀ b, K b → b < w.heap.size) : Ints w w.heap.size av a := by
  obtain ⟨h0, g, cap, h1, h2, h3⟩ := h
  exact ⟨_, cap, h1, by omega, fun j hj => ⟨g, 0, rfl, hl g h2, by rw [Nat.zero_add]; exact h3 j hj⟩⟩

/-- behind 'made' -/
def MadePost (c : MachC) (K : Nat → Prop) (w : World) (val : MVals) (r : StM × (Int ⊕ EndM)) (e : Ending) (w' : World) : Prop :=
  e = (match r.2 with | .inl v => .returned (.int .i64 v) | .inr en => endE en) ∧ MachR c K w' val r.1 ∧ KF K w w'

def boxI (x : InstrM) (xv : Value) : Value := .agg #[.int .i64 x.op, .int .i64 x.id, xv, .int .i64 x.n]

set_option maxRecDepth 100000 in
theorem made_const (h : MachR c K w val s) (x : InstrM) (xv : Value) (ho : x.op = 1 ∨ x.op = 2) :
    Calls Tryz.prog 122 #[.pointer (some ⟨c.m, 0, none⟩), boxI x xv, av] w (MadePost c K w val (madeM x a s)) := by
  have H := hideI h
  have he : madeM x a s = (s, .inl x.n) := by unfold madeM; rw [if_pos ho]
  rw [he]
  clear h he
  obtain ⟨op, id, args, n⟩ := x
  simp only [boxI] at ho ⊢
  rcases ho with rfl | rfl
  · go_enter Tryz.func122, Tryz.ntmps122
    go_wp2
    go_ret
    exact ⟨rfl, H.out.below ((Below.refl w.heap.size w).alloc (Nat.le_refl _) _), (KF.refl _).alloc H.out.low _⟩
  · go_enter Tryz.func122, Tryz.ntmps122
    go_wp2
    go_ret
    exact ⟨rfl, H.out.below ((Below.refl w.heap.size w).alloc (Nat.le_refl _) _), (KF.refl _).alloc H.out.low _⟩

set_option maxRecDepth 100000 in
theorem made_len (h : MachR c K w val s) (id : Int) (xa : List Int) (k : Nat) (xv : Value) {r : List Int} (hk : s.arrs[k]? = some r) :
    Calls Tryz.prog 122 #[.pointer (some ⟨c.m, 0, none⟩), boxI ⟨18, id, xa, k⟩ xv, av] w (MadePost c K w val (madeM ⟨18, id, xa, k⟩ a s)) := by
  obtain ⟨ga, ca, A, cp, X⟩ := h.arrAt hk
  have H := hideI h
  have ha : arrM s k = r := by unfold arrM; rw [List.getD_eq_getElem?_getD, Int.toNat_natCast, hk]; rfl
  have he : madeM ⟨18, id, xa, k⟩ a s = (s, .inl r.length) := by unfold madeM; rw [if_neg (by simp), if_pos rfl]; simp only; rw [ha]
  rw [he]
  have hml := h.m_lt
  have c4 := h.cells 4
  simp only [machCells] at c4
  rw [X.arrs] at c4
  have a0 := X.at_
  have a1 := X.ne
  have a2 := X.lt
  have a3 := X.klt
  obtain ⟨na, hna⟩ : ∃ na, na = s.arrs.length := ⟨_, rfl⟩
  rw [← hna] at c4 a3
  simp only [boxI]
  obtain ⟨la, hla⟩ : ∃ la, la = r.length := ⟨_, rfl⟩
  rw [← hla] at a0 ⊢
  clear h he ha hna X hk hla
  go_enter Tryz.func122, Tryz.ntmps122
  go_wp2
  go_quiet (fail)
  go_wp2
  go_ret
  exact ⟨rfl, (H.out.below ((Below.refl w.heap.size w).alloc (Nat.le_refl _) _)).drewN nq, ((KF.refl _).alloc H.out.low _).drewN nq⟩

set_option maxRecDepth 100000 in
theorem made_get (h : MachR c K w val s) (id : Int) (xa : List Int) (k : Nat) (xv : Value) (hk : k < s.cells.length) :
    Calls Tryz.prog 122 #[.pointer (some ⟨c.m, 0, none⟩), boxI ⟨24, id, xa, k⟩ xv, av] w (MadePost c K w val (madeM ⟨24, id, xa, k⟩ a s)) := by
  have H := hideI h
  have he : madeM ⟨24, id, xa, k⟩ a s = (s, .inl (s.cells.getD k 0)) := by unfold madeM; rw [if_neg (by simp), if_neg (by simp), if_neg (by simp), if_pos rfl]; rfl
  rw [he]
  have hr : mRow s c.nv val .cells = some (intRow s.cells) := rfl
  obtain ⟨ga, ca, hv⟩ := h.slice hr (by show 0 < s.cells.length; omega)
  have a0 := (h.cell hr hv (j := k) hk).1
  have hml := h.m_lt
  have c12 := h.cells 12
  simp only [machCells] at c12
  rw [hv] at c12
  have e1 : (intRow s.cells).len = s.cells.length := rfl
  have e2 : (intRow s.cells).cells[k]? = some (.int .i64 (s.cells.getD k 0)) := by
    show (s.cells.map _)[k]? = _
    rw [List.getElem?_map, List.getD_eq_getElem?_getD, List.getElem?_eq_getElem hk]
    rfl
  rw [e2] at a0
  rw [e1] at c12
  have a1 := (h.off .cells _ ga hr (by rw [hv]; rfl)).1
  have a2 := h.own_lt hr (show (val .cells).ownBlock = some ga by rw [hv]; rfl)
  obtain ⟨na, hna⟩ : ∃ na, na = s.cells.length := ⟨_, rfl⟩
  rw [← hna] at c12 hk
  simp only [boxI]
  generalize s.cells.getD k 0 = y at a0 ⊢
  clear h he hr hv hna e1 e2
  go_enter Tryz.func122, Tryz.ntmps122
  go_wp2
  go_quiet (fail)
  go_wp2
  go_ret
  exact ⟨rfl, (H.out.below ((Below.refl w.heap.size w).alloc (Nat.le_refl _) _)).drewN nq, ((KF.refl _).alloc H.out.low _).drewN nq⟩
end
end Go.Proofs.YtglbepdjahddmaaGreat

namespace Go.Proofs.YtglbepdjahddmaaGreat
open Go.RowKit

section
variable {P : Program} {ops : Array Oper} {w0 : World}

/-- operations that read alone, one behind the other -/
def wpPure (P : Program) (ops : Array Oper) (w0 : World) (Q : Act → Prop) : List Oper → Act → Prop
  | [], a => Q a
  | o :: rest, a => if Region.wanted o (yielded ops a.tmps) then ∃ v, (∀ w, (∃ n, w = w0.drewN n) → (execOp a.eval o).run P w = .ok (.value v) w) ∧ wpPure P ops w0 Q rest (a.put o.dst v) else wpPure P ops w0 Q rest (a.put o.dst undef)

theorem wpPure_step {Q : Act → Prop} {a : Act} {o : Oper} {rest : List Oper}
    (h : ∀ K : Act → Prop, (∀ a, wpPure P ops w0 Q rest a → K a) → if Region.wanted o (yielded ops a.tmps) then ∃ v, (∀ w, (∃ n, w = w0.drewN n) → (execOp a.eval o).run P w = .ok (.value v) w) ∧ K (a.put o.dst v) else K (a.put o.dst undef)) :
    wpPure P ops w0 Q (o :: rest) a := h _ (fun _ h => h)

theorem wpPure_nil {Q : Act → Prop} {a : Act} (h : Q a) : wpPure P ops w0 Q [] a := h

/-- so many operations in the order of the text; then none may come up but the next one -/
def lexTo (ops : Array Oper) : Nat → Nat → Array Bool → Bool
  | 0, k, listed => Region.ready .any ops listed == [k]
  | n + 1, k, listed => (Region.ready .any ops listed).contains k && Region.free .any ops listed k && lexTo ops n (k + 1) (listed.setIfInBounds k true)

theorem pure_lex {Q : Exit → Act → World → Prop} {o : Oper} (hs : Region.noSelect ops = true) (hQ : ∀ c a w d v, Q (.panic c) (a.put d v) w → Q (.panic c) a w) (fuel : Nat) :
    ∀ (l : List Oper) (k : Nat) (listed : Array Bool) (a : Act) (w : World), (∀ j, j < l.length → l[j]? = ops[k + j]?) → ops[k + l.length]? = some o → lexTo ops l.length k listed = true → (∃ n, w = w0.drewN n) →
      wpPure P ops w0 (fun a' => ∀ (w' : World), (∃ n, w' = w0.drewN n) → ∀ K' : Act → World → Prop, if Region.wanted o (yielded ops a'.tmps) then Oper.wp P o a' w' K' Q else False) l a →
      wpAnyH P .any ops Q (fun w' => ∃ n, w' = w0.drewN n) (l.length + (fuel + 1)) listed a w
  | [], k, listed, a, w, _, ho, hB, hw, h => by
    have hB' : Region.ready .any ops listed = [k] := by simpa [lexTo] using hB
    rw [show ([] : List Oper).length + (fuel + 1) = fuel + 1 by simp]
    refine wpAnyH_ready hB' (by simp) (AllReadyH.cons (o := o) (by simpa using ho) (fun K' _ => ?_) AllReadyH.nil)
    have h1 := h w hw K'
    split at h1
    · rename_i hwant
      rw [if_pos hwant]
      exact h1
    · exact h1.elim
  | o0 :: l, k, listed, a, w, hl, ho, hB, hw, h => by
    have h0 : ops[k]? = some o0 := by simpa using (hl 0 (by simp)).symm
    simp only [List.length_cons, lexTo, Bool.and_eq_true] at hB
    obtain ⟨⟨hr, hf⟩, hB'⟩ := hB
    have go : ∀ v, YieldsIf P ops (fun w' => ∃ n, w' = w0.drewN n) o0 v a → wpPure P ops w0 (fun a' => ∀ (w' : World), (∃ n, w' = w0.drewN n) → ∀ K' : Act → World → Prop, if Region.wanted o (yielded ops a'.tmps) then Oper.wp P o a' w' K' Q else False) l (a.put o0.dst v) →
        wpAnyH P .any ops Q (fun w' => ∃ n, w' = w0.drewN n) ((o0 :: l).length + (fuel + 1)) listed a w := fun v hy hrest => by
      rw [show (o0 :: l).length + (fuel + 1) = (l.length + (fuel + 1)) + 1 by simp; omega]
      refine wpAnyH_first h0 (Region.noSelect_spec hs) (fun c a w h => hQ c a w _ _ h) _ listed a w (Region.free_spec h0 hf) (by simpa using hr) hy hw ?_
      exact pure_lex hs hQ fuel l (k + 1) _ _ w (fun j hj => by have := hl (j + 1) (by simp; omega); simpa [Nat.add_assoc, Nat.add_comm 1 j] using this) (by rw [← ho]; congr 1; simp; omega) hB' hw hrest
    unfold wpPure at h
    split at h
    · rename_i hwant
      obtain ⟨v, hv, hrest⟩ := h
      exact go v (.inl ⟨hwant, hv⟩) hrest
    · rename_i hwant
      exact go undef (.inr ⟨by simpa using hwant, rfl⟩) h

/-- a region whose call, the n-th operation, panics, whatever the order -/
theorem wp_region_panics (n : Nat) {id : Nat} {Q : Exit → Act → World → Prop} {a : Act} {w : World} {ops : Array Oper} {o : Oper} (hm : P.follows .mixedOrders = true) (ho : ops[n]? = some o) (hs : Region.noSelect ops = true)
    (hB : lexTo ops n 0 (Array.replicate ops.size false) = true) (hQ : ∀ c a w d v, Q (.panic c) (a.put d v) w → Q (.panic c) a w)
    (h : wpPure P ops w (fun a' => ∀ (w' : World), (∃ n, w' = w.drewN n) → ∀ K' : Act → World → Prop, if Region.wanted o (yielded ops a'.tmps) then Oper.wp P o a' w' K' Q else False) (ops.toList.take n) a) :
    (Code.region id ops true).wp P Q a w := by
  have hn : n < ops.size := (Array.getElem?_eq_some_iff.1 ho).1
  have hl : (ops.toList.take n).length = n := by simp; omega
  refine wp_region_held_drew (S := fun w' => ∃ n, w' = w.drewN n) hm ⟨1, rfl⟩ (fun _ => ?_)
  have hp := pure_lex (P := P) (w0 := w) (Q := Q) (o := o) hs hQ (ops.size - n - 1) (ops.toList.take n) 0 (Array.replicate ops.size false) a w.drew (fun j hj => by
    rw [hl] at hj
    rw [List.getElem?_take, if_pos hj, Nat.zero_add, Array.getElem?_toList]) (by rw [hl, Nat.zero_add]; exact ho) (by rw [hl]; exact hB) ⟨1, rfl⟩ h
  rw [hl] at hp
  rwa [show n + (ops.size - n - 1 + 1) = ops.size by omega] at hp

theorem post_frame {fn : Func} {R : Ending → World → Prop} : ∀ c a w d v, bodyPost P fn R (.panic c) (Act.put a d v) w → bodyPost P fn R (.panic c) a w := by
  intro c a w d v h
  cases d <;> exact h
end
end Go.Proofs.YtglbepdjahddmaaGreat

namespace Go.Proofs.YtglbepdjahddmaaGreat
open Go.RowKit Go.Maps

section
variable {c : MachC} {K : Nat → Prop} {w w' : World} {val : MVals} {s : StM} {av : Value} {a : List Int}

/-- the box of an instruction, and what is kept besides -/
theorem box_facts (h : MachR c K w val s) (x : InstrM) (xv : Value) {W0 : World} (hW : W0 = w.alloc (.cells #[.int .i64 x.op, .int .i64 x.id, xv, .int .i64 x.n] 89)) :
    MachR c (fun b => K b ∨ b = w.heap.size) W0 val s ∧ KF K w W0 ∧ W0.heap[w.heap.size]? = some (.cells #[.int .i64 x.op, .int .i64 x.id, xv, .int .i64 x.n] 89 (0, 0)) := by
  subst hW
  exact ⟨h.add _, (KF.refl _).alloc h.low _, heap_alloc_new w _⟩

theorem KF.undrew {K : Nat → Prop} {w w1 : World} {n : Nat} (h : KF K (w.drewN n) w1) : KF K w w1 := ⟨h.os, h.tape, h.output, h.size, h.block⟩

/-- an element, as it lies -/
structure ElemAt (c : MachC) (w : World) (val : MVals) (s : StM) (k j : Nat) (r : List Int) (ga ca gb cp : Nat) : Prop where
  arrs : val .arrs = .slice (some ⟨ga, 0, none⟩) s.arrs.length ca
  at_ : w.cell? ⟨ga, k, none⟩ = some (.slice (some ⟨gb, 0, none⟩) r.length cp)
  own : val (.arr k) = .slice (some ⟨gb, 0, none⟩) r.length cp
  cell : w.cell? ⟨gb, j, none⟩ = some (.int .i64 (r.getD j 0))
  free : w.frozen? ⟨gb, j, none⟩ = false
  ne : ga ≠ c.m
  neb : gb ≠ c.m
  nab : gb ≠ ga
  lt : ga < w.heap.size
  ltb : gb < w.heap.size
  klt : k < s.arrs.length

theorem MachR.elemAt (h : MachR c K w val s) {k j : Nat} {r : List Int} (hk : s.arrs[k]? = some r) (hj : j < r.length) : ∃ ga ca gb cp, ElemAt c w val s k j r ga ca gb cp := by
  obtain ⟨ga, ca, A, cp, X⟩ := h.arrAt hk
  have hra : mRow s c.nv val (.arr k) = some (intRow r) := by simp [mRow, hk]
  obtain ⟨gb, cb, hv⟩ := h.slice hra (by show 0 < r.length; omega)
  have e : (intRow r).len = r.length := rfl
  have hc := h.cell hra hv (j := j) hj
  rw [e] at hv
  have e2 := X.own.symm.trans hv
  injection e2 with e3 _ e4
  subst e3 e4
  refine ⟨ga, ca, gb, cp, X.arrs, X.at_, hv, ?_, hc.2, X.ne, (h.off _ _ gb hra (by rw [hv]; rfl)).1, ?_, X.lt, h.own_lt hra (by rw [hv]; rfl), X.klt⟩
  · rw [hc.1]
    show (r.map _)[j]? = _
    rw [List.getElem?_map, List.getD_eq_getElem?_getD, List.getElem?_eq_getElem hj]
    rfl
  · intro e5
    have := h.apart (.arr k) .arrs _ _ gb hra rfl (by rw [hv]; rfl) (by rw [X.arrs, e5]; rfl)
    cases this

theorem look_arrs (op : Int) (s : StM) : (lookS op s).arrs = s.arrs := by unfold lookS; split <;> rfl

theorem in_nat {s : StM} {k : Nat} {i : Int} {r : List Int} (hk : s.arrs[k]? = some r) (h : inArr s k i = true) : ∃ j : Nat, i = j ∧ j < r.length := by
  have ha : arrM s k = r := by unfold arrM; rw [List.getD_eq_getElem?_getD, Int.toNat_natCast, hk]; rfl
  unfold inArr at h
  rw [ha] at h
  simp only [Bool.and_eq_true, decide_eq_true_eq] at h
  exact ⟨i.toNat, by omega, by omega⟩

set_option maxRecDepth 100000 in
set_option maxHeartbeats 1000000 in
theorem made_load (h : MachR c K w val s) (op id : Int) (xa : List Int) (k : Nat) (xv : Value) (i : Int) {r : List Int} (ho : op = 19 ∨ op = 21) (hk : s.arrs[k]? = some r) (hA : ArgsAt K w av [i]) :
    Calls Tryz.prog 122 #[.pointer (some ⟨c.m, 0, none⟩), boxI ⟨op, id, xa, k⟩ xv, av] w (MadePost c K w val (madeM ⟨op, id, xa, k⟩ [i] s)) := by
  have he : madeM ⟨op, id, xa, k⟩ [i] s = (if inArr s k i then (lookS op s, .inl (r.getD i.toNat 0)) else (lookS op s, .inr (missM op))) := by
    have ha : arrM s k = r := by unfold arrM; rw [List.getD_eq_getElem?_getD, Int.toNat_natCast, hk]; rfl
    unfold madeM
    rw [if_neg (by simp only; omega), if_neg (by simp only; omega), if_pos ho]
    simp only
    rw [ha]
    rfl
  rw [he]
  clear he
  have hr0 : (0 : Nat) ≤ 0 := Nat.le_refl _
  obtain ⟨W0, hW0⟩ : ∃ W0, W0 = w.alloc (.cells #[.int .i64 op, .int .i64 id, xv, .int .i64 k] 89) := ⟨_, rfl⟩
  obtain ⟨h1, hk1, hbox⟩ := box_facts h ⟨op, id, xa, k⟩ xv hW0
  obtain ⟨hlen, g, cap, rfl, hKg, hcell⟩ := hA
  have c0 : w.cell? ⟨g, 0, none⟩ = some (.int .i64 i) := hcell 0 (by simp)
  have HC0 : Hid (∀ W, KF (fun b => K b ∨ b = w.heap.size) W0 W → W.cell? ⟨g, 0, none⟩ = some (.int .i64 i) ∧ W.cell? ⟨w.heap.size, 0, none⟩ = some (.int .i64 op) ∧ W.cell? ⟨w.heap.size, 1, none⟩ = some (.int .i64 id) ∧ W.cell? ⟨w.heap.size, 2, none⟩ = some xv ∧ W.cell? ⟨w.heap.size, 3, none⟩ = some (.int .i64 k)) := hideI fun W hW => by
    have hx := hW.row hbox (.inr rfl)
    exact ⟨(World.cell?_of_block (a := ⟨g, 0, none⟩) ((hW.block g (.inl hKg)).trans (hk1.block g hKg))).trans c0, hx 0, hx 1, hx 2, hx 3⟩
  have HK1 := hideI hk1
  have HW0 := hideI hW0
  have HF : Hid (∀ n, _) := hideI fun n => element_any (h1.drewN n) hk op id xv i
  have HK := hideI hk
  have HKB := hideI (And.intro h.kB h.kM)
  obtain ⟨q0, q1, q2, q3, q4⟩ := HC0.out W0 (KF.refl _)
  clear h h1 hk1 hbox hcell c0 hKg hk hW0 hlen hr0
  simp only [boxI]
  by_cases hin : inArr s k i = true
  · rw [if_pos hin]
    replace HF : Hid (∀ n, Calls Tryz.prog 120 #[.pointer (some ⟨c.m, 0, none⟩), .agg #[.int .i64 op, .int .i64 id, xv, .int .i64 k], .int .i64 i] (W0.drewN n) fun e w' => e = .returned (.tuple #[]) ∧ MachR c (fun b => K b ∨ b = w.heap.size) w' val (lookS op s) ∧ KF (fun b => K b ∨ b = w.heap.size) W0 w') := hideI fun n => (HF.out n).mono fun e w' ⟨h1, h2, h3⟩ => by
      rcases h1 with ⟨_, h1⟩ | ⟨h1, _⟩
      · exact ⟨h1, h2, h3.undrew⟩
      · rw [hin] at h1; cases h1
    have HIN := hideI hin
    clear hin
    obtain ⟨j, rfl, hj⟩ := in_nat HK.out HIN.out
    have HJ := hideI hj
    rw [Int.toNat_natCast]
    clear hj
    rcases ho with rfl | rfl
    · go_enter Tryz.func122, Tryz.ntmps122
      go_upto_region 1 with fail
      rw [← HW0.out]
      go_upto_region 9 with fail
      go_region_held3 (fun w' => w'.cell? ⟨g, 0, none⟩ = some (.int .i64 j) ∧ w'.cell? ⟨w.heap.size, 0, none⟩ = some (.int .i64 19) ∧ w'.cell? ⟨w.heap.size, 1, none⟩ = some (.int .i64 id) ∧ w'.cell? ⟨w.heap.size, 2, none⟩ = some xv ∧ w'.cell? ⟨w.heap.size, 3, none⟩ = some (.int .i64 k)) (first | go_keep | exact HC0.out _ hf1) (first | (go_at_call 120; refine (HF.out 1).mono ?_; rintro e w1 ⟨rfl, hm1, hf1⟩))
      obtain ⟨ga, ca, gb, cp, X⟩ := hm1.elemAt (j := j) (by rw [look_arrs]; exact HK.out) HJ.out
      have c4 := hm1.cells 4
      simp only [machCells] at c4
      rw [X.arrs, look_arrs] at c4
      obtain ⟨q0, q1, q2, q3, q4⟩ := HC0.out _ hf1
      have a0 := X.at_
      have a1 := X.cell
      have a3 := X.klt
      rw [look_arrs] at a3
      have hj := HJ.out
      have HM1 := hideI hm1
      have HF1 := hideI hf1
      obtain ⟨y, hy⟩ : ∃ y, y = r.getD j 0 := ⟨_, rfl⟩
      rw [← hy] at a1
      have HY := hideI hy
      clear hy
      generalize r.length = rl at a0 hj
      generalize s.arrs.length = na at c4 a3
      clear X hm1 hf1
      go_wp2_with fail
      go_quiet (fail)
      go_wp2
      go_ret
      exact ⟨by rw [← HY.out]; rfl, (HM1.out.less (fun b hb => .inl hb) (fun b hb => HKB.out.1 b hb) HKB.out.2).drewN nq, (HK1.out.trans (HF1.out.mono (fun b hb => .inl hb))).drewN nq⟩
    · go_enter Tryz.func122, Tryz.ntmps122
      go_upto_region 1 with fail
      rw [← HW0.out]
      go_upto_region 9 with fail
      go_region_held3 (fun w' => w'.cell? ⟨g, 0, none⟩ = some (.int .i64 j) ∧ w'.cell? ⟨w.heap.size, 0, none⟩ = some (.int .i64 21) ∧ w'.cell? ⟨w.heap.size, 1, none⟩ = some (.int .i64 id) ∧ w'.cell? ⟨w.heap.size, 2, none⟩ = some xv ∧ w'.cell? ⟨w.heap.size, 3, none⟩ = some (.int .i64 k)) (first | go_keep | exact HC0.out _ hf1) (first | (go_at_call 120; refine (HF.out 1).mono ?_; rintro e w1 ⟨rfl, hm1, hf1⟩))
      obtain ⟨ga, ca, gb, cp, X⟩ := hm1.elemAt (j := j) (by rw [look_arrs]; exact HK.out) HJ.out
      have c4 := hm1.cells 4
      simp only [machCells] at c4
      rw [X.arrs, look_arrs] at c4
      obtain ⟨q0, q1, q2, q3, q4⟩ := HC0.out _ hf1
      have a0 := X.at_
      have a1 := X.cell
      have a3 := X.klt
      rw [look_arrs] at a3
      have hj := HJ.out
      have HM1 := hideI hm1
      have HF1 := hideI hf1
      obtain ⟨y, hy⟩ : ∃ y, y = r.getD j 0 := ⟨_, rfl⟩
      rw [← hy] at a1
      have HY := hideI hy
      clear hy
      generalize r.length = rl at a0 hj
      generalize s.arrs.length = na at c4 a3
      clear X hm1 hf1
      go_wp2_with fail
      go_quiet (fail)
      go_wp2
      go_ret
      exact ⟨by rw [← HY.out]; rfl, (HM1.out.less (fun b hb => .inl hb) (fun b hb => HKB.out.1 b hb) HKB.out.2).drewN nq, (HK1.out.trans (HF1.out.mono (fun b hb => .inl hb))).drewN nq⟩
  · rw [if_neg hin]
    replace HF : Hid (∀ n, Calls Tryz.prog 120 #[.pointer (some ⟨c.m, 0, none⟩), .agg #[.int .i64 op, .int .i64 id, xv, .int .i64 k], .int .i64 i] (W0.drewN n) fun e w' => e = endE (missM op) ∧ MachR c (fun b => K b ∨ b = w.heap.size) w' val (lookS op s) ∧ KF (fun b => K b ∨ b = w.heap.size) W0 w') := hideI fun n => (HF.out n).mono fun e w' ⟨h1, h2, h3⟩ => by
      rcases h1 with ⟨h1, _⟩ | ⟨_, h1⟩
      · exact absurd h1 hin
      · exact ⟨h1, h2, h3.undrew⟩
    clear hin
    rcases ho with rfl | rfl
    · go_enter Tryz.func122, Tryz.ntmps122
      go_upto_region 1 with fail
      rw [← HW0.out]
      go_upto_region 9 with fail
      refine wp_region_panics 5 (by kernel_rfl) rfl (by kernel_rfl) (by kernel_rfl) (fun c a w d v h => by cases d <;> exact h) ?_
      simp only [List.take_succ_cons, List.take_zero, List.getElem_toArray, List.getElem_cons_succ, List.getElem_cons_zero]
      repeat (refine wpPure_step (fun K hK => ?_); go_simp; refine hK _ ?_; clear hK K)
      refine wpPure_nil ?_
      rintro w' ⟨n, rfl⟩ K'
      go_simp
      refine (HF.out n).mono ?_
      rintro e w1 ⟨he, hm1, hf1⟩
      simp only [endE, endV] at he
      subst he
      exact ⟨rfl, rfl, hm1.less (fun b hb => .inl hb) (fun b hb => HKB.out.1 b hb) HKB.out.2, HK1.out.trans (hf1.mono (fun b hb => .inl hb))⟩
    · go_enter Tryz.func122, Tryz.ntmps122
      go_upto_region 1 with fail
      rw [← HW0.out]
      go_upto_region 9 with fail
      refine wp_region_panics 5 (by kernel_rfl) rfl (by kernel_rfl) (by kernel_rfl) (fun c a w d v h => by cases d <;> exact h) ?_
      simp only [List.take_succ_cons, List.take_zero, List.getElem_toArray, List.getElem_cons_succ, List.getElem_cons_zero]
      repeat (refine wpPure_step (fun K hK => ?_); go_simp; refine hK _ ?_; clear hK K)
      refine wpPure_nil ?_
      rintro w' ⟨n, rfl⟩ K'
      go_simp
      refine (HF.out n).mono ?_
      rintro e w1 ⟨he, hm1, hf1⟩
      simp only [endE, endV] at he
      subst he
      exact ⟨rfl, rfl, hm1.less (fun b hb => .inl hb) (fun b hb => HKB.out.1 b hb) HKB.out.2, HK1.out.trans (hf1.mono (fun b hb => .inl hb))⟩
end
end Go.Proofs.YtglbepdjahddmaaGreat

namespace Go.Proofs.YtglbepdjahddmaaGreat
open Go.RowKit Go.Maps

section
variable {c : MachC} {K : Nat → Prop} {w w' : World} {val : MVals} {s : StM} {av : Value} {a : List Int}

theorem made_eq_pure {op id n : Int} {xa a : List Int} {s : StM} (h1 : 3 ≤ op) (h2 : op ≤ 17) : madeM ⟨op, id, xa, n⟩ a s = if divZero op a then (s, .inr (2, 0, -1)) else (s, .inl (calcM op a)) := by
  unfold madeM
  rw [if_neg (by simp only; omega), if_neg (by simp only; omega), if_neg (by simp only; omega), if_neg (by simp only; omega)]

set_option maxRecDepth 100000 in
set_option maxHeartbeats 1000000 in
theorem made_pure (h : MachR c K w val s) (op id n : Int) (xa : List Int) (xv : Value) (h1 : 3 ≤ op) (h2 : op ≤ 17) (hl : a.length = (takesS op).length) (hA : ArgsAt K w av a) :
    Calls Tryz.prog 122 #[.pointer (some ⟨c.m, 0, none⟩), boxI ⟨op, id, xa, n⟩ xv, av] w (MadePost c K w val (madeM ⟨op, id, xa, n⟩ a s)) := by
  rw [made_eq_pure h1 h2]
  obtain ⟨W0, hW0⟩ : ∃ W0, W0 = w.alloc (.cells #[.int .i64 op, .int .i64 id, xv, .int .i64 n] 89) := ⟨_, rfl⟩
  obtain ⟨hm, hk1, hbox⟩ := box_facts h ⟨op, id, xa, n⟩ xv hW0
  have hints := (hA.kf hk1).ints (fun b hb => hm.low b (.inl hb))
  have H := hideI h
  have HK1 := hideI hk1
  have HW0 := hideI hW0
  have HM := hideI hm
  have HINT : Hid (∀ n, Ints (W0.drewN n) W0.heap.size av a) := hideI fun n => hints.keeps (fun b o _ => rfl)
  have HD := hideI (divZero_any op a (fun ho => by rw [hl, takes_two h1 (by omega)]; exact Nat.le_refl 2) W0.heap.size av W0 hints)
  have c8 := hm.cells 8
  simp only [machCells] at c8
  have q := row_cells hbox rfl
  have q0 := q 0
  have q3 := q 3
  have HB := hideI (And.intro h.kB h.kM)
  have d1 : (op == 1) = false := by rw [beq_eq_false_iff_ne]; omega
  have d2 : (op == 2) = false := by rw [beq_eq_false_iff_ne]; omega
  have d18 : (op == 18) = false := by rw [beq_eq_false_iff_ne]; omega
  have d19 : (op == 19) = false := by rw [beq_eq_false_iff_ne]; omega
  have d21 : (op == 21) = false := by rw [beq_eq_false_iff_ne]; omega
  have d24 : (op == 24) = false := by rw [beq_eq_false_iff_ne]; omega
  have HC : Hid (divZero op a = false → ∀ n, Calls Tryz.prog 48 #[.map (some c.M), .int .i64 op, av] (W0.drewN n) fun e w' => e = .returned (.int .i64 (calcM op a)) ∧ ∃ m, w' = (W0.drewN n).drewN m) := hideI fun hd n => calc_any op h1 h2 a hl hd c.M W0.heap.size av (W0.drewN n) (hm.ops.heap rfl) (HINT.out n)
  obtain ⟨hlen, g, cap, rfl, hKg, hcell⟩ := hA
  simp only [boxI]
  clear q hm hints hk1 hW0 h hbox hl hcell hlen hKg h1 h2
  cases hd : divZero op a with
  | true =>
    rw [if_pos rfl]
    rw [hd] at HD
    clear hd
    go_enter Tryz.func122, Tryz.ntmps122
    go_upto_region 1 with fail
    rw [← HW0.out]
    go_wp2_with (first
      | (go_at_call 46; refine HD.out.mono ?_; rintro e w1 ⟨rfl, rfl⟩)
      | (go_at_call 123; refine (trap_any _ _ _).mono ?_; rintro e w1 ⟨he, rfl⟩; simp only [endE, endV] at he; subst he))
    exact ⟨rfl, rfl, HM.out.less (fun b hb => .inl hb) (fun b hb => HB.out.1 b hb) HB.out.2, HK1.out⟩
  | false =>
    rw [if_neg (by decide)]
    rw [hd] at HD
    replace HC := hideI (HC.out hd)
    clear hd
    obtain ⟨y, hy⟩ : ∃ y, y = calcM op a := ⟨_, rfl⟩
    rw [← hy] at HC ⊢
    clear hy
    go_enter Tryz.func122, Tryz.ntmps122
    go_upto_region 1 with fail
    rw [← HW0.out]
    go_wp2_with (first
      | (go_at_call 46; refine HD.out.mono ?_; rintro e w1 ⟨rfl, rfl⟩))
    go_quiet (refine Calls.quiet_of (HC.out _))
    go_wp2
    go_ret
    exact ⟨rfl, (HM.out.less (fun b hb => .inl hb) (fun b hb => HB.out.1 b hb) HB.out.2).drewN nq, HK1.out.drewN nq⟩

/-- an instruction that may stand: what it takes, and where it looks -/
structure InstrOk (s : StM) (nv : Nat) (x : InstrM) : Prop where
  args : ∀ i ∈ x.args, 0 ≤ i ∧ i < nv
  len : x.args.length = (takesS x.op).length
  isop : isOp x.op = true
  arr : kindS x.op = 3 → 0 ≤ x.n ∧ x.n < s.arrs.length
  cell : kindS x.op = 4 → 0 ≤ x.n ∧ x.n < s.cells.length
  id : makesS x.op ≠ 0 → 0 ≤ x.id ∧ x.id < nv

theorem arr_at {n : Int} {s : StM} (h : 0 ≤ n ∧ n < s.arrs.length) : ∃ (k : Nat) (r : List Int), n = k ∧ s.arrs[k]? = some r := by
  obtain ⟨k, rfl⟩ := Int.eq_ofNat_of_zero_le h.1
  have hk : k < s.arrs.length := by omega
  exact ⟨k, s.arrs[k], rfl, List.getElem?_eq_getElem hk⟩

/-- made, whatever is made -/
theorem made_any (h : MachR c K w val s) (x : InstrM) (xv : Value) (hx : InstrOk s c.nv x) (hmk : makesS x.op ≠ 0) (hl : a.length = (takesS x.op).length) (hA : ArgsAt K w av a) :
    Calls Tryz.prog 122 #[.pointer (some ⟨c.m, 0, none⟩), boxI x xv, av] w (MadePost c K w val (madeM x a s)) := by
  obtain ⟨op, id, xa, n⟩ := x
  have ho := hx.isop
  simp only at ho hmk hl
  by_cases hp : 3 ≤ op ∧ op ≤ 17
  · exact made_pure h op id n xa xv hp.1 hp.2 hl hA
  · rcases op_cases op with h1 | h1 | h1
    · by_cases h12 : op = 1 ∨ op = 2
      · exact made_const h ⟨op, id, xa, n⟩ xv h12
      · omega
    · have hc : op = 18 ∨ (op = 19 ∨ op = 21) ∨ op = 24 ∨ (op = 20 ∨ op = 22 ∨ op = 23 ∨ op = 25) := by omega
      rcases hc with rfl | h2 | rfl | h2
      · obtain ⟨k, r, rfl, hk⟩ := arr_at (hx.arr (by show kindS 18 = 3; decide))
        exact made_len h id xa k xv hk
      · have hkind : kindS op = 3 := by rcases h2 with rfl | rfl <;> decide
        obtain ⟨k, r, rfl, hk⟩ := arr_at (hx.arr hkind)
        have hl1 : a.length = 1 := by rw [hl]; rcases h2 with rfl | rfl <;> decide
        obtain ⟨i, rfl⟩ : ∃ i, a = [i] := by
          match a, hl1 with
          | [i], _ => exact ⟨i, rfl⟩
        exact made_load h op id xa k xv i h2 hk hA
      · obtain ⟨h3, h4⟩ := hx.cell (by show kindS 24 = 4; decide)
        simp only at h3 h4
        obtain ⟨k, rfl⟩ := Int.eq_ofNat_of_zero_le h3
        exact made_get h id xa k xv (by omega)
      · exact absurd (by rcases h2 with rfl | rfl | rfl | rfl <;> decide) hmk
    · rw [show isOp op = false from by unfold isOp; rw [shapeS_none h1]] at ho
      cases ho
end
end Go.Proofs.YtglbepdjahddmaaGreat

namespace Go.Proofs.YtglbepdjahddmaaGreat
open Go.RowKit Go.Maps

section
variable {c : MachC} {K : Nat → Prop} {w w' : World} {val : MVals} {s : StM} {av : Value} {a : List Int}

/-- behind 'do' -/
def DoPost (c : MachC) (K : Nat → Prop) (w : World) (r : StM × Option EndM) (e : Ending) (w' : World) : Prop :=
  e = (match r.2 with | none => .returned (.tuple #[]) | some en => endE en) ∧ (∃ val', MachR c K w' val' r.1) ∧ KF K w w'

/-- the arguments so far -/
def argsRow (s : StM) (xs : List Int) (i : Nat) : List Value := ((xs.take i).map fun a => .int .i64 (s.val a)) ++ List.replicate (xs.length - i) (.int .i64 0)

theorem argsRow_zero (s : StM) (xs : List Int) : argsRow s xs 0 = List.replicate xs.length (.int .i64 0) := by simp [argsRow]

theorem argsRow_next (s : StM) (xs : List Int) {i : Nat} {a : Int} (hi : xs[i]? = some a) : (argsRow s xs i).set i (.int .i64 (s.val a)) = argsRow s xs (i + 1) := by
  have hlt := (List.getElem?_eq_some_iff.1 hi).1
  unfold argsRow
  rw [List.set_append_right _ _ (by simp; omega)]
  simp only [List.length_map, List.length_take]
  rw [show i - min i xs.length = 0 by omega, show xs.length - i = (xs.length - (i + 1)) + 1 by omega, List.replicate_succ, List.set_cons_zero, List.take_add_one, hi]
  simp

theorem argsRow_all (s : StM) (xs : List Int) : argsRow s xs xs.length = (xs.map s.val).map (Value.int .i64) := by simp [argsRow]

/-- a value, as it lies -/
theorem MachR.valAt (h : MachR c K w val s) {a : Int} (h0 : 0 ≤ a) (h1 : a < c.nv) : ∃ (gv cv j : Nat), a = j ∧ j < c.nv ∧ val .vals = .slice (some ⟨gv, 0, none⟩) c.nv cv ∧ w.cell? ⟨gv, j, none⟩ = some (.int .i64 (s.val a)) ∧ w.frozen? ⟨gv, j, none⟩ = false ∧ gv ≠ c.m ∧ gv < w.heap.size := by
  obtain ⟨j, rfl⟩ := Int.eq_ofNat_of_zero_le h0
  have hj : j < c.nv := by omega
  have hr : mRow s c.nv val .vals = some (intRow ((List.range c.nv).map fun (i : Nat) => s.val i)) := rfl
  have hl : (intRow ((List.range c.nv).map fun (i : Nat) => s.val i)).len = c.nv := by simp [intRow]
  obtain ⟨gv, cv, hv⟩ := h.slice hr (by rw [hl]; omega)
  have hc := h.cell hr hv (j := j) (by rw [hl]; exact hj)
  rw [hl] at hv
  refine ⟨gv, cv, j, rfl, hj, hv, ?_, hc.2, (h.off .vals _ gv hr (by rw [hv]; rfl)).1, h.own_lt hr (by rw [hv]; rfl)⟩
  rw [hc.1]
  simp [intRow, hj]

theorem MachR.valCell (h : MachR c K w val s) {gv cv j : Nat} (hv : val .vals = .slice (some ⟨gv, 0, none⟩) c.nv cv) (hj : j < c.nv) : w.cell? ⟨gv, j, none⟩ = some (.int .i64 (s.val j)) ∧ w.frozen? ⟨gv, j, none⟩ = false := by
  obtain ⟨gv', cv', j', e, _, hv', h1, h2, _⟩ := h.valAt (a := (j : Int)) (by omega) (by omega)
  obtain rfl : j = j' := by omega
  rw [hv] at hv'
  injection hv' with e1 e2 e3
  injection e1 with e1
  injection e1 with e1
  subst e1
  exact ⟨h1, h2⟩

theorem vals_set (f : Int → Int) (j : Nat) (v : Int) (n : Nat) : ((List.range n).map fun (i : Nat) => setV f j v i).map (Value.int .i64) = (((List.range n).map fun (i : Nat) => f i).map (Value.int .i64)).set j (.int .i64 v) := by
  apply List.ext_getElem?
  intro k
  rw [List.getElem?_set]
  by_cases hk : k < n
  · by_cases e : j = k
    · subst e
      simp [hk, setV]
    · rw [if_neg e]
      have : ¬ (k : Int) = (j : Int) := by omega
      simp [hk, setV, this]
  · by_cases e : j = k
    · subst e; simp [hk]
    · rw [if_neg e]; simp [hk]

/-- a value is set -/
theorem MachR.setVal (h : MachR c K w val s) {gv cv j : Nat} (hv : val .vals = .slice (some ⟨gv, 0, none⟩) c.nv cv) (v : Int) : MachR c K (w.setCell ⟨gv, j, none⟩ (.int .i64 v)) val { s with val := setV s.val j v } ∧ KF K w (w.setCell ⟨gv, j, none⟩ (.int .i64 v)) := by
  have hl : (intRow ((List.range c.nv).map fun (i : Nat) => s.val i)).len = c.nv := by simp [intRow]
  refine h.store (t := .vals) (d := intRow ((List.range c.nv).map fun (i : Nat) => s.val i)) (cap := cv) rfl (by rw [hl]; exact hv) ?_ (fun t ht => ?_) rfl rfl
  · show some (intRow _) = _
    unfold intRow
    congr 2
    · simp
    · exact vals_set s.val j v c.nv
  · cases t with
    | vals => exact absurd rfl ht
    | _ => rfl

theorem map_set_ints (xs : List Int) (j : Nat) (v : Int) : (xs.set j v).map (Value.int .i64) = (xs.map (Value.int .i64)).set j (.int .i64 v) := by simp [List.map_set]

/-- a cell is set -/
theorem MachR.setCells (h : MachR c K w val s) {gv cv j : Nat} (hv : val .cells = .slice (some ⟨gv, 0, none⟩) s.cells.length cv) (v : Int) : MachR c K (w.setCell ⟨gv, j, none⟩ (.int .i64 v)) val { s with cells := s.cells.set j v } ∧ KF K w (w.setCell ⟨gv, j, none⟩ (.int .i64 v)) := by
  refine h.store (t := .cells) (d := intRow s.cells) (cap := cv) rfl hv ?_ (fun t ht => ?_) rfl rfl
  · show some (intRow _) = _
    unfold intRow
    congr 2
    · simp
    · exact map_set_ints _ _ _
  · cases t with
    | cells => exact absurd rfl ht
    | _ => rfl

/-- an element is set -/
theorem MachR.setElem (h : MachR c K w val s) {k : Nat} {r : List Int} (hk : s.arrs[k]? = some r) {gb cp j : Nat} (hv : val (.arr k) = .slice (some ⟨gb, 0, none⟩) r.length cp) (v : Int) :
    MachR c K (w.setCell ⟨gb, j, none⟩ (.int .i64 v)) val { s with arrs := s.arrs.set k (r.set j v) } ∧ KF K w (w.setCell ⟨gb, j, none⟩ (.int .i64 v)) := by
  have hlt := (List.getElem?_eq_some_iff.1 hk).1
  refine h.store (t := .arr k) (d := intRow r) (cap := cp) (by simp [mRow, hk]) hv ?_ (fun t ht => ?_) rfl rfl
  · simp only [mRow]
    rw [List.getElem?_set_self hlt]
    show some (intRow _) = _
    unfold intRow
    congr 2
    · simp
    · exact map_set_ints _ _ _
  · cases t with
    | arr i =>
      simp only [mRow]
      rw [List.getElem?_set_ne (fun e => ht (by rw [e]))]
    | arrs => simp [mRow]
    | _ => rfl

theorem madeRow_zero (n : Nat) : (madeCells (Value.int .i64 0).cells n).toList = List.replicate n (.int .i64 0) := toList_madeCells_one _ n

set_option maxRecDepth 100000 in
set_option maxHeartbeats 8000000 in
theorem do_any (h : MachR c K w val s) (x : InstrM) (xv : Value) (hx : InstrOk s c.nv x) (hxv : Ints w c.B xv x.args) (hfew : x.args.length ≤ 3) (hout : s.out.length ≤ 4096) :
    Calls Tryz.prog 80 #[.pointer (some ⟨c.m, 0, none⟩), boxI x xv] w (DoPost c K w (doM x s)) := by
  obtain ⟨i0, hix, hi2⟩ : ∃ i, Tryz.prog.info? 3 = some i ∧ i.zero = some (.int .i64 0) ∧ i.size = 1 ∧ i.bytes = 8 := ⟨_, rfl, rfl, rfl, rfl⟩
  obtain ⟨hz0, hz1, hz2⟩ := hi2
  obtain ⟨W0, hW0⟩ : ∃ W0, W0 = w.alloc (.cells #[.int .i64 x.op, .int .i64 x.id, xv, .int .i64 x.n] 89) := ⟨_, rfl⟩
  obtain ⟨hm, hk1, hbox⟩ := box_facts h x xv hW0
  have HX := hideI hx
  have HOUT := hideI hout
  clear hout
  have H := hideI h
  have HK1 := hideI hk1
  have HM := hideI hm
  have HS0 : Hid (W0.heap.size = w.heap.size + 1) := by rw [hW0]; exact hideI (by simp)
  obtain ⟨P, pc, hpv, _, hpx⟩ := hxv
  subst hpv
  have HPX : Hid (∀ k, k < x.args.length → ∃ b off, P = some ⟨b, off, none⟩ ∧ b < c.B ∧ w.cell? ⟨b, off + k, none⟩ = some (.int .i64 (x.args[k]?.getD 0))) := hpx
  obtain ⟨n, hn⟩ : ∃ n, n = x.args.length := ⟨_, rfl⟩
  rw [← hn] at hW0 hbox
  have HW0 := hideI hW0
  have HBOX := hideI hbox
  have HN := hideI hn
  have HFEW : Hid (n ≤ 3) := by rw [hn]; exact hideI hfew
  have hfn := HFEW.out
  have q := row_cells hbox rfl
  have q0 := q 0
  have q1 := q 1
  have q2 := q 2
  have q3 := q 3
  simp only [boxI]
  rw [← hn]
  clear q hm hk1 hW0 h hbox hx hfew hpx hn
  go_enter Tryz.func80, Tryz.ntmps80
  go_upto_region 1 with fail
  rw [← HW0.out]
  go_wp2_with (first
    | (at_make; go_must (refine wpList_make_full _ rfl _ _ 22 rfl W0.heap.size 3 i0 (.int .i64 0) 1 Tryz.underlying22 hix hz0 hz1 .i64 .i64 _ _ n rfl rfl rfl rfl (by rw [hz2]; omega) (by unfold maxLen; omega) (Nat.le_refl _) ?_); intro w1 hown1 hg1; go_must (have HB1 : Hid (Below W0.heap.size W0 w1) := hideI ((Below.refl _ _).grown hg1 (Nat.le_refl _) (by simp)); have HO1 := hideI hown1; clear hown1 hg1 q0 q1 q2 q3; have q := row_cells HBOX.out (HB1.out.block _ (by have := HS0.out; omega)); have q0 := q 0; have q1 := q 1; have q2 := q 2; have q3 := q 3; clear q)))
  clear q0 q1 q2 q3
  go_loopw [14] (fun u wr => ∃ i : Nat, i ≤ n ∧ u = .int .i64 i ∧ Hid (Below W0.heap.size W0 wr) ∧ Hid (wr.ownsRow W0.heap.size 3 1 (.slice (some ⟨W0.heap.size, 0, none⟩) n n) n (argsRow s x.args i))) (fun u _ => n - (intOf u).toNat)
  case atStart => exact ⟨0, Nat.zero_le _, rfl, HB1, hideI (by have h1 := HO1.out; rw [Nat.mul_one, madeRow_zero] at h1; rw [argsRow_zero, ← HN.out]; exact h1)⟩
  case round =>
    obtain ⟨i, hi, rfl, HBr, HOr⟩ := hrel
    have hgl := (HOr.out.lt W0.heap.size rfl).2
    have q := row_cells HBOX.out (HBr.out.block _ (by have := HS0.out; omega))
    have q0 := q 0
    have q1 := q 1
    have q2 := q 2
    have q3 := q 3
    clear q
    by_cases hlt : i < n
    · obtain ⟨b, off, rfl, hb, d0⟩ := HPX.out i (by rw [← HN.out]; exact hlt)
      obtain ⟨a, ha⟩ : ∃ a, x.args[i]? = some a := ⟨_, List.getElem?_eq_getElem (by rw [← HN.out]; exact hlt)⟩
      rw [ha] at d0
      have hbK := H.out.kB b hb
      have d1 : wr.cell? ⟨b, off + i, none⟩ = some (.int .i64 a) := (World.cell?_of_block (a := ⟨b, off + i, none⟩) ((HBr.out.block b (by have := H.out.low b hbK; have := HS0.out; omega)).trans (HK1.out.block b hbK))).trans d0
      have hmr := HM.out.below HBr.out
      have hna := HX.out.args a (List.mem_of_getElem? ha)
      obtain ⟨gv, cv, j, rfl, hj, hv, hvc, _, hgm, hgv⟩ := hmr.valAt hna.1 hna.2
      have c11 := hmr.cells 11
      simp only [machCells] at c11
      rw [hv] at c11
      have r0 := World.ownsRow.cellAt HOr.out i (by omega)
      have r1 := World.ownsRow.frozenAt HOr.out i
      have hri : (argsRow s x.args i)[i]?.isSome = true := by
        unfold argsRow
        rw [List.getElem?_append_right (by simp; omega)]
        have := HN.out
        simp
        omega
      obtain ⟨u0, hu0⟩ := Option.isSome_iff_exists.1 hri
      rw [hu0] at r0
      have hlb := World.block_lt_of_cell? wr _ d1
      have hlm := hmr.m_lt
      have HA := hideI ha
      clear hna hmr ha hri hu0 d0 hb hbK hv
      go_wp2
      go_roundw
      case rel => exact ⟨i + 1, by omega, by go_num, hideI (HBr.out.setCell (p := ⟨W0.heap.size, i, none⟩) (Nat.le_refl _) _), hideI (by rw [← argsRow_next s x.args HA.out]; exact (World.ownsRow.stored HOr.out i _).1)⟩
      case measure => simp [intOf]; omega
    · have hin : i = n := by omega
      subst hin
      have HAR : Hid (ArgsAt (fun b => (K b ∨ b = w.heap.size) ∨ (W0.heap.size ≤ b ∧ b < wr.heap.size)) wr (.slice (some ⟨W0.heap.size, 0, none⟩) i i) (x.args.map s.val)) := hideI ⟨by rw [List.length_map, ← HN.out]; omega, W0.heap.size, i, by rw [List.length_map, ← HN.out], .inr ⟨Nat.le_refl _, hgl⟩, fun j hj => by
        have h1 := World.ownsRow.cellAt HOr.out j (by rw [List.length_map, ← HN.out] at hj; omega)
        rw [h1, HN.out, argsRow_all, List.getElem?_map, List.getElem?_eq_getElem hj]
        rfl⟩
      have HM3 := hideI (HM.out.adds HBr.out)
      have HDONE : Hid (∀ W t val', MachR c (fun b => (K b ∨ b = w.heap.size) ∨ (W0.heap.size ≤ b ∧ b < wr.heap.size)) W val' t → KF (fun b => (K b ∨ b = w.heap.size) ∨ (W0.heap.size ≤ b ∧ b < wr.heap.size)) wr W → (∃ val', MachR c K W val' t) ∧ KF K w W) := hideI fun W t val' h1 h2 =>
        ⟨⟨val', h1.less (fun b hb => .inl (.inl hb)) (fun b hb => H.out.kB b hb) H.out.kM⟩, (HK1.out.trans (KF.of_below HBr.out (fun b hb => HM.out.low b (.inl hb)))).trans (h2.mono (fun b hb => .inl (.inl hb)))⟩
      have HBX : Hid (∀ W, KF (fun b => (K b ∨ b = w.heap.size) ∨ (W0.heap.size ≤ b ∧ b < wr.heap.size)) wr W → W.cell? ⟨w.heap.size, 0, none⟩ = some (.int .i64 x.op) ∧ W.cell? ⟨w.heap.size, 1, none⟩ = some (.int .i64 x.id) ∧ W.cell? ⟨w.heap.size, 2, none⟩ = some (.slice P i pc) ∧ W.cell? ⟨w.heap.size, 3, none⟩ = some (.int .i64 x.n)) := hideI fun W hW => by
        have hq := row_cells HBOX.out ((hW.block _ (.inl (.inr rfl))).trans (HBr.out.block _ (by have := HS0.out; omega)))
        exact ⟨hq 0, hq 1, hq 2, hq 3⟩
      clear hgl HOr
      by_cases hmk : makesS x.op = 0
      · have hop := HX.out.isop
        have hcs : x.op = 20 ∨ x.op = 22 ∨ x.op = 23 ∨ x.op = 25 := by
          rcases op_cases x.op with h1 | h1 | h1
          · rcases h1 with e | e | e | e | e | e | e | e | e | e | e | e | e <;> rw [e] at hmk <;> exact absurd hmk (by decide)
          · rcases h1 with e | e | e | e | e | e | e | e | e | e | e | e <;> first | (rw [e] at hmk; exact absurd hmk (by decide)) | (rw [e]; simp)
          · rw [show isOp x.op = false from by unfold isOp; rw [shapeS_none h1]] at hop; cases hop
        clear hop hmk
        have hargs := HAR.out
        obtain ⟨_, ga, capa, hae, _, hac⟩ := hargs
        obtain ⟨e1, e2⟩ : ga = W0.heap.size ∧ capa = i := by injection hae with x1 _ x3; injection x1 with x1; injection x1 with x1; exact ⟨x1.symm, x3.symm⟩
        subst e1 e2
        have HAC := hideI hac
        have hlen := HX.out.len
        rw [← HN.out] at hlen
        clear hae hac
        rcases hcs with ho | ho | ho | ho
        · rw [ho] at q0 HBX
          obtain rfl : capa = 2 := by rw [hlen, ho]; decide
          obtain ⟨a0, a1, ha0⟩ : ∃ a0 a1, x.args.map s.val = [a0, a1] := by
            have h1 : (x.args.map s.val).length = 2 := by rw [List.length_map, ← HN.out]
            match x.args.map s.val, h1 with
            | [a0, a1], _ => exact ⟨a0, a1, rfl⟩
          have c0 := HAC.out 0 (by rw [ha0]; simp)
          have c1 := HAC.out 1 (by rw [ha0]; simp)
          rw [ha0] at c0 c1
          obtain ⟨k, r, hkn, hk⟩ := arr_at (HX.out.arr (by rw [ho]; decide))
          have hxk : x.n.toNat = k := by rw [hkn]; rfl
          have HE : Hid (doM x s = if inArr s k a0 then ({ lookS 20 s with arrs := s.arrs.set k (r.set a0.toNat a1) }, none) else (lookS 20 s, some (missM 20))) := hideI (by
            have har : arrM s x.n = r := by unfold arrM; rw [List.getD_eq_getElem?_getD, hxk, hk]; rfl
            unfold doM
            simp only
            rw [ho, if_pos (by simp), hxk, har, ha0, hkn]
            rfl)
          rw [hkn] at q3 HBX
          have HF : Hid (∀ n, _) := hideI fun n => element_any (HM3.out.drewN n) hk 20 x.id (.slice P 2 pc) a0
          have HK := hideI hk
          have HCC : Hid (∀ W, KF (fun b => (K b ∨ b = w.heap.size) ∨ (W0.heap.size ≤ b ∧ b < wr.heap.size)) wr W → W.cell? ⟨W0.heap.size, 0, none⟩ = some (.int .i64 a0) ∧ W.cell? ⟨W0.heap.size, 1, none⟩ = some (.int .i64 a1)) := hideI fun W hW => by
            have hb := hW.block W0.heap.size (.inr ⟨Nat.le_refl _, World.block_lt_of_cell? wr _ c0⟩)
            exact ⟨(World.cell?_of_block (a := ⟨W0.heap.size, 0, none⟩) hb).trans c0, (World.cell?_of_block (a := ⟨W0.heap.size, 1, none⟩) hb).trans c1⟩
          have HLT := hideI (World.block_lt_of_cell? wr _ c0)
          clear ha0 ho hlen hkn hxk hk
          by_cases hin : inArr s k a0 = true
          · rw [if_pos hin] at HE
            replace HF : Hid (∀ n, Calls Tryz.prog 120 #[.pointer (some ⟨c.m, 0, none⟩), .agg #[.int .i64 20, .int .i64 x.id, .slice P 2 pc, .int .i64 k], .int .i64 a0] (wr.drewN n) fun e w' => e = .returned (.tuple #[]) ∧ MachR c (fun b => (K b ∨ b = w.heap.size) ∨ (W0.heap.size ≤ b ∧ b < wr.heap.size)) w' val (lookS 20 s) ∧ KF (fun b => (K b ∨ b = w.heap.size) ∨ (W0.heap.size ≤ b ∧ b < wr.heap.size)) wr w') := hideI fun n => (HF.out n).mono fun e w' ⟨h1, h2, h3⟩ => by
              rcases h1 with ⟨_, h1⟩ | ⟨h1, _⟩
              · exact ⟨h1, h2, h3.undrew⟩
              · rw [hin] at h1; cases h1
            obtain ⟨j, hj0, hj⟩ := in_nat HK.out hin
            subst hj0
            have HJ := hideI hj
            rw [Int.toNat_natCast] at HE
            clear hin hj
            go_upto_region 11 with fail
            go_region_held3 (fun w' => w'.cell? ⟨W0.heap.size, 0, none⟩ = some (.int .i64 j) ∧ w'.cell? ⟨w.heap.size, 0, none⟩ = some (.int .i64 20) ∧ w'.cell? ⟨w.heap.size, 1, none⟩ = some (.int .i64 x.id) ∧ w'.cell? ⟨w.heap.size, 2, none⟩ = some (.slice P 2 pc) ∧ w'.cell? ⟨w.heap.size, 3, none⟩ = some (.int .i64 k)) (first | exact ⟨(HCC.out _ HF1.out).1, HBX.out _ HF1.out⟩ | go_keep) (first | (go_at_call 120; refine (HF.out 1).mono ?_; rintro e w4 ⟨rfl, hm1, hf1⟩; have HM1 := hideI hm1; have HF1 := hideI hf1; clear hm1 hf1))
            obtain ⟨ga, ca, gb, cp, X⟩ := HM1.out.elemAt (j := j) (by rw [look_arrs]; exact HK.out) HJ.out
            have c4 := HM1.out.cells 4
            simp only [machCells] at c4
            rw [X.arrs, look_arrs] at c4
            clear q0 q1 q2 q3 c0 c1
            obtain ⟨q0, q1, q2, q3⟩ := HBX.out _ HF1.out
            obtain ⟨c0, c1⟩ := HCC.out _ HF1.out
            have y0 := X.at_
            have y1 := X.cell
            have y2 := X.free
            have y3 := X.klt
            rw [look_arrs] at y3
            have hj := HJ.out
            have HV := hideI X.own
            have z1 : ¬ gb = c.m := X.neb
            have z1' : ¬ c.m = gb := fun e => z1 e.symm
            have z2 : ¬ gb = ga := X.nab
            have z2' : ¬ ga = gb := fun e => z2 e.symm
            have z3 : ¬ w.heap.size = gb := fun e => (HM1.out.off (.arr k) (intRow r) gb (by simp [mRow, look_arrs, HK.out]) (by rw [HV.out]; rfl)).2 (.inl (.inr e.symm))
            have z3' : ¬ gb = w.heap.size := fun e => z3 e.symm
            have z4 : ¬ W0.heap.size = gb := fun e => (HM1.out.off (.arr k) (intRow r) gb (by simp [mRow, look_arrs, HK.out]) (by rw [HV.out]; rfl)).2 (.inr ⟨by omega, by rw [← e]; exact HLT.out⟩)
            have z4' : ¬ gb = W0.heap.size := fun e => z4 e.symm
            have HRL : Hid (r.length = r.length) := rfl
            obtain ⟨rl, hrl⟩ : ∃ rl, rl = r.length := ⟨_, rfl⟩
            obtain ⟨na, hna⟩ : ∃ na, na = s.arrs.length := ⟨_, rfl⟩
            rw [← hrl] at y0 hj
            rw [← hna] at c4 y3
            clear X hrl hna
            go_wp2
            go_region_held3 (fun w' => w'.cell? ⟨W0.heap.size, 0, none⟩ = some (.int .i64 j) ∧ w'.cell? ⟨W0.heap.size, 1, none⟩ = some (.int .i64 a1) ∧ w'.cell? ⟨w.heap.size, 3, none⟩ = some (.int .i64 k) ∧ w'.cell? ⟨c.m, 4, none⟩ = some (.slice (some ⟨ga, 0, none⟩) na ca) ∧ w'.cell? ⟨ga, k, none⟩ = some (.slice (some ⟨gb, 0, none⟩) rl cp)) (first | go_keep) (first | fail)
            go_wp2
            go_end0
            have h5 := HM1.out.setElem (j := j) (by rw [look_arrs]; exact HK.out) HV.out a1
            rw [look_arrs] at h5
            exact ⟨by rw [HE.out], HDONE.out _ _ _ (by rw [HE.out]; exact h5.1.drewN 1) (HF1.out.trans (h5.2.drewN 1))⟩
          · rw [if_neg hin] at HE
            replace HF : Hid (∀ n, Calls Tryz.prog 120 #[.pointer (some ⟨c.m, 0, none⟩), .agg #[.int .i64 20, .int .i64 x.id, .slice P 2 pc, .int .i64 k], .int .i64 a0] (wr.drewN n) fun e w' => e = endE (missM 20) ∧ MachR c (fun b => (K b ∨ b = w.heap.size) ∨ (W0.heap.size ≤ b ∧ b < wr.heap.size)) w' val (lookS 20 s) ∧ KF (fun b => (K b ∨ b = w.heap.size) ∨ (W0.heap.size ≤ b ∧ b < wr.heap.size)) wr w') := hideI fun n => (HF.out n).mono fun e w' ⟨h1, h2, h3⟩ => by
              rcases h1 with ⟨h1, _⟩ | ⟨_, h1⟩
              · exact absurd h1 hin
              · exact ⟨h1, h2, h3.undrew⟩
            clear hin
            go_upto_region 11 with fail
            refine wp_region_panics 5 (by kernel_rfl) rfl (by kernel_rfl) (by kernel_rfl) (fun c a w d v h => by cases d <;> exact h) ?_
            simp only [List.take_succ_cons, List.take_zero, List.getElem_toArray, List.getElem_cons_succ, List.getElem_cons_zero]
            repeat (refine wpPure_step (fun K hK => ?_); go_simp; refine hK _ ?_; clear hK K)
            refine wpPure_nil ?_
            rintro w' ⟨n, rfl⟩ K'
            go_simp
            refine (HF.out n).mono ?_
            rintro e w4 ⟨he, hm1, hf1⟩
            simp only [endE, endV] at he
            subst he
            exact ⟨rfl, by rw [HE.out]; rfl, HDONE.out _ _ _ (by rw [HE.out]; exact hm1) hf1⟩
        · rw [ho] at q0 HBX
          obtain rfl : capa = 2 := by rw [hlen, ho]; decide
          obtain ⟨a0, a1, ha0⟩ : ∃ a0 a1, x.args.map s.val = [a0, a1] := by
            have h1 : (x.args.map s.val).length = 2 := by rw [List.length_map, ← HN.out]
            match x.args.map s.val, h1 with
            | [a0, a1], _ => exact ⟨a0, a1, rfl⟩
          have c0 := HAC.out 0 (by rw [ha0]; simp)
          have c1 := HAC.out 1 (by rw [ha0]; simp)
          rw [ha0] at c0 c1
          obtain ⟨k, r, hkn, hk⟩ := arr_at (HX.out.arr (by rw [ho]; decide))
          have hxk : x.n.toNat = k := by rw [hkn]; rfl
          have HE : Hid (doM x s = if inArr s k a0 then ({ lookS 22 s with arrs := s.arrs.set k (r.set a0.toNat a1) }, none) else (lookS 22 s, some (missM 22))) := hideI (by
            have har : arrM s x.n = r := by unfold arrM; rw [List.getD_eq_getElem?_getD, hxk, hk]; rfl
            unfold doM
            simp only
            rw [ho, if_pos (by simp), hxk, har, ha0, hkn]
            rfl)
          rw [hkn] at q3 HBX
          have HF : Hid (∀ n, _) := hideI fun n => element_any (HM3.out.drewN n) hk 22 x.id (.slice P 2 pc) a0
          have HK := hideI hk
          have HCC : Hid (∀ W, KF (fun b => (K b ∨ b = w.heap.size) ∨ (W0.heap.size ≤ b ∧ b < wr.heap.size)) wr W → W.cell? ⟨W0.heap.size, 0, none⟩ = some (.int .i64 a0) ∧ W.cell? ⟨W0.heap.size, 1, none⟩ = some (.int .i64 a1)) := hideI fun W hW => by
            have hb := hW.block W0.heap.size (.inr ⟨Nat.le_refl _, World.block_lt_of_cell? wr _ c0⟩)
            exact ⟨(World.cell?_of_block (a := ⟨W0.heap.size, 0, none⟩) hb).trans c0, (World.cell?_of_block (a := ⟨W0.heap.size, 1, none⟩) hb).trans c1⟩
          have HLT := hideI (World.block_lt_of_cell? wr _ c0)
          clear ha0 ho hlen hkn hxk hk
          by_cases hin : inArr s k a0 = true
          · rw [if_pos hin] at HE
            replace HF : Hid (∀ n, Calls Tryz.prog 120 #[.pointer (some ⟨c.m, 0, none⟩), .agg #[.int .i64 22, .int .i64 x.id, .slice P 2 pc, .int .i64 k], .int .i64 a0] (wr.drewN n) fun e w' => e = .returned (.tuple #[]) ∧ MachR c (fun b => (K b ∨ b = w.heap.size) ∨ (W0.heap.size ≤ b ∧ b < wr.heap.size)) w' val (lookS 22 s) ∧ KF (fun b => (K b ∨ b = w.heap.size) ∨ (W0.heap.size ≤ b ∧ b < wr.heap.size)) wr w') := hideI fun n => (HF.out n).mono fun e w' ⟨h1, h2, h3⟩ => by
              rcases h1 with ⟨_, h1⟩ | ⟨h1, _⟩
              · exact ⟨h1, h2, h3.undrew⟩
              · rw [hin] at h1; cases h1
            obtain ⟨j, hj0, hj⟩ := in_nat HK.out hin
            subst hj0
            have HJ := hideI hj
            rw [Int.toNat_natCast] at HE
            clear hin hj
            go_upto_region 11 with fail
            go_region_held3 (fun w' => w'.cell? ⟨W0.heap.size, 0, none⟩ = some (.int .i64 j) ∧ w'.cell? ⟨w.heap.size, 0, none⟩ = some (.int .i64 22) ∧ w'.cell? ⟨w.heap.size, 1, none⟩ = some (.int .i64 x.id) ∧ w'.cell? ⟨w.heap.size, 2, none⟩ = some (.slice P 2 pc) ∧ w'.cell? ⟨w.heap.size, 3, none⟩ = some (.int .i64 k)) (first | exact ⟨(HCC.out _ HF1.out).1, HBX.out _ HF1.out⟩ | go_keep) (first | (go_at_call 120; refine (HF.out 1).mono ?_; rintro e w4 ⟨rfl, hm1, hf1⟩; have HM1 := hideI hm1; have HF1 := hideI hf1; clear hm1 hf1))
            obtain ⟨ga, ca, gb, cp, X⟩ := HM1.out.elemAt (j := j) (by rw [look_arrs]; exact HK.out) HJ.out
            have c4 := HM1.out.cells 4
            simp only [machCells] at c4
            rw [X.arrs, look_arrs] at c4
            clear q0 q1 q2 q3 c0 c1
            obtain ⟨q0, q1, q2, q3⟩ := HBX.out _ HF1.out
            obtain ⟨c0, c1⟩ := HCC.out _ HF1.out
            have y0 := X.at_
            have y1 := X.cell
            have y2 := X.free
            have y3 := X.klt
            rw [look_arrs] at y3
            have hj := HJ.out
            have HV := hideI X.own
            have z1 : ¬ gb = c.m := X.neb
            have z1' : ¬ c.m = gb := fun e => z1 e.symm
            have z2 : ¬ gb = ga := X.nab
            have z2' : ¬ ga = gb := fun e => z2 e.symm
            have z3 : ¬ w.heap.size = gb := fun e => (HM1.out.off (.arr k) (intRow r) gb (by simp [mRow, look_arrs, HK.out]) (by rw [HV.out]; rfl)).2 (.inl (.inr e.symm))
            have z3' : ¬ gb = w.heap.size := fun e => z3 e.symm
            have z4 : ¬ W0.heap.size = gb := fun e => (HM1.out.off (.arr k) (intRow r) gb (by simp [mRow, look_arrs, HK.out]) (by rw [HV.out]; rfl)).2 (.inr ⟨by omega, by rw [← e]; exact HLT.out⟩)
            have z4' : ¬ gb = W0.heap.size := fun e => z4 e.symm
            have HRL : Hid (r.length = r.length) := rfl
            obtain ⟨rl, hrl⟩ : ∃ rl, rl = r.length := ⟨_, rfl⟩
            obtain ⟨na, hna⟩ : ∃ na, na = s.arrs.length := ⟨_, rfl⟩
            rw [← hrl] at y0 hj
            rw [← hna] at c4 y3
            clear X hrl hna
            go_wp2
            go_region_held3 (fun w' => w'.cell? ⟨W0.heap.size, 0, none⟩ = some (.int .i64 j) ∧ w'.cell? ⟨W0.heap.size, 1, none⟩ = some (.int .i64 a1) ∧ w'.cell? ⟨w.heap.size, 3, none⟩ = some (.int .i64 k) ∧ w'.cell? ⟨c.m, 4, none⟩ = some (.slice (some ⟨ga, 0, none⟩) na ca) ∧ w'.cell? ⟨ga, k, none⟩ = some (.slice (some ⟨gb, 0, none⟩) rl cp)) (first | go_keep) (first | fail)
            go_wp2
            go_end0
            have h5 := HM1.out.setElem (j := j) (by rw [look_arrs]; exact HK.out) HV.out a1
            rw [look_arrs] at h5
            exact ⟨by rw [HE.out], HDONE.out _ _ _ (by rw [HE.out]; exact h5.1.drewN 1) (HF1.out.trans (h5.2.drewN 1))⟩
          · rw [if_neg hin] at HE
            replace HF : Hid (∀ n, Calls Tryz.prog 120 #[.pointer (some ⟨c.m, 0, none⟩), .agg #[.int .i64 22, .int .i64 x.id, .slice P 2 pc, .int .i64 k], .int .i64 a0] (wr.drewN n) fun e w' => e = endE (missM 22) ∧ MachR c (fun b => (K b ∨ b = w.heap.size) ∨ (W0.heap.size ≤ b ∧ b < wr.heap.size)) w' val (lookS 22 s) ∧ KF (fun b => (K b ∨ b = w.heap.size) ∨ (W0.heap.size ≤ b ∧ b < wr.heap.size)) wr w') := hideI fun n => (HF.out n).mono fun e w' ⟨h1, h2, h3⟩ => by
              rcases h1 with ⟨h1, _⟩ | ⟨_, h1⟩
              · exact absurd h1 hin
              · exact ⟨h1, h2, h3.undrew⟩
            clear hin
            go_upto_region 11 with fail
            refine wp_region_panics 5 (by kernel_rfl) rfl (by kernel_rfl) (by kernel_rfl) (fun c a w d v h => by cases d <;> exact h) ?_
            simp only [List.take_succ_cons, List.take_zero, List.getElem_toArray, List.getElem_cons_succ, List.getElem_cons_zero]
            repeat (refine wpPure_step (fun K hK => ?_); go_simp; refine hK _ ?_; clear hK K)
            refine wpPure_nil ?_
            rintro w' ⟨n, rfl⟩ K'
            go_simp
            refine (HF.out n).mono ?_
            rintro e w4 ⟨he, hm1, hf1⟩
            simp only [endE, endV] at he
            subst he
            exact ⟨rfl, by rw [HE.out]; rfl, HDONE.out _ _ _ (by rw [HE.out]; exact hm1) hf1⟩
        · rw [ho] at q0
          obtain rfl : capa = 1 := by rw [hlen, ho]; decide
          obtain ⟨a0, ha0⟩ : ∃ a0, x.args.map s.val = [a0] := by
            have h1 : (x.args.map s.val).length = 1 := by rw [List.length_map, ← HN.out]
            match x.args.map s.val, h1 with
            | [a0], _ => exact ⟨a0, rfl⟩
          have c0 := HAC.out 0 (by rw [ha0]; simp)
          rw [ha0] at c0
          have HA0 := hideI ha0
          have HO := hideI ho
          clear ha0 ho hlen
          by_cases hful : s.out.length = 4096
          · have HT := hideI (tell_full HM3.out hful a0)
            have HE : Hid (doM x s = (s, some (4, 0, 0))) := hideI (by
              unfold doM
              simp only
              rw [HO.out, if_neg (by decide), if_pos rfl, if_pos hful])
            clear hful
            go_wp2_with (first | (go_at_call 121; refine HT.out.mono ?_; rintro e w3 ⟨he, hm1, hf1⟩; simp only [endE, endV] at he; subst he))
            exact ⟨rfl, by rw [HE.out]; rfl, HDONE.out _ _ _ (by rw [HE.out]; exact hm1) hf1⟩
          · have HT := hideI (tell_go HM3.out (by have := HOUT.out; omega) a0)
            have HE : Hid (doM x s = ({ s with out := s.out ++ [a0] }, none)) := hideI (by
              unfold doM
              simp only
              rw [HO.out, if_neg (by decide), if_pos rfl, if_neg hful, HA0.out]
              rfl)
            clear hful
            go_wp2_with (first | (go_at_call 121; refine HT.out.mono ?_; rintro e w3 ⟨rfl, val1, hm1, hf1⟩))
            go_end0
            exact ⟨by rw [HE.out], HDONE.out _ _ _ (by rw [HE.out]; exact hm1) hf1⟩
        · rw [ho] at q0
          obtain rfl : capa = 1 := by rw [hlen, ho]; decide
          obtain ⟨a0, ha0⟩ : ∃ a0, x.args.map s.val = [a0] := by
            have h1 : (x.args.map s.val).length = 1 := by rw [List.length_map, ← HN.out]
            match x.args.map s.val, h1 with
            | [a0], _ => exact ⟨a0, rfl⟩
          have c0 := HAC.out 0 (by rw [ha0]; simp)
          rw [ha0] at c0
          obtain ⟨hn0, hn1⟩ := HX.out.cell (by rw [ho]; decide)
          obtain ⟨j, hj⟩ := Int.eq_ofNat_of_zero_le hn0
          rw [hj] at hn1 q3
          have hjn : j < s.cells.length := by omega
          have hrr : mRow s c.nv val .cells = some (intRow s.cells) := rfl
          obtain ⟨gv, cv, hv⟩ := HM3.out.slice hrr (by show 0 < s.cells.length; omega)
          have hrc := HM3.out.cell hrr hv (j := j) hjn
          obtain ⟨x0, x1⟩ := hrc
          have e2 : (intRow s.cells).cells[j]? = some (.int .i64 (s.cells.getD j 0)) := by
            show (s.cells.map _)[j]? = _
            rw [List.getElem?_map, List.getD_eq_getElem?_getD, List.getElem?_eq_getElem hjn]
            rfl
          rw [e2] at x0
          have hv : val .cells = .slice (some ⟨gv, 0, none⟩) s.cells.length cv := hv
          have c12 := HM3.out.cells 12
          simp only [machCells] at c12
          rw [hv] at c12
          have HV := hideI hv
          have HE : Hid (doM x s = ({ s with cells := s.cells.set j a0 }, none)) := hideI (by
            unfold doM
            simp only
            rw [ho, if_neg (by decide), if_neg (by decide), if_pos rfl, hj, ha0]
            rfl)
          have hgm : ¬ c.m = gv := fun e => (HM3.out.off .cells _ gv rfl (by rw [HV.out]; rfl)).1 e.symm
          have hgb : ¬ w.heap.size = gv := fun e => (HM3.out.off .cells _ gv rfl (by rw [HV.out]; rfl)).2 (.inl (.inr e.symm))
          have hga : ¬ W0.heap.size = gv := fun e => (HM3.out.off .cells _ gv rfl (by rw [HV.out]; rfl)).2 (.inr ⟨by omega, by rw [← e]; exact World.block_lt_of_cell? wr _ c0⟩)
          have hgm' : ¬ gv = c.m := fun e => hgm e.symm
          have hgb' : ¬ gv = w.heap.size := fun e => hgb e.symm
          have hga' : ¬ gv = W0.heap.size := fun e => hga e.symm
          generalize s.cells.length = nc at c12 hjn
          clear ha0 ho hlen hn0 hn1 hj hrr e2 hv
          go_wp2
          go_region_held3 (fun w' => w'.cell? ⟨c.m, 12, none⟩ = some (.slice (some ⟨gv, 0, none⟩) nc cv) ∧ w'.cell? ⟨w.heap.size, 3, none⟩ = some (.int .i64 j) ∧ w'.cell? ⟨W0.heap.size, 0, none⟩ = some (.int .i64 a0)) (first | go_keep) (first | fail)
          go_wp2
          go_end0
          have h5 := HM3.out.setCells HV.out (j := j) a0
          exact ⟨by rw [HE.out], HDONE.out _ _ _ (by rw [HE.out]; exact h5.1.drewN 1) (h5.2.drewN 1)⟩
      · have HMK := hideI hmk
        have hop := HX.out.isop
        have hneq : x.op ≠ 20 ∧ x.op ≠ 22 ∧ x.op ≠ 23 ∧ x.op ≠ 25 := ⟨fun e => hmk (by rw [e]; decide), fun e => hmk (by rw [e]; decide), fun e => hmk (by rw [e]; decide), fun e => hmk (by rw [e]; decide)⟩
        have d20 : (x.op == 20) = false := by simpa using hneq.1
        have d22 : (x.op == 22) = false := by simpa using hneq.2.1
        have d23 : (x.op == 23) = false := by simpa using hneq.2.2.1
        have d25 : (x.op == 25) = false := by simpa using hneq.2.2.2
        have HE : Hid (doM x s = match madeM x (x.args.map s.val) s with | (s1, .inl v) => ({ s1 with val := setV s1.val x.id v }, none) | (s1, .inr e) => (s1, some e)) := hideI (by
          unfold doM
          simp only
          rw [if_neg (by rintro (e | e); exact hneq.1 e; exact hneq.2.1 e), if_neg hneq.2.2.1, if_neg hneq.2.2.2]
          rcases madeM x (x.args.map s.val) s with ⟨s1, v | e⟩ <;> rfl)
        have hid := HX.out.id hmk
        have HMADE : Hid (∀ n, Calls Tryz.prog 122 #[.pointer (some ⟨c.m, 0, none⟩), boxI x (.slice P i pc), .slice (some ⟨W0.heap.size, 0, none⟩) i i] (wr.drewN n) (MadePost c _ (wr.drewN n) val (madeM x (x.args.map s.val) s))) := hideI fun n =>
          made_any (HM3.out.drewN n) x (.slice P i pc) HX.out HMK.out (by rw [List.length_map]; exact HX.out.len) (HAR.out.kf (KF.drewN (KF.refl _) n))
        clear hop hneq hmk
        cases hr : madeM x (x.args.map s.val) s with
        | mk s1 r =>
          rw [hr] at HMADE HE
          cases r with
          | inl v =>
            clear hr
            obtain ⟨gv, cv, j, hj, hjn, hv, hrc, hrf, hgm, hgv⟩ := HM3.out.valAt hid.1 hid.2
            have c11 := HM3.out.cells 11
            simp only [machCells] at c11
            rw [hv] at c11
            unfold boxI at HMADE
            rw [hj] at q1 HBX HMADE
            have HV := hideI hv
            have HJ := hideI hj
            have hgb : gv ≠ w.heap.size := fun e => (HM3.out.off .vals _ gv rfl (by rw [HV.out]; rfl)).2 (.inl (.inr e))
            have hgb' : ¬ w.heap.size = gv := fun e => hgb e.symm
            have hgm' : ¬ c.m = gv := fun e => hgm e.symm
            have hlm := HM3.out.m_lt
            have HSS : Hid (∀ W t, MachR c (fun b => (K b ∨ b = w.heap.size) ∨ (W0.heap.size ≤ b ∧ b < wr.heap.size)) W val t → KF (fun b => (K b ∨ b = w.heap.size) ∨ (W0.heap.size ≤ b ∧ b < wr.heap.size)) wr W → W.cell? ⟨c.m, 11, none⟩ = some (.slice (some ⟨gv, 0, none⟩) c.nv cv) ∧ W.cell? ⟨w.heap.size, 0, none⟩ = some (.int .i64 x.op) ∧ W.cell? ⟨w.heap.size, 1, none⟩ = some (.int .i64 j) ∧ W.cell? ⟨w.heap.size, 2, none⟩ = some (.slice P i pc) ∧ W.cell? ⟨w.heap.size, 3, none⟩ = some (.int .i64 x.n)) := hideI fun W t h1 h2 => ⟨(h1.cells 11).trans (by simp [machCells, HV.out]), HBX.out W h2⟩
            clear hid hj hv hrc hrf
            go_wp2
            go_region_held3 (fun w' => w'.cell? ⟨c.m, 11, none⟩ = some (.slice (some ⟨gv, 0, none⟩) c.nv cv) ∧ w'.cell? ⟨w.heap.size, 0, none⟩ = some (.int .i64 x.op) ∧ w'.cell? ⟨w.heap.size, 1, none⟩ = some (.int .i64 j) ∧ w'.cell? ⟨w.heap.size, 2, none⟩ = some (.slice P i pc) ∧ w'.cell? ⟨w.heap.size, 3, none⟩ = some (.int .i64 x.n)) (first | exact HC1 | go_keep)
              (first | (go_at_call 122; refine (HMADE.out 1).mono ?_; rintro e w1 ⟨he, hm1, hf1⟩; obtain rfl : e = .returned (.int .i64 v) := he; have HM4 := hideI hm1; have HF4 := hideI hf1.undrew; obtain ⟨x0, x1⟩ := hm1.valCell HV.out hjn; have HC1 := HSS.out _ _ HM4.out HF4.out; clear hm1 hf1))
            go_wp2
            go_end0
            have h5 := HM4.out.setVal HV.out (j := j) v
            exact ⟨by rw [HE.out], HDONE.out _ _ _ (by rw [HE.out, HJ.out]; exact h5.1) (HF4.out.trans h5.2)⟩
          | inr en =>
            clear hr
            obtain ⟨gv, cv, j, hj, _, hv, _⟩ := HM3.out.valAt hid.1 hid.2
            have c11 := HM3.out.cells 11
            simp only [machCells] at c11
            rw [hv] at c11
            clear hid hj hv
            go_wp2
            refine wp_region_panics 9 (by kernel_rfl) rfl (by kernel_rfl) (by kernel_rfl) (fun c a w d v h => by cases d <;> exact h) ?_
            simp only [List.take_succ_cons, List.take_zero, List.getElem_toArray, List.getElem_cons_succ, List.getElem_cons_zero]
            repeat (refine wpPure_step (fun K hK => ?_); go_simp; refine hK _ ?_; clear hK K)
            refine wpPure_nil ?_
            rintro w' ⟨n, rfl⟩ K'
            go_simp
            refine (HMADE.out n).mono ?_
            rintro e w1 ⟨he, hm1, hf1⟩
            simp only [endE, endV] at he
            subst he
            exact ⟨rfl, by rw [HE.out]; rfl, HDONE.out _ _ _ (by rw [HE.out]; exact hm1) hf1.undrew⟩
end
end Go.Proofs.YtglbepdjahddmaaGreat

namespace Go.Proofs.YtglbepdjahddmaaGreat
open Go.RowKit Go.Maps

section
variable {c : MachC} {K : Nat → Prop} {w w' : World} {val : MVals} {s : StM}

/-- a visit counts -/
theorem MachR.setVis (h : MachR c K w val s) {gv cv j : Nat} (hv : val .vis = .slice (some ⟨gv, 0, none⟩) s.vis.length cv) (v : Int) : MachR c K (w.setCell ⟨gv, j, none⟩ (.int .i64 v)) val { s with vis := s.vis.set j v } ∧ KF K w (w.setCell ⟨gv, j, none⟩ (.int .i64 v)) := by
  refine h.store (t := .vis) (d := intRow s.vis) (cap := cv) rfl hv ?_ (fun t ht => ?_) rfl rfl
  · show some (intRow _) = _
    unfold intRow
    congr 2
    · simp
    · exact map_set_ints _ _ _
  · cases t with
    | vis => exact absurd rfl ht
    | _ => rfl

/-- a phi that may stand, come to from 'fr' -/
structure PhiOk (nv : Nat) (fr : Int) (p : PhiM) : Prop where
  mem : fr ∈ p.fr
  len : p.vals.length = p.fr.length
  vals : ∀ v ∈ p.vals, 0 ≤ v ∧ v < nv
  id : 0 ≤ p.id ∧ p.id < nv

theorem idxIs_of {xs : List Int} {x r : Int} (h : IdxIs xs x r) (hm : x ∈ xs) : r = (xs.idxOf x : Nat) ∧ xs.idxOf x < xs.length := by
  rcases h with ⟨_, h⟩ | ⟨k, rfl, hk, hn⟩
  · exact absurd hm h
  · have hlt := (List.getElem?_eq_some_iff.1 hk).1
    have : xs.idxOf x = k := by
      have h1 : xs = xs.take k ++ x :: xs.drop (k + 1) := by
        have := List.getElem_cons_drop hlt
        rw [(List.getElem?_eq_some_iff.1 hk).2] at this
        rw [this, List.take_append_drop]
      rw [h1, List.idxOf_append, if_neg hn, List.idxOf_cons_self]
      simp
      omega
    rw [this]
    exact ⟨rfl, hlt⟩

/-- what is got so far -/
def gotRow (g : Int → Int) (fr : Int) (ps : List PhiM) (i : Nat) : List Value := ((ps.take i).map fun p => .int .i64 (phiGets g fr p)) ++ List.replicate (ps.length - i) (.int .i64 0)

theorem gotRow_zero (g : Int → Int) (fr : Int) (ps : List PhiM) : gotRow g fr ps 0 = List.replicate ps.length (.int .i64 0) := by simp [gotRow]

theorem gotRow_next (g : Int → Int) (fr : Int) (ps : List PhiM) {i : Nat} {p : PhiM} (hi : ps[i]? = some p) : (gotRow g fr ps i).set i (.int .i64 (phiGets g fr p)) = gotRow g fr ps (i + 1) := by
  have hlt := (List.getElem?_eq_some_iff.1 hi).1
  unfold gotRow
  rw [List.set_append_right _ _ (by simp; omega)]
  simp only [List.length_map, List.length_take]
  rw [show i - min i ps.length = 0 by omega, show ps.length - i = (ps.length - (i + 1)) + 1 by omega, List.replicate_succ, List.set_cons_zero, List.take_add_one, hi]
  simp

theorem gotRow_some (g : Int → Int) (fr : Int) (ps : List PhiM) {i j : Nat} (hj : j < ps.length) : ∃ u, (gotRow g fr ps i)[j]? = some u := by
  have : j < (gotRow g fr ps i).length := by unfold gotRow; simp; omega
  exact ⟨_, List.getElem?_eq_getElem this⟩

theorem gotRow_all (g : Int → Int) (fr : Int) (ps : List PhiM) {j : Nat} {p : PhiM} (hj : ps[j]? = some p) : (gotRow g fr ps ps.length)[j]? = some (.int .i64 (phiGets g fr p)) := by
  simp [gotRow, hj]

theorem setAll_append (g : Int → Int) (l : List (Int × Int)) (p : Int × Int) : setAll g (l ++ [p]) = setV (setAll g l) p.1 p.2 := by
  induction l generalizing g with
  | nil => rfl
  | cons a l ih => exact ih _

theorem phi_cells {B : Nat} {pv : Value} {ps : List PhiM} (h : PhisR w B pv ps) : ∃ A pc, pv = .slice A ps.length pc ∧ ps.length ≤ 140737488351232 ∧ ∀ k p, ps[k]? = some p → ∃ b off FA fc VA vc, A = some ⟨b, off, none⟩ ∧ b < B ∧
    w.cell? ⟨b, off + k * 4, none⟩ = some (.int .i64 p.id) ∧ w.cell? ⟨b, off + k * 4 + 1, none⟩ = some (.int .i64 p.typ) ∧ w.cell? ⟨b, off + k * 4 + 2, none⟩ = some (.slice FA p.fr.length fc) ∧ w.cell? ⟨b, off + k * 4 + 3, none⟩ = some (.slice VA p.vals.length vc) ∧
    Ints w B (.slice FA p.fr.length fc) p.fr ∧ Ints w B (.slice VA p.vals.length vc) p.vals := by
  obtain ⟨A, pc, rfl, hl, hat⟩ := h
  refine ⟨A, pc, rfl, hl, fun k p hp => ?_⟩
  obtain ⟨b, off, fv, vv, e, hb, h0, h1, h2, h3, hf, hv, _, _⟩ := hat k p hp
  have hf' := hf
  have hv' := hv
  obtain ⟨FA, fc, rfl, _⟩ := hf
  obtain ⟨VA, vc, rfl, _⟩ := hv
  exact ⟨b, off, FA, fc, VA, vc, e, hb, h0, h1, h2, h3, hf', hv'⟩

set_option maxRecDepth 100000 in
set_option maxHeartbeats 8000000 in
theorem arrive_any (h : MachR c K w val s) (b : Nat) (fr : Int) (q : BlockM) (hq : c.f.blocks[b]? = some q) (hvis : b < s.vis.length) (hp : ∀ p ∈ q.phis, PhiOk c.nv fr p) (hfew : q.phis.length ≤ 4096) :
    Calls Tryz.prog 78 #[.pointer (some ⟨c.m, 0, none⟩), .int .i64 b, .int .i64 fr] w fun e w' => e = .returned (.tuple #[]) ∧ MachR c K w' val (arriveM c.f b fr s) ∧ KF K w w' := by
  obtain ⟨i0, hix, hi2⟩ : ∃ i, Tryz.prog.info? 3 = some i ∧ i.zero = some (.int .i64 0) ∧ i.size = 1 ∧ i.bytes = 8 := ⟨_, rfl, rfl, rfl, rfl⟩
  obtain ⟨hz0, hz1, hz2⟩ := hi2
  have H := hideI h
  have HP := hideI hp
  obtain ⟨A, cc, hbv, _, hbat⟩ := h.blks
  obtain ⟨bb, boff, pv, cv, tv, rfl, hbb, d0, _, _, _, _, _, hphi, _⟩ := hbat b q hq
  obtain ⟨PA, pc, rfl, hpl, hpat⟩ := phi_cells hphi
  have hbn : b < c.f.blocks.length := (List.getElem?_eq_some_iff.1 hq).1
  have HQ : Hid (blkM c.f b = q) := hideI (by unfold blkM; rw [List.getD_eq_getElem?_getD, hq]; rfl)
  have HPAT := hideI hpat
  have hrr : mRow s c.nv val .vis = some (intRow s.vis) := rfl
  obtain ⟨gi, ci, hv⟩ := h.slice hrr (by show 0 < s.vis.length; omega)
  have hrc := h.cell hrr hv (j := b) hvis
  obtain ⟨x0, x1⟩ := hrc
  have e2 : (intRow s.vis).cells[b]? = some (.int .i64 (s.vis.getD b 0)) := by
    show (s.vis.map _)[b]? = _
    rw [List.getElem?_map, List.getD_eq_getElem?_getD, List.getElem?_eq_getElem hvis]
    rfl
  rw [e2] at x0
  have hv : val .vis = .slice (some ⟨gi, 0, none⟩) s.vis.length ci := hv
  have c7 := h.cells 7
  simp only [machCells] at c7
  rw [hv] at c7
  have HV := hideI hv
  obtain ⟨nvis, hnv⟩ : ∃ nvis, nvis = s.vis.length := ⟨_, rfl⟩
  rw [← hnv] at c7 hvis
  obtain ⟨v0, hv0⟩ : ∃ v0, v0 = s.vis.getD b 0 := ⟨_, rfl⟩
  rw [← hv0] at x0
  have HV0 := hideI hv0
  obtain ⟨W1, hW1⟩ : ∃ W1, W1 = w.setCell ⟨gi, b, none⟩ (.int .i64 (wrap64 (v0 + 1))) := ⟨_, rfl⟩
  obtain ⟨s1, hs1⟩ : ∃ s1 : StM, s1 = { s with vis := s.vis.set b (wrap64 (v0 + 1)) } := ⟨_, rfl⟩
  have hm1 : MachR c K W1 val s1 ∧ KF K w W1 := by rw [hW1, hs1]; exact h.setVis hv (wrap64 (v0 + 1))
  have HM1 := hideI hm1.1
  have HF1 := hideI hm1.2
  have HW1 := hideI hW1
  have HS1 := hideI hs1
  obtain ⟨n, hn⟩ : ∃ n, n = q.phis.length := ⟨_, rfl⟩
  rw [← hn] at d0 hpl hfew
  have HN := hideI hn
  obtain ⟨nb, hnb⟩ : ∃ nb, nb = c.f.blocks.length := ⟨_, rfl⟩
  rw [← hnb] at hbv hbn
  have d1 : W1.cell? ⟨bb, boff + b * 6, none⟩ = some (.slice PA n pc) := (World.cell?_of_block (a := ⟨bb, boff + b * 6, none⟩) (hm1.2.block bb (h.kB bb hbb))).trans d0
  have c9 := hm1.1.cells 9
  simp only [machCells] at c9
  rw [hbv] at c9
  clear hm1 hW1 hs1 hnb hn hv0 hnv h hp hbat hq hphi hpat hrr e2 hv hbv d0 hbb
  go_enter Tryz.func78, Tryz.ntmps78
  go_upto_region 1 with fail
  rw [← HW1.out]
  clear c7 x0 x1
  go_wp2_with (first
    | (at_make; go_must (refine wpList_make_full _ rfl _ _ 22 rfl W1.heap.size 3 i0 (.int .i64 0) 1 Tryz.underlying22 hix hz0 hz1 .i64 .i64 _ _ n rfl rfl rfl rfl (by rw [hz2]; omega) (by unfold maxLen; omega) (Nat.le_refl _) ?_); intro w1 hown1 hg1; go_must (have HB1 : Hid (Below W1.heap.size W1 w1) := hideI ((Below.refl _ _).grown hg1 (Nat.le_refl _) (by simp)); have HO1 := hideI hown1; clear hown1 hg1 c9 d1)))
  have hW1n : ∀ g, g < c.B → g < W1.heap.size := fun g hg => HM1.out.low g (HM1.out.kB g hg)
  have HLOW := hideI hW1n
  clear hW1n
  go_loopw [35] (fun u wr => ∃ i : Nat, i ≤ n ∧ u = .int .i64 i ∧ Hid (Below W1.heap.size W1 wr) ∧ Hid (wr.ownsRow W1.heap.size 3 1 (.slice (some ⟨W1.heap.size, 0, none⟩) n n) n (gotRow s.val fr q.phis i))) (fun u _ => n - (intOf u).toNat)
  case atStart => exact ⟨0, Nat.zero_le _, rfl, HB1, hideI (by have h1 := HO1.out; rw [Nat.mul_one, madeRow_zero] at h1; rw [gotRow_zero, ← HN.out]; exact h1)⟩
  case round =>
    obtain ⟨i, hi, rfl, HBr, HOr⟩ := hrel
    have hgl := (HOr.out.lt W1.heap.size rfl).2
    by_cases hlt : i < n
    · obtain ⟨p, hpi⟩ : ∃ p, q.phis[i]? = some p := ⟨_, List.getElem?_eq_getElem (by rw [← HN.out]; exact hlt)⟩
      obtain ⟨gb, goff, FA, fc, VA, vc, rfl, hgb, e0, e1, e2, e3, hfr, hvl⟩ := HPAT.out i p hpi
      have hok := HP.out p (List.mem_of_getElem? hpi)
      have kp : Keeps c.B w wr := (HF1.out.keeps H.out.kB).trans (Keeps.of_below (HBr.out.mono (by
        rcases Nat.lt_or_ge W1.heap.size c.B with h1 | h1
        · have := HLOW.out W1.heap.size h1; omega
        · exact h1)))
      rw [← kp _ _ hgb] at e0 e1 e2 e3
      have hglt := World.block_lt_of_cell? wr _ e0
      obtain ⟨W2, hW2⟩ : ∃ W2, W2 = wr.alloc (.cells #[.int .i64 p.id, .int .i64 p.typ, .slice FA p.fr.length fc, .slice VA p.vals.length vc] 128) := ⟨_, rfl⟩
      have hB2 : Below W1.heap.size W1 W2 := by rw [hW2]; exact HBr.out.alloc HBr.out.size _
      have hB2r : Below wr.heap.size wr W2 := by rw [hW2]; exact (Below.refl _ _).alloc (Nat.le_refl _) _
      have hbox : W2.heap[wr.heap.size]? = some (.cells #[.int .i64 p.id, .int .i64 p.typ, .slice FA p.fr.length fc, .slice VA p.vals.length vc] 128 (0, 0)) := by rw [hW2]; exact heap_alloc_new wr _
      have hm2 := HM1.out.below hB2
      have kp2 : Keeps c.B w W2 := kp.trans (Keeps.of_below (hB2r.mono (by
        rcases Nat.lt_or_ge wr.heap.size c.B with h1 | h1
        · have := HLOW.out wr.heap.size h1; have := HBr.out.size; omega
        · exact h1)))
      obtain ⟨k, hk⟩ : ∃ k, k = p.fr.idxOf fr := ⟨_, rfl⟩
      have hkl : k < p.fr.length := by rw [hk]; exact List.idxOf_lt_length_of_mem hok.mem
      have HIDX : Hid (∀ n, Calls Tryz.prog 119 #[.slice FA p.fr.length fc, .int .i64 fr] (W2.drewN n) fun e w' => e = .returned (.int .i64 k) ∧ w' = W2.drewN n) := hideI fun n =>
        (index_any p.fr c.B _ fr (W2.drewN n) ((hfr.keeps kp2).keeps (fun b o _ => rfl))).mono fun e w' ⟨r, h1, h2, h3⟩ => by
          obtain ⟨h4, _⟩ := idxIs_of h2 hok.mem
          exact ⟨by rw [h1, h4, hk], h3.symm⟩
      obtain ⟨VA', vc', hve, _, hvat⟩ := hvl.keeps kp2
      injection hve with hve1 _ hve3
      subst hve1 hve3
      obtain ⟨vb, voff, rfl, hvb, f0⟩ := hvat k (by rw [hok.len]; exact hkl)
      obtain ⟨a, ha⟩ : ∃ a, p.vals[k]? = some a := ⟨_, List.getElem?_eq_getElem (by rw [hok.len]; exact hkl)⟩
      have hga : phiGets s.val fr p = s.val a := by unfold phiGets; rw [List.getD_eq_getElem?_getD, ← hk, ha]; rfl
      rw [ha] at f0
      have hna := hok.vals a (List.mem_of_getElem? ha)
      obtain ⟨gv, cv, j, rfl, hj, hvv, hvc, _, hgm, hgv⟩ := hm2.valAt hna.1 hna.2
      have hsv : s1.val = s.val := by rw [HS1.out]
      rw [hsv, ← hga] at hvc
      have c11 := hm2.cells 11
      simp only [machCells] at c11
      rw [hvv] at c11
      have hx := row_cells hbox rfl
      have b2 := hx 2
      have b3 := hx 3
      have hOW : W2.ownsRow W1.heap.size 3 1 (.slice (some ⟨W1.heap.size, 0, none⟩) n n) n (gotRow s.val fr q.phis i) := by rw [hW2]; exact HOr.out.alloc _
      have r0 := World.ownsRow.cellAt hOW i (by omega)
      have r1 := World.ownsRow.frozenAt hOW i
      obtain ⟨u0, hu0⟩ := gotRow_some s.val fr q.phis (i := i) (j := i) (by rw [← HN.out]; exact hlt)
      rw [hu0] at r0
      have HW2 := hideI hW2
      have HB2 := hideI hB2
      have HOW := hideI hOW
      have HPI := hideI hpi
      have z1 : ¬ gv = W1.heap.size := fun e => by
        have h1 := HM1.out.own_lt (t := .vals) rfl (show (val .vals).ownBlock = some gv by rw [hvv]; rfl)
        omega
      have z1' : ¬ W1.heap.size = gv := fun e => z1 e.symm
      have z2 : ¬ vb = W1.heap.size := fun e => by have := HLOW.out vb hvb; omega
      have z2' : ¬ W1.heap.size = vb := fun e => z2 e.symm
      have z3 : ¬ c.m = W1.heap.size := fun e => by have := HM1.out.m_lt; omega
      have z3' : ¬ W1.heap.size = c.m := fun e => z3 e.symm
      have z4 : ¬ wr.heap.size = W1.heap.size := fun e => by omega
      have z4' : ¬ W1.heap.size = wr.heap.size := fun e => z4 e.symm
      have hkv : k < p.vals.length := by rw [hok.len]; exact hkl
      obtain ⟨pvl, hpvl⟩ : ∃ pvl, pvl = p.vals.length := ⟨_, rfl⟩
      obtain ⟨pfl, hpfl⟩ : ∃ pfl, pfl = p.fr.length := ⟨_, rfl⟩
      rw [← hpvl] at hkv e3 b3 HW2
      rw [← hpfl] at e2 b2 HW2 HIDX
      obtain ⟨pg, hpg⟩ : ∃ pg, pg = phiGets s.val fr p := ⟨_, rfl⟩
      rw [← hpg] at hvc
      have HPG := hideI hpg
      clear hm2 hbox hB2 hB2r kp kp2 hk hkl hvat ha hga hna hsv hok hfr hx hOW hu0 hpi hW2 hvv hvl hgb hvb hpvl hpfl hpg
      go_wp2
      go_upto_region 6 with fail
      rw [← HW2.out]
      clear e0 e1 e2 e3
      go_region_held3 (fun w' => w'.cell? ⟨c.m, 11, none⟩ = some (.slice (some ⟨gv, 0, none⟩) c.nv cv) ∧ w'.cell? ⟨wr.heap.size, 2, none⟩ = some (.slice FA pfl fc) ∧ w'.cell? ⟨wr.heap.size, 3, none⟩ = some (.slice (some ⟨vb, voff, none⟩) pvl vc) ∧ w'.cell? ⟨vb, voff + k, none⟩ = some (.int .i64 j) ∧ w'.cell? ⟨gv, j, none⟩ = some (.int .i64 pg)) (first | go_keep)
        (first | (go_at_call 119; refine (HIDX.out 1).mono ?_; rintro e w4 ⟨rfl, rfl⟩))
      clear c11 b2 b3 f0 hvc r0 r1
      go_wp2
      go_roundw
      case rel =>
        have h7 : (W2.drewN 1).ownsRow W1.heap.size 3 1 (.slice (some ⟨W1.heap.size, 0, none⟩) n n) n (gotRow s.val fr q.phis i) := HOW.out
        refine ⟨i + 1, by omega, by go_num, hideI ((below_drewN HB2.out 1).setCell (p := ⟨W1.heap.size, i, none⟩) (Nat.le_refl _) _), hideI ?_⟩
        rw [← gotRow_next s.val fr q.phis HPI.out, ← HPG.out]
        exact (World.ownsRow.stored h7 i _).1
      case measure => simp [intOf]; omega
    · have hin : i = n := by omega
      subst hin
      have HM2 := hideI (HM1.out.adds HBr.out)
      have HF2 : Hid (KF K w wr) := hideI (HF1.out.trans (KF.of_below HBr.out HM1.out.low))
      have HGOT : Hid (∀ j p, q.phis[j]? = some p → wr.cell? ⟨W1.heap.size, j, none⟩ = some (.int .i64 (phiGets s.val fr p))) := hideI fun j p hj => by
        have hjl := (List.getElem?_eq_some_iff.1 hj).1
        rw [World.ownsRow.cellAt HOr.out j (by rw [HN.out]; omega), HN.out]
        exact gotRow_all s.val fr q.phis hj
      have hgl2 := hgl
      clear HOr hgl
      go_wp2
      obtain ⟨wo, rfl⟩ : ∃ wo : World, wo = wr := ⟨_, rfl⟩
      have HGL := hideI hgl2
      clear hgl2
      go_loopw [60] (fun u wx => ∃ j : Nat, j ≤ i ∧ u = .int .i64 j ∧ Hid (MachR c (fun b => K b ∨ (W1.heap.size ≤ b ∧ b < wo.heap.size)) wx val { s1 with val := setAll s.val ((q.phis.take j).map fun p => (p.id, phiGets s.val fr p)) }) ∧ Hid (KF (fun b => K b ∨ (W1.heap.size ≤ b ∧ b < wo.heap.size)) wo wx)) (fun u _ => i - (intOf u).toNat)
      case atStart =>
        have e : s1 = { s1 with val := setAll s.val ((q.phis.take 0).map fun p => (p.id, phiGets s.val fr p)) } := by rw [HS1.out]; rfl
        have h1 := HM2.out
        rw [e] at h1
        exact ⟨0, Nat.zero_le _, rfl, hideI h1, hideI (KF.refl _)⟩
      case round =>
        obtain ⟨j, hj, rfl, HMr, HFr⟩ := hrel
        by_cases hjl : j < i
        · obtain ⟨p, hpj⟩ : ∃ p, q.phis[j]? = some p := ⟨_, List.getElem?_eq_getElem (by rw [← HN.out]; exact hjl)⟩
          obtain ⟨gb, goff, FA, fc, VA, vc, rfl, hgb, e0, e1, e2, e3, _, _⟩ := HPAT.out j p hpj
          have hok := HP.out p (List.mem_of_getElem? hpj)
          have kp : Keeps c.B w wr := (HF2.out.keeps H.out.kB).trans (HFr.out.keeps (fun b hb => .inl (H.out.kB b hb)))
          rw [← kp _ _ hgb] at e0 e1 e2 e3
          have hglt := World.block_lt_of_cell? wr _ e0
          have g0 : wr.cell? ⟨W1.heap.size, j, none⟩ = some (.int .i64 (phiGets s.val fr p)) := (World.cell?_of_block (a := ⟨W1.heap.size, j, none⟩) (HFr.out.block _ (.inr ⟨Nat.le_refl _, HGL.out⟩))).trans (HGOT.out j p hpj)
          have hglt2 := World.block_lt_of_cell? wr _ g0
          obtain ⟨W2, hW2⟩ : ∃ W2, W2 = wr.alloc (.cells #[.int .i64 p.id, .int .i64 p.typ, .slice FA p.fr.length fc, .slice VA p.vals.length vc] 128) := ⟨_, rfl⟩
          have hB2r : Below wr.heap.size wr W2 := by rw [hW2]; exact (Below.refl _ _).alloc (Nat.le_refl _) _
          have hbox : W2.heap[wr.heap.size]? = some (.cells #[.int .i64 p.id, .int .i64 p.typ, .slice FA p.fr.length fc, .slice VA p.vals.length vc] 128 (0, 0)) := by rw [hW2]; exact heap_alloc_new wr _
          have hm2 := HMr.out.below hB2r
          obtain ⟨gv, cv, k, hk, hkn, hvv, hvc, hvf, hgm, hgv⟩ := hm2.valAt hok.id.1 hok.id.2
          have c11 := hm2.cells 11
          simp only [machCells] at c11
          rw [hvv] at c11
          have b0 := row_cells hbox rfl 0
          rw [hk] at e0 b0 hW2
          have g1 : W2.cell? ⟨W1.heap.size, j, none⟩ = some (.int .i64 (phiGets s.val fr p)) := (hB2r.cell (p := ⟨W1.heap.size, j, none⟩) hglt2).trans g0
          have HKF : Hid (KF (fun b => K b ∨ (W1.heap.size ≤ b ∧ b < wo.heap.size)) wo W2) := hideI (HFr.out.trans (KF.of_below hB2r HMr.out.low))
          have HM4 := hideI hm2
          have HV := hideI hvv
          have HPJ := hideI hpj
          have HKK := hideI hk
          have HW2 := hideI hW2
          have z1 : ¬ gv = W1.heap.size := fun e => (hm2.off .vals _ gv rfl (by rw [hvv]; rfl)).2 (.inr ⟨by omega, by rw [e]; exact HGL.out⟩)
          have z1' : ¬ W1.heap.size = gv := fun e => z1 e.symm
          have z3 : ¬ c.m = gv := fun e => hgm e.symm
          have z4 : ¬ gv = wr.heap.size := fun e => by
            have h1 := HMr.out.own_lt (t := .vals) rfl (show (val .vals).ownBlock = some gv by rw [hvv]; rfl)
            omega
          have z4' : ¬ wr.heap.size = gv := fun e => z4 e.symm
          obtain ⟨pg, hpg⟩ : ∃ pg, pg = phiGets s.val fr p := ⟨_, rfl⟩
          rw [← hpg] at g1
          have HPG := hideI hpg
          clear hpj hok kp g0 hB2r hbox hm2 hvv hk hgb hpg hW2
          go_wp2
          go_upto_region 11 with fail
          rw [← HW2.out]
          clear e0 e1 e2 e3
          go_region_held3 (fun w' => w'.cell? ⟨c.m, 11, none⟩ = some (.slice (some ⟨gv, 0, none⟩) c.nv cv) ∧ w'.cell? ⟨wr.heap.size, 0, none⟩ = some (.int .i64 k) ∧ w'.cell? ⟨W1.heap.size, j, none⟩ = some (.int .i64 pg)) (first | go_keep) (first | fail)
          clear c11 b0 g1 hvc hvf
          go_wp2
          go_roundw
          case rel =>
            have h5 := HM4.out.setVal HV.out (j := k) pg
            refine ⟨j + 1, by omega, by go_num, hideI ?_, hideI ((HKF.out.trans h5.2).drewN 1)⟩
            have h6 := h5.1.drewN 1
            have e : setAll s.val ((q.phis.take (j + 1)).map fun p => (p.id, phiGets s.val fr p)) = setV (setAll s.val ((q.phis.take j).map fun p => (p.id, phiGets s.val fr p))) (k : Int) pg := by
              rw [List.take_add_one, HPJ.out, Option.toList_some, List.map_append, List.map_cons, List.map_nil, setAll_append, HKK.out, ← HPG.out]
            rw [e]
            exact h6
          case measure => simp [intOf]; omega
        · have hji : j = i := by omega
          subst hji
          go_wp2
          go_end0
          refine ⟨rfl, ?_, HF2.out.trans (HFr.out.mono (fun b hb => .inl hb))⟩
          have h1 := HMr.out.less (fun b hb => .inl hb) (fun b hb => H.out.kB b hb) H.out.kM
          have e : arriveM c.f b fr s = { s1 with val := setAll s.val ((q.phis.take j).map fun p => (p.id, phiGets s.val fr p)) } := by
            unfold arriveM
            rw [HQ.out, HS1.out, HV0.out, HN.out, List.take_length]
          rw [e]
          exact h1
end
end Go.Proofs.YtglbepdjahddmaaGreat
