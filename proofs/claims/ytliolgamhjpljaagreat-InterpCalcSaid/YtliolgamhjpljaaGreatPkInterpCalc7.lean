/- What InterpCalc rests on, part 7: IMachOf, GOut, GOutP. -/
import Derived.Test.YtliolgamhjpljaaGreatPkInterpCalc6

namespace Go.Proofs.YtliolgamhjpljaaGreat
open Go.RowKit Go.Maps

section
variable {c : MachC} {K : Nat → Prop} {w w1 : World} {val val' : MVals} {s s' : StM}

/-- one row is another one now -/
theorem MachR.remake (h : MachR c K w val s) (t0 : MTag) (hk : KF K w w1) (hblk : w1.heap[c.m]? = some (.cells (machCells c val' s') 67 (0, 0)))
    (hrows : ∀ t d, mRow s' c.nv val' t = some d → w1.ownsRow 0 d.elem 1 (val' t) d.len d.cells)
    (hown : ∀ t d g, mRow s' c.nv val' t = some d → (val' t).ownBlock = some g → (t ≠ t0 ∧ (∃ d0, mRow s c.nv val t = some d0) ∧ (val t).ownBlock = some g) ∨ (t = t0 ∧ w.heap.size ≤ g)) : MachR c K w1 val' s' := by
  refine ⟨hblk, hrows, fun t t' d d' g h1 h2 e1 e2 => ?_, fun t d g h1 e1 => ?_, h.offm, fun b hb => Nat.lt_of_lt_of_le (h.low b hb) hk.size, h.kB, h.kM, h.ops.heap (hk.block _ h.kM), h.blks.keeps (hk.keeps h.kB)⟩
  · rcases hown t d g h1 e1 with ⟨_, ⟨d0, x0⟩, x1⟩ | ⟨x0, x1⟩
    · rcases hown t' d' g h2 e2 with ⟨_, ⟨d1, y0⟩, y1⟩ | ⟨y0, y1⟩
      · exact h.apart t t' d0 d1 g x0 y0 x1 y1
      · have := h.own_lt x0 x1; omega
    · rcases hown t' d' g h2 e2 with ⟨_, ⟨d1, y0⟩, y1⟩ | ⟨y0, y1⟩
      · have := h.own_lt y0 y1; omega
      · rw [x0, y0]
  · rcases hown t d g h1 e1 with ⟨_, ⟨d0, x0⟩, x1⟩ | ⟨x0, x1⟩
    · exact h.off t d0 g x0 x1
    · refine ⟨by have := h.m_lt; omega, fun hK => by have := h.low g hK; omega⟩

theorem MachR.newVis (h : MachR c K w val s) {v : Value} {n : Nat} (hb : Below w.heap.size w w1) (hown : w1.ownsRow w.heap.size 3 1 v n (List.replicate n (.int .i64 0))) :
    MachR c K (w1.setCell ⟨c.m, 7, none⟩ v) (fun t => if t = .vis then v else val t) { s with vis := List.replicate n 0 } ∧ KF K w (w1.setCell ⟨c.m, 7, none⟩ v) := by
  have hk : KF K w (w1.setCell ⟨c.m, 7, none⟩ v) := (KF.of_below hb h.low).setCell h.offm v
  have hml := h.m_lt
  have row : ∀ t, t ≠ .vis → mRow { s with vis := List.replicate n 0 } c.nv (fun t => if t = .vis then v else val t) t = mRow s c.nv val t := fun t ht => by
    cases t with
    | vis => exact absurd rfl ht
    | arrs => simp [mRow]
    | _ => rfl
  have hge : ∀ g, v.ownBlock = some g → w.heap.size ≤ g := fun g e => (hown.lt g e).1
  refine ⟨h.remake .vis hk ?_ (fun t d ht => ?_) (fun t d g ht e => ?_), hk⟩
  · rw [heap_setCell_same w1 c.m 7 _ _ v ((hb.block _ hml).trans h.blk)]
    congr 2
  · by_cases e : t = .vis
    · subst e
      injection ht with ht
      subst ht
      rw [if_pos rfl]
      have e2 : intRow (List.replicate n 0) = ⟨3, n, List.replicate n (.int .i64 0)⟩ := by unfold intRow; simp
      rw [e2]
      exact ownsRow_setCell_other (World.ownsRow.mono hown (Nat.zero_le _)) (fun e3 => by have := hge _ e3; simp at this; omega) v
    · rw [if_neg e]
      rw [row t e] at ht
      refine owns_kept (h.rows t d ht) fun g hg => ?_
      rw [Below.heap_setCell _ _ _ _ (h.off t d g ht hg).1]
      exact hb.block g (h.own_lt ht hg)
  · by_cases e2 : t = .vis
    · rw [if_pos e2] at e
      exact .inr ⟨e2, hge g e⟩
    · rw [if_neg e2] at e
      rw [row t e2] at ht
      exact .inl ⟨e2, ⟨d, ht⟩, e⟩

theorem MachR.newArrs (h : MachR c K w val s) {v : Value} {n : Nat} (hb : Below w.heap.size w w1) (hown : w1.ownsRow w.heap.size 22 1 v n (List.replicate n (.slice none 0 0))) :
    ∃ val', MachR c K (w1.setCell ⟨c.m, 4, none⟩ v) val' { s with arrs := List.replicate n [] } ∧ KF K w (w1.setCell ⟨c.m, 4, none⟩ v) := by
  have hk : KF K w (w1.setCell ⟨c.m, 4, none⟩ v) := (KF.of_below hb h.low).setCell h.offm v
  have hml := h.m_lt
  have hge : ∀ g, v.ownBlock = some g → w.heap.size ≤ g := fun g e => (hown.lt g e).1
  refine ⟨fun t => match t with | .arrs => v | .arr _ => .slice none 0 0 | t => val t, h.remake .arrs hk ?_ (fun t d ht => ?_) (fun t d g ht e => ?_), hk⟩
  · rw [heap_setCell_same w1 c.m 4 _ _ v ((hb.block _ hml).trans h.blk)]
    congr 2
  · have old : ∀ t', mRow s c.nv val t' = some d → (w1.setCell ⟨c.m, 4, none⟩ v).ownsRow 0 d.elem 1 (val t') d.len d.cells := fun t' ht' => by
      refine owns_kept (h.rows t' d ht') fun g hg => ?_
      rw [Below.heap_setCell _ _ _ _ (h.off t' d g ht' hg).1]
      exact hb.block g (h.own_lt ht' hg)
    cases t with
    | arrs =>
      injection ht with ht
      subst ht
      have e2 : ((List.range (List.replicate n ([] : List Int)).length).map fun i => (Value.slice none 0 0)) = List.replicate n (.slice none 0 0) := by
        rw [List.length_replicate]
        apply List.ext_getElem?
        intro k
        by_cases hk : k < n <;> simp [hk]
      simp only [List.length_replicate] at e2 ⊢
      rw [e2]
      exact ownsRow_setCell_other (World.ownsRow.mono hown (Nat.zero_le _)) (fun e3 => by have := hge _ e3; simp at this; omega) v
    | arr i =>
      simp only [mRow] at ht
      obtain ⟨a, ha, rfl⟩ : ∃ a, (List.replicate n ([] : List Int))[i]? = some a ∧ intRow a = d := by
        cases hx : (List.replicate n ([] : List Int))[i]? with
        | none => rw [hx] at ht; cases ht
        | some a => rw [hx] at ht; exact ⟨a, rfl, by injection ht⟩
      have : a = [] := by
        rw [List.getElem?_replicate] at ha
        split at ha
        · injection ha with ha; exact ha.symm
        · cases ha
      subst this
      exact World.ownsRow_nil _ _ _ _
    | vals => exact old .vals ht
    | cells => exact old .cells ht
    | vis => exact old .vis ht
    | out => exact old .out ht
  · cases t with
    | arrs => exact .inr ⟨rfl, hge g e⟩
    | arr i => cases e
    | vals => exact .inl ⟨by simp, ⟨d, ht⟩, e⟩
    | cells => exact .inl ⟨by simp, ⟨d, ht⟩, e⟩
    | vis => exact .inl ⟨by simp, ⟨d, ht⟩, e⟩
    | out => exact .inl ⟨by simp, ⟨d, ht⟩, e⟩
end

/-- what takeArrays is to do -/
def TakeArrs (f : FuncM) (I : InM) (B : Nat) (w : World) (av : Value) : Prop :=
  ∀ (c : MachC) (K : Nat → Prop) (W : World) (val : MVals) (s : StM), MachR c K W val s → Keeps B w W → (∀ b, b < B → K b) → s.arrs = List.replicate f.arrays.toNat [] →
    Calls Tryz.prog 46 #[.pointer (some ⟨c.m, 0, none⟩), av] W fun e w' => e = .returned (.tuple #[]) ∧ ∃ val', MachR c K w' val' { s with arrs := (startS f I).arrs } ∧ KF K W w'

set_option maxRecDepth 100000 in
set_option maxHeartbeats 1000000 in
theorem takeArrays_none (f : FuncM) (I : InM) (B : Nat) (w : World) (av : Value) (A : Option Addr) (n cp : Nat) (hav : av = .slice A n cp) (h0 : f.arrays = 0) : TakeArrs f I B w av := by
  intro c K W val s h _ _ hs
  subst hav
  have H := hideI h
  have hs0 : s.arrs = [] := by rw [hs, h0]; rfl
  have HE : Hid ({ s with arrs := (startS f I).arrs } = s) := hideI (by
    have : (startS f I).arrs = s.arrs := by rw [hs0]; unfold startS; rw [h0]; rfl
    rw [this])
  have hrow := h.rows .arrs _ rfl
  rw [hs0] at hrow
  have c4 := h.cells 4
  simp only [machCells] at c4
  obtain ⟨A2, cp2, hv⟩ : ∃ A2 cp2, val .arrs = .slice A2 0 cp2 := by
    rcases hrow.2 with ⟨e, _⟩ | ⟨g, cap, cur, e, _⟩
    · exact ⟨none, 0, e⟩
    · exact ⟨_, _, e⟩
  rw [hv] at c4
  clear hrow hv hs hs0 h0 h
  go_enter Tryz.func46, Tryz.ntmps46
  go_wp2
  go_loopw [15] (fun u wr => u = .int .i64 0 ∧ wr = W) (fun _ _ => 0)
  case atStart => exact ⟨rfl, rfl⟩
  case round =>
    obtain ⟨rfl, rfl⟩ := hrel
    go_wp2
    go_end0
    exact ⟨rfl, val, by rw [HE.out]; exact H.out, KF.refl _⟩

theorem MN.done {W1 W : World} {nv nc M V C B : Nat} {f : FuncM} {bv : Value} {F : Int} (h : MN W1 W nv nc (some M) (some V) (some C)) (hbv : BlocksR W1 B bv f.blocks) (hB : B ≤ W1.heap.size) :
    ∃ (c : MachC) (val : MVals), Value.pointer (some ⟨W.heap.size, 0, none⟩) = .pointer (some ⟨c.m, 0, none⟩) ∧ Hid (c.f = f ∧ c.B = B ∧ c.nv = nv ∧ c.fuel = F ∧
      MachR c (fun b => b < W1.heap.size ∨ b = c.M) (W.alloc (.cells #[.int .i64 0, .int .i64 0, .int .i64 0, .slice none 0 0, .slice none 0 0, .int .i64 0, .int .i64 0, .slice none 0 0, .map (some M), bv, .int .i64 F, .slice (some ⟨V, 0, none⟩) nv nv, .slice (some ⟨C, 0, none⟩) nc nc] 67)) val (firstS nc) ∧
      Below W1.heap.size W1 (W.alloc (.cells #[.int .i64 0, .int .i64 0, .int .i64 0, .slice none 0 0, .slice none 0 0, .int .i64 0, .int .i64 0, .slice none 0 0, .map (some M), bv, .int .i64 F, .slice (some ⟨V, 0, none⟩) nv nv, .slice (some ⟨C, 0, none⟩) nc nc] 67))) := by
  obtain ⟨val, _, _, hm⟩ := h.machine (F := F) hbv hB
  exact ⟨_, val, rfl, hideI ⟨rfl, rfl, rfl, rfl, hm, h.below.alloc h.below.size _⟩⟩

theorem start_vals (f : FuncM) (I : InM) : argVals (fun _ => 0) f.params I.args (min f.params.length I.args.length) = (startS f I).val := by
  funext x
  show argVals (fun _ => 0) f.params I.args (min f.params.length I.args.length) x = if 0 ≤ x then argM f I x.toNat else 0
  unfold argVals argM argOf
  by_cases h0 : 0 ≤ x
  · by_cases h1 : x < (min f.params.length I.args.length : Nat)
    · rw [if_pos ⟨h0, h1⟩, if_pos h0]
      exact (if_pos ⟨by omega, by omega⟩).symm
    · rw [if_neg (fun e => h1 e.2), if_pos h0]
      exact (if_neg (by omega)).symm
  · rw [if_neg (fun e => h0 e.1), if_neg h0]

/-- what machineOf hands back -/
def MachPost (f : FuncM) (I : InM) (B : Nat) (bv : Value) (F : Nat) (w : World) (e : Ending) (w' : World) : Prop :=
  ∃ (c : MachC) (val : MVals), e = .returned (.pointer (some ⟨c.m, 0, none⟩)) ∧ c.f = f ∧ c.B = B ∧ c.nv = (roomM f).toNat ∧ c.fuel = F ∧ MachR c (fun b => b < w.heap.size ∨ b = c.M) w' val (startS f I) ∧ Below w.heap.size w w'

set_option maxRecDepth 100000 in
set_option maxHeartbeats 8000000 in
theorem machineOf_any (f : FuncM) (I : InM) (B : Nat) (pv bv av rv : Value) (F : Nat) (w : World) (hpv : Ints w B pv f.params) (hbv : BlocksR w B bv f.blocks) (hB : B ≤ w.heap.size) (hid : ∀ u ∈ usesM f, I64 u.1)
    (hr : ∀ x ∈ idsOut f, 0 ≤ x ∧ x ≤ 1048575) (hpar : f.params.length ≤ 16 ∧ (f.params.length : Int) ≤ roomM f) (hcel : 0 ≤ f.cells ∧ f.cells ≤ 64) (harr : 0 ≤ f.arrays ∧ f.arrays ≤ 8) (hnb : f.blocks.length ≤ 512)
    (ha : Ints w B av I.args) (hT : TakeArrs f I B w rv) (A2 : Option Addr) (rl rc : Nat) (hrv : rv = .slice A2 rl rc) :
    Calls Tryz.prog 23 #[.agg #[pv, .int .i64 f.arrays, .int .i64 f.cells, bv], .agg #[av, rv], .int .i64 F] w (MachPost f I B bv F w) := by
  obtain ⟨i0, hix, hi2⟩ : ∃ i, Tryz.prog.info? 3 = some i ∧ i.zero = some (.int .i64 0) ∧ i.size = 1 ∧ i.bytes = 8 := ⟨_, rfl, rfl, rfl, rfl⟩
  obtain ⟨hz0, hz1, hz2⟩ := hi2
  obtain ⟨j0, hjx, hj2⟩ : ∃ i, Tryz.prog.info? 22 = some i ∧ i.zero = some (.slice none 0 0) ∧ i.size = 1 ∧ i.bytes = 24 := ⟨_, rfl, rfl, rfl, rfl⟩
  obtain ⟨hy0, hy1, hy2⟩ := hj2
  have HPV := hideI hpv
  have HBV := hideI hbv
  have HAV := hideI ha
  obtain ⟨P, pc, rfl, _, _⟩ := hpv
  obtain ⟨A, cc, rfl, _, _⟩ := hbv
  obtain ⟨A1, ac, rfl, _, _⟩ := ha
  subst hrv
  obtain ⟨nvN, hnv⟩ : ∃ n : Nat, n = (roomM f).toNat := ⟨_, rfl⟩
  have hroom : roomM f = nvN ∧ nvN ≤ 1048576 := by
    unfold roomM at *
    cases hl : (idsOut f).getLast? with
    | none => rw [hl] at hnv; simp only at hnv ⊢; omega
    | some x =>
      have := hr x (List.mem_of_getLast? hl)
      rw [hl] at hnv
      simp only at hnv ⊢
      omega
  obtain ⟨ncN, hnc⟩ : ∃ n : Nat, f.cells = n := ⟨f.cells.toNat, by omega⟩
  obtain ⟨naN, hna⟩ : ∃ n : Nat, f.arrays = n := ⟨f.arrays.toNat, by omega⟩
  obtain ⟨nb, hnbN⟩ : ∃ n : Nat, n = f.blocks.length := ⟨_, rfl⟩
  obtain ⟨W1, hW1⟩ : ∃ W1, W1 = (w.alloc (.cells #[.slice P f.params.length pc, .int .i64 f.arrays, .int .i64 f.cells, .slice A f.blocks.length cc] 25)).alloc (.cells #[.slice A1 I.args.length ac, .slice A2 rl rc] 28) := ⟨_, rfl⟩
  have hb1 : Below w.heap.size w W1 := by rw [hW1]; exact ((Below.refl _ w).alloc (Nat.le_refl _) _).alloc (by simp) _
  have hs1 : W1.heap.size = w.heap.size + 2 := by rw [hW1]; simp
  have hf0 : W1.heap[w.heap.size]? = some (.cells #[.slice P f.params.length pc, .int .i64 f.arrays, .int .i64 f.cells, .slice A f.blocks.length cc] 25 (0, 0)) := by
    rw [hW1, Below.heap_alloc _ _ _ (by simp)]
    exact heap_alloc_new w _
  have hi0 : W1.heap[w.heap.size + 1]? = some (.cells #[.slice A1 I.args.length ac, .slice A2 rl rc] 28 (0, 0)) := by
    rw [hW1]
    have := heap_alloc_new (w.alloc (.cells #[.slice P f.params.length pc, .int .i64 f.arrays, .int .i64 f.cells, .slice A f.blocks.length cc] 25)) (.cells #[.slice A1 I.args.length ac, .slice A2 rl rc] 28)
    simpa using this
  have hk1 : Keeps B w W1 := Keeps.of_below (hb1.mono hB)
  rw [hnc, hna, ← hnbN] at hf0
  rw [hnc, hna, ← hnbN] at hW1
  have HF0 := hideI hf0
  have HI0 := hideI hi0
  have HB1 := hideI hb1
  have HS1 := hideI hs1
  have HW1 := hideI hW1
  have HBX : Hid (∀ W, Below W1.heap.size W1 W → W.cell? ⟨w.heap.size, 0, none⟩ = some (.slice P f.params.length pc) ∧ W.cell? ⟨w.heap.size, 1, none⟩ = some (.int .i64 naN) ∧ W.cell? ⟨w.heap.size, 2, none⟩ = some (.int .i64 ncN) ∧ W.cell? ⟨w.heap.size, 3, none⟩ = some (.slice A nb cc) ∧ W.cell? ⟨w.heap.size + 1, 0, none⟩ = some (.slice A1 I.args.length ac) ∧ W.cell? ⟨w.heap.size + 1, 1, none⟩ = some (.slice A2 rl rc)) := hideI fun W hW => by
    have hx := row_cells HF0.out (hW.block _ (by have := HS1.out; omega))
    have hy := row_cells HI0.out (hW.block _ (by have := HS1.out; omega))
    exact ⟨hx 0, hx 1, hx 2, hx 3, hy 0, hy 1⟩
  have HROOM : Hid (∀ W, Below W1.heap.size W1 W → Calls Tryz.prog 44 #[.agg #[.slice P f.params.length pc, .int .i64 naN, .int .i64 ncN, .slice A nb cc]] W fun e w' => e = .returned (.int .i64 nvN) ∧ Below W.heap.size W w') := hideI fun W hW => by
    have hk := hk1.trans (Keeps.of_below (hW.mono (by have := HS1.out; omega)))
    have h := roomFor_any f B _ _ W (HPV.out.keeps hk) (HBV.out.keeps hk) (by have := hW.size; have := HS1.out; omega) hid hr
    rw [hroom.1, hnc, hna, ← hnbN] at h
    exact h
  obtain ⟨RV, hRV⟩ : ∃ RV, RV = madeCells (Value.int .i64 0).cells (nvN * 1) := ⟨_, rfl⟩
  obtain ⟨RC, hRC⟩ : ∃ RC, RC = madeCells (Value.int .i64 0).cells (ncN * 1) := ⟨_, rfl⟩
  have HRV : Hid (RV.toList = List.replicate nvN (.int .i64 0)) := hideI (by rw [hRV, Nat.mul_one]; exact madeRow_zero nvN)
  have HRC : Hid (RC.toList = List.replicate ncN (.int .i64 0)) := hideI (by rw [hRC, Nat.mul_one]; exact madeRow_zero ncN)
  have hmkV : ∀ W : World, (Instr.makeSlice 22 (.int .i64 nvN) (.int .i64 nvN)).run Tryz.prog W = .ok (.slice (some ⟨W.heap.size, 0, none⟩) nvN nvN) (W.alloc (.cells RV 3)) := fun W => by
    have := run_make (P := Tryz.prog) W 22 3 i0 (.int .i64 0) Tryz.underlying22 hix hz0 .i64 .i64 (nvN : Int) (nvN : Int) (by omega) (Int.le_refl _) (by rw [hz2]; omega) (by omega)
    rw [hz1, Int.toNat_natCast, ← hRV] at this
    exact this
  have hmkC : ∀ W : World, (Instr.makeSlice 22 (.int .i64 ncN) (.int .i64 ncN)).run Tryz.prog W = .ok (.slice (some ⟨W.heap.size, 0, none⟩) ncN ncN) (W.alloc (.cells RC 3)) := fun W => by
    have := run_make (P := Tryz.prog) W 22 3 i0 (.int .i64 0) Tryz.underlying22 hix hz0 .i64 .i64 (ncN : Int) (ncN : Int) (by omega) (Int.le_refl _) (by rw [hz2]; omega) (by omega)
    rw [hz1, Int.toNat_natCast, ← hRC] at this
    exact this
  have HNV : Hid (nvN = (roomM f).toNat ∧ nvN ≤ 1048576 ∧ ncN ≤ 64 ∧ naN ≤ 8 ∧ nb ≤ 512) := hideI ⟨hnv, hroom.2, by omega, by omega, by omega⟩
  have HBV1 := hideI (HBV.out.keeps hk1)
  rw [← hnbN] at HBV1
  have HNC := hideI hnc
  have HNA := hideI hna
  have HNB := hideI hnbN
  have HPAR := hideI hpar
  have HT := hideI hT
  have hbx := HBX.out W1 (Below.refl _ _)
  obtain ⟨q0, q1, q2, q3, q4, q5⟩ := hbx
  have hlt0 : w.heap.size < W1.heap.size := by omega
  have hlt1 : w.heap.size + 1 < W1.heap.size := by omega
  rw [hnc, hna, ← hnbN]
  clear hRV hRC hnv hroom hnc hna hnbN hpar hT hW1 hb1 hs1 hf0 hi0 hk1 hid hr hcel harr hnb
  go_enter Tryz.func23, Tryz.ntmps23
  go_upto_region 1 with fail
  rw [← HW1.out]
  go_cut [7] (fun u wx => ∃ (c : MachC) (val : MVals), u = .pointer (some ⟨c.m, 0, none⟩) ∧ Hid (c.f = f ∧ c.B = B ∧ c.nv = nvN ∧ c.fuel = F ∧ MachR c (fun b => b < W1.heap.size ∨ b = c.M) wx val (firstS ncN) ∧ Below W1.heap.size W1 wx))
  case first =>
    have hc64 : ncN ≤ 2000000 := by have := HNV.out; omega
    have hv20 : nvN ≤ 2000000 := by have := HNV.out; omega
    have HC64 := hideI hc64
    have HV20 := hideI hv20
    have hw1B : B ≤ W1.heap.size := by have := HS1.out; omega
    have HW1B := hideI hw1B
    clear hc64 hv20 hw1B q4 q5
    go_region_held3 (fun w' => w'.cell? ⟨w.heap.size, 0, none⟩ = some (.slice P f.params.length pc) ∧ w'.cell? ⟨w.heap.size, 1, none⟩ = some (.int .i64 naN) ∧ w'.cell? ⟨w.heap.size, 2, none⟩ = some (.int .i64 ncN) ∧ w'.cell? ⟨w.heap.size, 3, none⟩ = some (.slice A nb cc)) (first | go_keep | exact HKP.out)
      (first
        | (go_at_call 31; refine (pairs_any _).mono ?_; rintro e w2 ⟨rfl, hops, hbp⟩; (first | (have hMN := hideI (MN.ops (MN.start W1 1 (nv := nvN) (nc := ncN)) hbp hops)) | (have hMN := hideI (MN.ops (MN.cells (MN.start W1 1 (nv := nvN) (nc := ncN)) HC64.out HRC.out) hbp hops))); have hpp := HBX.out _ hMN.out.below; have HKP := hideI (And.intro hpp.1 (And.intro hpp.2.1 (And.intro hpp.2.2.1 hpp.2.2.2.1))); have hw2l := hMN.out.below.size; clear hpp hops hbp)
        | (go_at_call 44; refine (HROOM.out _ (by first | exact hMN.out.below | exact (hMN.out.cells HC64.out HRC.out).below)).mono ?_; rintro e w3 ⟨rfl, hbr⟩; (first | (have hMN2 := hideI (hMN.out.grow hbr)) | (have hMN2 := hideI ((hMN.out.cells HC64.out HRC.out).grow hbr))); have hpp := HBX.out _ hMN2.out.below; have HKP := hideI (And.intro hpp.1 (And.intro hpp.2.1 (And.intro hpp.2.2.1 hpp.2.2.2.1))); have hw3l := hMN2.out.below.size; clear hpp hbr))
    all_goals
      go_wp2_with fail
      go_meet
      first
        | (have hd := MN.done (F := (F : Int)) (hMN2.out.vals HV20.out HRV.out) HBV1.out HW1B.out
           simp only [World.size_alloc, World.heap_drewN] at hd
           exact hd)
        | (have hd := MN.done (F := (F : Int)) ((hMN2.out.cells HC64.out HRC.out).vals HV20.out HRV.out) HBV1.out HW1B.out
           simp only [World.size_alloc, World.heap_drewN] at hd
           exact hd)
        | (have hd := MN.done (F := (F : Int)) ((hMN2.out.vals HV20.out HRV.out).cells HC64.out HRC.out) HBV1.out HW1B.out
           simp only [World.size_alloc, World.heap_drewN] at hd
           exact hd)
  case rest =>
    obtain ⟨c, val, rfl, hcut⟩ := hcut
    obtain ⟨hcf, hcB, hcn, hcF, hm, hb⟩ := hcut.out
    have HC := hideI (And.intro hcf (And.intro hcB (And.intro hcn hcF)))
    have HM := hideI hm
    have HBW := hideI hb
    have q := HBX.out _ hb
    clear q0 q1 q2 q3 q4 q5 hcut hcf hcB hcn hcF
    obtain ⟨q0, q1, q2, q3, q4, q5⟩ := q
    have f7 := hm.free 7
    have c7 := hm.cells 7
    simp only [machCells] at c7
    have hml := hm.m_lt
    have hnbl := HNV.out
    have z1 : ¬ c.m = w.heap.size := fun e => HM.out.offm (.inl (by rw [e]; omega))
    have z1' : ¬ w.heap.size = c.m := fun e => z1 e.symm
    have z2 : ¬ c.m = w.heap.size + 1 := fun e => HM.out.offm (.inl (by rw [e]; omega))
    have z2' : ¬ w.heap.size + 1 = c.m := fun e => z2 e.symm
    have HBY : Hid (∀ W, Below wc.heap.size wc W → Below W1.heap.size W1 W) := hideI fun W hW => HBW.out.trans (hW.mono HBW.out.size)
    clear hm hb
    go_upto_region 3 with (first
      | (at_make; go_must (refine wpList_make_full _ rfl _ _ 22 rfl wc.heap.size 3 i0 (.int .i64 0) 1 Tryz.underlying22 hix hz0 hz1 .i64 .i64 _ _ nb rfl rfl rfl rfl (by rw [hz2]; omega) (by unfold maxLen; omega) (Nat.le_refl _) ?_); intro w5 hown5 hg5; have hB5 : Below wc.heap.size wc w5 := (Below.refl _ _).grown hg5 (Nat.le_refl _) (by simp); have HB5 := hideI hB5; have HO5 := hideI hown5; have c7' := (World.cell?_of_block (a := ⟨c.m, 7, none⟩) (hB5.block _ hml)).trans c7; have f7' := (World.frozen?_of_block (a := ⟨c.m, 7, none⟩) (hB5.block _ hml)).trans f7; clear hown5 hg5 hB5 c7 f7 q0 q1 q2 q3 q4 q5))
    obtain ⟨W6, hW6⟩ : ∃ W6, W6 = w5.setCell ⟨c.m, 7, none⟩ (.slice (some ⟨wc.heap.size, 0, none⟩) nb nb) := ⟨_, rfl⟩
    have h6 := HM.out.newVis (n := nb) HB5.out (v := .slice (some ⟨wc.heap.size, 0, none⟩) nb nb) (by have h := HO5.out; rw [Nat.mul_one, madeRow_zero] at h; exact h)
    have hb6 : Below W1.heap.size W1 W6 := by rw [hW6]; exact (HBY.out _ HB5.out).setCell (p := ⟨c.m, 7, none⟩) (Nat.not_lt.1 (fun e => HM.out.offm (.inl e))) _
    rw [← hW6] at h6 ⊢
    obtain ⟨h6a, h6b⟩ := h6
    obtain ⟨q0, q1, q2, q3, q4, q5⟩ := HBX.out _ hb6
    have f4 := h6a.free 4
    have c4 := h6a.cells 4
    simp only [machCells] at c4
    have hml6 := h6a.m_lt
    have HM6 := hideI h6a
    have HB6 := hideI hb6
    clear c7' f7' h6a h6b hW6 hb6
    have hna8 := HNV.out
    go_upto_region 4 with (first
      | (at_make; go_must (refine wpList_make_full _ rfl _ _ 26 rfl W6.heap.size 22 j0 (.slice none 0 0) 1 Tryz.underlying26 hjx hy0 hy1 .i64 .i64 _ _ naN rfl rfl rfl rfl (by rw [hy2]; omega) (by unfold maxLen; omega) (Nat.le_refl _) ?_); intro w7 hown7 hg7; have hB7 : Below W6.heap.size W6 w7 := (Below.refl _ _).grown hg7 (Nat.le_refl _) (by simp); have HB7 := hideI hB7; have HO7 := hideI hown7; have c4' := (World.cell?_of_block (a := ⟨c.m, 4, none⟩) (hB7.block _ hml6)).trans c4; have f4' := (World.frozen?_of_block (a := ⟨c.m, 4, none⟩) (hB7.block _ hml6)).trans f4; clear hown7 hg7 hB7 c4 f4 q0 q1 q2 q3 q4 q5))
    obtain ⟨W8, hW8⟩ : ∃ W8, W8 = w7.setCell ⟨c.m, 4, none⟩ (.slice (some ⟨W6.heap.size, 0, none⟩) naN naN) := ⟨_, rfl⟩
    have h8 := HM6.out.newArrs (n := naN) HB7.out (v := .slice (some ⟨W6.heap.size, 0, none⟩) naN naN) (by have h := HO7.out; rw [Nat.mul_one, show (Value.slice none 0 0).cells = #[.slice none 0 0] from rfl, toList_madeCells_one] at h; exact h)
    rw [← hW8] at h8 ⊢
    obtain ⟨val8, h8a, h8b⟩ := h8
    have hb8 : Below W1.heap.size W1 W8 := HB6.out.trans (h8b.below (fun b hb => .inl hb))
    obtain ⟨q0, q1, q2, q3, q4, q5⟩ := HBX.out _ hb8
    have HM8 := hideI h8a
    have HB8 := hideI hb8
    have HKB : Hid (∀ W, Below W1.heap.size W1 W → Keeps B w W) := hideI fun W hW => (Keeps.of_below (HB1.out.mono hB)).trans (Keeps.of_below (hW.mono (by have := HS1.out; omega)))
    have HBK : Hid (∀ b, b < B → b < W1.heap.size ∨ b = c.M) := hideI fun b hb => .inl (by have := HS1.out; omega)
    have HA := hideI (takeArgs_any h8a f.params I.args B (.slice P f.params.length pc) (.slice A1 I.args.length ac) (HPV.out.keeps (HKB.out _ hb8)) (HAV.out.keeps (HKB.out _ hb8)) HBK.out (by have := HPAR.out; have := HNV.out; have := HC.out.2.2.1; omega) HPAR.out.1)
    clear c4' f4' hW8 h8a h8b hb8
    go_wp2_with (first
      | (go_at_call 45; refine HA.out.mono ?_; rintro e w9 ⟨rfl, hm9, hf9⟩; have hb9 : Below W1.heap.size W1 w9 := HB8.out.trans (hf9.below (fun b hb => .inl hb)); have HM9 := hideI hm9; have HB9 := hideI hb9; clear hm9 hf9 hb9 q0 q1 q2 q3 q4 q5; have qq := HBX.out w9 HB9.out; obtain ⟨q0, q1, q2, q3, q4, q5⟩ := qq)
      | (go_at_call 46; refine (HT.out c _ w9 val8 _ HM9.out (HKB.out _ HB9.out) HBK.out (by rw [HNA.out]; rfl)).mono ?_; rintro e w10 ⟨rfl, val10, hm10, hf10⟩; have HM10 := hideI hm10; have HB10 := hideI (HB9.out.trans (hf10.below (fun b hb => .inl hb))); clear hm10 hf10))
    go_ret
    have e : startS f I = { val := argVals (fun _ => 0) f.params I.args (min f.params.length I.args.length), cells := List.replicate ncN 0, arrs := (startS f I).arrs, out := [], steps := 0, checks := 0, vis := List.replicate nb 0 } := by
      rw [start_vals]
      unfold startS
      rw [HNC.out, ← HNB.out]
      rfl
    refine ⟨c, val10, rfl, HC.out.1, HC.out.2.1, by rw [HC.out.2.2.1]; exact HNV.out.1, HC.out.2.2.2, ?_, HB1.out.trans (HB10.out.mono (by have := HS1.out; omega))⟩
    rw [e]
    exact HM10.out.less (fun b hb => by rcases hb with hb | hb; exact .inl (by have := HS1.out; omega); exact .inr hb) (fun b hb => .inl (by have := HC.out.2.1; omega)) (.inr rfl)

end Go.Proofs.YtliolgamhjpljaaGreat

namespace Go.Proofs.YtliolgamhjpljaaGreat
open Go.RowKit Go.Maps

def GOrderPost (f : FuncM) (w : World) (e : Ending) (w' : World) : Prop :=
  ((lookM f).1 ≠ 0 ∧ e = .returned (.tuple #[.slice none 0 0, .int .i64 (lookM f).1]) ∧ Below w.heap.size w w') ∨
  ((lookM f).1 = 0 ∧ ∃ (o : List Nat) (g cap : Nat), e = .returned (.tuple #[.slice (some ⟨g, 0, none⟩) o.length cap, .int .i64 0]) ∧ OrderIs f.blocks o ∧ 0 < o.length ∧ o.length ≤ f.blocks.length ∧ w'.ownsRow w.heap.size 3 1 (.slice (some ⟨g, 0, none⟩) o.length cap) o.length (natInts o) ∧ Below w.heap.size w w')

set_option maxRecDepth 100000 in
set_option maxHeartbeats 1000000 in
theorem gOrder_any (f : FuncM) (B : Nat) (pv bv : Value) (w : World) (hpv : Ints w B pv f.params) (hbv : BlocksR w B bv f.blocks) (hB : B ≤ w.heap.size) (hid : ∀ u ∈ usesM f, I64 u.1) :
    Calls Tryz.prog 138 #[.agg #[pv, .int .i64 f.arrays, .int .i64 f.cells, bv]] w (GOrderPost f w) := by
  have HP := hideI hpv
  have HBL := hideI hbv
  have HID := hideI hid
  obtain ⟨P, pc, rfl, _⟩ := hpv
  obtain ⟨A, c, rfl, hbm, _⟩ := hbv
  have HX := hideI (heap_alloc_new w (.cells #[.slice P f.params.length pc, .int .i64 f.arrays, .int .i64 f.cells, .slice A f.blocks.length c] 25))
  have HK : Hid (Keeps B w (w.alloc (.cells #[.slice P f.params.length pc, .int .i64 f.arrays, .int .i64 f.cells, .slice A f.blocks.length c] 25))) := (Keeps.refl w).alloc hB _
  have HB0 : Hid (Below w.heap.size w (w.alloc (.cells #[.slice P f.params.length pc, .int .i64 f.arrays, .int .i64 f.cells, .slice A f.blocks.length c] 25))) := (Below.refl _ w).alloc (Nat.le_refl _) _
  clear hid
  by_cases h0 : (lookM f).1 = 0
  · have H0 := hideI h0
    have hnb := look_some_block h0
    clear h0
    go_enter Tryz.func138, Tryz.ntmps138
    go_wp2_with (first
      | (go_at_call 34; go_must (refine (check_any f B _ _ _ (HP.out.keeps HK.out) (HBL.out.keeps HK.out) (by simp; omega) HID.out).mono ?_); rw [H0.out]; rintro e w1 ⟨rfl, hb⟩; have HB1 := hideI (HB0.out.trans (hb.mono (by simp))); have hxx := row_cells ((hb.block _ (lt_of_heap HX.out)).trans HX.out) rfl; have q0 := hxx 0; have q1 := hxx 1; have q2 := hxx 2; have q3 := hxx 3; have hl1 : w.heap.size < w1.heap.size := (by have := hb.size; simp at this; omega); clear hb hxx)
      | (go_at_call 151; go_must (refine (order_any f.blocks w.heap.size _ _ _ _ _ ((HBL.out.more' hB).keeps (Keeps.of_below HB1.out)) (by omega) hnb.1 hnb.2 (look_ends H0.out)).mono ?_); rintro e w2 ⟨o, g, cap, rfl, ho, ho0, ho1, hown, hb2⟩; have HO := hideI ho; have HW := hideI hown; have HB2 := hideI hb2; clear ho hown hb2))
    go_ret2
    exact .inr ⟨H0.out, o, g, cap, rfl, HO.out, ho0, ho1, World.ownsRow.mono HW.out (by omega), HB1.out.trans (HB2.out.mono (by omega))⟩
  · have H0 := hideI h0
    have hb : ((lookM f).1 != 0) = true := by simpa using h0
    clear h0
    go_enter Tryz.func138, Tryz.ntmps138
    go_wp2_with (first
      | (go_at_call 34; go_must (refine (check_any f B _ _ _ (HP.out.keeps HK.out) (HBL.out.keeps HK.out) (by simp; omega) HID.out).mono ?_); rintro e w1 ⟨rfl, hb1⟩; have HB1 := hideI (HB0.out.trans (hb1.mono (by simp))); clear hb1))
    go_ret2
    exact .inl ⟨H0.out, rfl, HB1.out⟩

end Go.Proofs.YtliolgamhjpljaaGreat

namespace Go.Proofs.YtliolgamhjpljaaGreat
open Go.RowKit Go.Maps

def PredsPost (bs : List BlockM) (w : World) (e : Ending) (w' : World) : Prop :=
  ∃ (g : Nat) (vs : List Value), e = .returned (.slice (some ⟨g, 0, none⟩) bs.length bs.length) ∧ Lists w' w.heap.size g bs.length vs (predsAt bs bs.length bs.length 0) ∧ Below w.heap.size w w'

set_option maxRecDepth 100000 in
set_option maxHeartbeats 4000000 in
theorem preds_any (bs : List BlockM) (B : Nat) (pv av cv bv : Value) (w : World) (hbv : BlocksR w B bv bs) (hB : B ≤ w.heap.size) (hn5 : bs.length ≤ 512) (hin : EndsIn bs) :
    Calls Tryz.prog 35 #[.agg #[pv, av, cv, bv]] w (PredsPost bs w) := by
  have HBL := hideI hbv
  have HIN := hideI hin
  obtain ⟨A, c, rfl, hbm, _⟩ := hbv
  obtain ⟨i0, hix, hz0, hz1, hz2⟩ := info_parts ints_info
  clear hin
  go_enter Tryz.func35, Tryz.ntmps35
  go_wp2_with (first
    | (at_make; go_must (refine wpList_make_full _ rfl _ _ 26 rfl (w.heap.size + 1) 22 i0 (.slice none 0 0) 1 Tryz.underlying26 hix hz0 hz1 .i64 .i64 _ _ bs.length rfl rfl rfl rfl (by rw [hz2]; omega) (by unfold maxLen; omega) (by simp) ?_); intro w1 hown1 hg1; rw [World.size_alloc] at hown1; go_must (have HL1 := hideI (Lists.made hown1); have hgb := row_cells ((hg1.block w.heap.size (by simp) (by simp)).trans (heap_alloc_new w _)) rfl; have HGB := hideI ((hg1.block w.heap.size (by simp) (by simp)).trans (heap_alloc_new w _)); have HB0 : Hid (Below w.heap.size w w1) := ((Below.refl _ _).alloc (Nat.le_refl _) _).grown hg1 (by simp) (by simp); clear hown1 hg1; have g3 := hgb 3; clear hgb)))
  clear hix hz0 hz1 hz2
  rw [← predsAt_zero bs bs.length] at HL1
  clear g3
  go_loopw [16] (fun u wr => ∃ (k : Nat) (vs : List Value), k ≤ bs.length ∧ u = .int .i64 k ∧ Hid (Lists wr (w.heap.size + 1) (w.heap.size + 1) bs.length vs (predsAt bs bs.length k 0)) ∧ Hid (Below w.heap.size w wr) ∧ Hid (Below (w.heap.size + 1) w1 wr)) (fun u _ => bs.length - (intOf u).toNat)
  case atStart => exact ⟨0, _, Nat.zero_le _, rfl, HL1, HB0, hideI (Below.refl _ _)⟩
  case round =>
    obtain ⟨k, vs, hk, rfl, HL, HBr, HBo⟩ := hrel
    have hgl := HBo.out
    by_cases hlt : k < bs.length
    · obtain ⟨q, hq⟩ : ∃ q, bs[k]? = some q := ⟨_, List.getElem?_eq_getElem hlt⟩
      obtain ⟨A', c', e0, _, hbx⟩ := (HBL.out.more' hB).keeps (Keeps.of_below HBr.out)
      cases e0
      obtain ⟨ab, off, pq, cq, tv, rfl, hab, x0, x1, x2, x3, x4, x5, _, _, htv, _⟩ := hbx k q hq
      have HTV := hideI htv
      have HQ := hideI hq
      have HSU : Hid (succM bs k = q.term.to.map Int.toNat) := by show _ = _; unfold succM; rw [hq]
      obtain ⟨TA, tc, rfl, htm, _⟩ := htv
      obtain ⟨m, hm⟩ : ∃ m, m = q.term.to.length := ⟨_, rfl⟩
      have HM := hideI hm
      rw [← hm] at x4 htm
      have hxr := row_cells HGB.out (hgl.block w.heap.size (by omega))
      have g3 := hxr 3
      clear hbx hq x0 x1 x2 x3 x5 hm hgl hxr
      go_wp2
      clear x4 g3
      obtain ⟨wo, rfl⟩ : ∃ wo : World, wo = wr := ⟨_, rfl⟩
      go_loopw [28] (fun u wr => ∃ (i : Nat) (vs : List Value), i ≤ m ∧ u = .int .i64 i ∧ Hid (Lists wr (w.heap.size + 1) (w.heap.size + 1) bs.length vs (predsAt bs bs.length k i)) ∧ Hid (Below (w.heap.size + 1) wo wr)) (fun u _ => m - (intOf u).toNat)
      case atStart => exact ⟨0, vs, Nat.zero_le _, rfl, HL, hideI (Below.refl _ _)⟩
      case round =>
        obtain ⟨i, vs2, hi, rfl, HLi, HBi⟩ := hrel
        by_cases hlti : i < m
        · obtain ⟨t, ht⟩ : ∃ t, q.term.to[i]? = some t := ⟨_, List.getElem?_eq_getElem (by rw [HM.out] at hlti; exact hlti)⟩
          have htn := HIN.out q (List.mem_of_getElem? HQ.out) t (List.mem_of_getElem? ht)
          obtain ⟨tn, rfl⟩ : ∃ tn : Nat, t = (tn : Int) := ⟨t.toNat, by omega⟩
          have htl : tn < bs.length := by omega
          have HTI : Hid ((succM bs k)[i]? = some tn) := by
            show _ = _
            rw [HSU.out, List.getElem?_map, ht]
            rfl
          obtain ⟨TA', tc', e0, _, hxx⟩ := HTV.out.keep (HBi.out.mono (Nat.le_succ _))
          cases e0
          obtain ⟨tb, toff, rfl, htb, hcell⟩ := hxx i (by rw [← HM.out]; exact hlti)
          rw [ht] at hcell
          simp only [Option.getD_some] at hcell
          obtain ⟨v, hv⟩ : ∃ v, vs2[tn]? = some v := ⟨_, List.getElem?_eq_getElem (by rw [HLi.out.vl]; exact htl)⟩
          obtain ⟨l, hl0⟩ : ∃ l, l = predsTo bs k tn ++ if tn ∈ (succM bs k).take i then [k] else [] := ⟨_, rfl⟩
          have hl : (predsAt bs bs.length k i)[tn]? = some l := by rw [predsAt_at htl, hl0]
          have hmem : k ∈ l ↔ tn ∈ (succM bs k).take i := by rw [hl0]; exact predsAt_mem
          have hll : l.length ≤ 1000 := by
            rw [hl0, List.length_append]
            have := predsTo_len bs k tn
            split <;> simp <;> omega
          have q1 : wr.cell? ⟨w.heap.size + 1, tn, none⟩ = some v := by rw [World.ownsRow.cellAt HLi.out.row tn (by omega)]; exact hv
          have HOWN := hideI (HLi.out.own tn v l hv hl)
          have HINT := hideI (nat_ints HOWN.out (by omega))
          have hsz := HLi.out.lt.2
          have HV := hideI hv
          have HLL := hideI hl
          have HL0 := hideI hl0
          clear hxx ht htn hv hl hl0
          by_cases hin2 : tn ∈ (succM bs k).take i
          · have HC : Hid (decide ((k : Int) ∈ l.map fun (x : Nat) => (x : Int)) = true) := by show _ = _; rw [decide_eq_true_iff, mem_nat, hmem]; exact hin2
            have HIN2 := hideI hin2
            clear hin2 hmem
            go_wp2_with (go_at_call 73; go_must (refine (contains_any _ _ _ _ _ HINT.out).mono ?_); rw [HC.out]; rintro e w2 ⟨rfl, rfl⟩)
            go_roundw
            case rel => exact ⟨i + 1, vs2, by omega, by go_num, by rw [predsAt_skip HTI.out HIN2.out]; exact HLi, HBi⟩
            case measure => simp [intOf]; omega
          · have HC : Hid (decide ((k : Int) ∈ l.map fun (x : Nat) => (x : Int)) = false) := by show _ = _; rw [decide_eq_false_iff_not, mem_nat, hmem]; exact hin2
            have HIN2 := hideI hin2
            have hl0 := HL0.out
            rw [if_neg hin2, List.append_nil] at hl0
            have HL1 := hideI hl0
            obtain ⟨i1, hjx, hy0, hy1, hy2⟩ := info_parts int_info
            have H63 : Hid (l.length + 1 ≤ maxLen) := by show _ ≤ _; simp only [maxLen]; omega
            have HBY : Hid ((l.length + 1) * 8 ≤ 140737488355328) := by show _ ≤ _; omega
            have HBS : Hid (w.heap.size + 1 ≤ wr.heap.size) := by show _ ≤ _; omega
            clear hin2 hmem hl0
            go_wp2_with (first
              | (go_at_call 73; go_must (refine (contains_any _ _ _ _ _ HINT.out).mono ?_); rw [HC.out]; rintro e w2 ⟨rfl, rfl⟩)
              | (at_builtin; go_must (refine wpList_append_lies _ rfl _ _ _ rfl (w.heap.size + 1 + 1) 3 i1 (.int .i64 0) 1 8 Tryz.underlying22 hjx hy0 hy1 hy2 rfl (by decide) _ _ _ rfl (HOWN.out.alloc _) ⟨wr.heap.size, 0, none⟩ 1 1 [.int .i64 k] rfl rfl (one_new wr _) (by simp [Value.oneCell']) (by decide) H63.out HBY.out (by simp; exact HBS.out) _ rfl ?_); intro g1 cap1 w3 hown1 hgrow1 hor1 _; go_must (have HP := hideI (HLi.out.push HV.out HLL.out hown1 hgrow1 hor1); have HPB := hideI (HLi.out.pushed (u := .slice (some ⟨g1, 0, none⟩) (l.length + 1) cap1) HV.out HLL.out hgrow1 HBi.out (Nat.le_refl _)); obtain ⟨hc4, hf4⟩ := HLi.out.held HV.out HLL.out hgrow1; clear hown1 hgrow1 hor1 q1)))
            go_roundw
            case rel => exact ⟨i + 1, _, by omega, by go_num, by rw [← predsAt_push HTI.out HIN2.out htl, ← HL1.out]; exact HP, HPB⟩
            case measure => simp [intOf]; omega
        · have HE : Hid (predsAt bs bs.length k i = predsAt bs bs.length (k + 1) 0) := predsAt_next bs _ k (by rw [HSU.out, List.length_map, ← HM.out]; omega)
          rw [HE.out] at HLi
          go_wp2
          go_roundw
          case rel => exact ⟨k + 1, vs2, by omega, by go_num, HLi, hideI (HBr.out.trans (HBi.out.mono (Nat.le_succ _))), hideI (HBo.out.trans HBi.out)⟩
          case measure => simp [intOf]; omega
    · have hkn : k = bs.length := by omega
      have HKN := hideI hkn
      rw [hkn] at HL
      clear hkn
      go_wp2
      go_ret
      exact ⟨_, vs, rfl, ⟨HL.out.vl, HL.out.ll, World.ownsRow.mono HL.out.row (by omega), HL.out.own, HL.out.apart⟩, HBr.out⟩

end Go.Proofs.YtliolgamhjpljaaGreat

namespace Go.Proofs.YtliolgamhjpljaaGreat
open Go.RowKit Go.Maps

theorem Lists.mono {w : World} {base base' gb n : Nat} {vs : List Value} {ls : List (List Nat)} (h : Lists w base gb n vs ls) (hb : base' ≤ base) : Lists w base' gb n vs ls :=
  ⟨h.vl, h.ll, World.ownsRow.mono h.row hb, h.own, h.apart⟩

theorem Lists.kept {w w' : World} {base gb n : Nat} {vs : List Value} {ls : List (List Nat)} (h : Lists w base gb n vs ls) (hb : Below w.heap.size w w') : Lists w' base gb n vs ls :=
  ⟨h.vl, h.ll, own_kept_below h.row hb (fun k hk => (h.row.lt k hk).2), fun t v l hv hl => own_kept_below (h.own t v l hv hl) hb (fun k hk => ((h.own t v l hv hl).lt k hk).2), h.apart⟩

def GPredsPost (f : FuncM) (w : World) (e : Ending) (w' : World) : Prop :=
  ((lookM f).1 ≠ 0 ∧ e = .returned (.tuple #[.slice none 0 0, .int .i64 (lookM f).1]) ∧ Below w.heap.size w w') ∨
  ((lookM f).1 = 0 ∧ ∃ (g : Nat) (vs : List Value), e = .returned (.tuple #[.slice (some ⟨g, 0, none⟩) f.blocks.length f.blocks.length, .int .i64 0]) ∧ Lists w' w.heap.size g f.blocks.length vs (predsAt f.blocks f.blocks.length f.blocks.length 0) ∧ Below w.heap.size w w')

set_option maxRecDepth 100000 in
set_option maxHeartbeats 1000000 in
theorem gPreds_any (f : FuncM) (B : Nat) (pv bv : Value) (w : World) (hpv : Ints w B pv f.params) (hbv : BlocksR w B bv f.blocks) (hB : B ≤ w.heap.size) (hid : ∀ u ∈ usesM f, I64 u.1) :
    Calls Tryz.prog 17 #[.agg #[pv, .int .i64 f.arrays, .int .i64 f.cells, bv]] w (GPredsPost f w) := by
  have HP := hideI hpv
  have HBL := hideI hbv
  have HID := hideI hid
  obtain ⟨P, pc, rfl, _⟩ := hpv
  obtain ⟨A, c, rfl, hbm, _⟩ := hbv
  have HX := hideI (heap_alloc_new w (.cells #[.slice P f.params.length pc, .int .i64 f.arrays, .int .i64 f.cells, .slice A f.blocks.length c] 25))
  have HK : Hid (Keeps B w (w.alloc (.cells #[.slice P f.params.length pc, .int .i64 f.arrays, .int .i64 f.cells, .slice A f.blocks.length c] 25))) := (Keeps.refl w).alloc hB _
  have HB0 : Hid (Below w.heap.size w (w.alloc (.cells #[.slice P f.params.length pc, .int .i64 f.arrays, .int .i64 f.cells, .slice A f.blocks.length c] 25))) := (Below.refl _ w).alloc (Nat.le_refl _) _
  clear hid
  by_cases h0 : (lookM f).1 = 0
  · have H0 := hideI h0
    have hnb := look_some_block h0
    clear h0
    go_enter Tryz.func17, Tryz.ntmps17
    go_wp2_with (first
      | (go_at_call 34; go_must (refine (check_any f B _ _ _ (HP.out.keeps HK.out) (HBL.out.keeps HK.out) (by simp; omega) HID.out).mono ?_); rw [H0.out]; rintro e w1 ⟨rfl, hb⟩; have HB1 := hideI (HB0.out.trans (hb.mono (by simp))); have hxx := row_cells ((hb.block _ (lt_of_heap HX.out)).trans HX.out) rfl; have q0 := hxx 0; have q1 := hxx 1; have q2 := hxx 2; have q3 := hxx 3; have hl1 : w.heap.size < w1.heap.size := (by have := hb.size; simp at this; omega); clear hb hxx)
      | (go_at_call 35; go_must (refine (preds_any f.blocks w.heap.size _ _ _ _ _ ((HBL.out.more' hB).keeps (Keeps.of_below HB1.out)) (by omega) hnb.2 (look_ends H0.out)).mono ?_); rintro e w2 ⟨g, vs, rfl, hls, hb2⟩; have HLS := hideI hls; have HB2 := hideI hb2; clear hls hb2))
    go_ret2
    exact .inr ⟨H0.out, g, vs, rfl, HLS.out.mono (by omega), HB1.out.trans (HB2.out.mono (by omega))⟩
  · have H0 := hideI h0
    have hb : ((lookM f).1 != 0) = true := by simpa using h0
    clear h0
    go_enter Tryz.func17, Tryz.ntmps17
    go_wp2_with (first
      | (go_at_call 34; go_must (refine (check_any f B _ _ _ (HP.out.keeps HK.out) (HBL.out.keeps HK.out) (by simp; omega) HID.out).mono ?_); rintro e w1 ⟨rfl, hb1⟩; have HB1 := hideI (HB0.out.trans (hb1.mono (by simp))); clear hb1))
    go_ret2
    exact .inl ⟨H0.out, rfl, HB1.out⟩

theorem gOrder_no (f : FuncM) (B : Nat) (pv bv : Value) (w : World) (hpv : Ints w B pv f.params) (hbv : BlocksR w B bv f.blocks) (hB : B ≤ w.heap.size) (hid : ∀ u ∈ usesM f, I64 u.1) (h : (lookM f).1 ≠ 0) :
    Calls Tryz.prog 138 #[.agg #[pv, .int .i64 f.arrays, .int .i64 f.cells, bv]] w fun e w' => e = .returned (.tuple #[.slice none 0 0, .int .i64 (lookM f).1]) ∧ Below w.heap.size w w' := by
  refine (gOrder_any f B pv bv w hpv hbv hB hid).mono ?_
  rintro e w' (⟨_, h2⟩ | ⟨h2, _⟩)
  · exact h2
  · exact absurd h2 h

theorem gOrder_yes (f : FuncM) (B : Nat) (pv bv : Value) (w : World) (hpv : Ints w B pv f.params) (hbv : BlocksR w B bv f.blocks) (hB : B ≤ w.heap.size) (hid : ∀ u ∈ usesM f, I64 u.1) (h : (lookM f).1 = 0) :
    Calls Tryz.prog 138 #[.agg #[pv, .int .i64 f.arrays, .int .i64 f.cells, bv]] w fun e w' => ∃ (o : List Nat) (g cap : Nat), e = .returned (.tuple #[.slice (some ⟨g, 0, none⟩) o.length cap, .int .i64 0]) ∧ OrderIs f.blocks o ∧ 0 < o.length ∧ o.length ≤ f.blocks.length ∧ w'.ownsRow w.heap.size 3 1 (.slice (some ⟨g, 0, none⟩) o.length cap) o.length (natInts o) ∧ Below w.heap.size w w' := by
  refine (gOrder_any f B pv bv w hpv hbv hB hid).mono ?_
  rintro e w' (⟨h2, _⟩ | ⟨_, h2⟩)
  · exact absurd h h2
  · exact h2

theorem gPreds_no (f : FuncM) (B : Nat) (pv bv : Value) (w : World) (hpv : Ints w B pv f.params) (hbv : BlocksR w B bv f.blocks) (hB : B ≤ w.heap.size) (hid : ∀ u ∈ usesM f, I64 u.1) (h : (lookM f).1 ≠ 0) :
    Calls Tryz.prog 17 #[.agg #[pv, .int .i64 f.arrays, .int .i64 f.cells, bv]] w fun e w' => e = .returned (.tuple #[.slice none 0 0, .int .i64 (lookM f).1]) ∧ Below w.heap.size w w' := by
  refine (gPreds_any f B pv bv w hpv hbv hB hid).mono ?_
  rintro e w' (⟨_, h2⟩ | ⟨h2, _⟩)
  · exact h2
  · exact absurd h2 h

theorem gPreds_yes (f : FuncM) (B : Nat) (pv bv : Value) (w : World) (hpv : Ints w B pv f.params) (hbv : BlocksR w B bv f.blocks) (hB : B ≤ w.heap.size) (hid : ∀ u ∈ usesM f, I64 u.1) (h : (lookM f).1 = 0) :
    Calls Tryz.prog 17 #[.agg #[pv, .int .i64 f.arrays, .int .i64 f.cells, bv]] w fun e w' => ∃ (g : Nat) (vs : List Value), e = .returned (.tuple #[.slice (some ⟨g, 0, none⟩) f.blocks.length f.blocks.length, .int .i64 0]) ∧ Lists w' w.heap.size g f.blocks.length vs (predsAt f.blocks f.blocks.length f.blocks.length 0) ∧ Below w.heap.size w w' := by
  refine (gPreds_any f B pv bv w hpv hbv hB hid).mono ?_
  rintro e w' (⟨h2, _⟩ | ⟨_, h2⟩)
  · exact absurd h h2
  · exact h2

end Go.Proofs.YtliolgamhjpljaaGreat
