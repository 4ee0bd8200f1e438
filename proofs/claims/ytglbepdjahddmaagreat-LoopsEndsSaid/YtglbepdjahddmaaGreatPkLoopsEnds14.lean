/- What LoopsEnds rests on, part 14: IMachOf, IRun, IOk, IVisM, LoopM, LfM. -/
import Derived.Test.YtglbepdjahddmaaGreatPkLoopsEnds13

namespace Go.Proofs.YtglbepdjahddmaaGreat
open Go.RowKit Go.Maps

section
variable {c : MachC} {K : Nat → Prop} {w w1 : World} {val val' : MVals} {s s' : StM}

/-- one row is another one now -/
theorem MachR.remake (h : MachR c K w val s) (t0 : MTag) (hk : KF K w w1) (hblk : w1.heap[c.m]? = some (.cells (machCells c val' s') 97 (0, 0)))
    (hrows : ∀ t d, mRow s' c.nv val' t = some d → w1.ownsRow 0 d.elem 1 (val' t) d.len d.cells)
    (hown : ∀ t d g, mRow s' c.nv val' t = some d → (val' t).ownBlock = some g → (t ≠ t0 ∧ (∃ d0, mRow s c.nv val t = some d0) ∧ (val t).ownBlock = some g) ∨ (t = t0 ∧ w.heap.size ≤ g)) : MachR c K w1 val' s' := by
  refine ⟨hblk, hrows, fun t t' d d' g h1 h2 e1 e2 => ?_, fun t d g h1 e1 => ?_, h.offm, fun b hb => Nat.lt_of_lt_of_le (h.low b hb) hk.size, h.kB, h.kM, h.ops.heap (hk.block _ h.kM), h.blks.keeps (hk.keeps h.kB)⟩
  · rcases hown t d g h1 e1 with ⟨_, ⟨d0, x0⟩, x1⟩ | ⟨x0, x1⟩
    · rcases hown t' d' g h2 e2 with ⟨_, ⟨d1, y0⟩, y1⟩ | ⟨y0, y1⟩
      · exact h.apart t t' d0 d1 g x0 y0 x1 y1
      · have := h.own_lt x0 x1; omega
    · rcases hown t' d' g h2 e2 with ⟨_, ⟨d1, y0⟩, y1⟩ | ⟨y0, y1⟩
      · have := h.own_lt y0 y1; omega
      · rw [x0, y0]
  · rcases hown t d g h1 e1 with ⟨_, ⟨d0, x0⟩, x1⟩ | ⟨x0, x1⟩
    · exact h.off t d0 g x0 x1
    · refine ⟨by have := h.m_lt; omega, fun hK => by have := h.low g hK; omega⟩

theorem MachR.newVis (h : MachR c K w val s) {v : Value} {n : Nat} (hb : Below w.heap.size w w1) (hown : w1.ownsRow w.heap.size 3 1 v n (List.replicate n (.int .i64 0))) :
    MachR c K (w1.setCell ⟨c.m, 7, none⟩ v) (fun t => if t = .vis then v else val t) { s with vis := List.replicate n 0 } ∧ KF K w (w1.setCell ⟨c.m, 7, none⟩ v) := by
  have hk : KF K w (w1.setCell ⟨c.m, 7, none⟩ v) := (KF.of_below hb h.low).setCell h.offm v
  have hml := h.m_lt
  have row : ∀ t, t ≠ .vis → mRow { s with vis := List.replicate n 0 } c.nv (fun t => if t = .vis then v else val t) t = mRow s c.nv val t := fun t ht => by
    cases t with
    | vis => exact absurd rfl ht
    | arrs => simp [mRow]
    | _ => rfl
  have hge : ∀ g, v.ownBlock = some g → w.heap.size ≤ g := fun g e => (hown.lt g e).1
  refine ⟨h.remake .vis hk ?_ (fun t d ht => ?_) (fun t d g ht e => ?_), hk⟩
  · rw [heap_setCell_same w1 c.m 7 _ _ v ((hb.block _ hml).trans h.blk)]
    congr 2
  · by_cases e : t = .vis
    · subst e
      injection ht with ht
      subst ht
      rw [if_pos rfl]
      have e2 : intRow (List.replicate n 0) = ⟨3, n, List.replicate n (.int .i64 0)⟩ := by unfold intRow; simp
      rw [e2]
      exact ownsRow_setCell_other (World.ownsRow.mono hown (Nat.zero_le _)) (fun e3 => by have := hge _ e3; simp at this; omega) v
    · rw [if_neg e]
      rw [row t e] at ht
      refine owns_kept (h.rows t d ht) fun g hg => ?_
      rw [Below.heap_setCell _ _ _ _ (h.off t d g ht hg).1]
      exact hb.block g (h.own_lt ht hg)
  · by_cases e2 : t = .vis
    · rw [if_pos e2] at e
      exact .inr ⟨e2, hge g e⟩
    · rw [if_neg e2] at e
      rw [row t e2] at ht
      exact .inl ⟨e2, ⟨d, ht⟩, e⟩

theorem MachR.newArrs (h : MachR c K w val s) {v : Value} {n : Nat} (hb : Below w.heap.size w w1) (hown : w1.ownsRow w.heap.size 22 1 v n (List.replicate n (.slice none 0 0))) :
    ∃ val', MachR c K (w1.setCell ⟨c.m, 4, none⟩ v) val' { s with arrs := List.replicate n [] } ∧ KF K w (w1.setCell ⟨c.m, 4, none⟩ v) := by
  have hk : KF K w (w1.setCell ⟨c.m, 4, none⟩ v) := (KF.of_below hb h.low).setCell h.offm v
  have hml := h.m_lt
  have hge : ∀ g, v.ownBlock = some g → w.heap.size ≤ g := fun g e => (hown.lt g e).1
  refine ⟨fun t => match t with | .arrs => v | .arr _ => .slice none 0 0 | t => val t, h.remake .arrs hk ?_ (fun t d ht => ?_) (fun t d g ht e => ?_), hk⟩
  · rw [heap_setCell_same w1 c.m 4 _ _ v ((hb.block _ hml).trans h.blk)]
    congr 2
  · have old : ∀ t', mRow s c.nv val t' = some d → (w1.setCell ⟨c.m, 4, none⟩ v).ownsRow 0 d.elem 1 (val t') d.len d.cells := fun t' ht' => by
      refine owns_kept (h.rows t' d ht') fun g hg => ?_
      rw [Below.heap_setCell _ _ _ _ (h.off t' d g ht' hg).1]
      exact hb.block g (h.own_lt ht' hg)
    cases t with
    | arrs =>
      injection ht with ht
      subst ht
      have e2 : ((List.range (List.replicate n ([] : List Int)).length).map fun i => (Value.slice none 0 0)) = List.replicate n (.slice none 0 0) := by
        rw [List.length_replicate]
        apply List.ext_getElem?
        intro k
        by_cases hk : k < n <;> simp [hk]
      simp only [List.length_replicate] at e2 ⊢
      rw [e2]
      exact ownsRow_setCell_other (World.ownsRow.mono hown (Nat.zero_le _)) (fun e3 => by have := hge _ e3; simp at this; omega) v
    | arr i =>
      simp only [mRow] at ht
      obtain ⟨a, ha, rfl⟩ : ∃ a, (List.replicate n ([] : List Int))[i]? = some a ∧ intRow a = d := by
        cases hx : (List.replicate n ([] : List Int))[i]? with
        | none => rw [hx] at ht; cases ht
        | some a => rw [hx] at ht; exact ⟨a, rfl, by injection ht⟩
      have : a = [] := by
        rw [List.getElem?_replicate] at ha
        split at ha
        · injection ha with ha; exact ha.symm
        · cases ha
      subst this
      exact World.ownsRow_nil _ _ _ _
    | vals => exact old .vals ht
    | cells => exact old .cells ht
    | vis => exact old .vis ht
    | out => exact old .out ht
  · cases t with
    | arrs => exact .inr ⟨rfl, hge g e⟩
    | arr i => cases e
    | vals => exact .inl ⟨by simp, ⟨d, ht⟩, e⟩
    | cells => exact .inl ⟨by simp, ⟨d, ht⟩, e⟩
    | vis => exact .inl ⟨by simp, ⟨d, ht⟩, e⟩
    | out => exact .inl ⟨by simp, ⟨d, ht⟩, e⟩
end

/-- what takeArrays is to do -/
def TakeArrs (f : FuncM) (I : InM) (B : Nat) (w : World) (av : Value) : Prop :=
  ∀ (c : MachC) (K : Nat → Prop) (W : World) (val : MVals) (s : StM), MachR c K W val s → Keeps B w W → (∀ b, b < B → K b) → s.arrs = List.replicate f.arrays.toNat [] →
    Calls Tryz.prog 76 #[.pointer (some ⟨c.m, 0, none⟩), av] W fun e w' => e = .returned (.tuple #[]) ∧ ∃ val', MachR c K w' val' { s with arrs := (startS f I).arrs } ∧ KF K W w'

set_option maxRecDepth 100000 in
set_option maxHeartbeats 1000000 in
theorem takeArrays_none (f : FuncM) (I : InM) (B : Nat) (w : World) (av : Value) (A : Option Addr) (n cp : Nat) (hav : av = .slice A n cp) (h0 : f.arrays = 0) : TakeArrs f I B w av := by
  intro c K W val s h _ _ hs
  subst hav
  have H := hideI h
  have hs0 : s.arrs = [] := by rw [hs, h0]; rfl
  have HE : Hid ({ s with arrs := (startS f I).arrs } = s) := hideI (by
    have : (startS f I).arrs = s.arrs := by rw [hs0]; unfold startS; rw [h0]; rfl
    rw [this])
  have hrow := h.rows .arrs _ rfl
  rw [hs0] at hrow
  have c4 := h.cells 4
  simp only [machCells] at c4
  obtain ⟨A2, cp2, hv⟩ : ∃ A2 cp2, val .arrs = .slice A2 0 cp2 := by
    rcases hrow.2 with ⟨e, _⟩ | ⟨g, cap, cur, e, _⟩
    · exact ⟨none, 0, e⟩
    · exact ⟨_, _, e⟩
  rw [hv] at c4
  clear hrow hv hs hs0 h0 h
  go_enter Tryz.func76, Tryz.ntmps76
  go_wp2
  go_loopw [15] (fun u wr => u = .int .i64 0 ∧ wr = W) (fun _ _ => 0)
  case atStart => exact ⟨rfl, rfl⟩
  case round =>
    obtain ⟨rfl, rfl⟩ := hrel
    go_wp2
    go_end0
    exact ⟨rfl, val, by rw [HE.out]; exact H.out, KF.refl _⟩

theorem MN.done {W1 W : World} {nv nc M V C B : Nat} {f : FuncM} {bv : Value} {F : Int} (h : MN W1 W nv nc (some M) (some V) (some C)) (hbv : BlocksR W1 B bv f.blocks) (hB : B ≤ W1.heap.size) :
    ∃ (c : MachC) (val : MVals), Value.pointer (some ⟨W.heap.size, 0, none⟩) = .pointer (some ⟨c.m, 0, none⟩) ∧ Hid (c.f = f ∧ c.B = B ∧ c.nv = nv ∧ c.fuel = F ∧
      MachR c (fun b => b < W1.heap.size ∨ b = c.M) (W.alloc (.cells #[.int .i64 0, .int .i64 0, .int .i64 0, .slice none 0 0, .slice none 0 0, .int .i64 0, .int .i64 0, .slice none 0 0, .map (some M), bv, .int .i64 F, .slice (some ⟨V, 0, none⟩) nv nv, .slice (some ⟨C, 0, none⟩) nc nc] 97)) val (firstS nc) ∧
      Below W1.heap.size W1 (W.alloc (.cells #[.int .i64 0, .int .i64 0, .int .i64 0, .slice none 0 0, .slice none 0 0, .int .i64 0, .int .i64 0, .slice none 0 0, .map (some M), bv, .int .i64 F, .slice (some ⟨V, 0, none⟩) nv nv, .slice (some ⟨C, 0, none⟩) nc nc] 97))) := by
  obtain ⟨val, _, _, hm⟩ := h.machine (F := F) hbv hB
  exact ⟨_, val, rfl, hideI ⟨rfl, rfl, rfl, rfl, hm, h.below.alloc h.below.size _⟩⟩

theorem start_vals (f : FuncM) (I : InM) : argVals (fun _ => 0) f.params I.args (min f.params.length I.args.length) = (startS f I).val := by
  funext x
  show argVals (fun _ => 0) f.params I.args (min f.params.length I.args.length) x = if 0 ≤ x then argM f I x.toNat else 0
  unfold argVals argM argOf
  by_cases h0 : 0 ≤ x
  · by_cases h1 : x < (min f.params.length I.args.length : Nat)
    · rw [if_pos ⟨h0, h1⟩, if_pos h0]
      exact (if_pos ⟨by omega, by omega⟩).symm
    · rw [if_neg (fun e => h1 e.2), if_pos h0]
      exact (if_neg (by omega)).symm
  · rw [if_neg (fun e => h0 e.1), if_neg h0]

/-- what machineOf hands back -/
def MachPost (f : FuncM) (I : InM) (B : Nat) (_bv : Value) (F : Nat) (w : World) (e : Ending) (w' : World) : Prop :=
  ∃ (c : MachC) (val : MVals), e = .returned (.pointer (some ⟨c.m, 0, none⟩)) ∧ c.f = f ∧ c.B = B ∧ c.nv = (roomM f).toNat ∧ c.fuel = F ∧ MachR c (fun b => b < w.heap.size ∨ b = c.M) w' val (startS f I) ∧ Below w.heap.size w w'

set_option maxRecDepth 100000 in
set_option maxHeartbeats 8000000 in
theorem machineOf_any (f : FuncM) (I : InM) (B : Nat) (pv bv av rv : Value) (F : Nat) (w : World) (hpv : Ints w B pv f.params) (hbv : BlocksR w B bv f.blocks) (hB : B ≤ w.heap.size) (hid : ∀ u ∈ usesM f, I64 u.1)
    (hr : ∀ x ∈ idsOut f, 0 ≤ x ∧ x ≤ 1048575) (hpar : f.params.length ≤ 16 ∧ (f.params.length : Int) ≤ roomM f) (hcel : 0 ≤ f.cells ∧ f.cells ≤ 64) (harr : 0 ≤ f.arrays ∧ f.arrays ≤ 8) (hnb : f.blocks.length ≤ 512)
    (ha : Ints w B av I.args) (hT : TakeArrs f I B w rv) (A2 : Option Addr) (rl rc : Nat) (hrv : rv = .slice A2 rl rc) :
    Calls Tryz.prog 42 #[.agg #[pv, .int .i64 f.arrays, .int .i64 f.cells, bv], .agg #[av, rv], .int .i64 F] w (MachPost f I B bv F w) := by
  obtain ⟨i0, hix, hi2⟩ : ∃ i, Tryz.prog.info? 3 = some i ∧ i.zero = some (.int .i64 0) ∧ i.size = 1 ∧ i.bytes = 8 := ⟨_, rfl, rfl, rfl, rfl⟩
  obtain ⟨hz0, hz1, hz2⟩ := hi2
  obtain ⟨j0, hjx, hj2⟩ : ∃ i, Tryz.prog.info? 22 = some i ∧ i.zero = some (.slice none 0 0) ∧ i.size = 1 ∧ i.bytes = 24 := ⟨_, rfl, rfl, rfl, rfl⟩
  obtain ⟨hy0, hy1, hy2⟩ := hj2
  have HPV := hideI hpv
  have HBV := hideI hbv
  have HAV := hideI ha
  obtain ⟨P, pc, rfl, _, _⟩ := hpv
  obtain ⟨A, cc, rfl, _, _⟩ := hbv
  obtain ⟨A1, ac, rfl, _, _⟩ := ha
  subst hrv
  obtain ⟨nvN, hnv⟩ : ∃ n : Nat, n = (roomM f).toNat := ⟨_, rfl⟩
  have hroom : roomM f = nvN ∧ nvN ≤ 1048576 := by
    unfold roomM at *
    cases hl : (idsOut f).getLast? with
    | none => rw [hl] at hnv; simp only at hnv ⊢; omega
    | some x =>
      have := hr x (List.mem_of_getLast? hl)
      rw [hl] at hnv
      simp only at hnv ⊢
      omega
  obtain ⟨ncN, hnc⟩ : ∃ n : Nat, f.cells = n := ⟨f.cells.toNat, by omega⟩
  obtain ⟨naN, hna⟩ : ∃ n : Nat, f.arrays = n := ⟨f.arrays.toNat, by omega⟩
  obtain ⟨nb, hnbN⟩ : ∃ n : Nat, n = f.blocks.length := ⟨_, rfl⟩
  obtain ⟨W1, hW1⟩ : ∃ W1, W1 = (w.alloc (.cells #[.slice P f.params.length pc, .int .i64 f.arrays, .int .i64 f.cells, .slice A f.blocks.length cc] 25)).alloc (.cells #[.slice A1 I.args.length ac, .slice A2 rl rc] 41) := ⟨_, rfl⟩
  have hb1 : Below w.heap.size w W1 := by rw [hW1]; exact ((Below.refl _ w).alloc (Nat.le_refl _) _).alloc (by simp) _
  have hs1 : W1.heap.size = w.heap.size + 2 := by rw [hW1]; simp
  have hf0 : W1.heap[w.heap.size]? = some (.cells #[.slice P f.params.length pc, .int .i64 f.arrays, .int .i64 f.cells, .slice A f.blocks.length cc] 25 (0, 0)) := by
    rw [hW1, Below.heap_alloc _ _ _ (by simp)]
    exact heap_alloc_new w _
  have hi0 : W1.heap[w.heap.size + 1]? = some (.cells #[.slice A1 I.args.length ac, .slice A2 rl rc] 41 (0, 0)) := by
    rw [hW1]
    have := heap_alloc_new (w.alloc (.cells #[.slice P f.params.length pc, .int .i64 f.arrays, .int .i64 f.cells, .slice A f.blocks.length cc] 25)) (.cells #[.slice A1 I.args.length ac, .slice A2 rl rc] 41)
    simpa using this
  have hk1 : Keeps B w W1 := Keeps.of_below (hb1.mono hB)
  rw [hnc, hna, ← hnbN] at hf0
  rw [hnc, hna, ← hnbN] at hW1
  have HF0 := hideI hf0
  have HI0 := hideI hi0
  have HB1 := hideI hb1
  have HS1 := hideI hs1
  have HW1 := hideI hW1
  have HBX : Hid (∀ W, Below W1.heap.size W1 W → W.cell? ⟨w.heap.size, 0, none⟩ = some (.slice P f.params.length pc) ∧ W.cell? ⟨w.heap.size, 1, none⟩ = some (.int .i64 naN) ∧ W.cell? ⟨w.heap.size, 2, none⟩ = some (.int .i64 ncN) ∧ W.cell? ⟨w.heap.size, 3, none⟩ = some (.slice A nb cc) ∧ W.cell? ⟨w.heap.size + 1, 0, none⟩ = some (.slice A1 I.args.length ac) ∧ W.cell? ⟨w.heap.size + 1, 1, none⟩ = some (.slice A2 rl rc)) := hideI fun W hW => by
    have hx := row_cells HF0.out (hW.block _ (by have := HS1.out; omega))
    have hy := row_cells HI0.out (hW.block _ (by have := HS1.out; omega))
    exact ⟨hx 0, hx 1, hx 2, hx 3, hy 0, hy 1⟩
  have HROOM : Hid (∀ W, Below W1.heap.size W1 W → Calls Tryz.prog 74 #[.agg #[.slice P f.params.length pc, .int .i64 naN, .int .i64 ncN, .slice A nb cc]] W fun e w' => e = .returned (.int .i64 nvN) ∧ Below W.heap.size W w') := hideI fun W hW => by
    have hk := hk1.trans (Keeps.of_below (hW.mono (by have := HS1.out; omega)))
    have h := roomFor_any f B _ _ W (HPV.out.keeps hk) (HBV.out.keeps hk) (by have := hW.size; have := HS1.out; omega) hid hr
    rw [hroom.1, hnc, hna, ← hnbN] at h
    exact h
  obtain ⟨RV, hRV⟩ : ∃ RV, RV = madeCells (Value.int .i64 0).cells (nvN * 1) := ⟨_, rfl⟩
  obtain ⟨RC, hRC⟩ : ∃ RC, RC = madeCells (Value.int .i64 0).cells (ncN * 1) := ⟨_, rfl⟩
  have HRV : Hid (RV.toList = List.replicate nvN (.int .i64 0)) := hideI (by rw [hRV, Nat.mul_one]; exact madeRow_zero nvN)
  have HRC : Hid (RC.toList = List.replicate ncN (.int .i64 0)) := hideI (by rw [hRC, Nat.mul_one]; exact madeRow_zero ncN)
  have hmkV : ∀ W : World, (Instr.makeSlice 22 (.int .i64 nvN) (.int .i64 nvN)).run Tryz.prog W = .ok (.slice (some ⟨W.heap.size, 0, none⟩) nvN nvN) (W.alloc (.cells RV 3)) := fun W => by
    have := run_make (P := Tryz.prog) W 22 3 i0 (.int .i64 0) Tryz.underlying22 hix hz0 .i64 .i64 (nvN : Int) (nvN : Int) (by omega) (Int.le_refl _) (by rw [hz2]; omega) (by omega)
    rw [hz1, Int.toNat_natCast, ← hRV] at this
    exact this
  have hmkC : ∀ W : World, (Instr.makeSlice 22 (.int .i64 ncN) (.int .i64 ncN)).run Tryz.prog W = .ok (.slice (some ⟨W.heap.size, 0, none⟩) ncN ncN) (W.alloc (.cells RC 3)) := fun W => by
    have := run_make (P := Tryz.prog) W 22 3 i0 (.int .i64 0) Tryz.underlying22 hix hz0 .i64 .i64 (ncN : Int) (ncN : Int) (by omega) (Int.le_refl _) (by rw [hz2]; omega) (by omega)
    rw [hz1, Int.toNat_natCast, ← hRC] at this
    exact this
  have HNV : Hid (nvN = (roomM f).toNat ∧ nvN ≤ 1048576 ∧ ncN ≤ 64 ∧ naN ≤ 8 ∧ nb ≤ 512) := hideI ⟨hnv, hroom.2, by omega, by omega, by omega⟩
  have HBV1 := hideI (HBV.out.keeps hk1)
  rw [← hnbN] at HBV1
  have HNC := hideI hnc
  have HNA := hideI hna
  have HNB := hideI hnbN
  have HPAR := hideI hpar
  have HT := hideI hT
  have hbx := HBX.out W1 (Below.refl _ _)
  obtain ⟨q0, q1, q2, q3, q4, q5⟩ := hbx
  have hlt0 : w.heap.size < W1.heap.size := by omega
  have hlt1 : w.heap.size + 1 < W1.heap.size := by omega
  rw [hnc, hna, ← hnbN]
  clear hRV hRC hnv hroom hnc hna hnbN hpar hT hW1 hb1 hs1 hf0 hi0 hk1 hid hr hcel harr hnb
  go_enter Tryz.func42, Tryz.ntmps42
  go_upto_region 1 with fail
  rw [← HW1.out]
  go_cut [7] (fun u wx => ∃ (c : MachC) (val : MVals), u = .pointer (some ⟨c.m, 0, none⟩) ∧ Hid (c.f = f ∧ c.B = B ∧ c.nv = nvN ∧ c.fuel = F ∧ MachR c (fun b => b < W1.heap.size ∨ b = c.M) wx val (firstS ncN) ∧ Below W1.heap.size W1 wx))
  case first =>
    have hc64 : ncN ≤ 2000000 := by have := HNV.out; omega
    have hv20 : nvN ≤ 2000000 := by have := HNV.out; omega
    have HC64 := hideI hc64
    have HV20 := hideI hv20
    have hw1B : B ≤ W1.heap.size := by have := HS1.out; omega
    have HW1B := hideI hw1B
    clear hc64 hv20 hw1B q4 q5
    go_region_held3 (fun w' => w'.cell? ⟨w.heap.size, 0, none⟩ = some (.slice P f.params.length pc) ∧ w'.cell? ⟨w.heap.size, 1, none⟩ = some (.int .i64 naN) ∧ w'.cell? ⟨w.heap.size, 2, none⟩ = some (.int .i64 ncN) ∧ w'.cell? ⟨w.heap.size, 3, none⟩ = some (.slice A nb cc)) (first | go_keep | exact HKP.out)
      (first
        | (go_at_call 47; refine (pairs_any _).mono ?_; rintro e w2 ⟨rfl, hops, hbp⟩; (first | (have hMN := hideI (MN.ops (MN.start W1 1 (nv := nvN) (nc := ncN)) hbp hops)) | (have hMN := hideI (MN.ops (MN.cells (MN.start W1 1 (nv := nvN) (nc := ncN)) HC64.out HRC.out) hbp hops))); have hpp := HBX.out _ hMN.out.below; have HKP := hideI (And.intro hpp.1 (And.intro hpp.2.1 (And.intro hpp.2.2.1 hpp.2.2.2.1))); have hw2l := hMN.out.below.size; clear hpp hops hbp)
        | (go_at_call 74; refine (HROOM.out _ (by first | exact hMN.out.below | exact (hMN.out.cells HC64.out HRC.out).below)).mono ?_; rintro e w3 ⟨rfl, hbr⟩; (first | (have hMN2 := hideI (hMN.out.grow hbr)) | (have hMN2 := hideI ((hMN.out.cells HC64.out HRC.out).grow hbr))); have hpp := HBX.out _ hMN2.out.below; have HKP := hideI (And.intro hpp.1 (And.intro hpp.2.1 (And.intro hpp.2.2.1 hpp.2.2.2.1))); have hw3l := hMN2.out.below.size; clear hpp hbr))
    all_goals
      go_wp2_with fail
      go_meet
      first
        | (have hd := MN.done (F := (F : Int)) (hMN2.out.vals HV20.out HRV.out) HBV1.out HW1B.out
           simp only [World.size_alloc, World.heap_drewN] at hd
           exact hd)
        | (have hd := MN.done (F := (F : Int)) ((hMN2.out.cells HC64.out HRC.out).vals HV20.out HRV.out) HBV1.out HW1B.out
           simp only [World.size_alloc, World.heap_drewN] at hd
           exact hd)
        | (have hd := MN.done (F := (F : Int)) ((hMN2.out.vals HV20.out HRV.out).cells HC64.out HRC.out) HBV1.out HW1B.out
           simp only [World.size_alloc, World.heap_drewN] at hd
           exact hd)
  case rest =>
    obtain ⟨c, val, rfl, hcut⟩ := hcut
    obtain ⟨hcf, hcB, hcn, hcF, hm, hb⟩ := hcut.out
    have HC := hideI (And.intro hcf (And.intro hcB (And.intro hcn hcF)))
    have HM := hideI hm
    have HBW := hideI hb
    have q := HBX.out _ hb
    clear q0 q1 q2 q3 q4 q5 hcut hcf hcB hcn hcF
    obtain ⟨q0, q1, q2, q3, q4, q5⟩ := q
    have f7 := hm.free 7
    have c7 := hm.cells 7
    simp only [machCells] at c7
    have hml := hm.m_lt
    have hnbl := HNV.out
    have z1 : ¬ c.m = w.heap.size := fun e => HM.out.offm (.inl (by rw [e]; omega))
    have z1' : ¬ w.heap.size = c.m := fun e => z1 e.symm
    have z2 : ¬ c.m = w.heap.size + 1 := fun e => HM.out.offm (.inl (by rw [e]; omega))
    have z2' : ¬ w.heap.size + 1 = c.m := fun e => z2 e.symm
    have HBY : Hid (∀ W, Below wc.heap.size wc W → Below W1.heap.size W1 W) := hideI fun W hW => HBW.out.trans (hW.mono HBW.out.size)
    clear hm hb
    go_upto_region 3 with (first
      | (at_make; go_must (refine wpList_make_full _ rfl _ _ 22 rfl wc.heap.size 3 i0 (.int .i64 0) 1 Tryz.underlying22 hix hz0 hz1 .i64 .i64 _ _ nb rfl rfl rfl rfl (by rw [hz2]; omega) (by unfold maxLen; omega) (Nat.le_refl _) ?_); intro w5 hown5 hg5; have hB5 : Below wc.heap.size wc w5 := (Below.refl _ _).grown hg5 (Nat.le_refl _) (by simp); have HB5 := hideI hB5; have HO5 := hideI hown5; have c7' := (World.cell?_of_block (a := ⟨c.m, 7, none⟩) (hB5.block _ hml)).trans c7; have f7' := (World.frozen?_of_block (a := ⟨c.m, 7, none⟩) (hB5.block _ hml)).trans f7; clear hown5 hg5 hB5 c7 f7 q0 q1 q2 q3 q4 q5))
    obtain ⟨W6, hW6⟩ : ∃ W6, W6 = w5.setCell ⟨c.m, 7, none⟩ (.slice (some ⟨wc.heap.size, 0, none⟩) nb nb) := ⟨_, rfl⟩
    have h6 := HM.out.newVis (n := nb) HB5.out (v := .slice (some ⟨wc.heap.size, 0, none⟩) nb nb) (by have h := HO5.out; rw [Nat.mul_one, madeRow_zero] at h; exact h)
    have hb6 : Below W1.heap.size W1 W6 := by rw [hW6]; exact (HBY.out _ HB5.out).setCell (p := ⟨c.m, 7, none⟩) (Nat.not_lt.1 (fun e => HM.out.offm (.inl e))) _
    rw [← hW6] at h6 ⊢
    obtain ⟨h6a, h6b⟩ := h6
    obtain ⟨q0, q1, q2, q3, q4, q5⟩ := HBX.out _ hb6
    have f4 := h6a.free 4
    have c4 := h6a.cells 4
    simp only [machCells] at c4
    have hml6 := h6a.m_lt
    have HM6 := hideI h6a
    have HB6 := hideI hb6
    clear c7' f7' h6a h6b hW6 hb6
    have hna8 := HNV.out
    go_upto_region 4 with (first
      | (at_make; go_must (refine wpList_make_full _ rfl _ _ 39 rfl W6.heap.size 22 j0 (.slice none 0 0) 1 Tryz.underlying39 hjx hy0 hy1 .i64 .i64 _ _ naN rfl rfl rfl rfl (by rw [hy2]; omega) (by unfold maxLen; omega) (Nat.le_refl _) ?_); intro w7 hown7 hg7; have hB7 : Below W6.heap.size W6 w7 := (Below.refl _ _).grown hg7 (Nat.le_refl _) (by simp); have HB7 := hideI hB7; have HO7 := hideI hown7; have c4' := (World.cell?_of_block (a := ⟨c.m, 4, none⟩) (hB7.block _ hml6)).trans c4; have f4' := (World.frozen?_of_block (a := ⟨c.m, 4, none⟩) (hB7.block _ hml6)).trans f4; clear hown7 hg7 hB7 c4 f4 q0 q1 q2 q3 q4 q5))
    obtain ⟨W8, hW8⟩ : ∃ W8, W8 = w7.setCell ⟨c.m, 4, none⟩ (.slice (some ⟨W6.heap.size, 0, none⟩) naN naN) := ⟨_, rfl⟩
    have h8 := HM6.out.newArrs (n := naN) HB7.out (v := .slice (some ⟨W6.heap.size, 0, none⟩) naN naN) (by have h := HO7.out; rw [Nat.mul_one, show (Value.slice none 0 0).cells = #[.slice none 0 0] from rfl, toList_madeCells_one] at h; exact h)
    rw [← hW8] at h8 ⊢
    obtain ⟨val8, h8a, h8b⟩ := h8
    have hb8 : Below W1.heap.size W1 W8 := HB6.out.trans (h8b.below (fun b hb => .inl hb))
    obtain ⟨q0, q1, q2, q3, q4, q5⟩ := HBX.out _ hb8
    have HM8 := hideI h8a
    have HB8 := hideI hb8
    have HKB : Hid (∀ W, Below W1.heap.size W1 W → Keeps B w W) := hideI fun W hW => (Keeps.of_below (HB1.out.mono hB)).trans (Keeps.of_below (hW.mono (by have := HS1.out; omega)))
    have HBK : Hid (∀ b, b < B → b < W1.heap.size ∨ b = c.M) := hideI fun b hb => .inl (by have := HS1.out; omega)
    have HA := hideI (takeArgs_any h8a f.params I.args B (.slice P f.params.length pc) (.slice A1 I.args.length ac) (HPV.out.keeps (HKB.out _ hb8)) (HAV.out.keeps (HKB.out _ hb8)) HBK.out (by have := HPAR.out; have := HNV.out; have := HC.out.2.2.1; omega) HPAR.out.1)
    clear c4' f4' hW8 h8a h8b hb8
    go_wp2_with (first
      | (go_at_call 75; refine HA.out.mono ?_; rintro e w9 ⟨rfl, hm9, hf9⟩; have hb9 : Below W1.heap.size W1 w9 := HB8.out.trans (hf9.below (fun b hb => .inl hb)); have HM9 := hideI hm9; have HB9 := hideI hb9; clear hm9 hf9 hb9 q0 q1 q2 q3 q4 q5; have qq := HBX.out w9 HB9.out; obtain ⟨q0, q1, q2, q3, q4, q5⟩ := qq)
      | (go_at_call 76; refine (HT.out c _ w9 val8 _ HM9.out (HKB.out _ HB9.out) HBK.out (by rw [HNA.out]; rfl)).mono ?_; rintro e w10 ⟨rfl, val10, hm10, hf10⟩; have HM10 := hideI hm10; have HB10 := hideI (HB9.out.trans (hf10.below (fun b hb => .inl hb))); clear hm10 hf10))
    go_ret
    have e : startS f I = { val := argVals (fun _ => 0) f.params I.args (min f.params.length I.args.length), cells := List.replicate ncN 0, arrs := (startS f I).arrs, out := [], steps := 0, checks := 0, vis := List.replicate nb 0 } := by
      rw [start_vals]
      unfold startS
      rw [HNC.out, ← HNB.out]
      rfl
    refine ⟨c, val10, rfl, HC.out.1, HC.out.2.1, by rw [HC.out.2.2.1]; exact HNV.out.1, HC.out.2.2.2, ?_, HB1.out.trans (HB10.out.mono (by have := HS1.out; omega))⟩
    rw [e]
    exact HM10.out.less (fun b hb => by rcases hb with hb | hb; exact .inl (by have := HS1.out; omega); exact .inr hb) (fun b hb => .inl (by have := HC.out.2.1; omega)) (.inr rfl)

end Go.Proofs.YtglbepdjahddmaaGreat

namespace Go.Proofs.YtglbepdjahddmaaGreat
open Go.RowKit Go.Maps

/-- a trace, as it lies -/
def TraceAt (base : Nat) (w : World) (v : Value) (s : StM) (en : EndM) : Prop :=
  ∃ (nv : Nat) (val : MVals), v = .agg #[.int .i64 en.1, .int .i64 en.2.1, .int .i64 en.2.2, val .out, val .arrs, .int .i64 s.steps, .int .i64 s.checks, val .vis] ∧ ∀ t d, mRow s nv val t = some d → w.ownsRow base d.elem 1 (val t) d.len d.cells

theorem owns_from {w : World} {b base : Nat} {e : TypeId} {size : Nat} {v : Value} {n : Nat} {xs : List Value} (h : w.ownsRow b e size v n xs) (hg : ∀ g, v.ownBlock = some g → base ≤ g) : w.ownsRow base e size v n xs := by
  refine ⟨h.1, ?_⟩
  rcases h.2 with h2 | ⟨g, cap, cur, hv, _, r⟩
  · exact .inl h2
  · exact .inr ⟨g, cap, cur, hv, hg g (by rw [hv]; rfl), r⟩

/-- what Run answers -/
def RunIs (f : FuncM) (I : InM) (F : Nat) (w : World) (e : Ending) (w' : World) : Prop :=
  ∃ v s en, e = .returned v ∧ EndIs f I (min F 200000) s en ∧ TraceAt w.heap.size w' v s en ∧ Below w.heap.size w w'

theorem row_form {w : World} {base : Nat} {e : TypeId} {size : Nat} {v : Value} {n : Nat} {xs : List Value} (h : w.ownsRow base e size v n xs) : ∃ A cp, v = .slice A n cp := by
  rcases h.2 with ⟨e, e0⟩ | ⟨g, cap, cur, e, _⟩
  · exact ⟨none, 0, by rw [e, e0]⟩
  · exact ⟨_, _, e⟩

/-- a trace is laid -/
theorem eight_set {w : World} {g : Nat} {a0 a1 a2 a3 a4 a5 a6 a7 : Value} {T : TypeId} (h : w.heap[g]? = some (.cells #[a0, a1, a2, a3, a4, a5, a6, a7] T (0, 0))) (v0 v1 v2 v3 v4 v5 v6 v7 : Value) {W : World}
    (hW : W = (((((((w.setCell ⟨g, 0, none⟩ v0).setCell ⟨g, 1, none⟩ v1).setCell ⟨g, 2, none⟩ v2).setCell ⟨g, 3, none⟩ v3).setCell ⟨g, 4, none⟩ v4).setCell ⟨g, 5, none⟩ v5).setCell ⟨g, 6, none⟩ v6).setCell ⟨g, 7, none⟩ v7) :
    W.heap[g]? = some (.cells #[v0, v1, v2, v3, v4, v5, v6, v7] T (0, 0)) ∧ (∀ b, b ≠ g → W.heap[b]? = w.heap[b]?) ∧ (∀ B, B ≤ g → Below B w W) := by
  subst hW
  have h0 := heap_setCell_same w g 0 _ _ v0 h
  have h1 := heap_setCell_same _ g 1 _ _ v1 h0
  have h2 := heap_setCell_same _ g 2 _ _ v2 h1
  have h3 := heap_setCell_same _ g 3 _ _ v3 h2
  have h4 := heap_setCell_same _ g 4 _ _ v4 h3
  have h5 := heap_setCell_same _ g 5 _ _ v5 h4
  have h6 := heap_setCell_same _ g 6 _ _ v6 h5
  have h7 := heap_setCell_same _ g 7 _ _ v7 h6
  refine ⟨h7.trans (by simp), fun b hb => ?_, fun B hB => ?_⟩
  · rw [Below.heap_setCell _ _ _ _ (by exact hb), Below.heap_setCell _ _ _ _ (by exact hb), Below.heap_setCell _ _ _ _ (by exact hb), Below.heap_setCell _ _ _ _ (by exact hb), Below.heap_setCell _ _ _ _ (by exact hb), Below.heap_setCell _ _ _ _ (by exact hb), Below.heap_setCell _ _ _ _ (by exact hb), Below.heap_setCell _ _ _ _ (by exact hb)]
  · exact ((((((((Below.refl B w).setCell (p := ⟨g, 0, none⟩) hB v0).setCell (p := ⟨g, 1, none⟩) hB v1).setCell (p := ⟨g, 2, none⟩) hB v2).setCell (p := ⟨g, 3, none⟩) hB v3).setCell (p := ⟨g, 4, none⟩) hB v4).setCell (p := ⟨g, 5, none⟩) hB v5).setCell (p := ⟨g, 6, none⟩) hB v6).setCell (p := ⟨g, 7, none⟩) hB v7

set_option maxRecDepth 100000 in
set_option maxHeartbeats 4000000 in
theorem irun_yes (f : FuncM) (I : InM) (B : Nat) (pv bv av rv : Value) (F : Nat) (w : World) (hpv : Ints w B pv f.params) (hbv : BlocksR w B bv f.blocks) (hB : B ≤ w.heap.size) (hid : ∀ u ∈ usesM f, I64 u.1)
    (hstr : CheckIs f (0, 0)) (hok : FOk f (roomM f).toNat) (hfit : Fit f (startS f I))
    (hr : ∀ x ∈ idsOut f, 0 ≤ x ∧ x ≤ 1048575) (hpar : f.params.length ≤ 16 ∧ (f.params.length : Int) ≤ roomM f) (hcel : 0 ≤ f.cells ∧ f.cells ≤ 64) (harr : 0 ≤ f.arrays ∧ f.arrays ≤ 8) (hnb : f.blocks.length ≤ 512)
    (ha : Ints w B av I.args) (hT : ∀ W, Keeps B w W → TakeArrs f I B W rv) (A2 : Option Addr) (rl rc : Nat) (hrv : rv = .slice A2 rl rc) :
    Calls Tryz.prog 17 #[.agg #[pv, .int .i64 f.arrays, .int .i64 f.cells, bv], .agg #[av, rv], .int .i64 F] w (RunIs f I F w) := by
  have HPV := hideI hpv
  have HBV := hideI hbv
  have HAV := hideI ha
  obtain ⟨P, pc, rfl, _, _⟩ := hpv
  obtain ⟨A, cc, rfl, _, _⟩ := hbv
  obtain ⟨A1, ac, rfl, _, _⟩ := ha
  subst hrv
  obtain ⟨np, hnp⟩ : ∃ n : Nat, n = f.params.length := ⟨_, rfl⟩
  obtain ⟨nb, hnbN⟩ : ∃ n : Nat, n = f.blocks.length := ⟨_, rfl⟩
  obtain ⟨ni, hni⟩ : ∃ n : Nat, n = I.args.length := ⟨_, rfl⟩
  obtain ⟨W1, hW1⟩ : ∃ W1, W1 = ((w.alloc (.cells #[.slice P np pc, .int .i64 f.arrays, .int .i64 f.cells, .slice A nb cc] 25)).alloc (.cells #[.slice A1 ni ac, .slice A2 rl rc] 41)).alloc (.cells #[.int .i64 0, .int .i64 0, .int .i64 0, .slice none 0 0, .slice none 0 0, .int .i64 0, .int .i64 0, .slice none 0 0] 43) := ⟨_, rfl⟩
  have hb1 : Below w.heap.size w W1 := by rw [hW1]; exact (((Below.refl _ w).alloc (Nat.le_refl _) _).alloc (by simp) _).alloc (by simp; omega) _
  have hs1 : W1.heap.size = w.heap.size + 3 := by rw [hW1]; simp
  have hf0 : W1.heap[w.heap.size]? = some (.cells #[.slice P np pc, .int .i64 f.arrays, .int .i64 f.cells, .slice A nb cc] 25 (0, 0)) := by
    rw [hW1, Below.heap_alloc _ _ _ (by simp; omega), Below.heap_alloc _ _ _ (by simp)]
    exact heap_alloc_new w _
  have hi0 : W1.heap[w.heap.size + 1]? = some (.cells #[.slice A1 ni ac, .slice A2 rl rc] 41 (0, 0)) := by
    rw [hW1, Below.heap_alloc _ _ _ (by simp)]
    have := heap_alloc_new (w.alloc (.cells #[.slice P np pc, .int .i64 f.arrays, .int .i64 f.cells, .slice A nb cc] 25)) (.cells #[.slice A1 ni ac, .slice A2 rl rc] 41)
    simpa using this
  have ht0 : W1.heap[w.heap.size + 2]? = some (.cells #[.int .i64 0, .int .i64 0, .int .i64 0, .slice none 0 0, .slice none 0 0, .int .i64 0, .int .i64 0, .slice none 0 0] 43 (0, 0)) := by
    rw [hW1]
    have := heap_alloc_new ((w.alloc (.cells #[.slice P np pc, .int .i64 f.arrays, .int .i64 f.cells, .slice A nb cc] 25)).alloc (.cells #[.slice A1 ni ac, .slice A2 rl rc] 41)) (.cells #[.int .i64 0, .int .i64 0, .int .i64 0, .slice none 0 0, .slice none 0 0, .int .i64 0, .int .i64 0, .slice none 0 0] 43)
    simpa using this
  have HBX : Hid (∀ W, Below W1.heap.size W1 W → (W.cell? ⟨w.heap.size, 0, none⟩ = some (.slice P np pc) ∧ W.cell? ⟨w.heap.size, 1, none⟩ = some (.int .i64 f.arrays) ∧ W.cell? ⟨w.heap.size, 2, none⟩ = some (.int .i64 f.cells) ∧ W.cell? ⟨w.heap.size, 3, none⟩ = some (.slice A nb cc)) ∧ W.cell? ⟨w.heap.size + 1, 0, none⟩ = some (.slice A1 ni ac) ∧ W.cell? ⟨w.heap.size + 1, 1, none⟩ = some (.slice A2 rl rc)) := hideI fun W hW => by
    have hx := row_cells hf0 (hW.block _ (by omega))
    have hy := row_cells hi0 (hW.block _ (by omega))
    exact ⟨⟨hx 0, hx 1, hx 2, hx 3⟩, hy 0, hy 1⟩
  have hk1 : Keeps B w W1 := Keeps.of_below (hb1.mono hB)
  have HKW : Hid (∀ W, Below W1.heap.size W1 W → Keeps B w W) := hideI fun W hW => hk1.trans (Keeps.of_below (hW.mono (by omega)))
  have HCHK : Hid (Calls Tryz.prog 41 #[.agg #[.slice P np pc, .int .i64 f.arrays, .int .i64 f.cells, .slice A nb cc]] W1 fun e w' => e = .returned (.tuple #[.int .i64 0, .int .i64 0]) ∧ Below W1.heap.size W1 w') := hideI (by
    have h := sCheck_any f B _ _ W1 (HPV.out.keeps hk1) (HBV.out.keeps hk1) (by omega) hid
    rw [← hnp, ← hnbN] at h
    refine h.mono ?_
    rintro e w' ⟨x, y, rfl, hc, hb⟩
    have h1 := hc.one hstr
    injection h1 with h1 h2
    subst h1 h2
    exact ⟨rfl, hb⟩)
  obtain ⟨F2, hF2⟩ : ∃ F2 : Nat, F2 = min F 200000 := ⟨_, rfl⟩
  have HMO : Hid (∀ W, Below W1.heap.size W1 W → Calls Tryz.prog 42 #[.agg #[.slice P np pc, .int .i64 f.arrays, .int .i64 f.cells, .slice A nb cc], .agg #[.slice A1 ni ac, .slice A2 rl rc], .int .i64 F2] W (MachPost f I B (.slice A nb cc) F2 W)) := hideI fun W hW => by
    have hk := HKW.out W hW
    have h := machineOf_any f I B _ _ _ _ F2 W (HPV.out.keeps hk) (HBV.out.keeps hk) (by have := hW.size; omega) hid hr hpar hcel harr hnb (HAV.out.keeps hk) (hT W hk) A2 rl rc rfl
    rw [← hnp, ← hnbN, ← hni] at h
    exact h
  have HRUN : Hid (∀ (c : MachC) (W : World) (val : MVals), c.f = f → c.nv = (roomM f).toNat → c.fuel = F2 → MachR c (fun b => b < W1.heap.size ∨ b = c.M) W val (startS f I) → Calls Tryz.prog 43 #[.pointer (some ⟨c.m, 0, none⟩)] W (RunPost c (fun b => b < W1.heap.size ∨ b = c.M) I F2 W)) := hideI fun c W val h1 h2 h3 h4 => by
    subst h1
    exact run_any h4 I F2 h3 (by omega) (by rw [h2]; exact hok) hfit rfl
  have HW1 := hideI hW1
  have HB1 := hideI hb1
  have HS1 := hideI hs1
  have HT0 := hideI ht0
  have HF2 := hideI hF2
  have hbx := HBX.out W1 (Below.refl _ _)
  obtain ⟨⟨q0, q1, q2, q3⟩, q4, q5⟩ := hbx
  have hlt0 : w.heap.size < W1.heap.size := by omega
  have hlt1 : w.heap.size + 1 < W1.heap.size := by omega
  have hlt2 : w.heap.size + 2 < W1.heap.size := by omega
  have hfu : decide ((F : Int) < 0) = false := by simp
  have hmin : min (F : Int) 200000 = (F2 : Int) := by have := hF2; omega
  rw [← hnp, ← hnbN, ← hni]
  clear hnp hnbN hni hb1 hs1 hf0 hi0 ht0 hk1 hstr hok hfit hr hpar hcel harr hnb hT hF2 hW1 hid
  go_enter Tryz.func17, Tryz.ntmps17
  go_upto_region 1 with fail
  rw [← HW1.out]
  go_upto_region 4 with (first
    | (go_at_call 41; refine HCHK.out.mono ?_; rintro e w2 ⟨rfl, hb2⟩; have HB2 := hideI hb2; clear hb2 q0 q1 q2 q3 q4 q5; have qq := HBX.out w2 HB2.out; obtain ⟨⟨q0, q1, q2, q3⟩, q4, q5⟩ := qq))
  have hkf5 : ∀ b, b < B → b < W1.heap.size := fun b hb => by omega
  have HKF5 := hideI hkf5
  rw [← hmin] at HMO
  have HMIN := hideI hmin
  clear hmin hkf5
  go_wp2_with (first
      | (go_at_call 42; go_must (refine (HMO.out _ HB2.out).mono ?_); rintro e w3 ⟨c, val, rfl, hcf, hcB, hcn, hcF, hm, hb3⟩; have HB3 := hideI (HB2.out.trans (hb3.mono HB2.out.size)); have HM3 : Hid (MachR c (fun b => b < W1.heap.size ∨ b = c.M) w3 val (startS f I)) := hideI (hm.less (fun b hb => by rcases hb with hb | hb; exact .inl (Nat.lt_of_lt_of_le hb HB2.out.size); exact .inr hb) (fun b hb => .inl (HKF5.out b (by rw [← hcB]; exact hb))) (.inr rfl)); have HCF := hideI (And.intro hcf (And.intro hcn hcF)); clear hm hb3 hcf hcB hcn hcF q0 q1 q2 q3 q4 q5)
      | (go_at_call 43; go_must (refine (HRUN.out c _ val HCF.out.1 HCF.out.2.1 HCF.out.2.2 HM3.out).mono ?_); rintro e w4 ⟨rfl, val4, s4, en4, hend, hdone, hoff, hkf⟩; have HOFF := hideI hoff; have HEND := hideI hend; have HDONE := hideI hdone; have HB4 := hideI (HB3.out.trans (hkf.below (fun b hb => .inl hb))); have hmne := HM3.out.offm; clear hend hkf hoff; obtain ⟨⟨o8, o9, o10, o11, o12, hblk⟩, hrows⟩ := hdone; have hx := row_cells hblk rfl; have x0 := hx 0; have x1 := hx 1; have x2 := hx 2; have x3 := hx 3; have x4 := hx 4; have x5 := hx 5; have x6 := hx 6; have x7 := hx 7; obtain ⟨Ao, co, ho⟩ := row_form (hrows .out _ rfl); obtain ⟨Aa, ca, ha⟩ := row_form (hrows .arrs _ rfl); obtain ⟨Av, cv, hv⟩ := row_form (hrows .vis _ rfl); have ho : val4 .out = .slice Ao s4.out.length co := ho; have hv : val4 .vis = .slice Av s4.vis.length cv := hv; rw [ho] at x3; rw [ha] at x4; rw [hv] at x7; have HVV := hideI (And.intro ho (And.intro ha hv)); clear ho ha hv; have hbt := (HB4.out.block (w.heap.size + 1 + 1) (by omega)).trans HT0.out; have hy := row_cells hbt rfl; have hz := fun o => frozen_of_row w4 (w.heap.size + 1 + 1) o _ _ hbt; have y0 := hy 0; have y1 := hy 1; have y2 := hy 2; have y3 := hy 3; have y4 := hy 4; have y5 := hy 5; have y6 := hy 6; have y7 := hy 7; have z0 := hz 0; have z1 := hz 1; have z2 := hz 2; have z3 := hz 3; have z4 := hz 4; have z5 := hz 5; have z6 := hz 6; have z7 := hz 7; have HBT := hideI hbt; clear hx hy hz hblk hrows hbt))
  obtain ⟨W8, hW8⟩ : ∃ W8, W8 = (((((((w4.setCell ⟨w.heap.size + 1 + 1, 0, none⟩ (.int .i64 en4.1)).setCell ⟨w.heap.size + 1 + 1, 1, none⟩ (.int .i64 en4.2.1)).setCell ⟨w.heap.size + 1 + 1, 2, none⟩ (.int .i64 en4.2.2)).setCell ⟨w.heap.size + 1 + 1, 3, none⟩ (.slice Ao s4.out.length co)).setCell ⟨w.heap.size + 1 + 1, 4, none⟩ (.slice Aa s4.arrs.length ca)).setCell ⟨w.heap.size + 1 + 1, 5, none⟩ (.int .i64 s4.steps)).setCell ⟨w.heap.size + 1 + 1, 6, none⟩ (.int .i64 s4.checks)).setCell ⟨w.heap.size + 1 + 1, 7, none⟩ (.slice Av s4.vis.length cv) := ⟨_, rfl⟩
  rw [← hW8]
  obtain ⟨hb8, ho8, hbe8⟩ := eight_set HBT.out _ _ _ _ _ _ _ _ hW8
  have hx := row_cells hb8 rfl
  have s0 := hx 0
  have s1 := hx 1
  have s2 := hx 2
  have s3 := hx 3
  have s4' := hx 4
  have s5 := hx 5
  have s6 := hx 6
  have s7 := hx 7
  clear hx hW8 x0 x1 x2 x3 x4 x5 x6 x7 y0 y1 y2 y3 y4 y5 y6 y7 z0 z1 z2 z3 z4 z5 z6 z7
  refine bodyPost_ret (v := .agg #[.int .i64 en4.1, .int .i64 en4.2.1, .int .i64 en4.2.2, .slice Ao s4.out.length co, .slice Aa s4.arrs.length ca, .int .i64 s4.steps, .int .i64 s4.checks, .slice Av s4.vis.length cv]) (by simp [results, Tryz.results17, go_sem, s0, s1, s2, s3, s4', s5, s6, s7]) rfl ?_
  refine ⟨_, s4, en4, rfl, by rw [← HF2.out]; exact (by have h := HEND.out; rw [HCF.out.1] at h; exact h), ⟨c.nv, val4, by rw [HVV.out.1, HVV.out.2.1, HVV.out.2.2], fun t d ht => ?_⟩, ?_⟩
  · refine owns_from (owns_kept (HDONE.out.rows t d ht) fun g hg => ho8 g (fun e => HOFF.out t d g ht hg (.inl ?_))) fun g hg => Nat.le_of_not_lt fun hlt => HOFF.out t d g ht hg (.inl (by omega))
    rw [e]
    exact hlt2
  · exact HB1.out.trans ((HB4.out.mono (by have := HS1.out; omega)).trans (hbe8 _ (by omega)))
end Go.Proofs.YtglbepdjahddmaaGreat

namespace Go.Proofs.YtglbepdjahddmaaGreat
open Go.RowKit Go.Maps

theorem check_zero {f : FuncM} (h : CheckIs f (0, 0)) : (lookM f).1 = 0 ∧ (∀ b, b < f.blocks.length → phisR f b) := by
  rcases h with ⟨h1, h2⟩ | ⟨h0, o, ho, hf⟩
  · exact absurd (Prod.mk.inj h2).2.symm h1
  · rcases hf with ⟨b, _, e⟩ | ⟨_, b, _, e⟩ | ⟨_, _, b, _, e⟩ | ⟨a0, a1, a2, e⟩
    · exact absurd (Prod.mk.inj e).2 (by decide)
    · exact absurd (Prod.mk.inj e).2 (by decide)
    · exact absurd (Prod.mk.inj e).2 (by decide)
    · exact ⟨h0, a1⟩

/-- a value's number lies below the room -/
theorem value_room {f : FuncM} (h : (lookM f).1 = 0) {x : Int} (hx : x ∈ (valuesM f).map (·.1)) : 0 ≤ x ∧ x < ((roomM f).toNat : Int) := by
  have hv := formed_eq (look_formed h)
  rw [← hv] at hx
  obtain ⟨d, hd, rfl⟩ := List.mem_map.1 hx
  have h0 := ((formed_keys (look_formed h)).1 d hd).1
  have hm := idsS_mem.2 hx
  have hr : roomM f = match (idsS f).getLast? with | some x => x + 1 | none => 0 := by
    unfold roomM idsOut
    rw [if_pos h]
    rfl
  cases hl : (idsS f).getLast? with
  | none =>
    rw [List.getLast?_eq_none_iff] at hl
    rw [hl] at hm
    cases hm
  | some y =>
    have := last_max (idsS_sorted f) hl _ hm
    rw [hl] at hr
    simp only at hr
    omega

theorem used_room {f : FuncM} (h : (lookM f).1 = 0) {u : Int × Int} (hu : u ∈ usesM f) : 0 ≤ u.1 ∧ u.1 < ((roomM f).toNat : Int) := value_room h (look_used h u hu)

theorem takes_few (op : Int) : (takesS op).length ≤ 3 := by
  rcases op_cases op with h | h | h
  · rcases h with rfl | rfl | rfl | rfl | rfl | rfl | rfl | rfl | rfl | rfl | rfl | rfl | rfl <;> decide
  · rcases h with rfl | rfl | rfl | rfl | rfl | rfl | rfl | rfl | rfl | rfl | rfl | rfl <;> decide
  · unfold takesS
    rw [shapeS_none h]
    decide

theorem phi_value {f : FuncM} {q : BlockM} (hq : q ∈ f.blocks) {p : PhiM} (hp : p ∈ q.phis) : p.id ∈ (valuesM f).map (·.1) :=
  List.mem_map.2 ⟨(p.id, p.typ), List.mem_append.2 (.inr (List.mem_flatMap.2 ⟨q, hq, List.mem_append.2 (.inl (List.mem_map.2 ⟨p, hp, rfl⟩))⟩)), rfl⟩

theorem instr_value {f : FuncM} {q : BlockM} (hq : q ∈ f.blocks) {x : InstrM} (hx : x ∈ q.code) (h : makesS x.op ≠ 0) : x.id ∈ (valuesM f).map (·.1) := by
  refine List.mem_map.2 ⟨(x.id, makesS x.op), List.mem_append.2 (.inr (List.mem_flatMap.2 ⟨q, hq, List.mem_append.2 (.inr (List.mem_flatMap.2 ⟨x, hx, ?_⟩))⟩)), rfl⟩
  unfold valuesInstr
  rcases makes_cases x.op with hm | hm
  · exact absurd hm h
  · rw [if_pos hm]
    exact List.mem_singleton.2 rfl

theorem just_mem {fr ps : List Int} (h1 : fr.Nodup) (h : justB fr ps = true) {x : Int} (hx : x ∈ ps) : x ∈ fr := by
  unfold justB at h
  rw [Bool.and_eq_true, beq_iff_eq, List.all_eq_true] at h
  by_cases hxa : x ∈ fr
  · exact hxa
  · have := sub_len (x :: fr) ps (List.nodup_cons.2 ⟨hxa, h1⟩) (fun y hy => by rcases List.mem_cons.1 hy with rfl | hy; exact hx; exact of_decide_eq_true (h.2 y hy))
    rw [List.length_cons] at this
    omega

theorem size_block {bs : List BlockM} {q : BlockM} (hq : q ∈ bs) : q.phis.length + q.code.length + 1 ≤ (bs.map sizeB).sum := by
  induction bs with
  | nil => cases hq
  | cons a l ih =>
    rw [List.map_cons, List.sum_cons]
    rcases List.mem_cons.1 hq with rfl | hq
    · show _ ≤ sizeB q + _
      unfold sizeB
      omega
    · have := ih hq
      omega

theorem limits_of {f : FuncM} (h : (lookM f).1 = 0) : limitsB f = true := by
  have hr := look_right h
  unfold formedR at hr
  simp only [Bool.and_eq_true] at hr
  exact hr.1

theorem code_ok {f : FuncM} (h : (lookM f).1 = 0) {q : BlockM} (hq : q ∈ f.blocks) {x : InstrM} (hx : x ∈ q.code) : CodeOk f.arrays.toNat f.cells.toNat (roomM f).toNat x := by
  have hb := right_blockR h hq
  unfold blockR at hb
  simp only [Bool.and_eq_true, List.all_eq_true] at hb
  have hi := hb.2.1 x hx
  unfold instrR at hi
  rw [Bool.and_eq_true, Bool.and_eq_true, Bool.and_eq_true, beq_iff_eq] at hi
  obtain ⟨ho, hl, _, hf⟩ := hi
  obtain ⟨k, hk⟩ := List.getElem?_of_mem hq
  obtain ⟨j, hj⟩ := List.getElem?_of_mem hx
  refine ⟨fun i hi => ?_, hl, ho, fun e => ?_, fun e => ?_, fun e => value_room h (instr_value hq hx e), by rw [hl]; exact takes_few _⟩
  · obtain ⟨m, hm⟩ := List.getElem?_of_mem hi
    have hml := (List.getElem?_eq_some_iff.1 hm).1
    obtain ⟨t, ht⟩ : ∃ t, (takesS x.op)[m]? = some t := ⟨_, List.getElem?_eq_getElem (by omega)⟩
    exact used_room h (each3.mem_instr hk hj hm ht)
  · unfold fitsR at hf
    rw [e, if_neg (by decide), Bool.and_eq_true, decide_eq_true_iff, decide_eq_true_iff] at hf
    have : mostR f 3 = f.arrays - 1 := rfl
    omega
  · unfold fitsR at hf
    rw [e, if_neg (by decide), Bool.and_eq_true, decide_eq_true_iff, decide_eq_true_iff] at hf
    have : mostR f 4 = f.cells - 1 := rfl
    omega

theorem term_ok {f : FuncM} (h : (lookM f).1 = 0) {q : BlockM} (hq : q ∈ f.blocks) : TermOk (roomM f).toNat q.term := by
  have ht := look_term h q hq
  obtain ⟨k, hk⟩ := List.getElem?_of_mem hq
  unfold termB at ht
  rw [Bool.and_eq_true] at ht
  constructor
  · have ht := ht.2
    by_cases e1 : q.term.op = 1
    · simp [e1] at ht
      exact .inl ⟨e1, ht.1⟩
    · by_cases e2 : q.term.op = 2
      · simp [e2] at ht
        exact .inr (.inl ⟨e2, ht.1⟩)
      · by_cases e3 : q.term.op = 3
        · simp [e3] at ht
          exact .inr (.inr (.inl ⟨e3, by rw [ht.1]; rfl⟩))
        · by_cases e4 : q.term.op = 4
          · simp [e4] at ht
            exact .inr (.inr (.inr ⟨e4, by rw [ht.1]; rfl⟩))
          · simp [e1, e2, e3, e4] at ht
  · rintro (e | e)
    · exact used_room (u := (q.term.val, 2)) h (each3.mem_term hk (by unfold usesTerm; rw [if_pos e]; exact List.mem_singleton.2 rfl))
    · exact used_room (u := (q.term.val, 0)) h (each3.mem_term hk (by unfold usesTerm; rw [if_neg (by omega), if_pos e]; exact List.mem_singleton.2 rfl))

/-- a strict function may be run -/
theorem strict_fok {f : FuncM} (hs : CheckIs f (0, 0)) : FOk f (roomM f).toNat := by
  obtain ⟨h, hph⟩ := check_zero hs
  have hall := (formed_all (look_formed h)).1
  have hl := limits_bd (limits_of h)
  have hsz : ∀ (b : Nat) (q : BlockM), f.blocks[b]? = some q → q.phis.length + q.code.length + 1 ≤ 4096 := fun b q hq => by
    have := size_block (List.mem_of_getElem? hq)
    omega
  refine ⟨fun b q hq x hx => code_ok h (List.mem_of_getElem? hq) hx, fun b q hq => term_ok h (List.mem_of_getElem? hq), fun b q hq t ht => ?_, fun b q hq => by have := hsz b q hq; omega, fun b q hq => by have := hsz b q hq; omega, (look_some_block h).1, fun q hq => ?_⟩
  · have hin := term_in rfl (look_term h q (List.mem_of_getElem? hq)) t ht
    obtain ⟨tn, rfl⟩ : ∃ n : Nat, t = (n : Int) := ⟨t.toNat, by omega⟩
    refine ⟨tn, rfl, by omega, fun q' hq' p hp => ?_⟩
    have hmq := List.mem_of_getElem? hq'
    obtain ⟨j, hj⟩ := List.getElem?_of_mem hp
    have hon := (hall q' hmq).1 p hp
    unfold phiB at hon
    simp only [Bool.and_eq_true] at hon
    have hnd := (once_nodup _ _ hon.2.2).1
    have hjust : justB p.fr (predsI f.blocks tn) = true := by
      have := hph tn (by omega) q' hq'
      unfold phisFitB at this
      rw [List.all_eq_true] at this
      exact this p hp
    have hbn := (List.getElem?_eq_some_iff.1 hq).1
    refine ⟨just_mem hnd hjust ?_, look_phi h q' hmq p hp, fun v hv => ?_, value_room h (phi_value hmq hp)⟩
    · unfold predsI predsTo
      refine List.mem_map.2 ⟨b, List.mem_filter.2 ⟨List.mem_range.2 hbn, decide_eq_true ?_⟩, rfl⟩
      unfold succM
      rw [hq]
      exact List.mem_map.2 ⟨_, ht, rfl⟩
    · obtain ⟨m, hm⟩ := List.getElem?_of_mem hv
      exact used_room h (each3.mem_phi hq' hj hm)
  · have hr := look_right h
    unfold formedR headR at hr
    simp only [Bool.and_eq_true] at hr
    have := hr.2.2.1
    rw [List.headD_eq_head?_getD, List.head?_eq_getElem?, hq] at this
    simpa using this

theorem start_fit (f : FuncM) (I : InM) : Fit f (startS f I) := by
  unfold startS
  exact ⟨by simp, by simp, by simp, by simp⟩

/-- what else a strict function keeps -/
theorem strict_bounds {f : FuncM} (hs : CheckIs f (0, 0)) : (∀ x ∈ idsOut f, 0 ≤ x ∧ x ≤ 1048575) ∧ (f.params.length ≤ 16 ∧ (f.params.length : Int) ≤ roomM f) ∧ (0 ≤ f.cells ∧ f.cells ≤ 64) ∧ (0 ≤ f.arrays ∧ f.arrays ≤ 8) ∧ f.blocks.length ≤ 512 := by
  obtain ⟨h, _⟩ := check_zero hs
  have hl := limits_bd (limits_of h)
  have hk := formed_keys (look_formed h)
  refine ⟨fun x hx => ?_, ⟨hl.1, ?_⟩, ⟨hl.2.2.2.1, hl.2.2.2.2.1⟩, ⟨hl.2.1, hl.2.2.1⟩, hl.2.2.2.2.2.2.1⟩
  · unfold idsOut at hx
    rw [if_pos h] at hx
    obtain ⟨d, hd, rfl⟩ := List.mem_map.1 (idsS_mem.1 hx)
    exact hk.1 d hd
  · rcases Nat.eq_zero_or_pos f.params.length with e | e
    · rw [e]
      unfold roomM
      cases hg : (idsOut f).getLast? with
      | none => simp
      | some y =>
        have := (fun hx => by
          unfold idsOut at hx
          rw [if_pos h] at hx
          obtain ⟨d, hd, rfl⟩ := List.mem_map.1 (idsS_mem.1 hx)
          exact (hk.1 d hd).1 : y ∈ idsOut f → 0 ≤ y) (List.mem_of_getLast? hg)
        simp only
        omega
    · have := hk.2 (f.params.length - 1) (by omega)
      rw [formed_eq (look_formed h)] at this
      have := value_room h this
      omega

end Go.Proofs.YtglbepdjahddmaaGreat

namespace Go.Proofs.YtglbepdjahddmaaGreat
open Go.RowKit Go.Maps

/-- how often a block was come to -/
def visM (s : StM) (b : Nat) : Int := s.vis.getD b 0

/-- how often a block was left again, or is being ended -/
def leftM (c : CfgM) (b : Nat) : Int := visM c.s b - if c.b = b then 1 else 0

def sumOver (g : Nat → Int) : List Nat → Int
  | [] => 0
  | b :: r => g b + sumOver g r

theorem sumOver_append (g : Nat → Int) : ∀ (l r : List Nat), sumOver g (l ++ r) = sumOver g l + sumOver g r
  | [], r => by simp [sumOver]
  | a :: l, r => by
    show g a + sumOver g (l ++ r) = g a + sumOver g l + sumOver g r
    rw [sumOver_append g l r]
    omega

theorem sumOver_mono {g h : Nat → Int} : ∀ {l : List Nat}, (∀ b ∈ l, g b ≤ h b) → sumOver g l ≤ sumOver h l
  | [], _ => Int.le_refl _
  | a :: l, k => by
    have h1 := k a (List.mem_cons_self ..)
    have h2 := sumOver_mono (l := l) fun b hb => k b (List.mem_cons_of_mem _ hb)
    show g a + sumOver g l ≤ h a + sumOver h l
    omega

theorem sumOver_more {g h : Nat → Int} {x : Nat} {d : Int} : ∀ {l : List Nat}, (∀ b ∈ l, g b ≤ h b) → x ∈ l → g x + d ≤ h x → sumOver g l + d ≤ sumOver h l
  | a :: l, k, hx, hd => by
    show g a + sumOver g l + d ≤ h a + sumOver h l
    have hk := fun b hb => k b (List.mem_cons_of_mem _ hb)
    rcases List.mem_cons.1 hx with rfl | hx
    · have h2 := sumOver_mono hk
      omega
    · have h1 := k a (List.mem_cons_self ..)
      have h2 := sumOver_more hk hx hd
      omega

theorem sumOver_bound {g : Nat → Int} {M : Int} : ∀ {l : List Nat}, (∀ b ∈ l, 0 ≤ g b ∧ g b ≤ M) → 0 ≤ sumOver g l ∧ sumOver g l ≤ l.length * M
  | [], _ => by simp [sumOver]
  | a :: l, k => by
    obtain ⟨h0, h1⟩ := k a (List.mem_cons_self ..)
    obtain ⟨h2, h3⟩ := sumOver_bound (l := l) fun b hb => k b (List.mem_cons_of_mem _ hb)
    show 0 ≤ g a + sumOver g l ∧ g a + sumOver g l ≤ ((l.length + 1 : Nat) : Int) * M
    have e : ((l.length + 1 : Nat) : Int) * M = l.length * M + M := by rw [Int.natCast_add, Int.add_mul]; omega
    omega

def lenM (f : FuncM) (b : Nat) : Int := (blkM f b).code.length + 1

/-- what is so at every step of a run -/
structure VisM (f : FuncM) (c : CfgM) : Prop where
  len : c.s.vis.length = f.blocks.length
  cur : c.b < f.blocks.length
  pos : c.k ≤ (blkM f c.b).code.length
  low : ∀ b, 0 ≤ leftM c b ∧ visM c.s b ≤ c.s.steps + 1
  zero : visM c.s 0 = 1
  come : ∀ b, 0 < b → b < f.blocks.length → visM c.s b ≤ sumOver (leftM c) (predsTo f.blocks f.blocks.length b)
  ends : ∀ b, b < f.blocks.length → (blkM f b).term.to = [] → leftM c b ≤ 0
  most : (c.s.steps : Int) ≤ sumOver (fun b => lenM f b * leftM c b) (List.range f.blocks.length) + c.k + if c.fin = none then 0 else 1

theorem done_vis (x : InstrM) (s : StM) : (doM x s).1.vis = s.vis := by
  have hm : (madeM x (x.args.map s.val) s).1.vis = s.vis := by
    unfold madeM lookS
    repeat' split
    all_goals rfl
  have hl : (lookS x.op s).vis = s.vis := by unfold lookS; split <;> rfl
  unfold doM
  simp only
  repeat' split
  all_goals first | rfl | exact hl | (rename_i h; rw [h] at hm; exact hm)

theorem visM_set {vis : List Int} {b : Nat} (hb : b < vis.length) (v : Int) (x : Nat) : (vis.set b v).getD x 0 = if b = x then v else vis.getD x 0 := by
  rw [List.getD_eq_getElem?_getD, List.getD_eq_getElem?_getD]
  by_cases e : b = x
  · subst e
    rw [List.getElem?_set_self hb, if_pos rfl]
    rfl
  · rw [List.getElem?_set_ne e, if_neg e]

theorem vis_start {f : FuncM} {I : InM} (hok : 0 < f.blocks.length) : VisM f (startM f I) := by
  have hv : ∀ b, visM (startM f I).s b = if 0 = b then 1 else 0 := fun b => by
    unfold visM startM enterM arriveM startS
    simp only
    rw [visM_set (by simpa using hok)]
    by_cases e : 0 = b
    · rw [if_pos e, if_pos e]
      rw [List.getD_eq_getElem?_getD, List.getElem?_replicate]
      split <;> (show wrap64 (0 + 1) = 1; unfold wrap64; omega)
    · rw [if_neg e, if_neg e, List.getD_eq_getElem?_getD, List.getElem?_replicate]
      split <;> rfl
  have hl : ∀ b, leftM (startM f I) b = 0 := fun b => by
    unfold leftM
    rw [hv]
    show (if 0 = b then (1 : Int) else 0) - (if 0 = b then 1 else 0) = 0
    omega
  refine ⟨?_, hok, Nat.zero_le _, fun b => ⟨by rw [hl]; exact Int.le_refl _, ?_⟩, hv 0, fun b h0 _ => ?_, fun b _ _ => by rw [hl]; exact Int.le_refl _, ?_⟩
  · show ((List.replicate f.blocks.length (0 : Int)).set 0 _).length = _
    simp
  · rw [hv]
    show (if 0 = b then (1 : Int) else 0) ≤ ((0 : Nat) : Int) + 1
    split <;> decide
  · rw [hv, if_neg (by omega)]
    have := (sumOver_bound (g := leftM (startM f I)) (M := 0) (l := predsTo f.blocks f.blocks.length b) fun x _ => by rw [hl]; exact ⟨Int.le_refl _, Int.le_refl _⟩).1
    exact this
  · have := (sumOver_bound (g := fun b => lenM f b * leftM (startM f I) b) (M := 0) (l := List.range f.blocks.length) fun x _ => by rw [hl]; simp).1
    show ((0 : Nat) : Int) ≤ _ + ((0 : Nat) : Int) + 0
    omega

theorem blk_some {f : FuncM} {b : Nat} (h : b < f.blocks.length) : f.blocks[b]? = some (blkM f b) := by
  unfold blkM
  rw [List.getD_eq_getElem?_getD, List.getElem?_eq_getElem h]
  rfl

theorem vis_go {f : FuncM} {nv : Nat} (hok : FOk f nv) (hpos : ∀ q ∈ f.blocks, ∀ x ∈ q.term.to, 1 ≤ x) {c : CfgM} (h : VisM f c) (hs : c.s.steps < 4294967295) : VisM f (goM f c) := by
  have hb := blk_some h.cur
  cases hfin : c.fin with
  | some e => rw [goM_fin (by rw [hfin]; simp)]; exact h
  | none =>
  have hst := goM_steps (f := f) hfin
  unfold goM at hst ⊢
  rw [hfin] at hst ⊢
  simp only at hst ⊢
  split
  · -- an instruction
    rename_i x hx
    rw [hx] at hst
    have hx' := (List.getElem?_eq_some_iff.1 hx).1
    have ev := done_vis x (tickM c.s)
    have hv : ∀ b, visM (doM x (tickM c.s)).1 b = visM c.s b := fun b => by unfold visM; rw [ev]; rfl
    have hl : ∀ b, leftM ⟨(doM x (tickM c.s)).1, c.b, c.k + 1, (doM x (tickM c.s)).2⟩ b = leftM c b := fun b => by
      unfold leftM
      rw [show visM (CfgM.mk (doM x (tickM c.s)).1 c.b (c.k + 1) (doM x (tickM c.s)).2).s b = visM c.s b from hv b]
    have hsum : ∀ (l : List Nat) (g g2 : Nat → Int), (∀ b, g b = g2 b) → sumOver g l = sumOver g2 l := fun l g g2 e => by rw [show g = g2 from funext e]
    refine ⟨by show (doM x (tickM c.s)).1.vis.length = _; rw [ev]; exact h.len, h.cur, hx', fun b => ⟨by rw [hl]; exact (h.low b).1, ?_⟩, by show visM (doM x (tickM c.s)).1 0 = 1; rw [hv]; exact h.zero, fun b h0 hbn => ?_, fun b hbn he => by rw [hl]; exact h.ends b hbn he, ?_⟩
    · show visM (doM x (tickM c.s)).1 b ≤ _
      rw [hv]
      have := (h.low b).2
      show visM c.s b ≤ ((doM x (tickM c.s)).1.steps : Int) + 1
      have e := doM_steps x (tickM c.s)
      simp only [tickM] at e
      simp only [tickM]
      omega
    · show visM (doM x (tickM c.s)).1 b ≤ _
      rw [hv, hsum _ _ _ hl]
      exact h.come b h0 hbn
    · have hm := h.most
      rw [hfin, if_pos rfl] at hm
      rw [hsum _ _ _ (fun b => by rw [hl b] : ∀ b, lenM f b * leftM ⟨(doM x (tickM c.s)).1, c.b, c.k + 1, (doM x (tickM c.s)).2⟩ b = lenM f b * leftM c b)]
      have e := doM_steps x (tickM c.s)
      simp only [tickM] at e
      show ((doM x (tickM c.s)).1.steps : Int) ≤ _ + ((c.k + 1 : Nat) : Int) + if (doM x (tickM c.s)).2 = none then 0 else 1
      have hif : (0 : Int) ≤ if (doM x (tickM c.s)).2 = none then 0 else 1 := by split <;> decide
      simp only [tickM]
      simp only [tickM] at hif
      omega
  · -- the block's end
    rename_i hx
    have hk : c.k = (blkM f c.b).code.length := by
      have := List.getElem?_eq_none_iff.1 hx
      have := h.pos
      omega
    have ht := (hok.term c.b _ hb).op
    unfold leaveM
    simp only
    split
    · refine ⟨h.len, h.cur, h.pos, fun b => ⟨(h.low b).1, ?_⟩, h.zero, h.come, h.ends, ?_⟩
      · have := (h.low b).2
        show visM c.s b ≤ ((c.s.steps + 1 : Nat) : Int) + 1
        omega
      · have hm := h.most
        rw [hfin, if_pos rfl] at hm
        show ((c.s.steps + 1 : Nat) : Int) ≤ sumOver (fun b => lenM f b * leftM c b) (List.range f.blocks.length) + c.k + 1
        omega
    · split
      · refine ⟨h.len, h.cur, h.pos, fun b => ⟨(h.low b).1, ?_⟩, h.zero, h.come, h.ends, ?_⟩
        · have := (h.low b).2
          show visM c.s b ≤ ((c.s.steps + 1 : Nat) : Int) + 1
          omega
        · have hm := h.most
          rw [hfin, if_pos rfl] at hm
          show ((c.s.steps + 1 : Nat) : Int) ≤ sumOver (fun b => lenM f b * leftM c b) (List.range f.blocks.length) + c.k + 1
          omega
      · rename_i h3 h4
        obtain ⟨t, ht, hmem⟩ : ∃ t, nextM (blkM f c.b).term (tickM c.s) = t ∧ t ∈ (blkM f c.b).term.to := by
          refine ⟨_, rfl, ?_⟩
          unfold nextM
          rcases ht with ⟨e, l⟩ | ⟨e, l⟩ | ⟨e, _⟩ | ⟨e, _⟩
          · rw [if_neg (by omega)]
            rw [List.getD_eq_getElem?_getD, List.getElem?_eq_getElem (by omega)]
            exact List.getElem_mem _
          · split
            · rw [List.getD_eq_getElem?_getD, List.getElem?_eq_getElem (by omega)]
              exact List.getElem_mem _
            · rw [List.getD_eq_getElem?_getD, List.getElem?_eq_getElem (by omega)]
              exact List.getElem_mem _
          · exact absurd e h3
          · exact absurd e h4
        rw [ht]
        obtain ⟨tn, rfl, htn, _⟩ := hok.goes c.b _ hb t hmem
        rw [Int.toNat_natCast]
        have ht0 : 1 ≤ tn := by
          have := hpos _ (List.mem_of_getElem? hb) _ hmem
          omega
        have hw : wrap64 (visM c.s tn + 1) = visM c.s tn + 1 := by
          have := (h.low tn)
          have h2 : 0 ≤ visM c.s tn := by
            have := this.1
            unfold leftM at this
            split at this <;> omega
          unfold wrap64
          omega
        have hv : ∀ b, visM (enterM f tn c.b (tickM c.s)).s b = visM c.s b + if tn = b then 1 else 0 := fun b => by
          unfold visM enterM arriveM
          simp only
          rw [visM_set (by show tn < c.s.vis.length; rw [h.len]; exact htn)]
          by_cases e : tn = b
          · subst e
            rw [if_pos rfl, if_pos rfl]
            exact hw
          · rw [if_neg e, if_neg e, Int.add_zero]
            rfl
        have hl : ∀ b, leftM (enterM f tn c.b (tickM c.s)) b = leftM c b + if c.b = b then 1 else 0 := fun b => by
          unfold leftM
          rw [hv]
          show visM c.s b + (if tn = b then (1 : Int) else 0) - (if tn = b then 1 else 0) = _
          omega
        refine ⟨?_, htn, Nat.zero_le _, fun b => ⟨?_, ?_⟩, ?_, fun b h0 hbn => ?_, fun b hbn he => ?_, ?_⟩
        · show (c.s.vis.set tn _).length = _
          rw [List.length_set]
          exact h.len
        · rw [hl]
          have := (h.low b).1
          split <;> omega
        · rw [hv]
          have := (h.low b).2
          show _ ≤ ((c.s.steps + 1 : Nat) : Int) + 1
          split <;> omega
        · rw [hv, if_neg (by omega), h.zero]
          rfl
        · rw [hv]
          have hc := h.come b h0 hbn
          have hle : ∀ x ∈ predsTo f.blocks f.blocks.length b, leftM c x ≤ leftM (enterM f tn c.b (tickM c.s)) x := fun x _ => by
            rw [hl]
            split <;> omega
          by_cases e : tn = b
          · subst e
            rw [if_pos rfl]
            have hin : c.b ∈ predsTo f.blocks f.blocks.length tn := by
              unfold predsTo
              refine List.mem_filter.2 ⟨List.mem_range.2 h.cur, decide_eq_true ?_⟩
              unfold succM
              rw [hb]
              exact List.mem_map.2 ⟨_, hmem, by simp⟩
            have := sumOver_more (d := 1) hle hin (by rw [hl, if_pos rfl]; omega)
            omega
          · rw [if_neg e]
            have := sumOver_mono hle
            omega
        · rw [hl]
          have := h.ends b hbn he
          by_cases e : c.b = b
          · subst e
            rw [he] at hmem
            cases hmem
          · rw [if_neg e]
            omega
        · have hm := h.most
          rw [hfin, if_pos rfl] at hm
          have hle : ∀ x ∈ List.range f.blocks.length, lenM f x * leftM c x ≤ lenM f x * leftM (enterM f tn c.b (tickM c.s)) x := fun x _ => by
            rw [hl]
            have : 0 ≤ lenM f x := by unfold lenM; omega
            split
            · exact Int.mul_le_mul_of_nonneg_left (by omega) this
            · rw [Int.add_zero]
              exact Int.le_refl _
          have := sumOver_more (d := lenM f c.b) hle (List.mem_range.2 h.cur) (by rw [hl, if_pos rfl, Int.mul_add, Int.mul_one]; exact Int.le_refl _)
          have e1 : lenM f c.b = c.k + 1 := by unfold lenM; rw [hk]
          show ((c.s.steps + 1 : Nat) : Int) ≤ _ + ((0 : Nat) : Int) + 0
          omega

theorem vis_goN {f : FuncM} {nv : Nat} {I : InM} (hok : FOk f nv) (hpos : ∀ q ∈ f.blocks, ∀ x ∈ q.term.to, 1 ≤ x) : ∀ n, n ≤ 200000 → VisM f (goN f n (startM f I)) ∧ (goN f n (startM f I)).s.steps ≤ n
  | 0, _ => ⟨vis_start hok.first.1, Nat.le_refl _⟩
  | n + 1, hn => by
    obtain ⟨h1, h2⟩ := vis_goN (I := I) hok hpos n (by omega)
    refine ⟨vis_go hok hpos h1 (by omega), ?_⟩
    have := go_steps_le f (goN f n (startM f I))
    show (goM f (goN f n (startM f I))).s.steps ≤ n + 1
    omega

/-- how often blocks were come to when a run has ended -/
structure VisEnd (f : FuncM) (F : Nat) (s : StM) : Prop where
  len : s.vis.length = f.blocks.length
  low : ∀ b, 0 ≤ visM s b ∧ visM s b ≤ F + 1
  zero : visM s 0 = 1
  come : ∀ b, 0 < b → b < f.blocks.length → visM s b ≤ sumOver (visM s) (predsTo f.blocks f.blocks.length b)
  ends : ∀ b, b < f.blocks.length → (blkM f b).term.to = [] → visM s b ≤ 1
  most : (s.steps : Int) ≤ sumOver (fun b => lenM f b * visM s b) (List.range f.blocks.length)

theorem vis_end {f : FuncM} {I : InM} {F : Nat} {s : StM} {en : EndM} (hs : CheckIs f (0, 0)) (h : EndIs f I (min F 200000) s en) : VisEnd f F s := by
  obtain ⟨rfl, _⟩ := h
  have hok := strict_fok hs
  obtain ⟨hl, _⟩ := check_zero hs
  obtain ⟨hv, hst⟩ := vis_goN (I := I) hok (fun q hq x hx => (term_in rfl (look_term hl q hq) x hx).1) (min F 200000) (by omega)
  obtain ⟨c, hc⟩ : ∃ c, c = goN f (min F 200000) (startM f I) := ⟨_, rfl⟩
  rw [← hc] at hv hst ⊢
  have hle : ∀ b, leftM c b ≤ visM c.s b := fun b => by
    unfold leftM
    split <;> omega
  refine ⟨hv.len, fun b => ⟨?_, ?_⟩, hv.zero, fun b h0 hb => ?_, fun b hb he => ?_, ?_⟩
  · have := (hv.low b).1
    have := hle b
    omega
  · have := (hv.low b).2
    omega
  · have := hv.come b h0 hb
    have := sumOver_mono (l := predsTo f.blocks f.blocks.length b) fun x _ => hle x
    omega
  · have := hv.ends b hb he
    unfold leftM at this
    split at this <;> omega
  · have hm := hv.most
    have := sumOver_more (g := fun b => lenM f b * leftM c b) (h := fun b => lenM f b * visM c.s b) (x := c.b) (d := lenM f c.b) (l := List.range f.blocks.length) (fun x _ => Int.mul_le_mul_of_nonneg_left (hle x) (by unfold lenM; omega)) (List.mem_range.2 hv.cur) (by
      show lenM f c.b * leftM c c.b + _ ≤ _
      unfold leftM
      rw [if_pos rfl, Int.mul_sub, Int.mul_one]
      omega)
    have hp := hv.pos
    have : (c.k : Int) + 1 ≤ lenM f c.b := by unfold lenM; omega
    have hif : (if c.fin = none then (0 : Int) else 1) ≤ 1 := by split <;> decide
    omega

end Go.Proofs.YtglbepdjahddmaaGreat

namespace Go.Proofs.YtglbepdjahddmaaGreat
open Go.RowKit Go.Maps

/-- a way back: an edge to what dominates its start -/
def BackP (bs : List BlockM) (o : List Nat) (h p : Nat) : Prop := h ∈ succM bs p ∧ OverP bs o h p

/-- the loop of a head -/
inductive InL (bs : List BlockM) (o : List Nat) (h : Nat) : Nat → Prop
  | head : InL bs o h h
  | latch {p : Nat} (k : BackP bs o h p) : InL bs o h p
  | step {b p : Nat} (k : InL bs o h b) (hne : b ≠ h) (e : b ∈ succM bs p) : InL bs o h p

/-- all blocks can be come to -/
def AllIn (bs : List BlockM) (o : List Nat) : Prop := ∀ b, b < bs.length → b ∈ o

theorem lsucc_lt {bs : List BlockM} {b p : Nat} (h : b ∈ succM bs p) : p < bs.length := by
  unfold succM at h
  cases e : bs[p]? with
  | none => rw [e] at h; cases h
  | some q => exact (List.getElem?_eq_some_iff.1 e).1

theorem reachW_back {bs : List BlockM} {x b p : Nat} (h : ReachW bs (x : Int) p) (e : b ∈ succM bs p) (hne : b ≠ x) : ReachW bs (x : Int) b :=
  .step h e (by omega)

section
variable {bs : List BlockM} {o : List Nat} {h k b p : Nat}

/-- the head dominates its loop -/
theorem InL.over (hA : AllIn bs o) (hh : h ∈ o) (l : InL bs o h b) : OverP bs o h b := by
  induction l with
  | head => exact OverP.refl hh
  | latch k => exact k.2
  | step l hne e ih =>
    refine ⟨hh, hA _ (lsucc_lt e), fun hr => ih.2.2 (reachW_back hr e hne)⟩

theorem OverP.antisymm {pl : Nat → Nat} {par : Nat → Option Nat} (hO : Ord (succM bs) o pl) (hD : Done (succM bs) o pl par) (h1 : OverP bs o h k) (h2 : OverP bs o k h) : h = k :=
  hD.tree.antisymm ((over_anc hO hD h1.2.1).1 h1) ((over_anc hO hD h2.2.1).1 h2)

theorem OverP.lin {pl : Nat → Nat} {par : Nat → Option Nat} (hO : Ord (succM bs) o pl) (hD : Done (succM bs) o pl par) (h1 : OverP bs o h b) (h2 : OverP bs o k b) : OverP bs o h k ∨ OverP bs o k h := by
  rcases ((over_anc hO hD h1.2.1).1 h1).lin ((over_anc hO hD h1.2.1).1 h2) with a | a
  · exact .inl ((over_anc hO hD h2.1).2 a)
  · exact .inr ((over_anc hO hD h1.1).2 a)

/-- a loop that has the head of another has all of it -/
theorem InL.sub {pl : Nat → Nat} {par : Nat → Option Nat} (hO : Ord (succM bs) o pl) (hD : Done (succM bs) o pl par) (hA : AllIn bs o) (hh : h ∈ o) (hk : k ∈ o) (hne : h ≠ k) (l : InL bs o k h) (m : InL bs o h b) : InL bs o k b := by
  induction m with
  | head => exact l
  | latch q => exact .step l hne q.1
  | @step b p m hb e ih =>
    by_cases hbk : b = k
    · subst hbk
      exact absurd (OverP.antisymm hO hD (m.over hA hh) (l.over hA hk)) hne
    · exact .step ih hbk e

/-- of two loops that share a block, one has the head of the other -/
theorem InL.meet {pl : Nat → Nat} {par : Nat → Option Nat} (hO : Ord (succM bs) o pl) (hD : Done (succM bs) o pl par) (_hA : AllIn bs o) (hh : h ∈ o) (hk : k ∈ o) (hne : h ≠ k) (hov : OverP bs o k h) (l : InL bs o k b) (hb : OverP bs o h b) : InL bs o k h := by
  by_cases hn : InL bs o k h
  · exact hn
  · exfalso
    have hreach : ∀ x, ReachW bs (-1) x → InL bs o k x → ReachW bs (h : Int) x := by
      intro x hx
      have hkr : ReachW bs (h : Int) k := by
        by_cases c : ReachW bs (h : Int) k
        · exact c
        · exact absurd (OverP.antisymm hO hD ⟨hh, hk, c⟩ hov) hne
      induction hx with
      | start _ =>
        intro l0
        refine .start ?_
        intro e
        have e0 : h = 0 := by omega
        subst e0
        exact hn l0
      | @step x p _ e _ ih =>
        intro lx
        by_cases hxk : x = k
        · subst hxk; exact hkr
        · refine .step (ih (.step lx hxk e)) e ?_
          intro he
          have : x = h := by omega
          subst this
          exact hn lx
    have hall : ReachW bs (-1) b := by
      by_cases c : ReachW bs (-1) b
      · exact c
      · exfalso
        -- b is in the order, so it can be come to
        have h0 : ∀ (n x : Nat), pl x < n → x ∈ o → ReachW bs (-1) x := by
          intro n
          induction n with
          | zero => intro x hx; omega
          | succ n ih =>
            intro x hx hxo
            by_cases x0 : x = 0
            · subst x0; exact .start (by omega)
            · have hat := hO.at hxo
              have hpos : 0 < pl x := by
                rcases Nat.eq_zero_or_pos (pl x) with e | e
                · exact absurd (hO.of_pl_zero hxo e) x0
                · exact e
              obtain ⟨j, y, hj, hy, hs⟩ := hO.ahead _ x hpos hat
              have hpy := hO.place j y hy
              exact .step (ih y (by omega) (Ord.mem hy)) hs (by omega)
        exact c (h0 _ b (Nat.lt_succ_self _) hb.2.1)
    exact hb.2.2 (hreach b hall l)
end

/-- Bools for what dominates what, and what lies in which loop -/
structure LoopF (bs : List BlockM) (o : List Nat) (D L : Nat → Nat → Bool) : Prop where
  dom : ∀ a b, D a b = true ↔ OverP bs o a b
  inL : ∀ h b, L h b = true ↔ InL bs o h b

theorem loopF_exists (bs : List BlockM) (o : List Nat) : ∃ D L, LoopF bs o D L := by
  have hb : ∀ p : Prop, ∃ r : Bool, r = true ↔ p := fun p => by
    by_cases h : p
    · exact ⟨true, by simp [h]⟩
    · exact ⟨false, by simp [h]⟩
  exact ⟨fun a b => Classical.choose (hb (OverP bs o a b)), fun h b => Classical.choose (hb (InL bs o h b)), fun a b => Classical.choose_spec (hb (OverP bs o a b)), fun h b => Classical.choose_spec (hb (InL bs o h b))⟩

def latchesM (bs : List BlockM) (D : Nat → Nat → Bool) (h : Nat) : List Nat := (predsTo bs bs.length h).filter (D h)
def blocksM (n : Nat) (L : Nat → Nat → Bool) (h : Nat) : List Nat := (List.range n).filter (L h)
/-- does a block of the loop go there? -/
def outB (bs : List BlockM) (L : Nat → Nat → Bool) (h t : Nat) : Bool := (List.range bs.length).any fun b => L h b && decide (t ∈ succM bs b)
def exitsM (bs : List BlockM) (L : Nat → Nat → Bool) (h : Nat) : List Nat := (List.range bs.length).filter fun t => !L h t && outB bs L h t
/-- the heads below k -/
def headsM (bs : List BlockM) (D : Nat → Nat → Bool) (k : Nat) : List Nat := (List.range k).filter fun h => !(latchesM bs D h).isEmpty
/-- how many blocks a loop has -/
def lsizeM (n : Nat) (L : Nat → Nat → Bool) (h : Nat) : Nat := (blocksM n L h).length
/-- the place of the least loop around the i-th head's, of the first k heads -/
def aroundM (n : Nat) (L : Nat → Nat → Bool) (hs : List Nat) (i : Nat) : Nat → Int
  | 0 => -1
  | k + 1 =>
    let a := aroundM n L hs i k
    if k ≠ i ∧ L (hs.getD k 0) (hs.getD i 0) = true ∧ (a = -1 ∨ lsizeM n L (hs.getD k 0) < lsizeM n L (hs.getD a.toNat 0)) then (k : Int) else a

theorem aroundM_range (n : Nat) (L : Nat → Nat → Bool) (hs : List Nat) (i : Nat) : ∀ k, aroundM n L hs i k = -1 ∨ ∃ j : Nat, aroundM n L hs i k = (j : Int) ∧ j < k ∧ j ≠ i ∧ L (hs.getD j 0) (hs.getD i 0) = true
  | 0 => .inl rfl
  | k + 1 => by
    unfold aroundM
    simp only
    split
    · rename_i h
      exact .inr ⟨k, rfl, Nat.lt_succ_self _, h.1, h.2.1⟩
    · rcases aroundM_range n L hs i k with h | ⟨j, h1, h2, h3⟩
      · exact .inl h
      · exact .inr ⟨j, h1, by omega, h3⟩

/-- the depth of a block -/
def depthM (L : Nat → Nat → Bool) (hs : List Nat) (b : Nat) : Nat := (hs.filter fun h => L h b).length

/-- an edge into b that is odd -/
def oddB (bs : List BlockM) (D : Nat → Nat → Bool) (pl : Nat → Nat) (b : Nat) : Bool := (predsTo bs bs.length b).any fun p => decide (pl b ≤ pl p) && !D b p
def oddsM (bs : List BlockM) (D : Nat → Nat → Bool) (pl : Nat → Nat) : List Nat := (List.range bs.length).filter (oddB bs D pl)

theorem mem_predsTo {bs : List BlockM} {t p : Nat} : p ∈ predsTo bs bs.length t ↔ t ∈ succM bs p := by
  unfold predsTo
  rw [List.mem_filter, List.mem_range, decide_eq_true_iff]
  exact ⟨fun h => h.2, fun h => ⟨lsucc_lt h, h⟩⟩

section
variable {bs : List BlockM} {o : List Nat} {D L : Nat → Nat → Bool} {h k b p : Nat}

theorem LoopF.mem_latches (F : LoopF bs o D L) : p ∈ latchesM bs D h ↔ BackP bs o h p := by
  unfold latchesM
  rw [List.mem_filter, mem_predsTo, F.dom]
  exact Iff.rfl

theorem LoopF.lt (F : LoopF bs o D L) (hh : h < bs.length) (hb : L h b = true) : b < bs.length := by
  cases (F.inL h b).1 hb with
  | head => exact hh
  | latch k => exact lsucc_lt k.1
  | step _ _ e => exact lsucc_lt e

theorem LoopF.mem_blocks (F : LoopF bs o D L) (hh : h < bs.length) : b ∈ blocksM bs.length L h ↔ InL bs o h b := by
  unfold blocksM
  rw [List.mem_filter, List.mem_range]
  exact ⟨fun x => (F.inL h b).1 x.2, fun x => ⟨F.lt hh ((F.inL h b).2 x), (F.inL h b).2 x⟩⟩

theorem mem_heads {n : Nat} : h ∈ headsM bs D n ↔ h < n ∧ latchesM bs D h ≠ [] := by
  unfold headsM
  rw [List.mem_filter, List.mem_range]
  cases latchesM bs D h <;> simp
end


/-- all that is known of a strict function's loops -/
structure LoopOk (bs : List BlockM) (o : List Nat) (pl : Nat → Nat) (par : Nat → Option Nat) (D L : Nat → Nat → Bool) : Prop where
  ord : Ord (succM bs) o pl
  done : Done (succM bs) o pl par
  all : AllIn bs o
  lt : ∀ x ∈ o, x < bs.length
  n5 : bs.length ≤ 512
  fn : LoopF bs o D L

section
variable {bs : List BlockM} {o : List Nat} {pl : Nat → Nat} {par : Nat → Option Nat} {D L : Nat → Nat → Bool} {h k b p : Nat}

theorem LoopOk.sub (K : LoopOk bs o pl par D L) (hh : h < bs.length) (hk : k < bs.length) (hne : h ≠ k) (l : L k h = true) (hb : L h b = true) : L k b = true :=
  (K.fn.inL k b).2 (InL.sub K.ord K.done K.all (K.all h hh) (K.all k hk) hne ((K.fn.inL k h).1 l) ((K.fn.inL h b).1 hb))

theorem LoopOk.anti (K : LoopOk bs o pl par D L) (hh : h < bs.length) (hk : k < bs.length) (hne : h ≠ k) (l : L k h = true) : L h k = false := by
  cases e : L h k with
  | false => rfl
  | true =>
    have h1 := ((K.fn.inL k h).1 l).over K.all (K.all k hk)
    have h2 := ((K.fn.inL h k).1 e).over K.all (K.all h hh)
    exact absurd (OverP.antisymm K.ord K.done h2 h1) hne

theorem LoopOk.meet (K : LoopOk bs o pl par D L) (hh : h < bs.length) (hk : k < bs.length) (hne : h ≠ k) (h1 : L h b = true) (h2 : L k b = true) : L k h = true ∨ L h k = true := by
  have a1 := ((K.fn.inL h b).1 h1).over K.all (K.all h hh)
  have a2 := ((K.fn.inL k b).1 h2).over K.all (K.all k hk)
  rcases OverP.lin K.ord K.done a2 a1 with e | e
  · exact .inl ((K.fn.inL k h).2 (InL.meet K.ord K.done K.all (K.all h hh) (K.all k hk) hne e ((K.fn.inL k b).1 h2) a1))
  · exact .inr ((K.fn.inL h k).2 (InL.meet K.ord K.done K.all (K.all k hk) (K.all h hh) (fun e => hne e.symm) e ((K.fn.inL h b).1 h1) a2))

/-- how many blocks of one loop lie in another -/
theorem LoopOk.both (K : LoopOk bs o pl par D L) (hh : h < bs.length) (hk : k < bs.length) (hne : h ≠ k) :
    ((blocksM bs.length L h).filter (L k)).length = 0 ∨ ((blocksM bs.length L h).filter (L k)).length = lsizeM bs.length L h ∨ ((blocksM bs.length L h).filter (L k)).length = lsizeM bs.length L k := by
  by_cases hz : ∃ b, b ∈ (blocksM bs.length L h).filter (L k)
  · obtain ⟨b, hb⟩ := hz
    rw [List.mem_filter] at hb
    have hb1 := (K.fn.inL h b).2 ((K.fn.mem_blocks hh).1 hb.1)
    rcases K.meet hh hk hne hb1 hb.2 with e | e
    · right; left
      unfold lsizeM
      rw [List.filter_eq_self.2]
      intro x hx
      exact K.sub hh hk hne e ((K.fn.inL h x).2 ((K.fn.mem_blocks hh).1 hx))
    · right; right
      unfold lsizeM blocksM
      rw [List.filter_filter]
      congr 1
      apply List.filter_congr
      intro x _
      cases hx : L k x with
      | false => simp
      | true => simp [K.sub hk hh (fun e => hne e.symm) e hx]
  · left
    rw [List.length_eq_zero_iff, List.eq_nil_iff_forall_not_mem]
    exact fun b hb => hz ⟨b, hb⟩

/-- the loop around one is greater -/
theorem LoopOk.greater (K : LoopOk bs o pl par D L) (hh : h < bs.length) (hk : k < bs.length) (hne : h ≠ k) (l : L k h = true) : lsizeM bs.length L h < lsizeM bs.length L k := by
  have h1 : blocksM bs.length L h = (blocksM bs.length L k).filter (L h) := by
    unfold blocksM
    rw [List.filter_filter]
    apply List.filter_congr
    intro x _
    cases hx : L h x with
    | false => simp
    | true => simp [K.sub hh hk hne l hx]
  unfold lsizeM
  rw [h1]
  have h2 : k ∈ blocksM bs.length L k := (K.fn.mem_blocks hk).2 .head
  refine List.length_filter_lt_length_iff_exists.2 ⟨k, h2, ?_⟩
  rw [K.anti hh hk hne l]
  decide

/-- has one loop all blocks of another? -/
theorem LoopOk.within (K : LoopOk bs o pl par D L) (hh : h < bs.length) (hk : k < bs.length) (hne : h ≠ k) : (∀ b ∈ blocksM bs.length L h, b ∈ blocksM bs.length L k) ↔ L k h = true := by
  constructor
  · intro a
    exact (K.fn.inL k h).2 ((K.fn.mem_blocks hk).1 (a h ((K.fn.mem_blocks hh).2 .head)))
  · intro l b hb
    rw [K.fn.mem_blocks hk, ← K.fn.inL]
    exact K.sub hh hk hne l ((K.fn.inL h b).2 ((K.fn.mem_blocks hh).1 hb))
end

/-- the search backwards from the latches: S is marked, ws is still to be looked at -/
structure LWk (bs : List BlockM) (o : List Nat) (h : Nat) (S ws : List Nat) : Prop where
  nodup : S.Nodup
  lt : ∀ x ∈ S, x < bs.length
  head : h ∈ S
  sound : ∀ x ∈ S, InL bs o h x
  ok : ∀ x ∈ ws, InL bs o h x ∧ x < bs.length
  closed : ∀ x ∈ S, x ≠ h → ∀ p, x ∈ succM bs p → p ∈ S ∨ p ∈ ws
  lat : ∀ p, BackP bs o h p → p ∈ S ∨ p ∈ ws

section
variable {bs : List BlockM} {o : List Nat} {h b : Nat} {S ws : List Nat}

theorem LWk.start {D L : Nat → Nat → Bool} (F : LoopF bs o D L) (hh : h < bs.length) : LWk bs o h [h] (latchesM bs D h) := by
  refine ⟨by simp, by simpa using hh, by simp, by simpa using InL.head, fun x hx => ?_, fun x hx hne => ?_, fun p hp => .inr (F.mem_latches.2 hp)⟩
  · have := F.mem_latches.1 hx
    exact ⟨.latch this, lsucc_lt this.1⟩
  · rw [List.mem_singleton] at hx
    exact absurd hx hne

theorem LWk.skip (W : LWk bs o h S (ws ++ [b])) (hb : b ∈ S) : LWk bs o h S ws := by
  have key : ∀ p, p ∈ S ∨ p ∈ ws ++ [b] → p ∈ S ∨ p ∈ ws := by
    rintro p (h1 | h1)
    · exact .inl h1
    · rcases List.mem_append.1 h1 with h2 | h2
      · exact .inr h2
      · rw [List.mem_singleton] at h2
        subst h2
        exact .inl hb
  exact ⟨W.nodup, W.lt, W.head, W.sound, fun x hx => W.ok x (List.mem_append_left _ hx), fun x hx hne p hp => key p (W.closed x hx hne p hp), fun p hp => key p (W.lat p hp)⟩

theorem LWk.mark (W : LWk bs o h S (ws ++ [b])) (hb : b ∉ S) : LWk bs o h (b :: S) (ws ++ predsTo bs bs.length b) := by
  have hbo := W.ok b (by simp)
  have hne : b ≠ h := fun e => hb (e ▸ W.head)
  have key : ∀ p, p ∈ S ∨ p ∈ ws ++ [b] → p ∈ b :: S ∨ p ∈ ws ++ predsTo bs bs.length b := by
    rintro p (h1 | h1)
    · exact .inl (List.mem_cons_of_mem _ h1)
    · rcases List.mem_append.1 h1 with h2 | h2
      · exact .inr (List.mem_append_left _ h2)
      · rw [List.mem_singleton] at h2
        subst h2
        exact .inl (List.mem_cons_self ..)
  refine ⟨List.nodup_cons.2 ⟨hb, W.nodup⟩, fun x hx => ?_, List.mem_cons_of_mem _ W.head, fun x hx => ?_, fun x hx => ?_, fun x hx hnx p hp => ?_, fun p hp => key p (W.lat p hp)⟩
  · rcases List.mem_cons.1 hx with rfl | hx
    · exact hbo.2
    · exact W.lt x hx
  · rcases List.mem_cons.1 hx with rfl | hx
    · exact hbo.1
    · exact W.sound x hx
  · rcases List.mem_append.1 hx with hx | hx
    · exact W.ok x (List.mem_append_left _ hx)
    · exact ⟨.step hbo.1 hne (mem_predsTo.1 hx), predsTo_lt hx⟩
  · rcases List.mem_cons.1 hx with rfl | hx
    · exact .inr (List.mem_append_right _ (mem_predsTo.2 hp))
    · exact key p (W.closed x hx hnx p hp)

theorem LWk.all (W : LWk bs o h S []) (x : Nat) : x ∈ S ↔ InL bs o h x := by
  refine ⟨W.sound x, fun m => ?_⟩
  induction m with
  | head => exact W.head
  | latch k => exact (W.lat _ k).resolve_right (by simp)
  | step _ hne e ih => exact (W.closed _ ih hne _ e).resolve_right (by simp)
end

end Go.Proofs.YtglbepdjahddmaaGreat

namespace Go.Proofs.YtglbepdjahddmaaGreat
open Go.RowKit Go.Maps

/-- the places of the blocks of an order; 0 for the rest -/
def plcs (n : Nat) (o : List Nat) (pl : Nat → Nat) : List Value := (List.range n).map fun b => .int .i64 (if b ∈ o then ((pl b : Nat) : Int) else 0)

theorem plcs_none (n : Nat) (pl : Nat → Nat) : plcs n [] pl = List.replicate n (.int .i64 0) := by
  unfold plcs
  apply List.ext_getElem?
  intro i
  by_cases hi : i < n
  · rw [List.getElem?_map, List.getElem?_eq_getElem (by simpa using hi), List.getElem?_replicate, if_pos hi]
    simp
  · rw [List.getElem?_eq_none (by simp; omega), List.getElem?_eq_none (by simp; omega)]

theorem plcs_set {n i x : Nat} {o : List Nat} {pl : Nat → Nat} (hx : o[i]? = some x) (hp : pl x = i) : (plcs n (o.take i) pl).set x (.int .i64 (i : Int)) = plcs n (o.take (i + 1)) pl := by
  unfold plcs
  apply List.ext_getElem?
  intro j
  by_cases hj : j < n
  · by_cases e : x = j
    · subst e
      rw [List.getElem?_set_self (by simpa using hj), List.getElem?_map, List.getElem?_eq_getElem (by simpa using hj)]
      have : x ∈ o.take (i + 1) := by rw [List.take_add_one, hx]; simp
      simp [this, hp]
    · rw [List.getElem?_set_ne e, List.getElem?_map, List.getElem?_map, List.getElem?_eq_getElem (by simpa using hj)]
      have : j ∈ o.take (i + 1) ↔ j ∈ o.take i := by
        rw [List.take_add_one, hx]
        simp only [Option.toList_some, List.mem_append, List.mem_singleton]
        exact ⟨fun h => h.resolve_right (fun h2 => e h2.symm), .inl⟩
      simp [this]
  · rw [List.getElem?_eq_none (by simp; omega), List.getElem?_eq_none (by simp; omega)]

theorem plcs_at {n b : Nat} {o : List Nat} {pl : Nat → Nat} (h : b < n) (ho : b ∈ o) : (plcs n o pl)[b]? = some (.int .i64 ((pl b : Nat) : Int)) := by
  unfold plcs
  rw [List.getElem?_map, List.getElem?_eq_getElem (by simpa using h)]
  simp [ho]

theorem plcs_any {n b : Nat} {o : List Nat} {pl : Nat → Nat} (h : b < n) : (plcs n o pl)[b]? = some (.int .i64 (if b ∈ o then ((pl b : Nat) : Int) else 0)) := by
  unfold plcs
  rw [List.getElem?_map, List.getElem?_eq_getElem (by simpa using h)]
  simp

/-- where a function stands, from block lo on: who goes to whom, what dominates closest, the places -/
structure LfAt (w : World) (lo : Nat) (bs : List BlockM) (o : List Nat) (pl : Nat → Nat) (par : Nat → Option Nat) (gp : Nat) (vs : List Value) (gi gl : Nat) : Prop where
  preds : Lists w lo gp bs.length vs (predsAt bs bs.length bs.length 0)
  idoms : w.ownsRow lo 3 1 (.slice (some ⟨gi, 0, none⟩) bs.length bs.length) bs.length (tops bs.length par)
  place : w.ownsRow lo 3 1 (.slice (some ⟨gl, 0, none⟩) bs.length bs.length) bs.length (plcs bs.length o pl)

section
variable {w w' : World} {lo lo' : Nat} {bs : List BlockM} {o : List Nat} {pl : Nat → Nat} {par : Nat → Option Nat} {gp : Nat} {vs : List Value} {gi gl : Nat}

theorem LfAt.kept (h : LfAt w lo bs o pl par gp vs gi gl) (hb : Below w.heap.size w w') : LfAt w' lo bs o pl par gp vs gi gl :=
  ⟨h.preds.kept hb, own_kept_below h.idoms hb (fun k hk => (h.idoms.lt k hk).2), own_kept_below h.place hb (fun k hk => (h.place.lt k hk).2)⟩

theorem LfAt.mono (h : LfAt w lo bs o pl par gp vs gi gl) (hl : lo' ≤ lo) : LfAt w lo' bs o pl par gp vs gi gl :=
  ⟨h.preds.mono hl, World.ownsRow.mono h.idoms hl, World.ownsRow.mono h.place hl⟩

theorem Lists.other {w : World} {base gb n : Nat} {ls : List (List Nat)} {j off : Nat} (h : Lists w base gb n vs ls) (hj : j < base) (u : Value) : Lists (w.setCell ⟨j, off, none⟩ u) base gb n vs ls := by
  have hl := h.lt
  refine ⟨h.vl, h.ll, ownsRow_setCell_other h.row (a := ⟨j, off, none⟩) (by intro e; cases e; omega) u, fun t v l hv hl2 => ?_, h.apart⟩
  exact ownsRow_setCell_other (h.own t v l hv hl2) (a := ⟨j, off, none⟩) (by intro e; have := ((h.own t v l hv hl2).lt j e).1; omega) u

theorem LfAt.other {j off : Nat} (h : LfAt w lo bs o pl par gp vs gi gl) (hj : j < lo) (u : Value) : LfAt (w.setCell ⟨j, off, none⟩ u) lo bs o pl par gp vs gi gl := by
  have h1 := (h.idoms.lt gi rfl).1
  have h2 := (h.place.lt gl rfl).1
  exact ⟨h.preds.other hj u, ownsRow_setCell_other h.idoms (a := ⟨j, off, none⟩) (by intro e; cases e; omega) u, ownsRow_setCell_other h.place (a := ⟨j, off, none⟩) (by intro e; cases e; omega) u⟩

theorem LfAt.top (h : LfAt w lo bs o pl par gp vs gi gl) {b : Nat} (hb : b < bs.length) : w.cell? ⟨gi, b, none⟩ = some (.int .i64 (topI (par b))) := by
  rw [World.ownsRow.cellAt h.idoms b (by omega)]; exact tops_at hb

theorem LfAt.at (h : LfAt w lo bs o pl par gp vs gi gl) {b : Nat} (hb : b < bs.length) (ho : b ∈ o) : w.cell? ⟨gl, b, none⟩ = some (.int .i64 ((pl b : Nat) : Int)) := by
  rw [World.ownsRow.cellAt h.place b (by omega)]; exact plcs_at hb ho

theorem LfAt.list (h : LfAt w lo bs o pl par gp vs gi gl) {b : Nat} (hb : b < bs.length) : ∃ v, w.cell? ⟨gp, b, none⟩ = some v ∧ w.ownsRow lo 3 1 v (predsTo bs bs.length b).length (natInts (predsTo bs bs.length b)) := by
  obtain ⟨v, hv⟩ : ∃ v, vs[b]? = some v := ⟨_, List.getElem?_eq_getElem (by rw [h.preds.vl]; exact hb)⟩
  have hl : (predsAt bs bs.length bs.length 0)[b]? = some (predsTo bs bs.length b) := by rw [predsAt_at hb]; simp
  exact ⟨v, by rw [World.ownsRow.cellAt h.preds.row b (by omega)]; exact hv, World.ownsRow.mono (h.preds.own b v _ hv hl) (by have := h.preds.lt; omega)⟩

theorem LfAt.lt (h : LfAt w lo bs o pl par gp vs gi gl) : (lo ≤ gp ∧ gp < w.heap.size) ∧ (lo ≤ gi ∧ gi < w.heap.size) ∧ (lo ≤ gl ∧ gl < w.heap.size) := ⟨h.preds.lt, h.idoms.lt gi rfl, h.place.lt gl rfl⟩
end

end Go.Proofs.YtglbepdjahddmaaGreat
