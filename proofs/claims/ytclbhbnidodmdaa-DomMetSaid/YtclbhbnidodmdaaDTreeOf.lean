/- treeOf: a function's graph with its tree of dominance, done. -/
import Derived.Test.YtclbhbnidodmdaaDFlow
import Derived.Deep.RegionWith
import Derived.Deep.RegionHeld3
namespace Go.Proofs.Ytclbhbnidodmdaa
open Go.RowKit Go.Maps

def TreePost (f : FuncM) (w : World) (e : Ending) (w' : World) : Prop :=
  ((lookM f).1 ≠ 0 ∧ e = .returned (.tuple #[.agg #[.slice none 0 0, .slice none 0 0, .slice none 0 0, .slice none 0 0], .int .i64 (lookM f).1]) ∧ Below w.heap.size w w') ∨
  ((lookM f).1 = 0 ∧ ∃ (o : List Nat) (pl : Nat → Nat) (par : Nat → Option Nat) (B gp : Nat) (vs : List Value) (go capo gl gi : Nat), e = .returned (.tuple #[.agg #[.slice (some ⟨gp, 0, none⟩) f.blocks.length f.blocks.length, .slice (some ⟨go, 0, none⟩) o.length capo, .slice (some ⟨gl, 0, none⟩) f.blocks.length f.blocks.length, .slice (some ⟨gi, 0, none⟩) f.blocks.length f.blocks.length], .int .i64 0]) ∧ Flows f o pl capo ∧ Done (succM f.blocks) o pl par ∧ TreeAt w' B f.blocks o pl par gp vs go capo gl gi ∧ w.heap.size ≤ B ∧ Below w.heap.size w w')

theorem drew_alloc_below {w w' : World} {o : Obj} (h : Below (w.alloc o).drew.heap.size (w.alloc o).drew w') : Below w.heap.size w w' := by
  have h2 : Below (w.alloc o).heap.size (w.alloc o) w' := ⟨h.os, h.tape, h.output, h.size, h.block⟩
  exact ((Below.refl _ w).alloc (Nat.le_refl _) _).trans (h2.mono (by simp))

theorem drew_new_cell {w : World} {v : Value} {t : TypeId} : (w.alloc (.cells #[v] t)).drew.cell? ⟨w.heap.size, 0, none⟩ = some v := row_cells (heap_alloc_new w _) rfl 0

theorem drew_alloc2 {w w' : World} {o o2 : Obj} (h : Below ((w.alloc o).alloc o2).drew.heap.size ((w.alloc o).alloc o2).drew w') : Below w.heap.size w w' ∧ w'.heap[w.heap.size + 1]? = ((w.alloc o).alloc o2).heap[w.heap.size + 1]? := by
  have h2 : Below ((w.alloc o).alloc o2).heap.size ((w.alloc o).alloc o2) w' := ⟨h.os, h.tape, h.output, h.size, h.block⟩
  exact ⟨(((Below.refl _ w).alloc (Nat.le_refl _) _).alloc (by simp) _).trans (h2.mono (by simp; omega)), h2.block _ (by simp)⟩

theorem drew_new_cell2 {w : World} {v : Value} {t : TypeId} {o2 : Obj} : ((w.alloc (.cells #[v] t)).alloc o2).drew.cell? ⟨w.heap.size, 0, none⟩ = some v :=
  row_cells (w := (w.alloc (.cells #[v] t)).alloc o2) (w' := ((w.alloc (.cells #[v] t)).alloc o2).drew) (g := w.heap.size) (cs := #[v]) (t := t) (by rw [Below.heap_alloc _ _ _ (by simp)]; exact heap_alloc_new w _) rfl 0

theorem one_lt6 {w : World} {o : Obj} : w.heap.size < (w.alloc o).drew.heap.size := by
  show w.heap.size < (w.alloc o).heap.size
  simp

theorem two_lt6 {w : World} {o o2 : Obj} : w.heap.size < ((w.alloc o).alloc o2).drew.heap.size := by
  show w.heap.size < ((w.alloc o).alloc o2).heap.size
  simp
  omega

theorem new_two {w : World} {o o2 : Obj} : ((w.alloc o).alloc o2).heap[w.heap.size + 1]? = (((w.alloc o).alloc o2).heap[(w.alloc o).heap.size]?) := by simp

theorem drew_new_cell3 {w : World} {v : Value} {t : TypeId} {o2 : Obj} : ((w.alloc o2).alloc (.cells #[v] t)).drew.cell? ⟨w.heap.size + 1, 0, none⟩ = some v :=
  row_cells (w := (w.alloc o2).alloc (.cells #[v] t)) (w' := ((w.alloc o2).alloc (.cells #[v] t)).drew) (g := w.heap.size + 1) (cs := #[v]) (t := t) (by have := heap_alloc_new (w.alloc o2) (.cells #[v] t); simpa using this) rfl 0

theorem drew_alloc3 {w w' : World} {o o2 : Obj} (h : Below ((w.alloc o).alloc o2).drew.heap.size ((w.alloc o).alloc o2).drew w') : Below w.heap.size w w' ∧ w'.heap[w.heap.size]? = ((w.alloc o).alloc o2).heap[w.heap.size]? := by
  have h2 : Below ((w.alloc o).alloc o2).heap.size ((w.alloc o).alloc o2) w' := ⟨h.os, h.tape, h.output, h.size, h.block⟩
  exact ⟨(((Below.refl _ w).alloc (Nat.le_refl _) _).alloc (by simp) _).trans (h2.mono (by simp; omega)), h2.block _ (by simp; omega)⟩

theorem new_two3 {w : World} {o o2 : Obj} : ((w.alloc o).alloc o2).heap[w.heap.size]? = (w.alloc o).heap[w.heap.size]? := Below.heap_alloc _ _ _ (by simp)

theorem FlowLow.more {lo lo' gp : Nat} {vs : List Value} {go gl : Nat} (h : FlowLow lo gp vs go gl) (hl : lo' ≤ lo) : FlowLow lo' gp vs go gl :=
  ⟨Nat.le_trans hl h.gp, Nat.le_trans hl h.go, Nat.le_trans hl h.gl, fun t v k hv hk => Nat.le_trans hl (h.apart t v k hv hk)⟩

/-- a store below all of a tree -/
theorem TreeAt.low {w : World} {B lo : Nat} {bs : List BlockM} {o : List Nat} {pl : Nat → Nat} {par : Nat → Option Nat} {gp : Nat} {vs : List Value} {go capo gl gi : Nat} (h : TreeAt w B bs o pl par gp vs go capo gl gi) (hl : FlowLow lo gp vs go gl) (hB : lo ≤ B) {j : Nat} (hj : j < lo) (off : Nat) (u : Value) : TreeAt (w.setCell ⟨j, off, none⟩ u) B bs o pl par gp vs go capo gl gi := by
  have h1 := hl.gp
  have h2 := hl.go
  have h3 := hl.gl
  have h4 := h.lt.1
  exact ⟨h.flow.other j (by omega) (by omega) (by omega) (fun t v k hv hk => by have := hl.apart t v k hv hk; omega) off u, ownsRow_setCell_other h.idoms (a := ⟨j, off, none⟩) (by intro e; have := Option.some.inj e; simp at this; omega) u⟩

theorem two_lt7 {w : World} {o o2 : Obj} : w.heap.size + 1 < ((w.alloc o).alloc o2).drew.heap.size := by
  show w.heap.size + 1 < ((w.alloc o).alloc o2).heap.size
  simp

/-- the tree as it begins, behind its making -/
structure SixAt (W1 wx : World) (n lo gp go capo gl g6 gi : Nat) : Prop where
  row : wx.heap[g6]? = some (.cells #[.slice (some ⟨gp, 0, none⟩) n n, .slice (some ⟨go, 0, none⟩) lo capo, .slice (some ⟨gl, 0, none⟩) n n, .slice (some ⟨gi, 0, none⟩) n n] 101 (0, 0))
  own : wx.ownsRow W1.heap.size 3 1 (.slice (some ⟨gi, 0, none⟩) n n) n (List.replicate n (.int .i64 (-1)))
  ne : g6 ≠ gi
  low : W1.heap.size ≤ g6
  below : Below W1.heap.size W1 wx

theorem SixAt.late {W1 w3 : World} {n lo gp go capo gl gi base : Nat} (hb : Below W1.heap.size W1 w3) (ho : w3.ownsRow base 3 1 (.slice (some ⟨gi, 0, none⟩) n n) n (List.replicate n (.int .i64 (-1)))) (hbase : W1.heap.size ≤ base) :
    SixAt W1 (w3.alloc (.cells #[.slice (some ⟨gp, 0, none⟩) n n, .slice (some ⟨go, 0, none⟩) lo capo, .slice (some ⟨gl, 0, none⟩) n n, .slice (some ⟨gi, 0, none⟩) n n] 101)) n lo gp go capo gl w3.heap.size gi :=
  ⟨heap_alloc_new w3 _, (World.ownsRow.mono ho hbase).alloc _, by have := (ho.lt gi rfl).2; omega, hb.size, hb.alloc hb.size _⟩

theorem SixAt.early {W1 w3 : World} {n lo gp go capo gl gi g6 base : Nat} (hb : Below W1.heap.size W1 w3) (ho : w3.ownsRow base 3 1 (.slice (some ⟨gi, 0, none⟩) n n) n (List.replicate n (.int .i64 (-1)))) (hbase : g6 < base) (hlow : W1.heap.size ≤ g6)
    (hrow : w3.heap[g6]? = some (.cells #[.slice none 0 0, .slice none 0 0, .slice none 0 0, .slice none 0 0] 101 (0, 0))) :
    SixAt W1 ((((w3.setCell ⟨g6, 0, none⟩ (.slice (some ⟨gp, 0, none⟩) n n)).setCell ⟨g6, 1, none⟩ (.slice (some ⟨go, 0, none⟩) lo capo)).setCell ⟨g6, 2, none⟩ (.slice (some ⟨gl, 0, none⟩) n n)).setCell ⟨g6, 3, none⟩ (.slice (some ⟨gi, 0, none⟩) n n)) n lo gp go capo gl g6 gi := by
  have hg := (ho.lt gi rfl).1
  refine ⟨?_, ?_, by omega, hlow, (((hb.setCell (by simpa using hlow) _).setCell (by simpa using hlow) _).setCell (by simpa using hlow) _).setCell (by simpa using hlow) _⟩
  · have h1 := heap_setCell_same w3 g6 0 _ _ (.slice (some ⟨gp, 0, none⟩) n n) hrow
    have h2 := heap_setCell_same _ g6 1 _ _ (.slice (some ⟨go, 0, none⟩) lo capo) h1
    have h3 := heap_setCell_same _ g6 2 _ _ (.slice (some ⟨gl, 0, none⟩) n n) h2
    have h4 := heap_setCell_same _ g6 3 _ _ (.slice (some ⟨gi, 0, none⟩) n n) h3
    simpa using h4
  · have hne : ∀ off : Nat, (Value.slice (some ⟨gi, 0, none⟩) n n).ownBlock ≠ some (⟨g6, off, none⟩ : Addr).block := by
      intro off e
      have := Option.some.inj e
      simp at this
      omega
    exact ownsRow_setCell_other (ownsRow_setCell_other (ownsRow_setCell_other (ownsRow_setCell_other (World.ownsRow.mono ho (by omega)) (hne 0) _) (hne 1) _) (hne 2) _) (hne 3) _

set_option maxRecDepth 100000 in
set_option maxHeartbeats 4000000 in
theorem treeOf_any (f : FuncM) (B : Nat) (pv bv : Value) (w : World) (hpv : Ints w B pv f.params) (hbv : BlocksR w B bv f.blocks) (hB : B ≤ w.heap.size) (hid : ∀ u ∈ usesM f, I64 u.1) :
    Calls Try.prog 59 #[.agg #[pv, .int .i64 f.arrays, .int .i64 f.cells, bv]] w (TreePost f w) := by
  have HP := hideI hpv
  have HBL := hideI hbv
  have HID := hideI hid
  obtain ⟨P, pc, rfl, _⟩ := hpv
  obtain ⟨A, c, rfl, hbm, _⟩ := hbv
  obtain ⟨W0, hW0⟩ : ∃ W0, W0 = (w.alloc (.cells #[.slice P f.params.length pc, .int .i64 f.arrays, .int .i64 f.cells, .slice A f.blocks.length c] 25)).alloc (.cells #[.slice none 0 0, .slice none 0 0, .slice none 0 0, .slice none 0 0] 101) := ⟨_, rfl⟩
  have hB0 : Below w.heap.size w W0 := by rw [hW0]; exact ((Below.refl _ w).alloc (Nat.le_refl _) _).alloc (by simp) _
  have hs0 : W0.heap.size = w.heap.size + 2 := by rw [hW0]; simp
  have hbox : W0.heap[w.heap.size]? = some (.cells #[.slice P f.params.length pc, .int .i64 f.arrays, .int .i64 f.cells, .slice A f.blocks.length c] 25 (0, 0)) := by
    rw [hW0, Below.heap_alloc _ _ _ (by simp)]
    exact heap_alloc_new w _
  have hres : W0.heap[w.heap.size + 1]? = some (.cells #[.slice none 0 0, .slice none 0 0, .slice none 0 0, .slice none 0 0] 101 (0, 0)) := by
    rw [hW0]
    have := heap_alloc_new (w.alloc (.cells #[.slice P f.params.length pc, .int .i64 f.arrays, .int .i64 f.cells, .slice A f.blocks.length c] 25)) (.cells #[.slice none 0 0, .slice none 0 0, .slice none 0 0, .slice none 0 0] 101)
    simpa using this
  have HW0 := hideI hW0
  have HB0 := hideI hB0
  have HS0 := hideI hs0
  have G0 : Hid (∀ W, Below W0.heap.size W0 W → (∀ o, W.cell? ⟨w.heap.size, o, none⟩ = (#[.slice P f.params.length pc, .int .i64 f.arrays, .int .i64 f.cells, .slice A f.blocks.length c] : Array Value)[o]?) ∧ (∀ o, W.cell? ⟨w.heap.size + 1, o, none⟩ = (#[.slice none 0 0, .slice none 0 0, .slice none 0 0, .slice none 0 0] : Array Value)[o]?) ∧ (∀ o, W.frozen? ⟨w.heap.size + 1, o, none⟩ = false)) := fun W hW => by
    have h1 := hW.block w.heap.size (by omega)
    have h2 := hW.block (w.heap.size + 1) (by omega)
    exact ⟨row_cells hbox h1, row_cells hres h2, fun o => free_rowN hres h2 o⟩
  have HPW : Hid (∀ W, Below W0.heap.size W0 W → Ints W B (.slice P f.params.length pc) f.params ∧ BlocksR W B (.slice A f.blocks.length c) f.blocks ∧ Below w.heap.size w W) := fun W hW => by
    have h1 : Below w.heap.size w W := HB0.out.trans (hW.mono (by omega))
    exact ⟨HP.out.keeps (Keeps.of_below (h1.mono hB)), HBL.out.keeps (Keeps.of_below (h1.mono hB)), h1⟩
  obtain ⟨q1, q2, q3⟩ := G0.out W0 (Below.refl _ _)
  have b0 := q1 0
  have b1 := q1 1
  have b2 := q1 2
  have b3 := q1 3
  have hBW0 : B ≤ W0.heap.size := by omega
  have HFL := hideI (flow_any f B _ _ W0 (HPW.out _ (Below.refl _ _)).1 (HPW.out _ (Below.refl _ _)).2.1 hBW0 HID.out)
  clear hid hW0 hB0 hs0 hbox hres q1 q2 q3
  by_cases h0 : (lookM f).1 = 0
  · have H0 := hideI h0
    clear h0
    go_enter Try.func59, Try.ntmps59
    go_upto_region 1 with fail
    rw [← HW0.out]
    go_wp2_with (first
      | (go_at_call 82; go_must (refine HFL.out.mono ?_); rintro e w1 (⟨hbad, _⟩ | ⟨_, o, pl, gp, vs, go, capo, gl, rfl, hfs, hfa, hlow, hb1⟩); (exact absurd H0.out hbad); have HFS := hideI hfs; have HFA := hideI hfa; have HLOW := hideI hlow; have HB1 := hideI hb1; clear hfs hfa hlow hb1 b0 b1 b2 b3))
    obtain ⟨W1, hW1⟩ : ∃ W1, W1 = w1.alloc (.cells #[.slice (some ⟨gp, 0, none⟩) f.blocks.length f.blocks.length, .slice (some ⟨go, 0, none⟩) o.length capo, .slice (some ⟨gl, 0, none⟩) f.blocks.length f.blocks.length] 99) := ⟨_, rfl⟩
    rw [← hW1]
    have hfc : W1.heap[w1.heap.size]? = some (.cells #[.slice (some ⟨gp, 0, none⟩) f.blocks.length f.blocks.length, .slice (some ⟨go, 0, none⟩) o.length capo, .slice (some ⟨gl, 0, none⟩) f.blocks.length f.blocks.length] 99 (0, 0)) := by rw [hW1]; exact heap_alloc_new w1 _
    have hs1 : w1.heap.size < W1.heap.size := by rw [hW1]; simp
    have HBW1 : Hid (Below w1.heap.size w1 W1) := by show Below _ _ _; rw [hW1]; exact (Below.refl _ _).alloc (Nat.le_refl _) _
    have HFC := hideI hfc
    have hxr := row_cells hfc rfl
    have q0 := hxr 0
    have q1 := hxr 1
    have q2 := hxr 2
    have G4 : Hid (∀ W, Below W1.heap.size W1 W → W.cell? ⟨w1.heap.size, 0, none⟩ = some (.slice (some ⟨gp, 0, none⟩) f.blocks.length f.blocks.length) ∧ W.cell? ⟨w1.heap.size, 1, none⟩ = some (.slice (some ⟨go, 0, none⟩) o.length capo) ∧ W.cell? ⟨w1.heap.size, 2, none⟩ = some (.slice (some ⟨gl, 0, none⟩) f.blocks.length f.blocks.length)) := by
      intro W hW
      have hx := row_cells HFC.out (hW.block _ hs1)
      exact ⟨hx 0, hx 1, hx 2⟩
    have hn0 := HFS.out.n0
    have hn5 := HFS.out.n5
    have hn6 : f.blocks.length ≤ 100000 := by omega
    clear hW1 hxr hfc
    go_cut [6] (fun s6 wx => ∃ g6 gi : Nat, s6 = .pointer (some ⟨g6, 0, none⟩) ∧ Hid (SixAt W1 wx f.blocks.length o.length gp go capo gl g6 gi))
    case first =>
      go_region_held3 (fun w' => w'.cell? ⟨w1.heap.size, 0, none⟩ = some (.slice (some ⟨gp, 0, none⟩) f.blocks.length f.blocks.length) ∧ w'.cell? ⟨w1.heap.size, 1, none⟩ = some (.slice (some ⟨go, 0, none⟩) o.length capo) ∧ w'.cell? ⟨w1.heap.size, 2, none⟩ = some (.slice (some ⟨gl, 0, none⟩) f.blocks.length f.blocks.length)) (first | (with_reducible exact G4.out _ hfb) | (with_reducible exact G4.out _ (hfb.alloc hfb.size _)) | (with_reducible exact G4.out _ ((((hfb.setCell (Nat.le_succ _) _).setCell (Nat.le_succ _) _).setCell (Nat.le_succ _) _).setCell (Nat.le_succ _) _)) | (with_reducible exact G4.out _ ((((hfb.setCell (Nat.le_refl _) _).setCell (Nat.le_refl _) _).setCell (Nat.le_refl _) _).setCell (Nat.le_refl _) _)) | go_keep)
        (first
          | (go_at_call 83; (with_reducible refine (repeat_any (-1) f.blocks.length W1.heap.size (W1.alloc (.cells #[.int .i64 (-1)] 3)).drew hn0 hn6 drew_new_cell one_lt6).mono ?_); rintro e w3 ⟨gi, rfl, hrep, hb3⟩; have hfb := drew_alloc_below hb3)
          | (go_at_call 83; (with_reducible refine (repeat_any (-1) f.blocks.length W1.heap.size ((W1.alloc (.cells #[.int .i64 (-1)] 3)).alloc (.cells #[.slice none 0 0, .slice none 0 0, .slice none 0 0, .slice none 0 0] 101)).drew hn0 hn6 drew_new_cell2 two_lt6).mono ?_); rintro e w3 ⟨gi, rfl, hrep, hb3⟩; obtain ⟨hfb, h6⟩ := drew_alloc2 hb3; replace h6 := h6.trans (new_two.trans (heap_alloc_new _ _)); have hx6 := row_cells h6 rfl; have hz6 := free_rowN h6 rfl; have s0 := hx6 0; have s1 := hx6 1; have s2 := hx6 2; have s3 := hx6 3; have z0 := hz6 0; have z1 := hz6 1; have z2 := hz6 2; have z3 := hz6 3)
          | (go_at_call 83; (with_reducible refine (repeat_any (-1) f.blocks.length (W1.heap.size + 1) ((W1.alloc (.cells #[.slice none 0 0, .slice none 0 0, .slice none 0 0, .slice none 0 0] 101)).alloc (.cells #[.int .i64 (-1)] 3)).drew hn0 hn6 drew_new_cell3 two_lt7).mono ?_); rintro e w3 ⟨gi, rfl, hrep, hb3⟩; obtain ⟨hfb, h6⟩ := drew_alloc3 hb3; replace h6 := h6.trans (new_two3.trans (heap_alloc_new _ _)); have hx6 := row_cells h6 rfl; have hz6 := free_rowN h6 rfl; have s0 := hx6 0; have s1 := hx6 1; have s2 := hx6 2; have s3 := hx6 3; have z0 := hz6 0; have z1 := hz6 1; have z2 := hz6 2; have z3 := hz6 3))
      all_goals (go_wp2_with fail; go_meet)
      · exact ⟨_, gi, rfl, hideI (SixAt.late hfb hrep (Nat.le_of_lt one_lt6))⟩
      · exact ⟨_, gi, rfl, hideI (SixAt.early hfb hrep two_lt7 (Nat.le_succ _) h6)⟩
      · exact ⟨_, gi, rfl, hideI (SixAt.early hfb hrep two_lt6 (Nat.le_refl _) h6)⟩
    case rest =>
      obtain ⟨g6, gi, rfl, HSX⟩ := hcut
      clear q0 q1 q2
      obtain ⟨wx, rfl⟩ : ∃ wx : World, wx = wc := ⟨_, rfl⟩
      have hx := row_cells HSX.out.row rfl
      have r0 := hx 0
      have r1 := hx 1
      have r2 := hx 2
      have r3 := hx 3
      clear hx
      have HTX : Hid (TreeAt wx W1.heap.size f.blocks o pl (fun _ => none) gp vs go capo gl gi) := hideI ⟨((HFA.out.kept HBW1.out).more HBW1.out.size).kept HSX.out.below, by rw [tops_none]; exact HSX.out.own⟩
      have hs0 := HS0.out
      have hsw1 : W0.heap.size ≤ w1.heap.size := HB1.out.size
      have hswx : W1.heap.size ≤ wx.heap.size := HSX.out.below.size
      have HBX : Hid (Below W0.heap.size W0 wx) := (HB1.out.trans (HBW1.out.mono hsw1)).trans (HSX.out.below.mono (by omega))
      have hgi := HTX.out.lt
      have HG6 : Hid (g6 ≠ gi ∧ g6 < wx.heap.size) := ⟨HSX.out.ne, lt_of_heap HSX.out.row⟩
      go_wp2_with (go_at_call 84; go_must (refine (grow_any f.blocks o pl W1.heap.size gp go capo gl gi vs _ HTX.out HFS.out.ord HFS.out.range HFS.out.n5 HFS.out.len HFS.out.cap HFS.out.most).mono ?_); rintro e w5 ⟨par, rfl, hdone, htree, hg⟩; have HDONE := hideI hdone; have HTREE := hideI htree; have HG := hideI hg; clear hdone htree hg r0 r1 r2 r3; have hx := row_cells HSX.out.row (HG.out.block g6 HG6.out.2 (fun e => HG6.out.1 (Option.some.inj e))); have r0 := hx 0; have r1 := hx 1; have r2 := hx 2; have r3 := hx 3; have HB5 : Hid (Below W0.heap.size W0 w5) := HBX.out.grown HG.out HBX.out.size (fun k hk => by cases hk; omega); obtain ⟨q1, q2, q3⟩ := G0.out _ HB5.out; have s0 := q2 0; have s1 := q2 1; have s2 := q2 2; have s3 := q2 3; have g0 := q3 0; have g1 := q3 1; have g2 := q3 2; have g3 := q3 3; clear hx q1 q2 q3)
      refine bodyPost_ret (v := .tuple #[.agg #[.slice (some ⟨gp, 0, none⟩) f.blocks.length f.blocks.length, .slice (some ⟨go, 0, none⟩) o.length capo, .slice (some ⟨gl, 0, none⟩) f.blocks.length f.blocks.length, .slice (some ⟨gi, 0, none⟩) f.blocks.length f.blocks.length], .int .i64 0]) (by simp [results, Try.results59, go_sem, s0, s1, s2, s3]) rfl (.inr ⟨H0.out, o, pl, par, W1.heap.size, gp, vs, go, capo, gl, gi, rfl, HFS.out, HDONE.out, ?_, by omega, ?_⟩)
      · have hlo := HLOW.out
        exact (((HTREE.out.low hlo (by omega) (j := w.heap.size + 1) (by omega) 0 _).low hlo (by omega) (j := w.heap.size + 1) (by omega) 1 _).low hlo (by omega) (j := w.heap.size + 1) (by omega) 2 _).low hlo (by omega) (j := w.heap.size + 1) (by omega) 3 _
      · exact ((((HPW.out _ HB5.out).2.2.setCell (by simp) _).setCell (by simp) _).setCell (by simp) _).setCell (by simp) _
  · have H0 := hideI h0
    have hb : ((lookM f).1 != 0) = true := by simpa using h0
    clear h0
    go_enter Try.func59, Try.ntmps59
    go_upto_region 1 with fail
    rw [← HW0.out]
    go_wp2_with (first
      | (go_at_call 82; go_must (refine HFL.out.mono ?_); rintro e w1 (⟨_, rfl, hb1⟩ | ⟨hbad, _⟩); rotate_left; (exact absurd hbad H0.out); have HB1 := hideI hb1; have hb2 := hb1.alloc hb1.size (.cells #[.slice none 0 0, .slice none 0 0, .slice none 0 0] 99); obtain ⟨q1, q2, q3⟩ := G0.out _ hb2; have s0 := q2 0; have s1 := q2 1; have s2 := q2 2; have s3 := q2 3; have g0 := q3 0; have g1 := q3 1; have g2 := q3 2; have g3 := q3 3; clear q1 q2 q3 hb1 hb2 b0 b1 b2 b3))
    refine bodyPost_ret (v := .tuple #[.agg #[.slice none 0 0, .slice none 0 0, .slice none 0 0, .slice none 0 0], .int .i64 (lookM f).1]) (by simp [results, Try.results59, go_sem, s0, s1, s2, s3]) rfl (.inl ⟨H0.out, rfl, ?_⟩)
    exact (((((HPW.out _ HB1.out).2.2.alloc (HPW.out _ HB1.out).2.2.size _).setCell (by simp) _).setCell (by simp) _).setCell (by simp) _).setCell (by simp) _

end Go.Proofs.Ytclbhbnidodmdaa
