/- How a function of the middle end lies in memory. -/
import Derived.Test.YtclbhbnidodmdaaSpec
import Derived.Test.YtclbhbnidodmdaaInts
import Derived.Test.YtclbhbnidodmdaaMaps
namespace Go.Proofs.Ytclbhbnidodmdaa
open Go.RowKit

/-- a list of phis -/
def PhisR (w : World) (B : Nat) (v : Value) (ps : List PhiM) : Prop :=
  ∃ A c, v = .slice A ps.length c ∧ ps.length ≤ 140737488351232 ∧ ∀ k p, ps[k]? = some p → ∃ b off fv vv, A = some ⟨b, off, none⟩ ∧ b < B ∧
    w.cell? ⟨b, off + k * 4, none⟩ = some (.int .i64 p.id) ∧ w.cell? ⟨b, off + k * 4 + 1, none⟩ = some (.int .i64 p.typ) ∧ w.cell? ⟨b, off + k * 4 + 2, none⟩ = some fv ∧ w.cell? ⟨b, off + k * 4 + 3, none⟩ = some vv ∧
    Ints w B fv p.fr ∧ Ints w B vv p.vals ∧ I64 p.id ∧ I64 p.typ

/-- a list of instructions -/
def CodeR (w : World) (B : Nat) (v : Value) (xs : List InstrM) : Prop :=
  ∃ A c, v = .slice A xs.length c ∧ xs.length ≤ 140737488351232 ∧ ∀ k x, xs[k]? = some x → ∃ b off av, A = some ⟨b, off, none⟩ ∧ b < B ∧
    w.cell? ⟨b, off + k * 4, none⟩ = some (.int .i64 x.op) ∧ w.cell? ⟨b, off + k * 4 + 1, none⟩ = some (.int .i64 x.id) ∧ w.cell? ⟨b, off + k * 4 + 2, none⟩ = some av ∧ w.cell? ⟨b, off + k * 4 + 3, none⟩ = some (.int .i64 x.n) ∧
    Ints w B av x.args ∧ I64 x.op ∧ I64 x.id ∧ I64 x.n

/-- a list of blocks -/
def BlocksR (w : World) (B : Nat) (v : Value) (bs : List BlockM) : Prop :=
  ∃ A c, v = .slice A bs.length c ∧ bs.length ≤ 140737488351232 ∧ ∀ k q, bs[k]? = some q → ∃ b off pv cv tv, A = some ⟨b, off, none⟩ ∧ b < B ∧
    w.cell? ⟨b, off + k * 6, none⟩ = some pv ∧ w.cell? ⟨b, off + k * 6 + 1, none⟩ = some cv ∧ w.cell? ⟨b, off + k * 6 + 2, none⟩ = some (.int .i64 q.term.op) ∧ w.cell? ⟨b, off + k * 6 + 3, none⟩ = some (.int .i64 q.term.val) ∧
    w.cell? ⟨b, off + k * 6 + 4, none⟩ = some tv ∧ w.cell? ⟨b, off + k * 6 + 5, none⟩ = some (.int .i64 q.term.n) ∧
    PhisR w B pv q.phis ∧ CodeR w B cv q.code ∧ Ints w B tv q.term.to ∧ I64 q.term.op ∧ I64 q.term.val ∧ I64 q.term.n

section
variable {w w' : World} {B : Nat} {v : Value}
/-- what is kept where all cells below B are kept -/
def Keeps (B : Nat) (w w' : World) : Prop := ∀ b o, b < B → w'.cell? ⟨b, o, none⟩ = w.cell? ⟨b, o, none⟩

theorem Keeps.of_below (h : Below B w w') : Keeps B w w' := fun b o hb => h.cell (p := ⟨b, o, none⟩) hb
theorem Keeps.of_grown {M : Nat} (h : w.grownBy w' (some M)) (hM : B ≤ M) (hB : B ≤ w.heap.size) : Keeps B w w' := fun b o hb =>
  World.cell?_of_block (h.block b (by omega) (by simp; omega))
theorem Keeps.trans {w2 : World} (h : Keeps B w w') (k : Keeps B w' w2) : Keeps B w w2 := fun b o hb => (k b o hb).trans (h b o hb)
theorem Keeps.refl (w : World) : Keeps B w w := fun _ _ _ => rfl
theorem Keeps.alloc (h : Keeps B w w') (hB : B ≤ w'.heap.size) (o : Obj) : Keeps B w (w'.alloc o) := fun b i hb => (World.cell?_alloc_lt w' o ⟨b, i, none⟩ (by simp; omega)).trans (h b i hb)

theorem Ints.keeps {xs : List Int} (h : Ints w B v xs) (hk : Keeps B w w') : Ints w' B v xs := by
  obtain ⟨A, c, rfl, hm, h⟩ := h
  refine ⟨A, c, rfl, hm, fun k hlt => ?_⟩
  obtain ⟨b, off, rfl, hb, hc⟩ := h k hlt
  exact ⟨b, off, rfl, hb, (hk _ _ hb).trans hc⟩

theorem PhisR.keeps {ps : List PhiM} (h : PhisR w B v ps) (hk : Keeps B w w') : PhisR w' B v ps := by
  obtain ⟨A, c, rfl, hm, h⟩ := h
  refine ⟨A, c, rfl, hm, fun k p hp => ?_⟩
  obtain ⟨b, off, fv, vv, rfl, hb, h0, h1, h2, h3, hf, hv, hi, ht⟩ := h k p hp
  exact ⟨b, off, fv, vv, rfl, hb, (hk _ _ hb).trans h0, (hk _ _ hb).trans h1, (hk _ _ hb).trans h2, (hk _ _ hb).trans h3, hf.keeps hk, hv.keeps hk, hi, ht⟩

theorem CodeR.keeps {xs : List InstrM} (h : CodeR w B v xs) (hk : Keeps B w w') : CodeR w' B v xs := by
  obtain ⟨A, c, rfl, hm, h⟩ := h
  refine ⟨A, c, rfl, hm, fun k p hp => ?_⟩
  obtain ⟨b, off, av, rfl, hb, h0, h1, h2, h3, hf, r⟩ := h k p hp
  exact ⟨b, off, av, rfl, hb, (hk _ _ hb).trans h0, (hk _ _ hb).trans h1, (hk _ _ hb).trans h2, (hk _ _ hb).trans h3, hf.keeps hk, r⟩

theorem BlocksR.keeps {bs : List BlockM} (h : BlocksR w B v bs) (hk : Keeps B w w') : BlocksR w' B v bs := by
  obtain ⟨A, c, rfl, hm, h⟩ := h
  refine ⟨A, c, rfl, hm, fun k p hp => ?_⟩
  obtain ⟨b, off, pv, cv, tv, rfl, hb, h0, h1, h2, h3, h4, h5, hp, hc, ht, r⟩ := h k p hp
  exact ⟨b, off, pv, cv, tv, rfl, hb, (hk _ _ hb).trans h0, (hk _ _ hb).trans h1, (hk _ _ hb).trans h2, (hk _ _ hb).trans h3, (hk _ _ hb).trans h4, (hk _ _ hb).trans h5, hp.keeps hk, hc.keeps hk, ht.keeps hk, r⟩
end

/-- a block that stands as it was made reads so -/
theorem row_cells {w w' : World} {g : Nat} {cs : Array Value} {t : TypeId} (h : w.heap[g]? = some (.cells cs t (0, 0))) (hk : w'.heap[g]? = w.heap[g]?) : ∀ o, w'.cell? ⟨g, o, none⟩ = cs[o]? :=
  fun o => cell_of_row w' g o cs t (0, 0) (hk.trans h)

/-- behind two new blocks, and writes to block M alone, both read as they were made -/
theorem two_cells {w w' : World} {c1 c2 : Array Value} {t1 t2 : TypeId} {M : Nat} (hg : ((w.alloc (.cells c1 t1)).alloc (.cells c2 t2)).grownBy w' (some M)) (hM : M < w.heap.size) :
    (∀ o, w'.cell? ⟨w.heap.size, o, none⟩ = c1[o]?) ∧ (∀ o, w'.cell? ⟨w.heap.size + 1, o, none⟩ = c2[o]?) ∧ w.heap.size + 1 < w'.heap.size := by
  have h1 : ((w.alloc (.cells c1 t1)).alloc (.cells c2 t2)).heap[w.heap.size]? = some (.cells c1 t1 (0, 0)) := by
    rw [Below.heap_alloc _ _ _ (by simp)]
    exact heap_alloc_new w _
  have h2 : ((w.alloc (.cells c1 t1)).alloc (.cells c2 t2)).heap[w.heap.size + 1]? = some (.cells c2 t2 (0, 0)) := by
    have := heap_alloc_new (w.alloc (.cells c1 t1)) (.cells c2 t2)
    simpa using this
  have hs := hg.size
  simp at hs
  exact ⟨row_cells h1 (hg.block _ (by simp; omega) (by simp; omega)), row_cells h2 (hg.block _ (by simp) (by simp; omega)), by omega⟩

theorem one_cells {w w' : World} {c1 : Array Value} {t1 : TypeId} (hg : Below (w.heap.size + 1) (w.alloc (.cells c1 t1)) w') : (∀ o, w'.cell? ⟨w.heap.size, o, none⟩ = c1[o]?) ∧ w.heap.size < w'.heap.size := by
  have hs := hg.size
  simp at hs
  exact ⟨row_cells (heap_alloc_new w _) (hg.block _ (by omega)), by omega⟩

theorem keeps_one {w w' : World} {o : Obj} {B : Nat} (hg : Below (w.heap.size + 1) (w.alloc o) w') (hB : B ≤ w.heap.size) : Keeps B w w' :=
  ((Keeps.refl w).alloc hB o).trans (Keeps.of_below (hg.mono (by omega)))

theorem below_one {w w' : World} {o : Obj} (hg : Below (w.heap.size + 1) (w.alloc o) w') : Below w.heap.size w w' :=
  ((Below.refl _ _).alloc (Nat.le_refl _) _).trans (hg.mono (by omega))

end Go.Proofs.Ytclbhbnidodmdaa
