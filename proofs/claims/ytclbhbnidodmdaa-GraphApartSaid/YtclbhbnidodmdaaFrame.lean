/- What a walk over the uses keeps: all that was made from block N on, and all below B. -/
import Derived.Test.YtclbhbnidodmdaaFormed
namespace Go.Proofs.Ytclbhbnidodmdaa
open Go.RowKit Go.Maps

structure Fr (S : List Nat) (N B : Nat) (w w' : World) : Prop where
  os : w'.os = w.os
  tape : w'.tape = w.tape
  output : w'.output = w.output
  size : w.heap.size ≤ w'.heap.size
  high : ∀ b, N ≤ b → b < w.heap.size → w'.heap[b]? = w.heap[b]?
  low : ∀ b, b < B → w'.heap[b]? = w.heap[b]?
  rest : ∀ b, b < w.heap.size → b ∉ S → w'.heap[b]? = w.heap[b]?

variable {S : List Nat} {N B : Nat} {w w' w2 : World}
theorem Fr.refl (w : World) : Fr S N B w w := ⟨rfl, rfl, rfl, Nat.le_refl _, fun _ _ _ => rfl, fun _ _ => rfl, fun _ _ _ => rfl⟩
theorem Fr.trans (h : Fr S N B w w') (k : Fr S N B w' w2) : Fr S N B w w2 :=
  ⟨k.os.trans h.os, k.tape.trans h.tape, k.output.trans h.output, Nat.le_trans h.size k.size, fun b hb hs => (k.high b hb (Nat.lt_of_lt_of_le hs h.size)).trans (h.high b hb hs), fun b hb => (k.low b hb).trans (h.low b hb),
    fun b hs hb => (k.rest b (Nat.lt_of_lt_of_le hs h.size) hb).trans (h.rest b hs hb)⟩
theorem Fr.of_below (h : Below w.heap.size w w') (hB : B ≤ w.heap.size) : Fr S N B w w' :=
  ⟨h.os, h.tape, h.output, h.size, fun b _ hs => h.block b hs, fun b hb => h.block b (by omega), fun b hs _ => h.block b hs⟩
theorem Fr.alloc (h : Fr S N B w w') (hB : B ≤ w'.heap.size) (o : Obj) : Fr S N B w (w'.alloc o) := h.trans (Fr.of_below ((Below.refl _ _).alloc (Nat.le_refl _) o) hB)
theorem Fr.keeps (h : Fr S N B w w') : Keeps B w w' := fun b o hb => World.cell?_of_block (a := ⟨b, o, none⟩) (h.low b hb)
theorem Fr.row {g : Nat} {cs : Array Value} {t : TypeId} (h : Fr S N B w w') (hg : w.heap[g]? = some (.cells cs t (0, 0))) (hN : N ≤ g) : ∀ o, w'.cell? ⟨g, o, none⟩ = cs[o]? :=
  row_cells hg (h.high g hN (Array.getElem?_eq_some_iff.1 hg).1)
theorem Fr.blk {g : Nat} {o : Obj} (h : Fr S N B w w') (hg : w.heap[g]? = some o) (hN : N ≤ g) : w'.heap[g]? = some o :=
  (h.high g hN (Array.getElem?_eq_some_iff.1 hg).1).trans hg

end Go.Proofs.Ytclbhbnidodmdaa
