/- Rows that a call owns, by their tags, each apart from the others. -/
import Derived.Test.YtclbhbnidodmdaaFList
import Derived.OneCell
import Derived.Laws.OwnMore
namespace Go.Proofs.Ytclbhbnidodmdaa
open Go.RowKit

def ListPost' (e0 : TypeId) (s : Nat) (d : RowD) (w : World) (e : Ending) (w' : World) : Prop :=
  ∃ A c, e = .returned (.slice A d.len c) ∧ w'.ownsRow w.heap.size e0 s (.slice A d.len c) d.len d.cells ∧ Below w.heap.size w w'

theorem ListPost.form {e0 : TypeId} {s : Nat} {d : RowD} {w w' : World} {e : Ending} (h : ListPost e0 s d w e w') : ListPost' e0 s d w e w' := by
  obtain ⟨v, rfl, hown, hb⟩ := h
  rcases hown.2 with ⟨hv, h0⟩ | ⟨g, cap, cur, hv, _⟩
  · exact ⟨none, 0, by rw [hv, h0], by rw [h0] at hown ⊢; rw [← hv]; exact hown, hb⟩
  · exact ⟨_, _, by rw [hv], by rw [← hv]; exact hown, hb⟩

theorem free_row' {w w' : World} {g : Nat} {cs : Array Value} {t : TypeId} (h : w.heap[g]? = some (.cells cs t (0, 0))) (hk : w'.heap[g]? = w.heap[g]?) : ∀ o, w'.frozen? ⟨g, o, none⟩ = false := by
  intro o
  simp [World.frozen?, hk, h]

def upd {α : Type} (g : Tag → α) (t0 : Tag) (a : α) : Tag → α := fun t => if t = t0 then a else g t

theorem upd_same {α : Type} (g : Tag → α) (t0 : Tag) (a : α) : upd g t0 a t0 = a := by unfold upd; rw [if_pos rfl]
theorem upd_ne {α : Type} (g : Tag → α) {t0 t : Tag} (a : α) (h : t ≠ t0) : upd g t0 a t = g t := by unfold upd; rw [if_neg h]

abbrev Rows := Tag → Option RowD

structure OwnG (w : World) (base : Nat) (row : Rows) (val : Vals) (D : Tag → Prop) : Prop where
  has : ∀ t, D t → (row t).isSome = true
  rows : ∀ t d, D t → row t = some d → w.ownsRow base d.elem d.size (val t) d.len d.cells
  apart : ∀ t t' g, D t → D t' → (val t).ownBlock = some g → (val t').ownBlock = some g → t = t'

variable {w w1 : World} {base : Nat} {row : Rows} {val : Vals} {D : Tag → Prop}

theorem OwnG.nothing (w : World) (base : Nat) (row : Rows) (val : Vals) : OwnG w base row val (fun _ => False) := ⟨fun _ h => h.elim, fun _ _ h => h.elim, fun _ _ _ h => h.elim⟩

theorem OwnG.lt (h : OwnG w base row val D) {t : Tag} {g : Nat} (ht : D t) (hg : (val t).ownBlock = some g) : base ≤ g ∧ g < w.heap.size := by
  obtain ⟨d, hd⟩ := Option.isSome_iff_exists.1 (h.has t ht)
  exact (h.rows t d ht hd).lt g hg

theorem OwnG.kept (h : OwnG w base row val D) (hk : ∀ b, base ≤ b → b < w.heap.size → w1.heap[b]? = w.heap[b]?) : OwnG w1 base row val D := by
  refine ⟨h.has, fun t d ht hd => ?_, h.apart⟩
  have h0 := h.rows t d ht hd
  refine ⟨h0.1, ?_⟩
  rcases h0.2 with h2 | ⟨g, cap, cur, hv, hb, hg, r⟩
  · exact .inl h2
  · exact .inr ⟨g, cap, cur, hv, hb, (hk g hb (Array.getElem?_eq_some_iff.1 hg).1).trans hg, r⟩

theorem OwnG.below (h : OwnG w base row val D) (hb : Below w.heap.size w w1) : OwnG w1 base row val D := h.kept fun b _ hl => hb.block b hl

theorem OwnG.other (h : OwnG w base row val D) {a : Addr} {u : Value} (ha : ∀ t, D t → (val t).ownBlock ≠ some a.block) : OwnG (w.setCell a u) base row val D :=
  ⟨h.has, fun t d ht hd => ownsRow_setCell_other (h.rows t d ht hd) (ha t ht) u, h.apart⟩

theorem OwnG.congr {row' : Rows} {val' : Vals} {D' : Tag → Prop} (h : OwnG w base row val D) (hr : ∀ t, D' t → row' t = row t) (hv : ∀ t, D' t → val' t = val t) (hD : ∀ t, D' t → D t) : OwnG w base row' val' D' :=
  ⟨fun t ht => by rw [hr t ht]; exact h.has t (hD t ht), fun t d ht hd => by rw [hv t ht]; exact h.rows t d (hD t ht) (by rw [← hr t ht]; exact hd),
    fun t t' g ht ht' h1 h2 => h.apart t t' g (hD t ht) (hD t' ht') (by rw [← hv t ht]; exact h1) (by rw [← hv t' ht']; exact h2)⟩

theorem OwnG.add {t0 : Tag} {d : RowD} {v : Value} (h : OwnG w base row val D) (hn : ¬ D t0) (hb : Below w.heap.size w w1) (hown : w1.ownsRow w.heap.size d.elem d.size v d.len d.cells) (hbase : base ≤ w.heap.size) :
    OwnG w1 base (upd row t0 (some d)) (upd val t0 v) (fun t => D t ∨ t = t0) := by
  have h1 := h.below hb
  refine ⟨fun t ht => ?_, fun t d' ht hd => ?_, fun t t' g ht ht' e1 e2 => ?_⟩
  · by_cases e : t = t0
    · subst e; rw [upd_same]; rfl
    · rw [upd_ne _ _ e]; exact h.has t (ht.resolve_right e)
  · by_cases e : t = t0
    · subst e
      rw [upd_same] at hd ⊢
      cases hd
      exact World.ownsRow.mono hown hbase
    · rw [upd_ne _ _ e] at hd ⊢
      exact h1.rows t d' (ht.resolve_right e) hd
  · by_cases e : t = t0
    · by_cases e' : t' = t0
      · rw [e, e']
      · subst e
        rw [upd_same] at e1
        rw [upd_ne _ _ e'] at e2
        have := (hown.lt g e1).1
        have := (h.lt (ht'.resolve_right e') e2).2
        omega
    · by_cases e' : t' = t0
      · subst e'
        rw [upd_same] at e2
        rw [upd_ne _ _ e] at e1
        have := (hown.lt g e2).1
        have := (h.lt (ht.resolve_right e) e1).2
        omega
      · rw [upd_ne _ _ e] at e1
        rw [upd_ne _ _ e'] at e2
        exact h.apart t t' g (ht.resolve_right e) (ht'.resolve_right e') e1 e2

theorem OwnG.set {tp : Tag} {d : RowD} {g n cap j : Nat} {u : Value} (h : OwnG w base row val D) (hp : D tp) (hd : row tp = some d) (hv : val tp = .slice (some ⟨g, 0, none⟩) n cap) (hn : d.len = n) :
    OwnG (w.setCell ⟨g, j, none⟩ u) base (upd row tp (some { d with cells := d.cells.set j u })) val D := by
  have h0 := h.rows tp d hp hd
  rw [hv, hn] at h0
  have hs := h0.stored j u
  have hg : (val tp).ownBlock = some g := by rw [hv]; rfl
  refine ⟨fun t ht => ?_, fun t d' ht hd' => ?_, h.apart⟩
  · by_cases e : t = tp
    · subst e; rw [upd_same]; rfl
    · rw [upd_ne _ _ e]; exact h.has t ht
  · by_cases e : t = tp
    · subst e
      rw [upd_same] at hd'
      cases hd'
      rw [hv, hn]
      exact hs.1
    · rw [upd_ne _ _ e] at hd'
      refine (h.rows t d' ht hd').kept hs.2 (.inr fun e2 => e (h.apart t tp g ht hp e2 hg))

/-- a cell of an owned row -/
theorem OwnG.cell {tp : Tag} {d : RowD} {g n cap j : Nat} (h : OwnG w base row val D) (hp : D tp) (hd : row tp = some d) (hv : val tp = .slice (some ⟨g, 0, none⟩) n cap) (hn : d.len = n) (hj : j < n * d.size) :
    w.cell? ⟨g, j, none⟩ = d.cells[j]? ∧ w.frozen? ⟨g, j, none⟩ = false := by
  have h0 := h.rows tp d hp hd
  rw [hv, hn] at h0
  exact ⟨World.ownsRow.cellAt h0 j hj, World.ownsRow.frozenAt h0 j⟩

theorem OwnG.slice {tp : Tag} {d : RowD} (h : OwnG w base row val D) (hp : D tp) (hd : row tp = some d) (h0 : 0 < d.len) : ∃ g cap, val tp = .slice (some ⟨g, 0, none⟩) d.len cap ∧ base ≤ g ∧ g < w.heap.size :=
  (h.rows tp d hp hd).form h0

/-- which block a tag's row is of -/
def blkOf : Tag → Option Nat
  | .params => none
  | .blocks => none
  | .phis k => some k
  | .code k => some k
  | .ends k => some k
  | .fr k _ => some k
  | .vals k _ => some k
  | .args k _ => some k

theorem rowOf_some (f : FuncM) (val val' : Vals) (t : Tag) : (rowOf f val t).isSome = (rowOf f val' t).isSome := by
  cases t <;> simp [rowOf]

section
variable {α : Type} {g g' : Nat → α → List Value} {s : Nat}

theorem cellsOf_set (hs : ∀ i a, (g i a).length = s) (hs' : ∀ i a, (g' i a).length = s) {l : List α} {i r : Nat} {u : Value} (hi : i < l.length) (hr : r < s) (h1 : ∀ k a, l[k]? = some a → k ≠ i → g' k a = g k a) (h2 : ∀ a, l[i]? = some a → g' i a = (g i a).set r u) :
    (cellsOf g 0 l).set (i * s + r) u = cellsOf g' 0 l := by
  apply List.ext_getElem?
  intro j
  by_cases hj : j < l.length * s
  · have hs0 : 0 < s := by omega
    have hk : j / s < l.length := (Nat.div_lt_iff_lt_mul hs0).2 hj
    have hm := Nat.mod_lt j hs0
    have e : j = j / s * s + j % s := by rw [Nat.mul_comm]; exact (Nat.div_add_mod j s).symm
    obtain ⟨a, ha⟩ : ∃ a, l[j / s]? = some a := ⟨_, List.getElem?_eq_getElem hk⟩
    have c1 := cellsOf_at hs l 0 (j / s) (j % s) _ ha hm
    have c2 := cellsOf_at hs' l 0 (j / s) (j % s) _ ha hm
    rw [← e, Nat.zero_add] at c1 c2
    rw [c2]
    by_cases ek : j / s = i
    · rw [ek] at ha c1 ⊢
      rw [h2 _ ha]
      by_cases er : j % s = r
      · have ej : j = i * s + r := by rw [← ek, ← er]; exact e
        rw [ej, List.getElem?_set_self (by rw [cellsOf_len hs]; rw [← ej]; exact hj), ← ej, er, List.getElem?_set_self (by rw [hs]; exact hr)]
      · have hne : i * s + r ≠ j := fun e2 => er (by rw [← e2, Nat.add_comm, Nat.add_mul_mod_self_right]; exact Nat.mod_eq_of_lt hr)
        rw [List.getElem?_set_ne hne, List.getElem?_set_ne (fun e2 => er e2.symm)]
        exact c1
    · have hne : i * s + r ≠ j := fun e2 => ek (by rw [← e2, Nat.add_comm, Nat.add_mul_div_right _ _ hs0, Nat.div_eq_of_lt hr, Nat.zero_add])
      rw [List.getElem?_set_ne hne, c1, h1 _ _ ha ek]
  · rw [List.getElem?_eq_none (by rw [List.length_set, cellsOf_len hs]; omega), List.getElem?_eq_none (by rw [cellsOf_len hs']; omega)]
end

end Go.Proofs.Ytclbhbnidodmdaa
