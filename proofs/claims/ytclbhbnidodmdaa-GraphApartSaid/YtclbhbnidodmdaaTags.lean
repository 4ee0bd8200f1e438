/- A function's lists by their tags: which row each is; how they are read, and owned. -/
import Derived.Test.YtclbhbnidodmdaaReads
import Derived.Test.YtclbhbnidodmdaaDefine
import Derived.Test.YtclbhbnidodmdaaOpen
import Derived.Deep.AppendLies
import Derived.Deep.Onto
namespace Go.Proofs.Ytclbhbnidodmdaa
open Go.RowKit

inductive Tag
  | params
  | blocks
  | phis (k : Nat)
  | code (k : Nat)
  | ends (k : Nat)
  | fr (k i : Nat)
  | vals (k i : Nat)
  | args (k i : Nat)
  deriving DecidableEq

/-- a row as data -/
structure RowD where
  elem : TypeId
  size : Nat
  len : Nat
  cells : List Value

def intsRow (xs : List Int) : RowD := ⟨3, 1, xs.length, xs.map (Value.int .i64)⟩

def cellsOf {α : Type} (g : Nat → α → List Value) : Nat → List α → List Value
  | _, [] => []
  | i, a :: r => g i a ++ cellsOf g (i + 1) r

abbrev Vals := Tag → Value

def phiCells (val : Vals) (k i : Nat) (p : PhiM) : List Value := [.int .i64 p.id, .int .i64 p.typ, val (.fr k i), val (.vals k i)]
def instrCells (val : Vals) (k i : Nat) (x : InstrM) : List Value := [.int .i64 x.op, .int .i64 x.id, val (.args k i), .int .i64 x.n]
def blockCells (val : Vals) (k : Nat) (b : BlockM) : List Value := [val (.phis k), val (.code k), .int .i64 b.term.op, .int .i64 b.term.val, val (.ends k), .int .i64 b.term.n]

def rowOf (f : FuncM) (val : Vals) : Tag → Option RowD
  | .params => some (intsRow f.params)
  | .blocks => some ⟨54, 6, f.blocks.length, cellsOf (blockCells val) 0 f.blocks⟩
  | .phis k => f.blocks[k]?.map fun b => ⟨92, 4, b.phis.length, cellsOf (phiCells val k) 0 b.phis⟩
  | .code k => f.blocks[k]?.map fun b => ⟨86, 4, b.code.length, cellsOf (instrCells val k) 0 b.code⟩
  | .ends k => f.blocks[k]?.map fun b => intsRow b.term.to
  | .fr k i => (f.blocks[k]?.bind fun b => b.phis[i]?).map fun p => intsRow p.fr
  | .vals k i => (f.blocks[k]?.bind fun b => b.phis[i]?).map fun p => intsRow p.vals
  | .args k i => (f.blocks[k]?.bind fun b => b.code[i]?).map fun x => intsRow x.args

section
variable {α : Type} {g g' : Nat → α → List Value} {s : Nat}

theorem cellsOf_len (hs : ∀ i a, (g i a).length = s) : ∀ (l : List α) (i : Nat), (cellsOf g i l).length = l.length * s := by
  intro l
  induction l with
  | nil => intro i; simp [cellsOf]
  | cons a l ih => intro i; rw [cellsOf, List.length_append, hs, ih, List.length_cons]; rw [Nat.add_mul]; omega

theorem cellsOf_at (hs : ∀ i a, (g i a).length = s) : ∀ (l : List α) (i k r : Nat) (a : α), l[k]? = some a → r < s → (cellsOf g i l)[k * s + r]? = (g (i + k) a)[r]? := by
  intro l
  induction l with
  | nil => intro i k r a h; simp at h
  | cons b l ih =>
    intro i k r a h hr
    rw [cellsOf]
    cases k with
    | zero =>
      simp at h
      subst h
      rw [List.getElem?_append_left (by rw [hs]; omega)]
      simp
    | succ k =>
      rw [List.getElem?_append_right (by rw [hs, Nat.add_mul]; omega), hs]
      have := ih (i + 1) k r a (by simpa using h) hr
      rw [show (k + 1) * s + r - s = k * s + r by rw [Nat.add_mul]; omega, this]
      congr 2
      omega

theorem cellsOf_congr : ∀ (l : List α) (i : Nat), (∀ k a, l[k]? = some a → g (i + k) a = g' (i + k) a) → cellsOf g i l = cellsOf g' i l := by
  intro l
  induction l with
  | nil => intro i _; rfl
  | cons a l ih =>
    intro i h
    rw [cellsOf, cellsOf, ih (i + 1) (fun k b hb => by have := h (k + 1) b (by simpa using hb); rwa [show i + (k + 1) = i + 1 + k by omega] at this)]
    rw [show g i a = g' i a from by simpa using h 0 a rfl]

theorem cellsOf_div (hs : ∀ i a, (g i a).length = s) {l : List α} {j : Nat} {u : Value} (h : (cellsOf g 0 l)[j]? = some u) : ∃ k r a, j = k * s + r ∧ r < s ∧ l[k]? = some a ∧ (g k a)[r]? = some u := by
  have hj := (List.getElem?_eq_some_iff.1 h).1
  rw [cellsOf_len hs] at hj
  have hs0 : 0 < s := Nat.pos_of_ne_zero fun e => by subst e; simp at hj
  have hk : j / s < l.length := (Nat.div_lt_iff_lt_mul hs0).2 hj
  have hr := Nat.mod_lt j hs0
  have e : j = j / s * s + j % s := by rw [Nat.mul_comm]; exact (Nat.div_add_mod j s).symm
  refine ⟨j / s, j % s, _, e, hr, List.getElem?_eq_getElem hk, ?_⟩
  have h2 := cellsOf_at hs l 0 (j / s) (j % s) _ (List.getElem?_eq_getElem hk) hr
  rw [← e, h] at h2
  rw [Nat.zero_add] at h2
  exact h2.symm
end

/-- how a row is read -/
def RowR (w : World) (B : Nat) (v : Value) (d : RowD) : Prop :=
  ∃ A c, v = .slice A d.len c ∧ d.len ≤ 140737488351232 ∧ ∀ j u, d.cells[j]? = some u → ∃ b off, A = some ⟨b, off, none⟩ ∧ b < B ∧ w.cell? ⟨b, off + j, none⟩ = some u

/-- all rows of a function can be read -/
def RdF (w : World) (B : Nat) (f : FuncM) (val : Vals) : Prop := ∀ t d, rowOf f val t = some d → RowR w B (val t) d

theorem RowR.keeps {w w' : World} {B : Nat} {v : Value} {d : RowD} (h : RowR w B v d) (hk : Keeps B w w') : RowR w' B v d := by
  obtain ⟨A, c, rfl, hm, hx⟩ := h
  refine ⟨A, c, rfl, hm, fun j u hu => ?_⟩
  obtain ⟨b, off, rfl, hb, hc⟩ := hx j u hu
  exact ⟨b, off, rfl, hb, (hk _ _ hb).trans hc⟩

theorem RowR.more {w : World} {B B' : Nat} {v : Value} {d : RowD} (h : RowR w B v d) (hB : B ≤ B') : RowR w B' v d := by
  obtain ⟨A, c, rfl, hm, hx⟩ := h
  refine ⟨A, c, rfl, hm, fun j u hu => ?_⟩
  obtain ⟨b, off, rfl, hb, hc⟩ := hx j u hu
  exact ⟨b, off, rfl, by omega, hc⟩

theorem RdF.keeps {w w' : World} {B : Nat} {f : FuncM} {val : Vals} (h : RdF w B f val) (hk : Keeps B w w') : RdF w' B f val := fun t d hd => (h t d hd).keeps hk
theorem RdF.more {w : World} {B B' : Nat} {f : FuncM} {val : Vals} (h : RdF w B f val) (hB : B ≤ B') : RdF w B' f val := fun t d hd => (h t d hd).more hB

theorem RowR.ints {w : World} {B : Nat} {v : Value} {xs : List Int} (h : RowR w B v (intsRow xs)) : Ints w B v xs := by
  obtain ⟨A, c, rfl, hm, hx⟩ := h
  refine ⟨A, c, rfl, hm, fun k hk => ?_⟩
  obtain ⟨b, off, hA, hb, hc⟩ := hx k (.int .i64 xs[k]) (by show (xs.map _)[k]? = _; rw [List.getElem?_map, List.getElem?_eq_getElem hk]; rfl)
  exact ⟨b, off, hA, hb, by rw [hc, List.getElem?_eq_getElem hk]; rfl⟩

theorem Ints.row {w : World} {B : Nat} {v : Value} {xs : List Int} (h : Ints w B v xs) : RowR w B v (intsRow xs) := by
  obtain ⟨A, c, rfl, hm, hx⟩ := h
  refine ⟨A, c, rfl, hm, fun j u hu => ?_⟩
  have hu' : (xs.map (Value.int .i64))[j]? = some u := hu
  rw [List.getElem?_map] at hu'
  cases hj : xs[j]? with
  | none => rw [hj] at hu'; cases hu'
  | some x =>
    rw [hj] at hu'
    cases hu'
    obtain ⟨b, off, hA, hb, hc⟩ := hx j (List.getElem?_eq_some_iff.1 hj).1
    exact ⟨b, off, hA, hb, by rw [hc, hj]; rfl⟩

/-- numbers that fit -/
structure FnFits (f : FuncM) : Prop where
  phi : ∀ b ∈ f.blocks, ∀ p ∈ b.phis, I64 p.id ∧ I64 p.typ
  code : ∀ b ∈ f.blocks, ∀ x ∈ b.code, I64 x.op ∧ I64 x.id ∧ I64 x.n
  term : ∀ b ∈ f.blocks, I64 b.term.op ∧ I64 b.term.val ∧ I64 b.term.n

theorem phiCells_len (val : Vals) (k : Nat) : ∀ i p, (phiCells val k i p).length = 4 := fun _ _ => rfl
theorem instrCells_len (val : Vals) (k : Nat) : ∀ i p, (instrCells val k i p).length = 4 := fun _ _ => rfl
theorem blockCells_len (val : Vals) : ∀ i p, (blockCells val i p).length = 6 := fun _ _ => rfl

section
variable {w : World} {B : Nat} {f : FuncM} {val : Vals}

theorem RdF.params (h : RdF w B f val) : Ints w B (val .params) f.params := (h .params _ rfl).ints

theorem RdF.phis (h : RdF w B f val) (hf : FnFits f) {k : Nat} {b : BlockM} (hb : f.blocks[k]? = some b) : PhisR w B (val (.phis k)) b.phis := by
  obtain ⟨A, c, hv, hm, hx⟩ := h (.phis k) _ (by simp only [rowOf, hb]; rfl)
  rw [hv]
  refine ⟨A, c, rfl, hm, fun i p hp => ?_⟩
  have hat : ∀ r u, r < 4 → (phiCells val k i p)[r]? = some u → ∃ b off, A = some ⟨b, off, none⟩ ∧ b < B ∧ w.cell? ⟨b, off + (i * 4 + r), none⟩ = some u := fun r u hr hu => hx (i * 4 + r) u (by
    have := cellsOf_at (phiCells_len val k) b.phis 0 i r p hp hr
    rw [Nat.zero_add] at this
    exact this.trans hu)
  obtain ⟨g, off, rfl, hg, c0⟩ := hat 0 _ (by omega) rfl
  obtain ⟨_, _, e, _, c1⟩ := hat 1 _ (by omega) rfl
  cases e
  obtain ⟨_, _, e, _, c2⟩ := hat 2 _ (by omega) rfl
  cases e
  obtain ⟨_, _, e, _, c3⟩ := hat 3 _ (by omega) rfl
  cases e
  have hp2 : (f.blocks[k]?.bind fun b => b.phis[i]?) = some p := by rw [hb]; exact hp
  exact ⟨g, off, _, _, rfl, hg, c0, c1, c2, c3, (h (.fr k i) _ (by simp only [rowOf, hp2]; rfl)).ints, (h (.vals k i) _ (by simp only [rowOf, hp2]; rfl)).ints, hf.phi b (List.mem_of_getElem? hb) p (List.mem_of_getElem? hp)⟩

theorem RdF.code (h : RdF w B f val) (hf : FnFits f) {k : Nat} {b : BlockM} (hb : f.blocks[k]? = some b) : CodeR w B (val (.code k)) b.code := by
  obtain ⟨A, c, hv, hm, hx⟩ := h (.code k) _ (by simp only [rowOf, hb]; rfl)
  rw [hv]
  refine ⟨A, c, rfl, hm, fun i p hp => ?_⟩
  have hat : ∀ r u, r < 4 → (instrCells val k i p)[r]? = some u → ∃ b off, A = some ⟨b, off, none⟩ ∧ b < B ∧ w.cell? ⟨b, off + (i * 4 + r), none⟩ = some u := fun r u hr hu => hx (i * 4 + r) u (by
    have := cellsOf_at (instrCells_len val k) b.code 0 i r p hp hr
    rw [Nat.zero_add] at this
    exact this.trans hu)
  obtain ⟨g, off, rfl, hg, c0⟩ := hat 0 _ (by omega) rfl
  obtain ⟨_, _, e, _, c1⟩ := hat 1 _ (by omega) rfl
  cases e
  obtain ⟨_, _, e, _, c2⟩ := hat 2 _ (by omega) rfl
  cases e
  obtain ⟨_, _, e, _, c3⟩ := hat 3 _ (by omega) rfl
  cases e
  have hp2 : (f.blocks[k]?.bind fun b => b.code[i]?) = some p := by rw [hb]; exact hp
  exact ⟨g, off, _, rfl, hg, c0, c1, c2, c3, (h (.args k i) _ (by simp only [rowOf, hp2]; rfl)).ints, hf.code b (List.mem_of_getElem? hb) p (List.mem_of_getElem? hp)⟩

theorem RdF.blocks (h : RdF w B f val) (hf : FnFits f) : BlocksR w B (val .blocks) f.blocks := by
  obtain ⟨A, c, hv, hm, hx⟩ := h .blocks _ rfl
  rw [hv]
  refine ⟨A, c, rfl, hm, fun k b hb => ?_⟩
  have hat : ∀ r u, r < 6 → (blockCells val k b)[r]? = some u → ∃ b off, A = some ⟨b, off, none⟩ ∧ b < B ∧ w.cell? ⟨b, off + (k * 6 + r), none⟩ = some u := fun r u hr hu => hx (k * 6 + r) u (by
    have := cellsOf_at (blockCells_len val) f.blocks 0 k r b hb hr
    rw [Nat.zero_add] at this
    exact this.trans hu)
  obtain ⟨g, off, rfl, hg, c0⟩ := hat 0 _ (by omega) rfl
  obtain ⟨_, _, e, _, c1⟩ := hat 1 _ (by omega) rfl
  cases e
  obtain ⟨_, _, e, _, c2⟩ := hat 2 _ (by omega) rfl
  cases e
  obtain ⟨_, _, e, _, c3⟩ := hat 3 _ (by omega) rfl
  cases e
  obtain ⟨_, _, e, _, c4⟩ := hat 4 _ (by omega) rfl
  cases e
  obtain ⟨_, _, e, _, c5⟩ := hat 5 _ (by omega) rfl
  cases e
  have ht := hf.term b (List.mem_of_getElem? hb)
  exact ⟨g, off, _, _, _, rfl, hg, c0, c1, c2, c3, c4, c5, h.phis hf hb, h.code hf hb, (h (.ends k) _ (by simp only [rowOf, hb]; rfl)).ints, ht⟩
end

/-- what is in the block that is read fits -/
theorem BlocksR.fits {w : World} {B : Nat} {v : Value} {f : FuncM} (h : BlocksR w B v f.blocks) : FnFits f := by
  obtain ⟨A, c, _, _, hx⟩ := h
  refine ⟨fun b hb p hp => ?_, fun b hb x hx2 => ?_, fun b hb => ?_⟩
  · obtain ⟨k, hk⟩ := List.getElem?_of_mem hb
    obtain ⟨_, _, _, _, _, _, _, _, _, _, _, _, _, hph, _⟩ := hx k b hk
    obtain ⟨_, _, _, _, hpx⟩ := hph
    obtain ⟨i, hi⟩ := List.getElem?_of_mem hp
    obtain ⟨_, _, _, _, _, _, _, _, _, _, _, _, r⟩ := hpx i p hi
    exact r
  · obtain ⟨k, hk⟩ := List.getElem?_of_mem hb
    obtain ⟨_, _, _, _, _, _, _, _, _, _, _, _, _, _, hco, _⟩ := hx k b hk
    obtain ⟨_, _, _, _, hcx⟩ := hco
    obtain ⟨i, hi⟩ := List.getElem?_of_mem hx2
    obtain ⟨_, _, _, _, _, _, _, _, _, _, r⟩ := hcx i x hi
    exact r
  · obtain ⟨k, hk⟩ := List.getElem?_of_mem hb
    obtain ⟨_, _, _, _, _, _, _, _, _, _, _, _, _, _, _, _, r⟩ := hx k b hk
    exact r

end Go.Proofs.Ytclbhbnidodmdaa
