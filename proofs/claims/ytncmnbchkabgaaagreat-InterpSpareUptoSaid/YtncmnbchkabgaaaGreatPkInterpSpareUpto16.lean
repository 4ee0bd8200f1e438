/- What InterpSpareUpto rests on, part 16: Tags, FList, Own, RCopyI, OwnC, AppV, SpareM, AwakeM, AwakeN, AwakeS, IAwake, ISame. -/
import Derived.Test.YtncmnbchkabgaaaGreatPkInterpSpareUpto15
import Derived.Deep.AppendLies
import Derived.Deep.Onto
import Derived.OneCell
import Derived.Laws.OwnMore
import Derived.Deep.QuietTactic
import Derived.BigQuiet

namespace Go.Proofs.YtncmnbchkabgaaaGreat
open Go.RowKit

inductive Tag
  | params
  | blocks
  | phis (k : Nat)
  | code (k : Nat)
  | ends (k : Nat)
  | fr (k i : Nat)
  | vals (k i : Nat)
  | args (k i : Nat)
  deriving DecidableEq

/-- a row as data -/
structure RowD where
  elem : TypeId
  size : Nat
  len : Nat
  cells : List Value

def intsRow (xs : List Int) : RowD := ⟨3, 1, xs.length, xs.map (Value.int .i64)⟩

def cellsOf {α : Type} (g : Nat → α → List Value) : Nat → List α → List Value
  | _, [] => []
  | i, a :: r => g i a ++ cellsOf g (i + 1) r

abbrev Vals := Tag → Value

def phiCells (val : Vals) (k i : Nat) (p : PhiM) : List Value := [.int .i64 p.id, .int .i64 p.typ, val (.fr k i), val (.vals k i)]
def instrCells (val : Vals) (k i : Nat) (x : InstrM) : List Value := [.int .i64 x.op, .int .i64 x.id, val (.args k i), .int .i64 x.n]
def blockCells (val : Vals) (k : Nat) (b : BlockM) : List Value := [val (.phis k), val (.code k), .int .i64 b.term.op, .int .i64 b.term.val, val (.ends k), .int .i64 b.term.n]

def rowOf (f : FuncM) (val : Vals) : Tag → Option RowD
  | .params => some (intsRow f.params)
  | .blocks => some ⟨53, 6, f.blocks.length, cellsOf (blockCells val) 0 f.blocks⟩
  | .phis k => f.blocks[k]?.map fun b => ⟨92, 4, b.phis.length, cellsOf (phiCells val k) 0 b.phis⟩
  | .code k => f.blocks[k]?.map fun b => ⟨59, 4, b.code.length, cellsOf (instrCells val k) 0 b.code⟩
  | .ends k => f.blocks[k]?.map fun b => intsRow b.term.to
  | .fr k i => (f.blocks[k]?.bind fun b => b.phis[i]?).map fun p => intsRow p.fr
  | .vals k i => (f.blocks[k]?.bind fun b => b.phis[i]?).map fun p => intsRow p.vals
  | .args k i => (f.blocks[k]?.bind fun b => b.code[i]?).map fun x => intsRow x.args

section
variable {α : Type} {g g' : Nat → α → List Value} {s : Nat}

theorem cellsOf_len (hs : ∀ i a, (g i a).length = s) : ∀ (l : List α) (i : Nat), (cellsOf g i l).length = l.length * s := by
  intro l
  induction l with
  | nil => intro i; simp [cellsOf]
  | cons a l ih => intro i; rw [cellsOf, List.length_append, hs, ih, List.length_cons]; rw [Nat.add_mul]; omega

theorem cellsOf_at (hs : ∀ i a, (g i a).length = s) : ∀ (l : List α) (i k r : Nat) (a : α), l[k]? = some a → r < s → (cellsOf g i l)[k * s + r]? = (g (i + k) a)[r]? := by
  intro l
  induction l with
  | nil => intro i k r a h; simp at h
  | cons b l ih =>
    intro i k r a h hr
    rw [cellsOf]
    cases k with
    | zero =>
      simp at h
      subst h
      rw [List.getElem?_append_left (by rw [hs]; omega)]
      simp
    | succ k =>
      rw [List.getElem?_append_right (by rw [hs, Nat.add_mul]; omega), hs]
      have := ih (i + 1) k r a (by simpa using h) hr
      rw [show (k + 1) * s + r - s = k * s + r by rw [Nat.add_mul]; omega, this]
      congr 2
      omega

theorem cellsOf_congr : ∀ (l : List α) (i : Nat), (∀ k a, l[k]? = some a → g (i + k) a = g' (i + k) a) → cellsOf g i l = cellsOf g' i l := by
  intro l
  induction l with
  | nil => intro i _; rfl
  | cons a l ih =>
    intro i h
    rw [cellsOf, cellsOf, ih (i + 1) (fun k b hb => by have := h (k + 1) b (by simpa using hb); rwa [show i + (k + 1) = i + 1 + k by omega] at this)]
    rw [show g i a = g' i a from by simpa using h 0 a rfl]

theorem cellsOf_div (hs : ∀ i a, (g i a).length = s) {l : List α} {j : Nat} {u : Value} (h : (cellsOf g 0 l)[j]? = some u) : ∃ k r a, j = k * s + r ∧ r < s ∧ l[k]? = some a ∧ (g k a)[r]? = some u := by
  have hj := (List.getElem?_eq_some_iff.1 h).1
  rw [cellsOf_len hs] at hj
  have hs0 : 0 < s := Nat.pos_of_ne_zero fun e => by subst e; simp at hj
  have hk : j / s < l.length := (Nat.div_lt_iff_lt_mul hs0).2 hj
  have hr := Nat.mod_lt j hs0
  have e : j = j / s * s + j % s := by rw [Nat.mul_comm]; exact (Nat.div_add_mod j s).symm
  refine ⟨j / s, j % s, _, e, hr, List.getElem?_eq_getElem hk, ?_⟩
  have h2 := cellsOf_at hs l 0 (j / s) (j % s) _ (List.getElem?_eq_getElem hk) hr
  rw [← e, h] at h2
  rw [Nat.zero_add] at h2
  exact h2.symm
end

/-- how a row is read -/
def RowR (w : World) (B : Nat) (v : Value) (d : RowD) : Prop :=
  ∃ A c, v = .slice A d.len c ∧ d.len ≤ 140737488351232 ∧ ∀ j u, d.cells[j]? = some u → ∃ b off, A = some ⟨b, off, none⟩ ∧ b < B ∧ w.cell? ⟨b, off + j, none⟩ = some u

/-- all rows of a function can be read -/
def RdF (w : World) (B : Nat) (f : FuncM) (val : Vals) : Prop := ∀ t d, rowOf f val t = some d → RowR w B (val t) d

theorem RowR.keeps {w w' : World} {B : Nat} {v : Value} {d : RowD} (h : RowR w B v d) (hk : Keeps B w w') : RowR w' B v d := by
  obtain ⟨A, c, rfl, hm, hx⟩ := h
  refine ⟨A, c, rfl, hm, fun j u hu => ?_⟩
  obtain ⟨b, off, rfl, hb, hc⟩ := hx j u hu
  exact ⟨b, off, rfl, hb, (hk _ _ hb).trans hc⟩

theorem RowR.more {w : World} {B B' : Nat} {v : Value} {d : RowD} (h : RowR w B v d) (hB : B ≤ B') : RowR w B' v d := by
  obtain ⟨A, c, rfl, hm, hx⟩ := h
  refine ⟨A, c, rfl, hm, fun j u hu => ?_⟩
  obtain ⟨b, off, rfl, hb, hc⟩ := hx j u hu
  exact ⟨b, off, rfl, by omega, hc⟩

theorem RdF.keeps {w w' : World} {B : Nat} {f : FuncM} {val : Vals} (h : RdF w B f val) (hk : Keeps B w w') : RdF w' B f val := fun t d hd => (h t d hd).keeps hk
theorem RdF.more {w : World} {B B' : Nat} {f : FuncM} {val : Vals} (h : RdF w B f val) (hB : B ≤ B') : RdF w B' f val := fun t d hd => (h t d hd).more hB

theorem RowR.ints {w : World} {B : Nat} {v : Value} {xs : List Int} (h : RowR w B v (intsRow xs)) : Ints w B v xs := by
  obtain ⟨A, c, rfl, hm, hx⟩ := h
  refine ⟨A, c, rfl, hm, fun k hk => ?_⟩
  obtain ⟨b, off, hA, hb, hc⟩ := hx k (.int .i64 xs[k]) (by show (xs.map _)[k]? = _; rw [List.getElem?_map, List.getElem?_eq_getElem hk]; rfl)
  exact ⟨b, off, hA, hb, by rw [hc, List.getElem?_eq_getElem hk]; rfl⟩

theorem Ints.row {w : World} {B : Nat} {v : Value} {xs : List Int} (h : Ints w B v xs) : RowR w B v (intsRow xs) := by
  obtain ⟨A, c, rfl, hm, hx⟩ := h
  refine ⟨A, c, rfl, hm, fun j u hu => ?_⟩
  have hu' : (xs.map (Value.int .i64))[j]? = some u := hu
  rw [List.getElem?_map] at hu'
  cases hj : xs[j]? with
  | none => rw [hj] at hu'; cases hu'
  | some x =>
    rw [hj] at hu'
    cases hu'
    obtain ⟨b, off, hA, hb, hc⟩ := hx j (List.getElem?_eq_some_iff.1 hj).1
    exact ⟨b, off, hA, hb, by rw [hc, hj]; rfl⟩

/-- numbers that fit -/
structure FnFits (f : FuncM) : Prop where
  phi : ∀ b ∈ f.blocks, ∀ p ∈ b.phis, I64 p.id ∧ I64 p.typ
  code : ∀ b ∈ f.blocks, ∀ x ∈ b.code, I64 x.op ∧ I64 x.id ∧ I64 x.n
  term : ∀ b ∈ f.blocks, I64 b.term.op ∧ I64 b.term.val ∧ I64 b.term.n

theorem phiCells_len (val : Vals) (k : Nat) : ∀ i p, (phiCells val k i p).length = 4 := fun _ _ => rfl
theorem instrCells_len (val : Vals) (k : Nat) : ∀ i p, (instrCells val k i p).length = 4 := fun _ _ => rfl
theorem blockCells_len (val : Vals) : ∀ i p, (blockCells val i p).length = 6 := fun _ _ => rfl

section
variable {w : World} {B : Nat} {f : FuncM} {val : Vals}

theorem RdF.params (h : RdF w B f val) : Ints w B (val .params) f.params := (h .params _ rfl).ints

theorem RdF.phis (h : RdF w B f val) (hf : FnFits f) {k : Nat} {b : BlockM} (hb : f.blocks[k]? = some b) : PhisR w B (val (.phis k)) b.phis := by
  obtain ⟨A, c, hv, hm, hx⟩ := h (.phis k) _ (by simp only [rowOf, hb]; rfl)
  rw [hv]
  refine ⟨A, c, rfl, hm, fun i p hp => ?_⟩
  have hat : ∀ r u, r < 4 → (phiCells val k i p)[r]? = some u → ∃ b off, A = some ⟨b, off, none⟩ ∧ b < B ∧ w.cell? ⟨b, off + (i * 4 + r), none⟩ = some u := fun r u hr hu => hx (i * 4 + r) u (by
    have := cellsOf_at (phiCells_len val k) b.phis 0 i r p hp hr
    rw [Nat.zero_add] at this
    exact this.trans hu)
  obtain ⟨g, off, rfl, hg, c0⟩ := hat 0 _ (by omega) rfl
  obtain ⟨_, _, e, _, c1⟩ := hat 1 _ (by omega) rfl
  cases e
  obtain ⟨_, _, e, _, c2⟩ := hat 2 _ (by omega) rfl
  cases e
  obtain ⟨_, _, e, _, c3⟩ := hat 3 _ (by omega) rfl
  cases e
  have hp2 : (f.blocks[k]?.bind fun b => b.phis[i]?) = some p := by rw [hb]; exact hp
  exact ⟨g, off, _, _, rfl, hg, c0, c1, c2, c3, (h (.fr k i) _ (by simp only [rowOf, hp2]; rfl)).ints, (h (.vals k i) _ (by simp only [rowOf, hp2]; rfl)).ints, hf.phi b (List.mem_of_getElem? hb) p (List.mem_of_getElem? hp)⟩

theorem RdF.code (h : RdF w B f val) (hf : FnFits f) {k : Nat} {b : BlockM} (hb : f.blocks[k]? = some b) : CodeR w B (val (.code k)) b.code := by
  obtain ⟨A, c, hv, hm, hx⟩ := h (.code k) _ (by simp only [rowOf, hb]; rfl)
  rw [hv]
  refine ⟨A, c, rfl, hm, fun i p hp => ?_⟩
  have hat : ∀ r u, r < 4 → (instrCells val k i p)[r]? = some u → ∃ b off, A = some ⟨b, off, none⟩ ∧ b < B ∧ w.cell? ⟨b, off + (i * 4 + r), none⟩ = some u := fun r u hr hu => hx (i * 4 + r) u (by
    have := cellsOf_at (instrCells_len val k) b.code 0 i r p hp hr
    rw [Nat.zero_add] at this
    exact this.trans hu)
  obtain ⟨g, off, rfl, hg, c0⟩ := hat 0 _ (by omega) rfl
  obtain ⟨_, _, e, _, c1⟩ := hat 1 _ (by omega) rfl
  cases e
  obtain ⟨_, _, e, _, c2⟩ := hat 2 _ (by omega) rfl
  cases e
  obtain ⟨_, _, e, _, c3⟩ := hat 3 _ (by omega) rfl
  cases e
  have hp2 : (f.blocks[k]?.bind fun b => b.code[i]?) = some p := by rw [hb]; exact hp
  exact ⟨g, off, _, rfl, hg, c0, c1, c2, c3, (h (.args k i) _ (by simp only [rowOf, hp2]; rfl)).ints, hf.code b (List.mem_of_getElem? hb) p (List.mem_of_getElem? hp)⟩

theorem RdF.blocks (h : RdF w B f val) (hf : FnFits f) : BlocksR w B (val .blocks) f.blocks := by
  obtain ⟨A, c, hv, hm, hx⟩ := h .blocks _ rfl
  rw [hv]
  refine ⟨A, c, rfl, hm, fun k b hb => ?_⟩
  have hat : ∀ r u, r < 6 → (blockCells val k b)[r]? = some u → ∃ b off, A = some ⟨b, off, none⟩ ∧ b < B ∧ w.cell? ⟨b, off + (k * 6 + r), none⟩ = some u := fun r u hr hu => hx (k * 6 + r) u (by
    have := cellsOf_at (blockCells_len val) f.blocks 0 k r b hb hr
    rw [Nat.zero_add] at this
    exact this.trans hu)
  obtain ⟨g, off, rfl, hg, c0⟩ := hat 0 _ (by omega) rfl
  obtain ⟨_, _, e, _, c1⟩ := hat 1 _ (by omega) rfl
  cases e
  obtain ⟨_, _, e, _, c2⟩ := hat 2 _ (by omega) rfl
  cases e
  obtain ⟨_, _, e, _, c3⟩ := hat 3 _ (by omega) rfl
  cases e
  obtain ⟨_, _, e, _, c4⟩ := hat 4 _ (by omega) rfl
  cases e
  obtain ⟨_, _, e, _, c5⟩ := hat 5 _ (by omega) rfl
  cases e
  have ht := hf.term b (List.mem_of_getElem? hb)
  exact ⟨g, off, _, _, _, rfl, hg, c0, c1, c2, c3, c4, c5, h.phis hf hb, h.code hf hb, (h (.ends k) _ (by simp only [rowOf, hb]; rfl)).ints, ht⟩
end

/-- what is in the block that is read fits -/
theorem BlocksR.fits {w : World} {B : Nat} {v : Value} {f : FuncM} (h : BlocksR w B v f.blocks) : FnFits f := by
  obtain ⟨A, c, _, _, hx⟩ := h
  refine ⟨fun b hb p hp => ?_, fun b hb x hx2 => ?_, fun b hb => ?_⟩
  · obtain ⟨k, hk⟩ := List.getElem?_of_mem hb
    obtain ⟨_, _, _, _, _, _, _, _, _, _, _, _, _, hph, _⟩ := hx k b hk
    obtain ⟨_, _, _, _, hpx⟩ := hph
    obtain ⟨i, hi⟩ := List.getElem?_of_mem hp
    obtain ⟨_, _, _, _, _, _, _, _, _, _, _, _, r⟩ := hpx i p hi
    exact r
  · obtain ⟨k, hk⟩ := List.getElem?_of_mem hb
    obtain ⟨_, _, _, _, _, _, _, _, _, _, _, _, _, _, hco, _⟩ := hx k b hk
    obtain ⟨_, _, _, _, hcx⟩ := hco
    obtain ⟨i, hi⟩ := List.getElem?_of_mem hx2
    obtain ⟨_, _, _, _, _, _, _, _, _, _, r⟩ := hcx i x hi
    exact r
  · obtain ⟨k, hk⟩ := List.getElem?_of_mem hb
    obtain ⟨_, _, _, _, _, _, _, _, _, _, _, _, _, _, _, _, r⟩ := hx k b hk
    exact r

end Go.Proofs.YtncmnbchkabgaaaGreat

namespace Go.Proofs.YtncmnbchkabgaaaGreat
open Go.RowKit

theorem phi_info : (Tryz.prog.info? 92).map (fun i => (i.zero, i.size, i.bytes)) = some (some (.agg #[.int .i64 0, .int .i64 0, .slice none 0 0, .slice none 0 0]), 4, 64) := by kernel_rfl
theorem instr_info : (Tryz.prog.info? 59).map (fun i => (i.zero, i.size, i.bytes)) = some (some (.agg #[.int .i64 0, .int .i64 0, .slice none 0 0, .int .i64 0]), 4, 48) := by kernel_rfl
theorem block_info : (Tryz.prog.info? 53).map (fun i => (i.zero, i.size, i.bytes)) = some (some (.agg #[.slice none 0 0, .slice none 0 0, .int .i64 0, .int .i64 0, .slice none 0 0, .int .i64 0]), 6, 96) := by kernel_rfl

def ListPost (e0 : TypeId) (s : Nat) (d : RowD) (w : World) (e : Ending) (w' : World) : Prop :=
  ∃ v', e = .returned v' ∧ w'.ownsRow w.heap.size e0 s v' d.len d.cells ∧ Below w.heap.size w w'

set_option maxRecDepth 100000 in
set_option maxHeartbeats 1000000 in
theorem listInt_any (d : RowD) (B : Nat) (v : Value) (w : World) (hx : RowR w B v d) (hl : d.cells.length = d.len * 1) (hn : d.len ≤ 100000) (h1 : ∀ u ∈ d.cells, u.oneCell' = true) :
    Calls Tryz.prog 124 #[v] w (ListPost 3 1 d w) := by
  obtain ⟨A, c, rfl, hm, hcell⟩ := hx
  have HC := hideI hcell
  have HL := hideI hl
  have H1 := hideI h1
  obtain ⟨n, hN⟩ : ∃ n, n = d.len := ⟨_, rfl⟩
  have HN := hideI hN
  rw [← hN] at hn hl ⊢
  obtain ⟨i0, hix, hz0, hz1, hz2⟩ := info_parts int_info
  clear hcell h1
  rcases Nat.eq_zero_or_pos n with rfl | hpos
  · have hnil : d.cells = [] := List.eq_nil_of_length_eq_zero (by omega)
    have HNIL := hideI hnil
    have hpure : Sem.run Tryz.prog (pure (#[] : Array Value)) w = .ok #[] w := rfl
    clear hl hN hnil
    cases A
    all_goals
      go_enter Tryz.func124, Tryz.ntmps124
      go_wp2
      go_ret
      exact ⟨.slice none 0 0, rfl, by rw [HNIL.out, ← HN.out]; exact World.ownsRow_nil _ _ _ _, Below.refl _ _⟩
  · obtain ⟨u, hu⟩ : ∃ u, d.cells[0]? = some u := ⟨_, List.getElem?_eq_getElem (by omega)⟩
    obtain ⟨b, off, rfl, hb, _⟩ := HC.out 0 u hu
    have HR : Hid (∀ j u, d.cells[j]? = some u → w.cell? ((⟨b, off, none⟩ : Addr).add j) = some u) := fun j u hu => by
      obtain ⟨b', off', e, _, h⟩ := HC.out j u hu
      cases e
      rw [Go.WideShapes.add_plain]
      exact h
    have HLN : Hid (d.cells.length = n * 1) := hl
    clear hu hl hN
    go_enter Tryz.func124, Tryz.ntmps124
    go_wp2_with (at_builtin; go_must (refine wpList_append_own _ rfl _ _ _ rfl w.heap.size 3 i0 _ 1 8 Tryz.underlying22 hix hz0 hz1 hz2 rfl (by decide) _ 0 [] rfl (World.ownsRow_nil _ _ _ _) ⟨b, off, none⟩ n c d.cells rfl HLN.out HR.out H1.out (by unfold maxLen; omega) (by omega) (Nat.le_refl _) ?_); intro v1 w1 hown1 hg1 _; have HO1 := hideI hown1; have HG1 := hideI hg1; clear hown1 hg1)
    go_ret
    refine ⟨v1, rfl, ?_, ⟨HG1.out.os, HG1.out.tape, HG1.out.output, HG1.out.size, fun k hk => HG1.out.block k hk (fun e => by simp [Value.ownBlock, Act.eval] at e)⟩⟩
    have := HO1.out
    rw [Nat.zero_add, List.nil_append] at this
    rw [← HN.out]
    exact this

set_option maxRecDepth 100000 in
set_option maxHeartbeats 1000000 in
theorem listPhi_any (d : RowD) (B : Nat) (v : Value) (w : World) (hx : RowR w B v d) (hl : d.cells.length = d.len * 4) (hn : d.len ≤ 100000) (h1 : ∀ u ∈ d.cells, u.oneCell' = true) :
    Calls Tryz.prog 164 #[v] w (ListPost 92 4 d w) := by
  obtain ⟨A, c, rfl, hm, hcell⟩ := hx
  have HC := hideI hcell
  have HL := hideI hl
  have H1 := hideI h1
  obtain ⟨n, hN⟩ : ∃ n, n = d.len := ⟨_, rfl⟩
  have HN := hideI hN
  rw [← hN] at hn hl ⊢
  obtain ⟨i0, hix, hz0, hz1, hz2⟩ := info_parts phi_info
  clear hcell h1
  rcases Nat.eq_zero_or_pos n with rfl | hpos
  · have hnil : d.cells = [] := List.eq_nil_of_length_eq_zero (by omega)
    have HNIL := hideI hnil
    have hpure : Sem.run Tryz.prog (pure (#[] : Array Value)) w = .ok #[] w := rfl
    clear hl hN hnil
    cases A
    all_goals
      go_enter Tryz.func164, Tryz.ntmps164
      go_wp2
      go_ret
      exact ⟨.slice none 0 0, rfl, by rw [HNIL.out, ← HN.out]; exact World.ownsRow_nil _ _ _ _, Below.refl _ _⟩
  · obtain ⟨u, hu⟩ : ∃ u, d.cells[0]? = some u := ⟨_, List.getElem?_eq_getElem (by omega)⟩
    obtain ⟨b, off, rfl, hb, _⟩ := HC.out 0 u hu
    have HR : Hid (∀ j u, d.cells[j]? = some u → w.cell? ((⟨b, off, none⟩ : Addr).add j) = some u) := fun j u hu => by
      obtain ⟨b', off', e, _, h⟩ := HC.out j u hu
      cases e
      rw [Go.WideShapes.add_plain]
      exact h
    have HLN : Hid (d.cells.length = n * 4) := hl
    clear hu hl hN
    go_enter Tryz.func164, Tryz.ntmps164
    go_wp2_with (at_builtin; go_must (refine wpList_append_own _ rfl _ _ _ rfl w.heap.size 92 i0 _ 4 64 Tryz.underlying48 hix hz0 hz1 hz2 rfl (by decide) _ 0 [] rfl (World.ownsRow_nil _ _ _ _) ⟨b, off, none⟩ n c d.cells rfl HLN.out HR.out H1.out (by unfold maxLen; omega) (by omega) (Nat.le_refl _) ?_); intro v1 w1 hown1 hg1 _; have HO1 := hideI hown1; have HG1 := hideI hg1; clear hown1 hg1)
    go_ret
    refine ⟨v1, rfl, ?_, ⟨HG1.out.os, HG1.out.tape, HG1.out.output, HG1.out.size, fun k hk => HG1.out.block k hk (fun e => by simp [Value.ownBlock, Act.eval] at e)⟩⟩
    have := HO1.out
    rw [Nat.zero_add, List.nil_append] at this
    rw [← HN.out]
    exact this

set_option maxRecDepth 100000 in
set_option maxHeartbeats 1000000 in
theorem listInstr_any (d : RowD) (B : Nat) (v : Value) (w : World) (hx : RowR w B v d) (hl : d.cells.length = d.len * 4) (hn : d.len ≤ 100000) (h1 : ∀ u ∈ d.cells, u.oneCell' = true) :
    Calls Tryz.prog 165 #[v] w (ListPost 59 4 d w) := by
  obtain ⟨A, c, rfl, hm, hcell⟩ := hx
  have HC := hideI hcell
  have HL := hideI hl
  have H1 := hideI h1
  obtain ⟨n, hN⟩ : ∃ n, n = d.len := ⟨_, rfl⟩
  have HN := hideI hN
  rw [← hN] at hn hl ⊢
  obtain ⟨i0, hix, hz0, hz1, hz2⟩ := info_parts instr_info
  clear hcell h1
  rcases Nat.eq_zero_or_pos n with rfl | hpos
  · have hnil : d.cells = [] := List.eq_nil_of_length_eq_zero (by omega)
    have HNIL := hideI hnil
    have hpure : Sem.run Tryz.prog (pure (#[] : Array Value)) w = .ok #[] w := rfl
    clear hl hN hnil
    cases A
    all_goals
      go_enter Tryz.func165, Tryz.ntmps165
      go_wp2
      go_ret
      exact ⟨.slice none 0 0, rfl, by rw [HNIL.out, ← HN.out]; exact World.ownsRow_nil _ _ _ _, Below.refl _ _⟩
  · obtain ⟨u, hu⟩ : ∃ u, d.cells[0]? = some u := ⟨_, List.getElem?_eq_getElem (by omega)⟩
    obtain ⟨b, off, rfl, hb, _⟩ := HC.out 0 u hu
    have HR : Hid (∀ j u, d.cells[j]? = some u → w.cell? ((⟨b, off, none⟩ : Addr).add j) = some u) := fun j u hu => by
      obtain ⟨b', off', e, _, h⟩ := HC.out j u hu
      cases e
      rw [Go.WideShapes.add_plain]
      exact h
    have HLN : Hid (d.cells.length = n * 4) := hl
    clear hu hl hN
    go_enter Tryz.func165, Tryz.ntmps165
    go_wp2_with (at_builtin; go_must (refine wpList_append_own _ rfl _ _ _ rfl w.heap.size 59 i0 _ 4 48 Tryz.underlying49 hix hz0 hz1 hz2 rfl (by decide) _ 0 [] rfl (World.ownsRow_nil _ _ _ _) ⟨b, off, none⟩ n c d.cells rfl HLN.out HR.out H1.out (by unfold maxLen; omega) (by omega) (Nat.le_refl _) ?_); intro v1 w1 hown1 hg1 _; have HO1 := hideI hown1; have HG1 := hideI hg1; clear hown1 hg1)
    go_ret
    refine ⟨v1, rfl, ?_, ⟨HG1.out.os, HG1.out.tape, HG1.out.output, HG1.out.size, fun k hk => HG1.out.block k hk (fun e => by simp [Value.ownBlock, Act.eval] at e)⟩⟩
    have := HO1.out
    rw [Nat.zero_add, List.nil_append] at this
    rw [← HN.out]
    exact this

set_option maxRecDepth 100000 in
set_option maxHeartbeats 1000000 in
theorem listBlock_any (d : RowD) (B : Nat) (v : Value) (w : World) (hx : RowR w B v d) (hl : d.cells.length = d.len * 6) (hn : d.len ≤ 100000) (h1 : ∀ u ∈ d.cells, u.oneCell' = true) :
    Calls Tryz.prog 125 #[v] w (ListPost 53 6 d w) := by
  obtain ⟨A, c, rfl, hm, hcell⟩ := hx
  have HC := hideI hcell
  have HL := hideI hl
  have H1 := hideI h1
  obtain ⟨n, hN⟩ : ∃ n, n = d.len := ⟨_, rfl⟩
  have HN := hideI hN
  rw [← hN] at hn hl ⊢
  obtain ⟨i0, hix, hz0, hz1, hz2⟩ := info_parts block_info
  clear hcell h1
  rcases Nat.eq_zero_or_pos n with rfl | hpos
  · have hnil : d.cells = [] := List.eq_nil_of_length_eq_zero (by omega)
    have HNIL := hideI hnil
    have hpure : Sem.run Tryz.prog (pure (#[] : Array Value)) w = .ok #[] w := rfl
    clear hl hN hnil
    cases A
    all_goals
      go_enter Tryz.func125, Tryz.ntmps125
      go_wp2
      go_ret
      exact ⟨.slice none 0 0, rfl, by rw [HNIL.out, ← HN.out]; exact World.ownsRow_nil _ _ _ _, Below.refl _ _⟩
  · obtain ⟨u, hu⟩ : ∃ u, d.cells[0]? = some u := ⟨_, List.getElem?_eq_getElem (by omega)⟩
    obtain ⟨b, off, rfl, hb, _⟩ := HC.out 0 u hu
    have HR : Hid (∀ j u, d.cells[j]? = some u → w.cell? ((⟨b, off, none⟩ : Addr).add j) = some u) := fun j u hu => by
      obtain ⟨b', off', e, _, h⟩ := HC.out j u hu
      cases e
      rw [Go.WideShapes.add_plain]
      exact h
    have HLN : Hid (d.cells.length = n * 6) := hl
    clear hu hl hN
    go_enter Tryz.func125, Tryz.ntmps125
    go_wp2_with (at_builtin; go_must (refine wpList_append_own _ rfl _ _ _ rfl w.heap.size 53 i0 _ 6 96 Tryz.underlying23 hix hz0 hz1 hz2 rfl (by decide) _ 0 [] rfl (World.ownsRow_nil _ _ _ _) ⟨b, off, none⟩ n c d.cells rfl HLN.out HR.out H1.out (by unfold maxLen; omega) (by omega) (Nat.le_refl _) ?_); intro v1 w1 hown1 hg1 _; have HO1 := hideI hown1; have HG1 := hideI hg1; clear hown1 hg1)
    go_ret
    refine ⟨v1, rfl, ?_, ⟨HG1.out.os, HG1.out.tape, HG1.out.output, HG1.out.size, fun k hk => HG1.out.block k hk (fun e => by simp [Value.ownBlock, Act.eval] at e)⟩⟩
    have := HO1.out
    rw [Nat.zero_add, List.nil_append] at this
    rw [← HN.out]
    exact this

end Go.Proofs.YtncmnbchkabgaaaGreat

namespace Go.Proofs.YtncmnbchkabgaaaGreat
open Go.RowKit

def ListPost' (e0 : TypeId) (s : Nat) (d : RowD) (w : World) (e : Ending) (w' : World) : Prop :=
  ∃ A c, e = .returned (.slice A d.len c) ∧ w'.ownsRow w.heap.size e0 s (.slice A d.len c) d.len d.cells ∧ Below w.heap.size w w'

theorem ListPost.form {e0 : TypeId} {s : Nat} {d : RowD} {w w' : World} {e : Ending} (h : ListPost e0 s d w e w') : ListPost' e0 s d w e w' := by
  obtain ⟨v, rfl, hown, hb⟩ := h
  rcases hown.2 with ⟨hv, h0⟩ | ⟨g, cap, cur, hv, _⟩
  · exact ⟨none, 0, by rw [hv, h0], by rw [h0] at hown ⊢; rw [← hv]; exact hown, hb⟩
  · exact ⟨_, _, by rw [hv], by rw [← hv]; exact hown, hb⟩

theorem free_row' {w w' : World} {g : Nat} {cs : Array Value} {t : TypeId} (h : w.heap[g]? = some (.cells cs t (0, 0))) (hk : w'.heap[g]? = w.heap[g]?) : ∀ o, w'.frozen? ⟨g, o, none⟩ = false := by
  intro o
  simp [World.frozen?, hk, h]

def upd {α : Type} (g : Tag → α) (t0 : Tag) (a : α) : Tag → α := fun t => if t = t0 then a else g t

theorem upd_same {α : Type} (g : Tag → α) (t0 : Tag) (a : α) : upd g t0 a t0 = a := by unfold upd; rw [if_pos rfl]
theorem upd_ne {α : Type} (g : Tag → α) {t0 t : Tag} (a : α) (h : t ≠ t0) : upd g t0 a t = g t := by unfold upd; rw [if_neg h]

abbrev Rows := Tag → Option RowD

structure OwnG (w : World) (base : Nat) (row : Rows) (val : Vals) (D : Tag → Prop) : Prop where
  has : ∀ t, D t → (row t).isSome = true
  rows : ∀ t d, D t → row t = some d → w.ownsRow base d.elem d.size (val t) d.len d.cells
  apart : ∀ t t' g, D t → D t' → (val t).ownBlock = some g → (val t').ownBlock = some g → t = t'

variable {w w1 : World} {base : Nat} {row : Rows} {val : Vals} {D : Tag → Prop}

theorem OwnG.nothing (w : World) (base : Nat) (row : Rows) (val : Vals) : OwnG w base row val (fun _ => False) := ⟨fun _ h => h.elim, fun _ _ h => h.elim, fun _ _ _ h => h.elim⟩

theorem OwnG.lt (h : OwnG w base row val D) {t : Tag} {g : Nat} (ht : D t) (hg : (val t).ownBlock = some g) : base ≤ g ∧ g < w.heap.size := by
  obtain ⟨d, hd⟩ := Option.isSome_iff_exists.1 (h.has t ht)
  exact (h.rows t d ht hd).lt g hg

theorem OwnG.kept (h : OwnG w base row val D) (hk : ∀ b, base ≤ b → b < w.heap.size → w1.heap[b]? = w.heap[b]?) : OwnG w1 base row val D := by
  refine ⟨h.has, fun t d ht hd => ?_, h.apart⟩
  have h0 := h.rows t d ht hd
  refine ⟨h0.1, ?_⟩
  rcases h0.2 with h2 | ⟨g, cap, cur, hv, hb, hg, r⟩
  · exact .inl h2
  · exact .inr ⟨g, cap, cur, hv, hb, (hk g hb (Array.getElem?_eq_some_iff.1 hg).1).trans hg, r⟩

theorem OwnG.below (h : OwnG w base row val D) (hb : Below w.heap.size w w1) : OwnG w1 base row val D := h.kept fun b _ hl => hb.block b hl

theorem OwnG.other (h : OwnG w base row val D) {a : Addr} {u : Value} (ha : ∀ t, D t → (val t).ownBlock ≠ some a.block) : OwnG (w.setCell a u) base row val D :=
  ⟨h.has, fun t d ht hd => ownsRow_setCell_other (h.rows t d ht hd) (ha t ht) u, h.apart⟩

theorem OwnG.congr {row' : Rows} {val' : Vals} {D' : Tag → Prop} (h : OwnG w base row val D) (hr : ∀ t, D' t → row' t = row t) (hv : ∀ t, D' t → val' t = val t) (hD : ∀ t, D' t → D t) : OwnG w base row' val' D' :=
  ⟨fun t ht => by rw [hr t ht]; exact h.has t (hD t ht), fun t d ht hd => by rw [hv t ht]; exact h.rows t d (hD t ht) (by rw [← hr t ht]; exact hd),
    fun t t' g ht ht' h1 h2 => h.apart t t' g (hD t ht) (hD t' ht') (by rw [← hv t ht]; exact h1) (by rw [← hv t' ht']; exact h2)⟩

theorem OwnG.add {t0 : Tag} {d : RowD} {v : Value} (h : OwnG w base row val D) (hn : ¬ D t0) (hb : Below w.heap.size w w1) (hown : w1.ownsRow w.heap.size d.elem d.size v d.len d.cells) (hbase : base ≤ w.heap.size) :
    OwnG w1 base (upd row t0 (some d)) (upd val t0 v) (fun t => D t ∨ t = t0) := by
  have h1 := h.below hb
  refine ⟨fun t ht => ?_, fun t d' ht hd => ?_, fun t t' g ht ht' e1 e2 => ?_⟩
  · by_cases e : t = t0
    · subst e; rw [upd_same]; rfl
    · rw [upd_ne _ _ e]; exact h.has t (ht.resolve_right e)
  · by_cases e : t = t0
    · subst e
      rw [upd_same] at hd ⊢
      cases hd
      exact World.ownsRow.mono hown hbase
    · rw [upd_ne _ _ e] at hd ⊢
      exact h1.rows t d' (ht.resolve_right e) hd
  · by_cases e : t = t0
    · by_cases e' : t' = t0
      · rw [e, e']
      · subst e
        rw [upd_same] at e1
        rw [upd_ne _ _ e'] at e2
        have := (hown.lt g e1).1
        have := (h.lt (ht'.resolve_right e') e2).2
        omega
    · by_cases e' : t' = t0
      · subst e'
        rw [upd_same] at e2
        rw [upd_ne _ _ e] at e1
        have := (hown.lt g e2).1
        have := (h.lt (ht.resolve_right e) e1).2
        omega
      · rw [upd_ne _ _ e] at e1
        rw [upd_ne _ _ e'] at e2
        exact h.apart t t' g (ht.resolve_right e) (ht'.resolve_right e') e1 e2

theorem OwnG.set {tp : Tag} {d : RowD} {g n cap j : Nat} {u : Value} (h : OwnG w base row val D) (hp : D tp) (hd : row tp = some d) (hv : val tp = .slice (some ⟨g, 0, none⟩) n cap) (hn : d.len = n) :
    OwnG (w.setCell ⟨g, j, none⟩ u) base (upd row tp (some { d with cells := d.cells.set j u })) val D := by
  have h0 := h.rows tp d hp hd
  rw [hv, hn] at h0
  have hs := h0.stored j u
  have hg : (val tp).ownBlock = some g := by rw [hv]; rfl
  refine ⟨fun t ht => ?_, fun t d' ht hd' => ?_, h.apart⟩
  · by_cases e : t = tp
    · subst e; rw [upd_same]; rfl
    · rw [upd_ne _ _ e]; exact h.has t ht
  · by_cases e : t = tp
    · subst e
      rw [upd_same] at hd'
      cases hd'
      rw [hv, hn]
      exact hs.1
    · rw [upd_ne _ _ e] at hd'
      refine (h.rows t d' ht hd').kept hs.2 (.inr fun e2 => e (h.apart t tp g ht hp e2 hg))

/-- a cell of an owned row -/
theorem OwnG.cell {tp : Tag} {d : RowD} {g n cap j : Nat} (h : OwnG w base row val D) (hp : D tp) (hd : row tp = some d) (hv : val tp = .slice (some ⟨g, 0, none⟩) n cap) (hn : d.len = n) (hj : j < n * d.size) :
    w.cell? ⟨g, j, none⟩ = d.cells[j]? ∧ w.frozen? ⟨g, j, none⟩ = false := by
  have h0 := h.rows tp d hp hd
  rw [hv, hn] at h0
  exact ⟨World.ownsRow.cellAt h0 j hj, World.ownsRow.frozenAt h0 j⟩

theorem OwnG.slice {tp : Tag} {d : RowD} (h : OwnG w base row val D) (hp : D tp) (hd : row tp = some d) (h0 : 0 < d.len) : ∃ g cap, val tp = .slice (some ⟨g, 0, none⟩) d.len cap ∧ base ≤ g ∧ g < w.heap.size :=
  (h.rows tp d hp hd).form h0

/-- which block a tag's row is of -/
def blkOf : Tag → Option Nat
  | .params => none
  | .blocks => none
  | .phis k => some k
  | .code k => some k
  | .ends k => some k
  | .fr k _ => some k
  | .vals k _ => some k
  | .args k _ => some k

theorem rowOf_some (f : FuncM) (val val' : Vals) (t : Tag) : (rowOf f val t).isSome = (rowOf f val' t).isSome := by
  cases t <;> simp [rowOf]

section
variable {α : Type} {g g' : Nat → α → List Value} {s : Nat}

theorem cellsOf_set (hs : ∀ i a, (g i a).length = s) (hs' : ∀ i a, (g' i a).length = s) {l : List α} {i r : Nat} {u : Value} (_hi : i < l.length) (hr : r < s) (h1 : ∀ k a, l[k]? = some a → k ≠ i → g' k a = g k a) (h2 : ∀ a, l[i]? = some a → g' i a = (g i a).set r u) :
    (cellsOf g 0 l).set (i * s + r) u = cellsOf g' 0 l := by
  apply List.ext_getElem?
  intro j
  by_cases hj : j < l.length * s
  · have hs0 : 0 < s := by omega
    have hk : j / s < l.length := (Nat.div_lt_iff_lt_mul hs0).2 hj
    have hm := Nat.mod_lt j hs0
    have e : j = j / s * s + j % s := by rw [Nat.mul_comm]; exact (Nat.div_add_mod j s).symm
    obtain ⟨a, ha⟩ : ∃ a, l[j / s]? = some a := ⟨_, List.getElem?_eq_getElem hk⟩
    have c1 := cellsOf_at hs l 0 (j / s) (j % s) _ ha hm
    have c2 := cellsOf_at hs' l 0 (j / s) (j % s) _ ha hm
    rw [← e, Nat.zero_add] at c1 c2
    rw [c2]
    by_cases ek : j / s = i
    · rw [ek] at ha c1 ⊢
      rw [h2 _ ha]
      by_cases er : j % s = r
      · have ej : j = i * s + r := by rw [← ek, ← er]; exact e
        rw [ej, List.getElem?_set_self (by rw [cellsOf_len hs]; rw [← ej]; exact hj), ← ej, er, List.getElem?_set_self (by rw [hs]; exact hr)]
      · have hne : i * s + r ≠ j := fun e2 => er (by rw [← e2, Nat.add_comm, Nat.add_mul_mod_self_right]; exact Nat.mod_eq_of_lt hr)
        rw [List.getElem?_set_ne hne, List.getElem?_set_ne (fun e2 => er e2.symm)]
        exact c1
    · have hne : i * s + r ≠ j := fun e2 => ek (by rw [← e2, Nat.add_comm, Nat.add_mul_div_right _ _ hs0, Nat.div_eq_of_lt hr, Nat.zero_add])
      rw [List.getElem?_set_ne hne, c1, h1 _ _ ha ek]
  · rw [List.getElem?_eq_none (by rw [List.length_set, cellsOf_len hs]; omega), List.getElem?_eq_none (by rw [cellsOf_len hs']; omega)]
end

theorem cellsOf_push {α : Type} {g g' : Nat → α → List Value} : ∀ (l : List α) (i : Nat) (a : α), (∀ k b, l[k]? = some b → g (i + k) b = g' (i + k) b) → cellsOf g i (l ++ [a]) = cellsOf g' i l ++ g (i + l.length) a := by
  intro l
  induction l with
  | nil => intro i a _; simp [cellsOf]
  | cons b l ih =>
    intro i a h
    rw [List.cons_append, cellsOf, cellsOf, ih (i + 1) a (fun k c hc => by have := h (k + 1) c (by simpa using hc); rwa [show i + (k + 1) = i + 1 + k by omega] at this)]
    rw [show g i b = g' i b from by simpa using h 0 b rfl, List.length_cons, List.append_assoc, show i + 1 + l.length = i + (l.length + 1) by omega]

/-- a row that grows -/
theorem OwnG.grow {w w1 : World} {base : Nat} {row : Rows} {val : Vals} {D : Tag → Prop} {t0 : Tag} {d : RowD} {v : Value} {g1 : Nat} (h : OwnG w base row val D) (ht0 : D t0) (hown : w1.ownsRow base d.elem d.size v d.len d.cells) (hg : w.grownBy w1 (val t0).ownBlock)
    (hv : v.ownBlock = some g1) (hor : (val t0).ownBlock = some g1 ∨ g1 = w.heap.size) : OwnG w1 base (upd row t0 (some d)) (upd val t0 v) D := by
  refine ⟨fun t ht => ?_, fun t d' ht hd => ?_, fun t t' g ht ht' e1 e2 => ?_⟩
  · by_cases e : t = t0
    · subst e; rw [upd_same]; rfl
    · rw [upd_ne _ _ e]; exact h.has t ht
  · by_cases e : t = t0
    · subst e; rw [upd_same] at hd ⊢; cases hd; exact hown
    · rw [upd_ne _ _ e] at hd ⊢
      cases ho : (val t).ownBlock with
      | none => exact (h.rows t d' ht hd).kept hg (.inl ho)
      | some b => exact (h.rows t d' ht hd).kept hg (.inr fun e2 => e (h.apart t t0 b ht ht0 ho (e2.symm.trans ho)))
  · by_cases e : t = t0
    · by_cases e' : t' = t0
      · rw [e, e']
      · subst e
        rw [upd_same, hv] at e1
        rw [upd_ne _ _ e'] at e2
        cases e1
        rcases hor with h1 | h1
        · exact h.apart t t' _ ht0 ht' h1 e2
        · have := (h.lt ht' e2).2; omega
    · by_cases e' : t' = t0
      · subst e'
        rw [upd_same, hv] at e2
        rw [upd_ne _ _ e] at e1
        cases e2
        rcases hor with h1 | h1
        · exact h.apart t t' _ ht ht0 e1 h1
        · have := (h.lt ht e1).2; omega
      · rw [upd_ne _ _ e] at e1
        rw [upd_ne _ _ e'] at e2
        exact h.apart t t' g ht ht' e1 e2

end Go.Proofs.YtncmnbchkabgaaaGreat

namespace Go.Proofs.YtncmnbchkabgaaaGreat
open Go.RowKit

theorem append_none (w : World) (g c ty : Nat) (_hpure : Sem.run Tryz.prog (pure (#[] : Array Value)) w = .ok #[] w) : (Builtin.append_ #[22, 22] ty #[.slice (some ⟨g, 0, none⟩) 0 0, .slice none 0 c]).run Tryz.prog w = .ok (.slice (some ⟨g, 0, none⟩) 0 0) w := by
  go_simp

set_option maxRecDepth 100000 in
/-- the law of the copy -/
theorem run_copy (w : World) (B g ty : Nat) (v : Value) (xs : List Int) (hi : Ints w B v xs) (hg : w.heap[g]? = some (.cells #[] 3 (0, 0))) (hn : xs.length ≤ 100000) (base : Nat) (hb : base ≤ g) :
    ∃ A' c' w', (Builtin.append_ #[22, 22] ty #[.slice (some ⟨g, 0, none⟩) 0 0, v]).run Tryz.prog w = .ok (.slice A' xs.length c') w' ∧ w'.ownsRow base 3 1 (.slice A' xs.length c') xs.length (xs.map (Value.int .i64)) ∧ w.grownBy w' (some g) ∧
      (∀ k, (Value.slice A' xs.length c').ownBlock = some k → k = g ∨ k = w.heap.size) := by
  have hgl : g < w.heap.size := (Array.getElem?_eq_some_iff.1 hg).1
  have hown0 : w.ownsRow base 3 1 (.slice (some ⟨g, 0, none⟩) 0 0) 0 [] := ⟨rfl, .inr ⟨g, 0, #[], rfl, hb, hg, Nat.le_refl _, by unfold maxLen; omega, rfl, rfl⟩⟩
  obtain ⟨A, c, rfl, _, hat⟩ := hi
  cases A with
  | none =>
    have h0 : xs.length = 0 := by
      rcases Nat.eq_zero_or_pos xs.length with h | h
      · exact h
      · obtain ⟨_, _, e, _⟩ := hat 0 h
        cases e
    have hx : xs = [] := List.eq_nil_of_length_eq_zero h0
    subst hx
    exact ⟨_, _, w, append_none w g c ty rfl, hown0, World.grownBy.refl w (some g), fun k hk => .inl (by simpa [Value.ownBlock] using hk.symm)⟩
  | some ad =>
    obtain ⟨i0, hix, hz0, hz1, hz2⟩ := info_parts int_info
    have hnews : ∀ j u, (xs.map (Value.int .i64))[j]? = some u → w.cell? (ad.add j) = some u := fun j u hu => by
      rw [List.getElem?_map] at hu
      cases hj : xs[j]? with
      | none => rw [hj] at hu; cases hu
      | some y =>
        rw [hj] at hu
        injection hu with hu
        obtain ⟨b, off, e, _, hc⟩ := hat j (List.getElem?_eq_some_iff.1 hj).1
        injection e with e
        subst e
        rw [Go.WideShapes.add_plain, hc, hj, ← hu]
        rfl
    obtain ⟨v', w', hr, h2, h3, _, h5⟩ := run_append_own_at (P := Tryz.prog) w base 22 ty 3 i0 _ 1 8 Tryz.underlying22 hix hz0 hz1 hz2 rfl (by decide) _ 0 [] hown0 ad xs.length c (xs.map (Value.int .i64)) (by simp) hnews (fun u hu => by
      obtain ⟨y, _, rfl⟩ := List.mem_map.1 hu
      rfl) (by unfold maxLen; omega) (by omega) (by omega)
    rw [Nat.zero_add, List.nil_append] at h2
    obtain ⟨A', c', rfl⟩ : ∃ A' c', v' = .slice A' xs.length c' := by
      rcases h2.2 with ⟨e, e0⟩ | ⟨g2, cap, cur, e, _⟩
      · exact ⟨none, 0, by rw [e, e0]⟩
      · exact ⟨_, _, e⟩
    refine ⟨A', c', w', hr, h2, h3, fun k hk => ?_⟩
    rcases h5 with h5 | h5
    · rw [h5] at hk
      exact .inl (by simpa [Value.ownBlock] using hk.symm)
    · rw [h5] at hk
      exact .inr (by simpa using hk.symm)

/-- at a plain region's list -/
theorem wpList_copy {ops : Array Oper} {rest : List Oper} {o : Oper} {a : Act} {Q : Exit → Act → World → Prop} {w : World} (hgd : o.guard = none) (s x : Operand) (ho : o.op = .call { callee := .builtin .append, args := #[s, x], argTypes := #[22, 22] })
    (B g : Nat) (v : Value) (xs : List Int) (hs : a.eval s = .slice (some ⟨g, 0, none⟩) 0 0) (hx : a.eval x = v) (hi : Ints w B v xs) (hg : w.heap[g]? = some (.cells #[] 3 (0, 0))) (hn : xs.length ≤ 100000) (base : Nat) (hb : base ≤ g)
    (h : ∀ A' c' w', w'.ownsRow base 3 1 (.slice A' xs.length c') xs.length (xs.map (Value.int .i64)) → w.grownBy w' (some g) → (∀ k, (Value.slice A' xs.length c').ownBlock = some k → k = g ∨ k = w.heap.size) → wpList Tryz.prog ops Q rest (a.put o.dst (.slice A' xs.length c')) w') : wpList Tryz.prog ops Q (o :: rest) a w :=
  wpList_plain hgd fun _ hK => by
    obtain ⟨A', c', w', hr, h1, h2, h3⟩ := run_copy w B g o.type v xs hi hg hn base hb
    unfold Oper.wp execOp
    simp only [ho, resolve, invoke, builtin, Sem.run_bind, Sem.run_pure, Result.andThen_ok, List.map_toArray, List.map_cons, List.map_nil, hs, hx, hr]
    exact hK _ _ (h A' c' w' h1 h2 h3)
end Go.Proofs.YtncmnbchkabgaaaGreat

namespace Go.Proofs.YtncmnbchkabgaaaGreat
open Go.RowKit

theorem owns_stay {w w' : World} {base : Nat} {e : TypeId} {size : Nat} {v : Value} {n : Nat} {xs : List Value} (h : w.ownsRow base e size v n xs) (hk : ∀ g, v.ownBlock = some g → w'.heap[g]? = w.heap[g]?) : w'.ownsRow base e size v n xs := by
  refine ⟨h.1, ?_⟩
  rcases h.2 with h2 | ⟨g, cap, cur, hv, hb, hg, r⟩
  · exact .inl h2
  · exact .inr ⟨g, cap, cur, hv, hb, (hk g (by rw [hv]; rfl)).trans hg, r⟩

theorem own_form {w : World} {base : Nat} {e : TypeId} {size : Nat} {v : Value} {n : Nat} {xs : List Value} (h : w.ownsRow base e size v n xs) : ∃ A cp, v = .slice A n cp := by
  rcases h.2 with ⟨e, e0⟩ | ⟨g, cap, cur, e, _⟩
  · exact ⟨none, 0, by rw [e, e0]⟩
  · exact ⟨_, _, e⟩

/-- a variable: its block, its cells, its type -/
abbrev VarD := Nat × Array Value × TypeId

structure OwnC (w0 w : World) (row : Rows) (val : Vals) (D : Tag → Prop) (bl : List VarD) : Prop where
  own : OwnG w w0.heap.size row val D
  cells : ∀ x ∈ bl, w.heap[x.1]? = some (.cells x.2.1 x.2.2 (0, 0)) ∧ w0.heap.size ≤ x.1
  off : ∀ x ∈ bl, ∀ t, D t → (val t).ownBlock ≠ some x.1
  dis : (bl.map (·.1)).Nodup
  below : Below w0.heap.size w0 w

section
variable {w0 w w1 : World} {row row' : Rows} {val val' : Vals} {D D' : Tag → Prop} {bl : List VarD}

theorem OwnC.nothing (w0 : World) (row : Rows) (val : Vals) : OwnC w0 w0 row val (fun _ => False) [] :=
  ⟨OwnG.nothing _ _ _ _, (fun _ h => by cases h), (fun _ h => by cases h), List.nodup_nil, Below.refl _ _⟩

theorem OwnC.lt (h : OwnC w0 w row val D bl) {x : VarD} (hx : x ∈ bl) : x.1 < w.heap.size := (Array.getElem?_eq_some_iff.1 (h.cells x hx).1).1

/-- a variable is made -/
theorem OwnC.make (h : OwnC w0 w row val D bl) (cs : Array Value) (T : TypeId) : OwnC w0 (w.alloc (.cells cs T)) row val D ((w.heap.size, cs, T) :: bl) := by
  have hb : Below w.heap.size w (w.alloc (.cells cs T)) := (Below.refl _ w).alloc (Nat.le_refl _) _
  refine ⟨h.own.below hb, fun x hx => ?_, fun x hx t ht he => ?_, ?_, h.below.alloc h.below.size _⟩
  · rcases List.mem_cons.1 hx with rfl | hx
    · exact ⟨heap_alloc_new w _, h.below.size⟩
    · obtain ⟨h1, h2⟩ := h.cells x hx
      exact ⟨(hb.block _ (h.lt hx)).trans h1, h2⟩
  · rcases List.mem_cons.1 hx with rfl | hx
    · have := (h.own.lt ht he).2
      exact absurd this (Nat.lt_irrefl _)
    · exact h.off x hx t ht he
  · rw [List.map_cons, List.nodup_cons]
    refine ⟨fun hm => ?_, h.dis⟩
    obtain ⟨x, hx, e⟩ := List.mem_map.1 hm
    have h1 := h.lt hx
    have e : x.1 = w.heap.size := e
    omega

/-- a callee, or a draw: nothing that was there is changed -/
theorem OwnC.grows (h : OwnC w0 w row val D bl) (hb : Below w.heap.size w w1) : OwnC w0 w1 row val D bl :=
  ⟨h.own.below hb, fun x hx => ⟨(hb.block _ (h.lt hx)).trans (h.cells x hx).1, (h.cells x hx).2⟩, h.off, h.dis, h.below.trans (hb.mono h.below.size)⟩

/-- fewer variables -/
theorem OwnC.drop {bl' : List VarD} (h : OwnC w0 w row val D bl) (hs : bl'.Sublist bl) : OwnC w0 w row val D bl' :=
  ⟨h.own, fun x hx => h.cells x (hs.subset hx), fun x hx => h.off x (hs.subset hx), (hs.map _).nodup h.dis, h.below⟩

/-- a variable is written -/
theorem OwnC.store {g j : Nat} {cs : Array Value} {T : TypeId} {r : List VarD} (h : OwnC w0 w row val D ((g, cs, T) :: r)) (u : Value) : OwnC w0 (w.setCell ⟨g, j, none⟩ u) row val D ((g, cs.setIfInBounds j u, T) :: r) := by
  obtain ⟨hg, hlo⟩ := h.cells _ (List.mem_cons_self ..)
  have hd := h.dis
  rw [List.map_cons, List.nodup_cons] at hd
  refine ⟨h.own.other fun t ht => h.off _ (List.mem_cons_self ..) t ht, fun x hx => ?_, fun x hx => ?_, h.dis, h.below.setCell (p := ⟨g, j, none⟩) hlo u⟩
  · rcases List.mem_cons.1 hx with rfl | hx
    · exact ⟨heap_setCell_same w g j _ _ u hg, hlo⟩
    · have hne : x.1 ≠ g := fun e => hd.1 (List.mem_map.2 ⟨x, hx, e⟩)
      exact ⟨(Below.heap_setCell _ _ _ _ hne).trans (h.cells x (List.mem_cons_of_mem _ hx)).1, (h.cells x (List.mem_cons_of_mem _ hx)).2⟩
  · rcases List.mem_cons.1 hx with rfl | hx
    · exact h.off (g, cs, T) (List.mem_cons_self ..)
    · exact h.off x (List.mem_cons_of_mem _ hx)

/-- the variables in another order -/
theorem OwnC.perm {bl' : List VarD} (h : OwnC w0 w row val D bl) (hp : bl'.Perm bl) : OwnC w0 w row val D bl' :=
  ⟨h.own, fun x hx => h.cells x (hp.mem_iff.1 hx), fun x hx => h.off x (hp.mem_iff.1 hx), ((hp.map _).nodup_iff).2 h.dis, h.below⟩

/-- a row comes, out of the block of an empty list -/
theorem OwnC.comes {g : Nat} {cs : Array Value} {T : TypeId} {r : List VarD} {t0 : Tag} {d : RowD} {v : Value} (h : OwnC w0 w row val D ((g, cs, T) :: r)) (hn : ¬ D t0) (hg : w.grownBy w1 (some g)) (hown : w1.ownsRow w0.heap.size d.elem d.size v d.len d.cells)
    (hv : ∀ k, v.ownBlock = some k → k = g ∨ k = w.heap.size) : OwnC w0 w1 (upd row t0 (some d)) (upd val t0 v) (fun t => D t ∨ t = t0) r := by
  obtain ⟨_, hlo⟩ := h.cells _ (List.mem_cons_self ..)
  have hd := h.dis
  rw [List.map_cons, List.nodup_cons] at hd
  have hkeep : ∀ t b, D t → (val t).ownBlock = some b → w1.heap[b]? = w.heap[b]? := fun t b ht hb => hg.block b (h.own.lt ht hb).2 fun e => h.off _ (List.mem_cons_self ..) t ht (by rw [hb, e])
  have hnew : ∀ t b, D t → (val t).ownBlock = some b → v.ownBlock ≠ some b := fun t b ht hb e => by
    rcases hv b e with h1 | h1
    · exact h.off _ (List.mem_cons_self ..) t ht (by rw [hb, h1])
    · have := (h.own.lt ht hb).2
      omega
  refine ⟨⟨fun t ht => ?_, fun t d' ht hd' => ?_, fun t t' b ht ht' e1 e2 => ?_⟩, fun x hx => ?_, fun x hx t ht e => ?_, hd.2, ?_⟩
  · by_cases e : t = t0
    · subst e; rw [upd_same]; rfl
    · rw [upd_ne _ _ e]; exact h.own.has t (ht.resolve_right e)
  · by_cases e : t = t0
    · subst e
      rw [upd_same] at hd' ⊢
      cases hd'
      exact hown
    · rw [upd_ne _ _ e] at hd' ⊢
      exact owns_stay (h.own.rows t d' (ht.resolve_right e) hd') fun b hb => hkeep t b (ht.resolve_right e) hb
  · by_cases e : t = t0
    · by_cases e' : t' = t0
      · rw [e, e']
      · subst e
        rw [upd_same] at e1
        rw [upd_ne _ _ e'] at e2
        exact absurd e1 (hnew t' b (ht'.resolve_right e') e2)
    · by_cases e' : t' = t0
      · subst e'
        rw [upd_same] at e2
        rw [upd_ne _ _ e] at e1
        exact absurd e2 (hnew t b (ht.resolve_right e) e1)
      · rw [upd_ne _ _ e] at e1
        rw [upd_ne _ _ e'] at e2
        exact h.own.apart t t' b (ht.resolve_right e) (ht'.resolve_right e') e1 e2
  · have hne : x.1 ≠ g := fun e => hd.1 (List.mem_map.2 ⟨x, hx, e⟩)
    have hx' := List.mem_cons_of_mem (g, cs, T) hx
    exact ⟨(hg.block x.1 (h.lt hx') fun e => hne (by simpa using e)).trans (h.cells x hx').1, (h.cells x hx').2⟩
  · have hne : x.1 ≠ g := fun e => hd.1 (List.mem_map.2 ⟨x, hx, e⟩)
    have hx' := List.mem_cons_of_mem (g, cs, T) hx
    by_cases e2 : t = t0
    · subst e2
      rw [upd_same] at e
      rcases hv x.1 e with h1 | h1
      · exact hne h1
      · have := h.lt hx'
        omega
    · rw [upd_ne _ _ e2] at e
      exact h.off x hx' t (ht.resolve_right e2) e
  · refine ⟨hg.os.trans h.below.os, hg.tape.trans h.below.tape, hg.output.trans h.below.output, Nat.le_trans h.below.size hg.size, fun k hk => ?_⟩
    exact (hg.block k (Nat.lt_of_lt_of_le hk h.below.size) fun e => by have e : k = g := (by simpa using e); have hlo : w0.heap.size ≤ g := hlo; omega).trans (h.below.block k hk)

/-- a row grows -/
theorem OwnC.grow {t0 : Tag} {d : RowD} {v : Value} {g1 : Nat} (h : OwnC w0 w row val D bl) (ht0 : D t0) (hown : w1.ownsRow w0.heap.size d.elem d.size v d.len d.cells) (hg : w.grownBy w1 (val t0).ownBlock)
    (hv : v.ownBlock = some g1) (hor : (val t0).ownBlock = some g1 ∨ g1 = w.heap.size) : OwnC w0 w1 (upd row t0 (some d)) (upd val t0 v) D bl := by
  refine ⟨h.own.grow ht0 hown hg hv hor, fun x hx => ?_, fun x hx t ht e => ?_, h.dis, ?_⟩
  · exact ⟨(hg.block x.1 (h.lt hx) fun e => h.off x hx t0 ht0 e.symm).trans (h.cells x hx).1, (h.cells x hx).2⟩
  · by_cases e2 : t = t0
    · subst e2
      rw [upd_same, hv] at e
      injection e with e
      rcases hor with h1 | h1
      · exact h.off x hx t ht0 (by rw [h1, e])
      · have := h.lt hx
        omega
    · rw [upd_ne _ _ e2] at e
      exact h.off x hx t ht e
  · refine ⟨hg.os.trans h.below.os, hg.tape.trans h.below.tape, hg.output.trans h.below.output, Nat.le_trans h.below.size hg.size, fun k hk => ?_⟩
    exact (hg.block k (Nat.lt_of_lt_of_le hk h.below.size) fun e => by have := (h.own.lt ht0 e.symm).1; omega).trans (h.below.block k hk)

theorem OwnC.congr (h : OwnC w0 w row val D bl) (hr : ∀ t, D' t → row' t = row t) (hv : ∀ t, D' t → val' t = val t) (hD : ∀ t, D' t → D t) : OwnC w0 w row' val' D' bl :=
  ⟨h.own.congr hr hv hD, h.cells, fun x hx t ht => by rw [hv t ht]; exact h.off x hx t (hD t ht), h.dis, h.below⟩

/-- a cell of an owned row is written -/
theorem OwnC.put {tp : Tag} {d : RowD} {g n cap j : Nat} {u : Value} (h : OwnC w0 w row val D bl) (hp : D tp) (hd : row tp = some d) (hv : val tp = .slice (some ⟨g, 0, none⟩) n cap) (hn : d.len = n) :
    OwnC w0 (w.setCell ⟨g, j, none⟩ u) (upd row tp (some { d with cells := d.cells.set j u })) val D bl := by
  have hg : (val tp).ownBlock = some g := by rw [hv]; rfl
  refine ⟨h.own.set hp hd hv hn, fun x hx => ⟨?_, (h.cells x hx).2⟩, h.off, h.dis, h.below.setCell (p := ⟨g, j, none⟩) (h.own.lt hp hg).1 u⟩
  have hne : x.1 ≠ g := fun e => h.off x hx tp hp (by rw [hg, e])
  exact (Below.heap_setCell _ _ _ _ hne).trans (h.cells x hx).1

/-- all rows are others, the variables are as they were -/
theorem OwnC.of (h : OwnC w0 w row val D bl) (own : OwnG w1 w0.heap.size row' val' D') (hk : ∀ x ∈ bl, w1.heap[x.1]? = w.heap[x.1]?) (hoff : ∀ t g, D' t → (val' t).ownBlock = some g → (∃ t', D t' ∧ (val t').ownBlock = some g) ∨ w.heap.size ≤ g) (hb : Below w0.heap.size w w1) : OwnC w0 w1 row' val' D' bl := by
  refine ⟨own, fun x hx => ⟨(hk x hx).trans (h.cells x hx).1, (h.cells x hx).2⟩, fun x hx t ht e => ?_, h.dis, h.below.trans hb⟩
  rcases hoff t _ ht e with ⟨t', ht', e'⟩ | h2
  · exact h.off x hx t' ht' e'
  · have := h.lt hx
    omega

/-- a cell of an owned row -/
theorem OwnC.cell {tp : Tag} {d : RowD} {g n cap j : Nat} (h : OwnC w0 w row val D bl) (hp : D tp) (hd : row tp = some d) (hv : val tp = .slice (some ⟨g, 0, none⟩) n cap) (hn : d.len = n) (hj : j < n * d.size) :
    w.cell? ⟨g, j, none⟩ = d.cells[j]? ∧ w.frozen? ⟨g, j, none⟩ = false := h.own.cell hp hd hv hn hj

theorem OwnC.box {g : Nat} {cs : Array Value} {T : TypeId} (h : OwnC w0 w row val D bl) (hm : (g, cs, T) ∈ bl) : ∀ o, w.cell? ⟨g, o, none⟩ = cs[o]? ∧ w.frozen? ⟨g, o, none⟩ = false := fun o =>
  ⟨row_cells (h.cells _ hm).1 rfl o, frozen_of_row w g o _ _ (h.cells _ hm).1⟩

/-- an empty list comes -/
theorem OwnC.empty {t0 : Tag} (h : OwnC w0 w row val D bl) (hn : ¬ D t0) : OwnC w0 (w.alloc (.cells #[] 3)) (upd row t0 (some (intsRow []))) (upd val t0 (.slice (some ⟨w.heap.size, 0, none⟩) 0 0)) (fun t => D t ∨ t = t0) bl := by
  have hb : Below w.heap.size w (w.alloc (.cells #[] 3)) := (Below.refl _ w).alloc (Nat.le_refl _) _
  have hown : (w.alloc (.cells #[] 3)).ownsRow w.heap.size 3 1 (.slice (some ⟨w.heap.size, 0, none⟩) 0 0) 0 [] := ⟨rfl, .inr ⟨w.heap.size, 0, #[], rfl, Nat.le_refl _, heap_alloc_new w _, Nat.le_refl _, by unfold maxLen; omega, rfl, rfl⟩⟩
  refine h.of (OwnG.add (d := intsRow []) h.own hn hb hown h.below.size) (fun x hx => hb.block _ (h.lt hx)) (fun t g ht e => ?_) (hb.mono h.below.size)
  by_cases e2 : t = t0
  · subst e2
    rw [upd_same] at e
    exact .inr (by have : w.heap.size = g := Option.some.inj e; omega)
  · rw [upd_ne _ _ e2] at e
    exact .inl ⟨t, ht.resolve_right e2, e⟩

/-- rows alone, beside no variable -/
theorem OwnC.alone (h : OwnG w w0.heap.size row val D) (hb : Below w0.heap.size w0 w) : OwnC w0 w row val D [] :=
  ⟨h, (fun _ hx => by cases hx), (fun _ hx => by cases hx), List.nodup_nil, hb⟩


/-- an empty list of one-cell values comes -/
theorem OwnC.emptyT {t0 : Tag} (e : TypeId) (h : OwnC w0 w row val D bl) (hn : ¬ D t0) : OwnC w0 (w.alloc (.cells #[] e)) (upd row t0 (some ⟨e, 1, 0, []⟩)) (upd val t0 (.slice (some ⟨w.heap.size, 0, none⟩) 0 0)) (fun t => D t ∨ t = t0) bl := by
  have hb : Below w.heap.size w (w.alloc (.cells #[] e)) := (Below.refl _ w).alloc (Nat.le_refl _) _
  have hown : (w.alloc (.cells #[] e)).ownsRow w.heap.size e 1 (.slice (some ⟨w.heap.size, 0, none⟩) 0 0) 0 [] := ⟨rfl, .inr ⟨w.heap.size, 0, #[], rfl, Nat.le_refl _, heap_alloc_new w _, Nat.le_refl _, by unfold maxLen; omega, rfl, rfl⟩⟩
  refine h.of (OwnG.add (d := ⟨e, 1, 0, []⟩) h.own hn hb hown h.below.size) (fun x hx => hb.block _ (h.lt hx)) (fun t g ht e => ?_) (hb.mono h.below.size)
  by_cases e2 : t = t0
  · subst e2
    rw [upd_same] at e
    exact .inr (by have : w.heap.size = g := Option.some.inj e; omega)
  · rw [upd_ne _ _ e2] at e
    exact .inl ⟨t, ht.resolve_right e2, e⟩
end
end Go.Proofs.YtncmnbchkabgaaaGreat

namespace Go.Proofs.YtncmnbchkabgaaaGreat
open Go.RowKit

theorem append_noneI (w : World) (g n c0 c ty : Nat) (hn : n ≤ c0) : (Builtin.append_ #[22, 22] ty #[.slice (some ⟨g, 0, none⟩) n c0, .slice none 0 c]).run Tryz.prog w = .ok (.slice (some ⟨g, 0, none⟩) n c0) w := by
  have hpure : Sem.run Tryz.prog (pure (#[] : Array Value)) w = .ok #[] w := rfl
  go_simp

theorem append_noneL (w : World) (g n c0 c ty : Nat) (hn : n ≤ c0) : (Builtin.append_ #[26, 26] ty #[.slice (some ⟨g, 0, none⟩) n c0, .slice none 0 c]).run Tryz.prog w = .ok (.slice (some ⟨g, 0, none⟩) n c0) w := by
  have hpure : Sem.run Tryz.prog (pure (#[] : Array Value)) w = .ok #[] w := rfl
  go_simp

/-- what an append onto an owned row comes to -/
def AppPost (w : World) (base e g0 n : Nat) (us : List Value) (r : Result Value) : Prop :=
  ∃ g1 cap w', r = .ok (.slice (some ⟨g1, 0, none⟩) n cap) w' ∧ w'.ownsRow base e 1 (.slice (some ⟨g1, 0, none⟩) n cap) n us ∧ w.grownBy w' (some g0) ∧ (g1 = g0 ∨ g1 = w.heap.size) ∧ g1 < w'.heap.size

set_option maxRecDepth 100000 in
theorem app_of {w : World} {base sl ty e : Nat} {i0 : TypeInfo} {z : Value} {by_ : Nat} (hu : Tryz.prog.underlying sl = some (.slice e)) (hix : Tryz.prog.info? e = some i0) (hz0 : i0.zero = some z) (hz1 : i0.size = 1) (hz2 : i0.bytes = by_) (hzc : z.cells.size = 1)
    {g0 n0 c0 m c : Nat} {A : Option Addr} {ys us : List Value} (hown : w.ownsRow base e 1 (.slice (some ⟨g0, 0, none⟩) n0 c0) n0 ys) (hm : us.length = m) (hat : ∀ j u, us[j]? = some u → ∃ b off, A = some ⟨b, off, none⟩ ∧ w.cell? ⟨b, off + j, none⟩ = some u) (h1 : ∀ u ∈ us, u.oneCell' = true) (hle : n0 + m ≤ 4000000) (hby : by_ ≤ 24) (hbase : base ≤ w.heap.size)
    (hnone : ∀ c, n0 ≤ c0 → (Builtin.append_ #[sl, sl] ty #[.slice (some ⟨g0, 0, none⟩) n0 c0, .slice none 0 c]).run Tryz.prog w = .ok (.slice (some ⟨g0, 0, none⟩) n0 c0) w) :
    AppPost w base e g0 (n0 + m) (ys ++ us) ((Builtin.append_ #[sl, sl] ty #[.slice (some ⟨g0, 0, none⟩) n0 c0, .slice A m c]).run Tryz.prog w) := by
  have hcap : n0 ≤ c0 := by
    rcases hown.2 with ⟨e, _⟩ | ⟨g, cap, cur, e, _, _, h, _⟩
    · cases e
    · injection e with _ _ e
      omega
  cases A with
  | none =>
    have h0 : us = [] := by
      cases us with
      | nil => rfl
      | cons u r =>
        obtain ⟨_, _, e, _⟩ := hat 0 u rfl
        cases e
    subst h0
    obtain rfl : m = 0 := hm.symm
    clear hle
    rw [Nat.add_zero, List.append_nil]
    exact ⟨g0, c0, w, hnone c hcap, hown, World.grownBy.refl w _, .inl rfl, (hown.lt g0 rfl).2⟩
  | some ad =>
    have hnews : ∀ j u, us[j]? = some u → w.cell? (ad.add j) = some u := fun j u hj => by
      obtain ⟨b, off, e, hc⟩ := hat j u hj
      injection e with e
      subst e
      rw [Go.WideShapes.add_plain]
      exact hc
    obtain ⟨v', w', hr, h2, h3, h4, h5⟩ := run_append_own_at (P := Tryz.prog) w base sl ty e i0 z 1 by_ hu hix hz0 hz1 hz2 hzc (by decide) _ n0 ys hown ad m c us (by simpa using hm) hnews h1 (by unfold maxLen; omega) (by
      have : (n0 + m) * by_ ≤ 4000000 * 24 := Nat.mul_le_mul hle hby
      omega) hbase
    have hv : v' ≠ .slice none 0 0 := fun e => by
      have := (h4.1 e).1
      cases this
    rcases h2.2 with ⟨e, _⟩ | ⟨g1, cap, cur, e, hb, hg, r⟩
    · exact absurd e hv
    · subst e
      refine ⟨g1, cap, w', hr, h2, h3, ?_, (Array.getElem?_eq_some_iff.1 hg).1⟩
      rcases h5 with h5 | h5
      · exact .inl (by simpa [Value.ownBlock] using h5)
      · exact .inr (by simpa [Value.ownBlock] using h5)

/-- numbers behind numbers -/
theorem app_ints {w : World} {base ty g0 n0 c0 B : Nat} {v : Value} {ys xs : List Int} (hown : w.ownsRow base 3 1 (.slice (some ⟨g0, 0, none⟩) n0 c0) n0 (ys.map (Value.int .i64))) (hi : Ints w B v xs) (hle : n0 + xs.length ≤ 4000000) (hbase : base ≤ w.heap.size) :
    AppPost w base 3 g0 (n0 + xs.length) ((ys ++ xs).map (Value.int .i64)) ((Builtin.append_ #[22, 22] ty #[.slice (some ⟨g0, 0, none⟩) n0 c0, v]).run Tryz.prog w) := by
  obtain ⟨A, c, rfl, _, hat⟩ := hi
  obtain ⟨i0, hix, hz0, hz1, hz2⟩ := info_parts int_info
  rw [List.map_append]
  refine app_of Tryz.underlying22 hix hz0 hz1 hz2 rfl hown (by simp) (fun j u hj => ?_) (fun u hu => by
    obtain ⟨y, _, rfl⟩ := List.mem_map.1 hu
    rfl) hle (by decide) hbase (fun c h => append_noneI w g0 n0 c0 c ty h)
  rw [List.getElem?_map] at hj
  cases hx : xs[j]? with
  | none => rw [hx] at hj; cases hj
  | some x =>
    rw [hx] at hj
    injection hj with hj
    subst hj
    obtain ⟨b, off, e, _, hc⟩ := hat j (List.getElem?_eq_some_iff.1 hx).1
    exact ⟨b, off, e, by rw [hc, hx]; rfl⟩
/-- at a plain region's list -/
theorem wpList_app {ops : Array Oper} {rest : List Oper} {o : Oper} {a : Act} {Q : Exit → Act → World → Prop} {w : World} (hgd : o.guard = none) (s x : Operand) (sl : TypeId) (ho : o.op = .call { callee := .builtin .append, args := #[s, x], argTypes := #[sl, sl] })
    (vs vx : Value) (hs : a.eval s = vs) (hx : a.eval x = vx) {base e g0 n : Nat} {us : List Value} (hp : AppPost w base e g0 n us ((Builtin.append_ #[sl, sl] o.type #[vs, vx]).run Tryz.prog w))
    (h : ∀ g1 cap w', w'.ownsRow base e 1 (.slice (some ⟨g1, 0, none⟩) n cap) n us → w.grownBy w' (some g0) → (g1 = g0 ∨ g1 = w.heap.size) → g1 < w'.heap.size → wpList Tryz.prog ops Q rest (a.put o.dst (.slice (some ⟨g1, 0, none⟩) n cap)) w') : wpList Tryz.prog ops Q (o :: rest) a w :=
  wpList_plain hgd fun _ hK => by
    obtain ⟨g1, cap, w', hr, h1, h2, h3, h4⟩ := hp
    unfold Oper.wp execOp
    simp only [ho, resolve, invoke, builtin, Sem.run_bind, Sem.run_pure, Result.andThen_ok, List.map_toArray, List.map_cons, List.map_nil, hs, hx, hr]
    exact hK _ _ (h g1 cap w' h1 h2 h3 h4)

/-- an owned row of numbers can be read -/
theorem own_ints {w : World} {base n : Nat} {v : Value} {xs : List Int} (h : w.ownsRow base 3 1 v n (xs.map (Value.int .i64))) (hn : n = xs.length) (hl : n ≤ 140737488351232) : Ints w w.heap.size v xs := by
  subst hn
  rcases h.2 with ⟨hv, h0⟩ | ⟨g, cap, cur, hv, hb, hg, r⟩
  · refine ⟨none, 0, by rw [hv, h0], hl, fun k hk => ?_⟩
    omega
  · refine ⟨some ⟨g, 0, none⟩, cap, hv, hl, fun k hk => ⟨g, 0, rfl, (Array.getElem?_eq_some_iff.1 hg).1, ?_⟩⟩
    rw [hv] at h
    rw [Nat.zero_add, World.ownsRow.cellAt h k (by omega), List.getElem?_map, List.getElem?_eq_getElem hk]
    rfl

end Go.Proofs.YtncmnbchkabgaaaGreat

namespace Go.Proofs.YtncmnbchkabgaaaGreat
open Go.RowKit

theorem getD_more {l m : List Int} {i : Nat} (h : i < l.length) : (l ++ m).getD i 0 = l.getD i 0 := by
  rw [List.getD_eq_getElem?_getD, List.getD_eq_getElem?_getD, List.getElem?_append_left h]

/-- arguments that are too many -/
theorem arg_more {f : FuncM} {I : InM} (m : List Int) (h : f.params.length ≤ I.args.length) (ar : List (List Int)) (i : Nat) : argM f ⟨I.args ++ m, ar⟩ i = argM f I i := by
  unfold argM
  by_cases hi : i < f.params.length
  · have h1 : i < I.args.length := by omega
    have h2 : i < (I.args ++ m).length := by rw [List.length_append]; omega
    simp only [hi, h1, h2, and_self, if_true, getD_more h1]
  · rw [if_neg (by simp [hi]), if_neg (by simp [hi])]

/-- arguments that are zero -/
theorem arg_zero {f : FuncM} {I : InM} (k : Nat) (ar : List (List Int)) (i : Nat) : argM f ⟨I.args ++ List.replicate k 0, ar⟩ i = argM f I i := by
  unfold argM
  by_cases hi : i < f.params.length
  · by_cases h1 : i < I.args.length
    · have h2 : i < (I.args ++ List.replicate k 0).length := by rw [List.length_append]; omega
      simp only [hi, h1, h2, and_self, if_true, getD_more h1]
    · rw [if_neg (fun h : i < f.params.length ∧ i < I.args.length => h1 h.2)]
      split
      · have h3 : (I.args ++ List.replicate k 0).getD i 0 = 0 := by
          rw [List.getD_eq_getElem?_getD, List.getElem?_append_right (by omega), List.getElem?_replicate]
          split <;> rfl
        rw [h3]
        split
        · rename_i h4
          exact absurd rfl h4.2
        · rfl
      · rfl
  · rw [if_neg (by simp [hi]), if_neg (by simp [hi])]

theorem start_eq {f : FuncM} {I J : InM} (h1 : ∀ i, argM f J i = argM f I i) (h2 : ∀ i, i < f.arrays.toNat → (J.arrs.getD i []) = I.arrs.getD i []) : startS f J = startS f I := by
  unfold startS
  have e1 : (fun x : Int => if 0 ≤ x then argM f J x.toNat else 0) = fun x => if 0 ≤ x then argM f I x.toNat else 0 := funext fun x => by rw [h1]
  have e2 : (List.range f.arrays.toNat).map (fun i => (J.arrs.getD i []).take 4096) = (List.range f.arrays.toNat).map (fun i => (I.arrs.getD i []).take 4096) := List.map_congr_left fun i hi => by rw [h2 i (List.mem_range.1 hi)]
  rw [e1, e2]

theorem arrs_more {xs m : List (List Int)} {n i : Nat} (h : n ≤ xs.length) (hi : i < n) : (xs ++ m).getD i [] = xs.getD i [] := by
  rw [List.getD_eq_getElem?_getD, List.getD_eq_getElem?_getD, List.getElem?_append_left (by omega)]

theorem arrs_nil {xs : List (List Int)} {k i : Nat} : (xs ++ List.replicate k []).getD i [] = xs.getD i [] := by
  rw [List.getD_eq_getElem?_getD, List.getD_eq_getElem?_getD]
  by_cases h : i < xs.length
  · rw [List.getElem?_append_left h]
  · rw [List.getElem?_append_right (by omega), List.getElem?_replicate, List.getElem?_eq_none (by omega)]
    split <;> rfl

theorem Runs.same {f : FuncM} {I J : InM} {F : Nat} {s : StM} {en : EndM} (he : startS f J = startS f I) (h : Runs f J F s en) : Runs f I F s en := by
  rcases h with ⟨hs, h⟩ | h
  · refine .inl ⟨hs, ?_⟩
    unfold EndIs startM at h ⊢
    rw [he] at h
    exact h
  · exact .inr h

theorem Runs.one {f : FuncM} {I : InM} {F : Nat} {s t : StM} {en em : EndM} (h : Runs f I F s en) (k : Runs f I F t em) : s = t ∧ en = em := by
  rcases h with ⟨hs, h⟩ | ⟨hn, rfl, rfl⟩
  · rcases k with ⟨_, k⟩ | ⟨kn, _⟩
    · exact end_one h k
    · exact absurd hs kn
  · rcases k with ⟨ks, _⟩ | ⟨_, rfl, rfl⟩
    · exact absurd ks hn
    · exact ⟨rfl, rfl⟩

/-- values that are lists of numbers -/
def ListsV (w : World) (B : Nat) (us : List Value) (xs : List (List Int)) : Prop :=
  us.length = xs.length ∧ ∀ (k : Nat) (l : List Int), xs[k]? = some l → ∃ lv, us[k]? = some lv ∧ Ints w B lv l ∧ ∀ A n c, lv = .slice A n c → n ≤ c

theorem ListsV.keeps {w w' : World} {B : Nat} {us : List Value} {xs : List (List Int)} (h : ListsV w B us xs) (hk : Keeps B w w') : ListsV w' B us xs := by
  refine ⟨h.1, fun k l hl => ?_⟩
  obtain ⟨lv, h1, h2, h3⟩ := h.2 k l hl
  exact ⟨lv, h1, h2.keeps hk, h3⟩

theorem ListsV.push {w : World} {B : Nat} {us : List Value} {xs : List (List Int)} {lv : Value} {l : List Int} (h : ListsV w B us xs) (hi : Ints w B lv l) (hc : ∀ A n c, lv = .slice A n c → n ≤ c) : ListsV w B (us ++ [lv]) (xs ++ [l]) := by
  refine ⟨by rw [List.length_append, List.length_append, h.1]; rfl, fun k l' hl => ?_⟩
  by_cases hk : k < xs.length
  · rw [List.getElem?_append_left hk] at hl
    obtain ⟨lv', h1, h2, h3⟩ := h.2 k l' hl
    exact ⟨lv', by rw [List.getElem?_append_left (by rw [h.1]; exact hk)]; exact h1, h2, h3⟩
  · have hkl := (List.getElem?_eq_some_iff.1 hl).1
    rw [List.length_append, List.length_singleton] at hkl
    obtain rfl : k = xs.length := by omega
    rw [List.getElem?_append_right (Nat.le_refl _), Nat.sub_self] at hl
    obtain rfl : l = l' := by simpa using hl
    exact ⟨lv, by rw [← h.1, List.getElem?_append_right (Nat.le_refl _), Nat.sub_self]; rfl, hi, hc⟩

/-- what an array of lists holds -/
theorem arrs_vals {w : World} {B : Nat} {v : Value} {xs : List (List Int)} (h : ArrsR w B v xs) : ∃ us A c, v = .slice A xs.length c ∧ ListsV w B us xs ∧ (∀ (j : Nat) (u : Value), us[j]? = some u → ∃ b off, A = some ⟨b, off, none⟩ ∧ b < B ∧ w.cell? ⟨b, off + j, none⟩ = some u) ∧ ∀ u ∈ us, u.oneCell' = true := by
  obtain ⟨A, c, rfl, _, hat⟩ := h
  obtain ⟨us, hl, hus⟩ := list_choose (α := Value) (R := fun k lv => ∃ l b off, xs[k]? = some l ∧ A = some ⟨b, off, none⟩ ∧ b < B ∧ w.cell? ⟨b, off + k, none⟩ = some lv ∧ Ints w B lv l ∧ ∀ A2 n2 c2, lv = .slice A2 n2 c2 → n2 ≤ c2) xs.length (fun k hk => by
    obtain ⟨l, hl⟩ : ∃ l, xs[k]? = some l := ⟨_, List.getElem?_eq_getElem hk⟩
    obtain ⟨b, off, lv, h1, h2, h3, h4, h5⟩ := hat k l hl
    exact ⟨lv, l, b, off, hl, h1, h2, h3, h4, h5⟩)
  refine ⟨us, A, c, rfl, ⟨hl, fun k l hk => ?_⟩, fun j u hj => ?_, fun u hu => ?_⟩
  · have hkl := (List.getElem?_eq_some_iff.1 hk).1
    obtain ⟨lv, hlv⟩ : ∃ lv, us[k]? = some lv := ⟨_, List.getElem?_eq_getElem (by omega)⟩
    obtain ⟨l', b, off, h0, _, _, _, h4, h5⟩ := hus k lv hlv
    rw [hk] at h0
    injection h0 with h0
    subst h0
    exact ⟨lv, hlv, h4, h5⟩
  · obtain ⟨_, b, off, _, h1, h2, h3, _⟩ := hus j u hj
    exact ⟨b, off, h1, h2, h3⟩
  · obtain ⟨j, hj⟩ := List.getElem?_of_mem hu
    obtain ⟨_, _, _, _, _, _, _, ⟨A', c', e, _⟩, _⟩ := hus j u hj
    rw [e]
    rfl

/-- an owned row of lists is an array of lists -/
theorem ListsV.arrs {w : World} {base g n c B : Nat} {us : List Value} {xs : List (List Int)} (h : ListsV w B us xs) (hown : w.ownsRow base 22 1 (.slice (some ⟨g, 0, none⟩) n c) n us) (hB : B ≤ w.heap.size) (hn : n = xs.length) (hle : n ≤ 140737488351232) : ArrsR w w.heap.size (.slice (some ⟨g, 0, none⟩) n c) xs := by
  subst hn
  refine ⟨_, _, rfl, hle, fun k l hk => ?_⟩
  obtain ⟨lv, h1, h2, h3⟩ := h.2 k l hk
  have hkl := (List.getElem?_eq_some_iff.1 hk).1
  exact ⟨g, 0, lv, rfl, (hown.lt g rfl).2, by rw [Nat.zero_add, World.ownsRow.cellAt hown k (by omega)]; exact h1, h2.more hB, h3⟩

/-- lists behind lists -/
theorem app_vals {w : World} {base ty g0 n0 c0 m c : Nat} {A : Option Addr} {ys us : List Value} (hown : w.ownsRow base 22 1 (.slice (some ⟨g0, 0, none⟩) n0 c0) n0 ys) (hm : us.length = m) (hat : ∀ j u, us[j]? = some u → ∃ b off, A = some ⟨b, off, none⟩ ∧ w.cell? ⟨b, off + j, none⟩ = some u) (h1 : ∀ u ∈ us, u.oneCell' = true) (hle : n0 + m ≤ 4000000) (hbase : base ≤ w.heap.size) :
    AppPost w base 22 g0 (n0 + m) (ys ++ us) ((Builtin.append_ #[26, 26] ty #[.slice (some ⟨g0, 0, none⟩) n0 c0, .slice A m c]).run Tryz.prog w) := by
  obtain ⟨i0, hix, hz0, hz1, hz2⟩ := info_parts ints_info
  exact app_of Tryz.underlying26 hix hz0 hz1 hz2 rfl hown hm hat h1 hle (by decide) hbase (fun c h => append_noneL w g0 n0 c0 c ty h)
theorem ArrsR.moreB {w : World} {B B' : Nat} {v : Value} {xs : List (List Int)} (h : ArrsR w B v xs) (hB : B ≤ B') : ArrsR w B' v xs := by
  obtain ⟨A, c, e, hl, hat⟩ := h
  refine ⟨A, c, e, hl, fun k l hk => ?_⟩
  obtain ⟨b, off, lv, h1, h2, h3, h4, h5⟩ := hat k l hk
  exact ⟨b, off, lv, h1, by omega, h3, h4.more hB, h5⟩

theorem TraceR.moreB {w : World} {B B' : Nat} {v : Value} {s : StM} {en : EndM} (h : TraceR w B v s en) (hB : B ≤ B') : TraceR w B' v s en := by
  obtain ⟨ov, av, vv, e, h1, h2, h3⟩ := h
  exact ⟨ov, av, vv, e, h1.more hB, h2.moreB hB, h3.more hB⟩

end Go.Proofs.YtncmnbchkabgaaaGreat

namespace Go.Proofs.YtncmnbchkabgaaaGreat
open Go.RowKit Go.Maps

def awakeF : FuncM := ⟨[], 0, 0, [⟨[], [⟨1, 0, [], 5⟩], ⟨3, 0, [], 0⟩⟩]⟩

theorem awake_look : lookM awakeF = (0, [(0, 1)]) := by decide
theorem awake_size : sizeM awakeF = 2 := by decide

theorem awake_reads (w W : World) (h0 : W.heap[w.heap.size]? = some (.cells #[.int .i64 1, .int .i64 0, .slice none 0 0, .int .i64 5] 59 (0, 0)))
    (h1 : W.heap[w.heap.size + 1]? = some (.cells #[.slice none 0 0, .slice (some ⟨w.heap.size, 0, none⟩) 1 1, .int .i64 3, .int .i64 0, .slice none 0 0, .int .i64 0] 53 (0, 0))) :
    BlocksR W (w.heap.size + 2) (.slice (some ⟨w.heap.size + 1, 0, none⟩) 1 1) awakeF.blocks := by
  have c0 := row_cells h0 (rfl : W.heap[w.heap.size]? = W.heap[w.heap.size]?)
  have c1 := row_cells h1 (rfl : W.heap[w.heap.size + 1]? = W.heap[w.heap.size + 1]?)
  refine ⟨_, _, rfl, by decide, fun k q hk => ?_⟩
  have hq : k = 0 ∧ q = ⟨[], [⟨1, 0, [], 5⟩], ⟨3, 0, [], 0⟩⟩ := by
    rcases k with _ | k
    · simp [awakeF] at hk
      exact ⟨rfl, hk.symm⟩
    · simp [awakeF] at hk
  obtain ⟨rfl, rfl⟩ := hq
  refine ⟨_, 0, _, _, _, rfl, by omega, c1 _, c1 _, c1 _, c1 _, c1 _, c1 _, ⟨none, 0, rfl, by decide, fun k p hp => by simp at hp⟩, ⟨_, _, rfl, by decide, fun k x hx => ?_⟩, Ints.nil _ _, by unfold I64; decide, by unfold I64; decide, by unfold I64; decide⟩
  have hx' : k = 0 ∧ x = ⟨1, 0, [], 5⟩ := by
    rcases k with _ | k
    · simp at hx
      exact ⟨rfl, hx.symm⟩
    · simp at hx
  obtain ⟨rfl, rfl⟩ := hx'
  exact ⟨_, 0, _, rfl, by omega, c0 _, c0 _, c0 _, c0 _, Ints.nil _ _, by unfold I64; decide, by unfold I64; decide, by unfold I64; decide⟩

end Go.Proofs.YtncmnbchkabgaaaGreat

namespace Go.Proofs.YtncmnbchkabgaaaGreat
open Go.RowKit Go.Maps

theorem awake_order {o : List Nat} (h : OrderIs awakeF.blocks o) : o = [0] := by
  refine h.one ⟨[0], [], ?_, rfl⟩
  have : succM awakeF.blocks 0 = [] := rfl
  rw [this]
  exact .nil _

theorem awake_uses : ∀ u ∈ usesM awakeF, I64 u.1 := by
  intro u hu
  simp [usesM, awakeF, usesBlock, usesInstr, usesTerm, takesS, shapeS] at hu
  subst hu
  unfold I64
  decide

/-- the simplest function, made anew -/
def awakeMade (w : World) : World := (w.alloc (.cells #[.int .i64 1, .int .i64 0, .slice none 0 0, .int .i64 5] 59)).alloc (.cells #[.slice none 0 0, .slice (some ⟨w.heap.size, 0, none⟩) 1 1, .int .i64 3, .int .i64 0, .slice none 0 0, .int .i64 0] 53)

theorem awakeMade_facts (w : World) : BlocksR (awakeMade w) (w.heap.size + 2) (.slice (some ⟨w.heap.size + 1, 0, none⟩) 1 1) awakeF.blocks ∧ (awakeMade w).heap.size = w.heap.size + 2 ∧ Below w.heap.size w (awakeMade w) := by
  have hsz : (awakeMade w).heap.size = w.heap.size + 2 := by unfold awakeMade; simp
  have hBl : Below w.heap.size w (awakeMade w) := by unfold awakeMade; exact (((Below.refl _ w).alloc (Nat.le_refl _) _).alloc (by simp) _)
  have h0 : (awakeMade w).heap[w.heap.size]? = some (.cells #[.int .i64 1, .int .i64 0, .slice none 0 0, .int .i64 5] 59 (0, 0)) := by
    unfold awakeMade
    rw [Below.heap_alloc _ _ _ (by simp)]
    exact heap_alloc_new w _
  have h1 : (awakeMade w).heap[w.heap.size + 1]? = some (.cells #[.slice none 0 0, .slice (some ⟨w.heap.size, 0, none⟩) 1 1, .int .i64 3, .int .i64 0, .slice none 0 0, .int .i64 0] 53 (0, 0)) := by
    unfold awakeMade
    have := heap_alloc_new (w.alloc (.cells #[.int .i64 1, .int .i64 0, .slice none 0 0, .int .i64 5] 59)) (.cells #[.slice none 0 0, .slice (some ⟨w.heap.size, 0, none⟩) 1 1, .int .i64 3, .int .i64 0, .slice none 0 0, .int .i64 0] 53)
    simpa using this
  exact ⟨awake_reads w _ h0 h1, hsz, hBl⟩

theorem awake_orderIs : OrderIs awakeF.blocks [0] := by
  refine ⟨[0], [], ?_, rfl⟩
  have : succM awakeF.blocks 0 = [] := rfl
  rw [this]
  exact .nil _

end Go.Proofs.YtncmnbchkabgaaaGreat

namespace Go.Proofs.YtncmnbchkabgaaaGreat
open Go.RowKit Go.Maps

theorem awake_placed : placedM awakeF = [(0, (0, 0))] := by decide

theorem awake_checkIs : CheckIs awakeF (0, 0) := by
  refine .inr ⟨congrArg Prod.fst awake_look, [0], awake_orderIs, .inr (.inr (.inr ⟨?_, ?_, ?_, rfl⟩))⟩
  · intro b hb
    have : b = 0 := by have : b < 1 := hb; omega
    subst this
    simp
  · intro b hb q hq
    have : b = 0 := by have : b < 1 := hb; omega
    subst this
    simp [awakeF] at hq
    subst hq
    rfl
  · intro b hb q hq
    have : b = 0 := by have : b < 1 := hb; omega
    subst this
    simp [awakeF] at hq
    subst hq
    refine ⟨fun p hp => by simp at hp, fun i x hx => ?_, fun _ => ?_⟩
    · rcases i with _ | i
      · simp at hx
        subst hx
        intro id hid
        simp at hid
      · simp at hx
    · intro m hm
      rw [awake_placed] at hm
      have : m = (0, 0) := by
        have h2 : Placed.last [(0, (0, 0))] 0 = some (0, 0) := by decide
        exact (Option.some.inj (h2.symm.trans hm)).symm
      subst this
      exact .inl ⟨rfl, by simp⟩

end Go.Proofs.YtncmnbchkabgaaaGreat

namespace Go.Proofs.YtncmnbchkabgaaaGreat
open Go.RowKit Go.Maps

theorem awake_ids : idsOut awakeF = [0] := by
  unfold idsOut idsS
  rw [awake_look]
  simp

theorem awake_room : roomM awakeF = 1 := by
  unfold roomM
  rw [awake_ids]
  rfl

theorem awake_blocks {b : Nat} {q : BlockM} (h : awakeF.blocks[b]? = some q) : b = 0 ∧ q = ⟨[], [⟨1, 0, [], 5⟩], ⟨3, 0, [], 0⟩⟩ := by
  rcases b with _ | b
  · simp [awakeF] at h
    exact ⟨rfl, h.symm⟩
  · simp [awakeF] at h

theorem awake_fok : FOk awakeF 1 := by
  refine ⟨fun b q h x hx => ?_, fun b q h => ?_, fun b q h t ht => ?_, fun b q h => ?_, fun b q h => ?_, by decide, fun q h => ?_⟩
  · obtain ⟨_, rfl⟩ := awake_blocks h
    simp at hx
    subst hx
    exact ⟨fun i hi => by simp at hi, by decide, by decide, fun e => absurd e (by decide), fun e => absurd e (by decide), fun _ => by decide, by decide⟩
  · obtain ⟨_, rfl⟩ := awake_blocks h
    exact ⟨.inr (.inr (.inl ⟨rfl, rfl⟩)), fun _ => by decide⟩
  · obtain ⟨_, rfl⟩ := awake_blocks h
    simp at ht
  · obtain ⟨_, rfl⟩ := awake_blocks h
    simp
  · obtain ⟨_, rfl⟩ := awake_blocks h
    simp
  · obtain ⟨_, rfl⟩ := awake_blocks h
    rfl

theorem awake_end {s : StM} {en : EndM} (h : EndIs awakeF ⟨[], []⟩ (min 9 200000) s en) : s.steps = 2 ∧ en = (1, 5, 0) := by
  obtain ⟨h1, h2⟩ := h
  have e1 : (goN awakeF (min 9 200000) (startM awakeF ⟨[], []⟩)).s.steps = 2 := by rfl
  have e2 : finM (goN awakeF (min 9 200000) (startM awakeF ⟨[], []⟩)) = (1, 5, 0) := by rfl
  exact ⟨by rw [← h1]; exact e1, by rw [← h2]; exact e2⟩

theorem awake_run (w : World) : Calls Tryz.prog 10 #[.agg #[.slice none 0 0, .int .i64 0, .int .i64 0, .slice (some ⟨w.heap.size + 1, 0, none⟩) 1 1], .agg #[.slice none 0 0, .slice none 0 0], .int .i64 9] (awakeMade w) fun e w' =>
    (∃ A1 n1 c1 A2 n2 c2 A3 n3 c3 ch, e = .returned (.agg #[.int .i64 1, .int .i64 5, .int .i64 0, .slice A1 n1 c1, .slice A2 n2 c2, .int .i64 2, .int .i64 ch, .slice A3 n3 c3])) ∧ Below w.heap.size w w' := by
  obtain ⟨h1, h2, h3⟩ := awakeMade_facts w
  refine (irun_yes awakeF ⟨[], []⟩ (w.heap.size + 2) (.slice none 0 0) _ (.slice none 0 0) (.slice none 0 0) 9 (awakeMade w) (Ints.nil _ _) h1 (by omega) awake_uses awake_checkIs (by rw [awake_room]; exact awake_fok) ⟨rfl, rfl, rfl, by decide⟩
    (by rw [awake_ids]; intro x hx; simp at hx; subst hx; decide) ⟨by decide, by rw [awake_room]; decide⟩ (by decide) (by decide) (by decide) (Ints.nil _ _) (fun W _ => takeArrays_none _ _ _ _ _ none 0 0 rfl rfl) none 0 0 rfl).mono ?_
  rintro e w' ⟨v, s, en, rfl, hend, ⟨nv, val, rfl, hrows⟩, hb⟩
  obtain ⟨hs, rfl⟩ := awake_end hend
  obtain ⟨Ao, co, ho⟩ := row_form (hrows .out _ rfl)
  obtain ⟨Aa, ca, ha⟩ := row_form (hrows .arrs _ rfl)
  obtain ⟨Av, cv, hv⟩ := row_form (hrows .vis _ rfl)
  refine ⟨⟨Ao, (intRow s.out).len, co, Aa, s.arrs.length, ca, Av, (intRow s.vis).len, cv, s.checks, ?_⟩, h3.trans (hb.mono (by omega))⟩
  rw [ho, ha, hv, hs]
  rfl

set_option maxRecDepth 100000 in
set_option maxHeartbeats 1000000 in
theorem awake6_any (w : World) : Calls Tryz.prog 8 #[] w fun e w' => e = .returned (.bool true) ∧ Below w.heap.size w w' := by
  have HI := hideI (awake_run w)
  unfold awakeMade at HI
  go_enter Tryz.func8, Tryz.ntmps8
  go_wp2_with (first
    | (go_at_call 10; go_must (refine HI.out.mono ?_); rintro e w1 ⟨⟨A1, n1, c1, A2, n2, c2, A3, n3, c3, ch, rfl⟩, hb⟩; have HB1 := hideI hb; clear hb))
  go_ret
  exact ⟨rfl, HB1.out.alloc HB1.out.size _⟩
end Go.Proofs.YtncmnbchkabgaaaGreat

namespace Go.Proofs.YtncmnbchkabgaaaGreat
open Go.RowKit Go.Maps

theorem ArrsR.drewN {w : World} {B : Nat} {v : Value} {xs : List (List Int)} (h : ArrsR w B v xs) (n : Nat) : ArrsR (w.drewN n) B v xs := h.keeps (Keeps.heap' (Keeps.refl _) rfl)

set_option maxRecDepth 100000 in
set_option maxHeartbeats 2000000 in
/-- two lists of lists that are the same -/
theorem sameArrs_yes (w : World) (B : Nat) (v u : Value) (xs : List (List Int)) (h1 : ArrsR w B v xs) (h2 : ArrsR w B u xs) :
    Calls Tryz.prog 14 #[v, u] w fun e w' => e = .returned (.bool true) ∧ ∃ m, w' = w.drewN m := by
  have H1 := hideI h1
  have H2 := hideI h2
  obtain ⟨A1, c1, rfl, hm, k1⟩ := h1
  obtain ⟨A2, c2, rfl, _, k2⟩ := h2
  obtain ⟨n, hn⟩ : ∃ n, n = xs.length := ⟨_, rfl⟩
  rw [← hn] at H1 H2 hm ⊢
  have HN := hideI hn
  have K1 := hideI k1
  have K2 := hideI k2
  clear k1 k2 hn
  go_enter Tryz.func14, Tryz.ntmps14
  go_wp2
  go_loopw [5] (fun u wr => ∃ k m : Nat, k ≤ n ∧ u = .int .i64 k ∧ wr = w.drewN m) (fun u _ => n - (intOf u).toNat)
  case atStart => exact ⟨0, 0, Nat.zero_le _, rfl, rfl⟩
  case round =>
    obtain ⟨k, m, hk, rfl, hwr⟩ := hrel
    have HWR := hideI hwr
    by_cases hlt : k < n
    · obtain ⟨l, hl⟩ : ∃ l, xs[k]? = some l := ⟨_, List.getElem?_eq_getElem (by have := HN.out; omega)⟩
      obtain ⟨b1, o1, v1, rfl, hb1, d1, i1, _⟩ := K1.out k l hl
      obtain ⟨b2, o2, v2, rfl, hb2, d2, i2, _⟩ := K2.out k l hl
      have d1 : wr.cell? ⟨b1, o1 + k, none⟩ = some v1 := by rw [hwr]; exact d1
      have d2 : wr.cell? ⟨b2, o2 + k, none⟩ = some v2 := by rw [hwr]; exact d2
      have HC : Hid (∀ a, Calls Tryz.prog 28 #[v1, v2] (wr.drewN a) fun e w' => e = .returned (.bool true) ∧ ∃ m, w' = (wr.drewN a).drewN m) := fun a =>
        (sameInts_any (wr.drewN a) B _ _ _ _ (i1.keeps (Keeps.heap' (Keeps.refl _) (by show wr.heap = _; rw [hwr]; rfl))) (i2.keeps (Keeps.heap' (Keeps.refl _) (by show wr.heap = _; rw [hwr]; rfl)))).mono fun e w' ⟨h1, h2⟩ => ⟨by rw [h1, beq_self_eq_true], h2⟩
      clear hl hwr i1 i2
      go_wp2
      go_quiet ((go_at_call 28; exact Calls.quiet_of (HC.out _)))
      go_wp2
      go_roundw
      case rel => exact ⟨k + 1, _, by omega, by go_num, by rw [HWR.out]; exact World.drewN_drewN ..⟩
      case measure => simp [intOf]; omega
    · go_wp2
      go_ret
      exact ⟨rfl, m, rfl⟩

theorem below_two (w : World) (o1 o2 : Obj) : Below w.heap.size w ((w.alloc o1).alloc o2) := ((Below.refl _ w).alloc (Nat.le_refl _) _).alloc (by simp) _
theorem keeps_two {w : World} {B : Nat} (hB : B ≤ w.heap.size) (o1 o2 : Obj) : Keeps B w ((w.alloc o1).alloc o2) := Keeps.of_below ((below_two w o1 o2).mono hB)

set_option maxRecDepth 100000 in
set_option maxHeartbeats 2000000 in
/-- two traces that are the same but for how much was done -/
theorem alike_yes (w : World) (B : Nat) (v u : Value) (s t : StM) (en : EndM) (h1 : TraceR w B v s en) (h2 : TraceR w B u t en) (hB : B ≤ w.heap.size) (ho : s.out = t.out) (ha : s.arrs = t.arrs) :
    Calls Tryz.prog 27 #[v, u] w fun e w' => e = .returned (.bool true) ∧ Below w.heap.size w w' := by
  have H1 := hideI h1
  have H2 := hideI h2
  obtain ⟨o1, a1, v1, rfl, i1, r1, _⟩ := h1
  obtain ⟨o2, a2, v2, rfl, i2, r2, _⟩ := h2
  obtain ⟨e0, e1, e2⟩ := en
  rw [← ho] at i2
  rw [← ha] at r2
  have HI : Hid (∀ W, Keeps B w W → Calls Tryz.prog 28 #[o1, o2] W fun e w' => e = .returned (.bool true) ∧ ∃ m, w' = W.drewN m) := hideI fun W k =>
    (sameInts_any W B _ _ _ _ (i1.keeps k) (i2.keeps k)).mono fun e w' ⟨h1, h2⟩ => ⟨by rw [h1, beq_self_eq_true], h2⟩
  have HA : Hid (∀ W, Keeps B w W → Calls Tryz.prog 14 #[a1, a2] W fun e w' => e = .returned (.bool true) ∧ ∃ m, w' = W.drewN m) := hideI fun W k => sameArrs_yes W B _ _ _ (r1.keeps k) (r2.keeps k)
  clear i1 i2 r1 r2 ho ha
  go_enter Tryz.func27, Tryz.ntmps27
  go_wp2_with (first
    | (go_at_call 28; go_must (refine (HI.out _ (by exact Keeps.heap' (keeps_two hB _ _) rfl)).mono ?_); rintro e w1 ⟨rfl, m, rfl⟩)
    | (go_at_call 14; go_must (refine (HA.out _ (by exact Keeps.heap' (keeps_two hB _ _) rfl)).mono ?_); rintro e w1 ⟨rfl, m2, rfl⟩))
  go_ret
  exact ⟨rfl, below_drewN (below_two w _ _) _⟩

set_option maxRecDepth 100000 in
set_option maxHeartbeats 2000000 in
/-- two traces that are the same -/
theorem same_yes (w : World) (B : Nat) (v u : Value) (s : StM) (en : EndM) (h1 : TraceR w B v s en) (h2 : TraceR w B u s en) (hB : B ≤ w.heap.size) :
    Calls Tryz.prog 9 #[v, u] w fun e w' => e = .returned (.bool true) ∧ Below w.heap.size w w' := by
  have H1 := hideI h1
  have H2 := hideI h2
  obtain ⟨o1, a1, v1, rfl, _, _, i1⟩ := h1
  obtain ⟨o2, a2, v2, rfl, _, _, i2⟩ := h2
  obtain ⟨e0, e1, e2⟩ := en
  have HI : Hid (∀ W, Keeps B w W → Calls Tryz.prog 28 #[v1, v2] W fun e w' => e = .returned (.bool true) ∧ ∃ m, w' = W.drewN m) := hideI fun W k =>
    (sameInts_any W B _ _ _ _ (i1.keeps k) (i2.keeps k)).mono fun e w' ⟨h1, h2⟩ => ⟨by rw [h1, beq_self_eq_true], h2⟩
  obtain ⟨W1, hW1⟩ : ∃ W1, W1 = ((w.alloc (.cells #[.int .i64 e0, .int .i64 e1, .int .i64 e2, o1, a1, .int .i64 s.steps, .int .i64 s.checks, v1] 32)).alloc (.cells #[.int .i64 e0, .int .i64 e1, .int .i64 e2, o2, a2, .int .i64 s.steps, .int .i64 s.checks, v2] 32)) := ⟨_, rfl⟩
  have hb1 : Below w.heap.size w W1 := by rw [hW1]; exact below_two w _ _
  have hs1 : W1.heap.size = w.heap.size + 2 := by rw [hW1]; simp
  have hf0 : W1.heap[w.heap.size]? = some (.cells #[.int .i64 e0, .int .i64 e1, .int .i64 e2, o1, a1, .int .i64 s.steps, .int .i64 s.checks, v1] 32 (0, 0)) := by
    rw [hW1, Below.heap_alloc _ _ _ (by simp)]
    exact heap_alloc_new w _
  have hf1 : W1.heap[w.heap.size + 1]? = some (.cells #[.int .i64 e0, .int .i64 e1, .int .i64 e2, o2, a2, .int .i64 s.steps, .int .i64 s.checks, v2] 32 (0, 0)) := by
    rw [hW1]
    have := heap_alloc_new (w.alloc (.cells #[.int .i64 e0, .int .i64 e1, .int .i64 e2, o1, a1, .int .i64 s.steps, .int .i64 s.checks, v1] 32)) (.cells #[.int .i64 e0, .int .i64 e1, .int .i64 e2, o2, a2, .int .i64 s.steps, .int .i64 s.checks, v2] 32)
    simpa using this
  have HAL : Hid (Calls Tryz.prog 27 #[.agg #[.int .i64 e0, .int .i64 e1, .int .i64 e2, o1, a1, .int .i64 s.steps, .int .i64 s.checks, v1], .agg #[.int .i64 e0, .int .i64 e1, .int .i64 e2, o2, a2, .int .i64 s.steps, .int .i64 s.checks, v2]] W1 fun e w' => e = .returned (.bool true) ∧ Below W1.heap.size W1 w') :=
    hideI (alike_yes W1 B _ _ s s _ (H1.out.keeps (Keeps.of_below (hb1.mono hB))) (H2.out.keeps (Keeps.of_below (hb1.mono hB))) (by omega) rfl rfl)
  have HB1 := hideI hb1
  have HW1 := hideI hW1
  have HX : Hid (∀ W, Below W1.heap.size W1 W → (∀ o, W.cell? ⟨w.heap.size, o, none⟩ = _) ∧ ∀ o, W.cell? ⟨w.heap.size + 1, o, none⟩ = _) := hideI fun W hW => ⟨row_cells hf0 (hW.block _ (by omega)), row_cells hf1 (hW.block _ (by omega))⟩
  have q := HX.out W1 (Below.refl _ _)
  obtain ⟨qa, qb⟩ := q
  have a0 := qa 0
  have a1' := qa 1
  have a2' := qa 2
  have a3 := qa 3
  have a4 := qa 4
  have a5 := qa 5
  have a6 := qa 6
  have a7 := qa 7
  have b0 := qb 0
  have b1 := qb 1
  have b2 := qb 2
  have b3 := qb 3
  have b4 := qb 4
  have b5 := qb 5
  have b6 := qb 6
  have b7 := qb 7
  have hlt0 : w.heap.size < W1.heap.size := by omega
  have hlt1 : w.heap.size + 1 < W1.heap.size := by omega
  clear qa qb hb1 hs1 hf0 hf1 hW1 i1 i2
  go_enter Tryz.func9, Tryz.ntmps9
  go_upto_region 1 with fail
  rw [← HW1.out]
  go_wp2_with (first
    | (go_at_call 27; go_must (refine HAL.out.mono ?_); rintro e w1 ⟨rfl, hb⟩; have HB2 := hideI hb; clear a0 a1' a2' a3 a4 a5 a6 a7 b0 b1 b2 b3 b4 b5 b6 b7; have q := HX.out w1 hb; obtain ⟨qa, qb⟩ := q; have a5 := qa 5; have a6 := qa 6; have a7 := qa 7; have b5 := qb 5; have b6 := qb 6; have b7 := qb 7; clear qa qb hb)
    | (go_at_call 28; go_must (refine (HI.out _ (by exact Keeps.heap' ((Keeps.of_below (HB1.out.mono hB)).trans (Keeps.of_below (HB2.out.mono (by omega)))) rfl)).mono ?_); rintro e w1 ⟨rfl, m, rfl⟩))
  go_ret
  exact ⟨rfl, below_drewN (HB1.out.trans (HB2.out.mono (by omega))) _⟩

end Go.Proofs.YtncmnbchkabgaaaGreat
