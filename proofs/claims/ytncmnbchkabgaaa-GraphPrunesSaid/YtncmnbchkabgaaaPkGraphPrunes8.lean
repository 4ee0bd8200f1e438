/- What GraphPrunes rests on, part 8: SplitW, OwnC, RCopyB. -/
import Derived.Test.YtncmnbchkabgaaaPkGraphPrunes7
import Derived.Deep.QuietTactic

namespace Go.Proofs.Ytncmnbchkabgaaa
open Go.RowKit

def setEnds (f : FuncM) (k j : Nat) (mid : Int) : FuncM := { f with blocks := f.blocks.modify k (endM j mid) }

theorem modify_at {α : Type} (l : List α) (t k : Nat) (h : α → α) : (l.modify t h)[k]? = if k = t then l[k]?.map h else l[k]? := by
  rw [List.getElem?_modify]
  by_cases e : t = k
  · rw [if_pos e.symm]; simp [e]
  · rw [if_neg (fun h => e h.symm)]; simp [e]

section
variable {f : FuncM} {val : Vals} {k j : Nat} {q : BlockM} {mid : Int}

theorem setEnds_row (tag : Tag) (h1 : tag ≠ .ends k) : rowOf (setEnds f k j mid) val tag = rowOf f val tag := by
  have hb : ∀ n, (setEnds f k j mid).blocks[n]? = if n = k then f.blocks[n]?.map (endM j mid) else f.blocks[n]? := fun n => modify_at _ _ _ _
  cases tag with
  | params => rfl
  | blocks =>
    show some _ = some _
    congr 2
    · show (f.blocks.modify k _).length = _
      rw [List.length_modify]
    · refine cellsOf_zip _ _ 0 (by show (f.blocks.modify k _).length = _; rw [List.length_modify]) fun n a a' ha ha' => ?_
      rw [hb, ha'] at ha
      split at ha
      · simp only [Option.map_some, Option.some.injEq] at ha; subst ha; rfl
      · cases ha; rfl
  | phis n => simp only [rowOf]; rw [hb]; split <;> (cases f.blocks[n]? <;> rfl)
  | code n => simp only [rowOf]; rw [hb]; split <;> (cases f.blocks[n]? <;> rfl)
  | ends n =>
    simp only [rowOf]
    rw [hb, if_neg (fun e => h1 (by rw [e]))]
  | args n m => simp only [rowOf]; rw [hb]; split <;> (cases f.blocks[n]? <;> rfl)
  | fr n m => simp only [rowOf]; rw [hb]; split <;> (cases f.blocks[n]? <;> rfl)
  | vals n m => simp only [rowOf]; rw [hb]; split <;> (cases f.blocks[n]? <;> rfl)

theorem setEnds_ends (hq : f.blocks[k]? = some q) : rowOf (setEnds f k j mid) val (.ends k) = some (intsRow (q.term.to.set j mid)) := by
  simp only [rowOf]
  rw [show (setEnds f k j mid).blocks[k]? = _ from modify_at _ _ _ _, if_pos rfl, hq]
  rfl

theorem setEnds_ti (hq : f.blocks[k]? = some q) (tag : Tag) : TI (setEnds f k j mid) tag ↔ TI f tag := by
  by_cases h : tag = .ends k
  · subst h
    exact ⟨fun _ => TI.of (val := fun _ => .bool false) (row_ends hq), fun _ => TI.of (val := fun _ => .bool false) (setEnds_ends hq)⟩
  · unfold TI
    rw [setEnds_row tag h]

/-- the end goes elsewhere -/
theorem Owned.setEnds {w : World} {base g cap : Nat} (ho : Owned w base f val) (hq : f.blocks[k]? = some q) (hv : val (.ends k) = .slice (some ⟨g, 0, none⟩) q.term.to.length cap) :
    Owned (w.setCell ⟨g, j, none⟩ (.int .i64 mid)) base (setEnds f k j mid) val := by
  have tiE : TI f (.ends k) := TI.of (val := val) (row_ends hq)
  have o := OwnG.set (j := j) (u := .int .i64 mid) ho tiE (row_ends hq) hv rfl
  refine o.congr (fun tag _ => ?_) (fun _ _ => rfl) (fun tag ht => (setEnds_ti hq tag).1 ht)
  by_cases h : tag = .ends k
  · subst h
    rw [upd_same, setEnds_ends hq]
    unfold intsRow
    simp only [List.length_set, List.map_set]
  · rw [upd_ne _ _ h, setEnds_row tag h]
end

def phisTo (j : Nat) (from_ mid : Int) (stays : Bool) (b : BlockM) : BlockM := { b with phis := (b.phis.take j).map (comeM from_ mid stays) ++ b.phis.drop j }
def comeTo (f : FuncM) (t j : Nat) (from_ mid : Int) (stays : Bool) : FuncM := { f with blocks := f.blocks.modify t (phisTo j from_ mid stays) }

section
variable {f : FuncM} {t j : Nat} {from_ mid : Int} {stays : Bool} {q : BlockM} {p : PhiM}

theorem modify_id {α : Type} {l : List α} {t : Nat} {h : α → α} (e : ∀ a, l[t]? = some a → h a = a) : l.modify t h = l := by
  apply List.ext_getElem?
  intro k
  rw [modify_at]
  split
  · rename_i e2
    subst e2
    cases hk : l[k]? with
    | none => rfl
    | some a => rw [Option.map_some, e a hk]
  · rfl

theorem comeTo_zero : comeTo f t 0 from_ mid stays = f := by
  unfold comeTo
  rw [modify_id]
  intro a _
  unfold phisTo
  simp

theorem comeTo_block (hq : f.blocks[t]? = some q) : (comeTo f t j from_ mid stays).blocks[t]? = some (phisTo j from_ mid stays q) := by
  rw [show (comeTo f t j from_ mid stays).blocks[t]? = _ from modify_at _ _ _ _, if_pos rfl, hq]
  rfl

theorem phisTo_len : (phisTo j from_ mid stays q).phis.length = q.phis.length := by
  unfold phisTo
  simp
  omega

theorem phisTo_at (hp : q.phis[j]? = some p) : (phisTo j from_ mid stays q).phis[j]? = some p := by
  unfold phisTo
  have hj := (List.getElem?_eq_some_iff.1 hp).1
  rw [List.getElem?_append_right (by simp; omega)]
  simp only [List.length_map, List.length_take, List.getElem?_drop]
  rw [show j + (j - min j q.phis.length) = j by omega]
  exact hp

theorem comeTo_next (hq : f.blocks[t]? = some q) (hp : q.phis[j]? = some p) : setPhi (comeTo f t j from_ mid stays) t j (comeM from_ mid stays p) = comeTo f t (j + 1) from_ mid stays := by
  have hj := (List.getElem?_eq_some_iff.1 hp).1
  unfold setPhi comeTo
  congr 1
  apply List.ext_getElem?
  intro k
  rw [modify_at, modify_at, modify_at]
  by_cases e : k = t
  · rw [if_pos e, if_pos e, if_pos e]
    subst e
    rw [hq]
    simp only [Option.map_some, Option.some.injEq]
    unfold putPhi phisTo
    simp only
    congr 1
    rw [List.set_append_right _ _ (by simp; omega)]
    simp only [List.length_map, List.length_take]
    rw [show j - min j q.phis.length = 0 by omega, List.take_add_one, hp, List.drop_eq_getElem_cons hj]
    simp [(List.getElem?_eq_some_iff.1 hp).2]
  · rw [if_neg e, if_neg e, if_neg e]

theorem comeTo_all (hq : f.blocks[t]? = some q) : (comeTo f t q.phis.length from_ mid stays).blocks = f.blocks.modify t (phisM from_ mid stays) := by
  apply List.ext_getElem?
  intro k
  rw [show (comeTo f t q.phis.length from_ mid stays).blocks[k]? = _ from modify_at _ _ _ _, modify_at]
  split
  · rename_i e
    subst e
    rw [hq]
    simp only [Option.map_some, Option.some.injEq]
    unfold phisTo phisM
    simp
  · rfl
end

/-- one more block -/
def addBlock (f : FuncM) (tt : Int) : FuncM := { f with blocks := f.blocks ++ [⟨[], [], ⟨1, -1, [tt], 0⟩⟩] }

section
variable {f : FuncM} {val : Vals} {tt : Int}

theorem addBlock_at (k : Nat) : (addBlock f tt).blocks[k]? = if k = f.blocks.length then some ⟨[], [], ⟨1, -1, [tt], 0⟩⟩ else f.blocks[k]? := by
  show (f.blocks ++ _)[k]? = _
  by_cases h : k < f.blocks.length
  · rw [List.getElem?_append_left h, if_neg (by omega)]
  · rw [List.getElem?_append_right (by omega)]
    by_cases e : k = f.blocks.length
    · subst e; simp
    · rw [if_neg e, List.getElem?_eq_none (by simp; omega), List.getElem?_eq_none (by omega)]

/-- the rows that another block leaves -/
theorem addBlock_row {val2 : Vals} {tag : Tag} (ht : TI f tag) (hb : tag ≠ .blocks) (hv : ∀ t, t ≠ .blocks → t ≠ .phis f.blocks.length → t ≠ .code f.blocks.length → t ≠ .ends f.blocks.length → val2 t = val t) : rowOf (addBlock f tt) val2 tag = rowOf f val tag := by
  have key : ∀ k, f.blocks[k]?.isSome = true → (addBlock f tt).blocks[k]? = f.blocks[k]? := fun k hk => by
    rw [addBlock_at, if_neg]
    intro e
    rw [e, List.getElem?_eq_none (Nat.le_refl _)] at hk
    cases hk
  have hs : ∀ k, blkOf tag = some k → f.blocks[k]?.isSome = true := fun k hk => by
    unfold TI at ht
    cases hf : f.blocks[k]? with
    | some b => rfl
    | none => cases tag <;> simp [blkOf] at hk <;> subst hk <;> simp [rowOf, hf] at ht
  cases tag with
  | params => rfl
  | blocks => exact absurd rfl hb
  | phis k =>
    simp only [rowOf]
    rw [key k (hs k rfl)]
    refine congrArg (fun F => Option.map F f.blocks[k]?) (funext fun b => ?_)
    congr 1
    refine cellsOf_congr _ 0 fun i a _ => ?_
    unfold phiCells
    rw [hv _ (by simp) (by simp) (by simp) (by simp), hv _ (by simp) (by simp) (by simp) (by simp)]
  | code k =>
    simp only [rowOf]
    rw [key k (hs k rfl)]
    refine congrArg (fun F => Option.map F f.blocks[k]?) (funext fun b => ?_)
    congr 1
    refine cellsOf_congr _ 0 fun i a _ => ?_
    unfold instrCells
    rw [hv _ (by simp) (by simp) (by simp) (by simp)]
  | ends k => simp only [rowOf]; rw [key k (hs k rfl)]
  | fr k i => simp only [rowOf]; rw [key k (hs k rfl)]
  | vals k i => simp only [rowOf]; rw [key k (hs k rfl)]
  | args k i => simp only [rowOf]; rw [key k (hs k rfl)]

theorem addBlock_ti {tag : Tag} (h : TI (addBlock f tt) tag) : TI f tag ∨ tag = .phis f.blocks.length ∨ tag = .code f.blocks.length ∨ tag = .ends f.blocks.length := by
  unfold TI at *
  cases tag with
  | params => exact .inl rfl
  | blocks => exact .inl rfl
  | phis k =>
    by_cases e : k = f.blocks.length
    · exact .inr (.inl (by rw [e]))
    · simp only [rowOf] at h ⊢; rw [addBlock_at, if_neg e] at h; exact .inl h
  | code k =>
    by_cases e : k = f.blocks.length
    · exact .inr (.inr (.inl (by rw [e])))
    · simp only [rowOf] at h ⊢; rw [addBlock_at, if_neg e] at h; exact .inl h
  | ends k =>
    by_cases e : k = f.blocks.length
    · exact .inr (.inr (.inr (by rw [e])))
    · simp only [rowOf] at h ⊢; rw [addBlock_at, if_neg e] at h; exact .inl h
  | fr k i =>
    by_cases e : k = f.blocks.length
    · simp only [rowOf] at h; rw [addBlock_at, if_pos e] at h; simp at h
    · simp only [rowOf] at h ⊢; rw [addBlock_at, if_neg e] at h; exact .inl h
  | vals k i =>
    by_cases e : k = f.blocks.length
    · simp only [rowOf] at h; rw [addBlock_at, if_pos e] at h; simp at h
    · simp only [rowOf] at h ⊢; rw [addBlock_at, if_neg e] at h; exact .inl h
  | args k i =>
    by_cases e : k = f.blocks.length
    · simp only [rowOf] at h; rw [addBlock_at, if_pos e] at h; simp at h
    · simp only [rowOf] at h ⊢; rw [addBlock_at, if_neg e] at h; exact .inl h

theorem cellsOf_push {α : Type} {g g' : Nat → α → List Value} : ∀ (l : List α) (i : Nat) (a : α), (∀ k b, l[k]? = some b → g (i + k) b = g' (i + k) b) → cellsOf g i (l ++ [a]) = cellsOf g' i l ++ g (i + l.length) a := by
  intro l
  induction l with
  | nil => intro i a _; simp [cellsOf]
  | cons b l ih =>
    intro i a h
    rw [List.cons_append, cellsOf, cellsOf, ih (i + 1) a (fun k c hc => by have := h (k + 1) c (by simpa using hc); rwa [show i + (k + 1) = i + 1 + k by omega] at this)]
    rw [show g i b = g' i b from by simpa using h 0 b rfl, List.length_cons, List.append_assoc, show i + 1 + l.length = i + (l.length + 1) by omega]
end

/-- a row that grows -/
theorem OwnG.grow {w w1 : World} {base : Nat} {row : Rows} {val : Vals} {D : Tag → Prop} {t0 : Tag} {d : RowD} {v : Value} {g1 : Nat} (h : OwnG w base row val D) (ht0 : D t0) (hown : w1.ownsRow base d.elem d.size v d.len d.cells) (hg : w.grownBy w1 (val t0).ownBlock)
    (hv : v.ownBlock = some g1) (hor : (val t0).ownBlock = some g1 ∨ g1 = w.heap.size) : OwnG w1 base (upd row t0 (some d)) (upd val t0 v) D := by
  refine ⟨fun t ht => ?_, fun t d' ht hd => ?_, fun t t' g ht ht' e1 e2 => ?_⟩
  · by_cases e : t = t0
    · subst e; rw [upd_same]; rfl
    · rw [upd_ne _ _ e]; exact h.has t ht
  · by_cases e : t = t0
    · subst e; rw [upd_same] at hd ⊢; cases hd; exact hown
    · rw [upd_ne _ _ e] at hd ⊢
      cases ho : (val t).ownBlock with
      | none => exact (h.rows t d' ht hd).kept hg (.inl ho)
      | some b => exact (h.rows t d' ht hd).kept hg (.inr fun e2 => e (h.apart t t0 b ht ht0 ho (e2.symm.trans ho)))
  · by_cases e : t = t0
    · by_cases e' : t' = t0
      · rw [e, e']
      · subst e
        rw [upd_same, hv] at e1
        rw [upd_ne _ _ e'] at e2
        cases e1
        rcases hor with h1 | h1
        · exact h.apart t t' _ ht0 ht' h1 e2
        · have := (h.lt ht' e2).2; omega
    · by_cases e' : t' = t0
      · subst e'
        rw [upd_same, hv] at e2
        rw [upd_ne _ _ e] at e1
        cases e2
        rcases hor with h1 | h1
        · exact h.apart t t' _ ht ht0 e1 h1
        · have := (h.lt ht e1).2; omega
      · rw [upd_ne _ _ e] at e1
        rw [upd_ne _ _ e'] at e2
        exact h.apart t t' g ht ht' e1 e2

/-- another block: its list of ends is new, its other lists are nothing, the list of blocks has grown -/
theorem Owned.addBlock {W W1 W2 W3 : World} {base g1 d1 ga : Nat} {f : FuncM} {val : Vals} {tt : Int} (ho : Owned W base f val) (hb : base ≤ W.heap.size) (hb1 : Below W.heap.size W W1) (hga : W1.ownsRow W.heap.size 3 1 (.slice (some ⟨ga, 0, none⟩) 1 1) 1 [.int .i64 tt])
    (hb2 : Below W1.heap.size W1 W2) (hown : W3.ownsRow base 46 6 (.slice (some ⟨g1, 0, none⟩) (f.blocks.length + 1) d1) (f.blocks.length + 1) (cellsOf (blockCells val) 0 f.blocks ++ [.slice none 0 0, .slice none 0 0, .int .i64 1, .int .i64 (-1), .slice (some ⟨ga, 0, none⟩) 1 1, .int .i64 0]))
    (hg : W2.grownBy W3 (val .blocks).ownBlock) (hor : (val .blocks).ownBlock = some g1 ∨ g1 = W2.heap.size) :
    Owned W3 base (addBlock f tt) (upd (upd (upd (upd val (.ends f.blocks.length) (.slice (some ⟨ga, 0, none⟩) 1 1)) (.phis f.blocks.length) (.slice none 0 0)) (.code f.blocks.length) (.slice none 0 0)) .blocks (.slice (some ⟨g1, 0, none⟩) (f.blocks.length + 1) d1)) := by
  have nE : ¬ TI f (.ends f.blocks.length) := by unfold TI; simp [rowOf]
  have nP : ¬ TI f (.phis f.blocks.length) := by unfold TI; simp [rowOf]
  have nC : ¬ TI f (.code f.blocks.length) := by unfold TI; simp [rowOf]
  have tB : TI f .blocks := rfl
  have o1 := OwnG.add (t0 := .ends f.blocks.length) (d := intsRow [tt]) (v := .slice (some ⟨ga, 0, none⟩) 1 1) ho nE hb1 hga hb
  have hb1' := hb1.size
  have o2 := OwnG.add (t0 := .phis f.blocks.length) (d := ⟨49, 4, 0, []⟩) (v := .slice none 0 0) o1 (by simp [nP]) (Below.refl _ _) (World.ownsRow_nil _ _ _ _) (by omega)
  have o3 := OwnG.add (t0 := .code f.blocks.length) (d := ⟨53, 4, 0, []⟩) (v := .slice none 0 0) o2 (by simp [nC]) (Below.refl _ _) (World.ownsRow_nil _ _ _ _) (by omega)
  have o4 := o3.below hb2
  have hvb : upd (upd (upd val (.ends f.blocks.length) (.slice (some ⟨ga, 0, none⟩) 1 1)) (.phis f.blocks.length) (.slice none 0 0)) (.code f.blocks.length) (.slice none 0 0) .blocks = val .blocks := by
    rw [upd_ne _ _ (by simp), upd_ne _ _ (by simp), upd_ne _ _ (by simp)]
  have o5 := o4.grow (t0 := .blocks) (d := ⟨46, 6, f.blocks.length + 1, cellsOf (blockCells val) 0 f.blocks ++ [.slice none 0 0, .slice none 0 0, .int .i64 1, .int .i64 (-1), .slice (some ⟨ga, 0, none⟩) 1 1, .int .i64 0]⟩)
    (.inl (.inl (.inl tB))) hown (by rw [hvb]; exact hg) (g1 := g1) rfl (by rw [hvb]; exact hor)
  have hval : ∀ t, t ≠ .blocks → t ≠ .phis f.blocks.length → t ≠ .code f.blocks.length → t ≠ .ends f.blocks.length → upd (upd (upd (upd val (.ends f.blocks.length) (.slice (some ⟨ga, 0, none⟩) 1 1)) (.phis f.blocks.length) (.slice none 0 0)) (.code f.blocks.length) (.slice none 0 0)) .blocks (.slice (some ⟨g1, 0, none⟩) (f.blocks.length + 1) d1) t = val t := fun t h1 h2 h3 h4 => by
    rw [upd_ne _ _ h1, upd_ne _ _ h3, upd_ne _ _ h2, upd_ne _ _ h4]
  refine o5.congr (fun tag ht => ?_) (fun _ _ => rfl) (fun tag ht => ?_)
  · by_cases hB : tag = .blocks
    · subst hB
      rw [upd_same]
      show some _ = some _
      congr 2
      · show (f.blocks ++ _).length = _
        simp
      · show cellsOf _ 0 (f.blocks ++ _) = _
        rw [cellsOf_push (g' := blockCells val) _ _ _ (fun k b hk => ?_)]
        · rw [Nat.zero_add]
          congr 1
          unfold blockCells
          rw [upd_ne _ _ (by simp), upd_ne _ _ (by simp), upd_same, upd_ne _ _ (by simp), upd_same, upd_ne _ _ (by simp), upd_ne _ _ (by simp), upd_ne _ _ (by simp), upd_same]
        · have hk := (List.getElem?_eq_some_iff.1 hk).1
          rw [Nat.zero_add]
          unfold blockCells
          rw [hval _ (by simp) (by simp; omega) (by simp) (by simp), hval _ (by simp) (by simp) (by simp; omega) (by simp), hval _ (by simp) (by simp) (by simp) (by simp; omega)]
    · rw [upd_ne _ _ hB]
      rcases addBlock_ti ht with h | h | h | h
      · rw [addBlock_row h hB hval]
        rw [upd_ne _ _ (show tag ≠ .code f.blocks.length from fun e => nC (e ▸ h)), upd_ne _ _ (show tag ≠ .phis f.blocks.length from fun e => nP (e ▸ h)), upd_ne _ _ (show tag ≠ .ends f.blocks.length from fun e => nE (e ▸ h))]
      · subst h
        rw [upd_ne _ _ (by simp), upd_same]
        simp [rowOf, addBlock_at, cellsOf]
      · subst h
        rw [upd_same]
        simp [rowOf, addBlock_at, cellsOf]
      · subst h
        rw [upd_ne _ _ (by simp), upd_ne _ _ (by simp), upd_same]
        simp [rowOf, addBlock_at]
  · rcases addBlock_ti ht with h | h | h | h
    · exact .inl (.inl (.inl h))
    · exact .inl (.inr h)
    · exact .inr h
    · exact .inl (.inl (.inr h))

end Go.Proofs.Ytncmnbchkabgaaa

namespace Go.Proofs.Ytncmnbchkabgaaa
open Go.RowKit

structure SplSt (fE : FuncM) (val : Vals) (base N t : Nat) (from_ mid : Int) (stays : Bool) (w : World) (n : Nat) (wr : World) (v : Vals) : Prop where
  own : Owned wr base (comeTo fE t n from_ mid stays) v
  par : v .params = val .params
  blk : v .blocks = val .blocks
  phs : v (.phis t) = val (.phis t)
  apart : ∀ tag, TI fE tag → (v tag).ownBlock ≠ some N
  box : wr.heap[N]? = some (.cells #[val .params, .int .i64 fE.arrays, .int .i64 fE.cells, val .blocks] 37 (0, 0))
  apart2 : ∀ tag, TI fE tag → (v tag).ownBlock ≠ some (N + 1)
  res : wr.heap[N + 1]? = some (.cells #[.slice none 0 0, .int .i64 0, .int .i64 0, .slice none 0 0] 25 (0, 0))
  low : Below base w wr

theorem comeTo_ti {f : FuncM} {t j : Nat} {from_ mid : Int} {stays : Bool} (tag : Tag) : TI (comeTo f t j from_ mid stays) tag ↔ TI f tag := by
  have hb : ∀ k, (comeTo f t j from_ mid stays).blocks[k]? = if k = t then f.blocks[k]?.map (phisTo j from_ mid stays) else f.blocks[k]? := fun k => modify_at _ _ _ _
  have hl : ∀ b : BlockM, ∀ i, ((phisTo j from_ mid stays b).phis[i]?).isSome = (b.phis[i]?).isSome := fun b i => by
    have := phisTo_len (j := j) (from_ := from_) (mid := mid) (stays := stays) (q := b)
    by_cases hi : i < b.phis.length
    · rw [List.getElem?_eq_getElem hi, List.getElem?_eq_getElem (by omega)]; rfl
    · rw [List.getElem?_eq_none (by omega), List.getElem?_eq_none (by omega)]
  unfold TI
  cases tag with
  | params => rfl
  | blocks => rfl
  | phis k => simp only [rowOf]; rw [hb]; split <;> simp
  | code k => simp only [rowOf]; rw [hb]; split <;> simp
  | ends k => simp only [rowOf]; rw [hb]; split <;> simp
  | fr k i =>
    simp only [rowOf]
    rw [hb]
    split
    · cases f.blocks[k]? with
      | none => rfl
      | some b => simp only [Option.map_some, Option.bind_some, Option.isSome_map]; rw [hl]
    · rfl
  | vals k i =>
    simp only [rowOf]
    rw [hb]
    split
    · cases f.blocks[k]? with
      | none => rfl
      | some b => simp only [Option.map_some, Option.bind_some, Option.isSome_map]; rw [hl]
    · rfl
  | args k i =>
    simp only [rowOf]
    rw [hb]
    split
    · cases f.blocks[k]? with
      | none => rfl
      | some b => rfl
    · rfl

section
variable {fE : FuncM} {val : Vals} {base N t : Nat} {from_ mid : Int} {stays : Bool} {w wr : World} {n : Nat} {v : Vals} {qE : BlockM} {p : PhiM}

/-- what a round reads -/
theorem SplSt.reads {gb bc : Nat} (h : SplSt fE val base N t from_ mid stays w n wr v) (hq : fE.blocks[t]? = some qE) (hvB : val .blocks = .slice (some ⟨gb, 0, none⟩) fE.blocks.length bc) :
    wr.cell? ⟨gb, t * 6, none⟩ = some (val (.phis t)) ∧ wr.cell? ⟨N, 3, none⟩ = some (val .blocks) := by
  have htl := (List.getElem?_eq_some_iff.1 hq).1
  have hl : (comeTo fE t n from_ mid stays).blocks.length = fE.blocks.length := by show (fE.blocks.modify _ _).length = _; rw [List.length_modify]
  have tiB : TI (comeTo fE t n from_ mid stays) .blocks := rfl
  have hc := (h.own.cell (tp := .blocks) (j := t * 6 + 0) tiB rfl (h.blk.trans hvB) hl (by show _ < fE.blocks.length * 6; omega)).1
  have h2 := cellsOf_at (blockCells_len v) (comeTo fE t n from_ mid stays).blocks 0 t 0 _ (comeTo_block hq) (by omega)
  rw [Nat.zero_add] at h2
  refine ⟨hc.trans (h2.trans (by show some (v (.phis t)) = _; rw [h.phs])), ?_⟩
  exact (row_cells h.box rfl 3).trans rfl

theorem SplSt.next {w' : World} {e : Ending} (h : SplSt fE val base N t from_ mid stays w n wr v) (hq : fE.blocks[t]? = some qE) (hp : qE.phis[n]? = some p) (hN : N + 1 < wr.heap.size) (_hb : base ≤ N)
    (hc : ComePost (comeTo fE t n from_ mid stays) v t n (comeM from_ mid stays p) base wr e w') : e = .returned (.tuple #[]) ∧ ∃ v', SplSt fE val base N t from_ mid stays w (n + 1) w' v' := by
  obtain ⟨v', rfl, hown, hsame, hap, hkeep, hlow⟩ := hc
  rw [comeTo_next hq hp] at hown
  refine ⟨rfl, v', hown, (hsame _ (by simp) (by simp)).trans h.par, (hsame _ (by simp) (by simp)).trans h.blk, (hsame _ (by simp) (by simp)).trans h.phs, fun tag ht e => ?_, ?_, fun tag ht e => ?_, ?_, h.low.trans hlow⟩
  · rcases hap tag N ((comeTo_ti tag).2 ht) e with h2 | h2
    · exact h.apart tag ht h2
    · omega
  · rw [hkeep N (by omega) fun tag ht => h.apart tag ((comeTo_ti tag).1 ht)]
    exact h.box
  · rcases hap tag (N + 1) ((comeTo_ti tag).2 ht) e with h2 | h2
    · exact h.apart2 tag ht h2
    · omega
  · rw [hkeep (N + 1) hN fun tag ht => h.apart2 tag ((comeTo_ti tag).1 ht)]
    exact h.res
end

theorem look_512 {f : FuncM} (h : (lookM f).1 = 0) : f.blocks.length ≤ 512 := by
  have hf := look_formed h
  unfold formedM at hf
  split at hf
  · rename_i hl
    simp only [Bool.and_eq_true] at hl
    have h1 := hl.1.1
    unfold limitsB withinB at h1
    simp only [Bool.and_eq_true, decide_eq_true_eq] at h1
    omega
  · cases hf

theorem block_new' (w : World) (o : Obj) (cs : List Value) (t : TypeId) : ∀ (j : Nat) (u : Value), cs[j]? = some u → ((w.alloc o).alloc (.cells cs.toArray t)).cell? ((⟨w.heap.size + 1, 0, none⟩ : Addr).add j) = some u := by
  intro j u hu
  have h := heap_alloc_new (w.alloc o) (.cells cs.toArray t)
  simp only [World.size_alloc] at h
  rw [Go.WideShapes.add_plain, cell_of_row _ _ _ _ _ _ h, Nat.zero_add]
  simpa using hu

def KeepBut (w w' : World) (g : Nat) : Prop := w.heap.size ≤ w'.heap.size ∧ ∀ b, b < w.heap.size → b ≠ g → w'.heap[b]? = w.heap[b]?

theorem keepBut_of {w w3 : World} {o1 o2 : Obj} {g n c : Nat} (h : ((w.alloc o1).alloc o2).grownBy w3 (Value.slice (some ⟨g, 0, none⟩) n c).ownBlock) : KeepBut w w3 g := by
  have hs := h.size
  simp only [World.size_alloc] at hs
  refine ⟨by omega, fun b hb hne => ?_⟩
  rw [h.block b (by simp; omega) (fun e => hne (Option.some.inj e)), Below.heap_alloc _ _ _ (by simp; omega), Below.heap_alloc _ _ _ hb]

def SplitPost (f : FuncM) (i j base : Nat) (w : World) (e : Ending) (w' : World) : Prop :=
  ∃ v1 : Vals, e = .returned (.agg #[v1 .params, .int .i64 f.arrays, .int .i64 f.cells, v1 .blocks]) ∧ Owned w' base (splitM f i j) v1 ∧ Below base w w'

set_option maxRecDepth 100000 in
set_option maxHeartbeats 4000000 in
theorem split_any {f : FuncM} {val : Vals} {base : Nat} {w : World} {q0 : BlockM} (i j : Nat) (ho : Owned w base f val) (h0 : (lookM f).1 = 0) (hq0 : f.blocks[i]? = some q0) (hj : j < q0.term.to.length) (hb : base ≤ w.heap.size) :
    Calls Try.prog 23 #[.agg #[val .params, .int .i64 f.arrays, .int .i64 f.cells, val .blocks], .int .i64 i, .int .i64 j] w (SplitPost f i j base w) := by
  have hs := look_small h0
  have hi := (List.getElem?_eq_some_iff.1 hq0).1
  have hnb : f.blocks.length ≤ 100000 := hs.blocks
  obtain ⟨tz, htz⟩ : ∃ tz, q0.term.to[j]? = some tz := ⟨_, List.getElem?_eq_getElem hj⟩
  have hto : toOf f i j = tz := by unfold toOf; rw [hq0]; show (q0.term.to[j]?).getD 0 = tz; rw [htz]; rfl
  have hst : staysM f i j = decide (tz ∈ q0.term.to.set j (f.blocks.length : Int)) := by unfold staysM; rw [hq0, hto]
  obtain ⟨tn, htn, htl⟩ : ∃ tn : Nat, tz = tn ∧ tn < f.blocks.length := by
    have h1 := look_term h0 q0 (List.mem_of_getElem? hq0)
    unfold termB targetsB withinB at h1
    simp only [Bool.and_eq_true, List.all_eq_true, decide_eq_true_eq] at h1
    have h2 := h1.1 tz (List.mem_of_getElem? htz)
    exact ⟨tz.toNat, by omega, by omega⟩
  subst htn
  have tiB : TI f .blocks := rfl
  have tiE : TI f (.ends i) := TI.of (val := val) (row_ends hq0)
  obtain ⟨gb, bc, hvB, hgb1, hgb2⟩ := ho.slice (tp := .blocks) tiB rfl (by show 0 < f.blocks.length; omega)
  obtain ⟨ge, ec, hvE, hge1, hge2⟩ := ho.slice tiE (row_ends hq0) (by show 0 < q0.term.to.length; omega)
  have hvB' : val .blocks = .slice (some ⟨gb, 0, none⟩) f.blocks.length bc := hvB
  have hvE' : val (.ends i) = .slice (some ⟨ge, 0, none⟩) q0.term.to.length ec := hvE
  obtain ⟨PA, pc, hvP⟩ : ∃ PA pc, val .params = .slice PA f.params.length pc := by
    obtain ⟨A, c, h, _⟩ := row_read (ho.rows .params _ rfl rfl) hs.params
    exact ⟨A, c, h⟩
  have hbe : gb ≠ ge := fun e => by have := ho.apart .blocks (.ends i) gb tiB tiE (by rw [hvB]; rfl) (by rw [hvE, e]; rfl); cases this
  have hcB : ∀ k b r u, f.blocks[k]? = some b → r < 6 → (blockCells val k b)[r]? = some u → w.cell? ⟨gb, k * 6 + r, none⟩ = some u := fun k b r u hk hr hu => by
    have hkl := (List.getElem?_eq_some_iff.1 hk).1
    have := (ho.cell (tp := .blocks) tiB rfl hvB rfl (j := k * 6 + r) (by show _ < f.blocks.length * 6; omega)).1
    have h2 := cellsOf_at (blockCells_len val) f.blocks 0 k r b hk hr
    rw [Nat.zero_add] at h2
    exact this.trans (h2.trans hu)
  have hcE := ho.cell tiE (row_ends hq0) hvE rfl (j := j) (by show _ < q0.term.to.length * 1; omega)
  obtain ⟨W1, hW1⟩ : ∃ W1, W1 = (w.alloc (.cells #[.slice PA f.params.length pc, .int .i64 f.arrays, .int .i64 f.cells, .slice (some ⟨gb, 0, none⟩) f.blocks.length bc] 37)).alloc (.cells #[.slice none 0 0, .int .i64 0, .int .i64 0, .slice none 0 0] 25) := ⟨_, rfl⟩
  have hB1 : Below w.heap.size w W1 := by rw [hW1]; exact ((Below.refl _ w).alloc (Nat.le_refl _) _).alloc (by simp) _
  have hs1 : W1.heap.size = w.heap.size + 2 := by rw [hW1]; simp
  have hbox1 : W1.heap[w.heap.size]? = some (.cells #[.slice PA f.params.length pc, .int .i64 f.arrays, .int .i64 f.cells, .slice (some ⟨gb, 0, none⟩) f.blocks.length bc] 37 (0, 0)) := by
    rw [hW1, Below.heap_alloc _ _ _ (by simp)]
    exact heap_alloc_new w _
  have hres1 : W1.heap[w.heap.size + 1]? = some (.cells #[.slice none 0 0, .int .i64 0, .int .i64 0, .slice none 0 0] 25 (0, 0)) := by
    rw [hW1]
    have := heap_alloc_new (w.alloc (.cells #[.slice PA f.params.length pc, .int .i64 f.arrays, .int .i64 f.cells, .slice (some ⟨gb, 0, none⟩) f.blocks.length bc] 37)) (.cells #[.slice none 0 0, .int .i64 0, .int .i64 0, .slice none 0 0] 25)
    simpa using this
  have c4 : W1.cell? ⟨gb, i * 6 + 4, none⟩ = some (.slice (some ⟨ge, 0, none⟩) q0.term.to.length ec) := (World.cell?_of_block (a := ⟨gb, i * 6 + 4, none⟩) (hB1.block gb hgb2)).trans (hcB i q0 4 _ hq0 (by omega) (by show some (val (.ends i)) = _; rw [hvE']))
  have cE : W1.cell? ⟨ge, j, none⟩ = some (.int .i64 (tn : Int)) := (World.cell?_of_block (a := ⟨ge, j, none⟩) (hB1.block ge hge2)).trans (hcE.1.trans (by show (q0.term.to.map (Value.int .i64))[j]? = _; rw [List.getElem?_map, htz]; rfl))
  have fE0 : W1.frozen? ⟨ge, j, none⟩ = false := (World.frozen?_of_block (a := ⟨ge, j, none⟩) (hB1.block ge hge2)).trans hcE.2
  have hx1 := row_cells hbox1 rfl
  have b3 := hx1 3
  have HO := hideI ho
  have H0 := hideI h0
  have HQ0 := hideI hq0
  have HTZ := hideI htz
  have HTO := hideI hto
  have HST := hideI hst
  have HB1 := hideI hB1
  have HBOX1 := hideI hbox1
  have HS1 := hideI hs1
  have HRES1 := hideI hres1
  have HW1 := hideI hW1
  have HVP := hideI hvP
  have HVB := hideI hvB'
  have HVE := hideI hvE'
  have HCB := hideI hcB
  rw [hvP, hvB']
  clear ho h0 hq0 htz hto hst hB1 hbox1 hs1 hres1 hvP hvB hvB' hvE hvE' hcB hcE hx1 tiB tiE hs hW1
  go_enter Try.func23, Try.ntmps23
  go_upto_region 1 with fail
  rw [← HW1.out]
  go_wp2
  go_quiet (fail)
  have hEN : ge ≠ w.heap.size := by omega
  have HO2 : Hid (Owned ((W1.drewN nq).setCell ⟨ge, j, none⟩ (.int .i64 (f.blocks.length : Int))) base (setEnds f i j (f.blocks.length : Int)) val) := by
    have o1 : Owned W1 base f val := HO.out.below HB1.out
    have o2 : Owned (W1.drewN nq) base f val := o1.kept fun _ _ _ => rfl
    exact o2.setEnds HQ0.out HVE.out
  have HI2 : Hid (Ints ((W1.drewN nq).setCell ⟨ge, j, none⟩ (.int .i64 (f.blocks.length : Int))) (W1.drewN nq).heap.size (.slice (some ⟨ge, 0, none⟩) q0.term.to.length ec) (q0.term.to.set j (f.blocks.length : Int))) := by
    have h1 := HO2.out.rows (.ends i) _ ((setEnds_ti HQ0.out _).2 (TI.of (val := val) (row_ends HQ0.out))) (setEnds_ends HQ0.out)
    have h2 := (row_read h1 (by show (q0.term.to.set j _).length ≤ _; rw [List.length_set]; have := (look_small H0.out).each q0 (List.mem_of_getElem? HQ0.out); have := this.ends; omega)).ints
    rw [HVE.out] at h2
    exact hideI (by simpa using h2)
  have HBOX2 : Hid (((W1.drewN nq).setCell ⟨ge, j, none⟩ (.int .i64 (f.blocks.length : Int))).heap[w.heap.size]? = some (.cells #[.slice PA f.params.length pc, .int .i64 f.arrays, .int .i64 f.cells, .slice (some ⟨gb, 0, none⟩) f.blocks.length bc] 37 (0, 0))) := by
    rw [heap_setCell_other _ _ _ _ (by simpa using hEN.symm)]
    exact HBOX1.out
  have HRES2 : Hid (((W1.drewN nq).setCell ⟨ge, j, none⟩ (.int .i64 (f.blocks.length : Int))).heap[w.heap.size + 1]? = some (.cells #[.slice none 0 0, .int .i64 0, .int .i64 0, .slice none 0 0] 25 (0, 0))) := by
    rw [heap_setCell_other _ _ _ _ (by simp; omega)]
    exact HRES1.out
  have HL2 : Hid (Below base w ((W1.drewN nq).setCell ⟨ge, j, none⟩ (.int .i64 (f.blocks.length : Int)))) := by
    have h1 : Below base w (W1.drewN nq) := ⟨HB1.out.os, HB1.out.tape, HB1.out.output, HB1.out.size, fun b hb1 => HB1.out.block b (by omega)⟩
    exact h1.setCell hge1 _
  obtain ⟨W2, hW2⟩ : ∃ W2, W2 = (W1.drewN nq).setCell ⟨ge, j, none⟩ (.int .i64 (f.blocks.length : Int)) := ⟨_, rfl⟩
  rw [← hW2] at HO2 HI2 HBOX2 HRES2 HL2
  go_upto_region 4 with fail
  rw [← hW2]
  clear hW2
  have htlE : tn < (setEnds f i j (f.blocks.length : Int)).blocks.length := by show _ < (f.blocks.modify _ _).length; rw [List.length_modify]; exact htl
  have hphi : ∀ qE, (setEnds f i j (f.blocks.length : Int)).blocks[tn]? = some qE → ∀ p ∈ qE.phis, p.vals.length = p.fr.length ∧ p.fr.length ≤ 512 := by
    intro qE hqE p hp
    obtain ⟨q, hq⟩ : ∃ q, f.blocks[tn]? = some q := ⟨_, List.getElem?_eq_getElem htl⟩
    have hph : qE.phis = q.phis := by
      rw [show (setEnds f i j (f.blocks.length : Int)).blocks[tn]? = _ from modify_at _ _ _ _, hq] at hqE
      split at hqE
      · cases hqE; rfl
      · cases hqE; rfl
    rw [hph] at hp
    have h1 := (formed_all (look_formed H0.out)).1 q (List.mem_of_getElem? hq)
    have h2 := h1.1 p hp
    unfold phiB at h2
    simp only [Bool.and_eq_true, beq_iff_eq] at h2
    have h3 := once_len h2.2.2
    have h4 := look_512 H0.out
    omega
  obtain ⟨fE, hfE⟩ : ∃ fE, fE = setEnds f i j (f.blocks.length : Int) := ⟨_, rfl⟩
  rw [← hfE] at HO2 htlE hphi
  have hEl : fE.blocks.length = f.blocks.length := by rw [hfE]; show (f.blocks.modify _ _).length = _; rw [List.length_modify]
  have hEa : fE.arrays = f.arrays := by rw [hfE]; rfl
  have hEc : fE.cells = f.cells := by rw [hfE]; rfl
  obtain ⟨qE, hqE⟩ : ∃ qE, fE.blocks[tn]? = some qE := ⟨_, List.getElem?_eq_getElem htlE⟩
  have HPHI := hideI (hphi qE hqE)
  obtain ⟨st, hstE⟩ : ∃ st, st = decide ((tn : Int) ∈ q0.term.to.set j (f.blocks.length : Int)) := ⟨_, rfl⟩
  have HSTE := hideI hstE
  have HFE := hideI hfE
  have HQE := hideI hqE
  have HEL := hideI hEl
  have S0 : SplSt fE val base w.heap.size tn (i : Int) (f.blocks.length : Int) st w 0 W2 val := by
    refine ⟨by rw [comeTo_zero]; exact HO2.out, rfl, rfl, rfl, fun tag ht e => ?_, ?_, fun tag ht e => ?_, HRES2.out, HL2.out⟩
    · rw [hfE] at ht
      have := (HO.out.lt ((setEnds_ti HQ0.out tag).1 ht) e).2
      omega
    · rw [HVP.out, HVB.out, hEa, hEc]; exact HBOX2.out
    · rw [hfE] at ht
      have := (HO.out.lt ((setEnds_ti HQ0.out tag).1 ht) e).2
      omega
  have HS0 := hideI S0
  obtain ⟨L, hL⟩ : ∃ L, L = qE.phis.length := ⟨_, rfl⟩
  have HL := hideI hL
  have hLl : L ≤ 100000 := by
      rw [hL]
      obtain ⟨q, hq⟩ : ∃ q, f.blocks[tn]? = some q := ⟨_, List.getElem?_eq_getElem htl⟩
      have hph : qE.phis = q.phis := by
        rw [hfE, show (setEnds f i j (f.blocks.length : Int)).blocks[tn]? = _ from modify_at _ _ _ _, hq] at hqE
        split at hqE
        · cases hqE; rfl
        · cases hqE; rfl
      rw [hph]
      exact ((look_small H0.out).each q (List.mem_of_getElem? hq)).phis
  obtain ⟨PH, phc, hvH⟩ : ∃ PH phc, val (.phis tn) = .slice PH L phc := by
    obtain ⟨A, c, h, _⟩ := row_read (HO2.out.rows (.phis tn) _ (TI.of (val := val) (row_phis hqE)) (row_phis hqE)) (by show qE.phis.length ≤ 100000; omega)
    exact ⟨A, c, by rw [hL]; exact h⟩
  have HVH := hideI hvH
  have CC : Hid (Calls Try.prog 39 #[.slice (some ⟨ge, 0, none⟩) q0.term.to.length ec, .int .i64 (tn : Int)] W2 fun e w' => e = .returned (.bool st) ∧ W2 = w') := by
    have := contains_any _ _ _ (tn : Int) W2 HI2.out
    rw [← hstE] at this
    exact this
  obtain ⟨r1, r2⟩ := S0.reads hqE (by rw [HVB.out, hEl])
  rw [hvH] at r1
  rw [HVB.out] at r2
  clear hphi hstE hfE hqE hEl hEa hEc hL hvH S0 c4 cE fE0 b3 htlE
  go_wp2_with (go_at_call 39; go_must (refine CC.out.mono ?_); rintro e w2 ⟨rfl, rfl⟩)
  clear r1 r2
  go_loopw [43] (fun u wr => ∃ (n : Nat) (v : Vals), n ≤ L ∧ u = .int .i64 n ∧ Hid (SplSt fE val base w.heap.size tn (i : Int) (f.blocks.length : Int) st w n wr v)) (fun u _ => L - (intOf u).toNat)
  case atStart => exact ⟨0, val, Nat.zero_le _, rfl, HS0⟩
  case round =>
    obtain ⟨n, v, hn, rfl, HST1⟩ := hrel
    have hN : w.heap.size + 1 < wr.heap.size := (Array.getElem?_eq_some_iff.1 HST1.out.res).1
    obtain ⟨r1, r2⟩ := HST1.out.reads HQE.out (by rw [HVB.out, HEL.out])
    rw [HVB.out] at r2
    by_cases hlt : n < L
    · obtain ⟨p, hp⟩ : ∃ p, qE.phis[n]? = some p := ⟨_, List.getElem?_eq_getElem (by rw [← HL.out]; exact hlt)⟩
      obtain ⟨gp, cp, hvp, _, _⟩ := HST1.out.own.slice (tp := .phis tn) (TI.of (val := v) (row_phis (comeTo_block HQE.out))) (row_phis (comeTo_block HQE.out)) (by show 0 < (phisTo _ _ _ _ qE).phis.length; rw [phisTo_len, ← HL.out]; omega)
      have hvp' : v (.phis tn) = .slice (some ⟨gp, 0, none⟩) (phisTo n (i : Int) (f.blocks.length : Int) st qE).phis.length cp := hvp
      have hvp2 : val (.phis tn) = .slice (some ⟨gp, 0, none⟩) L cp := by rw [← HST1.out.phs, hvp', phisTo_len, ← HL.out]
      have CT := hideI (come_any (i : Int) (f.blocks.length : Int) st wr HST1.out.own (comeTo_block HQE.out) (phisTo_at hp) hvp' (HPHI.out p (List.mem_of_getElem? hp)).1 (HPHI.out p (List.mem_of_getElem? hp)).2 (by omega))
      have HP := hideI hp
      rw [hvp2] at r1
      clear hp hvp hvp' hvp2
      go_wp2_with (go_at_call 40; go_must (refine CT.out.mono ?_); rintro e w2 hc; obtain ⟨rfl, v', hs'⟩ := HST1.out.next HQE.out HP.out hN hb hc; have HS' := hideI hs'; clear hc hs')
      go_roundw
      case rel => exact ⟨n + 1, v', by omega, by go_num, HS'⟩
      case measure => simp [intOf]; omega
    · have hnL : n = L := by omega
      rw [hnL] at HST1
      clear hnL
      obtain ⟨i0, hix, hz0, hz1, hz2⟩ := info_parts block_info
      have hlC : (comeTo fE tn L (i : Int) (f.blocks.length : Int) st).blocks.length = f.blocks.length := by rw [← HEL.out]; show (fE.blocks.modify _ _).length = _; rw [List.length_modify]
      have HLC := hideI hlC
      have HOWNB : Hid (wr.ownsRow base 46 6 (.slice (some ⟨gb, 0, none⟩) f.blocks.length bc) f.blocks.length (cellsOf (blockCells v) 0 (comeTo fE tn L (i : Int) (f.blocks.length : Int) st).blocks)) := by
        have := HST1.out.own.rows .blocks _ rfl rfl
        rw [HST1.out.blk, HVB.out] at this
        have h2 : wr.ownsRow base 46 6 (.slice (some ⟨gb, 0, none⟩) f.blocks.length bc) (comeTo fE tn L (i : Int) (f.blocks.length : Int) st).blocks.length (cellsOf (blockCells v) 0 (comeTo fE tn L (i : Int) (f.blocks.length : Int) st).blocks) := this
        rw [hlC] at h2
        exact h2
      have hNb : w.heap.size ≠ gb := by omega
      have hNb2 : w.heap.size + 1 ≠ gb := by omega
      have HBX : Hid (∀ W3, KeepBut wr W3 gb → (∀ o, W3.cell? ⟨w.heap.size, o, none⟩ = (#[.slice PA f.params.length pc, .int .i64 f.arrays, .int .i64 f.cells, .slice (some ⟨gb, 0, none⟩) f.blocks.length bc] : Array Value)[o]?) ∧ (∀ o, W3.frozen? ⟨w.heap.size, o, none⟩ = false) ∧ (∀ o, W3.cell? ⟨w.heap.size + 1, o, none⟩ = (#[.slice none 0 0, .int .i64 0, .int .i64 0, .slice none 0 0] : Array Value)[o]?) ∧ (∀ o, W3.frozen? ⟨w.heap.size + 1, o, none⟩ = false)) := fun W3 h => by
        have h1 : W3.heap[w.heap.size]? = wr.heap[w.heap.size]? := h.2 _ (by omega) hNb
        have h2 : W3.heap[w.heap.size + 1]? = wr.heap[w.heap.size + 1]? := h.2 _ hN hNb2
        have hbx := HST1.out.box
        have hEa : fE.arrays = f.arrays := by rw [HFE.out]; rfl
        have hEc : fE.cells = f.cells := by rw [HFE.out]; rfl
        rw [HVP.out, HVB.out, hEa, hEc] at hbx
        exact ⟨row_cells hbx h1, free_row' hbx h1, row_cells HST1.out.res h2, free_row' HST1.out.res h2⟩
      clear hlC r1
      go_wp2_with (at_builtin; go_must (refine wpList_append_lies _ rfl _ _ _ rfl base 46 i0 _ 6 96 Try.underlying23 hix hz0 hz1 hz2 rfl (by decide) _ _ _ rfl ((HOWNB.out.alloc _).alloc _) ⟨wr.heap.size + 1, 0, none⟩ 1 1 [.slice none 0 0, .slice none 0 0, .int .i64 1, .int .i64 (-1), .slice (some ⟨wr.heap.size, 0, none⟩) 1 1, .int .i64 0] rfl rfl (block_new' wr _ _ _) (by simp [Value.oneCell']) (by decide) (by unfold maxLen; omega) (by omega) (by simp; omega) _ rfl ?_); intro g1 cap1 w3 hown3 hgrow3 hor3 _; have HKB := hideI (keepBut_of hgrow3); obtain ⟨q1, q2, q3, q4⟩ := HBX.out _ HKB.out; have b0 := q1 0; have b1 := q1 1; have b2 := q1 2; have f3 := q2 3; have s0 := q3 0; have s1 := q3 1; have s2 := q3 2; have s3 := q3 3; have g0 := q4 0; have g1' := q4 1; have g2 := q4 2; have g3 := q4 3; have b3 := q1 3; clear q1 q2 q3 q4 r2; have HG3 := hideI hgrow3; have HO3 := hideI hown3; clear hgrow3 hown3)
      have hC := HLC.out
      have hga : (wr.alloc (.cells #[.int .i64 (tn : Int)] 3)).ownsRow wr.heap.size 3 1 (.slice (some ⟨wr.heap.size, 0, none⟩) 1 1) 1 [.int .i64 (tn : Int)] :=
        ⟨rfl, .inr ⟨wr.heap.size, 1, #[.int .i64 (tn : Int)], rfl, Nat.le_refl _, heap_alloc_new wr _, Nat.le_refl _, by decide, rfl, rfl⟩⟩
      have HO4 := Owned.addBlock (W := wr) (W1 := wr.alloc (.cells #[.int .i64 (tn : Int)] 3)) (W2 := (wr.alloc (.cells #[.int .i64 (tn : Int)] 3)).alloc (.cells #[.slice none 0 0, .slice none 0 0, .int .i64 1, .int .i64 (-1), .slice (some ⟨wr.heap.size, 0, none⟩) 1 1, .int .i64 0] 46)) (W3 := w3) (tt := (tn : Int)) (ga := wr.heap.size) (g1 := g1) (d1 := cap1) HST1.out.own (by omega) ((Below.refl _ _).alloc (Nat.le_refl _) _) hga ((Below.refl _ _).alloc (Nat.le_refl _) _) (by rw [hC]; exact HO3.out) (by rw [HST1.out.blk, HVB.out]; exact HG3.out) (by rw [HST1.out.blk, HVB.out]; exact hor3)
      rw [hC] at HO4
      have hspl : addBlock (comeTo fE tn L (i : Int) (f.blocks.length : Int) st) (tn : Int) = splitM f i j := by
        have hb := comeTo_all (from_ := (i : Int)) (mid := (f.blocks.length : Int)) (stays := st) HQE.out
        unfold splitM addBlock
        rw [HL.out, hb, HTO.out, HST.out, ← HSTE.out, HFE.out]
        rfl
      rw [hspl] at HO4
      have hgN : g1 ≠ w.heap.size ∧ g1 ≠ w.heap.size + 1 := by
        rcases hor3 with h | h
        · have : gb = g1 := Option.some.inj h
          omega
        · simp only [World.size_alloc] at h
          omega
      have hno : ∀ X, X = w.heap.size ∨ X = w.heap.size + 1 → ∀ tag, TI (splitM f i j) tag → (upd (upd (upd (upd v (.ends f.blocks.length) (.slice (some ⟨wr.heap.size, 0, none⟩) 1 1)) (.phis f.blocks.length) (.slice none 0 0)) (.code f.blocks.length) (.slice none 0 0)) .blocks (.slice (some ⟨g1, 0, none⟩) (f.blocks.length + 1) cap1) tag).ownBlock ≠ some X := by
        intro X hX tag ht
        rw [← hspl] at ht
        by_cases h1 : tag = .blocks
        · subst h1
          rw [upd_same]
          intro e
          have : g1 = X := Option.some.inj e
          omega
        · rw [upd_ne _ _ h1]
          by_cases h2 : tag = .code f.blocks.length
          · subst h2; rw [upd_same]; intro e; cases e
          · rw [upd_ne _ _ h2]
            by_cases h3 : tag = .phis f.blocks.length
            · subst h3; rw [upd_same]; intro e; cases e
            · rw [upd_ne _ _ h3]
              by_cases h4 : tag = .ends f.blocks.length
              · subst h4; rw [upd_same]; intro e; have : wr.heap.size = X := Option.some.inj e; omega
              · rw [upd_ne _ _ h4]
                rcases addBlock_ti ht with h | h | h | h
                · rcases hX with rfl | rfl
                  · exact HST1.out.apart tag ((comeTo_ti tag).1 h)
                  · exact HST1.out.apart2 tag ((comeTo_ti tag).1 h)
                · rw [hC] at h; exact absurd h h3
                · rw [hC] at h; exact absurd h h2
                · rw [hC] at h; exact absurd h h4
      have hlow : Below base w w3 := HST1.out.low.trans ⟨HG3.out.os, HG3.out.tape, HG3.out.output, HKB.out.1, fun b hb1 => HKB.out.2 b (by omega) (by omega)⟩
      refine bodyPost_ret (v := .agg #[.slice PA f.params.length pc, .int .i64 f.arrays, .int .i64 f.cells, .slice (some ⟨g1, 0, none⟩) (f.blocks.length + 1) cap1]) (by simp [results, Try.results23, go_sem, s0, s1, s2, s3]) rfl ⟨upd (upd (upd (upd v (.ends f.blocks.length) (.slice (some ⟨wr.heap.size, 0, none⟩) 1 1)) (.phis f.blocks.length) (.slice none 0 0)) (.code f.blocks.length) (.slice none 0 0)) .blocks (.slice (some ⟨g1, 0, none⟩) (f.blocks.length + 1) cap1), ?_, ?_, ?_⟩
      · rw [upd_same, upd_ne _ _ (by simp), upd_ne _ _ (by simp), upd_ne _ _ (by simp), upd_ne _ _ (by simp), HST1.out.par, HVP.out]
      · exact ((((OwnG.other HO4 (hno _ (.inl rfl))).other (hno _ (.inr rfl))).other (hno _ (.inr rfl))).other (hno _ (.inr rfl))).other (hno _ (.inr rfl))
      · exact ((((hlow.setCell (by simpa using hb) _).setCell (by simp; omega) _).setCell (by simp; omega) _).setCell (by simp; omega) _).setCell (by simp; omega) _

end Go.Proofs.Ytncmnbchkabgaaa

namespace Go.Proofs.Ytncmnbchkabgaaa
open Go.RowKit

theorem owns_stay {w w' : World} {base : Nat} {e : TypeId} {size : Nat} {v : Value} {n : Nat} {xs : List Value} (h : w.ownsRow base e size v n xs) (hk : ∀ g, v.ownBlock = some g → w'.heap[g]? = w.heap[g]?) : w'.ownsRow base e size v n xs := by
  refine ⟨h.1, ?_⟩
  rcases h.2 with h2 | ⟨g, cap, cur, hv, hb, hg, r⟩
  · exact .inl h2
  · exact .inr ⟨g, cap, cur, hv, hb, (hk g (by rw [hv]; rfl)).trans hg, r⟩

theorem own_form {w : World} {base : Nat} {e : TypeId} {size : Nat} {v : Value} {n : Nat} {xs : List Value} (h : w.ownsRow base e size v n xs) : ∃ A cp, v = .slice A n cp := by
  rcases h.2 with ⟨e, e0⟩ | ⟨g, cap, cur, e, _⟩
  · exact ⟨none, 0, by rw [e, e0]⟩
  · exact ⟨_, _, e⟩

/-- a variable: its block, its cells, its type -/
abbrev VarD := Nat × Array Value × TypeId

structure OwnC (w0 w : World) (row : Rows) (val : Vals) (D : Tag → Prop) (bl : List VarD) : Prop where
  own : OwnG w w0.heap.size row val D
  cells : ∀ x ∈ bl, w.heap[x.1]? = some (.cells x.2.1 x.2.2 (0, 0)) ∧ w0.heap.size ≤ x.1
  off : ∀ x ∈ bl, ∀ t, D t → (val t).ownBlock ≠ some x.1
  dis : (bl.map (·.1)).Nodup
  below : Below w0.heap.size w0 w

section
variable {w0 w w1 : World} {row row' : Rows} {val val' : Vals} {D D' : Tag → Prop} {bl : List VarD}

theorem OwnC.nothing (w0 : World) (row : Rows) (val : Vals) : OwnC w0 w0 row val (fun _ => False) [] :=
  ⟨OwnG.nothing _ _ _ _, (fun _ h => by cases h), (fun _ h => by cases h), List.nodup_nil, Below.refl _ _⟩

theorem OwnC.lt (h : OwnC w0 w row val D bl) {x : VarD} (hx : x ∈ bl) : x.1 < w.heap.size := (Array.getElem?_eq_some_iff.1 (h.cells x hx).1).1

/-- a variable is made -/
theorem OwnC.make (h : OwnC w0 w row val D bl) (cs : Array Value) (T : TypeId) : OwnC w0 (w.alloc (.cells cs T)) row val D ((w.heap.size, cs, T) :: bl) := by
  have hb : Below w.heap.size w (w.alloc (.cells cs T)) := (Below.refl _ w).alloc (Nat.le_refl _) _
  refine ⟨h.own.below hb, fun x hx => ?_, fun x hx t ht he => ?_, ?_, h.below.alloc h.below.size _⟩
  · rcases List.mem_cons.1 hx with rfl | hx
    · exact ⟨heap_alloc_new w _, h.below.size⟩
    · obtain ⟨h1, h2⟩ := h.cells x hx
      exact ⟨(hb.block _ (h.lt hx)).trans h1, h2⟩
  · rcases List.mem_cons.1 hx with rfl | hx
    · have := (h.own.lt ht he).2
      exact absurd this (Nat.lt_irrefl _)
    · exact h.off x hx t ht he
  · rw [List.map_cons, List.nodup_cons]
    refine ⟨fun hm => ?_, h.dis⟩
    obtain ⟨x, hx, e⟩ := List.mem_map.1 hm
    have h1 := h.lt hx
    have e : x.1 = w.heap.size := e
    omega

/-- a callee, or a draw: nothing that was there is changed -/
theorem OwnC.grows (h : OwnC w0 w row val D bl) (hb : Below w.heap.size w w1) : OwnC w0 w1 row val D bl :=
  ⟨h.own.below hb, fun x hx => ⟨(hb.block _ (h.lt hx)).trans (h.cells x hx).1, (h.cells x hx).2⟩, h.off, h.dis, h.below.trans (hb.mono h.below.size)⟩

/-- fewer variables -/
theorem OwnC.drop {bl' : List VarD} (h : OwnC w0 w row val D bl) (hs : bl'.Sublist bl) : OwnC w0 w row val D bl' :=
  ⟨h.own, fun x hx => h.cells x (hs.subset hx), fun x hx => h.off x (hs.subset hx), (hs.map _).nodup h.dis, h.below⟩

/-- a variable is written -/
theorem OwnC.store {g j : Nat} {cs : Array Value} {T : TypeId} {r : List VarD} (h : OwnC w0 w row val D ((g, cs, T) :: r)) (u : Value) : OwnC w0 (w.setCell ⟨g, j, none⟩ u) row val D ((g, cs.setIfInBounds j u, T) :: r) := by
  obtain ⟨hg, hlo⟩ := h.cells _ (List.mem_cons_self ..)
  have hd := h.dis
  rw [List.map_cons, List.nodup_cons] at hd
  refine ⟨h.own.other fun t ht => h.off _ (List.mem_cons_self ..) t ht, fun x hx => ?_, fun x hx => ?_, h.dis, h.below.setCell (p := ⟨g, j, none⟩) hlo u⟩
  · rcases List.mem_cons.1 hx with rfl | hx
    · exact ⟨heap_setCell_same w g j _ _ u hg, hlo⟩
    · have hne : x.1 ≠ g := fun e => hd.1 (List.mem_map.2 ⟨x, hx, e⟩)
      exact ⟨(Below.heap_setCell _ _ _ _ hne).trans (h.cells x (List.mem_cons_of_mem _ hx)).1, (h.cells x (List.mem_cons_of_mem _ hx)).2⟩
  · rcases List.mem_cons.1 hx with rfl | hx
    · exact h.off (g, cs, T) (List.mem_cons_self ..)
    · exact h.off x (List.mem_cons_of_mem _ hx)

/-- the variables in another order -/
theorem OwnC.perm {bl' : List VarD} (h : OwnC w0 w row val D bl) (hp : bl'.Perm bl) : OwnC w0 w row val D bl' :=
  ⟨h.own, fun x hx => h.cells x (hp.mem_iff.1 hx), fun x hx => h.off x (hp.mem_iff.1 hx), ((hp.map _).nodup_iff).2 h.dis, h.below⟩

/-- a row comes, out of the block of an empty list -/
theorem OwnC.comes {g : Nat} {cs : Array Value} {T : TypeId} {r : List VarD} {t0 : Tag} {d : RowD} {v : Value} (h : OwnC w0 w row val D ((g, cs, T) :: r)) (hn : ¬ D t0) (hg : w.grownBy w1 (some g)) (hown : w1.ownsRow w0.heap.size d.elem d.size v d.len d.cells)
    (hv : ∀ k, v.ownBlock = some k → k = g ∨ k = w.heap.size) : OwnC w0 w1 (upd row t0 (some d)) (upd val t0 v) (fun t => D t ∨ t = t0) r := by
  obtain ⟨_, hlo⟩ := h.cells _ (List.mem_cons_self ..)
  have hd := h.dis
  rw [List.map_cons, List.nodup_cons] at hd
  have hkeep : ∀ t b, D t → (val t).ownBlock = some b → w1.heap[b]? = w.heap[b]? := fun t b ht hb => hg.block b (h.own.lt ht hb).2 fun e => h.off _ (List.mem_cons_self ..) t ht (by rw [hb, e])
  have hnew : ∀ t b, D t → (val t).ownBlock = some b → v.ownBlock ≠ some b := fun t b ht hb e => by
    rcases hv b e with h1 | h1
    · exact h.off _ (List.mem_cons_self ..) t ht (by rw [hb, h1])
    · have := (h.own.lt ht hb).2
      omega
  refine ⟨⟨fun t ht => ?_, fun t d' ht hd' => ?_, fun t t' b ht ht' e1 e2 => ?_⟩, fun x hx => ?_, fun x hx t ht e => ?_, hd.2, ?_⟩
  · by_cases e : t = t0
    · subst e; rw [upd_same]; rfl
    · rw [upd_ne _ _ e]; exact h.own.has t (ht.resolve_right e)
  · by_cases e : t = t0
    · subst e
      rw [upd_same] at hd' ⊢
      cases hd'
      exact hown
    · rw [upd_ne _ _ e] at hd' ⊢
      exact owns_stay (h.own.rows t d' (ht.resolve_right e) hd') fun b hb => hkeep t b (ht.resolve_right e) hb
  · by_cases e : t = t0
    · by_cases e' : t' = t0
      · rw [e, e']
      · subst e
        rw [upd_same] at e1
        rw [upd_ne _ _ e'] at e2
        exact absurd e1 (hnew t' b (ht'.resolve_right e') e2)
    · by_cases e' : t' = t0
      · subst e'
        rw [upd_same] at e2
        rw [upd_ne _ _ e] at e1
        exact absurd e2 (hnew t b (ht.resolve_right e) e1)
      · rw [upd_ne _ _ e] at e1
        rw [upd_ne _ _ e'] at e2
        exact h.own.apart t t' b (ht.resolve_right e) (ht'.resolve_right e') e1 e2
  · have hne : x.1 ≠ g := fun e => hd.1 (List.mem_map.2 ⟨x, hx, e⟩)
    have hx' := List.mem_cons_of_mem (g, cs, T) hx
    exact ⟨(hg.block x.1 (h.lt hx') fun e => hne (by simpa using e)).trans (h.cells x hx').1, (h.cells x hx').2⟩
  · have hne : x.1 ≠ g := fun e => hd.1 (List.mem_map.2 ⟨x, hx, e⟩)
    have hx' := List.mem_cons_of_mem (g, cs, T) hx
    by_cases e2 : t = t0
    · subst e2
      rw [upd_same] at e
      rcases hv x.1 e with h1 | h1
      · exact hne h1
      · have := h.lt hx'
        omega
    · rw [upd_ne _ _ e2] at e
      exact h.off x hx' t (ht.resolve_right e2) e
  · refine ⟨hg.os.trans h.below.os, hg.tape.trans h.below.tape, hg.output.trans h.below.output, Nat.le_trans h.below.size hg.size, fun k hk => ?_⟩
    exact (hg.block k (Nat.lt_of_lt_of_le hk h.below.size) fun e => by have e : k = g := (by simpa using e); have hlo : w0.heap.size ≤ g := hlo; omega).trans (h.below.block k hk)

/-- a row grows -/
theorem OwnC.grow {t0 : Tag} {d : RowD} {v : Value} {g1 : Nat} (h : OwnC w0 w row val D bl) (ht0 : D t0) (hown : w1.ownsRow w0.heap.size d.elem d.size v d.len d.cells) (hg : w.grownBy w1 (val t0).ownBlock)
    (hv : v.ownBlock = some g1) (hor : (val t0).ownBlock = some g1 ∨ g1 = w.heap.size) : OwnC w0 w1 (upd row t0 (some d)) (upd val t0 v) D bl := by
  refine ⟨h.own.grow ht0 hown hg hv hor, fun x hx => ?_, fun x hx t ht e => ?_, h.dis, ?_⟩
  · exact ⟨(hg.block x.1 (h.lt hx) fun e => h.off x hx t0 ht0 e.symm).trans (h.cells x hx).1, (h.cells x hx).2⟩
  · by_cases e2 : t = t0
    · subst e2
      rw [upd_same, hv] at e
      injection e with e
      rcases hor with h1 | h1
      · exact h.off x hx t ht0 (by rw [h1, e])
      · have := h.lt hx
        omega
    · rw [upd_ne _ _ e2] at e
      exact h.off x hx t ht e
  · refine ⟨hg.os.trans h.below.os, hg.tape.trans h.below.tape, hg.output.trans h.below.output, Nat.le_trans h.below.size hg.size, fun k hk => ?_⟩
    exact (hg.block k (Nat.lt_of_lt_of_le hk h.below.size) fun e => by have := (h.own.lt ht0 e.symm).1; omega).trans (h.below.block k hk)

theorem OwnC.congr (h : OwnC w0 w row val D bl) (hr : ∀ t, D' t → row' t = row t) (hv : ∀ t, D' t → val' t = val t) (hD : ∀ t, D' t → D t) : OwnC w0 w row' val' D' bl :=
  ⟨h.own.congr hr hv hD, h.cells, fun x hx t ht => by rw [hv t ht]; exact h.off x hx t (hD t ht), h.dis, h.below⟩
end
end Go.Proofs.Ytncmnbchkabgaaa

namespace Go.Proofs.Ytncmnbchkabgaaa
open Go.RowKit

/-- a block alone, so far as it was copied -/
def oneF (q : BlockM) (i j : Nat) : FuncM := ⟨[], 0, 0, [⟨q.phis.take i, q.code.take j, q.term⟩]⟩

def CbD (i j : Nat) : Tag → Prop
  | .params => False
  | .blocks => False
  | .phis k => k = 0
  | .code k => k = 0
  | .ends k => k = 0
  | .fr k a => k = 0 ∧ a < i
  | .vals k a => k = 0 ∧ a < i
  | .args k a => k = 0 ∧ a < j

structure SmallB (q : BlockM) : Prop where
  phis : q.phis.length ≤ 100000
  code : q.code.length ≤ 100000
  ends : q.term.to.length ≤ 100000
  fr : ∀ p ∈ q.phis, p.fr.length ≤ 100000 ∧ p.vals.length ≤ 100000
  args : ∀ x ∈ q.code, x.args.length ≤ 100000

/-- what CopyBlock answers -/
def CopyPost (q : BlockM) (w : World) (e : Ending) (w' : World) : Prop :=
  ∃ val : Vals, e = .returned (.agg #[val (.phis 0), val (.code 0), .int .i64 q.term.op, .int .i64 q.term.val, val (.ends 0), .int .i64 q.term.n]) ∧ OwnG w' w.heap.size (rowOf (oneF q q.phis.length q.code.length) val) val (CbD q.phis.length q.code.length) ∧ Below w.heap.size w w'

def outV (q : BlockM) (val : Vals) : Array Value := #[val (.phis 0), val (.code 0), .int .i64 q.term.op, .int .i64 q.term.val, val (.ends 0), .int .i64 q.term.n]

/-- how far the copy has come -/
def CbSt (q : BlockM) (w wx : World) (g3 gr gb : Nat) (bx rs : Array Value) (i j : Nat) (val : Vals) : Prop :=
  OwnC w wx (rowOf (oneF q i j) val) val (CbD i j) [(g3, outV q val, 46), (gr, rs, 46), (gb, bx, 46)]

theorem cb_first {q : BlockM} {w wx : World} {bl : List VarD} {val : Vals} {r : Rows} {v : Value} (h : OwnC w wx (upd r (.ends 0) (some (intsRow q.term.to))) (upd val (.ends 0) v) (fun t => False ∨ t = .ends 0) bl) :
    ∃ val', val' (.ends 0) = v ∧ val' (.phis 0) = .slice none 0 0 ∧ val' (.code 0) = .slice none 0 0 ∧ OwnC w wx (rowOf (oneF q 0 0) val') val' (CbD 0 0) bl := by
  refine ⟨fun t => if t = .ends 0 then v else .slice none 0 0, rfl, rfl, rfl, ?_⟩
  obtain ⟨⟨h1, h2, h3⟩, h4, h5, h6, h7⟩ := h
  have hv : ∀ t, CbD 0 0 t → t = .ends 0 ∨ t = .phis 0 ∨ t = .code 0 := fun t ht => by
    cases t <;> simp_all [CbD]
  refine ⟨⟨fun t ht => ?_, fun t d ht hd => ?_, fun t t' g ht ht' e1 e2 => ?_⟩, h4, fun x hx t ht => ?_, h6, h7⟩
  · rcases hv t ht with rfl | rfl | rfl <;> rfl
  · rcases hv t ht with rfl | rfl | rfl
    · have := h2 (.ends 0) (intsRow q.term.to) (.inr rfl) (upd_same _ _ _)
      rw [upd_same] at this
      cases hd
      exact this
    · cases hd
      exact World.ownsRow_nil _ _ _ _
    · cases hd
      exact World.ownsRow_nil _ _ _ _
  · rcases hv t ht with rfl | rfl | rfl
    · rcases hv t' ht' with rfl | rfl | rfl
      · rfl
      · cases e2
      · cases e2
    · cases e1
    · cases e1
  · rcases hv t ht with rfl | rfl | rfl
    · have := h5 x hx (.ends 0) (.inr rfl)
      rw [upd_same] at this
      exact this
    · exact fun e => by cases e
    · exact fun e => by cases e

theorem cb_phis {q : BlockM} {w wx : World} {bl : List VarD} {val : Vals} {i : Nat} {p : PhiM} {a b v : Value} {r : Rows} (hp : q.phis[i]? = some p)
    (hr : r = upd (upd (upd (rowOf (oneF q i 0) val) (.fr 0 i) (some (intsRow p.fr))) (.vals 0 i) (some (intsRow p.vals))) (.phis 0) (some ⟨49, 4, i + 1, cellsOf (phiCells val 0) 0 (q.phis.take i) ++ [.int .i64 p.id, .int .i64 p.typ, a, b]⟩))
    (h : OwnC w wx r (upd (upd (upd val (.fr 0 i) a) (.vals 0 i) b) (.phis 0) v) (fun t => (CbD i 0 t ∨ t = .fr 0 i) ∨ t = .vals 0 i) bl) :
    OwnC w wx (rowOf (oneF q (i + 1) 0) (upd (upd (upd val (.fr 0 i) a) (.vals 0 i) b) (.phis 0) v)) (upd (upd (upd val (.fr 0 i) a) (.vals 0 i) b) (.phis 0) v) (CbD (i + 1) 0) bl := by
  subst hr
  have hi := (List.getElem?_eq_some_iff.1 hp).1
  have hlast : q.phis.take (i + 1) = q.phis.take i ++ [p] := by rw [List.take_add_one, hp]; rfl
  refine h.congr (fun t ht => ?_) (fun _ _ => rfl) (fun t ht => ?_)
  · cases t with
    | params => exact ht.elim
    | blocks => exact ht.elim
    | phis k =>
      obtain rfl : k = 0 := ht
      rw [upd_same]
      show some (RowD.mk _ 4 (q.phis.take (i + 1)).length (cellsOf _ 0 (q.phis.take (i + 1)))) = _
      rw [hlast]
      congr 2
      · simp; omega
      · rw [cellsOf_push (g' := phiCells val 0)]
        · congr 1
          have hl : 0 + (q.phis.take i).length = i := by simp; omega
          rw [hl]
          unfold phiCells
          simp [upd]
        · intro k b2 hk
          have hki : k < i := by
            have := (List.getElem?_eq_some_iff.1 hk).1
            simp at this
            omega
          unfold phiCells
          have : k ≠ i := by omega
          simp [upd, this]
    | code k =>
      obtain rfl : k = 0 := ht
      simp [upd, rowOf, oneF, cellsOf]
    | ends k =>
      obtain rfl : k = 0 := ht
      simp [upd, rowOf, oneF]
    | fr k c =>
      obtain ⟨rfl, hc⟩ := ht
      by_cases e : c = i
      · subst e
        simp [upd, rowOf, oneF, hp]
      · have hlt : c < i := by omega
        simp [upd, rowOf, oneF, e, hlt, hc]
    | vals k c =>
      obtain ⟨rfl, hc⟩ := ht
      by_cases e : c = i
      · subst e
        simp [upd, rowOf, oneF, hp]
      · have hlt : c < i := by omega
        simp [upd, rowOf, oneF, e, hlt, hc]
    | args k c => exact absurd ht.2 (by omega)
  · cases t with
    | params => exact ht.elim
    | blocks => exact ht.elim
    | phis k => exact .inl (.inl ht)
    | code k => exact .inl (.inl ht)
    | ends k => exact .inl (.inl ht)
    | fr k c =>
      obtain ⟨rfl, hc⟩ := ht
      by_cases e : c = i
      · subst e; exact .inl (.inr rfl)
      · exact .inl (.inl ⟨rfl, by omega⟩)
    | vals k c =>
      obtain ⟨rfl, hc⟩ := ht
      by_cases e : c = i
      · subst e; exact .inr rfl
      · exact .inl (.inl ⟨rfl, by omega⟩)
    | args k c => exact absurd ht.2 (by omega)

theorem cb_code {q : BlockM} {w wx : World} {bl : List VarD} {val : Vals} {i j : Nat} {x : InstrM} {a v : Value} {r : Rows} (hx : q.code[j]? = some x)
    (hr : r = upd (upd (rowOf (oneF q i j) val) (.args 0 j) (some (intsRow x.args))) (.code 0) (some ⟨53, 4, j + 1, cellsOf (instrCells val 0) 0 (q.code.take j) ++ [.int .i64 x.op, .int .i64 x.id, a, .int .i64 x.n]⟩))
    (h : OwnC w wx r (upd (upd val (.args 0 j) a) (.code 0) v) (fun t => CbD i j t ∨ t = .args 0 j) bl) :
    OwnC w wx (rowOf (oneF q i (j + 1)) (upd (upd val (.args 0 j) a) (.code 0) v)) (upd (upd val (.args 0 j) a) (.code 0) v) (CbD i (j + 1)) bl := by
  subst hr
  have hi := (List.getElem?_eq_some_iff.1 hx).1
  have hlast : q.code.take (j + 1) = q.code.take j ++ [x] := by rw [List.take_add_one, hx]; rfl
  refine h.congr (fun t ht => ?_) (fun _ _ => rfl) (fun t ht => ?_)
  · cases t with
    | params => exact ht.elim
    | blocks => exact ht.elim
    | phis k =>
      obtain rfl : k = 0 := ht
      simp only [upd, rowOf, oneF]
      simp
      exact cellsOf_congr _ _ fun k a _ => by unfold phiCells; simp [upd]
    | code k =>
      obtain rfl : k = 0 := ht
      rw [upd_same]
      show some (RowD.mk _ 4 (q.code.take (j + 1)).length (cellsOf _ 0 (q.code.take (j + 1)))) = _
      rw [hlast]
      congr 2
      · simp; omega
      · rw [cellsOf_push (g' := instrCells val 0)]
        · congr 1
          have hl : 0 + (q.code.take j).length = j := by simp; omega
          rw [hl]
          unfold instrCells
          simp [upd]
        · intro k b2 hk
          have hki : k < j := by
            have := (List.getElem?_eq_some_iff.1 hk).1
            simp at this
            omega
          unfold instrCells
          have : k ≠ j := by omega
          simp [upd, this]
    | ends k =>
      obtain rfl : k = 0 := ht
      simp [upd, rowOf, oneF]
    | fr k c =>
      obtain ⟨rfl, hc⟩ := ht
      simp [upd, rowOf, oneF]
    | vals k c =>
      obtain ⟨rfl, hc⟩ := ht
      simp [upd, rowOf, oneF]
    | args k c =>
      obtain ⟨rfl, hc⟩ := ht
      by_cases e : c = j
      · subst e
        simp [upd, rowOf, oneF, hx]
      · have hlt : c < j := by omega
        simp [upd, rowOf, oneF, e, hlt, hc]
  · cases t with
    | params => exact ht.elim
    | blocks => exact ht.elim
    | phis k => exact .inl ht
    | code k => exact .inl ht
    | ends k => exact .inl ht
    | fr k c => exact .inl ht
    | vals k c => exact .inl ht
    | args k c =>
      obtain ⟨rfl, hc⟩ := ht
      by_cases e : c = j
      · subst e; exact .inr rfl
      · exact .inl ⟨rfl, by omega⟩

set_option maxRecDepth 100000 in
set_option maxHeartbeats 4000000 in
theorem copyBlock_any (q : BlockM) (B : Nat) (pv cv tv : Value) (w : World) (hB : B ≤ w.heap.size) (hp : PhisR w B pv q.phis) (hc : CodeR w B cv q.code) (ht : Ints w B tv q.term.to) (hs : SmallB q) :
    Calls Try.prog 17 #[.agg #[pv, cv, .int .i64 q.term.op, .int .i64 q.term.val, tv, .int .i64 q.term.n]] w (CopyPost q w) := by
  have HP := hideI hp
  have HC := hideI hc
  have HTT := hideI ht
  have HSM := hideI hs
  obtain ⟨P, pc, rfl, _, kp⟩ := hp
  obtain ⟨C, cc, rfl, _, kc⟩ := hc
  obtain ⟨T, tc, rfl, _, _⟩ := ht
  obtain ⟨np, hnp⟩ : ∃ n, n = q.phis.length := ⟨_, rfl⟩
  obtain ⟨nc, hnc⟩ : ∃ n, n = q.code.length := ⟨_, rfl⟩
  obtain ⟨nt, hnt⟩ : ∃ n, n = q.term.to.length := ⟨_, rfl⟩
  rw [← hnp] at HP
  rw [← hnc] at HC
  rw [← hnt] at HTT
  rw [← hnp, ← hnc, ← hnt]
  have HNN := hideI (And.intro hnp (And.intro hnc hnt))
  obtain ⟨W3, hW3⟩ : ∃ W3, W3 = ((w.alloc (.cells #[.slice P np pc, .slice C nc cc, .int .i64 q.term.op, .int .i64 q.term.val, .slice T nt tc, .int .i64 q.term.n] 46)).alloc (.cells #[.slice none 0 0, .slice none 0 0, .int .i64 0, .int .i64 0, .slice none 0 0, .int .i64 0] 46)).alloc (.cells #[.slice none 0 0, .slice none 0 0, .int .i64 q.term.op, .int .i64 q.term.val, .slice T nt tc, .int .i64 q.term.n] 46) := ⟨_, rfl⟩
  have hst := (((OwnC.nothing w (fun _ => none) (fun _ => .slice none 0 0)).make #[.slice P np pc, .slice C nc cc, .int .i64 q.term.op, .int .i64 q.term.val, .slice T nt tc, .int .i64 q.term.n] 46).make #[.slice none 0 0, .slice none 0 0, .int .i64 0, .int .i64 0, .slice none 0 0, .int .i64 0] 46).make #[.slice none 0 0, .slice none 0 0, .int .i64 q.term.op, .int .i64 q.term.val, .slice T nt tc, .int .i64 q.term.n] 46
  rw [← hW3] at hst
  simp only [World.size_alloc] at hst
  have HST := hideI hst
  have HW3 := hideI hW3
  clear hnp hnc hnt kp kc hst hs hW3
  go_enter Try.func17, Try.ntmps17
  go_upto_region 2 with fail
  rw [← HW3.out]
  have hkB : Hid (∀ W, Below w.heap.size w W → Keeps B w W) := hideI fun W hW => Keeps.of_below (hW.mono hB)
  have hxb := row_cells (HST.out.cells _ (List.mem_cons_of_mem _ (List.mem_cons_of_mem _ (List.mem_cons_self ..)))).1 rfl
  have x4 := hxb 4
  have HS4 := hideI (HST.out.make #[] 3)
  have hge := (HS4.out.cells _ (List.mem_cons_self ..)).1
  have hT : Ints (W3.alloc (.cells #[] 3)) B (.slice T nt tc) q.term.to := HTT.out.keeps (hkB.out _ HS4.out.below)
  have hnt5 : q.term.to.length ≤ 100000 := HSM.out.ends
  have hbs : w.heap.size ≤ W3.heap.size := HST.out.below.size
  have hlt0 : w.heap.size < W3.heap.size := HST.out.lt (List.mem_cons_of_mem _ (List.mem_cons_of_mem _ (List.mem_cons_self ..)))
  have hlt2 : w.heap.size + 1 + 1 < W3.heap.size := HST.out.lt (List.mem_cons_self ..)
  clear hxb
  go_upto_region 3 with (first
    | (at_builtin; go_must (refine wpList_copy rfl _ _ rfl B W3.heap.size (.slice T nt tc) q.term.to rfl rfl hT hge hnt5 w.heap.size hbs ?_); intro A1 c1 w4 hown hg hv; have HS5 := hideI (OwnC.comes (t0 := .ends 0) (d := intsRow q.term.to) HS4.out (fun h => h) hg hown hv); have hxo := row_cells (HS5.out.cells _ (List.mem_cons_self ..)).1 rfl; have hzo := fun o => frozen_of_row w4 (w.heap.size + 1 + 1) o _ _ (HS5.out.cells _ (List.mem_cons_self ..)).1; have y4 := hxo 4; have z4 := hzo 4; clear hxo hzo hown hg hv hT hge x4))
  have HS6 := hideI (HS5.out.store (j := 4) (.slice A1 q.term.to.length c1))
  obtain ⟨val, hv1, hv2, hv3, hst⟩ := cb_first HS6.out
  obtain ⟨W6, hW6⟩ : ∃ W6, W6 = w4.setCell ⟨w.heap.size + 1 + 1, 4, none⟩ (.slice A1 q.term.to.length c1) := ⟨_, rfl⟩
  rw [← hW6] at hst ⊢
  have hst : CbSt q w W6 (w.heap.size + 1 + 1) (w.heap.size + 1) w.heap.size #[.slice P np pc, .slice C nc cc, .int .i64 q.term.op, .int .i64 q.term.val, .slice T nt tc, .int .i64 q.term.n] #[.slice none 0 0, .slice none 0 0, .int .i64 0, .int .i64 0, .slice none 0 0, .int .i64 0] 0 0 val := by
    unfold CbSt outV
    rw [hv1, hv2, hv3]
    exact hst
  obtain ⟨g3, hg3⟩ : ∃ g, g = w.heap.size + 1 + 1 := ⟨_, rfl⟩
  rw [← hg3] at hst ⊢
  have HCB := hideI hst
  have HG3 := hideI hg3
  clear hst hv1 hv2 hv3 hW6 y4 z4 HS4 HS5 HS6 HST HW3 hg3 hbs hnt5 hlt0 hlt2
  obtain ⟨bx, hbx⟩ : ∃ bx : Array Value, bx = #[.slice P np pc, .slice C nc cc, .int .i64 q.term.op, .int .i64 q.term.val, .slice T nt tc, .int .i64 q.term.n] := ⟨_, rfl⟩
  obtain ⟨rs, hrs⟩ : ∃ rs : Array Value, rs = #[.slice none 0 0, .slice none 0 0, .int .i64 0, .int .i64 0, .slice none 0 0, .int .i64 0] := ⟨_, rfl⟩
  rw [← hbx, ← hrs] at HCB
  have HBOX : Hid (∀ (wx : World) (i j : Nat) (val : Vals), CbSt q w wx g3 (w.heap.size + 1) w.heap.size bx rs i j val → wx.cell? ⟨w.heap.size, 0, none⟩ = some (.slice P np pc) ∧ wx.cell? ⟨w.heap.size, 1, none⟩ = some (.slice C nc cc) ∧ w.heap.size < wx.heap.size ∧ g3 < wx.heap.size) := hideI fun wx i j val h => by
    have hm := List.mem_cons_of_mem (g3, outV q val, 46) (List.mem_cons_of_mem (w.heap.size + 1, rs, 46) (List.mem_cons_self (a := (w.heap.size, bx, 46)) (l := [])))
    have hx := row_cells (h.cells _ hm).1 rfl
    rw [hbx] at hx
    exact ⟨hx 0, hx 1, h.lt hm, h.lt (List.mem_cons_self ..)⟩
  have HBX := hideI (And.intro hbx hrs)
  clear hbx hrs
  have KP : Hid (∀ (k : Nat) (p : PhiM), q.phis[k]? = some p → ∃ b off F nf cf V nv cv, P = some ⟨b, off, none⟩ ∧ b < B ∧ nf = p.fr.length ∧ nv = p.vals.length ∧ w.cell? ⟨b, off + k * 4, none⟩ = some (.int .i64 p.id) ∧ w.cell? ⟨b, off + k * 4 + 1, none⟩ = some (.int .i64 p.typ) ∧ w.cell? ⟨b, off + k * 4 + 2, none⟩ = some (.slice F nf cf) ∧ w.cell? ⟨b, off + k * 4 + 3, none⟩ = some (.slice V nv cv) ∧ Ints w B (.slice F nf cf) p.fr ∧ Ints w B (.slice V nv cv) p.vals) := hideI fun k p hk => by
    obtain ⟨A, c, e, _, h⟩ := HP.out
    injection e with e _ _
    subst e
    obtain ⟨b, off, fv, vv, h1, h2, h3, h4, h5, h6, h7, h8, _⟩ := h k p hk
    obtain ⟨F, cf, rfl, _⟩ := id h7
    obtain ⟨V, cv, rfl, _⟩ := id h8
    exact ⟨b, off, F, _, cf, V, _, cv, h1, h2, rfl, rfl, h3, h4, h5, h6, h7, h8⟩
  go_upto_region 4 with fail
  go_loopw [4, 5] (fun u _ wr => ∃ (i : Nat) (val : Vals), i ≤ np ∧ u = .int .i64 i ∧ Hid (CbSt q w wr g3 (w.heap.size + 1) w.heap.size bx rs i 0 val)) (fun u _ _ => np - (intOf u).toNat)
  case atStart => exact ⟨0, val, Nat.zero_le _, by go_num, HCB⟩
  case round =>
    obtain ⟨i, val, hi, rfl, HC1⟩ := hrel
    obtain ⟨x0, x1, hlb, hl3⟩ := HBOX.out _ _ _ _ HC1.out
    have hn1 := HNN.out.1
    have hnp5 : np ≤ 100000 := by rw [hn1]; exact HSM.out.phis
    clear hn1
    by_cases hlt : i < np
    · obtain ⟨p, hp⟩ : ∃ p, q.phis[i]? = some p := ⟨_, List.getElem?_eq_getElem (by have := HNN.out.1; omega)⟩
      obtain ⟨b, off, F, nf, cf, V, nv, cv2, rfl, hb, hnf, hnv, d0, d1, d2, d3, hif, hiv⟩ := KP.out i p hp
      have hk := hkB.out _ HC1.out.below
      have c0 := (hk _ _ hb).trans d0
      have c1 := (hk _ _ hb).trans d1
      have c2 := (hk _ _ hb).trans d2
      have c3 := (hk _ _ hb).trans d3
      have i1 : (0 : Int) ≤ (i : Int) := by omega
      have i2 : (i : Int) < (np : Int) := by omega
      have hsf := HSM.out.fr p (List.mem_of_getElem? hp)
      have HSF := hideI hsf
      have HIF := hideI (And.intro hif hiv)
      have HPI := hideI hp
      have HNF := hideI (And.intro hnf hnv)
      clear hsf hif hiv hp hnf hnv d0 d1 d2 d3 hk
      go_upto_region 7 with fail
      -- the phi's own variable
      obtain ⟨W1, hW1⟩ : ∃ W1, W1 = wr.alloc (.cells #[.int .i64 p.id, .int .i64 p.typ, .slice F nf cf, .slice V nv cv2] 49) := ⟨_, rfl⟩
      have hs1 := OwnC.make HC1.out #[.int .i64 p.id, .int .i64 p.typ, .slice F nf cf, .slice V nv cv2] 49
      rw [← hW1] at hs1 ⊢
      have hsz1 : W1.heap.size = wr.heap.size + 1 := by rw [hW1]; simp
      obtain ⟨gp, hgp⟩ : ∃ g, g = wr.heap.size := ⟨_, rfl⟩
      rw [← hgp] at hs1 hsz1 ⊢
      have hx := row_cells (hs1.cells _ (List.mem_cons_self ..)).1 rfl
      have e2 := hx 2
      have hlp : gp < W1.heap.size := by omega
      have HS1 := hideI hs1
      have HGP := hideI hgp
      have HS2 := hideI (hs1.make #[] 3)
      have hge := (HS2.out.cells _ (List.mem_cons_self ..)).1
      have hint : Ints (W1.alloc (.cells #[] 3)) B (.slice F nf cf) p.fr := HIF.out.1.keeps (hkB.out _ HS2.out.below)
      have hfr5 := HSF.out.1
      have hb1 : w.heap.size ≤ W1.heap.size := hs1.below.size
      clear hx hs1 hW1 hgp hsz1 c0 c1 c2 c3 x0 x1 hlb hl3 i1 i2
      go_upto_region 8 with (first
        | (at_builtin; go_must (refine wpList_copy rfl _ _ rfl B W1.heap.size (.slice F nf cf) p.fr rfl rfl hint hge hfr5 w.heap.size hb1 ?_); intro A2 c2 w2 hown hg hv; have HS3 := hideI (OwnC.comes (t0 := .fr 0 i) (d := intsRow p.fr) HS2.out (fun h => by have := h.2; omega) hg hown hv); have hxo := row_cells (HS3.out.cells _ (List.mem_cons_self ..)).1 rfl; have hzo := fun o => frozen_of_row w2 gp o _ _ (HS3.out.cells _ (List.mem_cons_self ..)).1; have y2 := hxo 2; have z2 := hzo 2; clear hxo hzo hown hg hv hint hge e2))
      obtain ⟨W4, hW4⟩ : ∃ W4, W4 = w2.setCell ⟨gp, 2, none⟩ (.slice A2 p.fr.length c2) := ⟨_, rfl⟩
      have hs4 := OwnC.store (j := 2) HS3.out (.slice A2 p.fr.length c2)
      simp only [List.setIfInBounds_toArray, List.set_cons_zero, List.set_cons_succ] at hs4
      rw [← hW4] at hs4 ⊢
      have hx := row_cells (hs4.cells _ (List.mem_cons_self ..)).1 rfl
      have e3 := hx 3
      have hlp4 : gp < W4.heap.size := hs4.lt (List.mem_cons_self ..)
      have HS4 := hideI hs4
      have HS5 := hideI (hs4.make #[] 3)
      have hge := (HS5.out.cells _ (List.mem_cons_self ..)).1
      have hint : Ints (W4.alloc (.cells #[] 3)) B (.slice V nv cv2) p.vals := HIF.out.2.keeps (hkB.out _ HS5.out.below)
      have hvl5 := HSF.out.2
      have hb4 : w.heap.size ≤ W4.heap.size := hs4.below.size
      clear hx hs4 hW4 y2 z2 HS3 HS2 HS1
      go_upto_region 9 with (first
        | (at_builtin; go_must (refine wpList_copy rfl _ _ rfl B W4.heap.size (.slice V nv cv2) p.vals rfl rfl hint hge hvl5 w.heap.size hb4 ?_); intro A3 c3 w5 hown hg hv; have HS6 := hideI (OwnC.comes (t0 := .vals 0 i) (d := intsRow p.vals) HS5.out (fun h => by rcases h with h | h; (have := h.2; omega); (cases h)) hg hown hv); have hxo := row_cells (HS6.out.cells _ (List.mem_cons_self ..)).1 rfl; have hzo := fun o => frozen_of_row w5 gp o _ _ (HS6.out.cells _ (List.mem_cons_self ..)).1; have y3 := hxo 3; have z3 := hzo 3; clear hxo hzo hown hg hv hint hge e3))
      obtain ⟨W7, hW7⟩ : ∃ W7, W7 = w5.setCell ⟨gp, 3, none⟩ (.slice A3 p.vals.length c3) := ⟨_, rfl⟩
      have hs7 := OwnC.store (j := 3) HS6.out (.slice A3 p.vals.length c3)
      simp only [List.setIfInBounds_toArray, List.set_cons_zero, List.set_cons_succ] at hs7
      rw [← hW7] at hs7 ⊢
      have hx := row_cells (hs7.cells _ (List.mem_cons_self ..)).1 rfl
      have f0 := hx 0
      have f1 := hx 1
      have f2 := hx 2
      have f3 := hx 3
      have hlp7 : gp < W7.heap.size := hs7.lt (List.mem_cons_self ..)
      have hl37 : g3 < W7.heap.size := hs7.lt (List.mem_cons_of_mem _ (List.mem_cons_self ..))
      have hxo := row_cells (hs7.cells _ (List.mem_cons_of_mem _ (List.mem_cons_self ..))).1 rfl
      have h30 := hxo 0
      have HS8 := hideI (hs7.make #[.int .i64 p.id, .int .i64 p.typ, .slice A2 p.fr.length c2, .slice A3 p.vals.length c3] 49)
      have HS7 := hideI hs7
      have hip : (q.phis.take i).length = i := by have := (List.getElem?_eq_some_iff.1 HPI.out).1; simp; omega
      have hown0 := HS8.out.own.rows (.phis 0) ⟨49, 4, (q.phis.take i).length, cellsOf (phiCells val 0) 0 (q.phis.take i)⟩ (.inl (.inl rfl)) rfl
      obtain ⟨Ap, cp, hvp⟩ := own_form hown0
      have hvp : val (.phis 0) = .slice Ap (q.phis.take i).length cp := hvp
      have hown0 : (W7.alloc (.cells #[.int .i64 p.id, .int .i64 p.typ, .slice A2 p.fr.length c2, .slice A3 p.vals.length c3] 49)).ownsRow w.heap.size 49 4 (.slice Ap i cp) i (cellsOf (phiCells val 0) 0 (q.phis.take i)) := by
        have h : (W7.alloc (.cells #[.int .i64 p.id, .int .i64 p.typ, .slice A2 p.fr.length c2, .slice A3 p.vals.length c3] 49)).ownsRow w.heap.size 49 4 (val (.phis 0)) (q.phis.take i).length (cellsOf (phiCells val 0) 0 (q.phis.take i)) := hown0
        rw [hvp, hip] at h
        exact h
      rw [hip] at hvp
      replace h30 : W7.cell? ⟨g3, 0, none⟩ = some (.slice Ap i cp) := by rw [← hvp]; exact h30
      have hnews := World.news_of_block (HS8.out.cells _ (List.mem_cons_self ..)).1
      obtain ⟨i0, hix, hz0, hz1, hz2⟩ := info_parts phi_info
      have hb7 : w.heap.size ≤ W7.heap.size := HS7.out.below.size
      have HVP := hideI hvp
      clear hx hxo hs7 hW7 y3 z3 HS6 HS5 HS4 hip hvp
      go_wp2_with (first
        | (at_builtin; go_must (refine wpList_append_lies _ rfl _ _ _ rfl w.heap.size 49 i0 _ 4 64 Try.underlying41 hix hz0 hz1 hz2 rfl (by decide) (.slice Ap i cp) i _ rfl hown0 ⟨W7.heap.size, 0, none⟩ 1 1 [.int .i64 p.id, .int .i64 p.typ, .slice A2 p.fr.length c2, .slice A3 p.vals.length c3] rfl rfl hnews (by simp [Value.oneCell']) (by decide) (by unfold maxLen; omega) (by omega) (by simp; omega) _ rfl ?_); intro g1 cap1 w8 hown hgrow hor hgl; have HS9 := hideI (OwnC.drop (OwnC.grow (t0 := .phis 0) (d := ⟨49, 4, i + 1, cellsOf (phiCells val 0) 0 (q.phis.take i) ++ [.int .i64 p.id, .int .i64 p.typ, .slice A2 p.fr.length c2, .slice A3 p.vals.length c3]⟩) HS8.out (.inl (.inl rfl)) hown (by rw [show upd (upd val (Tag.fr 0 i) (Value.slice A2 p.fr.length c2)) (Tag.vals 0 i) (Value.slice A3 p.vals.length c3) (Tag.phis 0) = val (.phis 0) from rfl, HVP.out]; exact hgrow) rfl (by rw [show upd (upd val (Tag.fr 0 i) (Value.slice A2 p.fr.length c2)) (Tag.vals 0 i) (Value.slice A3 p.vals.length c3) (Tag.phis 0) = val (.phis 0) from rfl, HVP.out]; exact hor)) (List.sublist_append_right [_, _] [_, _, _])); have hxo := row_cells (HS9.out.cells _ (List.mem_cons_self ..)).1 rfl; have hzo := fun o => frozen_of_row w8 g3 o _ _ (HS9.out.cells _ (List.mem_cons_self ..)).1; have y0 : w8.cell? ⟨g3, 0, none⟩ = some (.slice Ap i cp) := (by rw [← HVP.out]; exact hxo 0); have z0 := hzo 0; clear hxo hzo hown hgrow hor hgl hown0 hnews f0 f1 f2 f3 h30))
      have hs10 := OwnC.store (j := 0) HS9.out (.slice (some ⟨g1, 0, none⟩) (i + 1) cap1)
      have HS11 := hideI (cb_phis HPI.out rfl hs10)
      exact ⟨⟨i + 1, _, by omega, by go_num, hideI HS11.out⟩, by simp [intOf]; omega⟩
    · have hie : i = np := by omega
      have HIE := hideI hie
      clear hie
      have KX : Hid (∀ (k : Nat) (x : InstrM), q.code[k]? = some x → ∃ b off F nf cf, C = some ⟨b, off, none⟩ ∧ b < B ∧ nf = x.args.length ∧ w.cell? ⟨b, off + k * 4, none⟩ = some (.int .i64 x.op) ∧ w.cell? ⟨b, off + k * 4 + 1, none⟩ = some (.int .i64 x.id) ∧ w.cell? ⟨b, off + k * 4 + 2, none⟩ = some (.slice F nf cf) ∧ w.cell? ⟨b, off + k * 4 + 3, none⟩ = some (.int .i64 x.n) ∧ Ints w B (.slice F nf cf) x.args) := hideI fun k x hk => by
        obtain ⟨A, c, e, _, h⟩ := HC.out
        injection e with e _ _
        subst e
        obtain ⟨b, off, fv, h1, h2, h3, h4, h5, h6, h7, _⟩ := h k x hk
        obtain ⟨F, cf, rfl, _⟩ := id h7
        exact ⟨b, off, F, _, cf, h1, h2, rfl, h3, h4, h5, h6, h7⟩
      have hn1 := HNN.out.2.1
      have hnc5 : nc ≤ 100000 := by rw [hn1]; exact HSM.out.code
      clear hn1 hlb hl3 x1
      go_upto_region 11 with fail
      go_loopw [6, 7] (fun u _ wr => ∃ (j : Nat) (val : Vals), j ≤ nc ∧ u = .int .i64 j ∧ Hid (CbSt q w wr g3 (w.heap.size + 1) w.heap.size bx rs i j val)) (fun u _ _ => nc - (intOf u).toNat)
      case atStart => exact ⟨0, val, Nat.zero_le _, by go_num, HC1⟩
      case round =>
        clear x0 HC1
        obtain ⟨j, val, hj, rfl, HC1⟩ := hrel
        obtain ⟨x0, x1, hlb, hl3⟩ := HBOX.out _ _ _ _ HC1.out
        by_cases hltj : j < nc
        · obtain ⟨x, hx⟩ : ∃ x, q.code[j]? = some x := ⟨_, List.getElem?_eq_getElem (by have := HNN.out.2.1; omega)⟩
          obtain ⟨b, off, F, nf, cf, rfl, hb, hnf, d0, d1, d2, d3, hif⟩ := KX.out j x hx
          have hk := hkB.out _ HC1.out.below
          have c0 := (hk _ _ hb).trans d0
          have c1 := (hk _ _ hb).trans d1
          have c2 := (hk _ _ hb).trans d2
          have c3 := (hk _ _ hb).trans d3
          have i1 : (0 : Int) ≤ (j : Int) := by omega
          have i2 : (j : Int) < (nc : Int) := by omega
          have hsf := HSM.out.args x (List.mem_of_getElem? hx)
          have HSF := hideI hsf
          have HIF := hideI hif
          have HPI := hideI hx
          have HNF := hideI hnf
          clear hsf hif hx hnf d0 d1 d2 d3 hk
          go_upto_region 14 with fail
          obtain ⟨W1, hW1⟩ : ∃ W1, W1 = wr.alloc (.cells #[.int .i64 x.op, .int .i64 x.id, .slice F nf cf, .int .i64 x.n] 53) := ⟨_, rfl⟩
          have hs1 := OwnC.make HC1.out #[.int .i64 x.op, .int .i64 x.id, .slice F nf cf, .int .i64 x.n] 53
          rw [← hW1] at hs1 ⊢
          have hsz1 : W1.heap.size = wr.heap.size + 1 := by rw [hW1]; simp
          obtain ⟨gp, hgp⟩ : ∃ g, g = wr.heap.size := ⟨_, rfl⟩
          rw [← hgp] at hs1 hsz1 ⊢
          have hx := row_cells (hs1.cells _ (List.mem_cons_self ..)).1 rfl
          have e2 := hx 2
          have hlp : gp < W1.heap.size := by omega
          have HS1 := hideI hs1
          have HS2 := hideI (hs1.make #[] 3)
          have hge := (HS2.out.cells _ (List.mem_cons_self ..)).1
          have hint : Ints (W1.alloc (.cells #[] 3)) B (.slice F nf cf) x.args := HIF.out.keeps (hkB.out _ HS2.out.below)
          have hfr5 := HSF.out
          have hb1 : w.heap.size ≤ W1.heap.size := hs1.below.size
          clear hx hs1 hW1 hgp hsz1 c0 c1 c2 c3 x0 x1 hlb hl3 i1 i2
          go_upto_region 15 with (first
            | (at_builtin; go_must (refine wpList_copy rfl _ _ rfl B W1.heap.size (.slice F nf cf) x.args rfl rfl hint hge hfr5 w.heap.size hb1 ?_); intro A2 c2 w2 hown hg hv; have HS3 := hideI (OwnC.comes (t0 := .args 0 j) (d := intsRow x.args) HS2.out (fun h => by have := h.2; omega) hg hown hv); have hxo := row_cells (HS3.out.cells _ (List.mem_cons_self ..)).1 rfl; have hzo := fun o => frozen_of_row w2 gp o _ _ (HS3.out.cells _ (List.mem_cons_self ..)).1; have y2 := hxo 2; have z2 := hzo 2; clear hxo hzo hown hg hv hint hge e2))
          obtain ⟨W7, hW7⟩ : ∃ W7, W7 = w2.setCell ⟨gp, 2, none⟩ (.slice A2 x.args.length c2) := ⟨_, rfl⟩
          have hs7 := OwnC.store (j := 2) HS3.out (.slice A2 x.args.length c2)
          simp only [List.setIfInBounds_toArray, List.set_cons_zero, List.set_cons_succ] at hs7
          rw [← hW7] at hs7 ⊢
          have hx := row_cells (hs7.cells _ (List.mem_cons_self ..)).1 rfl
          have f0 := hx 0
          have f1 := hx 1
          have f2 := hx 2
          have f3 := hx 3
          have hlp7 : gp < W7.heap.size := hs7.lt (List.mem_cons_self ..)
          have hl37 : g3 < W7.heap.size := hs7.lt (List.mem_cons_of_mem _ (List.mem_cons_self ..))
          have hxo := row_cells (hs7.cells _ (List.mem_cons_of_mem _ (List.mem_cons_self ..))).1 rfl
          have h30 := hxo 1
          have HS8 := hideI (hs7.make #[.int .i64 x.op, .int .i64 x.id, .slice A2 x.args.length c2, .int .i64 x.n] 53)
          have HS7 := hideI hs7
          have hip : (q.code.take j).length = j := by have := (List.getElem?_eq_some_iff.1 HPI.out).1; simp; omega
          have hown0 := HS8.out.own.rows (.code 0) ⟨53, 4, (q.code.take j).length, cellsOf (instrCells val 0) 0 (q.code.take j)⟩ (.inl rfl) rfl
          obtain ⟨Ap, cp, hvp⟩ := own_form hown0
          have hvp : val (.code 0) = .slice Ap (q.code.take j).length cp := hvp
          have hown0 : (W7.alloc (.cells #[.int .i64 x.op, .int .i64 x.id, .slice A2 x.args.length c2, .int .i64 x.n] 53)).ownsRow w.heap.size 53 4 (.slice Ap j cp) j (cellsOf (instrCells val 0) 0 (q.code.take j)) := by
            have h : (W7.alloc (.cells #[.int .i64 x.op, .int .i64 x.id, .slice A2 x.args.length c2, .int .i64 x.n] 53)).ownsRow w.heap.size 53 4 (val (.code 0)) (q.code.take j).length (cellsOf (instrCells val 0) 0 (q.code.take j)) := hown0
            rw [hvp, hip] at h
            exact h
          rw [hip] at hvp
          replace h30 : W7.cell? ⟨g3, 1, none⟩ = some (.slice Ap j cp) := by rw [← hvp]; exact h30
          have hnews := World.news_of_block (HS8.out.cells _ (List.mem_cons_self ..)).1
          obtain ⟨i0, hix, hz0, hz1, hz2⟩ := info_parts instr_info
          have hb7 : w.heap.size ≤ W7.heap.size := HS7.out.below.size
          have HVP := hideI hvp
          clear hx hxo hs7 hW7 y2 z2 HS3 HS2 HS1 hip hvp
          go_wp2_with (first
            | (at_builtin; go_must (refine wpList_append_lies _ rfl _ _ _ rfl w.heap.size 53 i0 _ 4 48 Try.underlying42 hix hz0 hz1 hz2 rfl (by decide) (.slice Ap j cp) j _ rfl hown0 ⟨W7.heap.size, 0, none⟩ 1 1 [.int .i64 x.op, .int .i64 x.id, .slice A2 x.args.length c2, .int .i64 x.n] rfl rfl hnews (by simp [Value.oneCell']) (by decide) (by unfold maxLen; omega) (by omega) (by simp; omega) _ rfl ?_); intro g1 cap1 w8 hown hgrow hor hgl; have HS9 := hideI (OwnC.drop (OwnC.grow (t0 := .code 0) (d := ⟨53, 4, j + 1, cellsOf (instrCells val 0) 0 (q.code.take j) ++ [.int .i64 x.op, .int .i64 x.id, .slice A2 x.args.length c2, .int .i64 x.n]⟩) HS8.out (.inl rfl) hown (by rw [show upd val (Tag.args 0 j) (Value.slice A2 x.args.length c2) (Tag.code 0) = val (.code 0) from rfl, HVP.out]; exact hgrow) rfl (by rw [show upd val (Tag.args 0 j) (Value.slice A2 x.args.length c2) (Tag.code 0) = val (.code 0) from rfl, HVP.out]; exact hor)) (List.sublist_append_right [_, _] [_, _, _])); have hxo := row_cells (HS9.out.cells _ (List.mem_cons_self ..)).1 rfl; have hzo := fun o => frozen_of_row w8 g3 o _ _ (HS9.out.cells _ (List.mem_cons_self ..)).1; have y0 : w8.cell? ⟨g3, 1, none⟩ = some (.slice Ap j cp) := (by rw [← HVP.out]; exact hxo 1); have z0 := hzo 1; clear hxo hzo hown hgrow hor hgl hown0 hnews f0 f1 f2 f3 h30))
          have hs10 := OwnC.store (j := 1) HS9.out (.slice (some ⟨g1, 0, none⟩) (j + 1) cap1)
          have HS11 := hideI (cb_code HPI.out rfl hs10)
          exact ⟨⟨j + 1, _, by omega, by go_num, hideI HS11.out⟩, by simp [intOf]; omega⟩
        · have hje : j = nc := by omega
          have HJE := hideI hje
          clear hje
          -- the answer is laid
          obtain ⟨Aph, cph, hvph⟩ := own_form (HC1.out.own.rows (.phis 0) _ rfl rfl)
          obtain ⟨Aco, cco, hvco⟩ := own_form (HC1.out.own.rows (.code 0) _ rfl rfl)
          obtain ⟨Aen, cen, hven⟩ := own_form (HC1.out.own.rows (.ends 0) _ rfl rfl)
          obtain ⟨nph, hnph⟩ : ∃ n, val (.phis 0) = .slice Aph n cph := ⟨_, hvph⟩
          obtain ⟨nco, hnco⟩ : ∃ n, val (.code 0) = .slice Aco n cco := ⟨_, hvco⟩
          obtain ⟨nen, hnen⟩ : ∃ n, val (.ends 0) = .slice Aen n cen := ⟨_, hven⟩
          have hx3 := row_cells (HC1.out.cells _ (List.mem_cons_self ..)).1 rfl
          have hxr := row_cells (HC1.out.cells _ (List.mem_cons_of_mem _ (List.mem_cons_self ..))).1 rfl
          have hzr := fun o => frozen_of_row wr (w.heap.size + 1) o _ _ (HC1.out.cells _ (List.mem_cons_of_mem _ (List.mem_cons_self ..))).1
          have hcr : ∀ o, wr.cell? ⟨w.heap.size + 1, o, none⟩ = (#[.slice none 0 0, .slice none 0 0, .int .i64 0, .int .i64 0, .slice none 0 0, .int .i64 0] : Array Value)[o]? := fun o => by rw [← HBX.out.2]; exact hxr o
          have hc3 : ∀ o, wr.cell? ⟨g3, o, none⟩ = (#[.slice Aph nph cph, .slice Aco nco cco, .int .i64 q.term.op, .int .i64 q.term.val, .slice Aen nen cen, .int .i64 q.term.n] : Array Value)[o]? := fun o => by rw [← hnph, ← hnco, ← hnen]; exact hx3 o
          have a0 := hc3 0
          have a1 := hc3 1
          have a2 := hc3 2
          have a3 := hc3 3
          have a4 := hc3 4
          have a5 := hc3 5
          have b0 := hcr 0
          have b1 := hcr 1
          have b2 := hcr 2
          have b3 := hcr 3
          have b4 := hcr 4
          have b5 := hcr 5
          have z0 := hzr 0
          have z1 := hzr 1
          have z2 := hzr 2
          have z3 := hzr 3
          have z4 := hzr 4
          have z5 := hzr 5
          clear hx3 hxr hzr hcr hc3 hvph hvco hven
          have hp := OwnC.perm HC1.out (List.Perm.swap _ _ _)
          rw [HBX.out.2] at hp
          have h6 := (((((hp.store (j := 0) (.slice Aph nph cph)).store (j := 1) (.slice Aco nco cco)).store (j := 2) (.int .i64 q.term.op)).store (j := 3) (.int .i64 q.term.val)).store (j := 4) (.slice Aen nen cen)).store (j := 5) (.int .i64 q.term.n)
          simp only [List.setIfInBounds_toArray, List.set_cons_zero, List.set_cons_succ] at h6
          clear hp
          have H6 := hideI h6
          clear h6
          go_wp2
          obtain ⟨W8, hW8⟩ : ∃ W8, W8 = (((((wr.setCell ⟨w.heap.size + 1, 0, none⟩ (.slice Aph nph cph)).setCell ⟨w.heap.size + 1, 1, none⟩ (.slice Aco nco cco)).setCell ⟨w.heap.size + 1, 2, none⟩ (.int .i64 q.term.op)).setCell ⟨w.heap.size + 1, 3, none⟩ (.int .i64 q.term.val)).setCell ⟨w.heap.size + 1, 4, none⟩ (.slice Aen nen cen)).setCell ⟨w.heap.size + 1, 5, none⟩ (.int .i64 q.term.n) := ⟨_, rfl⟩
          rw [← hW8] at H6 ⊢
          have hx := row_cells (H6.out.cells _ (List.mem_cons_self ..)).1 rfl
          have s0 := hx 0
          have s1 := hx 1
          have s2 := hx 2
          have s3 := hx 3
          have s4 := hx 4
          have s5 := hx 5
          clear hx hW8 a0 a1 a2 a3 a4 a5 b0 b1 b2 b3 b4 b5 z0 z1 z2 z3 z4 z5
          refine bodyPost_ret (v := .agg #[.slice Aph nph cph, .slice Aco nco cco, .int .i64 q.term.op, .int .i64 q.term.val, .slice Aen nen cen, .int .i64 q.term.n]) (by simp [results, Try.results17, go_sem, s0, s1, s2, s3, s4, s5]) rfl ?_
          refine ⟨val, by rw [hnph, hnco, hnen], ?_, H6.out.below⟩
          have hown := H6.out.own
          rw [HIE.out, HJE.out, HNN.out.1, HNN.out.2.1] at hown
          exact hown
end Go.Proofs.Ytncmnbchkabgaaa
