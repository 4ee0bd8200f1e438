/- What GraphPrunes rests on, part 11: PruneM, PruneSt, PruneW, PruneF, GPrune, RPruneM, OrderEx. -/
import Derived.Test.YtncmnbchkabgaaaPkGraphPrunes10

namespace Go.Proofs.Ytncmnbchkabgaaa
open Go.RowKit

/-- the new numbers -/
def numOf (S : Nat → Bool) (x : Int) : Int := nowI S x.toNat

/-- of the first b blocks those that stay -/
def prBlocks (S : Nat → Bool) (num : Int → Int) (bs : List BlockM) : Nat → List BlockM
  | 0 => []
  | b + 1 => prBlocks S num bs b ++ match bs[b]? with | some q => if S b then [pruneB num q] else [] | none => []

def pruneM (S : Nat → Bool) (f : FuncM) : FuncM := { f with blocks := prBlocks S (numOf S) f.blocks f.blocks.length }

section
variable {S : Nat → Bool} {num : Int → Int} {bs : List BlockM} {f : FuncM}

theorem prBlocks_len : ∀ b, b ≤ bs.length → (prBlocks S num bs b).length = cntS S b
  | 0, _ => rfl
  | b + 1, h => by
    have hq : bs[b]? = some bs[b] := List.getElem?_eq_getElem (by omega)
    rw [prBlocks, cntS, List.length_append, prBlocks_len b (by omega), hq]
    simp only
    split <;> rfl

theorem cntS_mono : ∀ b k, k ≤ b → cntS S k ≤ cntS S b
  | 0, k, h => by have : k = 0 := by omega
                  subst this; exact Nat.le_refl _
  | b + 1, k, h => by
    rcases Nat.lt_or_ge b k with h1 | h1
    · have : k = b + 1 := by omega
      subst this; exact Nat.le_refl _
    · have := cntS_mono b k h1
      rw [cntS]
      omega

theorem cntS_lt {k b : Nat} (hk : k < b) (hS : S k = true) : cntS S k < cntS S b := by
  have := cntS_mono (S := S) b (k + 1) hk
  rw [cntS, hS, if_pos rfl] at this
  omega

theorem prBlocks_at {k : Nat} {q : BlockM} (hS : S k = true) (hq : bs[k]? = some q) : ∀ b, b ≤ bs.length → k < b → (prBlocks S num bs b)[cntS S k]? = some (pruneB num q)
  | 0, _, h => by omega
  | b + 1, hb, h => by
    rw [prBlocks]
    rcases Nat.lt_or_ge k b with h1 | h1
    · rw [List.getElem?_append_left (by rw [prBlocks_len b (by omega)]; exact cntS_lt h1 hS)]
      exact prBlocks_at hS hq b (by omega) h1
    · have e : k = b := by omega
      subst e
      rw [List.getElem?_append_right (by rw [prBlocks_len k (by omega)]; exact Nat.le_refl _), prBlocks_len k (by omega), Nat.sub_self, hq]
      simp only
      rw [hS, if_pos rfl]
      rfl

theorem prBlocks_of {i : Nat} {c : BlockM} : ∀ b, b ≤ bs.length → (prBlocks S num bs b)[i]? = some c → ∃ k q, k < b ∧ S k = true ∧ cntS S k = i ∧ bs[k]? = some q ∧ c = pruneB num q
  | 0, _, h => by simp [prBlocks] at h
  | b + 1, hb, h => by
    have hq : bs[b]? = some bs[b] := List.getElem?_eq_getElem (by omega)
    rw [prBlocks] at h
    rcases Nat.lt_or_ge i (prBlocks S num bs b).length with h1 | h1
    · rw [List.getElem?_append_left h1] at h
      obtain ⟨k, q, h2, h3⟩ := prBlocks_of b (by omega) h
      exact ⟨k, q, by omega, h3⟩
    · rw [List.getElem?_append_right h1, hq] at h
      simp only at h
      rw [prBlocks_len b (by omega)] at h h1
      cases hS : S b with
      | false => rw [hS] at h; simp at h
      | true =>
        rw [hS, if_pos rfl] at h
        have e : i - cntS S b = 0 := by have := (List.getElem?_eq_some_iff.1 h).1; simp at this; omega
        rw [e] at h
        simp only [List.getElem?_cons_zero, Option.some.injEq] at h
        exact ⟨b, _, by omega, hS, by omega, hq, h.symm⟩

/-- where all stay, nothing changes -/
theorem cntS_all : ∀ b, (∀ k, k < b → S k = true) → cntS S b = b
  | 0, _ => rfl
  | b + 1, h => by
    rw [cntS, cntS_all b (fun k hk => h k (by omega)), h b (by omega), if_pos rfl]

theorem keepF_id {fr : List Int} (h : ∀ x ∈ fr, num x = x ∧ x ≠ -1) : ∀ k, k ≤ fr.length → keepF num fr k = fr.take k
  | 0, _ => by simp [keepF]
  | k + 1, hk => by
    have hx : fr[k]? = some fr[k] := List.getElem?_eq_getElem (by omega)
    have h2 := h _ (List.mem_of_getElem? hx)
    rw [keepF, keepF_id h k (by omega), hx, List.take_add_one, hx]
    simp only
    rw [h2.1, if_neg h2.2]
    rfl

theorem keepV_id {fr vals : List Int} (h : ∀ x ∈ fr, num x = x ∧ x ≠ -1) (hl : vals.length = fr.length) : ∀ k, k ≤ fr.length → keepV num fr vals k = vals.take k
  | 0, _ => by simp [keepV]
  | k + 1, hk => by
    have hx : fr[k]? = some fr[k] := List.getElem?_eq_getElem (by omega)
    have hy : vals[k]? = some (vals[k]'(by omega)) := List.getElem?_eq_getElem _
    have h2 := h _ (List.mem_of_getElem? hx)
    rw [keepV, keepV_id h hl k (by omega), hx, List.take_add_one, hy]
    simp only
    rw [h2.1, if_neg h2.2]
    rfl

theorem prunePhi_id {p : PhiM} (h : ∀ x ∈ p.fr, num x = x ∧ x ≠ -1) (hl : p.vals.length = p.fr.length) : prunePhi num p = p := by
  unfold prunePhi
  rw [keepF_id h _ (Nat.le_refl _), keepV_id h hl _ (Nat.le_refl _), List.take_length, ← hl, List.take_length]

theorem pruneB_id {q : BlockM} (h1 : ∀ p ∈ q.phis, prunePhi num p = p) (h2 : ∀ x ∈ q.term.to, num x = x) : pruneB num q = q := by
  unfold pruneB
  have e1 : q.phis.map (prunePhi num) = q.phis := by
    conv => rhs; rw [← List.map_id q.phis]
    exact List.map_congr_left fun p hp => h1 p hp
  have e2 : q.term.to.map num = q.term.to := by
    conv => rhs; rw [← List.map_id q.term.to]
    exact List.map_congr_left fun x hx => h2 x hx
  rw [e1, e2]

theorem prBlocks_id (hS : ∀ k, k < bs.length → S k = true) (h : ∀ q ∈ bs, pruneB num q = q) : ∀ b, b ≤ bs.length → prBlocks S num bs b = bs.take b
  | 0, _ => by simp [prBlocks]
  | b + 1, hb => by
    have hq : bs[b]? = some bs[b] := List.getElem?_eq_getElem (by omega)
    rw [prBlocks, prBlocks_id hS h b (by omega), hq, List.take_add_one, hq]
    simp only
    rw [hS b (by omega), if_pos rfl, h _ (List.mem_of_getElem? hq)]
    rfl

theorem numOf_all {n : Nat} (hS : ∀ k, k < n → S k = true) {x : Int} (h0 : 0 ≤ x) (h1 : x < n) : numOf S x = x := by
  unfold numOf nowI
  rw [hS _ (by omega), if_pos rfl, cntS_all _ (fun k hk => hS k (by omega))]
  omega

theorem pruneM_id (h0 : (lookM f).1 = 0) (hS : ∀ k, k < f.blocks.length → S k = true) : pruneM S f = f := by
  unfold pruneM
  have hb : prBlocks S (numOf S) f.blocks f.blocks.length = f.blocks := by
    rw [prBlocks_id hS (fun q hq => ?_) _ (Nat.le_refl _), List.take_length]
    refine pruneB_id (fun p hp => prunePhi_id (fun x hx => ?_) (look_phi h0 q hq p hp)) (fun x hx => ?_)
    · have hon := ((formed_all (look_formed h0)).1 q hq).1 p hp
      unfold phiB at hon
      simp only [Bool.and_eq_true] at hon
      have hr := (once_nodup _ _ hon.2.2).2.1 x hx
      exact ⟨numOf_all hS (by omega) (by omega), by omega⟩
    · have hr := look_ends h0 q hq x hx
      exact numOf_all hS hr.1 hr.2
  rw [hb]

/-- what can be come to can be come to still -/
theorem prune_reach (_hin : EndsIn f.blocks) (hS : ∀ x, S x = true ↔ ReachW f.blocks (-1) x) {x : Nat} (h : ReachW f.blocks (-1) x) : ReachW (pruneM S f).blocks (-1) (cntS S x) := by
  induction h with
  | start h => exact .start h
  | @step x y hy hx hg ih =>
    refine .step ih ?_ (by omega)
    have hSx : S x = true := (hS x).2 (.step hy hx hg)
    have hSy : S y = true := (hS y).2 hy
    unfold succM at hx
    cases hq : f.blocks[y]? with
    | none => rw [hq] at hx; cases hx
    | some q =>
      rw [hq] at hx
      simp only at hx
      obtain ⟨t, ht, rfl⟩ := List.mem_map.1 hx
      have hyl := (List.getElem?_eq_some_iff.1 hq).1
      unfold succM
      rw [show (pruneM S f).blocks[cntS S y]? = some (pruneB (numOf S) q) from prBlocks_at hSy hq _ (Nat.le_refl _) hyl]
      simp only
      show _ ∈ ((q.term.to.map (numOf S)).map Int.toNat)
      rw [List.map_map]
      refine List.mem_map.2 ⟨t, ht, ?_⟩
      show (nowI S t.toNat).toNat = _
      unfold nowI
      rw [hSx, if_pos rfl]
      rfl

theorem prune_come (h0 : (lookM f).1 = 0) (hS : ∀ x, S x = true ↔ ReachW f.blocks (-1) x) {i : Nat} (hi : i < (pruneM S f).blocks.length) : ReachW (pruneM S f).blocks (-1) i := by
  obtain ⟨c, hc⟩ : ∃ c, (pruneM S f).blocks[i]? = some c := ⟨_, List.getElem?_eq_getElem hi⟩
  obtain ⟨k, q, hk, hSk, rfl, _⟩ := prBlocks_of (bs := f.blocks) f.blocks.length (Nat.le_refl _) hc
  exact prune_reach (look_ends h0) hS ((hS k).1 hSk)

theorem prune_len : (pruneM S f).blocks.length = cntS S f.blocks.length := prBlocks_len _ (Nat.le_refl _)
end

end Go.Proofs.Ytncmnbchkabgaaa

namespace Go.Proofs.Ytncmnbchkabgaaa
open Go.RowKit Go.Maps

/-- the first b blocks are renumbered, where they stay -/
def renTo (S : Nat → Bool) (num : Int → Int) : Nat → FuncM → FuncM
  | 0, f => f
  | b + 1, f => if S b then renM num b (renTo S num b f) else renTo S num b f

theorem renTo_block (S : Nat → Bool) (num : Int → Int) (f : FuncM) (k : Nat) : ∀ b, (renTo S num b f).blocks[k]? = f.blocks[k]?.map fun q => if k < b ∧ S k = true then pruneB num q else q
  | 0 => by
    show f.blocks[k]? = _
    cases f.blocks[k]? with
    | none => rfl
    | some q => simp
  | b + 1 => by
    have ih := renTo_block S num f k b
    unfold renTo
    cases hS : S b with
    | false =>
      simp only [Bool.false_eq_true, if_false]
      rw [ih]
      cases f.blocks[k]? with
      | none => rfl
      | some q =>
        simp only [Option.map_some]
        by_cases e : k = b
        · subst e; simp [hS]
        · have e2 : k < b + 1 ↔ k < b := ⟨fun h => by omega, fun h => by omega⟩
          simp only [e2]
    | true =>
      simp only [if_true]
      rw [show (renM num b (renTo S num b f)).blocks[k]? = _ from modify_at _ _ _ _, ih]
      cases f.blocks[k]? with
      | none => simp
      | some q =>
        by_cases e : k = b
        · subst e; simp [hS]
        · rw [if_neg e]
          simp only [Option.map_some]
          have e2 : k < b + 1 ↔ k < b := ⟨fun h => by omega, fun h => by omega⟩
          simp only [e2]

theorem renTo_len (S : Nat → Bool) (num : Int → Int) (f : FuncM) : ∀ b, (renTo S num b f).blocks.length = f.blocks.length
  | 0 => rfl
  | b + 1 => by
    unfold renTo
    split
    · show (List.modify _ _ _).length = _
      rw [List.length_modify]
      exact renTo_len S num f b
    · exact renTo_len S num f b

/-- the cells of the blocks that stay, of the first b -/
def keptC (val : Vals) (f : FuncM) (S : Nat → Bool) : Nat → List Value
  | 0 => []
  | b + 1 => keptC val f S b ++ if S b then (match f.blocks[b]? with | some q => blockCells val b q | none => []) else []

theorem OwnG.keptBut {w w1 : World} {base : Nat} {row : Rows} {val : Vals} {D : Tag → Prop} (h : OwnG w base row val D) (hk : ∀ t g, D t → (val t).ownBlock = some g → w1.heap[g]? = w.heap[g]?) : OwnG w1 base row val D :=
  ⟨h.has, fun t d ht hd => own_same (h.rows t d ht hd) fun b hb _ => hk t b ht hb, h.apart⟩

structure PrSt (f : FuncM) (val : Vals) (S : Nat → Bool) (num : Int → Int) (base : Nat) (w : World) (b c : Nat) (W : World) (v : Vals) (K : Value) : Prop where
  own : Owned W base (renTo S num b f) v
  same : ∀ tag, (∀ k i, tag ≠ .fr k i) → (∀ k i, tag ≠ .vals k i) → v tag = val tag
  ti : ∀ tag, TI (renTo S num b f) tag ↔ TI f tag
  kept : W.ownsRow w.heap.size 46 6 K (cntS S c) (keptC val f S c)
  apart : ∀ tag g, TI f tag → K.ownBlock = some g → (v tag).ownBlock ≠ some g
  old : ∀ tag g, TI f tag → (v tag).ownBlock = some g → (val tag).ownBlock = some g ∨ w.heap.size ≤ g
  keep : ∀ g, g < w.heap.size → (∀ tag, TI f tag → (val tag).ownBlock ≠ some g) → W.heap[g]? = w.heap[g]?
  low : Below base w W
  size : w.heap.size ≤ W.heap.size

section
variable {f : FuncM} {val v : Vals} {S : Nat → Bool} {num : Int → Int} {base b c : Nat} {w W : World} {K : Value}

theorem PrSt.below (h : PrSt f val S num base w b c W v K) {W' : World} (hb : Below W.heap.size W W') (hbase : base ≤ w.heap.size) : PrSt f val S num base w b c W' v K :=
  ⟨h.own.below hb, h.same, h.ti, own_same h.kept fun g _ hg => hb.block g hg, h.apart, h.old, fun g hg hn => (hb.block g (Nat.lt_of_lt_of_le hg h.size)).trans (h.keep g hg hn), h.low.trans (hb.mono (Nat.le_trans hbase h.size)), Nat.le_trans h.size hb.size⟩

theorem PrSt.skip (h : PrSt f val S num base w b b W v K) (hS : S b = false) : PrSt f val S num base w (b + 1) (b + 1) W v K := by
  have e1 : renTo S num (b + 1) f = renTo S num b f := by rw [renTo, hS]; rfl
  have e2 : cntS S (b + 1) = cntS S b := by rw [cntS, hS]; rfl
  have e3 : keptC val f S (b + 1) = keptC val f S b := by rw [keptC, hS]; simp
  exact ⟨by rw [e1]; exact h.own, h.same, fun tag => by rw [e1]; exact h.ti tag, by rw [e2, e3]; exact h.kept, h.apart, h.old, h.keep, h.low, h.size⟩

theorem PrSt.ren (h : PrSt f val S num base w b c W v K) (hS : S b = true) {W' : World} {v1 : Vals} (hr : RnSt (renTo S num b f) v b base W (renM num b (renTo S num b f)) W' v1) : PrSt f val S num base w (b + 1) c W' v1 K := by
  have e1 : renTo S num (b + 1) f = renM num b (renTo S num b f) := by rw [renTo, hS]; rfl
  have hkb : ∀ g, K.ownBlock = some g → w.heap.size ≤ g ∧ g < W.heap.size := fun g hg => h.kept.lt g hg
  refine ⟨by rw [e1]; exact hr.own, fun tag h1 h2 => (hr.same tag (h1 b) (h2 b)).trans (h.same tag h1 h2), fun tag => by rw [e1]; exact (hr.ti tag).trans (h.ti tag), ?_, fun tag g ht hK e => ?_, fun tag g ht e => ?_, fun g hg hn => ?_, h.low.trans hr.low, Nat.le_trans h.size hr.low.size⟩
  · exact own_same h.kept fun g hg hl => hr.keep g hl fun tag ht e => h.apart tag g ((h.ti tag).1 ht) hg e
  · rcases hr.old tag g ((h.ti tag).2 ht) e with k | k
    · exact h.apart tag g ht hK k
    · have := (hkb g hK).2; omega
  · rcases hr.old tag g ((h.ti tag).2 ht) e with k | k
    · exact h.old tag g ht k
    · exact .inr (Nat.le_trans h.size k)
  · rw [hr.keep g (Nat.lt_of_lt_of_le hg h.size) fun tag ht e => ?_]
    · exact h.keep g hg hn
    · rcases h.old tag g ((h.ti tag).1 ht) e with k | k
      · exact hn tag ((h.ti tag).1 ht) k
      · omega

theorem PrSt.push (h : PrSt f val S num base w (c + 1) c W v K) (hS : S c = true) {q : BlockM} (hq : f.blocks[c]? = some q) (hbase : base ≤ w.heap.size) {o : Obj} {W' : World} {g1 d1 : Nat}
    (hown : W'.ownsRow w.heap.size 46 6 (.slice (some ⟨g1, 0, none⟩) (cntS S c + 1) d1) (cntS S c + 1) (keptC val f S c ++ blockCells val c q)) (hg : (W.alloc o).grownBy W' K.ownBlock) (hor : K.ownBlock = some g1 ∨ g1 = (W.alloc o).heap.size) :
    PrSt f val S num base w (c + 1) (c + 1) W' v (.slice (some ⟨g1, 0, none⟩) (cntS S c + 1) d1) := by
  have hs : (W.alloc o).heap.size = W.heap.size + 1 := by simp
  have e2 : cntS S (c + 1) = cntS S c + 1 := by rw [cntS, hS]; rfl
  have e3 : keptC val f S (c + 1) = keptC val f S c ++ blockCells val c q := by rw [keptC, hS, hq]; rfl
  have hblk : ∀ g, g < W.heap.size → K.ownBlock ≠ some g → W'.heap[g]? = W.heap[g]? := fun g hl hne => (hg.block g (by omega) (Ne.symm hne)).trans (Below.heap_alloc W o g hl)
  have hkb : ∀ g, K.ownBlock = some g → w.heap.size ≤ g ∧ g < W.heap.size := fun g hg => h.kept.lt g hg
  have hsz := hg.size
  refine ⟨h.own.keptBut fun t g ht e => hblk g (h.own.lt ht e).2 fun e2 => h.apart t g ((h.ti t).1 ht) e2 e, h.same, h.ti, by rw [e2, e3]; exact hown, fun tag g ht hK e => ?_, h.old, fun g hg2 hn => ?_, ?_, by have := h.size; omega⟩
  · have e4 : g1 = g := Option.some.inj hK
    subst e4
    rcases hor with k | k
    · exact h.apart tag _ ht k e
    · have := (h.own.lt ((h.ti tag).2 ht) e).2
      omega
  · rw [hblk g (Nat.lt_of_lt_of_le hg2 h.size) fun e => by have := (hkb g e).1; omega]
    exact h.keep g hg2 hn
  · refine ⟨hg.os.trans h.low.os, hg.tape.trans h.low.tape, hg.output.trans h.low.output, by have := h.size; omega, fun g hg2 => ?_⟩
    rw [hblk g (by have := h.size; omega) fun e => by have := (hkb g e).1; omega]
    exact h.low.block g hg2
end

end Go.Proofs.Ytncmnbchkabgaaa

namespace Go.Proofs.Ytncmnbchkabgaaa
open Go.RowKit Go.Maps

/-- what prune leaves: the lists of the function as it was renumbered, and a list of the blocks that stay -/
def PruneWPost (f : FuncM) (val : Vals) (base : Nat) (w : World) (e : Ending) (w' : World) : Prop :=
  ∃ (o : List Nat) (v : Vals) (g cap base2 : Nat), OrderIs f.blocks o ∧ 0 < cntS (fun b => decide (b ∈ o)) f.blocks.length ∧
    e = .returned (.agg #[val .params, .int .i64 f.arrays, .int .i64 f.cells, .slice (some ⟨g, 0, none⟩) (cntS (fun b => decide (b ∈ o)) f.blocks.length) cap]) ∧ base ≤ base2 ∧
    Owned w' base (renTo (fun b => decide (b ∈ o)) (numOf (fun b => decide (b ∈ o))) f.blocks.length f) v ∧
    w'.ownsRow base2 46 6 (.slice (some ⟨g, 0, none⟩) (cntS (fun b => decide (b ∈ o)) f.blocks.length) cap) (cntS (fun b => decide (b ∈ o)) f.blocks.length) (keptC val f (fun b => decide (b ∈ o)) f.blocks.length) ∧
    (∀ tag, TI f tag → (v tag).ownBlock ≠ some g) ∧ (∀ tag, (∀ k i, tag ≠ .fr k i) → (∀ k i, tag ≠ .vals k i) → v tag = val tag) ∧
    (∀ tag, TI (renTo (fun b => decide (b ∈ o)) (numOf (fun b => decide (b ∈ o))) f.blocks.length f) tag ↔ TI f tag) ∧ Below base w w'

theorem blk_new (w : World) (cs : List Value) (t : TypeId) : ∀ (j : Nat) (u : Value), cs[j]? = some u → (w.alloc (.cells cs.toArray t)).cell? ((⟨w.heap.size, 0, none⟩ : Addr).add j) = some u := by
  intro j u hu
  have h := heap_alloc_new w (.cells cs.toArray t)
  rw [Go.WideShapes.add_plain, cell_of_row _ _ _ _ _ _ h, Nat.zero_add]
  simpa using hu

set_option maxRecDepth 100000 in
set_option maxHeartbeats 8000000 in
theorem prune_any {f : FuncM} {val : Vals} {base : Nat} {w : World} (ho : Owned w base f val) (h0 : (lookM f).1 = 0) (hfit : FnFits f) (hb : base ≤ w.heap.size) :
    Calls Try.prog 13 #[.agg #[val .params, .int .i64 f.arrays, .int .i64 f.cells, val .blocks]] w (PruneWPost f val base w) := by
  have hs := look_small h0
  have hnb := look_some_block h0
  have hn0 := hnb.1
  have hn5 := hnb.2
  have tiB : TI f .blocks := rfl
  obtain ⟨gb, bc, hvB, hgb1, hgb2⟩ := ho.slice (tp := .blocks) tiB rfl (by show 0 < f.blocks.length; omega)
  have hvB' : val .blocks = .slice (some ⟨gb, 0, none⟩) f.blocks.length bc := hvB
  obtain ⟨PA, pc, hvP⟩ : ∃ PA pc, val .params = .slice PA f.params.length pc := by
    obtain ⟨A, c, h, _⟩ := row_read (ho.rows .params _ rfl rfl) hs.params
    exact ⟨A, c, h⟩
  obtain ⟨n, hn⟩ : ∃ n, n = f.blocks.length := ⟨_, rfl⟩
  obtain ⟨W1, hW1⟩ : ∃ W1, W1 = (w.alloc (.cells #[.slice PA f.params.length pc, .int .i64 f.arrays, .int .i64 f.cells, .slice (some ⟨gb, 0, none⟩) n bc] 37)).alloc (.cells #[.slice none 0 0, .int .i64 0, .int .i64 0, .slice none 0 0] 25) := ⟨_, rfl⟩
  have HB1 : Hid (Below w.heap.size w W1) := by show Below _ _ _; rw [hW1]; exact ((Below.refl _ w).alloc (Nat.le_refl _) _).alloc (by simp) _
  have hs1 : W1.heap.size = w.heap.size + 2 := by rw [hW1]; simp
  have HBOX1 : Hid (W1.heap[w.heap.size]? = some (.cells #[.slice PA f.params.length pc, .int .i64 f.arrays, .int .i64 f.cells, .slice (some ⟨gb, 0, none⟩) n bc] 37 (0, 0))) := by
    show _ = _
    rw [hW1, Below.heap_alloc _ _ _ (by simp)]
    exact heap_alloc_new w _
  have HRES1 : Hid (W1.heap[w.heap.size + 1]? = some (.cells #[.slice none 0 0, .int .i64 0, .int .i64 0, .slice none 0 0] 25 (0, 0))) := by
    show _ = _
    rw [hW1]
    have := heap_alloc_new (w.alloc (.cells #[.slice PA f.params.length pc, .int .i64 f.arrays, .int .i64 f.cells, .slice (some ⟨gb, 0, none⟩) n bc] 37)) (.cells #[.slice none 0 0, .int .i64 0, .int .i64 0, .slice none 0 0] 25)
    simpa using this
  have HO1 : Hid (Owned W1 base f val) := hideI (ho.below HB1.out)
  have HRD : Hid (BlocksR W1 W1.heap.size (.slice (some ⟨gb, 0, none⟩) n bc) f.blocks) := by
    have := (Owned.reads HO1.out h0 hfit).2
    rw [hvB', ← hn] at this
    exact hideI this
  have HLT : Hid (∀ tag g, TI f tag → (val tag).ownBlock = some g → base ≤ g ∧ g < w.heap.size) := hideI (fun tag g ht hg => ho.lt ht hg)
  have HVP := hideI hvP
  have HVB : Hid (val .blocks = .slice (some ⟨gb, 0, none⟩) n bc) := hideI (by rw [hn]; exact hvB')
  have HN := hideI hn
  have H0 := hideI h0
  have HS := hideI hs
  have HW1 := hideI hW1
  have HS1 := hideI hs1
  rw [hvP, hvB', ← hn]
  rw [← hn] at hn0 hn5
  have hx1 := row_cells HBOX1.out rfl
  have q0 := hx1 0
  have q1 := hx1 1
  have q2 := hx1 2
  have q3 := hx1 3
  clear ho h0 hfit hs hnb hvB hvB' hvP hn hW1 hx1 tiB
  go_enter Try.func13, Try.ntmps13
  go_upto_region 1 with fail
  rw [← HW1.out]
  go_wp2_with (go_at_call 30; go_must (refine (numbersNow_any f.blocks W1.heap.size _ _ _ _ _ HRD.out (Nat.le_refl _) (by rw [← HN.out]; exact hn0) (by rw [← HN.out]; exact hn5) (look_ends H0.out)).mono ?_); rintro e w2 ⟨o, gn, rfl, ho, hown, hb2⟩; (rw [← HN.out] at hown ⊢); have HORD := hideI ho; have HNOW := hideI hown; have HB2 := hideI hb2; have hx2 := row_cells HBOX1.out (hb2.block _ (by omega)); clear q0 q1 q2 q3; have q3 := hx2 3; clear ho hown hb2 hx2)
  obtain ⟨S, hS⟩ : ∃ S : Nat → Bool, S = fun b => decide (b ∈ o) := ⟨_, rfl⟩
  have HSS := hideI hS
  rw [← hS] at HNOW
  have hgn := HNOW.out.lt gn rfl
  have hs2 : W1.heap.size ≤ w2.heap.size := HB2.out.size
  have S0 : Hid (PrSt f val S (numOf S) base w2 0 0 w2 val (.slice none 0 0)) := hideI ⟨HO1.out.below HB2.out, fun _ _ _ => rfl, fun _ => Iff.rfl, World.ownsRow_nil _ _ _ _, fun _ _ _ h => (by cases h), fun _ _ _ h => .inl h, fun _ _ _ => rfl, Below.refl _ _, Nat.le_refl _⟩
  have hbw2 : base ≤ w2.heap.size := by omega
  -- what stays through all of it
  have HK : Hid (∀ b c W2 v K, PrSt f val S (numOf S) base w2 b c W2 v K → (∀ o, W2.cell? ⟨w.heap.size, o, none⟩ = (#[.slice PA f.params.length pc, .int .i64 f.arrays, .int .i64 f.cells, .slice (some ⟨gb, 0, none⟩) n bc] : Array Value)[o]?) ∧ (∀ o, W2.frozen? ⟨w.heap.size, o, none⟩ = false) ∧ (∀ o, W2.cell? ⟨w.heap.size + 1, o, none⟩ = (#[.slice none 0 0, .int .i64 0, .int .i64 0, .slice none 0 0] : Array Value)[o]?) ∧ (∀ o, W2.frozen? ⟨w.heap.size + 1, o, none⟩ = false) ∧ (∀ b, b < n → W2.cell? ⟨gn, b, none⟩ = some (.int .i64 (numOf S b))) ∧ (∀ tag, TI f tag → (v tag).ownBlock ≠ some gn ∧ (v tag).ownBlock ≠ some w.heap.size ∧ (v tag).ownBlock ≠ some (w.heap.size + 1))) := hideI (fun b c W2 v K h => by
    have k1 : ∀ g, w.heap.size ≤ g → g < w2.heap.size → W2.heap[g]? = w2.heap[g]? := fun g h1 h2 => h.keep g h2 fun tag ht e => by have := (HLT.out tag g ht e).2; omega
    have k2 := (k1 w.heap.size (Nat.le_refl _) (by omega)).trans (HB2.out.block _ (by omega))
    have k3 := (k1 (w.heap.size + 1) (by omega) (by omega)).trans (HB2.out.block _ (by omega))
    refine ⟨row_cells HBOX1.out k2, free_row' HBOX1.out k2, row_cells HRES1.out k3, free_row' HRES1.out k3, fun b hb => ?_, fun tag ht => ⟨fun e => ?_, fun e => ?_, fun e => ?_⟩⟩
    · rw [World.cell?_of_block (a := ⟨gn, b, none⟩) (k1 gn (by omega) hgn.2), World.ownsRow.cellAt HNOW.out b (by omega), List.getElem?_map, nowTo_at hb, if_pos hb]
      rfl
    all_goals
      rcases h.old tag _ ht e with k | k
      · have := (HLT.out tag _ ht k).2; omega
      · omega)
  clear hS q3
  go_loopw [4, 13] (fun u4 u13 wr => ∃ (b : Nat) (v : Vals) (K : Value), b ≤ n ∧ K = u4 ∧ u13 = .int .i64 b ∧ Hid (PrSt f val S (numOf S) base w2 b b wr v K)) (fun _ u _ => n - (intOf u).toNat)
  case atStart => exact ⟨0, val, _, Nat.zero_le _, rfl, rfl, S0⟩
  case round =>
    obtain ⟨b, v, K, hbn, rfl, rfl, HP⟩ := hrel
    obtain ⟨hx, fx, hy, fy, hnum, hne⟩ := HK.out _ _ _ _ _ HP.out
    have hwr := HP.out.size
    by_cases hlt : b < n
    · obtain ⟨q, hq⟩ : ∃ q, f.blocks[b]? = some q := ⟨_, List.getElem?_eq_getElem (by rw [← HN.out]; exact hlt)⟩
      have hqb : (renTo S (numOf S) b f).blocks[b]? = some q := by rw [renTo_block, hq]; simp
      have hmq := List.mem_of_getElem? hq
      have hsm := HS.out.each q hmq
      obtain ⟨PP, pp, hvp⟩ : ∃ A c, v (.phis b) = .slice A q.phis.length c := by
        obtain ⟨A, c, h, _⟩ := row_read (HP.out.own.rows (.phis b) _ (TI.of (val := v) (row_phis hqb)) (row_phis hqb)) (by show q.phis.length ≤ _; exact hsm.phis)
        exact ⟨A, c, h⟩
      obtain ⟨CC, cc, hvc⟩ : ∃ A c, v (.code b) = .slice A q.code.length c := by
        have hr : rowOf (renTo S (numOf S) b f) v (.code b) = some ⟨53, 4, q.code.length, cellsOf (instrCells v b) 0 q.code⟩ := by simp only [rowOf]; rw [hqb]; rfl
        obtain ⟨A, c, h, _⟩ := row_read (HP.out.own.rows (.code b) _ (TI.of (val := v) hr) hr) (by show q.code.length ≤ _; exact hsm.code)
        exact ⟨A, c, h⟩
      obtain ⟨EE', ee, hve⟩ : ∃ A c, v (.ends b) = .slice A q.term.to.length c := by
        obtain ⟨A, c, h, _⟩ := row_read (HP.out.own.rows (.ends b) _ (TI.of (val := v) (row_ends hqb)) (row_ends hqb)) (by show q.term.to.length ≤ _; exact hsm.ends)
        exact ⟨A, c, h⟩
      have hcells : ∀ r u, r < 6 → (blockCells v b q)[r]? = some u → wr.cell? ⟨gb, b * 6 + r, none⟩ = some u := fun r u hr hu => by
        have hl := renTo_len S (numOf S) f b
        have hvb : v .blocks = .slice (some ⟨gb, 0, none⟩) n bc := by rw [HP.out.same _ (by simp) (by simp)]; exact HVB.out
        have h1 := (HP.out.own.cell (tp := .blocks) rfl rfl hvb (by show (renTo S (numOf S) b f).blocks.length = n; rw [hl, HN.out]) (j := b * 6 + r) (by show _ < n * 6; omega)).1
        have h2 := cellsOf_at (blockCells_len v) (renTo S (numOf S) b f).blocks 0 b r q hqb hr
        rw [Nat.zero_add] at h2
        exact h1.trans (h2.trans hu)
      have c0 := hcells 0 _ (by omega) (by show some (v (.phis b)) = _; rw [hvp])
      have c1 := hcells 1 _ (by omega) (by show some (v (.code b)) = _; rw [hvc])
      have c2 := hcells 2 _ (by omega) rfl
      have c3 := hcells 3 _ (by omega) rfl
      have c4 := hcells 4 _ (by omega) (by show some (v (.ends b)) = _; rw [hve])
      have c5 := hcells 5 _ (by omega) rfl
      rw [Nat.add_zero] at c0
      have d0 := hnum b hlt
      obtain ⟨W7, hW7⟩ : ∃ W7, W7 = wr.alloc (.cells #[.slice PP q.phis.length pp, .slice CC q.code.length cc, .int .i64 q.term.op, .int .i64 q.term.val, .slice EE' q.term.to.length ee, .int .i64 q.term.n] 46) := ⟨_, rfl⟩
      have HW7 := hideI hW7
      have HB7 : Hid (Below wr.heap.size wr W7) := by show Below _ _ _; rw [hW7]; exact (Below.refl _ _).alloc (Nat.le_refl _) _
      have HX7 : Hid (W7.heap[wr.heap.size]? = some (.cells #[.slice PP q.phis.length pp, .slice CC q.code.length cc, .int .i64 q.term.op, .int .i64 q.term.val, .slice EE' q.term.to.length ee, .int .i64 q.term.n] 46 (0, 0))) := by show _ = _; rw [hW7]; exact heap_alloc_new wr _
      have HP7 := hideI (HP.out.below HB7.out hbw2)
      have hlb : gb < wr.heap.size := by have := (HLT.out .blocks gb rfl (by rw [HVB.out]; rfl)).2; omega
      have hln : gn < wr.heap.size := by omega
      obtain ⟨z, hz⟩ : ∃ z, z = numOf S (b : Int) := ⟨_, rfl⟩
      rw [← hz] at d0
      cases hSb : S b with
      | false =>
        have hzb : (z != -1) = false := by rw [hz]; unfold numOf nowI; rw [show ((b : Int)).toNat = b from rfl, hSb]; rfl
        have HSK := hideI (HP7.out.skip hSb)
        clear hx fx hy fy hnum hne hq hqb hmq hsm hvp hvc hve hcells hW7 hz
        go_wp2
        (try rw [← HW7.out])
        go_roundw
        case rel => exact ⟨b + 1, v, _, by omega, rfl, by go_num, HSK⟩
        case measure => simp [intOf]; omega
      | true =>
        have hzb : (z != -1) = true := by
          rw [hz]
          unfold numOf nowI
          rw [show ((b : Int)).toNat = b from rfl, hSb, if_pos rfl]
          exact bne_iff_ne.2 (by omega)
        have hk7 := HK.out _ _ _ _ _ HP7.out
        have hren := renumber_any (numOf S) n gn n W7 HP7.out.own hqb PP CC EE' pp q.code.length cc ee q.term.op q.term.val q.term.n hvp hve (by have := HP7.out.size; omega) hk7.2.2.2.2.1 (by have := HB7.out.size; omega) (fun tag ht => (hk7.2.2.2.2.2 tag ((HP7.out.ti tag).1 ht)).1) hn5
          (fun p hp => by
            have h1 := (formed_all (look_formed H0.out)).1 q hmq
            have h2 := h1.1 p hp
            unfold phiB at h2
            simp only [Bool.and_eq_true, beq_iff_eq] at h2
            have h3 := once_len h2.2.2
            have h4 := look_512 H0.out
            have h5 := (once_nodup _ _ h2.2.2).2.1
            exact ⟨by omega, by omega, fun x hx => by have := h5 x hx; have := HN.out; omega⟩)
          (fun x hx => by have := look_ends H0.out q hmq x hx; have := HN.out; omega) hsm.phis hsm.ends
        have HREN := hideI hren
        have HQB := hideI hq
        have HSB := hideI hSb
        have HVS : Hid (blockCells val b q = [.slice PP q.phis.length pp, .slice CC q.code.length cc, .int .i64 q.term.op, .int .i64 q.term.val, .slice EE' q.term.to.length ee, .int .i64 q.term.n]) := by
          show _ = _
          unfold blockCells
          rw [← HP.out.same _ (by simp) (by simp), ← HP.out.same _ (by simp) (by simp), ← HP.out.same _ (by simp) (by simp), hvp, hvc, hve]
        have HOL : Hid (∀ tag, TI (renTo S (numOf S) b f) tag → (v tag).ownBlock ≠ some wr.heap.size) := hideI (fun tag ht e => by have := (HP.out.own.lt ht e).2; omega)
        have hw7 := lt_of_heap HX7.out
        obtain ⟨i0, hix, hz0, hz1, hz2⟩ := info_parts block_info
        have hcl : cntS S b ≤ b := cntS_le S b
        clear hx fx hy fy hnum hne hq hqb hmq hsm hvp hvc hve hcells hW7 hz hren hk7
        go_wp2_with (first
          | (go_at_call 31; (go_must (rw [← HW7.out])); go_must (refine HREN.out.mono ?_); rintro e w8 ⟨v1, rfl, hr⟩; have hy := row_cells HX7.out (hr.keep wr.heap.size hw7 HOL.out); have y0 := hy 0; have y1 := hy 1; have y2 := hy 2; have y3 := hy 3; have y4 := hy 4; have y5 := hy 5; have HP8 := hideI (HP7.out.ren HSB.out hr); have hl8 : wr.heap.size < w8.heap.size := Nat.lt_of_lt_of_le hw7 hr.low.size; clear hy hr c0 c1 c2 c3 c4 c5 d0)
          | (at_builtin; go_must (refine wpList_append_lies _ rfl _ _ _ rfl w2.heap.size 46 i0 _ 6 96 Try.underlying23 hix hz0 hz1 hz2 rfl (by decide) _ _ _ rfl (HP8.out.kept.alloc _) ⟨w8.heap.size, 0, none⟩ 1 1 [.slice PP q.phis.length pp, .slice CC q.code.length cc, .int .i64 q.term.op, .int .i64 q.term.val, .slice EE' q.term.to.length ee, .int .i64 q.term.n] rfl rfl (blk_new w8 _ _) (by simp [Value.oneCell']) (by decide) (by unfold maxLen; omega) (by omega) (by have := HP8.out.size; simp; omega) _ rfl ?_); intro g1 cap1 w9 hown9 hgrow9 hor9 _; go_must (have HP9 := hideI (HP8.out.push HSB.out HQB.out hbw2 (by rw [HVS.out]; exact hown9) hgrow9 hor9); clear hown9 hgrow9 hor9)))
        go_roundw
        case rel => exact ⟨b + 1, v1, _, by omega, rfl, by go_num, HP9⟩
        case measure => simp [intOf]; omega
    · have e : b = n := by omega
      rw [e] at HP
      have hS0 : S 0 = true := by rw [HSS.out]; exact decide_eq_true ((HORD.out.reach 0).2 (.start (by decide)))
      have hpos : 0 < cntS S n := by have := cntS_lt (S := S) (k := 0) (b := n) hn0 hS0; omega
      obtain ⟨g, cap, hK, hg2, hgr⟩ := HP.out.kept.form hpos
      subst hK
      have b0 := hx 0
      have b1 := hx 1
      have b2 := hx 2
      have b3 := hx 3
      have f3 := fx 3
      have s0 := hy 0
      have s1 := hy 1
      have s2 := hy 2
      have s3 := hy 3
      have g0 := fy 0
      have g1 := fy 1
      have g2 := fy 2
      have g3 := fy 3
      have HNE := hideI hne
      have HPOS := hideI hpos
      clear e hS0 hx fx hy fy hnum hne hpos
      go_wp2
      refine bodyPost_ret (v := .agg #[.slice PA f.params.length pc, .int .i64 f.arrays, .int .i64 f.cells, .slice (some ⟨g, 0, none⟩) (cntS S n) cap]) (by simp [results, Try.results13, go_sem, s0, s1, s2, s3]) rfl ?_
      have hX : ∀ tag, TI (renTo S (numOf S) n f) tag → (v tag).ownBlock ≠ some w.heap.size := fun tag ht => (HNE.out tag ((HP.out.ti tag).1 ht)).2.1
      have hY : ∀ tag, TI (renTo S (numOf S) n f) tag → (v tag).ownBlock ≠ some (w.heap.size + 1) := fun tag ht => (HNE.out tag ((HP.out.ti tag).1 ht)).2.2
      have kX : (Value.slice (some ⟨g, 0, none⟩) (cntS S n) cap).ownBlock ≠ some w.heap.size := fun e => by have : g = w.heap.size := Option.some.inj e; omega
      have kY : (Value.slice (some ⟨g, 0, none⟩) (cntS S n) cap).ownBlock ≠ some (w.heap.size + 1) := fun e => by have : g = w.heap.size + 1 := Option.some.inj e; omega
      have hlow : Below base w wr := (HB1.out.mono hb).trans ((HB2.out.mono (by omega)).trans HP.out.low)
      unfold PruneWPost
      rw [← HN.out]
      refine ⟨o, v, g, cap, w2.heap.size, HORD.out, ?_⟩
      rw [← HSS.out]
      refine ⟨HPOS.out, by rw [HVP.out], hbw2, (((((HP.out.own.other hX).other hY).other hY).other hY).other hY), ?_, fun tag ht => HP.out.apart tag g ht rfl, HP.out.same, HP.out.ti, ?_⟩
      · exact ownsRow_setCell_other (ownsRow_setCell_other (ownsRow_setCell_other (ownsRow_setCell_other (ownsRow_setCell_other HP.out.kept kX _) kY _) kY _) kY _) kY _
      · exact ((((hlow.setCell (by simpa using hb) _).setCell (by simp; omega) _).setCell (by simp; omega) _).setCell (by simp; omega) _).setCell (by simp; omega) _

end Go.Proofs.Ytncmnbchkabgaaa

namespace Go.Proofs.Ytncmnbchkabgaaa
open Go.RowKit Go.Maps

/-- the old number of the block that is number i among those that stay -/
def kth (S : Nat → Bool) : Nat → Nat → Nat
  | 0, i => i
  | b + 1, i => if S b = true ∧ cntS S b = i then b else kth S b i

theorem kth_is {S : Nat → Bool} {i : Nat} : ∀ n, i < cntS S n → kth S n i < n ∧ S (kth S n i) = true ∧ cntS S (kth S n i) = i
  | 0, h => by simp [cntS] at h
  | b + 1, h => by
    unfold kth
    by_cases hc : S b = true ∧ cntS S b = i
    · rw [if_pos hc]; exact ⟨by omega, hc⟩
    · rw [if_neg hc]
      have hi : i < cntS S b := by
        unfold cntS at h
        split at h
        · rename_i hS
          rcases Nat.lt_or_ge i (cntS S b) with k | k
          · exact k
          · exact absurd ⟨hS, by omega⟩ hc
        · omega
      obtain ⟨h1, h2⟩ := kth_is b hi
      exact ⟨by omega, h2⟩

theorem cntS_inj {S : Nat → Bool} {a b : Nat} (ha : S a = true) (hb : S b = true) (h : cntS S a = cntS S b) : a = b := by
  rcases Nat.lt_trichotomy a b with k | k | k
  · have := cntS_lt k ha; omega
  · exact k
  · have := cntS_lt k hb; omega

theorem kth_cnt {S : Nat → Bool} {n k : Nat} (hk : k < n) (hS : S k = true) : kth S n (cntS S k) = k := by
  have h := kth_is n (cntS_lt hk hS)
  exact cntS_inj h.2.1 hS h.2.2

def tagK (r : Nat → Nat) : Tag → Tag
  | .params => .params
  | .blocks => .blocks
  | .phis k => .phis (r k)
  | .code k => .code (r k)
  | .ends k => .ends (r k)
  | .fr k i => .fr (r k) i
  | .vals k i => .vals (r k) i
  | .args k i => .args (r k) i

def valK (r : Nat → Nat) (v : Vals) (K : Value) : Vals
  | .params => v .params
  | .blocks => K
  | .phis k => v (.phis (r k))
  | .code k => v (.code (r k))
  | .ends k => v (.ends (r k))
  | .fr k i => v (.fr (r k) i)
  | .vals k i => v (.vals (r k) i)
  | .args k i => v (.args (r k) i)

theorem valK_at {r : Nat → Nat} {v : Vals} {K : Value} {t : Tag} (h : t ≠ .blocks) : valK r v K t = v (tagK r t) := by
  cases t with
  | blocks => exact absurd rfl h
  | _ => rfl

section
variable {f g : FuncM} {r : Nat → Nat} {v : Vals} {K : Value} {m : Nat}

/-- where each block of f is a block of g, so are the rows -/
theorem row_renamed (hp : f.params = g.params) (hb : ∀ i, i < m → f.blocks[i]? = g.blocks[r i]?) (hm : f.blocks.length = m) {t : Tag} (ht : TI f t) (hne : t ≠ .blocks) : rowOf f (valK r v K) t = rowOf g v (tagK r t) := by
  have hs : ∀ k, blkOf t = some k → k < m := fun k hk => by
    unfold TI at ht
    rcases Nat.lt_or_ge k m with h | h
    · exact h
    · have hf : f.blocks[k]? = none := List.getElem?_eq_none (by omega)
      cases t <;> simp [blkOf] at hk <;> subst hk <;> simp [rowOf, hf] at ht
  cases t with
  | blocks => exact absurd rfl hne
  | params => show some (intsRow f.params) = some (intsRow g.params); rw [hp]
  | phis k => simp only [rowOf, tagK]; rw [hb k (hs k rfl)]; rfl
  | code k => simp only [rowOf, tagK]; rw [hb k (hs k rfl)]; rfl
  | ends k => simp only [rowOf, tagK]; rw [hb k (hs k rfl)]
  | fr k i => simp only [rowOf, tagK]; rw [hb k (hs k rfl)]
  | vals k i => simp only [rowOf, tagK]; rw [hb k (hs k rfl)]
  | args k i => simp only [rowOf, tagK]; rw [hb k (hs k rfl)]

theorem tagK_inj (hm : f.blocks.length = m) (hr : ∀ i j, i < m → j < m → r i = r j → i = j) {t t' : Tag} (ht : TI f t) (ht' : TI f t') (h : tagK r t = tagK r t') : t = t' := by
  have hs : ∀ t, TI f t → ∀ k, blkOf t = some k → k < m := fun t ht k hk => by
    unfold TI at ht
    rcases Nat.lt_or_ge k m with h | h
    · exact h
    · have hf : f.blocks[k]? = none := List.getElem?_eq_none (by omega)
      cases t <;> simp [blkOf] at hk <;> subst hk <;> simp [rowOf, hf] at ht
  have h1 := hs t ht
  have h2 := hs t' ht'
  cases t <;> cases t' <;> simp [tagK] at h <;> first
    | rfl
    | (have e := hr _ _ (h1 _ rfl) (h2 _ rfl) h; rw [e])
    | (have e := hr _ _ (h1 _ rfl) (h2 _ rfl) h.1; rw [e, h.2])

theorem owned_renamed {W : World} {base : Nat} (ho : Owned W base g v) (hp : f.params = g.params) (hb : ∀ i, i < m → f.blocks[i]? = g.blocks[r i]?) (hm : f.blocks.length = m) (hr : ∀ i j, i < m → j < m → r i = r j → i = j)
    (hK : W.ownsRow base 46 6 K m (cellsOf (blockCells (valK r v K)) 0 f.blocks)) (hap : ∀ t gK, TI g t → K.ownBlock = some gK → (v t).ownBlock ≠ some gK) : Owned W base f (valK r v K) := by
  have hrow : ∀ t, TI f t → t ≠ .blocks → rowOf f (valK r v K) t = rowOf g v (tagK r t) := fun t ht hne => row_renamed hp hb hm ht hne
  have hti : ∀ t, TI f t → t ≠ .blocks → TI g (tagK r t) := fun t ht hne => by
    obtain ⟨d, hd⟩ := TI.row ht (valK r v K)
    rw [hrow t ht hne] at hd
    exact TI.of hd
  refine ⟨fun t ht => ?_, fun t d ht hd => ?_, fun t t' gb ht ht' e1 e2 => ?_⟩
  · obtain ⟨d, hd⟩ := TI.row ht (valK r v K)
    rw [hd]; rfl
  · by_cases hne : t = .blocks
    · subst hne
      have hd' : some (⟨46, 6, f.blocks.length, cellsOf (blockCells (valK r v K)) 0 f.blocks⟩ : RowD) = some d := hd
      cases hd'
      show W.ownsRow base _ 6 K f.blocks.length _
      rw [hm]
      exact hK
    · rw [hrow t ht hne] at hd
      rw [valK_at hne]
      exact ho.rows _ d (hti t ht hne) hd
  · by_cases hne : t = .blocks
    · by_cases hne' : t' = .blocks
      · rw [hne, hne']
      · subst hne
        rw [valK_at hne'] at e2
        exact absurd e2 (hap _ gb (hti t' ht' hne') e1)
    · by_cases hne' : t' = .blocks
      · subst hne'
        rw [valK_at hne] at e1
        exact absurd e1 (hap _ gb (hti t ht hne) e2)
      · rw [valK_at hne] at e1
        rw [valK_at hne'] at e2
        exact tagK_inj hm hr ht ht' (ho.apart _ _ gb (hti t ht hne) (hti t' ht' hne') e1 e2)
end

theorem keptC_cells {f : FuncM} {S : Nat → Bool} {num : Int → Int} {val v : Vals} {K : Value} (hv : ∀ tag, (∀ k i, tag ≠ .fr k i) → (∀ k i, tag ≠ .vals k i) → v tag = val tag) : ∀ b, b ≤ f.blocks.length → keptC val f S b = cellsOf (blockCells (valK (kth S f.blocks.length) v K)) 0 (prBlocks S num f.blocks b)
  | 0, _ => rfl
  | b + 1, hb => by
    have hq : f.blocks[b]? = some f.blocks[b] := List.getElem?_eq_getElem (by omega)
    rw [keptC, prBlocks, hq, keptC_cells (num := num) (K := K) hv b (by omega)]
    cases hS : S b with
    | false => simp
    | true =>
      simp only [if_true]
      rw [cellsOf_push (g' := blockCells (valK (kth S f.blocks.length) v K)) _ _ _ (fun _ _ _ => rfl), prBlocks_len b (by omega), Nat.zero_add]
      congr 1
      unfold blockCells
      show _ = [v (.phis (kth S f.blocks.length (cntS S b))), v (.code (kth S f.blocks.length (cntS S b))), _, _, v (.ends (kth S f.blocks.length (cntS S b))), _]
      rw [kth_cnt (by omega) hS, hv _ (by simp) (by simp), hv _ (by simp) (by simp), hv _ (by simp) (by simp)]
      rfl

/-- the pruned function, owned -/
theorem pruned_owned {f : FuncM} {val v : Vals} {S : Nat → Bool} {base base2 g cap : Nat} {W : World} (ho : Owned W base (renTo S (numOf S) f.blocks.length f) v) (hbb : base ≤ base2)
    (hK : W.ownsRow base2 46 6 (.slice (some ⟨g, 0, none⟩) (cntS S f.blocks.length) cap) (cntS S f.blocks.length) (keptC val f S f.blocks.length))
    (hap : ∀ tag, TI f tag → (v tag).ownBlock ≠ some g) (hv : ∀ tag, (∀ k i, tag ≠ .fr k i) → (∀ k i, tag ≠ .vals k i) → v tag = val tag) (hti : ∀ tag, TI (renTo S (numOf S) f.blocks.length f) tag ↔ TI f tag) (hpar : (renTo S (numOf S) f.blocks.length f).params = f.params) :
    Owned W base (pruneM S f) (valK (kth S f.blocks.length) v (.slice (some ⟨g, 0, none⟩) (cntS S f.blocks.length) cap)) := by
  refine owned_renamed (m := cntS S f.blocks.length) ho (by rw [hpar]; rfl) (fun i hi => ?_) prune_len (fun i j hi hj e => ?_) ?_ (fun t gK ht hK' e => ?_)
  · obtain ⟨h1, h2, h3⟩ := kth_is f.blocks.length hi
    have hq : f.blocks[kth S f.blocks.length i]? = some (f.blocks[kth S f.blocks.length i]'h1) := List.getElem?_eq_getElem _
    have := prBlocks_at (num := numOf S) h2 hq _ (Nat.le_refl _) h1
    rw [h3] at this
    rw [renTo_block, hq]
    simp only [Option.map_some]
    rw [if_pos ⟨h1, h2⟩]
    exact this
  · have h1 := (kth_is f.blocks.length hi).2.2
    have h2 := (kth_is f.blocks.length hj).2.2
    rw [← h1, ← h2, e]
  · have := World.ownsRow.mono hK hbb
    rw [keptC_cells (num := numOf S) (K := .slice (some ⟨g, 0, none⟩) (cntS S f.blocks.length) cap) hv _ (Nat.le_refl _)] at this
    exact this
  · have e2 : g = gK := Option.some.inj hK'
    subst e2
    exact hap t ((hti t).1 ht) e

theorem renTo_params (S : Nat → Bool) (num : Int → Int) (f : FuncM) : ∀ b, (renTo S num b f).params = f.params
  | 0 => rfl
  | b + 1 => by
    unfold renTo
    split
    · exact renTo_params S num f b
    · exact renTo_params S num f b

end Go.Proofs.Ytncmnbchkabgaaa

namespace Go.Proofs.Ytncmnbchkabgaaa
open Go.RowKit Go.Maps

section
variable {f : FuncM} {S : Nat → Bool} {num : Int → Int}

theorem prune_block {c : BlockM} (h : c ∈ (pruneM S f).blocks) : ∃ q ∈ f.blocks, c = pruneB (numOf S) q := by
  obtain ⟨i, hi⟩ := List.getElem?_of_mem h
  obtain ⟨k, q, _, _, _, hq, rfl⟩ := prBlocks_of (bs := f.blocks) f.blocks.length (Nat.le_refl _) hi
  exact ⟨q, List.mem_of_getElem? hq, rfl⟩

theorem keepV_mem {fr vals : List Int} {v : Int} (hl : vals.length = fr.length) : ∀ k, k ≤ fr.length → v ∈ keepV num fr vals k → v ∈ vals
  | 0, _, h => by cases h
  | k + 1, hk, h => by
    have hx : fr[k]? = some fr[k] := List.getElem?_eq_getElem (by omega)
    have hy : vals[k]? = some (vals[k]'(by omega)) := List.getElem?_eq_getElem _
    rw [keepV, hx] at h
    rcases List.mem_append.1 h with h | h
    · exact keepV_mem hl k (by omega) h
    · simp only at h
      split at h
      · cases h
      · rw [hy, List.mem_singleton] at h
        rw [h]
        exact List.mem_of_getElem? hy

theorem prune_small (h0 : (lookM f).1 = 0) : SmallF (pruneM S f) := by
  have hs := look_small h0
  refine ⟨hs.params, ?_, fun c hc => ?_⟩
  · rw [prune_len]
    exact Nat.le_trans (cntS_le S _) hs.blocks
  · obtain ⟨q, hq, rfl⟩ := prune_block hc
    have h := hs.each q hq
    refine ⟨by show (q.phis.map _).length ≤ _; rw [List.length_map]; exact h.phis, h.code, by show (q.term.to.map _).length ≤ _; rw [List.length_map]; exact h.ends, fun p hp => ?_, h.args⟩
    obtain ⟨p0, hp0, rfl⟩ := List.mem_map.1 hp
    have h1 := h.fr p0 hp0
    have h2 := keepF_le (numOf S) p0.fr p0.fr.length
    show (keepF (numOf S) p0.fr p0.fr.length).length ≤ _ ∧ (keepV (numOf S) p0.fr p0.vals p0.fr.length).length ≤ _
    rw [keep_len]
    exact ⟨Nat.le_trans h2 h1.1, Nat.le_trans h2 h1.1⟩

theorem prune_fits (h : FnFits f) : FnFits (pruneM S f) := by
  refine ⟨fun c hc p hp => ?_, fun c hc x hx => ?_, fun c hc => ?_⟩
  all_goals obtain ⟨q, hq, rfl⟩ := prune_block hc
  · obtain ⟨p0, hp0, rfl⟩ := List.mem_map.1 hp
    exact h.phi q hq p0 hp0
  · exact h.code q hq x hx
  · exact h.term q hq

theorem prune_uses (h0 : (lookM f).1 = 0) : ∀ u ∈ usesM (pruneM S f), u ∈ usesM f := by
  intro u hu
  obtain ⟨c, hc, hu⟩ := List.mem_flatMap.1 hu
  obtain ⟨q, hq, rfl⟩ := prune_block hc
  refine List.mem_flatMap.2 ⟨q, hq, ?_⟩
  unfold usesBlock at hu ⊢
  rcases List.mem_append.1 hu with hu | hu
  · obtain ⟨p, hp, hu⟩ := List.mem_flatMap.1 hu
    obtain ⟨p0, hp0, rfl⟩ := List.mem_map.1 hp
    refine List.mem_append.2 (.inl (List.mem_flatMap.2 ⟨p0, hp0, ?_⟩))
    obtain ⟨v, hv, rfl⟩ := List.mem_map.1 hu
    exact List.mem_map.2 ⟨v, keepV_mem (look_phi h0 q hq p0 hp0) _ (Nat.le_refl _) hv, rfl⟩
  · exact List.mem_append.2 (.inr hu)
end

theorem Owned.readsS {w : World} {base : Nat} {f : FuncM} {val : Vals} (h : Owned w base f val) (h0 : SmallF f) (hf : FnFits f) : Ints w w.heap.size (val .params) f.params ∧ BlocksR w w.heap.size (val .blocks) f.blocks := by
  have hr := OwnG.rd (h.ee fun t ht => ht.ti) h0
  exact ⟨hr.params, hr.blocks hf⟩

/-- the blocks of an order, as a Bool -/
def inO (o : List Nat) (b : Nat) : Bool := decide (b ∈ o)

def GPrunePost (f : FuncM) (w : World) (e : Ending) (w' : World) : Prop :=
  (∃ c, c ≠ 0 ∧ (((lookM f).1 ≠ 0 ∧ c = (lookM f).1) ∨ ((lookM f).1 = 0 ∧ ∃ o, OrderIs f.blocks o ∧ c = (lookM (pruneM (inO o) f)).1)) ∧ e = .returned (.tuple #[.agg #[.slice none 0 0, .int .i64 0, .int .i64 0, .slice none 0 0], .int .i64 c]) ∧ Below w.heap.size w w') ∨
  ((lookM f).1 = 0 ∧ ∃ (o : List Nat) (A : Option Addr) (c : Nat) (A' : Option Addr) (c' : Nat), OrderIs f.blocks o ∧ (lookM (pruneM (inO o) f)).1 = 0 ∧
    e = .returned (.tuple #[.agg #[.slice A f.params.length c, .int .i64 f.arrays, .int .i64 f.cells, .slice A' (pruneM (inO o) f).blocks.length c'], .int .i64 0]) ∧
    Ints w' w'.heap.size (.slice A f.params.length c) f.params ∧ BlocksR w' w'.heap.size (.slice A' (pruneM (inO o) f).blocks.length c') (pruneM (inO o) f).blocks ∧ Below w.heap.size w w')

/-- prune over a fresh copy, as it is called -/
def PrunedPost (f : FuncM) (base : Nat) (A : Option Addr) (c : Nat) (w : World) (e : Ending) (w' : World) : Prop :=
  ∃ (o : List Nat) (vK : Vals) (g cap : Nat), OrderIs f.blocks o ∧ e = .returned (.agg #[.slice A f.params.length c, .int .i64 f.arrays, .int .i64 f.cells, .slice (some ⟨g, 0, none⟩) (pruneM (inO o) f).blocks.length cap]) ∧
    Owned w' base (pruneM (inO o) f) vK ∧ vK .params = .slice A f.params.length c ∧ vK .blocks = .slice (some ⟨g, 0, none⟩) (pruneM (inO o) f).blocks.length cap ∧ Below base w w'

theorem prune_own {f : FuncM} {base : Nat} {w : World} {v1 : Vals} {A A' : Option Addr} {c c' : Nat} (ho : Owned w base f v1) (e1 : v1 .params = .slice A f.params.length c) (e2 : v1 .blocks = .slice A' f.blocks.length c') (h0 : (lookM f).1 = 0) (hf : FnFits f) (hb : base ≤ w.heap.size) :
    Calls Try.prog 13 #[.agg #[.slice A f.params.length c, .int .i64 f.arrays, .int .i64 f.cells, .slice A' f.blocks.length c']] w (PrunedPost f base A c w) := by
  have h := prune_any ho h0 hf hb
  rw [e1, e2] at h
  refine h.mono ?_
  rintro e w' ⟨o, v, g, cap, base2, hor, hpos, rfl, hbb, hown, hK, hap, hv, hti, hlow⟩
  have hP := pruned_owned (S := inO o) hown hbb hK hap hv hti (renTo_params _ _ _ _)
  have hl : (pruneM (inO o) f).blocks.length = cntS (inO o) f.blocks.length := prune_len
  have hvp : v .params = .slice A f.params.length c := by rw [hv .params (by simp) (by simp), e1]
  exact ⟨o, _, g, cap, hor, by rw [hl, e1]; rfl, hP, hvp, by rw [hl]; rfl, hlow⟩

set_option maxRecDepth 100000 in
set_option maxHeartbeats 4000000 in
theorem gPrune_any (f : FuncM) (B : Nat) (pv bv : Value) (w : World) (hpv : Ints w B pv f.params) (hbv : BlocksR w B bv f.blocks) (hB : B ≤ w.heap.size) (hid : ∀ u ∈ usesM f, I64 u.1) :
    Calls Try.prog 5 #[.agg #[pv, .int .i64 f.arrays, .int .i64 f.cells, bv]] w (GPrunePost f w) := by
  have HP := hideI hpv
  have HBL := hideI hbv
  have HID := hideI hid
  have HFT : Hid (FnFits f) := BlocksR.fits hbv
  obtain ⟨P, pc, rfl, _⟩ := hpv
  obtain ⟨A, c, rfl, hbm, _⟩ := hbv
  obtain ⟨W0, hW0⟩ : ∃ W0, W0 = (w.alloc (.cells #[.slice P f.params.length pc, .int .i64 f.arrays, .int .i64 f.cells, .slice A f.blocks.length c] 25)).alloc (.cells #[.slice none 0 0, .int .i64 0, .int .i64 0, .slice none 0 0] 25) := ⟨_, rfl⟩
  have hB0 : Below w.heap.size w W0 := by rw [hW0]; exact ((Below.refl _ w).alloc (Nat.le_refl _) _).alloc (by simp) _
  have hs0 : W0.heap.size = w.heap.size + 2 := by rw [hW0]; simp
  have hbox : W0.heap[w.heap.size]? = some (.cells #[.slice P f.params.length pc, .int .i64 f.arrays, .int .i64 f.cells, .slice A f.blocks.length c] 25 (0, 0)) := by
    rw [hW0, Below.heap_alloc _ _ _ (by simp)]
    exact heap_alloc_new w _
  have hres : W0.heap[w.heap.size + 1]? = some (.cells #[.slice none 0 0, .int .i64 0, .int .i64 0, .slice none 0 0] 25 (0, 0)) := by
    rw [hW0]
    have := heap_alloc_new (w.alloc (.cells #[.slice P f.params.length pc, .int .i64 f.arrays, .int .i64 f.cells, .slice A f.blocks.length c] 25)) (.cells #[.slice none 0 0, .int .i64 0, .int .i64 0, .slice none 0 0] 25)
    simpa using this
  have HW0 := hideI hW0
  have HB0 := hideI hB0
  have HS0 := hideI hs0
  have G0 : Hid (∀ W, Below W0.heap.size W0 W → (∀ o, W.cell? ⟨w.heap.size, o, none⟩ = (#[.slice P f.params.length pc, .int .i64 f.arrays, .int .i64 f.cells, .slice A f.blocks.length c] : Array Value)[o]?) ∧ (∀ o, W.cell? ⟨w.heap.size + 1, o, none⟩ = (#[.slice none 0 0, .int .i64 0, .int .i64 0, .slice none 0 0] : Array Value)[o]?) ∧ (∀ o, W.frozen? ⟨w.heap.size + 1, o, none⟩ = false)) := fun W hW => by
    have h1 := hW.block w.heap.size (by omega)
    have h2 := hW.block (w.heap.size + 1) (by omega)
    exact ⟨row_cells hbox h1, row_cells hres h2, free_row' hres h2⟩
  have HPW : Hid (∀ W, Below W0.heap.size W0 W → Ints W B (.slice P f.params.length pc) f.params ∧ BlocksR W B (.slice A f.blocks.length c) f.blocks ∧ Below w.heap.size w W) := fun W hW => by
    have h1 : Below w.heap.size w W := HB0.out.trans (hW.mono (by omega))
    exact ⟨HP.out.keeps (Keeps.of_below (h1.mono hB)), HBL.out.keeps (Keeps.of_below (h1.mono hB)), h1⟩
  obtain ⟨q1, q2, q3⟩ := G0.out W0 (Below.refl _ _)
  have b0 := q1 0
  have b1 := q1 1
  have b2 := q1 2
  have b3 := q1 3
  have s0 := q2 0
  have s1 := q2 1
  have s2 := q2 2
  have s3 := q2 3
  have g0 := q3 0
  have g1 := q3 1
  have g2 := q3 2
  have g3 := q3 3
  clear hid hW0 hB0 hs0 hbox hres q1 q2 q3
  by_cases h0 : (lookM f).1 = 0
  · have H0 := hideI h0
    clear h0
    by_cases hz : ∃ o, OrderIs f.blocks o ∧ (lookM (pruneM (inO o) f)).1 = 0
    · have HZ := hideI hz
      clear hz
      go_enter Try.func5, Try.ntmps5
      go_upto_region 1 with fail
      rw [← HW0.out]
      go_upto_region 5 with (first
        | (go_at_call 11; go_must (refine (check_any f B _ _ _ (HPW.out _ (Below.refl _ _)).1 (HPW.out _ (Below.refl _ _)).2.1 (by have := HS0.out; omega) HID.out).mono ?_); rw [H0.out]; rintro e w1 ⟨rfl, hb⟩; have HB1 := hideI hb; clear b0 b1 b2 b3 s0 s1 s2 s3 g0 g1 g2 g3; (obtain ⟨q1, q2, q3⟩ := G0.out _ hb); have b0 := q1 0; have b1 := q1 1; have b2 := q1 2; have b3 := q1 3; clear q1 q2 q3 hb)
        | (go_at_call 12; go_must (refine (fresh_own f B _ _ _ (HPW.out _ HB1.out).1 (HPW.out _ HB1.out).2.1 (by have := HS0.out; have := HB1.out.size; omega) H0.out).mono ?_); rintro e w3 ⟨v1, base, A1, c1, A2, c2, rfl, e1, e2, hown, hw1, hw2, hb⟩; have HE1 := hideI e1; have HE2 := hideI e2; have HOW := hideI hown; have HB3 := hideI (HB1.out.trans (hb.mono HB1.out.size)); clear e1 e2 hown hb b0 b1 b2 b3)
        | (go_at_call 13; go_must (refine (prune_own HOW.out HE1.out HE2.out H0.out HFT.out hw2).mono ?_); rintro e w4 ⟨o, vK, g, cap, hor, rfl, hown2, e3, e4, hb⟩; have hz0 : (lookM (pruneM (inO o) f)).1 = 0 := (by obtain ⟨o2, ho2, hl2⟩ := HZ.out; rw [hor.one ho2]; exact hl2); have HZ0 := hideI hz0; have HE3 := hideI e3; have HE4 := hideI e4; have HOR := hideI hor; have HOW2 := hideI hown2; have HB4 := hideI (HB3.out.trans (hb.mono (Nat.le_trans HB1.out.size hw1))); clear hb e3 e4 hown2 hz0 hor))
      obtain ⟨W5, hW5⟩ : ∃ W5 : World, W5 = w4.alloc (.cells #[.slice A1 f.params.length c1, .int .i64 f.arrays, .int .i64 f.cells, .slice (some ⟨g, 0, none⟩) (pruneM (inO o) f).blocks.length cap] 25) := ⟨_, rfl⟩
      have HB5 : Hid (Below w4.heap.size w4 W5) := by show Below _ _ _; rw [hW5]; exact (Below.refl _ _).alloc (Nat.le_refl _) _
      have HX5 : Hid (W5.heap[w4.heap.size]? = some (.cells #[.slice A1 f.params.length c1, .int .i64 f.arrays, .int .i64 f.cells, .slice (some ⟨g, 0, none⟩) (pruneM (inO o) f).blocks.length cap] 25 (0, 0))) := by show _ = _; rw [hW5]; exact heap_alloc_new w4 _
      have HOW5 : Hid (Owned W5 base (pruneM (inO o) f) vK) := hideI (HOW2.out.below HB5.out)
      have HRD5 : Hid (Ints W5 W5.heap.size (.slice A1 f.params.length c1) f.params ∧ BlocksR W5 W5.heap.size (.slice (some ⟨g, 0, none⟩) (pruneM (inO o) f).blocks.length cap) (pruneM (inO o) f).blocks) := by
        have := HOW5.out.readsS (prune_small H0.out) (prune_fits HFT.out)
        rw [HE3.out, HE4.out] at this
        exact hideI this
      rw [← hW5]
      have hy := row_cells HX5.out rfl
      have y0 := hy 0
      have y1 := hy 1
      have y2 := hy 2
      have y3 := hy 3
      have hw4 := lt_of_heap HX5.out
      have hwb : w.heap.size + 2 ≤ base := by have := HS0.out; have := HB1.out.size; omega
      have HB05 : Hid (Below W0.heap.size W0 W5) := hideI (HB4.out.trans (HB5.out.mono HB4.out.size))
      clear hW5 hy
      go_wp2_with (go_at_call 11; go_must (refine (check_any (pruneM (inO o) f) W5.heap.size _ _ _ HRD5.out.1 HRD5.out.2 (Nat.le_refl _) (fun u hu => HID.out u (prune_uses H0.out u hu))).mono ?_); rw [HZ0.out]; rintro e w6 ⟨rfl, hb⟩; have HOW6 := hideI (HOW5.out.below hb); have HB6 := hideI (HB05.out.trans (hb.mono HB05.out.size)); clear y0 y1 y2 y3; have hy := row_cells HX5.out (hb.block _ hw4); have y0 := hy 0; have y1 := hy 1; have y2 := hy 2; have y3 := hy 3; (obtain ⟨q1, q2, q3⟩ := G0.out _ HB6.out); have s0 := q2 0; have s1 := q2 1; have s2 := q2 2; have s3 := q2 3; have g0 := q3 0; have g1 := q3 1; have g2 := q3 2; have g3 := q3 3; clear q1 q2 q3 hb hy)
      have hno : ∀ t, TI (pruneM (inO o) f) t → (vK t).ownBlock ≠ some (w.heap.size + 1) := fun t ht e => by
        have := (HOW6.out.lt ht e).1
        omega
      have hrd : ∀ W, Owned W base (pruneM (inO o) f) vK → Ints W W.heap.size (.slice A1 f.params.length c1) f.params ∧ BlocksR W W.heap.size (.slice (some ⟨g, 0, none⟩) (pruneM (inO o) f).blocks.length cap) (pruneM (inO o) f).blocks := fun W h => by
        have := h.readsS (prune_small H0.out) (prune_fits HFT.out)
        rw [HE3.out, HE4.out] at this
        exact this
      have hsz := HB6.out.size
      have hs0 := HS0.out
      refine bodyPost_ret (v := .tuple #[.agg #[.slice A1 f.params.length c1, .int .i64 f.arrays, .int .i64 f.cells, .slice (some ⟨g, 0, none⟩) (pruneM (inO o) f).blocks.length cap], .int .i64 0]) (by simp [results, Try.results5, go_sem, s0, s1, s2, s3]) rfl (.inr ⟨H0.out, o, A1, c1, some ⟨g, 0, none⟩, cap, HOR.out, HZ0.out, rfl, ?_, ?_, ?_⟩)
      · refine (hrd _ ?_).1
        exact (((OwnG.other HOW6.out hno).other hno).other hno).other hno
      · refine (hrd _ ?_).2
        exact (((OwnG.other HOW6.out hno).other hno).other hno).other hno
      exact ((((HPW.out _ HB6.out).2.2.setCell (by simp) _).setCell (by simp) _).setCell (by simp) _).setCell (by simp) _
    · have HZ := hideI hz
      clear hz
      go_enter Try.func5, Try.ntmps5
      go_upto_region 1 with fail
      rw [← HW0.out]
      go_upto_region 5 with (first
        | (go_at_call 11; go_must (refine (check_any f B _ _ _ (HPW.out _ (Below.refl _ _)).1 (HPW.out _ (Below.refl _ _)).2.1 (by have := HS0.out; omega) HID.out).mono ?_); rw [H0.out]; rintro e w1 ⟨rfl, hb⟩; have HB1 := hideI hb; clear b0 b1 b2 b3 s0 s1 s2 s3 g0 g1 g2 g3; (obtain ⟨q1, q2, q3⟩ := G0.out _ hb); have b0 := q1 0; have b1 := q1 1; have b2 := q1 2; have b3 := q1 3; clear q1 q2 q3 hb)
        | (go_at_call 12; go_must (refine (fresh_own f B _ _ _ (HPW.out _ HB1.out).1 (HPW.out _ HB1.out).2.1 (by have := HS0.out; have := HB1.out.size; omega) H0.out).mono ?_); rintro e w3 ⟨v1, base, A1, c1, A2, c2, rfl, e1, e2, hown, hw1, hw2, hb⟩; have HE1 := hideI e1; have HE2 := hideI e2; have HOW := hideI hown; have HB3 := hideI (HB1.out.trans (hb.mono HB1.out.size)); clear e1 e2 hown hb b0 b1 b2 b3)
        | (go_at_call 13; go_must (refine (prune_own HOW.out HE1.out HE2.out H0.out HFT.out hw2).mono ?_); rintro e w4 ⟨o, vK, g, cap, hor, rfl, hown2, e3, e4, hb⟩; have hz0 : (lookM (pruneM (inO o) f)).1 ≠ 0 := (fun e => HZ.out ⟨o, hor, e⟩); have HZ0 := hideI hz0; have HE3 := hideI e3; have HE4 := hideI e4; have HOR := hideI hor; have HOW2 := hideI hown2; have HB4 := hideI (HB3.out.trans (hb.mono (Nat.le_trans HB1.out.size hw1))); clear hb e3 e4 hown2 hz0 hor))
      obtain ⟨W5, hW5⟩ : ∃ W5 : World, W5 = w4.alloc (.cells #[.slice A1 f.params.length c1, .int .i64 f.arrays, .int .i64 f.cells, .slice (some ⟨g, 0, none⟩) (pruneM (inO o) f).blocks.length cap] 25) := ⟨_, rfl⟩
      have HB5 : Hid (Below w4.heap.size w4 W5) := by show Below _ _ _; rw [hW5]; exact (Below.refl _ _).alloc (Nat.le_refl _) _
      have HX5 : Hid (W5.heap[w4.heap.size]? = some (.cells #[.slice A1 f.params.length c1, .int .i64 f.arrays, .int .i64 f.cells, .slice (some ⟨g, 0, none⟩) (pruneM (inO o) f).blocks.length cap] 25 (0, 0))) := by show _ = _; rw [hW5]; exact heap_alloc_new w4 _
      have HOW5 : Hid (Owned W5 base (pruneM (inO o) f) vK) := hideI (HOW2.out.below HB5.out)
      have HRD5 : Hid (Ints W5 W5.heap.size (.slice A1 f.params.length c1) f.params ∧ BlocksR W5 W5.heap.size (.slice (some ⟨g, 0, none⟩) (pruneM (inO o) f).blocks.length cap) (pruneM (inO o) f).blocks) := by
        have := HOW5.out.readsS (prune_small H0.out) (prune_fits HFT.out)
        rw [HE3.out, HE4.out] at this
        exact hideI this
      rw [← hW5]
      have hy := row_cells HX5.out rfl
      have y0 := hy 0
      have y1 := hy 1
      have y2 := hy 2
      have y3 := hy 3
      have hw4 := lt_of_heap HX5.out
      have hwb : w.heap.size + 2 ≤ base := by have := HS0.out; have := HB1.out.size; omega
      have HB05 : Hid (Below W0.heap.size W0 W5) := hideI (HB4.out.trans (HB5.out.mono HB4.out.size))
      clear hW5 hy
      obtain ⟨cz, hcz⟩ : ∃ cz, cz = (lookM (pruneM (inO o) f)).1 := ⟨_, rfl⟩
      have HCZ := hideI hcz
      have hne : (cz != 0) = true := by rw [hcz]; simpa using HZ0.out
      clear hcz
      go_wp2_with (go_at_call 11; go_must (refine (check_any (pruneM (inO o) f) W5.heap.size _ _ _ HRD5.out.1 HRD5.out.2 (Nat.le_refl _) (fun u hu => HID.out u (prune_uses H0.out u hu))).mono ?_); rw [← HCZ.out]; rintro e w6 ⟨rfl, hb⟩; have HB6 := hideI (HB05.out.trans (hb.mono HB05.out.size)); clear y0 y1 y2 y3; (obtain ⟨q1, q2, q3⟩ := G0.out _ HB6.out); have s0 := q2 0; have s1 := q2 1; have s2 := q2 2; have s3 := q2 3; have g0 := q3 0; have g1 := q3 1; have g2 := q3 2; have g3 := q3 3; clear q1 q2 q3 hb)
      refine bodyPost_ret (v := .tuple #[.agg #[.slice none 0 0, .int .i64 0, .int .i64 0, .slice none 0 0], .int .i64 cz]) (by simp [results, Try.results5, go_sem, s0, s1, s2, s3]) rfl (.inl ⟨cz, by rw [HCZ.out]; exact HZ0.out, .inr ⟨H0.out, o, HOR.out, HCZ.out⟩, rfl, ?_⟩)
      exact ((((HPW.out _ HB6.out).2.2.setCell (by simp) _).setCell (by simp) _).setCell (by simp) _).setCell (by simp) _
  · have H0 := hideI h0
    have hb0 : ((lookM f).1 != 0) = true := by simpa using h0
    clear h0
    go_enter Try.func5, Try.ntmps5
    go_upto_region 1 with fail
    rw [← HW0.out]
    go_wp2_with (first
      | (go_at_call 11; go_must (refine (check_any f B _ _ _ (HPW.out _ (Below.refl _ _)).1 (HPW.out _ (Below.refl _ _)).2.1 (by have := HS0.out; omega) HID.out).mono ?_); rintro e w1 ⟨rfl, hb⟩; have HB1 := hideI hb; clear b0 b1 b2 b3 s0 s1 s2 s3 g0 g1 g2 g3; (obtain ⟨q1, q2, q3⟩ := G0.out _ hb); have s0 := q2 0; have s1 := q2 1; have s2 := q2 2; have s3 := q2 3; have g0 := q3 0; have g1 := q3 1; have g2 := q3 2; have g3 := q3 3; clear q1 q2 q3 hb))
    refine bodyPost_ret (v := .tuple #[.agg #[.slice none 0 0, .int .i64 0, .int .i64 0, .slice none 0 0], .int .i64 (lookM f).1]) (by simp [results, Try.results5, go_sem, s0, s1, s2, s3]) rfl (.inl ⟨(lookM f).1, H0.out, .inl ⟨H0.out, rfl⟩, rfl, ?_⟩)
    exact ((((HPW.out _ HB1.out).2.2.setCell (by simp) _).setCell (by simp) _).setCell (by simp) _).setCell (by simp) _

end Go.Proofs.Ytncmnbchkabgaaa

namespace Go.Proofs.Ytncmnbchkabgaaa
open Go.RowKit

section
variable {w0 w w1 : World} {row row' : Rows} {val val' : Vals} {D D' : Tag → Prop} {bl : List VarD}

/-- an empty list comes -/
theorem OwnC.empty {t0 : Tag} (h : OwnC w0 w row val D bl) (hn : ¬ D t0) : OwnC w0 (w.alloc (.cells #[] 3)) (upd row t0 (some (intsRow []))) (upd val t0 (.slice (some ⟨w.heap.size, 0, none⟩) 0 0)) (fun t => D t ∨ t = t0) bl := by
  have hb : Below w.heap.size w (w.alloc (.cells #[] 3)) := (Below.refl _ w).alloc (Nat.le_refl _) _
  have hown : (w.alloc (.cells #[] 3)).ownsRow w.heap.size 3 1 (.slice (some ⟨w.heap.size, 0, none⟩) 0 0) 0 [] := ⟨rfl, .inr ⟨w.heap.size, 0, #[], rfl, Nat.le_refl _, heap_alloc_new w _, Nat.le_refl _, by unfold maxLen; omega, rfl, rfl⟩⟩
  refine h.of (OwnG.add (d := intsRow []) h.own hn hb hown h.below.size) (fun x hx => hb.block _ (h.lt hx)) (fun t g ht e => ?_) (hb.mono h.below.size)
  by_cases e2 : t = t0
  · subst e2
    rw [upd_same] at e
    exact .inr (by have : w.heap.size = g := Option.some.inj e; omega)
  · rw [upd_ne _ _ e2] at e
    exact .inl ⟨t, ht.resolve_right e2, e⟩

/-- rows under other tags -/
theorem OwnC.turn (σ : Tag → Tag) (h : OwnC w0 w row val D bl) (hD : ∀ t, D' t → D (σ t)) (hi : ∀ t t', D' t → D' t' → σ t = σ t' → t = t') : OwnC w0 w (fun t => row (σ t)) (fun t => val (σ t)) D' bl :=
  ⟨h.own.turn σ hD hi, h.cells, fun x hx t ht => h.off x hx (σ t) (hD t ht), h.dis, h.below⟩

/-- rows alone, beside no variable -/
theorem OwnC.alone (h : OwnG w w0.heap.size row val D) (hb : Below w0.heap.size w0 w) : OwnC w0 w row val D [] :=
  ⟨h, (fun _ hx => by cases hx), (fun _ hx => by cases hx), List.nodup_nil, hb⟩

/-- an end goes elsewhere, whatever else is owned -/
theorem OwnC.putEndD {f : FuncM} {q : BlockM} {k j ge cap : Nat} {mid : Int} (h : OwnC w0 w (rowOf f val) val D bl) (hD : D (.ends k)) (hq : f.blocks[k]? = some q) (hv : val (.ends k) = .slice (some ⟨ge, 0, none⟩) q.term.to.length cap) :
    OwnC w0 (w.setCell ⟨ge, j, none⟩ (.int .i64 mid)) (rowOf (setEnds f k j mid) val) val D bl := by
  refine (h.put (j := j) (u := .int .i64 mid) hD (row_ends hq) hv rfl).congr (fun tag _ => ?_) (fun _ _ => rfl) (fun tag ht => ht)
  by_cases h : tag = .ends k
  · subst h
    rw [upd_same, setEnds_ends hq]
    unfold intsRow
    simp only [List.length_set, List.map_set]
  · rw [upd_ne _ _ h, setEnds_row tag h]
end

/-- a block's rows, and two lists in the making -/
def rowK (G : FuncM) (v : Vals) (a b : List Int) : Rows := fun t => if t = .fr 1 0 then some (intsRow a) else if t = .vals 1 0 then some (intsRow b) else rowOf G v t
def DK (np nc : Nat) (t : Tag) : Prop := (CbD np nc t ∨ t = .fr 1 0) ∨ t = .vals 1 0

theorem CbD.zero {np nc : Nat} {t : Tag} (h : CbD np nc t) : blkOf t = some 0 := by
  cases t <;> simp_all [CbD, blkOf]

theorem row_other {G : FuncM} {v : Vals} {t t0 : Tag} {u : Value} (h : blkOf t = some 0) (h0 : blkOf t0 = some 1) : rowOf G (upd v t0 u) t = rowOf G v t := by
  have hne : ∀ t' : Tag, blkOf t' = some 0 → upd v t0 u t' = v t' := fun t' h' => upd_ne _ _ fun e => by rw [e, h0] at h'; cases h'
  cases t with
  | params => cases h
  | blocks => cases h
  | phis k =>
    simp only [blkOf, Option.some.injEq] at h
    subst h
    simp only [rowOf]
    refine congrArg (fun F => Option.map F G.blocks[0]?) (funext fun b => ?_)
    congr 1
    refine cellsOf_congr _ 0 fun i a _ => ?_
    unfold phiCells
    rw [hne _ rfl, hne _ rfl]
  | code k =>
    simp only [blkOf, Option.some.injEq] at h
    subst h
    simp only [rowOf]
    refine congrArg (fun F => Option.map F G.blocks[0]?) (funext fun b => ?_)
    congr 1
    refine cellsOf_congr _ 0 fun i a _ => ?_
    unfold instrCells
    rw [hne _ rfl]
  | ends k => rfl
  | fr k i => rfl
  | vals k i => rfl
  | args k i => rfl

section
variable {w0 w w1 : World} {G : FuncM} {v : Vals} {bl : List VarD} {np nc : Nat} {a b : List Int} {x : Int} {F : Value}

theorem CbD.neF {t : Tag} (h : CbD np nc t) : t ≠ .fr 1 0 := fun e => by have := h.zero; rw [e] at this; cases this
theorem CbD.neV {t : Tag} (h : CbD np nc t) : t ≠ .vals 1 0 := fun e => by have := h.zero; rw [e] at this; cases this

/-- two empty lists are begun -/
theorem OwnC.begin2 (h : OwnC w0 w (rowOf G v) v (CbD np nc) bl) : OwnC w0 ((w.alloc (.cells #[] 3)).alloc (.cells #[] 3)) (rowK G (upd (upd v (.fr 1 0) (.slice (some ⟨w.heap.size, 0, none⟩) 0 0)) (.vals 1 0) (.slice (some ⟨w.heap.size + 1, 0, none⟩) 0 0)) [] [])
    (upd (upd v (.fr 1 0) (.slice (some ⟨w.heap.size, 0, none⟩) 0 0)) (.vals 1 0) (.slice (some ⟨w.heap.size + 1, 0, none⟩) 0 0)) (DK np nc) bl := by
  have h2 := (h.empty (t0 := .fr 1 0) (fun h => h.neF rfl)).empty (t0 := .vals 1 0) (fun h => by
    rcases h with h | h
    · exact h.neV rfl
    · cases h)
  rw [World.size_alloc] at h2
  refine h2.congr (fun t ht => ?_) (fun _ _ => rfl) (fun t ht => ht)
  rcases ht with (ht | rfl) | rfl
  · unfold rowK
    rw [if_neg ht.neF, if_neg ht.neV, upd_ne _ _ ht.neV, upd_ne _ _ ht.neF, row_other ht.zero rfl, row_other ht.zero rfl]
  · unfold rowK
    rw [if_pos rfl, upd_ne _ _ (by simp), upd_same]
  · unfold rowK
    rw [if_neg (by simp), if_pos rfl, upd_same]

/-- the first one grows -/
theorem OwnC.moreF (h : OwnC w0 w (upd (rowK G v a b) (.fr 1 0) (some (intsRow (a ++ [x])))) (upd v (.fr 1 0) F) (DK np nc) bl) : OwnC w0 w (rowK G (upd v (.fr 1 0) F) (a ++ [x]) b) (upd v (.fr 1 0) F) (DK np nc) bl := by
  refine h.congr (fun t ht => ?_) (fun _ _ => rfl) (fun t ht => ht)
  rcases ht with (ht | rfl) | rfl
  · rw [upd_ne _ _ ht.neF]
    unfold rowK
    rw [if_neg ht.neF, if_neg ht.neV, if_neg ht.neF, if_neg ht.neV, row_other ht.zero rfl]
  · unfold rowK
    rw [if_pos rfl, upd_same]
  · rw [upd_ne _ _ (by simp)]
    unfold rowK
    rw [if_neg (by simp), if_pos rfl, if_neg (by simp), if_pos rfl]

/-- the second one grows -/
theorem OwnC.moreV (h : OwnC w0 w (upd (rowK G v a b) (.vals 1 0) (some (intsRow (b ++ [x])))) (upd v (.vals 1 0) F) (DK np nc) bl) : OwnC w0 w (rowK G (upd v (.vals 1 0) F) a (b ++ [x])) (upd v (.vals 1 0) F) (DK np nc) bl := by
  refine h.congr (fun t ht => ?_) (fun _ _ => rfl) (fun t ht => ht)
  rcases ht with (ht | rfl) | rfl
  · rw [upd_ne _ _ ht.neV]
    unfold rowK
    rw [if_neg ht.neF, if_neg ht.neV, if_neg ht.neF, if_neg ht.neV, row_other ht.zero rfl]
  · rw [upd_ne _ _ (by simp)]
    unfold rowK
    rw [if_pos rfl, if_pos rfl]
  · unfold rowK
    rw [if_neg (by simp), if_pos rfl, upd_same]

/-- both take the places of a phi's lists -/
theorem OwnC.placed {q : BlockM} {p : PhiM} {i : Nat} {A B : Value} {row2 : Rows} (hq : G.blocks[0]? = some q) (hp : q.phis[i]? = some p) (hA : v (.fr 1 0) = A) (hB : v (.vals 1 0) = B)
    (hr : row2 = upd (upd (rowK G v a b) (.phis 0) (some ⟨49, 4, q.phis.length, (cellsOf (phiCells v 0) 0 q.phis).set (i * 4 + 2) A⟩)) (.phis 0) (some ⟨49, 4, q.phis.length, ((cellsOf (phiCells v 0) 0 q.phis).set (i * 4 + 2) A).set (i * 4 + 3) B⟩))
    (h : OwnC w0 w row2 v (DK np nc) bl) : OwnC w0 w (rowOf (setPhi G 0 i { p with fr := a, vals := b }) (upd (upd v (.fr 0 i) A) (.vals 0 i) B)) (upd (upd v (.fr 0 i) A) (.vals 0 i) B) (CbD np nc) bl := by
  subst hr
  have hi := (List.getElem?_eq_some_iff.1 hp).1
  obtain ⟨p1, hp1⟩ : ∃ p1 : PhiM, p1 = { p with fr := a, vals := b } := ⟨_, rfl⟩
  rw [← hp1]
  have hid : p1.id = p.id := by rw [hp1]
  have htyp : p1.typ = p.typ := by rw [hp1]
  have hfr : p1.fr = a := by rw [hp1]
  have hva : p1.vals = b := by rw [hp1]
  have hval : ∀ tag, tag ≠ .fr 0 i → tag ≠ .vals 0 i → upd (upd v (.fr 0 i) A) (.vals 0 i) B tag = v tag := fun tag h1 h2 => by rw [upd_ne _ _ h2, upd_ne _ _ h1]
  have h1 := h.turn (D' := CbD np nc) (fun t => if t = .fr 0 i then .fr 1 0 else if t = .vals 0 i then .vals 1 0 else t) (fun t ht => by
    by_cases e1 : t = .fr 0 i
    · simp only [if_pos e1]; exact .inl (.inr rfl)
    · by_cases e2 : t = .vals 0 i
      · simp only [if_neg e1, if_pos e2]; exact .inr rfl
      · simp only [if_neg e1, if_neg e2]; exact .inl (.inl ht)) (fun t t' ht ht' e => by
    by_cases e1 : t = .fr 0 i
    · by_cases e2 : t' = .fr 0 i
      · rw [e1, e2]
      · simp only [if_pos e1, if_neg e2] at e
        by_cases e3 : t' = .vals 0 i
        · simp only [if_pos e3] at e; cases e
        · simp only [if_neg e3] at e; exact absurd e.symm ht'.neF
    · simp only [if_neg e1] at e
      by_cases e2 : t = .vals 0 i
      · simp only [if_pos e2] at e
        by_cases e3 : t' = .fr 0 i
        · simp only [if_pos e3] at e; cases e
        · simp only [if_neg e3] at e
          by_cases e4 : t' = .vals 0 i
          · rw [e2, e4]
          · simp only [if_neg e4] at e; exact absurd e.symm ht'.neV
      · simp only [if_neg e2] at e
        by_cases e3 : t' = .fr 0 i
        · simp only [if_pos e3] at e; exact absurd e ht.neF
        · simp only [if_neg e3] at e
          by_cases e4 : t' = .vals 0 i
          · simp only [if_pos e4] at e; exact absurd e ht.neV
          · simp only [if_neg e4] at e; exact e)
  refine h1.congr (fun t ht => ?_) (fun t ht => ?_) (fun t ht => ht)
  · by_cases e1 : t = .fr 0 i
    · subst e1
      simp only [if_pos]
      rw [upd_ne _ _ (by simp), upd_ne _ _ (by simp), setPhi_fr hq hp, hfr]
      unfold rowK
      rw [if_pos rfl]
    · by_cases e2 : t = .vals 0 i
      · subst e2
        simp only [if_neg e1, if_pos]
        rw [upd_ne _ _ (by simp), upd_ne _ _ (by simp), setPhi_vals hq hp, hva]
        unfold rowK
        rw [if_neg (by simp), if_pos rfl]
      · simp only [if_neg e1, if_neg e2]
        by_cases e3 : t = .phis 0
        · subst e3
          rw [upd_same, setPhi_phis hq, phis_same hp hid htyp, phis_grown hi]
        · rw [upd_ne _ _ e3, upd_ne _ _ e3]
          unfold rowK
          rw [if_neg ht.neF, if_neg ht.neV]
          exact setPhi_row hq hp hid htyp hval t e1 e2 e3
  · by_cases e1 : t = .fr 0 i
    · subst e1
      simp only [if_pos]
      rw [upd_ne _ _ (by simp), upd_same, hA]
    · by_cases e2 : t = .vals 0 i
      · subst e2
        simp only [if_neg e1, if_pos]
        rw [upd_same, hB]
      · simp only [if_neg e1, if_neg e2]
        exact hval t e1 e2
end

/-- what is read of a phi's lists, whatever else is owned -/
theorem OwnC.phiRd {w0 w : World} {G : FuncM} {v : Vals} {bl : List VarD} {D : Tag → Prop} {row : Rows} {q : BlockM} {p : PhiM} {i gp n pc : Nat} (h : OwnC w0 w row v D bl) (hq : G.blocks[0]? = some q) (hp : q.phis[i]? = some p)
    (hr : ∀ t, blkOf t = some 0 → row t = rowOf G v t) (hv : v (.phis 0) = .slice (some ⟨gp, 0, none⟩) n pc) (hn : q.phis.length = n) (hl : p.vals.length = p.fr.length) (d1 : D (.phis 0)) (d2 : D (.fr 0 i)) (d3 : D (.vals 0 i)) :
    ∃ F fc V vc, w.cell? ⟨gp, i * 4 + 2, none⟩ = some (.slice F p.fr.length fc) ∧ w.cell? ⟨gp, i * 4 + 3, none⟩ = some (.slice V p.fr.length vc) ∧ w.frozen? ⟨gp, i * 4 + 2, none⟩ = false ∧ w.frozen? ⟨gp, i * 4 + 3, none⟩ = false ∧
      (∀ k x, p.fr[k]? = some x → ∃ gf, F = some ⟨gf, 0, none⟩ ∧ w.cell? ⟨gf, k, none⟩ = some (.int .i64 x)) ∧ (∀ k y, p.vals[k]? = some y → ∃ gv, V = some ⟨gv, 0, none⟩ ∧ w.cell? ⟨gv, k, none⟩ = some (.int .i64 y)) := by
  have hil := (List.getElem?_eq_some_iff.1 hp).1
  have r1 := (hr (.phis 0) rfl).trans (row_phis hq)
  have r2 := (hr (.fr 0 i) rfl).trans (row_fr hq hp)
  have r3 := (hr (.vals 0 i) rfl).trans (row_vals hq hp)
  obtain ⟨F, fc, e2⟩ := own_form (h.own.rows _ _ d2 r2)
  obtain ⟨V, vc, e3⟩ := own_form (h.own.rows _ _ d3 r3)
  have e2 : v (.fr 0 i) = .slice F p.fr.length fc := e2
  have e3' : v (.vals 0 i) = .slice V p.vals.length vc := e3
  have c2 := h.own.cell (j := i * 4 + 2) d1 r1 hv hn (by show _ < n * 4; omega)
  have c3 := h.own.cell (j := i * 4 + 3) d1 r1 hv hn (by show _ < n * 4; omega)
  rw [phi_cell hp (by omega)] at c2 c3
  refine ⟨F, fc, V, vc, c2.1.trans (by show some (v (.fr 0 i)) = _; rw [e2]), c3.1.trans (by show some (v (.vals 0 i)) = _; rw [e3', hl]), c2.2, c3.2, fun k x hk => ?_, fun k y hk => ?_⟩
  · have hkl := (List.getElem?_eq_some_iff.1 hk).1
    obtain ⟨gf, cap, e, _⟩ := h.own.slice d2 r2 (by show 0 < p.fr.length; omega)
    have e4 := e
    rw [e2] at e
    injection e with e
    refine ⟨gf, e, (h.own.cell (j := k) d2 r2 e4 rfl (by show k < p.fr.length * 1; omega)).1.trans ?_⟩
    show (p.fr.map (Value.int .i64))[k]? = _
    rw [List.getElem?_map, hk]
    rfl
  · have hkl := (List.getElem?_eq_some_iff.1 hk).1
    obtain ⟨gf, cap, e, _⟩ := h.own.slice d3 r3 (by show 0 < p.vals.length; omega)
    have e4 := e
    rw [e3'] at e
    injection e with e
    refine ⟨gf, e, (h.own.cell (j := k) d3 r3 e4 rfl (by show k < p.vals.length * 1; omega)).1.trans ?_⟩
    show (p.vals.map (Value.int .i64))[k]? = _
    rw [List.getElem?_map, hk]
    rfl

theorem rowK_zero {G : FuncM} {v : Vals} {a b : List Int} (t : Tag) (h : blkOf t = some 0) : rowK G v a b t = rowOf G v t := by
  unfold rowK
  rw [if_neg (fun e => by rw [e] at h; cases h), if_neg (fun e => by rw [e] at h; cases h)]

/-- the reference's numbers -/
def numsL (S : Nat → Bool) (b : Nat) : List Int := (List.range b).map fun x => (cntS S x : Int)

theorem numsL_len (S : Nat → Bool) (b : Nat) : (numsL S b).length = b := by simp [numsL]
theorem numsL_at {S : Nat → Bool} {b x : Nat} (h : x < b) : (numsL S b)[x]? = some (cntS S x : Int) := by
  unfold numsL
  rw [List.getElem?_map, List.getElem?_range h]
  rfl
theorem numsL_succ (S : Nat → Bool) (b : Nat) : numsL S (b + 1) = numsL S b ++ [(cntS S b : Int)] := by
  unfold numsL
  rw [List.range_succ, List.map_append]
  rfl

theorem keepF_yes {num : Int → Int} {fr : List Int} {k : Nat} {x : Int} (hx : fr[k]? = some x) (hn : num x ≠ -1) : keepF num fr (k + 1) = keepF num fr k ++ [num x] := by
  rw [keepF, hx]
  simp only
  rw [if_neg hn]
theorem keepF_no {num : Int → Int} {fr : List Int} {k : Nat} {x : Int} (hx : fr[k]? = some x) (hn : num x = -1) : keepF num fr (k + 1) = keepF num fr k := by
  rw [keepF, hx]
  simp only
  rw [if_pos hn, List.append_nil]
theorem keepV_yes {num : Int → Int} {fr vals : List Int} {k : Nat} {x y : Int} (hx : fr[k]? = some x) (hy : vals[k]? = some y) (hn : num x ≠ -1) : keepV num fr vals (k + 1) = keepV num fr vals k ++ [y] := by
  rw [keepV, hx, hy]
  simp only
  rw [if_neg hn]
  rfl
theorem keepV_no {num : Int → Int} {fr vals : List Int} {k : Nat} {x : Int} (hx : fr[k]? = some x) (hn : num x = -1) : keepV num fr vals (k + 1) = keepV num fr vals k := by
  rw [keepV, hx]
  simp only
  rw [if_pos hn, List.append_nil]

theorem numOf_yes {S : Nat → Bool} {x : Nat} (h : S x = true) : numOf S (x : Int) = (cntS S x : Int) := by
  unfold numOf nowI
  rw [Int.toNat_natCast, if_pos h]
theorem numOf_no {S : Nat → Bool} {x : Nat} (h : S x = false) : numOf S (x : Int) = -1 := by
  unfold numOf nowI
  rw [Int.toNat_natCast, if_neg (by rw [h]; decide)]

/-- an owned row has grown: nothing below its base is changed -/
theorem Below.grownRow {w wr w8 : World} {n : Nat} {v : Value} {e : TypeId} {s : Nat} {xs : List Value} {o : Obj} (hown : wr.ownsRow w.heap.size e s v n xs) (hb : Below w.heap.size w wr) (hg : (wr.alloc o).grownBy w8 v.ownBlock) : Below w.heap.size w w8 := by
  have hs := hg.size
  rw [World.size_alloc] at hs
  have hbs := hb.size
  refine ⟨hg.os.trans hb.os, hg.tape.trans hb.tape, hg.output.trans hb.output, by omega, fun k hk => ?_⟩
  rw [hg.block k (by simp; omega) (fun e => by have := (hown.lt k e.symm).1; omega), Below.heap_alloc _ _ _ (by omega)]
  exact hb.block k hk

theorem one_block (q : BlockM) : oneF q q.phis.length q.code.length = ⟨[], 0, 0, [q]⟩ := by
  unfold oneF
  rw [List.take_length, List.take_length]
end Go.Proofs.Ytncmnbchkabgaaa

namespace Go.Proofs.Ytncmnbchkabgaaa
open Go.RowKit

theorem visit_exists {succ : Nat → List Nat} {n : Nat} (hs : ∀ b, ∀ t ∈ succ b, t < n) : ∀ (k : Nat) (l bg dn : List Nat), bg.Nodup → (∀ x ∈ bg, x < n) → (∀ x ∈ l, x < n) → n ≤ bg.length + k → ∃ bg' dn', Visit succ l (bg, dn) (bg', dn') := by
  intro k
  induction k with
  | zero =>
    intro l
    induction l with
    | nil => exact fun bg dn _ _ _ _ => ⟨bg, dn, .nil _⟩
    | cons t r ih =>
      intro bg dn h1 h2 h3 h4
      by_cases ht : t ∈ bg
      · obtain ⟨b, d, v⟩ := ih bg dn h1 h2 (fun x hx => h3 x (List.mem_cons_of_mem _ hx)) h4
        exact ⟨b, d, .skip ht v⟩
      · have := below_len n (t :: bg) (List.nodup_cons.2 ⟨ht, h1⟩) (fun x hx => by rcases List.mem_cons.1 hx with rfl | hx; exact h3 _ (List.mem_cons_self ..); exact h2 x hx)
        rw [List.length_cons] at this
        omega
  | succ k ihk =>
    intro l
    induction l with
    | nil => exact fun bg dn _ _ _ _ => ⟨bg, dn, .nil _⟩
    | cons t r ih =>
      intro bg dn h1 h2 h3 h4
      by_cases ht : t ∈ bg
      · obtain ⟨b, d, v⟩ := ih bg dn h1 h2 (fun x hx => h3 x (List.mem_cons_of_mem _ hx)) h4
        exact ⟨b, d, .skip ht v⟩
      · have hb : ∀ x ∈ t :: bg, x < n := fun x hx => by rcases List.mem_cons.1 hx with rfl | hx; exact h3 _ (List.mem_cons_self ..); exact h2 x hx
        obtain ⟨b1, d1, v1⟩ := ihk (succ t) (t :: bg) dn (List.nodup_cons.2 ⟨ht, h1⟩) hb (hs t) (by rw [List.length_cons]; omega)
        obtain ⟨new, d⟩ := v1.did
        have hnew : ∀ x ∈ new, x < n := fun x hx => by
          obtain ⟨i, hi⟩ := List.getElem?_of_mem hx
          rcases d.from_ i x hi with h | ⟨_, y, _, _, h⟩
          · exact hs t x h
          · exact hs y x h
        have hlen := d.len
        simp only [List.length_cons] at hlen
        obtain ⟨b2, d2, v2⟩ := ih b1 (d1 ++ [t]) (d.keepsNodup (List.nodup_cons.2 ⟨ht, h1⟩)) (fun x hx => by
          rcases (d.begun x).1 hx with h | h
          · exact hb x h
          · exact hnew x h) (fun x hx => h3 x (List.mem_cons_of_mem _ hx)) (by omega)
        exact ⟨b2, d2, .go ht v1 v2⟩

/-- every right function has an order -/
theorem order_exists {f : FuncM} (h0 : (lookM f).1 = 0) : ∃ o, OrderIs f.blocks o := by
  have hin := look_ends h0
  have hnb := (look_some_block h0).1
  have hs : ∀ b, ∀ t ∈ succM f.blocks b, t < f.blocks.length := fun b t ht => by
    unfold succM at ht
    split at ht
    · rename_i q hq
      obtain ⟨x, hx, rfl⟩ := List.mem_map.1 ht
      have := hin q (List.mem_of_getElem? hq) x hx
      omega
    · cases ht
  obtain ⟨bg, dn, v⟩ := visit_exists hs f.blocks.length (succM f.blocks 0) [0] [] (by simp) (fun x hx => by simp at hx; omega) (hs 0) (by omega)
  exact ⟨_, bg, dn, v, rfl⟩

end Go.Proofs.Ytncmnbchkabgaaa
