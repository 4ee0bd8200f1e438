/- What StrictPrunes rests on, part 2: PruneF, GPrune, RefSame. -/
import Derived.Test.YtocnlclighonfaaPkStrictPrunes1
import Derived.IntWalk
import Derived.Outline
import Derived.Deep.RegionHeld3
import Derived.Deep.DeepCutAuto
import Derived.Deep.RegionWith
import Derived.Deep.AppendLies
import Derived.BigQuiet
import Derived.Deep.QuietTactic

namespace Go.Proofs.Ytocnlclighonfaa
open Go.RowKit Go.Maps

/-- the old number of the block that is number i among those that stay -/
def kth (S : Nat → Bool) : Nat → Nat → Nat
  | 0, i => i
  | b + 1, i => if S b = true ∧ cntS S b = i then b else kth S b i

theorem kth_is {S : Nat → Bool} {i : Nat} : ∀ n, i < cntS S n → kth S n i < n ∧ S (kth S n i) = true ∧ cntS S (kth S n i) = i
  | 0, h => by simp [cntS] at h
  | b + 1, h => by
    unfold kth
    by_cases hc : S b = true ∧ cntS S b = i
    · rw [if_pos hc]; exact ⟨by omega, hc⟩
    · rw [if_neg hc]
      have hi : i < cntS S b := by
        unfold cntS at h
        split at h
        · rename_i hS
          rcases Nat.lt_or_ge i (cntS S b) with k | k
          · exact k
          · exact absurd ⟨hS, by omega⟩ hc
        · omega
      obtain ⟨h1, h2⟩ := kth_is b hi
      exact ⟨by omega, h2⟩

theorem cntS_inj {S : Nat → Bool} {a b : Nat} (ha : S a = true) (hb : S b = true) (h : cntS S a = cntS S b) : a = b := by
  rcases Nat.lt_trichotomy a b with k | k | k
  · have := cntS_lt k ha; omega
  · exact k
  · have := cntS_lt k hb; omega

theorem kth_cnt {S : Nat → Bool} {n k : Nat} (hk : k < n) (hS : S k = true) : kth S n (cntS S k) = k := by
  have h := kth_is n (cntS_lt hk hS)
  exact cntS_inj h.2.1 hS h.2.2

def tagK (r : Nat → Nat) : Tag → Tag
  | .params => .params
  | .blocks => .blocks
  | .phis k => .phis (r k)
  | .code k => .code (r k)
  | .ends k => .ends (r k)
  | .fr k i => .fr (r k) i
  | .vals k i => .vals (r k) i
  | .args k i => .args (r k) i

def valK (r : Nat → Nat) (v : Vals) (K : Value) : Vals
  | .params => v .params
  | .blocks => K
  | .phis k => v (.phis (r k))
  | .code k => v (.code (r k))
  | .ends k => v (.ends (r k))
  | .fr k i => v (.fr (r k) i)
  | .vals k i => v (.vals (r k) i)
  | .args k i => v (.args (r k) i)

theorem valK_at {r : Nat → Nat} {v : Vals} {K : Value} {t : Tag} (h : t ≠ .blocks) : valK r v K t = v (tagK r t) := by
  cases t with
  | blocks => exact absurd rfl h
  | _ => rfl

section
variable {f g : FuncM} {r : Nat → Nat} {v : Vals} {K : Value} {m : Nat}

/-- where each block of f is a block of g, so are the rows -/
theorem row_renamed (hp : f.params = g.params) (hb : ∀ i, i < m → f.blocks[i]? = g.blocks[r i]?) (hm : f.blocks.length = m) {t : Tag} (ht : TI f t) (hne : t ≠ .blocks) : rowOf f (valK r v K) t = rowOf g v (tagK r t) := by
  have hs : ∀ k, blkOf t = some k → k < m := fun k hk => by
    unfold TI at ht
    rcases Nat.lt_or_ge k m with h | h
    · exact h
    · have hf : f.blocks[k]? = none := List.getElem?_eq_none (by omega)
      cases t <;> simp [blkOf] at hk <;> subst hk <;> simp [rowOf, hf] at ht
  cases t with
  | blocks => exact absurd rfl hne
  | params => show some (intsRow f.params) = some (intsRow g.params); rw [hp]
  | phis k => simp only [rowOf, tagK]; rw [hb k (hs k rfl)]; rfl
  | code k => simp only [rowOf, tagK]; rw [hb k (hs k rfl)]; rfl
  | ends k => simp only [rowOf, tagK]; rw [hb k (hs k rfl)]
  | fr k i => simp only [rowOf, tagK]; rw [hb k (hs k rfl)]
  | vals k i => simp only [rowOf, tagK]; rw [hb k (hs k rfl)]
  | args k i => simp only [rowOf, tagK]; rw [hb k (hs k rfl)]

theorem tagK_inj (hm : f.blocks.length = m) (hr : ∀ i j, i < m → j < m → r i = r j → i = j) {t t' : Tag} (ht : TI f t) (ht' : TI f t') (h : tagK r t = tagK r t') : t = t' := by
  have hs : ∀ t, TI f t → ∀ k, blkOf t = some k → k < m := fun t ht k hk => by
    unfold TI at ht
    rcases Nat.lt_or_ge k m with h | h
    · exact h
    · have hf : f.blocks[k]? = none := List.getElem?_eq_none (by omega)
      cases t <;> simp [blkOf] at hk <;> subst hk <;> simp [rowOf, hf] at ht
  have h1 := hs t ht
  have h2 := hs t' ht'
  cases t <;> cases t' <;> simp [tagK] at h <;> first
    | rfl
    | (have e := hr _ _ (h1 _ rfl) (h2 _ rfl) h; rw [e])
    | (have e := hr _ _ (h1 _ rfl) (h2 _ rfl) h.1; rw [e, h.2])

theorem owned_renamed {W : World} {base : Nat} (ho : Owned W base g v) (hp : f.params = g.params) (hb : ∀ i, i < m → f.blocks[i]? = g.blocks[r i]?) (hm : f.blocks.length = m) (hr : ∀ i j, i < m → j < m → r i = r j → i = j)
    (hK : W.ownsRow base 54 6 K m (cellsOf (blockCells (valK r v K)) 0 f.blocks)) (hap : ∀ t gK, TI g t → K.ownBlock = some gK → (v t).ownBlock ≠ some gK) : Owned W base f (valK r v K) := by
  have hrow : ∀ t, TI f t → t ≠ .blocks → rowOf f (valK r v K) t = rowOf g v (tagK r t) := fun t ht hne => row_renamed hp hb hm ht hne
  have hti : ∀ t, TI f t → t ≠ .blocks → TI g (tagK r t) := fun t ht hne => by
    obtain ⟨d, hd⟩ := TI.row ht (valK r v K)
    rw [hrow t ht hne] at hd
    exact TI.of hd
  refine ⟨fun t ht => ?_, fun t d ht hd => ?_, fun t t' gb ht ht' e1 e2 => ?_⟩
  · obtain ⟨d, hd⟩ := TI.row ht (valK r v K)
    rw [hd]; rfl
  · by_cases hne : t = .blocks
    · subst hne
      have hd' : some (⟨54, 6, f.blocks.length, cellsOf (blockCells (valK r v K)) 0 f.blocks⟩ : RowD) = some d := hd
      cases hd'
      show W.ownsRow base _ 6 K f.blocks.length _
      rw [hm]
      exact hK
    · rw [hrow t ht hne] at hd
      rw [valK_at hne]
      exact ho.rows _ d (hti t ht hne) hd
  · by_cases hne : t = .blocks
    · by_cases hne' : t' = .blocks
      · rw [hne, hne']
      · subst hne
        rw [valK_at hne'] at e2
        exact absurd e2 (hap _ gb (hti t' ht' hne') e1)
    · by_cases hne' : t' = .blocks
      · subst hne'
        rw [valK_at hne] at e1
        exact absurd e1 (hap _ gb (hti t ht hne) e2)
      · rw [valK_at hne] at e1
        rw [valK_at hne'] at e2
        exact tagK_inj hm hr ht ht' (ho.apart _ _ gb (hti t ht hne) (hti t' ht' hne') e1 e2)
end

theorem keptC_cells {f : FuncM} {S : Nat → Bool} {num : Int → Int} {val v : Vals} {K : Value} (hv : ∀ tag, (∀ k i, tag ≠ .fr k i) → (∀ k i, tag ≠ .vals k i) → v tag = val tag) : ∀ b, b ≤ f.blocks.length → keptC val f S b = cellsOf (blockCells (valK (kth S f.blocks.length) v K)) 0 (prBlocks S num f.blocks b)
  | 0, _ => rfl
  | b + 1, hb => by
    have hq : f.blocks[b]? = some f.blocks[b] := List.getElem?_eq_getElem (by omega)
    rw [keptC, prBlocks, hq, keptC_cells (num := num) (K := K) hv b (by omega)]
    cases hS : S b with
    | false => simp
    | true =>
      simp only [if_true]
      rw [cellsOf_push (g' := blockCells (valK (kth S f.blocks.length) v K)) _ _ _ (fun _ _ _ => rfl), prBlocks_len b (by omega), Nat.zero_add]
      congr 1
      unfold blockCells
      show _ = [v (.phis (kth S f.blocks.length (cntS S b))), v (.code (kth S f.blocks.length (cntS S b))), _, _, v (.ends (kth S f.blocks.length (cntS S b))), _]
      rw [kth_cnt (by omega) hS, hv _ (by simp) (by simp), hv _ (by simp) (by simp), hv _ (by simp) (by simp)]
      rfl

/-- the pruned function, owned -/
theorem pruned_owned {f : FuncM} {val v : Vals} {S : Nat → Bool} {base base2 g cap : Nat} {W : World} (ho : Owned W base (renTo S (numOf S) f.blocks.length f) v) (hbb : base ≤ base2)
    (hK : W.ownsRow base2 54 6 (.slice (some ⟨g, 0, none⟩) (cntS S f.blocks.length) cap) (cntS S f.blocks.length) (keptC val f S f.blocks.length))
    (hap : ∀ tag, TI f tag → (v tag).ownBlock ≠ some g) (hv : ∀ tag, (∀ k i, tag ≠ .fr k i) → (∀ k i, tag ≠ .vals k i) → v tag = val tag) (hti : ∀ tag, TI (renTo S (numOf S) f.blocks.length f) tag ↔ TI f tag) (hpar : (renTo S (numOf S) f.blocks.length f).params = f.params) :
    Owned W base (pruneM S f) (valK (kth S f.blocks.length) v (.slice (some ⟨g, 0, none⟩) (cntS S f.blocks.length) cap)) := by
  refine owned_renamed (m := cntS S f.blocks.length) ho (by rw [hpar]; rfl) (fun i hi => ?_) prune_len (fun i j hi hj e => ?_) ?_ (fun t gK ht hK' e => ?_)
  · obtain ⟨h1, h2, h3⟩ := kth_is f.blocks.length hi
    have hq : f.blocks[kth S f.blocks.length i]? = some (f.blocks[kth S f.blocks.length i]'h1) := List.getElem?_eq_getElem _
    have := prBlocks_at (num := numOf S) h2 hq _ (Nat.le_refl _) h1
    rw [h3] at this
    rw [renTo_block, hq]
    simp only [Option.map_some]
    rw [if_pos ⟨h1, h2⟩]
    exact this
  · have h1 := (kth_is f.blocks.length hi).2.2
    have h2 := (kth_is f.blocks.length hj).2.2
    rw [← h1, ← h2, e]
  · have := World.ownsRow.mono hK hbb
    rw [keptC_cells (num := numOf S) (K := .slice (some ⟨g, 0, none⟩) (cntS S f.blocks.length) cap) hv _ (Nat.le_refl _)] at this
    exact this
  · have e2 : g = gK := Option.some.inj hK'
    subst e2
    exact hap t ((hti t).1 ht) e

theorem renTo_params (S : Nat → Bool) (num : Int → Int) (f : FuncM) : ∀ b, (renTo S num b f).params = f.params
  | 0 => rfl
  | b + 1 => by
    unfold renTo
    split
    · exact renTo_params S num f b
    · exact renTo_params S num f b

end Go.Proofs.Ytocnlclighonfaa

namespace Go.Proofs.Ytocnlclighonfaa
open Go.RowKit Go.Maps

section
variable {f : FuncM} {S : Nat → Bool} {num : Int → Int}

theorem prune_block {c : BlockM} (h : c ∈ (pruneM S f).blocks) : ∃ q ∈ f.blocks, c = pruneB (numOf S) q := by
  obtain ⟨i, hi⟩ := List.getElem?_of_mem h
  obtain ⟨k, q, _, _, _, hq, rfl⟩ := prBlocks_of (bs := f.blocks) f.blocks.length (Nat.le_refl _) hi
  exact ⟨q, List.mem_of_getElem? hq, rfl⟩

theorem keepV_mem {fr vals : List Int} {v : Int} (hl : vals.length = fr.length) : ∀ k, k ≤ fr.length → v ∈ keepV num fr vals k → v ∈ vals
  | 0, _, h => by cases h
  | k + 1, hk, h => by
    have hx : fr[k]? = some fr[k] := List.getElem?_eq_getElem (by omega)
    have hy : vals[k]? = some (vals[k]'(by omega)) := List.getElem?_eq_getElem _
    rw [keepV, hx] at h
    rcases List.mem_append.1 h with h | h
    · exact keepV_mem hl k (by omega) h
    · simp only at h
      split at h
      · cases h
      · rw [hy, List.mem_singleton] at h
        rw [h]
        exact List.mem_of_getElem? hy

theorem prune_small (h0 : (lookM f).1 = 0) : SmallF (pruneM S f) := by
  have hs := look_small h0
  refine ⟨hs.params, ?_, fun c hc => ?_⟩
  · rw [prune_len]
    exact Nat.le_trans (cntS_le S _) hs.blocks
  · obtain ⟨q, hq, rfl⟩ := prune_block hc
    have h := hs.each q hq
    refine ⟨by show (q.phis.map _).length ≤ _; rw [List.length_map]; exact h.phis, h.code, by show (q.term.to.map _).length ≤ _; rw [List.length_map]; exact h.ends, fun p hp => ?_, h.args⟩
    obtain ⟨p0, hp0, rfl⟩ := List.mem_map.1 hp
    have h1 := h.fr p0 hp0
    have h2 := keepF_le (numOf S) p0.fr p0.fr.length
    show (keepF (numOf S) p0.fr p0.fr.length).length ≤ _ ∧ (keepV (numOf S) p0.fr p0.vals p0.fr.length).length ≤ _
    rw [keep_len]
    exact ⟨Nat.le_trans h2 h1.1, Nat.le_trans h2 h1.1⟩

theorem prune_fits (h : FnFits f) : FnFits (pruneM S f) := by
  refine ⟨fun c hc p hp => ?_, fun c hc x hx => ?_, fun c hc => ?_⟩
  all_goals obtain ⟨q, hq, rfl⟩ := prune_block hc
  · obtain ⟨p0, hp0, rfl⟩ := List.mem_map.1 hp
    exact h.phi q hq p0 hp0
  · exact h.code q hq x hx
  · exact h.term q hq

theorem prune_uses (h0 : (lookM f).1 = 0) : ∀ u ∈ usesM (pruneM S f), u ∈ usesM f := by
  intro u hu
  obtain ⟨c, hc, hu⟩ := List.mem_flatMap.1 hu
  obtain ⟨q, hq, rfl⟩ := prune_block hc
  refine List.mem_flatMap.2 ⟨q, hq, ?_⟩
  unfold usesBlock at hu ⊢
  rcases List.mem_append.1 hu with hu | hu
  · obtain ⟨p, hp, hu⟩ := List.mem_flatMap.1 hu
    obtain ⟨p0, hp0, rfl⟩ := List.mem_map.1 hp
    refine List.mem_append.2 (.inl (List.mem_flatMap.2 ⟨p0, hp0, ?_⟩))
    obtain ⟨v, hv, rfl⟩ := List.mem_map.1 hu
    exact List.mem_map.2 ⟨v, keepV_mem (look_phi h0 q hq p0 hp0) _ (Nat.le_refl _) hv, rfl⟩
  · exact List.mem_append.2 (.inr hu)
end

theorem Owned.readsS {w : World} {base : Nat} {f : FuncM} {val : Vals} (h : Owned w base f val) (h0 : SmallF f) (hf : FnFits f) : Ints w w.heap.size (val .params) f.params ∧ BlocksR w w.heap.size (val .blocks) f.blocks := by
  have hr := OwnG.rd (h.ee fun t ht => ht.ti) h0
  exact ⟨hr.params, hr.blocks hf⟩

/-- the blocks of an order, as a Bool -/
def inO (o : List Nat) (b : Nat) : Bool := decide (b ∈ o)

def GPrunePost (f : FuncM) (w : World) (e : Ending) (w' : World) : Prop :=
  (∃ c, c ≠ 0 ∧ (((lookM f).1 ≠ 0 ∧ c = (lookM f).1) ∨ ((lookM f).1 = 0 ∧ ∃ o, OrderIs f.blocks o ∧ c = (lookM (pruneM (inO o) f)).1)) ∧ e = .returned (.tuple #[.agg #[.slice none 0 0, .int .i64 0, .int .i64 0, .slice none 0 0], .int .i64 c]) ∧ Below w.heap.size w w') ∨
  ((lookM f).1 = 0 ∧ ∃ (o : List Nat) (A : Option Addr) (c : Nat) (A' : Option Addr) (c' : Nat), OrderIs f.blocks o ∧ (lookM (pruneM (inO o) f)).1 = 0 ∧
    e = .returned (.tuple #[.agg #[.slice A f.params.length c, .int .i64 f.arrays, .int .i64 f.cells, .slice A' (pruneM (inO o) f).blocks.length c'], .int .i64 0]) ∧
    Ints w' w'.heap.size (.slice A f.params.length c) f.params ∧ BlocksR w' w'.heap.size (.slice A' (pruneM (inO o) f).blocks.length c') (pruneM (inO o) f).blocks ∧ Below w.heap.size w w')

/-- prune over a fresh copy, as it is called -/
def PrunedPost (f : FuncM) (base : Nat) (A : Option Addr) (c : Nat) (w : World) (e : Ending) (w' : World) : Prop :=
  ∃ (o : List Nat) (vK : Vals) (g cap : Nat), OrderIs f.blocks o ∧ e = .returned (.agg #[.slice A f.params.length c, .int .i64 f.arrays, .int .i64 f.cells, .slice (some ⟨g, 0, none⟩) (pruneM (inO o) f).blocks.length cap]) ∧
    Owned w' base (pruneM (inO o) f) vK ∧ vK .params = .slice A f.params.length c ∧ vK .blocks = .slice (some ⟨g, 0, none⟩) (pruneM (inO o) f).blocks.length cap ∧ Below base w w'

theorem prune_own {f : FuncM} {base : Nat} {w : World} {v1 : Vals} {A A' : Option Addr} {c c' : Nat} (ho : Owned w base f v1) (e1 : v1 .params = .slice A f.params.length c) (e2 : v1 .blocks = .slice A' f.blocks.length c') (h0 : (lookM f).1 = 0) (hf : FnFits f) (hb : base ≤ w.heap.size) :
    Calls Try.prog 45 #[.agg #[.slice A f.params.length c, .int .i64 f.arrays, .int .i64 f.cells, .slice A' f.blocks.length c']] w (PrunedPost f base A c w) := by
  have h := prune_any ho h0 hf hb
  rw [e1, e2] at h
  refine h.mono ?_
  rintro e w' ⟨o, v, g, cap, base2, hor, hpos, rfl, hbb, hown, hK, hap, hv, hti, hlow⟩
  have hP := pruned_owned (S := inO o) hown hbb hK hap hv hti (renTo_params _ _ _ _)
  have hl : (pruneM (inO o) f).blocks.length = cntS (inO o) f.blocks.length := prune_len
  have hvp : v .params = .slice A f.params.length c := by rw [hv .params (by simp) (by simp), e1]
  exact ⟨o, _, g, cap, hor, by rw [hl, e1]; rfl, hP, hvp, by rw [hl]; rfl, hlow⟩

set_option maxRecDepth 100000 in
set_option maxHeartbeats 4000000 in
theorem gPrune_any (f : FuncM) (B : Nat) (pv bv : Value) (w : World) (hpv : Ints w B pv f.params) (hbv : BlocksR w B bv f.blocks) (hB : B ≤ w.heap.size) (hid : ∀ u ∈ usesM f, I64 u.1) :
    Calls Try.prog 23 #[.agg #[pv, .int .i64 f.arrays, .int .i64 f.cells, bv]] w (GPrunePost f w) := by
  have HP := hideI hpv
  have HBL := hideI hbv
  have HID := hideI hid
  have HFT : Hid (FnFits f) := BlocksR.fits hbv
  obtain ⟨P, pc, rfl, _⟩ := hpv
  obtain ⟨A, c, rfl, hbm, _⟩ := hbv
  obtain ⟨W0, hW0⟩ : ∃ W0, W0 = (w.alloc (.cells #[.slice P f.params.length pc, .int .i64 f.arrays, .int .i64 f.cells, .slice A f.blocks.length c] 25)).alloc (.cells #[.slice none 0 0, .int .i64 0, .int .i64 0, .slice none 0 0] 25) := ⟨_, rfl⟩
  have hB0 : Below w.heap.size w W0 := by rw [hW0]; exact ((Below.refl _ w).alloc (Nat.le_refl _) _).alloc (by simp) _
  have hs0 : W0.heap.size = w.heap.size + 2 := by rw [hW0]; simp
  have hbox : W0.heap[w.heap.size]? = some (.cells #[.slice P f.params.length pc, .int .i64 f.arrays, .int .i64 f.cells, .slice A f.blocks.length c] 25 (0, 0)) := by
    rw [hW0, Below.heap_alloc _ _ _ (by simp)]
    exact heap_alloc_new w _
  have hres : W0.heap[w.heap.size + 1]? = some (.cells #[.slice none 0 0, .int .i64 0, .int .i64 0, .slice none 0 0] 25 (0, 0)) := by
    rw [hW0]
    have := heap_alloc_new (w.alloc (.cells #[.slice P f.params.length pc, .int .i64 f.arrays, .int .i64 f.cells, .slice A f.blocks.length c] 25)) (.cells #[.slice none 0 0, .int .i64 0, .int .i64 0, .slice none 0 0] 25)
    simpa using this
  have HW0 := hideI hW0
  have HB0 := hideI hB0
  have HS0 := hideI hs0
  have G0 : Hid (∀ W, Below W0.heap.size W0 W → (∀ o, W.cell? ⟨w.heap.size, o, none⟩ = (#[.slice P f.params.length pc, .int .i64 f.arrays, .int .i64 f.cells, .slice A f.blocks.length c] : Array Value)[o]?) ∧ (∀ o, W.cell? ⟨w.heap.size + 1, o, none⟩ = (#[.slice none 0 0, .int .i64 0, .int .i64 0, .slice none 0 0] : Array Value)[o]?) ∧ (∀ o, W.frozen? ⟨w.heap.size + 1, o, none⟩ = false)) := fun W hW => by
    have h1 := hW.block w.heap.size (by omega)
    have h2 := hW.block (w.heap.size + 1) (by omega)
    exact ⟨row_cells hbox h1, row_cells hres h2, free_row' hres h2⟩
  have HPW : Hid (∀ W, Below W0.heap.size W0 W → Ints W B (.slice P f.params.length pc) f.params ∧ BlocksR W B (.slice A f.blocks.length c) f.blocks ∧ Below w.heap.size w W) := fun W hW => by
    have h1 : Below w.heap.size w W := HB0.out.trans (hW.mono (by omega))
    exact ⟨HP.out.keeps (Keeps.of_below (h1.mono hB)), HBL.out.keeps (Keeps.of_below (h1.mono hB)), h1⟩
  obtain ⟨q1, q2, q3⟩ := G0.out W0 (Below.refl _ _)
  have b0 := q1 0
  have b1 := q1 1
  have b2 := q1 2
  have b3 := q1 3
  have s0 := q2 0
  have s1 := q2 1
  have s2 := q2 2
  have s3 := q2 3
  have g0 := q3 0
  have g1 := q3 1
  have g2 := q3 2
  have g3 := q3 3
  clear hid hW0 hB0 hs0 hbox hres q1 q2 q3
  by_cases h0 : (lookM f).1 = 0
  · have H0 := hideI h0
    clear h0
    by_cases hz : ∃ o, OrderIs f.blocks o ∧ (lookM (pruneM (inO o) f)).1 = 0
    · have HZ := hideI hz
      clear hz
      go_enter Try.func23, Try.ntmps23
      go_upto_region 1 with fail
      rw [← HW0.out]
      go_upto_region 5 with (first
        | (go_at_call 38; go_must (refine (check_any f B _ _ _ (HPW.out _ (Below.refl _ _)).1 (HPW.out _ (Below.refl _ _)).2.1 (by have := HS0.out; omega) HID.out).mono ?_); rw [H0.out]; rintro e w1 ⟨rfl, hb⟩; have HB1 := hideI hb; clear b0 b1 b2 b3 s0 s1 s2 s3 g0 g1 g2 g3; (obtain ⟨q1, q2, q3⟩ := G0.out _ hb); have b0 := q1 0; have b1 := q1 1; have b2 := q1 2; have b3 := q1 3; clear q1 q2 q3 hb)
        | (go_at_call 44; go_must (refine (fresh_own f B _ _ _ (HPW.out _ HB1.out).1 (HPW.out _ HB1.out).2.1 (by have := HS0.out; have := HB1.out.size; omega) H0.out).mono ?_); rintro e w3 ⟨v1, base, A1, c1, A2, c2, rfl, e1, e2, hown, hw1, hw2, hb⟩; have HE1 := hideI e1; have HE2 := hideI e2; have HOW := hideI hown; have HB3 := hideI (HB1.out.trans (hb.mono HB1.out.size)); clear e1 e2 hown hb b0 b1 b2 b3)
        | (go_at_call 45; go_must (refine (prune_own HOW.out HE1.out HE2.out H0.out HFT.out hw2).mono ?_); rintro e w4 ⟨o, vK, g, cap, hor, rfl, hown2, e3, e4, hb⟩; have hz0 : (lookM (pruneM (inO o) f)).1 = 0 := (by obtain ⟨o2, ho2, hl2⟩ := HZ.out; rw [hor.one ho2]; exact hl2); have HZ0 := hideI hz0; have HE3 := hideI e3; have HE4 := hideI e4; have HOR := hideI hor; have HOW2 := hideI hown2; have HB4 := hideI (HB3.out.trans (hb.mono (Nat.le_trans HB1.out.size hw1))); clear hb e3 e4 hown2 hz0 hor))
      obtain ⟨W5, hW5⟩ : ∃ W5 : World, W5 = w4.alloc (.cells #[.slice A1 f.params.length c1, .int .i64 f.arrays, .int .i64 f.cells, .slice (some ⟨g, 0, none⟩) (pruneM (inO o) f).blocks.length cap] 25) := ⟨_, rfl⟩
      have HB5 : Hid (Below w4.heap.size w4 W5) := by show Below _ _ _; rw [hW5]; exact (Below.refl _ _).alloc (Nat.le_refl _) _
      have HX5 : Hid (W5.heap[w4.heap.size]? = some (.cells #[.slice A1 f.params.length c1, .int .i64 f.arrays, .int .i64 f.cells, .slice (some ⟨g, 0, none⟩) (pruneM (inO o) f).blocks.length cap] 25 (0, 0))) := by show _ = _; rw [hW5]; exact heap_alloc_new w4 _
      have HOW5 : Hid (Owned W5 base (pruneM (inO o) f) vK) := hideI (HOW2.out.below HB5.out)
      have HRD5 : Hid (Ints W5 W5.heap.size (.slice A1 f.params.length c1) f.params ∧ BlocksR W5 W5.heap.size (.slice (some ⟨g, 0, none⟩) (pruneM (inO o) f).blocks.length cap) (pruneM (inO o) f).blocks) := by
        have := HOW5.out.readsS (prune_small H0.out) (prune_fits HFT.out)
        rw [HE3.out, HE4.out] at this
        exact hideI this
      rw [← hW5]
      have hy := row_cells HX5.out rfl
      have y0 := hy 0
      have y1 := hy 1
      have y2 := hy 2
      have y3 := hy 3
      have hw4 := lt_of_heap HX5.out
      have hwb : w.heap.size + 2 ≤ base := by have := HS0.out; have := HB1.out.size; omega
      have HB05 : Hid (Below W0.heap.size W0 W5) := hideI (HB4.out.trans (HB5.out.mono HB4.out.size))
      clear hW5 hy
      go_wp2_with (go_at_call 38; go_must (refine (check_any (pruneM (inO o) f) W5.heap.size _ _ _ HRD5.out.1 HRD5.out.2 (Nat.le_refl _) (fun u hu => HID.out u (prune_uses H0.out u hu))).mono ?_); rw [HZ0.out]; rintro e w6 ⟨rfl, hb⟩; have HOW6 := hideI (HOW5.out.below hb); have HB6 := hideI (HB05.out.trans (hb.mono HB05.out.size)); clear y0 y1 y2 y3; have hy := row_cells HX5.out (hb.block _ hw4); have y0 := hy 0; have y1 := hy 1; have y2 := hy 2; have y3 := hy 3; (obtain ⟨q1, q2, q3⟩ := G0.out _ HB6.out); have s0 := q2 0; have s1 := q2 1; have s2 := q2 2; have s3 := q2 3; have g0 := q3 0; have g1 := q3 1; have g2 := q3 2; have g3 := q3 3; clear q1 q2 q3 hb hy)
      have hno : ∀ t, TI (pruneM (inO o) f) t → (vK t).ownBlock ≠ some (w.heap.size + 1) := fun t ht e => by
        have := (HOW6.out.lt ht e).1
        omega
      have hrd : ∀ W, Owned W base (pruneM (inO o) f) vK → Ints W W.heap.size (.slice A1 f.params.length c1) f.params ∧ BlocksR W W.heap.size (.slice (some ⟨g, 0, none⟩) (pruneM (inO o) f).blocks.length cap) (pruneM (inO o) f).blocks := fun W h => by
        have := h.readsS (prune_small H0.out) (prune_fits HFT.out)
        rw [HE3.out, HE4.out] at this
        exact this
      have hsz := HB6.out.size
      have hs0 := HS0.out
      refine bodyPost_ret (v := .tuple #[.agg #[.slice A1 f.params.length c1, .int .i64 f.arrays, .int .i64 f.cells, .slice (some ⟨g, 0, none⟩) (pruneM (inO o) f).blocks.length cap], .int .i64 0]) (by simp [results, Try.results23, go_sem, s0, s1, s2, s3]) rfl (.inr ⟨H0.out, o, A1, c1, some ⟨g, 0, none⟩, cap, HOR.out, HZ0.out, rfl, ?_, ?_, ?_⟩)
      · refine (hrd _ ?_).1
        exact (((OwnG.other HOW6.out hno).other hno).other hno).other hno
      · refine (hrd _ ?_).2
        exact (((OwnG.other HOW6.out hno).other hno).other hno).other hno
      exact ((((HPW.out _ HB6.out).2.2.setCell (by simp) _).setCell (by simp) _).setCell (by simp) _).setCell (by simp) _
    · have HZ := hideI hz
      clear hz
      go_enter Try.func23, Try.ntmps23
      go_upto_region 1 with fail
      rw [← HW0.out]
      go_upto_region 5 with (first
        | (go_at_call 38; go_must (refine (check_any f B _ _ _ (HPW.out _ (Below.refl _ _)).1 (HPW.out _ (Below.refl _ _)).2.1 (by have := HS0.out; omega) HID.out).mono ?_); rw [H0.out]; rintro e w1 ⟨rfl, hb⟩; have HB1 := hideI hb; clear b0 b1 b2 b3 s0 s1 s2 s3 g0 g1 g2 g3; (obtain ⟨q1, q2, q3⟩ := G0.out _ hb); have b0 := q1 0; have b1 := q1 1; have b2 := q1 2; have b3 := q1 3; clear q1 q2 q3 hb)
        | (go_at_call 44; go_must (refine (fresh_own f B _ _ _ (HPW.out _ HB1.out).1 (HPW.out _ HB1.out).2.1 (by have := HS0.out; have := HB1.out.size; omega) H0.out).mono ?_); rintro e w3 ⟨v1, base, A1, c1, A2, c2, rfl, e1, e2, hown, hw1, hw2, hb⟩; have HE1 := hideI e1; have HE2 := hideI e2; have HOW := hideI hown; have HB3 := hideI (HB1.out.trans (hb.mono HB1.out.size)); clear e1 e2 hown hb b0 b1 b2 b3)
        | (go_at_call 45; go_must (refine (prune_own HOW.out HE1.out HE2.out H0.out HFT.out hw2).mono ?_); rintro e w4 ⟨o, vK, g, cap, hor, rfl, hown2, e3, e4, hb⟩; have hz0 : (lookM (pruneM (inO o) f)).1 ≠ 0 := (fun e => HZ.out ⟨o, hor, e⟩); have HZ0 := hideI hz0; have HE3 := hideI e3; have HE4 := hideI e4; have HOR := hideI hor; have HOW2 := hideI hown2; have HB4 := hideI (HB3.out.trans (hb.mono (Nat.le_trans HB1.out.size hw1))); clear hb e3 e4 hown2 hz0 hor))
      obtain ⟨W5, hW5⟩ : ∃ W5 : World, W5 = w4.alloc (.cells #[.slice A1 f.params.length c1, .int .i64 f.arrays, .int .i64 f.cells, .slice (some ⟨g, 0, none⟩) (pruneM (inO o) f).blocks.length cap] 25) := ⟨_, rfl⟩
      have HB5 : Hid (Below w4.heap.size w4 W5) := by show Below _ _ _; rw [hW5]; exact (Below.refl _ _).alloc (Nat.le_refl _) _
      have HX5 : Hid (W5.heap[w4.heap.size]? = some (.cells #[.slice A1 f.params.length c1, .int .i64 f.arrays, .int .i64 f.cells, .slice (some ⟨g, 0, none⟩) (pruneM (inO o) f).blocks.length cap] 25 (0, 0))) := by show _ = _; rw [hW5]; exact heap_alloc_new w4 _
      have HOW5 : Hid (Owned W5 base (pruneM (inO o) f) vK) := hideI (HOW2.out.below HB5.out)
      have HRD5 : Hid (Ints W5 W5.heap.size (.slice A1 f.params.length c1) f.params ∧ BlocksR W5 W5.heap.size (.slice (some ⟨g, 0, none⟩) (pruneM (inO o) f).blocks.length cap) (pruneM (inO o) f).blocks) := by
        have := HOW5.out.readsS (prune_small H0.out) (prune_fits HFT.out)
        rw [HE3.out, HE4.out] at this
        exact hideI this
      rw [← hW5]
      have hy := row_cells HX5.out rfl
      have y0 := hy 0
      have y1 := hy 1
      have y2 := hy 2
      have y3 := hy 3
      have hw4 := lt_of_heap HX5.out
      have hwb : w.heap.size + 2 ≤ base := by have := HS0.out; have := HB1.out.size; omega
      have HB05 : Hid (Below W0.heap.size W0 W5) := hideI (HB4.out.trans (HB5.out.mono HB4.out.size))
      clear hW5 hy
      obtain ⟨cz, hcz⟩ : ∃ cz, cz = (lookM (pruneM (inO o) f)).1 := ⟨_, rfl⟩
      have HCZ := hideI hcz
      have hne : (cz != 0) = true := by rw [hcz]; simpa using HZ0.out
      clear hcz
      go_wp2_with (go_at_call 38; go_must (refine (check_any (pruneM (inO o) f) W5.heap.size _ _ _ HRD5.out.1 HRD5.out.2 (Nat.le_refl _) (fun u hu => HID.out u (prune_uses H0.out u hu))).mono ?_); rw [← HCZ.out]; rintro e w6 ⟨rfl, hb⟩; have HB6 := hideI (HB05.out.trans (hb.mono HB05.out.size)); clear y0 y1 y2 y3; (obtain ⟨q1, q2, q3⟩ := G0.out _ HB6.out); have s0 := q2 0; have s1 := q2 1; have s2 := q2 2; have s3 := q2 3; have g0 := q3 0; have g1 := q3 1; have g2 := q3 2; have g3 := q3 3; clear q1 q2 q3 hb)
      refine bodyPost_ret (v := .tuple #[.agg #[.slice none 0 0, .int .i64 0, .int .i64 0, .slice none 0 0], .int .i64 cz]) (by simp [results, Try.results23, go_sem, s0, s1, s2, s3]) rfl (.inl ⟨cz, by rw [HCZ.out]; exact HZ0.out, .inr ⟨H0.out, o, HOR.out, HCZ.out⟩, rfl, ?_⟩)
      exact ((((HPW.out _ HB6.out).2.2.setCell (by simp) _).setCell (by simp) _).setCell (by simp) _).setCell (by simp) _
  · have H0 := hideI h0
    have hb0 : ((lookM f).1 != 0) = true := by simpa using h0
    clear h0
    go_enter Try.func23, Try.ntmps23
    go_upto_region 1 with fail
    rw [← HW0.out]
    go_wp2_with (first
      | (go_at_call 38; go_must (refine (check_any f B _ _ _ (HPW.out _ (Below.refl _ _)).1 (HPW.out _ (Below.refl _ _)).2.1 (by have := HS0.out; omega) HID.out).mono ?_); rintro e w1 ⟨rfl, hb⟩; have HB1 := hideI hb; clear b0 b1 b2 b3 s0 s1 s2 s3 g0 g1 g2 g3; (obtain ⟨q1, q2, q3⟩ := G0.out _ hb); have s0 := q2 0; have s1 := q2 1; have s2 := q2 2; have s3 := q2 3; have g0 := q3 0; have g1 := q3 1; have g2 := q3 2; have g3 := q3 3; clear q1 q2 q3 hb))
    refine bodyPost_ret (v := .tuple #[.agg #[.slice none 0 0, .int .i64 0, .int .i64 0, .slice none 0 0], .int .i64 (lookM f).1]) (by simp [results, Try.results23, go_sem, s0, s1, s2, s3]) rfl (.inl ⟨(lookM f).1, H0.out, .inl ⟨H0.out, rfl⟩, rfl, ?_⟩)
    exact ((((HPW.out _ HB1.out).2.2.setCell (by simp) _).setCell (by simp) _).setCell (by simp) _).setCell (by simp) _

end Go.Proofs.Ytocnlclighonfaa

namespace Go.Proofs.Ytocnlclighonfaa
open Go.RowKit

/-- two boxes -/
structure TwoAt (W0 wx : World) (g6 g7 : Nat) (cs ds : Array Value) (t : TypeId) : Prop where
  one : wx.heap[g6]? = some (.cells cs t (0, 0))
  two : wx.heap[g7]? = some (.cells ds t (0, 0))
  below : Below W0.heap.size W0 wx

theorem TwoAt.ab {W0 wr : World} (h : Below W0.heap.size W0 wr) (cs ds : Array Value) (t : TypeId) : TwoAt W0 ((wr.alloc (.cells cs t)).alloc (.cells ds t)).drew wr.heap.size (wr.heap.size + 1) cs ds t := by
  refine ⟨?_, ?_, ((h.alloc h.size _).alloc (by have := h.size; simp; omega) _).drew⟩
  · show ((wr.alloc (.cells cs t)).alloc (.cells ds t)).heap[wr.heap.size]? = _
    rw [Below.heap_alloc _ _ _ (by simp)]
    exact heap_alloc_new wr _
  · show ((wr.alloc (.cells cs t)).alloc (.cells ds t)).heap[wr.heap.size + 1]? = _
    have := heap_alloc_new (wr.alloc (.cells cs t)) (.cells ds t)
    simpa using this

theorem TwoAt.ba {W0 wr : World} (h : Below W0.heap.size W0 wr) (cs ds : Array Value) (t : TypeId) : TwoAt W0 ((wr.alloc (.cells ds t)).alloc (.cells cs t)).drew (wr.heap.size + 1) wr.heap.size cs ds t :=
  ⟨(TwoAt.ab h ds cs t).two, (TwoAt.ab h ds cs t).one, (TwoAt.ab h ds cs t).below⟩

theorem below_drew2 {B : Nat} {w w' : World} (h : Below B w w') (m : Nat) : Below B w (w'.drewN m) := ⟨h.os, h.tape, h.output, h.size, h.block⟩

set_option maxRecDepth 100000 in
set_option maxHeartbeats 4000000 in
theorem sameBlock_yes (b : BlockM) (B : Nat) (pv cv tv pv' cv' tv' : Value) (w : World) (hp : PhisR w B pv b.phis) (hc : CodeR w B cv b.code) (ht : Ints w B tv b.term.to) (hp' : PhisR w B pv' b.phis) (hc' : CodeR w B cv' b.code) (ht' : Ints w B tv' b.term.to) (hB : B ≤ w.heap.size) :
    Calls Try.prog 48 #[.agg #[pv, cv, .int .i64 b.term.op, .int .i64 b.term.val, tv, .int .i64 b.term.n], .agg #[pv', cv', .int .i64 b.term.op, .int .i64 b.term.val, tv', .int .i64 b.term.n]] w fun e w' => e = .returned (.bool true) ∧ Below w.heap.size w w' := by
  have HP := hideI hp
  have HC := hideI hc
  have HT := hideI ht
  have HP' := hideI hp'
  have HC' := hideI hc'
  have HT' := hideI ht'
  obtain ⟨A, c, rfl, hpm, _⟩ := hp
  obtain ⟨A', c', rfl, _, _⟩ := hp'
  obtain ⟨C, d, rfl, hcm, _⟩ := hc
  obtain ⟨C', d', rfl, _, _⟩ := hc'
  obtain ⟨W0, hW0⟩ : ∃ W0, W0 = (w.alloc (.cells #[.slice A b.phis.length c, .slice C b.code.length d, .int .i64 b.term.op, .int .i64 b.term.val, tv, .int .i64 b.term.n] 54)).alloc (.cells #[.slice A' b.phis.length c', .slice C' b.code.length d', .int .i64 b.term.op, .int .i64 b.term.val, tv', .int .i64 b.term.n] 54) := ⟨_, rfl⟩
  have hB0 : Below w.heap.size w W0 := by rw [hW0]; exact ((Below.refl _ w).alloc (Nat.le_refl _) _).alloc (by simp) _
  have hs0 : W0.heap.size = w.heap.size + 2 := by rw [hW0]; simp
  have hb1 : W0.heap[w.heap.size]? = some (.cells #[.slice A b.phis.length c, .slice C b.code.length d, .int .i64 b.term.op, .int .i64 b.term.val, tv, .int .i64 b.term.n] 54 (0, 0)) := by
    rw [hW0, Below.heap_alloc _ _ _ (by simp)]
    exact heap_alloc_new w _
  have hb2 : W0.heap[w.heap.size + 1]? = some (.cells #[.slice A' b.phis.length c', .slice C' b.code.length d', .int .i64 b.term.op, .int .i64 b.term.val, tv', .int .i64 b.term.n] 54 (0, 0)) := by
    rw [hW0]
    have := heap_alloc_new (w.alloc (.cells #[.slice A b.phis.length c, .slice C b.code.length d, .int .i64 b.term.op, .int .i64 b.term.val, tv, .int .i64 b.term.n] 54)) (.cells #[.slice A' b.phis.length c', .slice C' b.code.length d', .int .i64 b.term.op, .int .i64 b.term.val, tv', .int .i64 b.term.n] 54)
    simpa using this
  have HW0 := hideI hW0
  have HB0 := hideI hB0
  have HS0 := hideI hs0
  have G0 : Hid (∀ W, Below W0.heap.size W0 W → (∀ o, W.cell? ⟨w.heap.size, o, none⟩ = (#[.slice A b.phis.length c, .slice C b.code.length d, .int .i64 b.term.op, .int .i64 b.term.val, tv, .int .i64 b.term.n] : Array Value)[o]?) ∧ (∀ o, W.cell? ⟨w.heap.size + 1, o, none⟩ = (#[.slice A' b.phis.length c', .slice C' b.code.length d', .int .i64 b.term.op, .int .i64 b.term.val, tv', .int .i64 b.term.n] : Array Value)[o]?)) := fun W hW =>
    ⟨row_cells hb1 (hW.block w.heap.size (by omega)), row_cells hb2 (hW.block (w.heap.size + 1) (by omega))⟩
  have HK : Hid (∀ W, Below W0.heap.size W0 W → Keeps B w W) := fun W hW => Keeps.of_below ((HB0.out.trans (hW.mono (by omega))).mono hB)
  obtain ⟨q1, q2⟩ := G0.out W0 (Below.refl _ _)
  have a0 := q1 0
  have a1 := q1 1
  have a2 := q1 2
  have a3 := q1 3
  have a4 := q1 4
  have a5 := q1 5
  have b0 := q2 0
  have b1 := q2 1
  have b2 := q2 2
  have b3 := q2 3
  have b4 := q2 4
  have b5 := q2 5
  clear hW0 hB0 hs0 hb1 hb2 q1 q2
  go_enter Try.func48, Try.ntmps48
  go_upto_region 1 with fail
  rw [← HW0.out]
  have e1 : (b.term.op != b.term.op) = false := by simp
  have e2 : (b.term.val != b.term.val) = false := by simp
  have e3 : (b.term.n != b.term.n) = false := by simp
  have e4 : ((b.phis.length : Int) != (b.phis.length : Int)) = false := by simp
  have e5 : ((b.code.length : Int) != (b.code.length : Int)) = false := by simp
  go_wp2_with (first
    | (go_at_call 21; go_must (refine (sameInts_any _ B _ _ b.term.to b.term.to (HT.out.keeps (HK.out _ (Below.refl _ _))) (HT'.out.keeps (HK.out _ (Below.refl _ _)))).mono ?_); rintro e w1 ⟨rfl, m1, rfl⟩; rw [beq_self_eq_true]))
  clear a0 a1 a2 a3 a4 a5 b0 b1 b2 b3 b4 b5
  go_loopw [5] (fun u wr => ∃ k : Nat, k ≤ b.phis.length ∧ u = .int .i64 k ∧ Hid (Below W0.heap.size W0 wr)) (fun u _ => b.phis.length - (intOf u).toNat)
  case atStart => exact ⟨0, Nat.zero_le _, rfl, hideI (below_drew2 (Below.refl _ _) _)⟩
  case round =>
    obtain ⟨k, hk, rfl, HR⟩ := hrel
    obtain ⟨q1, q2⟩ := G0.out wr HR.out
    have a0 := q1 0
    have b0 := q2 0
    by_cases hlt : k < b.phis.length
    · clear q1 q2
      obtain ⟨p, hp⟩ : ∃ p, b.phis[k]? = some p := ⟨_, List.getElem?_eq_getElem hlt⟩
      obtain ⟨_, _, hh, _, hx⟩ := HP.out
      cases hh
      obtain ⟨g1, o1, fv, vv, rfl, hg1, c0, c1, c2, c3, hf, hv, _⟩ := hx k p hp
      obtain ⟨_, _, hh, _, hx'⟩ := HP'.out
      cases hh
      obtain ⟨g2, o2, fv', vv', rfl, hg2, f0, f1, f2, f3, hf', hv', _⟩ := hx' k p hp
      have HF := hideI hf
      have HV := hideI hv
      have HF' := hideI hf'
      have HV' := hideI hv'
      obtain ⟨F, fc, rfl, _⟩ := hf
      obtain ⟨V, vc, rfl, _⟩ := hv
      obtain ⟨F', fc', rfl, _⟩ := hf'
      obtain ⟨V', vc', rfl, _⟩ := hv'
      have G8 : Hid (∀ W2, Below W0.heap.size W0 W2 → W2.cell? ⟨w.heap.size, 0, none⟩ = some (.slice (some ⟨g1, o1, none⟩) b.phis.length c) ∧ W2.cell? ⟨w.heap.size + 1, 0, none⟩ = some (.slice (some ⟨g2, o2, none⟩) b.phis.length c') ∧ W2.cell? ⟨g1, o1 + k * 4, none⟩ = some (.int .i64 p.id) ∧ W2.cell? ⟨g1, o1 + k * 4 + 1, none⟩ = some (.int .i64 p.typ) ∧ W2.cell? ⟨g1, o1 + k * 4 + 2, none⟩ = some (.slice F p.fr.length fc) ∧ W2.cell? ⟨g1, o1 + k * 4 + 3, none⟩ = some (.slice V p.vals.length vc) ∧ W2.cell? ⟨g2, o2 + k * 4, none⟩ = some (.int .i64 p.id) ∧ W2.cell? ⟨g2, o2 + k * 4 + 1, none⟩ = some (.int .i64 p.typ) ∧ W2.cell? ⟨g2, o2 + k * 4 + 2, none⟩ = some (.slice F' p.fr.length fc') ∧ W2.cell? ⟨g2, o2 + k * 4 + 3, none⟩ = some (.slice V' p.vals.length vc')) := fun W2 h2 => by
        have hkp := HK.out W2 h2
        obtain ⟨r1, r2⟩ := G0.out W2 h2
        exact ⟨r1 0, r2 0, (hkp _ _ hg1).trans c0, (hkp _ _ hg1).trans c1, (hkp _ _ hg1).trans c2, (hkp _ _ hg1).trans c3, (hkp _ _ hg2).trans f0, (hkp _ _ hg2).trans f1, (hkp _ _ hg2).trans f2, (hkp _ _ hg2).trans f3⟩
      clear hp hx hx' c0 c1 c2 c3 f0 f1 f2 f3 a0 b0
      obtain ⟨a0, b0, c0, c1, c2, c3, f0, f1, f2, f3⟩ := G8.out wr HR.out
      go_upto_region 6 with fail
      go_cut [6, 7] (fun s6 s7 wx => ∃ g6 g7 : Nat, s6 = .pointer (some ⟨g6, 0, none⟩) ∧ s7 = .pointer (some ⟨g7, 0, none⟩) ∧ Hid (TwoAt W0 wx g6 g7 #[.int .i64 p.id, .int .i64 p.typ, .slice F p.fr.length fc, .slice V p.vals.length vc] #[.int .i64 p.id, .int .i64 p.typ, .slice F' p.fr.length fc', .slice V' p.vals.length vc'] 88))
      case first =>
        go_region_held3 (fun w' => w'.cell? ⟨w.heap.size, 0, none⟩ = some (.slice (some ⟨g1, o1, none⟩) b.phis.length c) ∧ w'.cell? ⟨w.heap.size + 1, 0, none⟩ = some (.slice (some ⟨g2, o2, none⟩) b.phis.length c') ∧ w'.cell? ⟨g1, o1 + k * 4, none⟩ = some (.int .i64 p.id) ∧ w'.cell? ⟨g1, o1 + k * 4 + 1, none⟩ = some (.int .i64 p.typ) ∧ w'.cell? ⟨g1, o1 + k * 4 + 2, none⟩ = some (.slice F p.fr.length fc) ∧ w'.cell? ⟨g1, o1 + k * 4 + 3, none⟩ = some (.slice V p.vals.length vc) ∧ w'.cell? ⟨g2, o2 + k * 4, none⟩ = some (.int .i64 p.id) ∧ w'.cell? ⟨g2, o2 + k * 4 + 1, none⟩ = some (.int .i64 p.typ) ∧ w'.cell? ⟨g2, o2 + k * 4 + 2, none⟩ = some (.slice F' p.fr.length fc') ∧ w'.cell? ⟨g2, o2 + k * 4 + 3, none⟩ = some (.slice V' p.vals.length vc')) (first | go_keep) (fail)
        all_goals (go_wp2_with fail; go_meet)
        · exact ⟨_, _, rfl, rfl, hideI (TwoAt.ab HR.out _ _ _)⟩
        · exact ⟨_, _, rfl, rfl, hideI (TwoAt.ba HR.out _ _ _)⟩
      case rest =>
        obtain ⟨g6, g7, rfl, rfl, HTW⟩ := hcut
        clear a0 b0 c0 c1 c2 c3 f0 f1 f2 f3
        have hx := row_cells HTW.out.one rfl
        have r0 := hx 0
        have r1 := hx 1
        have r2 := hx 2
        have r3 := hx 3
        have hy := row_cells HTW.out.two rfl
        have s0 := hy 0
        have s1 := hy 1
        have s2 := hy 2
        have s3 := hy 3
        have i1 : (p.id != p.id) = false := by simp
        have i2 : (p.typ != p.typ) = false := by simp
        clear hx hy
        go_wp2_with fail
        refine (sameInts_any _ B _ _ p.fr p.fr (HF.out.keeps (HK.out _ HTW.out.below)) (HF'.out.keeps (HK.out _ HTW.out.below))).mono ?_
        rintro e w1 ⟨rfl, m1, rfl⟩
        rw [beq_self_eq_true]
        go_wp2_with fail
        refine (sameInts_any _ B _ _ p.vals p.vals (HV.out.keeps (HK.out _ (below_drew2 HTW.out.below _))) (HV'.out.keeps (HK.out _ (below_drew2 HTW.out.below _)))).mono ?_
        rintro e w1 ⟨rfl, m2, rfl⟩
        rw [beq_self_eq_true]
        go_wp2_with fail
        go_roundw
        case rel => exact ⟨k + 1, by omega, by go_num, hideI (below_drew2 HTW.out.below _)⟩
        case measure => simp [intOf]; omega
    · have a1 := q1 1
      have b1 := q2 1
      clear q1 q2
      go_wp2_with fail
      clear a1 b1
      go_loopw [8] (fun u wr => ∃ k : Nat, k ≤ b.code.length ∧ u = .int .i64 k ∧ Hid (Below W0.heap.size W0 wr)) (fun u _ => b.code.length - (intOf u).toNat)
      case atStart => exact ⟨0, Nat.zero_le _, rfl, HR⟩
      case round =>
        obtain ⟨k, hk, rfl, HR⟩ := hrel
        obtain ⟨q1, q2⟩ := G0.out wr HR.out
        have a1 := q1 1
        have b1 := q2 1
        by_cases hlt : k < b.code.length
        · clear q1 q2
          obtain ⟨p, hp⟩ : ∃ p, b.code[k]? = some p := ⟨_, List.getElem?_eq_getElem hlt⟩
          obtain ⟨_, _, hh, _, hx⟩ := HC.out
          cases hh
          obtain ⟨g1, o1, av, rfl, hg1, c0, c1, c2, c3, hf, _⟩ := hx k p hp
          obtain ⟨_, _, hh, _, hx'⟩ := HC'.out
          cases hh
          obtain ⟨g2, o2, av', rfl, hg2, f0, f1, f2, f3, hf', _⟩ := hx' k p hp
          have HF := hideI hf
          have HF' := hideI hf'
          obtain ⟨F, fc, rfl, _⟩ := hf
          obtain ⟨F', fc', rfl, _⟩ := hf'
          have G8 : Hid (∀ W2, Below W0.heap.size W0 W2 → W2.cell? ⟨w.heap.size, 1, none⟩ = some (.slice (some ⟨g1, o1, none⟩) b.code.length d) ∧ W2.cell? ⟨w.heap.size + 1, 1, none⟩ = some (.slice (some ⟨g2, o2, none⟩) b.code.length d') ∧ W2.cell? ⟨g1, o1 + k * 4, none⟩ = some (.int .i64 p.op) ∧ W2.cell? ⟨g1, o1 + k * 4 + 1, none⟩ = some (.int .i64 p.id) ∧ W2.cell? ⟨g1, o1 + k * 4 + 2, none⟩ = some (.slice F p.args.length fc) ∧ W2.cell? ⟨g1, o1 + k * 4 + 3, none⟩ = some (.int .i64 p.n) ∧ W2.cell? ⟨g2, o2 + k * 4, none⟩ = some (.int .i64 p.op) ∧ W2.cell? ⟨g2, o2 + k * 4 + 1, none⟩ = some (.int .i64 p.id) ∧ W2.cell? ⟨g2, o2 + k * 4 + 2, none⟩ = some (.slice F' p.args.length fc') ∧ W2.cell? ⟨g2, o2 + k * 4 + 3, none⟩ = some (.int .i64 p.n)) := fun W2 h2 => by
            have hkp := HK.out W2 h2
            obtain ⟨r1, r2⟩ := G0.out W2 h2
            exact ⟨r1 1, r2 1, (hkp _ _ hg1).trans c0, (hkp _ _ hg1).trans c1, (hkp _ _ hg1).trans c2, (hkp _ _ hg1).trans c3, (hkp _ _ hg2).trans f0, (hkp _ _ hg2).trans f1, (hkp _ _ hg2).trans f2, (hkp _ _ hg2).trans f3⟩
          clear hp hx hx' c0 c1 c2 c3 f0 f1 f2 f3 a1 b1
          obtain ⟨a1, b1, c0, c1, c2, c3, f0, f1, f2, f3⟩ := G8.out wr HR.out
          go_upto_region 12 with fail
          go_cut [9, 10] (fun s9 s10 wx => ∃ g6 g7 : Nat, s9 = .pointer (some ⟨g6, 0, none⟩) ∧ s10 = .pointer (some ⟨g7, 0, none⟩) ∧ Hid (TwoAt W0 wx g6 g7 #[.int .i64 p.op, .int .i64 p.id, .slice F p.args.length fc, .int .i64 p.n] #[.int .i64 p.op, .int .i64 p.id, .slice F' p.args.length fc', .int .i64 p.n] 81))
          case first =>
            go_region_held3 (fun w' => w'.cell? ⟨w.heap.size, 1, none⟩ = some (.slice (some ⟨g1, o1, none⟩) b.code.length d) ∧ w'.cell? ⟨w.heap.size + 1, 1, none⟩ = some (.slice (some ⟨g2, o2, none⟩) b.code.length d') ∧ w'.cell? ⟨g1, o1 + k * 4, none⟩ = some (.int .i64 p.op) ∧ w'.cell? ⟨g1, o1 + k * 4 + 1, none⟩ = some (.int .i64 p.id) ∧ w'.cell? ⟨g1, o1 + k * 4 + 2, none⟩ = some (.slice F p.args.length fc) ∧ w'.cell? ⟨g1, o1 + k * 4 + 3, none⟩ = some (.int .i64 p.n) ∧ w'.cell? ⟨g2, o2 + k * 4, none⟩ = some (.int .i64 p.op) ∧ w'.cell? ⟨g2, o2 + k * 4 + 1, none⟩ = some (.int .i64 p.id) ∧ w'.cell? ⟨g2, o2 + k * 4 + 2, none⟩ = some (.slice F' p.args.length fc') ∧ w'.cell? ⟨g2, o2 + k * 4 + 3, none⟩ = some (.int .i64 p.n)) (first | go_keep) (fail)
            all_goals (go_wp2_with fail; go_meet)
            · exact ⟨_, _, rfl, rfl, hideI (TwoAt.ab HR.out _ _ _)⟩
            · exact ⟨_, _, rfl, rfl, hideI (TwoAt.ba HR.out _ _ _)⟩
          case rest =>
            obtain ⟨g6, g7, rfl, rfl, HTW⟩ := hcut
            clear a1 b1 c0 c1 c2 c3 f0 f1 f2 f3
            have hx := row_cells HTW.out.one rfl
            have r0 := hx 0
            have r1 := hx 1
            have r2 := hx 2
            have r3 := hx 3
            have hy := row_cells HTW.out.two rfl
            have s0 := hy 0
            have s1 := hy 1
            have s2 := hy 2
            have s3 := hy 3
            have i1 : (p.op != p.op) = false := by simp
            have i2 : (p.id != p.id) = false := by simp
            have i3 : (p.n != p.n) = false := by simp
            clear hx hy
            go_wp2_with fail
            refine (sameInts_any _ B _ _ p.args p.args (HF.out.keeps (HK.out _ HTW.out.below)) (HF'.out.keeps (HK.out _ HTW.out.below))).mono ?_
            rintro e w1 ⟨rfl, m1, rfl⟩
            rw [beq_self_eq_true]
            go_wp2_with fail
            go_roundw
            case rel => exact ⟨k + 1, by omega, by go_num, hideI (below_drew2 HTW.out.below _)⟩
            case measure => simp [intOf]; omega
        · clear q1 q2
          go_wp2_with fail
          go_ret
          exact ⟨rfl, HB0.out.trans (HR.out.mono (by rw [HS0.out]; omega))⟩

set_option maxRecDepth 100000 in
set_option maxHeartbeats 4000000 in
theorem same_yes (f : FuncM) (B : Nat) (pv bv pv' bv' : Value) (w : World) (hp : Ints w B pv f.params) (hb : BlocksR w B bv f.blocks) (hp' : Ints w B pv' f.params) (hb' : BlocksR w B bv' f.blocks) (hB : B ≤ w.heap.size) :
    Calls Try.prog 25 #[.agg #[pv, .int .i64 f.arrays, .int .i64 f.cells, bv], .agg #[pv', .int .i64 f.arrays, .int .i64 f.cells, bv']] w fun e w' => e = .returned (.bool true) ∧ Below w.heap.size w w' := by
  have HP := hideI hp
  have HP' := hideI hp'
  have HBL := hideI hb
  have HBL' := hideI hb'
  obtain ⟨P, pc, rfl, _⟩ := hp
  obtain ⟨P', pc', rfl, _⟩ := hp'
  obtain ⟨A, c, rfl, hbm, _⟩ := hb
  obtain ⟨A', c', rfl, _, _⟩ := hb'
  obtain ⟨W0, hW0⟩ : ∃ W0, W0 = (w.alloc (.cells #[.slice P f.params.length pc, .int .i64 f.arrays, .int .i64 f.cells, .slice A f.blocks.length c] 25)).alloc (.cells #[.slice P' f.params.length pc', .int .i64 f.arrays, .int .i64 f.cells, .slice A' f.blocks.length c'] 25) := ⟨_, rfl⟩
  have hB0 : Below w.heap.size w W0 := by rw [hW0]; exact ((Below.refl _ w).alloc (Nat.le_refl _) _).alloc (by simp) _
  have hs0 : W0.heap.size = w.heap.size + 2 := by rw [hW0]; simp
  have hb1 : W0.heap[w.heap.size]? = some (.cells #[.slice P f.params.length pc, .int .i64 f.arrays, .int .i64 f.cells, .slice A f.blocks.length c] 25 (0, 0)) := by
    rw [hW0, Below.heap_alloc _ _ _ (by simp)]
    exact heap_alloc_new w _
  have hb2 : W0.heap[w.heap.size + 1]? = some (.cells #[.slice P' f.params.length pc', .int .i64 f.arrays, .int .i64 f.cells, .slice A' f.blocks.length c'] 25 (0, 0)) := by
    rw [hW0]
    have := heap_alloc_new (w.alloc (.cells #[.slice P f.params.length pc, .int .i64 f.arrays, .int .i64 f.cells, .slice A f.blocks.length c] 25)) (.cells #[.slice P' f.params.length pc', .int .i64 f.arrays, .int .i64 f.cells, .slice A' f.blocks.length c'] 25)
    simpa using this
  have HW0 := hideI hW0
  have HB0 := hideI hB0
  have HS0 := hideI hs0
  have G0 : Hid (∀ W, Below W0.heap.size W0 W → (∀ o, W.cell? ⟨w.heap.size, o, none⟩ = (#[.slice P f.params.length pc, .int .i64 f.arrays, .int .i64 f.cells, .slice A f.blocks.length c] : Array Value)[o]?) ∧ (∀ o, W.cell? ⟨w.heap.size + 1, o, none⟩ = (#[.slice P' f.params.length pc', .int .i64 f.arrays, .int .i64 f.cells, .slice A' f.blocks.length c'] : Array Value)[o]?)) := fun W hW =>
    ⟨row_cells hb1 (hW.block w.heap.size (by omega)), row_cells hb2 (hW.block (w.heap.size + 1) (by omega))⟩
  have HK : Hid (∀ W, Below W0.heap.size W0 W → Keeps B w W) := fun W hW => Keeps.of_below ((HB0.out.trans (hW.mono (by omega))).mono hB)
  have hBW : B ≤ W0.heap.size := by omega
  obtain ⟨q1, q2⟩ := G0.out W0 (Below.refl _ _)
  have a0 := q1 0
  have a1 := q1 1
  have a2 := q1 2
  have a3 := q1 3
  have b0 := q2 0
  have b1 := q2 1
  have b2 := q2 2
  have b3 := q2 3
  clear hW0 hB0 hs0 hb1 hb2 q1 q2
  go_enter Try.func25, Try.ntmps25
  go_upto_region 1 with fail
  rw [← HW0.out]
  have e1 : (f.arrays != f.arrays) = false := by simp
  have e2 : (f.cells != f.cells) = false := by simp
  have e3 : ((f.blocks.length : Int) != (f.blocks.length : Int)) = false := by simp
  go_wp2_with fail
  refine (sameInts_any _ B _ _ f.params f.params (HP.out.keeps (HK.out _ (Below.refl _ _))) (HP'.out.keeps (HK.out _ (Below.refl _ _)))).mono ?_
  rintro e w1 ⟨rfl, m1, rfl⟩
  rw [beq_self_eq_true]
  have HB1 : Hid (Below W0.heap.size W0 (W0.drewN m1)) := below_drew2 (Below.refl _ _) _
  clear a0 a1 a2 a3 b0 b1 b2 b3
  obtain ⟨q1, q2⟩ := G0.out _ HB1.out
  have a3 := q1 3
  have b3 := q2 3
  clear q1 q2
  go_wp2_with fail
  clear a3 b3
  go_loopw [5] (fun u wr => ∃ k : Nat, k ≤ f.blocks.length ∧ u = .int .i64 k ∧ Hid (Below W0.heap.size W0 wr)) (fun u _ => f.blocks.length - (intOf u).toNat)
  case atStart => exact ⟨0, Nat.zero_le _, rfl, HB1⟩
  case round =>
    obtain ⟨k, hk, rfl, HR⟩ := hrel
    obtain ⟨q1, q2⟩ := G0.out wr HR.out
    have a3 := q1 3
    have b3 := q2 3
    clear q1 q2
    by_cases hlt : k < f.blocks.length
    · obtain ⟨q, hq⟩ : ∃ q, f.blocks[k]? = some q := ⟨_, List.getElem?_eq_getElem hlt⟩
      obtain ⟨_, _, hh, _, hx⟩ := HBL.out
      cases hh
      obtain ⟨g1, o1, hv, cv, tv, rfl, hg1, c0, c1, c2, c3, c4, c5, hph, hco, hto, _⟩ := hx k q hq
      obtain ⟨_, _, hh, _, hx'⟩ := HBL'.out
      cases hh
      obtain ⟨g2, o2, hv', cv', tv', rfl, hg2, f0, f1, f2, f3, f4, f5, hph', hco', hto', _⟩ := hx' k q hq
      have G8 : Hid (∀ W2, Below W0.heap.size W0 W2 → W2.cell? ⟨w.heap.size, 3, none⟩ = some (.slice (some ⟨g1, o1, none⟩) f.blocks.length c) ∧ W2.cell? ⟨w.heap.size + 1, 3, none⟩ = some (.slice (some ⟨g2, o2, none⟩) f.blocks.length c') ∧ W2.cell? ⟨g1, o1 + k * 6, none⟩ = some hv ∧ W2.cell? ⟨g1, o1 + k * 6 + 1, none⟩ = some cv ∧ W2.cell? ⟨g1, o1 + k * 6 + 2, none⟩ = some (.int .i64 q.term.op) ∧ W2.cell? ⟨g1, o1 + k * 6 + 3, none⟩ = some (.int .i64 q.term.val) ∧ W2.cell? ⟨g1, o1 + k * 6 + 4, none⟩ = some tv ∧ W2.cell? ⟨g1, o1 + k * 6 + 5, none⟩ = some (.int .i64 q.term.n) ∧ W2.cell? ⟨g2, o2 + k * 6, none⟩ = some hv' ∧ W2.cell? ⟨g2, o2 + k * 6 + 1, none⟩ = some cv' ∧ W2.cell? ⟨g2, o2 + k * 6 + 2, none⟩ = some (.int .i64 q.term.op) ∧ W2.cell? ⟨g2, o2 + k * 6 + 3, none⟩ = some (.int .i64 q.term.val) ∧ W2.cell? ⟨g2, o2 + k * 6 + 4, none⟩ = some tv' ∧ W2.cell? ⟨g2, o2 + k * 6 + 5, none⟩ = some (.int .i64 q.term.n)) := fun W2 h2 => by
        have hkp := HK.out W2 h2
        obtain ⟨r1, r2⟩ := G0.out W2 h2
        exact ⟨r1 3, r2 3, (hkp _ _ hg1).trans c0, (hkp _ _ hg1).trans c1, (hkp _ _ hg1).trans c2, (hkp _ _ hg1).trans c3, (hkp _ _ hg1).trans c4, (hkp _ _ hg1).trans c5, (hkp _ _ hg2).trans f0, (hkp _ _ hg2).trans f1, (hkp _ _ hg2).trans f2, (hkp _ _ hg2).trans f3, (hkp _ _ hg2).trans f4, (hkp _ _ hg2).trans f5⟩
      have HSB : Hid (∀ W2, Below W0.heap.size W0 W2 → Calls Try.prog 48 #[.agg #[hv, cv, .int .i64 q.term.op, .int .i64 q.term.val, tv, .int .i64 q.term.n], .agg #[hv', cv', .int .i64 q.term.op, .int .i64 q.term.val, tv', .int .i64 q.term.n]] W2 fun e w' => e = .returned (.bool true) ∧ Below W0.heap.size W0 w') := fun W2 h2 => by
        have hkp := HK.out W2 h2
        exact (sameBlock_yes q B _ _ _ _ _ _ W2 (hph.keeps hkp) (hco.keeps hkp) (hto.keeps hkp) (hph'.keeps hkp) (hco'.keeps hkp) (hto'.keeps hkp) (Nat.le_trans hBW h2.size)).mono fun e w' ⟨h1, h3⟩ => ⟨h1, h2.trans (h3.mono h2.size)⟩
      clear hq hx hx' c0 c1 c2 c3 c4 c5 f0 f1 f2 f3 f4 f5 a3 b3 hph hco hto hph' hco' hto'
      obtain ⟨a3, b3, c0, c1, c2, c3, c4, c5, f0, f1, f2, f3, f4, f5⟩ := G8.out wr HR.out
      go_upto_region 6 with fail
      go_region_held3 (fun w' => w'.cell? ⟨w.heap.size, 3, none⟩ = some (.slice (some ⟨g1, o1, none⟩) f.blocks.length c) ∧ w'.cell? ⟨w.heap.size + 1, 3, none⟩ = some (.slice (some ⟨g2, o2, none⟩) f.blocks.length c') ∧ w'.cell? ⟨g1, o1 + k * 6, none⟩ = some hv ∧ w'.cell? ⟨g1, o1 + k * 6 + 1, none⟩ = some cv ∧ w'.cell? ⟨g1, o1 + k * 6 + 2, none⟩ = some (.int .i64 q.term.op) ∧ w'.cell? ⟨g1, o1 + k * 6 + 3, none⟩ = some (.int .i64 q.term.val) ∧ w'.cell? ⟨g1, o1 + k * 6 + 4, none⟩ = some tv ∧ w'.cell? ⟨g1, o1 + k * 6 + 5, none⟩ = some (.int .i64 q.term.n) ∧ w'.cell? ⟨g2, o2 + k * 6, none⟩ = some hv' ∧ w'.cell? ⟨g2, o2 + k * 6 + 1, none⟩ = some cv' ∧ w'.cell? ⟨g2, o2 + k * 6 + 2, none⟩ = some (.int .i64 q.term.op) ∧ w'.cell? ⟨g2, o2 + k * 6 + 3, none⟩ = some (.int .i64 q.term.val) ∧ w'.cell? ⟨g2, o2 + k * 6 + 4, none⟩ = some tv' ∧ w'.cell? ⟨g2, o2 + k * 6 + 5, none⟩ = some (.int .i64 q.term.n)) (first | go_keep | exact G8.out _ hb8)
        (first | (go_at_call 48; refine (HSB.out _ (by exact below_drew2 HR.out 1)).mono ?_; rintro e w8 ⟨rfl, hb8⟩))
      clear a3 b3 c0 c1 c2 c3 c4 c5 f0 f1 f2 f3 f4 f5
      go_wp2
      go_roundw
      case rel => exact ⟨k + 1, by omega, by go_num, hb8⟩
      case measure => simp [intOf]; omega
    · go_wp2_with fail
      go_ret
      exact ⟨rfl, HB0.out.trans (HR.out.mono (by rw [HS0.out]; omega))⟩

end Go.Proofs.Ytocnlclighonfaa
