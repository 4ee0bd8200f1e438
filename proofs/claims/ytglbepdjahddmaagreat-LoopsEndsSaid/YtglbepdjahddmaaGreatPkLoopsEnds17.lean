/- What LoopsEnds rests on, part 17: LFacts, Cyc, ICycM, LOdd, LOddT, IRunNo, ITakeA, IRunAny, RPreds, ITrace, IEndM, IRuns, IOpen. -/
import Derived.Test.YtglbepdjahddmaaGreatPkLoopsEnds16
import Derived.BigQuiet
import Derived.Deep.QuietTactic
import Derived.Deep.RegionHeldLaw

namespace Go.Proofs.YtglbepdjahddmaaGreat
open Go.RowKit Go.Maps

/-- what a loop is like -/
structure LpIs (bs : List BlockM) (D L : Nat → Nat → Bool) (i : Nat) (x : LpM) : Prop where
  at_ : (headsM bs D bs.length)[i]? = some x.head
  blocks : x.blocks = blocksM bs.length L x.head
  latches : x.latches = latchesM bs D x.head
  exits : x.exits = exitsM bs L x.head
  parent : x.parent = arM (lp0M bs D L bs.length) i (lp0M bs D L bs.length).length

section
variable {bs : List BlockM} {o : List Nat} {pl : Nat → Nat} {par : Nat → Option Nat} {D L : Nat → Nat → Bool} {i : Nat} {x : LpM}

theorem lp0_at {x : LpM} (h : (lp0M bs D L bs.length)[i]? = some x) : (headsM bs D bs.length)[i]? = some x.head ∧ x = lpOf bs D L x.head := by
  unfold lp0M at h
  rw [List.getElem?_map] at h
  cases e : (headsM bs D bs.length)[i]? with
  | none => rw [e] at h; cases h
  | some y =>
    rw [e] at h
    cases h
    exact ⟨rfl, rfl⟩

theorem loops_at (h : (loopsM bs D L)[i]? = some x) : LpIs bs D L i x := by
  have hl := (List.getElem?_eq_some_iff.1 h).1
  unfold loopsM at h hl
  rw [parsTo_len] at hl
  rw [parsTo_at hl, if_pos hl] at h
  obtain ⟨y, hy⟩ : ∃ y, (lp0M bs D L bs.length)[i]? = some y := ⟨_, List.getElem?_eq_getElem hl⟩
  rw [getD_some hy] at h
  cases h
  obtain ⟨h1, h2⟩ := lp0_at hy
  obtain ⟨hd, hhd⟩ : ∃ hd, hd = y.head := ⟨_, rfl⟩
  rw [← hhd] at h2 h1
  subst h2
  exact ⟨h1, rfl, rfl, rfl, rfl⟩

theorem LpIs.head_lt (X : LpIs bs D L i x) : x.head < bs.length := (mem_heads.1 (List.mem_of_getElem? X.at_)).1

theorem LpIs.mem_blocks (K : LoopOk bs o pl par D L) (X : LpIs bs D L i x) (b : Nat) : b ∈ x.blocks ↔ L x.head b = true := by
  rw [X.blocks, K.fn.mem_blocks X.head_lt, K.fn.inL]

theorem LpIs.mem_latches (K : LoopOk bs o pl par D L) (X : LpIs bs D L i x) (b : Nat) : b ∈ x.latches ↔ BackP bs o x.head b := by
  rw [X.latches, K.fn.mem_latches]

/-- nothing goes in but to the head -/
theorem LpIs.shut (K : LoopOk bs o pl par D L) (X : LpIs bs D L i x) {b p : Nat} (hb : b ∈ x.blocks) (hne : b ≠ x.head) (hp : p ∈ predsTo bs bs.length b) : p ∈ x.blocks := by
  rw [X.mem_blocks K, K.fn.inL] at hb ⊢
  exact .step hb hne (mem_predsTo.1 hp)

theorem LpIs.head_mem (K : LoopOk bs o pl par D L) (X : LpIs bs D L i x) : x.head ∈ x.blocks := by
  rw [X.mem_blocks K, K.fn.inL]
  exact .head

theorem LpIs.latches_pos (X : LpIs bs D L i x) : 0 < x.latches.length := by
  have h := (mem_heads.1 (List.mem_of_getElem? X.at_)).2
  rw [← X.latches] at h
  exact List.length_pos_iff.2 h

theorem LpIs.latch (K : LoopOk bs o pl par D L) (X : LpIs bs D L i x) {p : Nat} (hp : p ∈ x.latches) : p ∈ x.blocks ∧ x.head ∈ succM bs p ∧ p < bs.length := by
  have h := (X.mem_latches K p).1 hp
  refine ⟨?_, h.1, lsucc_lt h.1⟩
  rw [X.mem_blocks K, K.fn.inL]
  exact .latch h

theorem heads_rise (bs : List BlockM) (D : Nat → Nat → Bool) (n : Nat) : (headsM bs D n).Pairwise (· < ·) := by
  unfold headsM
  exact List.Pairwise.filter _ List.pairwise_lt_range

theorem LpIs.rise {j : Nat} {y : LpM} (X : LpIs bs D L i x) (Y : LpIs bs D L j y) (h : j < i) : y.head < x.head := by
  have h1 := List.getElem?_eq_some_iff.1 X.at_
  have h2 := List.getElem?_eq_some_iff.1 Y.at_
  have h3 := List.pairwise_iff_getElem.1 (heads_rise bs D bs.length) j i h2.1 h1.1 h
  rw [h1.2, h2.2] at h3
  exact h3

theorem LpIs.ne {j : Nat} {y : LpM} (X : LpIs bs D L i x) (Y : LpIs bs D L j y) (h : j ≠ i) : x.head ≠ y.head := by
  rcases Nat.lt_or_gt_of_ne h with h | h
  · have := X.rise Y h; omega
  · have := Y.rise X h; omega

/-- how many of the blocks lie in another loop -/
theorem LpIs.both (K : LoopOk bs o pl par D L) {j : Nat} {y : LpM} (X : LpIs bs D L i x) (Y : LpIs bs D L j y) (h : j ≠ i) :
    (x.blocks.filter fun b => decide (b ∈ y.blocks)).length = 0 ∨ (x.blocks.filter fun b => decide (b ∈ y.blocks)).length = x.blocks.length ∨ (x.blocks.filter fun b => decide (b ∈ y.blocks)).length = y.blocks.length := by
  have e : (x.blocks.filter fun b => decide (b ∈ y.blocks)) = (blocksM bs.length L x.head).filter (L y.head) := by
    rw [X.blocks]
    apply List.filter_congr
    intro b _
    rw [Bool.eq_iff_iff, decide_eq_true_iff]
    exact Y.mem_blocks K b
  rw [e, X.blocks, Y.blocks]
  exact K.both X.head_lt Y.head_lt (X.ne Y h)

theorem loops_lp0 {y : LpM} (h : (loopsM bs D L)[i]? = some y) : ((lp0M bs D L bs.length).getD i noLp).head = y.head ∧ ((lp0M bs D L bs.length).getD i noLp).blocks = y.blocks := by
  have hl := (List.getElem?_eq_some_iff.1 h).1
  unfold loopsM at h hl
  rw [parsTo_len] at hl
  have h2 := parsTo_getD (ls := lp0M bs D L bs.length) (j := (lp0M bs D L bs.length).length) (i := i)
  rw [List.getD_eq_getElem?_getD, h] at h2
  exact ⟨h2.1.symm, h2.2.symm⟩

/-- a loop's parent -/
theorem loops_par (K : LoopOk bs o pl par D L) (hx : (loopsM bs D L)[i]? = some x) : x.parent = -1 ∨ ∃ (j : Nat) (y : LpM), x.parent = (j : Int) ∧ (loopsM bs D L)[j]? = some y ∧ x.blocks.length < y.blocks.length ∧ x.head ∈ y.blocks := by
  have X := loops_at hx
  rw [X.parent]
  rcases arM_range (lp0M bs D L bs.length) i (lp0M bs D L bs.length).length with h | ⟨j, h1, h2, h3, h4⟩
  · exact .inl h
  · right
    have hl : (loopsM bs D L).length = (lp0M bs D L bs.length).length := by unfold loopsM; rw [parsTo_len]
    obtain ⟨y, hy⟩ : ∃ y, (loopsM bs D L)[j]? = some y := ⟨_, List.getElem?_eq_getElem (by omega)⟩
    have Y := loops_at hy
    rw [(loops_lp0 hx).1, (loops_lp0 hy).2] at h4
    refine ⟨j, y, h1, hy, ?_, h4⟩
    have h5 := K.greater X.head_lt Y.head_lt (X.ne Y h3) ((Y.mem_blocks K x.head).1 h4)
    rw [X.blocks, Y.blocks]
    exact h5
end

end Go.Proofs.YtglbepdjahddmaaGreat

namespace Go.Proofs.YtglbepdjahddmaaGreat

/-- one block comes to another by edges, or is it -/
inductive GoTo (bs : List BlockM) : Nat → Nat → Prop
  | refl (x : Nat) : GoTo bs x x
  | step {x y z : Nat} (e : y ∈ succM bs x) (r : GoTo bs y z) : GoTo bs x z

section
variable {bs : List BlockM} {x y z : Nat}

theorem GoTo.trans (h : GoTo bs x y) (k : GoTo bs y z) : GoTo bs x z := by
  induction h with
  | refl _ => exact k
  | step e _ ih => exact .step e (ih k)

theorem GoTo.one (e : y ∈ succM bs x) : GoTo bs x y := .step e (.refl y)

theorem GoTo.last (h : GoTo bs y z) : ∀ {x : Nat}, y ∈ succM bs x → ∃ p, GoTo bs x p ∧ z ∈ succM bs p := by
  induction h with
  | refl y => exact fun {x} e => ⟨x, .refl x, e⟩
  | step e _ ih =>
    intro x e0
    obtain ⟨p, h1, h2⟩ := ih e
    exact ⟨p, .step e0 h1, h2⟩
end

theorem least_place (pl : Nat → Nat) (S : Nat → Prop) : ∀ (k x : Nat), S x → pl x ≤ k → ∃ h, S h ∧ ∀ y, S y → pl h ≤ pl y
  | 0, x, hx, hk => ⟨x, hx, fun y _ => by omega⟩
  | k + 1, x, hx, hk => by
    by_cases c : ∃ y, S y ∧ pl y < pl x
    · obtain ⟨y, hy, hl⟩ := c
      exact least_place pl S k y hy (by omega)
    · exact ⟨x, hx, fun y hy => Nat.le_of_not_lt fun h => c ⟨y, hy, h⟩⟩

section
variable {bs : List BlockM} {o : List Nat} {pl : Nat → Nat} {par : Nat → Option Nat} {D L : Nat → Nat → Bool} {h b p y : Nat}

theorem back_of_even (K : LoopOk bs o pl par D L) (hno : oddsM bs D pl = []) (e : h ∈ succM bs p) (hl : h < bs.length) (hp : pl h ≤ pl p) : BackP bs o h p := by
  rw [← K.fn.mem_latches]
  unfold latchesM
  have hm : p ∈ predsTo bs bs.length h := mem_predsTo.2 e
  refine List.mem_filter.2 ⟨hm, ?_⟩
  cases hd : D h p with
  | true => rfl
  | false =>
    have h1 : h ∈ oddsM bs D pl := by
      unfold oddsM
      refine List.mem_filter.2 ⟨List.mem_range.2 hl, ?_⟩
      unfold oddB
      exact List.any_eq_true.2 ⟨p, hm, by simp [hp, hd]⟩
    rw [hno] at h1
    cases h1

theorem loop_of_cycle (K : LoopOk bs o pl par D L) (hno : oddsM bs D pl = []) (_hb : b < bs.length) (hlt : ∀ x y, y ∈ succM bs x → y < bs.length) (e : y ∈ succM bs b) (r : GoTo bs y b) : ∃ h, h < bs.length ∧ latchesM bs D h ≠ [] ∧ L h b = true := by
  obtain ⟨h, ⟨hs1, hs2⟩, hmin⟩ := least_place pl (fun x => GoTo bs b x ∧ GoTo bs x b) (pl b) b ⟨.refl b, .refl b⟩ (Nat.le_refl _)
  obtain ⟨p, hp1, hp2⟩ := (r.trans hs1).last e
  have hhl := hlt p h hp2
  have hbp := back_of_even K hno hp2 hhl (hmin p ⟨hp1, .step hp2 hs2⟩)
  have key : ∀ x z, GoTo bs x z → z = h → GoTo bs b x → GoTo bs x b → InL bs o h x := fun x z g => by
    induction g with
    | refl x => intro e _ _; subst e; exact .head
    | @step x y z e1 r1 ih =>
      intro ez g1 g2
      subst ez
      by_cases hy : y = z
      · subst hy
        exact .latch (back_of_even K hno e1 (hlt _ _ e1) (hmin x ⟨g1, g2⟩))
      · exact .step (ih rfl (g1.trans (.one e1)) (r1.trans hs2)) hy e1
  refine ⟨h, hhl, fun hn => ?_, (K.fn.inL h b).2 (key b h hs1 rfl (.refl b) (.refl b))⟩
  have h1 := K.fn.mem_latches.2 hbp
  rw [hn] at h1
  cases h1

theorem depth_pos (K : LoopOk bs o pl par D L) (hh : h < bs.length) (hl : latchesM bs D h ≠ []) (hb : L h b = true) : 1 ≤ depM (loopsM bs D L) (loopsM bs D L).length [] 0 b := by
  obtain ⟨i, hi⟩ := List.getElem?_of_mem (mem_heads.2 ⟨hh, hl⟩)
  have hlen : i < (loopsM bs D L).length := by
    unfold loopsM
    rw [parsTo_len]
    unfold lp0M
    rw [List.length_map]
    exact (List.getElem?_eq_some_iff.1 hi).1
  obtain ⟨x, hx⟩ : ∃ x, (loopsM bs D L)[i]? = some x := ⟨_, List.getElem?_eq_getElem hlen⟩
  have X := loops_at hx
  have hxh : x.head = h := by
    have := X.at_
    rw [hi] at this
    exact (Option.some.inj this).symm
  have hm : b ∈ x.blocks := (X.mem_blocks K b).2 (by rw [hxh]; exact hb)
  unfold depM
  rw [List.take_length]
  have h2 : x ∈ (loopsM bs D L).filter (fun x => decide (b ∈ x.blocks)) := List.mem_filter.2 ⟨List.mem_of_getElem? hx, decide_eq_true hm⟩
  have := List.length_pos_of_mem h2
  omega
end

end Go.Proofs.YtglbepdjahddmaaGreat

namespace Go.Proofs.YtglbepdjahddmaaGreat
open Go.RowKit Go.Maps

theorem GoTo.first {bs : List BlockM} {x z w : Nat} (h : GoTo bs x z) (e : w ∈ succM bs z) : ∃ y, y ∈ succM bs x ∧ GoTo bs y w := by
  cases h with
  | refl _ => exact ⟨w, e, .refl w⟩
  | step e0 r => exact ⟨_, e0, r.trans (.one e)⟩

/-- what is so at every step of a run -/
structure CycM (f : FuncM) (c : CfgM) : Prop where
  come : ∀ x, 1 ≤ visM c.s x → GoTo f.blocks x c.b
  two : ∀ x, 2 ≤ visM c.s x → ∃ y, y ∈ succM f.blocks x ∧ GoTo f.blocks y x

theorem CycM.same {f : FuncM} {c d : CfgM} (h : CycM f c) (hv : ∀ x, visM d.s x = visM c.s x) (hb : d.b = c.b) : CycM f d :=
  ⟨fun x hx => by rw [hb]; exact h.come x (by rw [← hv x]; exact hx), fun x hx => h.two x (by rw [← hv x]; exact hx)⟩

theorem cyc_start {f : FuncM} {I : InM} (_hok : 0 < f.blocks.length) : CycM f (startM f I) := by
  have hv : ∀ b, visM (startM f I).s b = if 0 = b then 1 else 0 := fun b => by
    unfold visM startM enterM arriveM startS
    simp only
    rw [visM_set (by simpa using _hok)]
    by_cases e : 0 = b
    · rw [if_pos e, if_pos e]
      rw [List.getD_eq_getElem?_getD, List.getElem?_replicate]
      split <;> (show wrap64 (0 + 1) = 1; unfold wrap64; omega)
    · rw [if_neg e, if_neg e, List.getD_eq_getElem?_getD, List.getElem?_replicate]
      split <;> rfl
  refine ⟨fun x hx => ?_, fun x hx => ?_⟩
  · rw [hv] at hx
    by_cases e : 0 = x
    · subst e
      exact .refl 0
    · rw [if_neg e] at hx
      omega
  · rw [hv] at hx
    split at hx <;> omega

theorem cyc_go {f : FuncM} {nv : Nat} (hok : FOk f nv) {c : CfgM} (h : VisM f c) (hs : c.s.steps < 4294967295) (H : CycM f c) : CycM f (goM f c) := by
  have hb := blk_some h.cur
  cases hfin : c.fin with
  | some e => rw [goM_fin (by rw [hfin]; simp)]; exact H
  | none =>
  unfold goM
  rw [hfin]
  simp only
  split
  · rename_i x hx
    have ev := done_vis x (tickM c.s)
    exact H.same (fun b => by unfold visM; rw [ev]; rfl) rfl
  · have ht := (hok.term c.b _ hb).op
    unfold leaveM
    simp only
    split
    · exact H.same (fun _ => rfl) rfl
    · split
      · exact H.same (fun _ => rfl) rfl
      · rename_i h3 h4
        obtain ⟨t, ht, hmem⟩ : ∃ t, nextM (blkM f c.b).term (tickM c.s) = t ∧ t ∈ (blkM f c.b).term.to := by
          refine ⟨_, rfl, ?_⟩
          unfold nextM
          rcases ht with ⟨e, l⟩ | ⟨e, l⟩ | ⟨e, _⟩ | ⟨e, _⟩
          · rw [if_neg (by omega)]
            rw [List.getD_eq_getElem?_getD, List.getElem?_eq_getElem (by omega)]
            exact List.getElem_mem _
          · split
            · rw [List.getD_eq_getElem?_getD, List.getElem?_eq_getElem (by omega)]
              exact List.getElem_mem _
            · rw [List.getD_eq_getElem?_getD, List.getElem?_eq_getElem (by omega)]
              exact List.getElem_mem _
          · exact absurd e h3
          · exact absurd e h4
        rw [ht]
        obtain ⟨tn, rfl, htn, _⟩ := hok.goes c.b _ hb t hmem
        rw [Int.toNat_natCast]
        have hw : wrap64 (visM c.s tn + 1) = visM c.s tn + 1 := by
          have := (h.low tn)
          have h2 : 0 ≤ visM c.s tn := by
            have := this.1
            unfold leftM at this
            split at this <;> omega
          unfold wrap64
          omega
        have hv : ∀ b, visM (enterM f tn c.b (tickM c.s)).s b = visM c.s b + if tn = b then 1 else 0 := fun b => by
          unfold visM enterM arriveM
          simp only
          rw [visM_set (by show tn < c.s.vis.length; rw [h.len]; exact htn)]
          by_cases e : tn = b
          · subst e
            rw [if_pos rfl, if_pos rfl]
            exact hw
          · rw [if_neg e, if_neg e, Int.add_zero]
            rfl
        have hedge : tn ∈ succM f.blocks c.b := by
          unfold succM
          rw [hb]
          exact List.mem_map.2 ⟨_, hmem, by simp⟩
        refine ⟨fun x hx => ?_, fun x hx => ?_⟩
        · show GoTo f.blocks x tn
          rw [hv] at hx
          by_cases e : tn = x
          · subst e
            exact .refl tn
          · rw [if_neg e] at hx
            exact (H.come x (by omega)).trans (.one hedge)
        · rw [hv] at hx
          by_cases e : tn = x
          · subst e
            rw [if_pos rfl] at hx
            exact (H.come tn (by omega)).first hedge
          · rw [if_neg e] at hx
            exact H.two x (by omega)

theorem cyc_goN {f : FuncM} {nv : Nat} {I : InM} (hok : FOk f nv) (hpos : ∀ q ∈ f.blocks, ∀ x ∈ q.term.to, 1 ≤ x) : ∀ n, n ≤ 200000 → CycM f (goN f n (startM f I))
  | 0, _ => cyc_start hok.first.1
  | n + 1, hn => by
    obtain ⟨h1, h2⟩ := vis_goN (I := I) hok hpos n (by omega)
    exact cyc_go hok h1 (by omega) (cyc_goN hok hpos n (by omega))

theorem cyc_end {f : FuncM} {I : InM} {F : Nat} {s : StM} {en : EndM} (hs : CheckIs f (0, 0)) (h : EndIs f I (min F 200000) s en) (x : Nat) (hx : 2 ≤ visM s x) : ∃ y, y ∈ succM f.blocks x ∧ GoTo f.blocks y x := by
  obtain ⟨rfl, _⟩ := h
  have hok := strict_fok hs
  obtain ⟨hl, _⟩ := check_zero hs
  exact (cyc_goN (I := I) hok (fun q hq x hx => (term_in rfl (look_term hl q hq) x hx).1) (min F 200000) (by omega)).two x hx

end Go.Proofs.YtglbepdjahddmaaGreat

namespace Go.Proofs.YtglbepdjahddmaaGreat
open Go.RowKit Go.Maps

theorem own_drewN {w : World} {base n size : Nat} {e : TypeId} {v : Value} {xs : List Value} (h : w.ownsRow base e size v n xs) (m : Nat) : (w.drewN m).ownsRow base e size v n xs :=
  own_kept_below h ⟨rfl, rfl, rfl, Nat.le_refl _, fun _ _ => rfl⟩ (fun k hk => (h.lt k hk).2)

/-- an odd edge from p to b -/
def oddE (D : Nat → Nat → Bool) (pl : Nat → Nat) (b p : Nat) : Bool := decide (pl b ≤ pl p) && !D b p

/-- the marks when all edges into the blocks ahead of b are seen, and j of those into b, l -/
structure OdS (bs : List BlockM) (D : Nat → Nat → Bool) (pl : Nat → Nat) (b : Nat) (l : List Nat) (j : Nat) (S : List Nat) : Prop where
  is : ∀ x, x ∈ S ↔ ((x < b ∧ oddB bs D pl x = true) ∨ (x = b ∧ (l.take j).any (oddE D pl b) = true))

section
variable {bs : List BlockM} {D : Nat → Nat → Bool} {pl : Nat → Nat} {b j p : Nat} {l S : List Nat}

theorem OdS.start (l : List Nat) : OdS bs D pl 0 l 0 [] := ⟨fun x => by simp⟩

theorem OdS.begin (h : OdS bs D pl b l 0 S) (l' : List Nat) : OdS bs D pl b l' 0 S := ⟨fun x => by rw [h.is]; simp⟩

theorem OdS.skip (h : OdS bs D pl b l j S) (hp : l[j]? = some p) (ho : oddE D pl b p = false) : OdS bs D pl b l (j + 1) S := ⟨fun x => by
  rw [h.is, List.take_add_one, hp, List.any_append]
  simp [ho]⟩

theorem OdS.mark (h : OdS bs D pl b l j S) (hp : l[j]? = some p) (ho : oddE D pl b p = true) : OdS bs D pl b l (j + 1) (b :: S) := ⟨fun x => by
  rw [List.mem_cons, h.is, List.take_add_one, hp, List.any_append]
  simp only [Option.toList_some, List.any_cons, ho, Bool.true_or, Bool.or_true, and_true]
  constructor
  · rintro (e | e | ⟨e, _⟩)
    · exact .inr e
    · exact .inl e
    · exact .inr e
  · rintro (e | e)
    · exact .inr (.inl e)
    · exact .inl e⟩

theorem OdS.next (h : OdS bs D pl b l j S) (hl : l = predsTo bs bs.length b) (hj : l.length ≤ j) : OdS bs D pl (b + 1) l 0 S := ⟨fun x => by
  rw [h.is, List.take_of_length_le hj, hl]
  simp only [List.take_zero, List.any_nil, Bool.false_eq_true, and_false, or_false]
  constructor
  · rintro (⟨h1, h2⟩ | ⟨rfl, h2⟩)
    · exact ⟨by omega, h2⟩
    · exact ⟨by omega, h2⟩
  · rintro ⟨h1, h2⟩
    by_cases e : x = b
    · subst e
      exact .inr ⟨rfl, h2⟩
    · exact .inl ⟨by omega, h2⟩⟩

theorem OdS.done (h : OdS bs D pl bs.length l 0 S) {x : Nat} (hx : x < bs.length) : decide (x ∈ S) = oddB bs D pl x := by
  rw [Bool.eq_iff_iff, decide_eq_true_iff, h.is]
  simp [hx]
end

set_option maxRecDepth 100000 in
set_option maxHeartbeats 4000000 in
theorem lOdd_any (bs : List BlockM) (o : List Nat) (pl : Nat → Nat) (par : Nat → Option Nat) (D L : Nat → Nat → Bool) (lo gp gi gl c : Nat) (vs : List Value) (p0 p1 p2 : Value) (A : Option Addr) (w : World) (K : LoopOk bs o pl par D L) (H : LfAt w lo bs o pl par gp vs gi gl) :
    Calls Tryz.prog 29 #[.agg #[p0, p1, p2, .slice A bs.length c, .slice (some ⟨gp, 0, none⟩) bs.length bs.length, .slice (some ⟨gi, 0, none⟩) bs.length bs.length, .slice (some ⟨gl, 0, none⟩) bs.length bs.length]] w (RowPost (oddsM bs D pl) w) := by
  have HK := hideI K
  have hn5 := K.n5
  obtain ⟨W, hW⟩ : ∃ W : World, W = w.alloc (.cells #[p0, p1, p2, .slice A bs.length c, .slice (some ⟨gp, 0, none⟩) bs.length bs.length, .slice (some ⟨gi, 0, none⟩) bs.length bs.length, .slice (some ⟨gl, 0, none⟩) bs.length bs.length] 65) := ⟨_, rfl⟩
  have HBW : Hid (Below w.heap.size w W) := by show Below _ _ _; rw [hW]; exact (Below.refl _ _).alloc (Nat.le_refl _) _
  have HXW : Hid (W.heap[w.heap.size]? = some (.cells #[p0, p1, p2, .slice A bs.length c, .slice (some ⟨gp, 0, none⟩) bs.length bs.length, .slice (some ⟨gi, 0, none⟩) bs.length bs.length, .slice (some ⟨gl, 0, none⟩) bs.length bs.length] 65 (0, 0))) := by show _ = _; rw [hW]; exact heap_alloc_new w _
  have hwW : w.heap.size < W.heap.size := lt_of_heap HXW.out
  have HLW := hideI (H.kept HBW.out)
  have HW0 := hideI hW
  have hgp := HLW.out.preds.lt.2
  obtain ⟨i0, hix, hz0, hz1, hz2⟩ := info_parts bool_info
  have hx := row_cells HXW.out rfl
  have q3 := hx 3
  have q4 := hx 4
  clear K H hW hx
  go_enter Tryz.func29, Tryz.ntmps29
  go_upto_region 1 with fail
  rw [← HW0.out]
  go_upto_region 2 with (at_make; go_must (refine wpList_make_full _ rfl _ _ 118 rfl W.heap.size 4 i0 (.bool false) 1 Tryz.underlying118 hix hz0 hz1 .i64 .i64 _ _ bs.length rfl rfl rfl rfl (by rw [hz2]; omega) (by unfold maxLen; omega) (Nat.le_refl _) ?_); intro w1 hown1 hg1; go_must (rw [marks_made] at hown1; have HO1 := hideI hown1; have HB1 : Hid (Below W.heap.size W w1) := hideI ((Below.refl _ _).grown hg1 (Nat.le_refl _) (by simp)); clear hown1 hg1 q3 q4; have hx := row_cells HXW.out (HB1.out.block _ hwW); have q4 := hx 4; clear hx))
  go_wp2
  clear hix hz0 hz1 hz2 q4
  go_loopw [16] (fun u wr => ∃ (b : Nat) (S : List Nat), b ≤ bs.length ∧ u = .int .i64 b ∧ Hid (OdS bs D pl b [] 0 S) ∧ Hid (wr.ownsRow W.heap.size 4 1 (.slice (some ⟨W.heap.size, 0, none⟩) bs.length bs.length) bs.length (marks bs.length S)) ∧ Hid (Below W.heap.size W wr)) (fun u _ => bs.length - (intOf u).toNat)
  case atStart => exact ⟨0, [], Nat.zero_le _, rfl, hideI (OdS.start []), HO1, HB1⟩
  case round =>
    obtain ⟨b, S, hb, rfl, HX, HO, HBr⟩ := hrel
    by_cases hlt : b < bs.length
    · obtain ⟨v, hc0, hown⟩ := HLW.out.list hlt
      have c0 := (HBr.out.cell (p := ⟨gp, b, none⟩) hgp).trans hc0
      obtain ⟨l, hl⟩ : ∃ l, l = predsTo bs bs.length b := ⟨_, rfl⟩
      have HL := hideI hl
      rw [← hl] at hown
      have HLB : Hid (∀ x ∈ l, x < bs.length) := fun x hx => by rw [hl] at hx; exact predsTo_lt hx
      have hll : l.length ≤ 512 := by rw [hl]; exact Nat.le_trans (predsTo_len _ _ _) hn5
      obtain ⟨PA, pc2, e1, _, hpx⟩ := nat_ints hown (by omega)
      rw [List.length_map] at e1 hpx
      subst e1
      have HPX := hideI hpx
      have HXB := hideI (HX.out.begin l)
      clear hc0 hown hl hpx
      go_wp2
      clear c0
      obtain ⟨wo, rfl⟩ : ∃ wo : World, wo = wr := ⟨_, rfl⟩
      go_loopw [23] (fun u wr => ∃ (j : Nat) (S : List Nat), j ≤ l.length ∧ u = .int .i64 j ∧ Hid (OdS bs D pl b l j S) ∧ Hid (wr.ownsRow W.heap.size 4 1 (.slice (some ⟨W.heap.size, 0, none⟩) bs.length bs.length) bs.length (marks bs.length S)) ∧ Hid (Below W.heap.size W wr)) (fun u _ => l.length - (intOf u).toNat)
      case atStart => exact ⟨0, S, Nat.zero_le _, rfl, HXB, HO, HBr⟩
      case round =>
        clear HXB HX HO HBr
        obtain ⟨j, S, hj, rfl, HX, HO, HBr⟩ := hrel
        by_cases hltj : j < l.length
        · obtain ⟨p, hp⟩ : ∃ p, l[j]? = some p := ⟨_, List.getElem?_eq_getElem hltj⟩
          have hpl := HLB.out p (List.mem_of_getElem? hp)
          obtain ⟨pb, po, rfl, hpb, d0⟩ := HPX.out j hltj
          rw [List.getElem?_map, hp] at d0
          simp only [Option.map_some, Option.getD_some] at d0
          have d1 := (HBr.out.cell (p := ⟨pb, po + j, none⟩) hpb).trans d0
          have hx := row_cells HXW.out (HBr.out.block _ hwW)
          have q0 := hx 0
          have q1 := hx 1
          have q2 := hx 2
          have q3 := hx 3
          have q4 := hx 4
          have q5 := hx 5
          have q6 := hx 6
          have HLR := hideI (HLW.out.kept HBr.out)
          have cp := HLR.out.at hpl (HK.out.all p hpl)
          have cb := HLR.out.at hlt (HK.out.all b hlt)
          obtain ⟨ap, hap⟩ : ∃ ap, ap = pl p := ⟨_, rfl⟩
          obtain ⟨ab, hab⟩ : ∃ ab, ab = pl b := ⟨_, rfl⟩
          rw [← hap] at cp
          rw [← hab] at cb
          have HP := hideI hp
          have HOE : Hid (oddE D pl b p = (decide (ab ≤ ap) && !D b p)) := by show _ = _; rw [hap, hab]; rfl
          clear hx hp d0 hap hab
          by_cases hle : ab ≤ ap
          · have HDM : Hid (∀ wz, Below wr.heap.size wr wz → Calls Tryz.prog 63 #[.agg #[p0, p1, p2, .slice A bs.length c, .slice (some ⟨gp, 0, none⟩) bs.length bs.length, .slice (some ⟨gi, 0, none⟩) bs.length bs.length, .slice (some ⟨gl, 0, none⟩) bs.length bs.length], .int .i64 b, .int .i64 p] wz fun e w' => e = .returned (.bool (D b p)) ∧ Below wr.heap.size wr w') := fun wz hz =>
              (lDom_any bs o pl par D L lo gp gi gl b p vs p0 p1 p2 (.slice A bs.length c) wz HK.out (HLR.out.kept hz) hlt hpl).mono fun e w' ⟨h1, h2⟩ => ⟨h1, hz.trans (h2.mono hz.size)⟩
            have hld : decide ((ab : Int) ≤ (ap : Int)) = true := by rw [decide_eq_true_iff]; omega
            go_upto_region 8 with fail
            go_cut [44] (fun s wx => s = .bool (!D b p) ∧ Hid (Below wr.heap.size wr wx))
            case first =>
              go_region_with (go_at_call 63; go_must (refine (HDM.out _ (by first | exact (Below.refl _ _).drew | exact Below.refl _ _)).mono ?_); rintro e w2 ⟨rfl, hb2⟩; have HB2 := hideI hb2; clear hb2)
              all_goals (go_wp2_with fail; go_meet; exact ⟨rfl, HB2⟩)
            case rest =>
              obtain ⟨rfl, HBx⟩ := hcut
              have HB2 := hideI (HBr.out.trans (HBx.out.mono HBr.out.size))
              have HO2 := hideI (own_kept_below HO.out HBx.out (fun k hk => (HO.out.lt k hk).2))
              clear q0 q1 q2 q3 q4 q5 q6 cp cb d1
              generalize hr : (!D b p) = r
              cases r with
              | false =>
                have HX2 := hideI (HX.out.skip HP.out (by rw [HOE.out, hr]; simp))
                clear hr
                go_wp2
                go_roundw
                case rel => exact ⟨j + 1, S, by omega, by go_num, HX2, HO2, HB2⟩
                case measure => simp [intOf]; omega
              | true =>
                have HX2 := hideI (HX.out.mark HP.out (by rw [HOE.out, hr]; simp [hle]))
                have hmk : wc.cell? ⟨W.heap.size, b, none⟩ = some (.bool (decide (b ∈ S))) := by rw [World.ownsRow.cellAt HO2.out b (by omega), marks_at hlt]
                obtain ⟨old, hold⟩ : ∃ old : Bool, old = decide (b ∈ S) := ⟨_, rfl⟩
                rw [← hold] at hmk
                have hmf : wc.frozen? ⟨W.heap.size, b, none⟩ = false := World.ownsRow.frozenAt HO2.out b
                have hst := (World.ownsRow.stored HO2.out b (.bool true)).1
                rw [marks_set] at hst
                have HST := hideI hst
                have HBS : Hid (Below W.heap.size W (wc.setCell ⟨W.heap.size, b, none⟩ (.bool true))) := HB2.out.setCell (Nat.le_refl _) _
                clear hr hold hst
                go_wp2
                go_roundw
                case rel => exact ⟨j + 1, _, by omega, by go_num, HX2, HST, HBS⟩
                case measure => simp [intOf]; omega
          · have HX2 := hideI (HX.out.skip HP.out (by rw [HOE.out]; simp [hle]))
            have hld : decide ((ab : Int) ≤ (ap : Int)) = false := by rw [decide_eq_false_iff_not]; omega
            go_wp2_with fail
            go_quiet (fail)
            go_wp2
            go_roundw
            case rel => exact ⟨j + 1, S, by omega, by go_num, HX2, hideI (own_drewN HO.out _), hideI (drew_below HBr.out _)⟩
            case measure => simp [intOf]; omega
        · have HX2 := hideI ((HX.out.next HL.out (by omega)).begin [])
          go_wp2
          go_roundw
          case rel => exact ⟨b + 1, S, by omega, by go_num, HX2, HO, HBr⟩
          case measure => simp [intOf]; omega
    · obtain rfl : b = bs.length := by omega
      have hgr : W.heap.size < wr.heap.size := (HO.out.lt _ rfl).2
      have HRS := hideI (lRise_any bs.length W.heap.size (oddB bs D pl) wr hn5 hgr (fun b hb => by rw [World.ownsRow.cellAt HO.out b (by omega), marks_at hb, HX.out.done hb]))
      go_wp2_with (go_at_call 64; go_must (refine HRS.out.mono ?_); rintro e w5 ⟨v, rfl, hown5, hb5⟩; have HO5 := hideI hown5; have HB5 := hideI hb5; clear hown5 hb5)
      go_ret
      have h1 : w.heap.size ≤ wr.heap.size := Nat.le_trans HBW.out.size HBr.out.size
      exact ⟨v, rfl, World.ownsRow.mono HO5.out h1, HBW.out.trans ((HBr.out.mono (Nat.le_of_lt hwW)).trans (HB5.out.mono h1))⟩

end Go.Proofs.YtglbepdjahddmaaGreat

namespace Go.Proofs.YtglbepdjahddmaaGreat
open Go.RowKit Go.Maps

def OddPost (f : FuncM) (w : World) (e : Ending) (w' : World) : Prop :=
  (∃ x y : Int, CheckIs f (x, y) ∧ y ≠ 0 ∧ e = .returned (.tuple #[.slice none 0 0, .int .i64 y]) ∧ Below w.heap.size w w') ∨
  (∃ (o : List Nat) (pl : Nat → Nat) (par : Nat → Option Nat) (D L : Nat → Nat → Bool) (v : Value), LoopsOf f o pl par D L ∧ e = .returned (.tuple #[v, .int .i64 0]) ∧ w'.ownsRow w.heap.size 3 1 v (oddsM f.blocks D pl).length (natInts (oddsM f.blocks D pl)) ∧ Below w.heap.size w w')

set_option maxRecDepth 100000 in
set_option maxHeartbeats 2000000 in
theorem lOddT_any (f : FuncM) (B : Nat) (pv bv : Value) (w : World) (hpv : Ints w B pv f.params) (hbv : BlocksR w B bv f.blocks) (hB : B ≤ w.heap.size) (hid : ∀ u ∈ usesM f, I64 u.1) :
    Calls Tryz.prog 11 #[.agg #[pv, .int .i64 f.arrays, .int .i64 f.cells, bv]] w (OddPost f w) := by
  have HP := hideI hpv
  have HBL := hideI hbv
  have HID := hideI hid
  obtain ⟨P, pc, rfl, _⟩ := hpv
  obtain ⟨A, c, rfl, hbm, _⟩ := hbv
  have HB0 : Hid (Below w.heap.size w (w.alloc (.cells #[.slice P f.params.length pc, .int .i64 f.arrays, .int .i64 f.cells, .slice A f.blocks.length c] 25))) := (Below.refl _ w).alloc (Nat.le_refl _) _
  have HT := hideI (lFunc_any f B _ _ (w.alloc (.cells #[.slice P f.params.length pc, .int .i64 f.arrays, .int .i64 f.cells, .slice A f.blocks.length c] 25)) (HP.out.keeps (Keeps.of_below (HB0.out.mono hB))) (HBL.out.keeps (Keeps.of_below (HB0.out.mono hB))) (by simp; omega) HID.out)
  clear hid
  by_cases hst : ∃ o, StrictM f o
  · obtain ⟨o0, hst⟩ := hst
    have HST := hideI hst
    clear hst
    go_enter Tryz.func11, Tryz.ntmps11
    go_wp2_with (first
      | (go_at_call 28; go_must (refine HT.out.mono ?_); rintro e w1 (⟨x, y, hci, hy, _⟩ | ⟨o, pl, par, D, L, gp, vs, gi, gl, hk, rfl, hlf, hb1⟩); (exact absurd (Prod.mk.inj (HST.out.check hci)).2 hy); have HK := hideI hk; have HLF := hideI (hlf.kept ((Below.refl _ _).alloc (Nat.le_refl _) (.cells #[.slice P f.params.length pc, .int .i64 f.arrays, .int .i64 f.cells, .slice A f.blocks.length c, .slice (some ⟨gp, 0, none⟩) f.blocks.length f.blocks.length, .slice (some ⟨gi, 0, none⟩) f.blocks.length f.blocks.length, .slice (some ⟨gl, 0, none⟩) f.blocks.length f.blocks.length] 65))); have HB1 := hideI (HB0.out.trans (hb1.mono (by simp))); clear hk hlf hb1)
      | (go_at_call 29; go_must (refine (lOdd_any f.blocks o pl par D L _ gp gi gl c vs _ _ _ A _ HK.out.ok HLF.out).mono ?_); rintro e w2 ⟨v, rfl, hown, hb2⟩; have HO2 := hideI hown; have HB2 := hideI ((HB1.out.alloc HB1.out.size _).trans (hb2.mono (by have := HB1.out.size; simp; omega))); clear hown hb2))
    go_ret2
    exact .inr ⟨o, pl, par, D, L, v, HK.out, rfl, World.ownsRow.mono HO2.out (by have := HB1.out.size; simp; omega), HB2.out⟩
  · have HNG : Hid (∀ o, StrictM f o → False) := fun o h => hst ⟨o, h⟩
    clear hst
    go_enter Tryz.func11, Tryz.ntmps11
    go_wp2_with (go_at_call 28; go_must (refine HT.out.mono ?_); rintro e w1 (⟨x1, y1, hci, hy1, rfl, hb1⟩ | ⟨o, pl, par, D, L, gp, vs, gi, gl, hk, _⟩); rotate_left; (exact (HNG.out o hk.strict).elim); have hy : (y1 != 0) = true := (by rw [bne_iff_ne]; exact hy1); have HCI := hideI hci; have HY := hideI hy1; have HB1 := hideI (HB0.out.trans (hb1.mono (by simp))); clear hb1 hci hy1)
    go_ret2
    exact .inl ⟨x1, y1, HCI.out, HY.out, rfl, HB1.out.alloc HB1.out.size _⟩

end Go.Proofs.YtglbepdjahddmaaGreat

namespace Go.Proofs.YtglbepdjahddmaaGreat
open Go.RowKit Go.Maps

/-- a refused run's trace -/
def refusedV : Value := .agg #[.int .i64 6, .int .i64 0, .int .i64 0, .slice none 0 0, .slice none 0 0, .int .i64 0, .int .i64 0, .slice none 0 0]

set_option maxRecDepth 100000 in
set_option maxHeartbeats 4000000 in
theorem irun_no (f : FuncM) (B : Nat) (pv bv iv jv : Value) (F : Int) (w : World) (hpv : Ints w B pv f.params) (hbv : BlocksR w B bv f.blocks) (hB : B ≤ w.heap.size) (hid : ∀ u ∈ usesM f, I64 u.1)
    (hno : ¬ CheckIs f (0, 0) ∨ F < 0) (A1 A2 : Option Addr) (ni ac rl rc : Nat) (hiv : iv = .slice A1 ni ac) (hjv : jv = .slice A2 rl rc) :
    Calls Tryz.prog 17 #[.agg #[pv, .int .i64 f.arrays, .int .i64 f.cells, bv], .agg #[iv, jv], .int .i64 F] w fun e w' => e = .returned refusedV ∧ Below w.heap.size w w' := by
  have HPV := hideI hpv
  have HBV := hideI hbv
  obtain ⟨P, pc, rfl, _, _⟩ := hpv
  obtain ⟨A, cc, rfl, _, _⟩ := hbv
  subst hiv hjv
  obtain ⟨np, hnp⟩ : ∃ n : Nat, n = f.params.length := ⟨_, rfl⟩
  obtain ⟨nb, hnbN⟩ : ∃ n : Nat, n = f.blocks.length := ⟨_, rfl⟩
  obtain ⟨W1, hW1⟩ : ∃ W1, W1 = ((w.alloc (.cells #[.slice P np pc, .int .i64 f.arrays, .int .i64 f.cells, .slice A nb cc] 25)).alloc (.cells #[.slice A1 ni ac, .slice A2 rl rc] 41)).alloc (.cells #[.int .i64 0, .int .i64 0, .int .i64 0, .slice none 0 0, .slice none 0 0, .int .i64 0, .int .i64 0, .slice none 0 0] 43) := ⟨_, rfl⟩
  have hb1 : Below w.heap.size w W1 := by rw [hW1]; exact (((Below.refl _ w).alloc (Nat.le_refl _) _).alloc (by simp) _).alloc (by simp; omega) _
  have hs1 : W1.heap.size = w.heap.size + 3 := by rw [hW1]; simp
  have hf0 : W1.heap[w.heap.size]? = some (.cells #[.slice P np pc, .int .i64 f.arrays, .int .i64 f.cells, .slice A nb cc] 25 (0, 0)) := by
    rw [hW1, Below.heap_alloc _ _ _ (by simp; omega), Below.heap_alloc _ _ _ (by simp)]
    exact heap_alloc_new w _
  have hi0 : W1.heap[w.heap.size + 1]? = some (.cells #[.slice A1 ni ac, .slice A2 rl rc] 41 (0, 0)) := by
    rw [hW1, Below.heap_alloc _ _ _ (by simp)]
    have := heap_alloc_new (w.alloc (.cells #[.slice P np pc, .int .i64 f.arrays, .int .i64 f.cells, .slice A nb cc] 25)) (.cells #[.slice A1 ni ac, .slice A2 rl rc] 41)
    simpa using this
  have ht0 : W1.heap[w.heap.size + 2]? = some (.cells #[.int .i64 0, .int .i64 0, .int .i64 0, .slice none 0 0, .slice none 0 0, .int .i64 0, .int .i64 0, .slice none 0 0] 43 (0, 0)) := by
    rw [hW1]
    have := heap_alloc_new ((w.alloc (.cells #[.slice P np pc, .int .i64 f.arrays, .int .i64 f.cells, .slice A nb cc] 25)).alloc (.cells #[.slice A1 ni ac, .slice A2 rl rc] 41)) (.cells #[.int .i64 0, .int .i64 0, .int .i64 0, .slice none 0 0, .slice none 0 0, .int .i64 0, .int .i64 0, .slice none 0 0] 43)
    simpa using this
  have HBX : Hid (∀ W, Below W1.heap.size W1 W → (W.cell? ⟨w.heap.size, 0, none⟩ = some (.slice P np pc) ∧ W.cell? ⟨w.heap.size, 1, none⟩ = some (.int .i64 f.arrays) ∧ W.cell? ⟨w.heap.size, 2, none⟩ = some (.int .i64 f.cells) ∧ W.cell? ⟨w.heap.size, 3, none⟩ = some (.slice A nb cc)) ∧ W.cell? ⟨w.heap.size + 1, 0, none⟩ = some (.slice A1 ni ac) ∧ W.cell? ⟨w.heap.size + 1, 1, none⟩ = some (.slice A2 rl rc)) := hideI fun W hW => by
    have hx := row_cells hf0 (hW.block _ (by omega))
    have hy := row_cells hi0 (hW.block _ (by omega))
    exact ⟨⟨hx 0, hx 1, hx 2, hx 3⟩, hy 0, hy 1⟩
  have hk1 : Keeps B w W1 := Keeps.of_below (hb1.mono hB)
  have HKW : Hid (∀ W, Below W1.heap.size W1 W → Keeps B w W) := hideI fun W hW => hk1.trans (Keeps.of_below (hW.mono (by omega)))
  have HCHK : Hid (Calls Tryz.prog 41 #[.agg #[.slice P np pc, .int .i64 f.arrays, .int .i64 f.cells, .slice A nb cc]] W1 fun e w' => ∃ x y : Int, e = .returned (.tuple #[.int .i64 x, .int .i64 y]) ∧ (y = 0 → F < 0) ∧ Below W1.heap.size W1 w') := hideI (by
    have h := sCheck_any f B _ _ W1 (HPV.out.keeps hk1) (HBV.out.keeps hk1) (by omega) hid
    rw [← hnp, ← hnbN] at h
    refine h.mono ?_
    rintro e w' ⟨x, y, rfl, hc, hb⟩
    refine ⟨x, y, rfl, fun e => ?_, hb⟩
    subst e
    rcases hno with hn | hn
    · refine absurd ?_ hn
      rcases hc with ⟨h1, h2⟩ | ⟨h0, o, ho, hf⟩
      · exact absurd (Prod.mk.inj h2).2.symm h1
      · rcases hf with ⟨b, _, e⟩ | ⟨_, b, _, e⟩ | ⟨_, _, b, _, e⟩ | ⟨a0, a1, a2, e⟩
        · exact absurd (Prod.mk.inj e).2 (by decide)
        · exact absurd (Prod.mk.inj e).2 (by decide)
        · exact absurd (Prod.mk.inj e).2 (by decide)
        · exact .inr ⟨h0, o, ho, .inr (.inr (.inr ⟨a0, a1, a2, rfl⟩))⟩
    · exact hn)
  have HW1 := hideI hW1
  have HB1 := hideI hb1
  have HS1 := hideI hs1
  have HT0 := hideI ht0
  have hbx := HBX.out W1 (Below.refl _ _)
  obtain ⟨⟨q0, q1, q2, q3⟩, q4, q5⟩ := hbx
  have hlt0 : w.heap.size < W1.heap.size := by omega
  have hlt1 : w.heap.size + 1 < W1.heap.size := by omega
  have hlt2 : w.heap.size + 2 < W1.heap.size := by omega
  rw [← hnp, ← hnbN]
  clear hnp hnbN hb1 hs1 hf0 hi0 ht0 hk1 hno hW1 hid
  go_enter Tryz.func17, Tryz.ntmps17
  go_upto_region 1 with fail
  rw [← HW1.out]
  go_upto_region 4 with (first
    | (go_at_call 41; refine HCHK.out.mono ?_; rintro e w2 ⟨x, y, rfl, hy, hb2⟩; have HB2 := hideI hb2; have HY := hideI hy; clear hb2 hy q0 q1 q2 q3 q4 q5; have qq := HBX.out w2 HB2.out; obtain ⟨⟨q0, q1, q2, q3⟩, q4, q5⟩ := qq; have hbt := (HB2.out.block (w.heap.size + 1 + 1) (by omega)).trans HT0.out; have hyy := row_cells hbt rfl; have hz := fun o => frozen_of_row w2 (w.heap.size + 1 + 1) o _ _ hbt; have y0 := hyy 0; have y1 := hyy 1; have y2 := hyy 2; have y3 := hyy 3; have y4 := hyy 4; have y5 := hyy 5; have y6 := hyy 6; have y7 := hyy 7; have z0 := hz 0; have z1 := hz 1; have z2 := hz 2; have z3 := hz 3; have z4 := hz 4; have z5 := hz 5; have z6 := hz 6; have z7 := hz 7; have HBT := hideI hbt; clear hyy hz hbt))
  all_goals first
    | (exfalso; have h1 := HY.out ‹y = 0›; have h2 := ‹0 ≤ F›; omega)
    | skip
  all_goals
    obtain ⟨W8, hW8⟩ : ∃ W8, W8 = (((((((w2.setCell ⟨w.heap.size + 1 + 1, 0, none⟩ (.int .i64 6)).setCell ⟨w.heap.size + 1 + 1, 1, none⟩ (.int .i64 0)).setCell ⟨w.heap.size + 1 + 1, 2, none⟩ (.int .i64 0)).setCell ⟨w.heap.size + 1 + 1, 3, none⟩ (.slice none 0 0)).setCell ⟨w.heap.size + 1 + 1, 4, none⟩ (.slice none 0 0)).setCell ⟨w.heap.size + 1 + 1, 5, none⟩ (.int .i64 0)).setCell ⟨w.heap.size + 1 + 1, 6, none⟩ (.int .i64 0)).setCell ⟨w.heap.size + 1 + 1, 7, none⟩ (.slice none 0 0) := ⟨_, rfl⟩
    rw [← hW8]
    obtain ⟨hb8, _, hbe8⟩ := eight_set HBT.out _ _ _ _ _ _ _ _ hW8
    have hx := row_cells hb8 rfl
    have s0 := hx 0
    have s1 := hx 1
    have s2 := hx 2
    have s3 := hx 3
    have s4 := hx 4
    have s5 := hx 5
    have s6 := hx 6
    have s7 := hx 7
    clear hx hW8 y0 y1 y2 y3 y4 y5 y6 y7 z0 z1 z2 z3 z4 z5 z6 z7
    refine bodyPost_ret (v := refusedV) (by simp [results, Tryz.results17, go_sem, s0, s1, s2, s3, s4, s5, s6, s7, refusedV]) rfl ?_
    exact ⟨rfl, HB1.out.trans ((HB2.out.mono (by have := HS1.out; omega)).trans (hbe8 _ (by omega)))⟩
end Go.Proofs.YtglbepdjahddmaaGreat

namespace Go.Proofs.YtglbepdjahddmaaGreat
open Go.RowKit Go.Maps

/-- lists of numbers in memory -/
def ArrsR (w : World) (B : Nat) (v : Value) (xs : List (List Int)) : Prop :=
  ∃ A c, v = .slice A xs.length c ∧ xs.length ≤ 140737488351232 ∧ ∀ k l, xs[k]? = some l → ∃ b off lv, A = some ⟨b, off, none⟩ ∧ b < B ∧ w.cell? ⟨b, off + k, none⟩ = some lv ∧ Ints w B lv l ∧ ∀ A2 n2 c2, lv = .slice A2 n2 c2 → n2 ≤ c2

/-- the arrays so far -/
def arrsAt (xs : List (List Int)) (na i : Nat) : List (List Int) := (List.range na).map fun j => if j < i then (xs.getD j []).take 4096 else []

theorem arrsAt_zero (xs : List (List Int)) (na : Nat) : arrsAt xs na 0 = List.replicate na [] := by
  unfold arrsAt
  apply List.ext_getElem?
  intro k
  by_cases hk : k < na <;> simp [hk]

theorem arrsAt_len (xs : List (List Int)) (na i : Nat) : (arrsAt xs na i).length = na := by simp [arrsAt]

theorem arrsAt_next {xs : List (List Int)} {na i : Nat} {l : List Int} (hi : xs[i]? = some l) (hn : i < na) : (arrsAt xs na i).set i (l.take 4096) = arrsAt xs na (i + 1) := by
  unfold arrsAt
  apply List.ext_getElem?
  intro k
  rw [List.getElem?_set]
  by_cases e : i = k
  · subst e
    rw [if_pos rfl, if_pos (by simpa using hn), List.getElem?_map, List.getElem?_range hn]
    simp only [Option.map_some]
    rw [if_pos (by omega), List.getD_eq_getElem?_getD, hi]
    rfl
  · rw [if_neg e]
    by_cases hk : k < na
    · simp only [List.getElem?_map, List.getElem?_range hk, Option.map_some]
      congr 1
      by_cases h1 : k < i
      · rw [if_pos h1, if_pos (by omega)]
      · rw [if_neg h1, if_neg (by omega)]
    · simp [hk]

theorem arrsAt_all (f : FuncM) (I : InM) {n : Nat} (hn : n = min f.arrays.toNat I.arrs.length) : arrsAt I.arrs f.arrays.toNat n = (startS f I).arrs := by
  unfold arrsAt startS
  apply List.ext_getElem?
  intro k
  by_cases hk : k < f.arrays.toNat
  · simp only [List.getElem?_map, List.getElem?_range hk, Option.map_some]
    congr 1
    by_cases h1 : k < n
    · rw [if_pos h1]
    · rw [if_neg h1, List.getD_eq_getElem?_getD, List.getElem?_eq_none (by omega)]
      rfl
  · simp [hk]

section
variable {c : MachC} {K : Nat → Prop} {w w1 : World} {val : MVals} {s : StM}

/-- one more array is there -/
theorem MachR.takeArr (h : MachR c K w val s) {i : Nat} (hi : i < s.arrs.length) {ga ca : Nat} (hga : val .arrs = .slice (some ⟨ga, 0, none⟩) s.arrs.length ca) {v : Value} {l : List Int} (hb : Below w.heap.size w w1) (hown : w1.ownsRow 0 3 1 v l.length (l.map (Value.int .i64))) (hnew : ∀ g, v.ownBlock = some g → w.heap.size ≤ g) :
    ∃ val', val' .arrs = val .arrs ∧ MachR c K (w1.setCell ⟨ga, i, none⟩ v) val' { s with arrs := s.arrs.set i l } ∧ KF K w (w1.setCell ⟨ga, i, none⟩ v) := by
  have hra : mRow s c.nv val .arrs = some ⟨22, s.arrs.length, (List.range s.arrs.length).map fun j => val (.arr j)⟩ := rfl
  have hoa : (val .arrs).ownBlock = some ga := by rw [hga]; rfl
  have hoff := h.off .arrs _ ga hra hoa
  have hgl := h.own_lt hra hoa
  have hml := h.m_lt
  have hk : KF K w (w1.setCell ⟨ga, i, none⟩ v) := (KF.of_below hb h.low).setCell hoff.2 v
  have hrow1 : w1.ownsRow 0 22 1 (.slice (some ⟨ga, 0, none⟩) s.arrs.length ca) s.arrs.length ((List.range s.arrs.length).map fun j => val (.arr j)) := by
    rw [← hga]
    exact owns_kept (h.rows _ _ hra) fun g hg => hb.block g (h.own_lt hra hg)
  have hst := World.ownsRow.stored hrow1 i v
  refine ⟨fun t => if t = .arr i then v else val t, by simp, h.remake (.arr i) hk ?_ (fun t d ht => ?_) (fun t d g ht e => ?_), hk⟩
  · rw [Below.heap_setCell _ _ _ _ (fun e => hoff.1 e.symm), hb.block _ hml, h.blk]
    congr 2
  · have old : ∀ t' d', t' ≠ .arrs → mRow s c.nv val t' = some d' → (w1.setCell ⟨ga, i, none⟩ v).ownsRow 0 d'.elem 1 (val t') d'.len d'.cells := fun t' d' hne ht' => by
      refine owns_kept (h.rows t' d' ht') fun g hg => ?_
      rw [Below.heap_setCell _ _ _ _ (fun e => hne (h.apart t' .arrs d' _ g ht' hra hg (by rw [hoa, e])))]
      exact hb.block g (h.own_lt ht' hg)
    cases t with
    | arr j =>
      by_cases e : j = i
      · subst e
        simp only [mRow, List.getElem?_set_self hi, Option.map_some, Option.some.injEq] at ht
        subst ht
        rw [if_pos rfl]
        have hne : v.ownBlock ≠ some ga := fun e2 => by have := hnew ga e2; omega
        have e3 : intRow l = ⟨3, l.length, l.map (Value.int .i64)⟩ := rfl
        rw [e3]
        exact ownsRow_setCell_other hown hne v
      · have hne : (MTag.arr j) ≠ .arr i := fun e2 => e (by injection e2)
        rw [if_neg hne]
        refine old (.arr j) d (by simp) ?_
        simp only [mRow] at ht ⊢
        rw [List.getElem?_set_ne (fun e2 => e e2.symm)] at ht
        exact ht
    | arrs =>
      injection ht with ht
      subst ht
      rw [if_neg (by simp)]
      have e1 : ((List.range (s.arrs.set i l).length).map fun j => (if MTag.arr j = .arr i then v else val (.arr j))) = ((List.range s.arrs.length).map fun j => val (.arr j)).set i v := by
        rw [List.length_set]
        apply List.ext_getElem?
        intro k
        rw [List.getElem?_set]
        by_cases e : i = k
        · subst e
          rw [if_pos rfl, if_pos (by simpa using hi), List.getElem?_map, List.getElem?_range hi]
          simp
        · rw [if_neg e]
          by_cases hk : k < s.arrs.length
          · simp only [List.getElem?_map, List.getElem?_range hk, Option.map_some]
            rw [if_neg (fun e2 => e (by injection e2 with e2; exact e2.symm))]
          · simp [hk]
      simp only at e1 ⊢
      rw [e1, hga, List.length_set]
      exact hst.1
    | vals => exact old .vals d (by simp) ht
    | cells => exact old .cells d (by simp) ht
    | vis => exact old .vis d (by simp) ht
    | out => exact old .out d (by simp) ht
  · cases t with
    | arr j =>
      by_cases e2 : j = i
      · subst e2
        rw [if_pos rfl] at e
        exact .inr ⟨rfl, hnew g e⟩
      · have hne : (MTag.arr j) ≠ .arr i := fun e3 => e2 (by injection e3)
        rw [if_neg hne] at e
        simp only [mRow] at ht
        rw [List.getElem?_set_ne (fun e3 => e2 e3.symm)] at ht
        exact .inl ⟨hne, ⟨d, ht⟩, e⟩
    | arrs => exact .inl ⟨by simp, ⟨_, hra⟩, by simpa using e⟩
    | vals => exact .inl ⟨by simp, ⟨d, ht⟩, by simpa using e⟩
    | cells => exact .inl ⟨by simp, ⟨d, ht⟩, by simpa using e⟩
    | vis => exact .inl ⟨by simp, ⟨d, ht⟩, by simpa using e⟩
    | out => exact .inl ⟨by simp, ⟨d, ht⟩, by simpa using e⟩

set_option maxRecDepth 100000 in
set_option maxHeartbeats 4000000 in
theorem takeArrays_any (f : FuncM) (I : InM) (B : Nat) (w : World) (av : Value) (hA : ArrsR w B av I.arrs) (harr : 0 ≤ f.arrays ∧ f.arrays ≤ 8) : TakeArrs f I B w av := by
  intro c K W val s h hkeep hK hs
  obtain ⟨i0, hix, hi2⟩ : ∃ i, Tryz.prog.info? 3 = some i ∧ i.zero = some (.int .i64 0) ∧ i.size = 1 ∧ i.bytes = 8 := ⟨_, rfl, rfl, rfl, rfl⟩
  obtain ⟨hz0, hz1, hz2⟩ := hi2
  obtain ⟨A, ac, rfl, hal, hat⟩ := hA
  have H := hideI h
  have HAT := hideI hat
  have HKP := hideI hkeep
  have HK := hideI hK
  obtain ⟨na, hna⟩ : ∃ na, na = f.arrays.toNat := ⟨_, rfl⟩
  obtain ⟨nx, hnx⟩ : ∃ nx, nx = I.arrs.length := ⟨_, rfl⟩
  have hna8 : na ≤ 8 := by omega
  have hlen : s.arrs.length = na := by rw [hs, List.length_replicate, hna]
  have hrow := h.rows .arrs _ rfl
  obtain ⟨Ao, ca, hv⟩ : ∃ Ao ca, val .arrs = .slice Ao na ca := by
    rcases hrow.2 with ⟨e, e0⟩ | ⟨g, cap, cur, e, _⟩
    · exact ⟨none, 0, by rw [e]; congr 1; rw [← hlen]; exact e0.symm⟩
    · exact ⟨_, _, by rw [e, ← hlen]⟩
  have c4 := h.cells 4
  simp only [machCells] at c4
  rw [hv] at c4
  have HV := hideI hv
  rw [← hnx] at hal ⊢
  obtain ⟨n, hn⟩ : ∃ n : Nat, n = min na nx := ⟨_, rfl⟩
  have hn1 : n ≤ na := by omega
  have hn2 : n ≤ nx := by omega
  have hmin : min (na : Int) (nx : Int) = (n : Int) := by omega
  have HN := hideI hn
  have HNX := hideI hnx
  have HNA := hideI hna
  have HS := hideI hs
  clear h hat hkeep hK hrow hlen hv hs hnx hna hn
  go_enter Tryz.func76, Tryz.ntmps76
  go_wp2
  clear hmin
  go_loopw [15] (fun u wr => ∃ (i : Nat) (val2 : MVals), i ≤ n ∧ u = .int .i64 i ∧ val2 .arrs = .slice Ao na ca ∧ Hid (MachR c K wr val2 { s with arrs := arrsAt I.arrs na i }) ∧ Hid (KF K W wr)) (fun u _ => n - (intOf u).toNat)
  case atStart => exact ⟨0, val, Nat.zero_le _, rfl, HV.out, hideI (by rw [arrsAt_zero, HNA.out, ← HS.out]; exact H.out), hideI (KF.refl _)⟩
  case round =>
    obtain ⟨i, val2, hi, rfl, hv2, HMr, HFr⟩ := hrel
    have HV2 := hideI hv2
    clear hv2
    by_cases hlt : i < n
    · obtain ⟨l, hl⟩ : ∃ l, I.arrs[i]? = some l := ⟨_, List.getElem?_eq_getElem (by rw [← HNX.out]; omega)⟩
      obtain ⟨xb, xoff, lv, rfl, hxb, x0, hli, hcap⟩ := HAT.out i l hl
      have kp : Keeps B w wr := HKP.out.trans (HFr.out.keeps HK.out)
      rw [← kp _ _ hxb] at x0
      have hli2 := hli.keeps kp
      have hlen2 : ({ s with arrs := arrsAt I.arrs na i } : StM).arrs.length = na := arrsAt_len _ _ _
      have hrr : mRow { s with arrs := arrsAt I.arrs na i } c.nv val2 .arrs = some ⟨22, (arrsAt I.arrs na i).length, (List.range (arrsAt I.arrs na i).length).map fun j => val2 (.arr j)⟩ := rfl
      obtain ⟨ga, ca2, hga⟩ := HMr.out.slice hrr (by show 0 < (arrsAt I.arrs na i).length; rw [arrsAt_len]; omega)
      have hga' : val2 .arrs = .slice (some ⟨ga, 0, none⟩) na ca2 := by rw [hga, arrsAt_len]
      obtain ⟨rfl, rfl⟩ : Ao = some ⟨ga, 0, none⟩ ∧ ca = ca2 := by
        have e := HV2.out.symm.trans hga'
        injection e with e1 _ e3
        exact ⟨e1, e3⟩
      have hgc := HMr.out.cell (j := i) hrr hga (by show i < (arrsAt I.arrs na i).length; rw [arrsAt_len]; omega)
      have hgcs : ∃ u, ((List.range (arrsAt I.arrs na i).length).map fun j => val2 (.arr j))[i]? = some u := ⟨_, List.getElem?_eq_getElem (by simp [arrsAt_len]; omega)⟩
      obtain ⟨u0, hu0⟩ := hgcs
      have y0 := hgc.1.trans hu0
      have y1 := hgc.2
      have c4 := HMr.out.cells 4
      simp only [machCells] at c4
      rw [hga'] at c4
      have hgl := HMr.out.own_lt hrr (show (val2 .arrs).ownBlock = some ga by rw [hga']; rfl)
      have hgm := (HMr.out.off .arrs _ ga hrr (by rw [hga']; rfl)).1
      have hgx : ¬ ga = xb := fun e => (HMr.out.off .arrs _ ga hrr (by rw [hga']; rfl)).2 (by rw [e]; exact HK.out xb hxb)
      have hgx' : ¬ xb = ga := fun e => hgx e.symm
      have hgm' : ¬ c.m = ga := fun e => hgm e.symm
      have hml := HMr.out.m_lt
      have hxl := World.block_lt_of_cell? wr _ x0
      obtain ⟨A2, c2, rfl, hll, hlat⟩ := hli2
      have hc2 := hcap _ _ _ rfl
      obtain ⟨k, hk⟩ : ∃ k : Nat, k = min l.length 4096 := ⟨_, rfl⟩
      obtain ⟨ln, hln⟩ : ∃ ln : Nat, ln = l.length := ⟨_, rfl⟩
      rw [← hln] at x0 hc2
      have hmin : min (ln : Int) 4096 = (k : Int) := by omega
      have hkc : (k : Int) ≤ (c2 : Int) := by omega
      have hkc' : k ≤ c2 := by omega
      have htl : (l.take 4096).length = k := by rw [List.length_take, hk]; omega
      have HL := hideI hl
      have HTL := hideI htl
      have HGA := hideI hga'
      have hin : i < na := by omega
      have hix2 : i < nx := by omega
      by_cases hk0 : k = 0
      · subst hk0
        have hpure : ∀ W : World, Sem.run Tryz.prog (pure (#[] : Array Value)) W = .ok #[] W := fun _ => rfl
        clear hli hcap kp hlen2 hrr hga hgc hu0 hlat hln hk htl hl hga'
        cases A2
        all_goals
          go_wp2
          go_region_held3 (fun w' => w'.cell? ⟨c.m, 4, none⟩ = some (.slice (some ⟨ga, 0, none⟩) na ca)) (first | go_keep) (first | fail)
          go_wp2
          go_roundw
          case rel =>
            obtain ⟨val3, h31, h32, h33⟩ := HMr.out.takeArr (i := i) (l := l.take 4096) (v := .slice none 0 0) (by show i < (arrsAt I.arrs na i).length; rw [arrsAt_len]; exact hin) (by rw [HGA.out]; congr 1; exact (arrsAt_len _ _ _).symm) (Below.refl _ _)
              (by have e : l.take 4096 = [] := List.eq_nil_of_length_eq_zero HTL.out
                  rw [e]; exact World.ownsRow_nil _ _ _ _) (fun g e => by cases e)
            refine ⟨i + 1, val3, by omega, by go_num, by rw [h31, HGA.out], hideI ?_, hideI (HFr.out.trans (h33.drewN 1))⟩
            rw [← arrsAt_next HL.out hin]
            exact h32.drewN 1
          case measure => simp [intOf]; omega
      · obtain ⟨b2, off2, rfl, hb2, _⟩ := hlat 0 (by omega)
        obtain ⟨news, hnews⟩ : ∃ news, news = (l.take 4096).map (Value.int .i64) := ⟨_, rfl⟩
        have HNL : Hid (news.length = k * 1) := hideI (by rw [hnews, List.length_map, htl, Nat.mul_one])
        have HNW : Hid (∀ (W : World), Below wr.heap.size wr W → ∀ j u, news[j]? = some u → W.cell? ((⟨b2, off2, none⟩ : Addr).add j) = some u) := hideI fun W hW j u hu => by
          rw [hnews, List.getElem?_map] at hu
          cases hj : (l.take 4096)[j]? with
          | none => rw [hj] at hu; cases hu
          | some y =>
            rw [hj] at hu
            simp only [Option.map_some, Option.some.injEq] at hu
            subst hu
            rw [List.getElem?_take] at hj
            split at hj
            · obtain ⟨b3, off3, e, hb3, hc3⟩ := hlat j (List.getElem?_eq_some_iff.1 hj).1
              cases e
              rw [hj] at hc3
              rw [Go.WideShapes.add_plain]
              exact (hW.cell (p := ⟨b2, off2 + j, none⟩) (World.block_lt_of_cell? wr _ hc3)).trans hc3
            · cases hj
        have HONE : Hid (∀ u ∈ news, u.oneCell' = true) := hideI (by rw [hnews]; intro u hu; obtain ⟨y, _, rfl⟩ := List.mem_map.1 hu; rfl)
        have hkpos : 0 < k := by omega
        have hk4 : k ≤ 4096 := by omega
        have HK4 := hideI hk4
        have HKPOS := hideI hkpos
        have HNEWS := hideI hnews
        have HC4 : Hid (wr.cell? ⟨c.m, 4, none⟩ = some (.slice (some ⟨ga, 0, none⟩) na ca)) := hideI (by rw [c4]; rfl)
        have HY0 := hideI y0
        have HY1 := hideI y1
        have HGL := hideI hgl
        have HML := hideI hml
        clear hli hcap kp hlen2 hrr hga hgc hu0 hlat hln hk htl hl hga' hnews
        go_wp2
        go_region_held3 (fun w' => w'.cell? ⟨c.m, 4, none⟩ = some (.slice (some ⟨ga, 0, none⟩) na ca)) (first | go_keep | exact hc4n)
          (first
            | (refine step_append_lies _ rfl _ _ _ rfl 0 3 i0 (.int .i64 0) 1 8 Tryz.underlying22 hix hz0 hz1 hz2 rfl (by decide) (.slice none 0 0) 0 [] rfl (World.ownsRow_nil _ _ _ _) ⟨b2, off2, none⟩ k c2 news rfl HNL.out (HNW.out _ (by exact Below.drew (Below.refl _ _))) HONE.out HKPOS.out (by have := HK4.out; unfold maxLen; omega) (by have := HK4.out; omega) (Nat.zero_le _) _ rfl ?_; intro g4 cap4 w4 hown4 hg4 hat4 hlt4; have hB4 : Below wr.heap.size wr w4 := ⟨hg4.os, hg4.tape, hg4.output, hg4.size, fun b hb => hg4.block b hb (fun e => by cases e)⟩; have hgn : wr.heap.size ≤ g4 := (by rcases hat4 with e | e; cases e; rw [e]; exact Nat.le_refl _); have HB4 := hideI hB4; have HGN := hideI hgn; have HOW4 := hideI hown4; have hc4n := (hB4.cell (p := ⟨c.m, 4, none⟩) HML.out).trans HC4.out; have y0n := (hB4.cell (p := ⟨ga, i, none⟩) HGL.out).trans HY0.out; have y1n := (hB4.frozen (p := ⟨ga, i, none⟩) HGL.out).trans HY1.out; have hg4m : ¬ g4 = c.m := (fun e => by have := HML.out; omega); have hg4a : ¬ g4 = ga := (fun e => by have := HGL.out; omega); clear hg4 hat4 hown4 hB4 hgn))
        go_wp2
        go_roundw
        case rel =>
          obtain ⟨val3, h31, h32, h33⟩ := HMr.out.takeArr (w1 := w4) (i := i) (l := l.take 4096) (v := .slice (some ⟨g4, 0, none⟩) k cap4) (by show i < (arrsAt I.arrs na i).length; rw [arrsAt_len]; exact hin) (by rw [HGA.out]; congr 1; exact (arrsAt_len _ _ _).symm) HB4.out
            (by rw [HTL.out, ← HNEWS.out]; have h := HOW4.out; rw [List.nil_append, Nat.zero_add] at h; exact h) (fun g e => by injection e with e; rw [← e]; exact HGN.out)
          refine ⟨i + 1, val3, by omega, by go_num, by rw [h31, HGA.out], hideI ?_, hideI (HFr.out.trans h33)⟩
          rw [← arrsAt_next HL.out hin]
          exact h32
        case measure => simp [intOf]; omega
    · obtain rfl : i = n := by omega
      go_wp2
      go_end0
      exact ⟨rfl, val2, by rw [← arrsAt_all f I (n := i) (by rw [← HNA.out, ← HNX.out]; exact HN.out), ← HNA.out]; exact HMr.out, HFr.out⟩
end
end Go.Proofs.YtglbepdjahddmaaGreat

namespace Go.Proofs.YtglbepdjahddmaaGreat
open Go.RowKit Go.Maps

theorem ArrsR.keeps {w W : World} {B : Nat} {v : Value} {xs : List (List Int)} (h : ArrsR w B v xs) (k : Keeps B w W) : ArrsR W B v xs := by
  obtain ⟨A, c, rfl, hl, h⟩ := h
  refine ⟨A, c, rfl, hl, fun i l hi => ?_⟩
  obtain ⟨b, off, lv, ha, hb, hc, hi, hn⟩ := h i l hi
  exact ⟨b, off, lv, ha, hb, (k b _ hb).trans hc, hi.keeps k, hn⟩

/-- what Run answers, of any function -/
def RunAny (f : FuncM) (I : InM) (F : Int) (w : World) (e : Ending) (w' : World) : Prop :=
  (CheckIs f (0, 0) ∧ 0 ≤ F ∧ RunIs f I F.toNat w e w') ∨ ((¬ CheckIs f (0, 0) ∨ F < 0) ∧ e = .returned refusedV ∧ Below w.heap.size w w')

theorem irun_any (f : FuncM) (I : InM) (B : Nat) (pv bv av rv : Value) (F : Int) (w : World) (hpv : Ints w B pv f.params) (hbv : BlocksR w B bv f.blocks) (hB : B ≤ w.heap.size) (hid : ∀ u ∈ usesM f, I64 u.1)
    (ha : Ints w B av I.args) (hr : ArrsR w B rv I.arrs) :
    Calls Tryz.prog 17 #[.agg #[pv, .int .i64 f.arrays, .int .i64 f.cells, bv], .agg #[av, rv], .int .i64 F] w (RunAny f I F w) := by
  by_cases hs : CheckIs f (0, 0) ∧ 0 ≤ F
  · obtain ⟨hs, hF⟩ := hs
    obtain ⟨h1, h2, h3, h4, h5⟩ := strict_bounds hs
    obtain ⟨A2, c2, hrv, _, _⟩ := id hr
    obtain ⟨Fn, rfl⟩ : ∃ n : Nat, F = (n : Int) := ⟨F.toNat, by omega⟩
    refine (irun_yes f I B pv bv av rv Fn w hpv hbv hB hid hs (strict_fok hs) (start_fit f I) h1 h2 h3 h4 h5 ha (fun W hW => takeArrays_any f I B W rv (hr.keeps hW) h4) A2 _ c2 hrv).mono ?_
    intro e w' h
    exact .inl ⟨hs, hF, by simpa using h⟩
  · obtain ⟨A1, c1, hav, _, _⟩ := ha
    obtain ⟨A2, c2, hrv, _, _⟩ := hr
    have hno : ¬ CheckIs f (0, 0) ∨ F < 0 := by
      by_cases hc : CheckIs f (0, 0)
      · exact .inr (by have : ¬ 0 ≤ F := fun h => hs ⟨hc, h⟩; omega)
      · exact .inl hc
    exact (irun_no f B pv bv av rv F w hpv hbv hB hid hno A1 A2 _ c1 _ c2 hav hrv).mono fun e w' h => .inr ⟨hno, h⟩
end Go.Proofs.YtglbepdjahddmaaGreat

namespace Go.Proofs.YtglbepdjahddmaaGreat
open Go.RowKit Go.Maps

/-- the reference's lists: those of blocks before t are done; of t, what comes from the first b -/
def predsRow (bs : List BlockM) (n t b : Nat) : List (List Nat) := (List.range n).map fun u => if u < t then predsTo bs n u else if u = t then predsTo bs b u else []

theorem predsRow_at {bs : List BlockM} {n t b u : Nat} (h : u < n) : (predsRow bs n t b)[u]? = some (if u < t then predsTo bs n u else if u = t then predsTo bs b u else []) := by
  unfold predsRow
  rw [List.getElem?_map, List.getElem?_eq_getElem (by simpa using h)]
  simp

theorem predsRow_zero (bs : List BlockM) (n : Nat) : predsRow bs n 0 0 = (List.range n).map fun _ => [] := by
  unfold predsRow
  apply List.map_congr_left
  intro u _
  rw [if_neg (by omega)]
  split
  · simp [predsTo]
  · rfl

theorem predsRow_skip {bs : List BlockM} {n t b : Nat} (h : t ∉ succM bs b) : predsRow bs n t (b + 1) = predsRow bs n t b := by
  unfold predsRow
  apply List.map_congr_left
  intro u _
  by_cases e : u = t
  · subst e
    rw [predsTo_succ, if_neg h, List.append_nil]
  · simp [e]

theorem predsRow_push {bs : List BlockM} {n t b : Nat} (h : t ∈ succM bs b) (_htn : t < n) : (predsRow bs n t b).set t (predsTo bs b t ++ [b]) = predsRow bs n t (b + 1) := by
  apply List.ext_getElem?
  intro u
  by_cases hu : u < n
  · rw [predsRow_at hu]
    by_cases e : t = u
    · subst e
      rw [List.getElem?_set_self (by unfold predsRow; simpa using hu), if_neg (by omega), if_pos rfl, predsTo_succ, if_pos h]
    · rw [List.getElem?_set_ne e, predsRow_at hu]
      have e' : ¬ u = t := fun x => e x.symm
      simp [e']
  · rw [List.getElem?_eq_none (by rw [List.length_set]; unfold predsRow; simp; omega), List.getElem?_eq_none (by unfold predsRow; simp; omega)]

theorem predsRow_next (bs : List BlockM) (n t : Nat) : predsRow bs n t n = predsRow bs n (t + 1) 0 := by
  unfold predsRow
  apply List.map_congr_left
  intro u _
  by_cases h1 : u < t
  · rw [if_pos h1, if_pos (by omega)]
  · rw [if_neg h1]
    by_cases h2 : u = t
    · subst h2
      rw [if_pos rfl, if_pos (by omega)]
    · rw [if_neg h2, if_neg (by omega)]
      split
      · simp [predsTo]
      · rfl

theorem predsRow_last (bs : List BlockM) (n : Nat) : predsRow bs n n 0 = predsAt bs n n 0 := by
  unfold predsRow predsAt
  apply List.map_congr_left
  intro u hu
  rw [if_pos (by simpa using hu)]
  simp

theorem mem_to {bs : List BlockM} {q : BlockM} {b t : Nat} (hin : EndsIn bs) (hq : bs[b]? = some q) : ((t : Int) ∈ q.term.to) ↔ t ∈ succM bs b := by
  unfold succM
  rw [hq]
  simp only [List.mem_map]
  constructor
  · exact fun h => ⟨(t : Int), h, by simp⟩
  · rintro ⟨x, hx, he⟩
    have := hin q (List.mem_of_getElem? hq) x hx
    have e : x = (t : Int) := by omega
    exact e ▸ hx

set_option maxRecDepth 100000 in
set_option maxHeartbeats 4000000 in
theorem refPreds_any (bs : List BlockM) (B : Nat) (pv av cv bv : Value) (w : World) (hbv : BlocksR w B bv bs) (hB : B ≤ w.heap.size) (hn5 : bs.length ≤ 512) (hin : EndsIn bs) :
    Calls Tryz.prog 32 #[.agg #[pv, av, cv, bv]] w (PredsPost bs w) := by
  have HBL := hideI hbv
  have HIN := hideI hin
  obtain ⟨A, c, rfl, hbm, _⟩ := hbv
  obtain ⟨i0, hix, hz0, hz1, hz2⟩ := info_parts ints_info
  clear hin
  go_enter Tryz.func32, Tryz.ntmps32
  go_wp2_with (first
    | (at_make; go_must (refine wpList_make_full _ rfl _ _ 39 rfl (w.heap.size + 1) 22 i0 (.slice none 0 0) 1 Tryz.underlying39 hix hz0 hz1 .i64 .i64 _ _ bs.length rfl rfl rfl rfl (by rw [hz2]; omega) (by unfold maxLen; omega) (by simp) ?_); intro w1 hown1 hg1; rw [World.size_alloc] at hown1; go_must (have HL1 := hideI (Lists.made hown1); have HGB := hideI ((hg1.block w.heap.size (by simp) (by simp)).trans (heap_alloc_new w _)); have HB0 : Hid (Below w.heap.size w w1) := ((Below.refl _ _).alloc (Nat.le_refl _) _).grown hg1 (by simp) (by simp); clear hown1 hg1)))
  clear hix hz0 hz1 hz2
  rw [← predsRow_zero bs bs.length] at HL1
  go_loopw [4] (fun u wr => ∃ (t : Nat) (vs : List Value), t ≤ bs.length ∧ u = .int .i64 t ∧ Hid (Lists wr (w.heap.size + 1) (w.heap.size + 1) bs.length vs (predsRow bs bs.length t 0)) ∧ Hid (Below w.heap.size w wr) ∧ Hid (Below (w.heap.size + 1) w1 wr)) (fun u _ => bs.length - (intOf u).toNat)
  case atStart => exact ⟨0, _, Nat.zero_le _, rfl, HL1, HB0, hideI (Below.refl _ _)⟩
  case round =>
    obtain ⟨t, vs, ht, rfl, HL, HBr, HBo⟩ := hrel
    have hxr := row_cells HGB.out (HBo.out.block w.heap.size (by omega))
    have g3 := hxr 3
    clear hxr
    by_cases hlt : t < bs.length
    · go_wp2
      clear g3
      obtain ⟨wo, rfl⟩ : ∃ wo : World, wo = wr := ⟨_, rfl⟩
      go_loopw [5] (fun u wr => ∃ (b : Nat) (vs : List Value), b ≤ bs.length ∧ u = .int .i64 b ∧ Hid (Lists wr (w.heap.size + 1) (w.heap.size + 1) bs.length vs (predsRow bs bs.length t b)) ∧ Hid (Below (w.heap.size + 1) wo wr)) (fun u _ => bs.length - (intOf u).toNat)
      case atStart => exact ⟨0, vs, Nat.zero_le _, rfl, HL, hideI (Below.refl _ _)⟩
      case round =>
        obtain ⟨b, vs2, hb, rfl, HLi, HBi⟩ := hrel
        have hxr := row_cells HGB.out ((HBo.out.trans HBi.out).block w.heap.size (by omega))
        have g3 := hxr 3
        clear hxr
        by_cases hltb : b < bs.length
        · obtain ⟨q, hq⟩ : ∃ q, bs[b]? = some q := ⟨_, List.getElem?_eq_getElem hltb⟩
          obtain ⟨A', c', e0, _, hbx⟩ := (HBL.out.more' hB).keeps (Keeps.of_below (HBr.out.trans (HBi.out.mono (Nat.le_succ _))))
          cases e0
          obtain ⟨ab, off, pq, cq, tv, rfl, hab, x0, x1, x2, x3, x4, x5, _, _, htv, _⟩ := hbx b q hq
          have HTV := hideI htv
          have HMEM := hideI (mem_to (t := t) HIN.out hq)
          obtain ⟨TA, tc, rfl, htm, _⟩ := htv
          obtain ⟨v, hv⟩ : ∃ v, vs2[t]? = some v := ⟨_, List.getElem?_eq_getElem (by rw [HLi.out.vl]; exact hlt)⟩
          obtain ⟨l, hl0⟩ : ∃ l, l = predsTo bs b t := ⟨_, rfl⟩
          have hl : (predsRow bs bs.length t b)[t]? = some l := by rw [predsRow_at hlt, if_neg (by omega), if_pos rfl, hl0]
          have hll : l.length ≤ 1000 := by have := predsTo_len bs b t; rw [hl0]; omega
          have q1 : wr.cell? ⟨w.heap.size + 1, t, none⟩ = some v := by rw [World.ownsRow.cellAt HLi.out.row t (by omega)]; exact hv
          have HOWN := hideI (HLi.out.own t v l hv hl)
          have hsz := HLi.out.lt.2
          have HV := hideI hv
          have HLL := hideI hl
          have HL0 := hideI hl0
          obtain ⟨tl, htl⟩ : ∃ tl, tl = q.term.to := ⟨_, rfl⟩
          rw [← htl] at HTV HMEM x4 htm
          clear hbx hq x0 x1 x2 x3 x5 hv hl hl0 htl
          by_cases hin2 : (t : Int) ∈ tl
          · have HC : Hid (decide ((t : Int) ∈ tl) = true) := by show _ = _; simpa using hin2
            have HIN2 := hideI (HMEM.out.1 hin2)
            obtain ⟨i1, hjx, hy0, hy1, hy2⟩ := info_parts int_info
            clear hin2
            go_wp2_with (first
              | (go_at_call 69; go_must (refine (has_any _ _ _ _ _ HTV.out).mono ?_); rw [HC.out]; rintro e w2 ⟨rfl, rfl⟩)
              | (at_builtin; go_must (refine wpList_append_lies _ rfl _ _ _ rfl (w.heap.size + 1 + 1) 3 i1 (.int .i64 0) 1 8 Tryz.underlying22 hjx hy0 hy1 hy2 rfl (by decide) _ _ _ rfl (HOWN.out.alloc _) ⟨wr.heap.size, 0, none⟩ 1 1 [.int .i64 b] rfl rfl (one_new wr _) (by simp [Value.oneCell']) (by decide) (by simp only [maxLen]; omega) (by omega) (by simp; omega) _ rfl ?_); intro g1 cap1 w3 hown1 hgrow1 hor1 _; go_must (have HP := hideI (HLi.out.push HV.out HLL.out hown1 hgrow1 hor1); have HPB := hideI (HLi.out.pushed (u := .slice (some ⟨g1, 0, none⟩) (l.length + 1) cap1) HV.out HLL.out hgrow1 HBi.out (Nat.le_refl _)); obtain ⟨hc4, hf4⟩ := HLi.out.held HV.out HLL.out hgrow1; clear hown1 hgrow1 hor1 q1)))
            go_roundw
            case rel => exact ⟨b + 1, _, by omega, by go_num, by rw [← predsRow_push HIN2.out hlt, ← HL0.out]; exact HP, HPB⟩
            case measure => simp [intOf]; omega
          · have HC : Hid (decide ((t : Int) ∈ tl) = false) := by show _ = _; simpa using hin2
            have HIN2 := hideI (fun h => hin2 (HMEM.out.2 h))
            clear hin2
            go_wp2_with (first
              | (go_at_call 69; go_must (refine (has_any _ _ _ _ _ HTV.out).mono ?_); rw [HC.out]; rintro e w2 ⟨rfl, rfl⟩))
            go_roundw
            case rel => exact ⟨b + 1, vs2, by omega, by go_num, by rw [predsRow_skip HIN2.out]; exact HLi, HBi⟩
            case measure => simp [intOf]; omega
        · have hbn : b = bs.length := by omega
          rw [hbn, predsRow_next] at HLi
          clear hbn
          go_wp2
          go_roundw
          case rel => exact ⟨t + 1, vs2, by omega, by go_num, HLi, hideI (HBr.out.trans (HBi.out.mono (Nat.le_succ _))), hideI (HBo.out.trans HBi.out)⟩
          case measure => simp [intOf]; omega
    · have hkn : t = bs.length := by omega
      rw [hkn, predsRow_last] at HL
      clear hkn
      go_wp2
      go_ret
      exact ⟨_, vs, rfl, ⟨HL.out.vl, HL.out.ll, World.ownsRow.mono HL.out.row (by omega), HL.out.own, HL.out.apart⟩, HBr.out⟩

end Go.Proofs.YtglbepdjahddmaaGreat

namespace Go.Proofs.YtglbepdjahddmaaGreat
open Go.RowKit Go.Maps

/-- a trace, as it is read -/
def TraceR (w : World) (B : Nat) (v : Value) (s : StM) (en : EndM) : Prop :=
  ∃ ov av vv, v = .agg #[.int .i64 en.1, .int .i64 en.2.1, .int .i64 en.2.2, ov, av, .int .i64 s.steps, .int .i64 s.checks, vv] ∧ Ints w B ov s.out ∧ ArrsR w B av s.arrs ∧ Ints w B vv s.vis

theorem TraceR.keeps {w W : World} {B : Nat} {v : Value} {s : StM} {en : EndM} (h : TraceR w B v s en) (k : Keeps B w W) : TraceR W B v s en := by
  obtain ⟨ov, av, vv, e, h1, h2, h3⟩ := h
  exact ⟨ov, av, vv, e, h1.keeps k, h2.keeps k, h3.keeps k⟩

theorem row_cap {w : World} {base : Nat} {e : TypeId} {size : Nat} {v : Value} {n : Nat} {xs : List Value} (h : w.ownsRow base e size v n xs) : ∀ A2 n2 c2, v = .slice A2 n2 c2 → n2 ≤ c2 := by
  intro A2 n2 c2 e2
  rcases h.2 with ⟨e1, e0⟩ | ⟨g, cap, cur, e1, _, _, hx, _⟩
  · rw [e1] at e2
    injection e2 with _ a b
    omega
  · rw [e1] at e2
    injection e2 with _ a b
    omega

theorem TraceAt.reads {base : Nat} {w : World} {v : Value} {s : StM} {en : EndM} (h : TraceAt base w v s en) (ho : s.out.length ≤ 140737488351232) (ha : s.arrs.length ≤ 140737488351232) (hl : ∀ l ∈ s.arrs, l.length ≤ 140737488351232) (hv : s.vis.length ≤ 140737488351232) : TraceR w w.heap.size v s en := by
  obtain ⟨nv, val, e, hr⟩ := h
  refine ⟨_, _, _, e, ints_own (hr .out _ rfl) ho, ?_, ints_own (hr .vis _ rfl) hv⟩
  have hrow := hr .arrs _ rfl
  obtain ⟨A, cp, ea⟩ := row_form hrow
  refine ⟨A, cp, ea, ha, fun k l hk => ?_⟩
  have hkl := (List.getElem?_eq_some_iff.1 hk).1
  obtain ⟨g, cap, ev, _, hg⟩ := World.ownsRow.form hrow (by show 0 < s.arrs.length; omega)
  rw [ev] at ea
  injection ea with e1 _ e3
  have hc := World.ownsRow.cellAt (by rw [ev] at hrow; exact hrow) k (by show k < s.arrs.length * 1; omega)
  refine ⟨g, 0, val (.arr k), e1.symm, hg, ?_, ?_, ?_⟩
  · rw [Nat.zero_add]
    rw [hc, List.getElem?_map, List.getElem?_range hkl]
    rfl
  · exact ints_own (hr (.arr k) (intRow l) (by show s.arrs[k]?.map intRow = _; rw [hk]; rfl)) (hl l (List.mem_of_getElem? hk))
  · exact row_cap (hr (.arr k) (intRow l) (by show s.arrs[k]?.map intRow = _; rw [hk]; rfl))

/-- a trace whose rows lie in these blocks -/
def TraceIn (lo hi : Nat) (w : World) (v : Value) (s : StM) (en : EndM) : Prop :=
  ∃ (nv : Nat) (val : MVals), v = .agg #[.int .i64 en.1, .int .i64 en.2.1, .int .i64 en.2.2, val .out, val .arrs, .int .i64 s.steps, .int .i64 s.checks, val .vis] ∧ ∀ t d, mRow s nv val t = some d → w.ownsRow lo d.elem 1 (val t) d.len d.cells ∧ ∀ g, (val t).ownBlock = some g → g < hi

theorem TraceAt.within {base : Nat} {w : World} {v : Value} {s : StM} {en : EndM} (h : TraceAt base w v s en) : TraceIn base w.heap.size w v s en := by
  obtain ⟨nv, val, e, h⟩ := h
  exact ⟨nv, val, e, fun t d ht => ⟨h t d ht, fun g hg => ((h t d ht).lt g hg).2⟩⟩

theorem TraceIn.at {lo hi : Nat} {w : World} {v : Value} {s : StM} {en : EndM} (h : TraceIn lo hi w v s en) : TraceAt lo w v s en := by
  obtain ⟨nv, val, e, h⟩ := h
  exact ⟨nv, val, e, fun t d ht => (h t d ht).1⟩

theorem TraceIn.kept {lo hi : Nat} {w W : World} {v : Value} {s : StM} {en : EndM} (h : TraceIn lo hi w v s en) (hk : ∀ b, lo ≤ b → b < hi → W.heap[b]? = w.heap[b]?) : TraceIn lo hi W v s en := by
  obtain ⟨nv, val, e, h⟩ := h
  exact ⟨nv, val, e, fun t d ht => ⟨owns_kept (h t d ht).1 fun g hg => hk g ((h t d ht).1.lt g hg).1 ((h t d ht).2 g hg), (h t d ht).2⟩⟩

end Go.Proofs.YtglbepdjahddmaaGreat

namespace Go.Proofs.YtglbepdjahddmaaGreat
open Go.RowKit Go.Maps

structure EndOk (en : EndM) : Prop where
  lo : 1 ≤ en.1
  hi : en.1 ≤ 5
  trap : en.1 = 2 ∨ en.2.2 = 0
  value : en.1 = 1 ∨ en.2.1 = 0

theorem miss_ok (op : Int) : EndOk (missM op) ∧ (missM op).1 ≠ 3 := by
  unfold missM
  split <;> exact ⟨⟨by decide, by decide, by decide, by decide⟩, by decide⟩

theorem made_ok (x : InstrM) (a : List Int) (s : StM) : ∀ e, (madeM x a s).2 = .inr e → EndOk e ∧ e.1 ≠ 3 := by
  intro e h
  unfold madeM at h
  repeat' split at h
  all_goals first
    | (cases h; done)
    | (injection h with h; subst h; first | exact miss_ok _ | exact ⟨⟨by decide, by decide, by decide, by decide⟩, by decide⟩)

theorem done_ok (x : InstrM) (s : StM) : ∀ e, (doM x s).2 = some e → EndOk e ∧ e.1 ≠ 3 := by
  intro e h
  have hm := made_ok x (x.args.map s.val) s
  unfold doM at h
  simp only at h
  split at h
  · split at h
    · cases h
    · injection h with h
      subst h
      exact miss_ok _
  · split at h
    · split at h
      · injection h with h
        subst h
        exact ⟨⟨by decide, by decide, by decide, by decide⟩, by decide⟩
      · cases h
    · split at h
      · cases h
      · split at h
        · cases h
        · rename_i h5
          injection h with h
          subst h
          exact hm _ (by rw [h5])

theorem leave_ok (f : FuncM) (b k : Nat) (s : StM) : ∀ e, (leaveM f b k s).fin = some e → EndOk e ∧ e.1 ≠ 3 := by
  intro e h
  unfold leaveM at h
  simp only at h
  split at h
  · injection h with h
    subst h
    exact ⟨⟨by show (1 : Int) ≤ 1; decide, by show (1 : Int) ≤ 5; decide, .inr rfl, .inl rfl⟩, by show (1 : Int) ≠ 3; decide⟩
  · split at h
    · injection h with h
      subst h
      exact ⟨⟨by show (1 : Int) ≤ 2; decide, by show (2 : Int) ≤ 5; decide, .inl rfl, .inr rfl⟩, by show (2 : Int) ≠ 3; decide⟩
    · cases h

theorem goN_ok (f : FuncM) (I : InM) : ∀ n e, (goN f n (startM f I)).fin = some e → EndOk e ∧ e.1 ≠ 3
  | 0, e, h => by cases h
  | n + 1, e, h => by
    cases h0 : (goN f n (startM f I)).fin with
    | some e2 =>
      rw [show goN f (n + 1) (startM f I) = goM f (goN f n (startM f I)) from rfl, goM_fin (by rw [h0]; simp)] at h
      exact goN_ok f I n e h
    | none =>
      rw [show goN f (n + 1) (startM f I) = goM f (goN f n (startM f I)) from rfl] at h
      unfold goM at h
      rw [h0] at h
      simp only at h
      split at h
      · exact done_ok _ _ e h
      · exact leave_ok _ _ _ _ e h

theorem end_ok {f : FuncM} {I : InM} {F : Nat} {s : StM} {en : EndM} (h : EndIs f I F s en) : EndOk en := by
  obtain ⟨_, rfl⟩ := h
  unfold finM
  cases h0 : (goN f F (startM f I)).fin with
  | none => exact ⟨by decide, by decide, by decide, by decide⟩
  | some e => exact (goN_ok f I F e h0).1

/-- a run that ends for want of fuel took all of it; one that ends by itself does so with more, too -/
theorem end_more {f : FuncM} {I : InM} {a b : Nat} {s t : StM} {en em : EndM} (hab : a ≤ b) (h : EndIs f I a s en) (k : EndIs f I b t em) (hne : en.1 ≠ 3) : s = t ∧ en = em := by
  obtain ⟨rfl, rfl⟩ := h
  obtain ⟨rfl, rfl⟩ := k
  cases h0 : (goN f a (startM f I)).fin with
  | none => exact absurd (by unfold finM; rw [h0]; rfl) hne
  | some e =>
    have := goN_ended hab (by rw [h0]; simp)
    rw [this]
    exact ⟨rfl, rfl⟩

theorem end_none {f : FuncM} {I : InM} {a : Nat} {s : StM} {en : EndM} (h : EndIs f I a s en) (h3 : en.1 = 3) : s.steps = a ∧ en = (3, 0, 0) := by
  obtain ⟨rfl, rfl⟩ := h
  cases h0 : (goN f a (startM f I)).fin with
  | none => exact ⟨goN_steps h0, by unfold finM; rw [h0]; rfl⟩
  | some e =>
    unfold finM at h3
    rw [h0] at h3
    exact absurd h3 (goN_ok f I a e h0).2

/-- what a longer run has told and looked at -/
theorem done_prefix (x : InstrM) (s : StM) : s.out <+: (doM x s).1.out := by
  have ho := lookS_out x.op s
  obtain ⟨_, m2, _⟩ := made_arrs x (x.args.map s.val) s
  unfold doM
  simp only
  split
  · split
    · show s.out <+: (lookS x.op s).out
      rw [ho]
      exact List.prefix_rfl
    · show s.out <+: (lookS x.op s).out
      rw [ho]
      exact List.prefix_rfl
  · split
    · split
      · exact List.prefix_rfl
      · exact List.prefix_append _ _
    · split
      · exact List.prefix_rfl
      · split
        · rename_i h5
          rw [h5] at m2
          show s.out <+: _
          simp only at m2 ⊢
          rw [m2]
          exact List.prefix_rfl
        · rename_i h5
          rw [h5] at m2
          simp only at m2 ⊢
          rw [m2]
          exact List.prefix_rfl

theorem go_prefix {f : FuncM} {c : CfgM} (h : 0 ≤ c.s.checks ∧ c.s.checks < 4294967296) : c.s.out <+: (goM f c).s.out ∧ c.s.checks ≤ (goM f c).s.checks ∧ c.s.steps ≤ (goM f c).s.steps := by
  unfold goM
  cases c.fin with
  | some e => exact ⟨List.prefix_rfl, Int.le_refl _, Nat.le_refl _⟩
  | none =>
    simp only
    split
    · rename_i x hx
      have d1 := done_prefix x (tickM c.s)
      have d2 := (done_told x (tickM c.s) h).2.1
      have d4 := doM_steps x (tickM c.s)
      refine ⟨d1, d2, ?_⟩
      rw [d4]
      simp only [tickM]
      omega
    · unfold leaveM enterM
      simp only
      split
      · exact ⟨List.prefix_rfl, Int.le_refl _, by simp only [tickM]; omega⟩
      · split
        · exact ⟨List.prefix_rfl, Int.le_refl _, by simp only [tickM]; omega⟩
        · exact ⟨List.prefix_rfl, Int.le_refl _, by simp only [tickM, arriveM]; omega⟩

theorem goN_prefix {f : FuncM} {I : InM} (hfit : Fit f (startS f I)) (a : Nat) : ∀ d, a + d ≤ 200000 → (goN f a (startM f I)).s.out <+: (goN f (a + d) (startM f I)).s.out ∧ (goN f a (startM f I)).s.checks ≤ (goN f (a + d) (startM f I)).s.checks ∧ (goN f a (startM f I)).s.steps ≤ (goN f (a + d) (startM f I)).s.steps
  | 0, _ => ⟨List.prefix_rfl, Int.le_refl _, Nat.le_refl _⟩
  | d + 1, hd => by
    obtain ⟨h1, h2, h3⟩ := goN_prefix hfit a d (by omega)
    obtain ⟨hk, hs⟩ := goN_keeps (f := f) (I := I) hfit (a + d) (by omega)
    have ht := hk.told
    obtain ⟨g1, g2, g3⟩ := go_prefix (f := f) (c := goN f (a + d) (startM f I)) (by omega)
    exact ⟨h1.trans g1, Int.le_trans h2 g2, Nat.le_trans h3 g3⟩

theorem end_prefix {f : FuncM} {I : InM} {a b : Nat} {s t : StM} {en em : EndM} (hfit : Fit f (startS f I)) (hab : a ≤ b) (hb : b ≤ 200000) (h : EndIs f I a s en) (k : EndIs f I b t em) : s.out <+: t.out ∧ s.checks ≤ t.checks ∧ s.steps ≤ t.steps := by
  obtain ⟨rfl, _⟩ := h
  obtain ⟨rfl, _⟩ := k
  obtain ⟨d, rfl⟩ : ∃ d, b = a + d := ⟨b - a, by omega⟩
  exact goN_prefix hfit a d hb

theorem end_one {f : FuncM} {I : InM} {a : Nat} {s t : StM} {en em : EndM} (h : EndIs f I a s en) (k : EndIs f I a t em) : s = t ∧ en = em := by
  obtain ⟨rfl, rfl⟩ := h
  obtain ⟨rfl, rfl⟩ := k
  exact ⟨rfl, rfl⟩

end Go.Proofs.YtglbepdjahddmaaGreat

namespace Go.Proofs.YtglbepdjahddmaaGreat
open Go.RowKit Go.Maps

/-- nothing was done -/
def noS : StM := ⟨fun _ => 0, [], [], [], 0, 0, []⟩

/-- how a run of any function ends -/
def Runs (f : FuncM) (I : InM) (F : Nat) (s : StM) (en : EndM) : Prop := (CheckIs f (0, 0) ∧ EndIs f I (min F 200000) s en) ∨ (¬ CheckIs f (0, 0) ∧ s = noS ∧ en = (6, 0, 0))

/-- what Run answers, as it is read -/
def RunR (f : FuncM) (I : InM) (F : Nat) (w : World) (e : Ending) (w' : World) : Prop := ∃ v s en, e = .returned v ∧ Runs f I F s en ∧ TraceR w' w'.heap.size v s en ∧ Below w.heap.size w w'

theorem noS_read (w : World) (B : Nat) : TraceR w B refusedV noS (6, 0, 0) := ⟨_, _, _, rfl, Ints.nil _ _, ⟨none, 0, rfl, by simp [noS], fun k l h => by simp [noS] at h⟩, Ints.nil _ _⟩

theorem noS_at (base : Nat) (w : World) : TraceAt base w refusedV noS (6, 0, 0) := by
  refine ⟨0, fun _ => .slice none 0 0, rfl, fun t d ht => ?_⟩
  cases t with
  | arr k => cases ht
  | _ => injection ht with ht; subst ht; exact World.ownsRow_nil _ _ _ _

theorem EndIs.bounds {f : FuncM} {I : InM} {F : Nat} {s : StM} {en : EndM} (_hs : CheckIs f (0, 0)) (h : EndIs f I (min F 200000) s en) : KeepM f I s ∧ s.steps ≤ min F 200000 := end_keeps (start_fit f I) h

/-- what Run answers, as it lies -/
def RunT (f : FuncM) (I : InM) (F : Nat) (w : World) (e : Ending) (w' : World) : Prop := ∃ v s en, e = .returned v ∧ Runs f I F s en ∧ TraceAt w.heap.size w' v s en ∧ Below w.heap.size w w'

theorem irun_laid (f : FuncM) (I : InM) (B : Nat) (pv bv av rv : Value) (F : Nat) (w : World) (hpv : Ints w B pv f.params) (hbv : BlocksR w B bv f.blocks) (hB : B ≤ w.heap.size) (hid : ∀ u ∈ usesM f, I64 u.1)
    (ha : Ints w B av I.args) (hr : ArrsR w B rv I.arrs) :
    Calls Tryz.prog 17 #[.agg #[pv, .int .i64 f.arrays, .int .i64 f.cells, bv], .agg #[av, rv], .int .i64 F] w (RunT f I F w) := by
  refine (irun_any f I B pv bv av rv F w hpv hbv hB hid ha hr).mono ?_
  rintro e w' (⟨hs, _, v, s, en, rfl, hend, htr, hb⟩ | ⟨hn, rfl, hb⟩)
  · rw [Int.toNat_natCast] at hend
    exact ⟨v, s, en, rfl, .inl ⟨hs, hend⟩, htr, hb⟩
  · have hn : ¬ CheckIs f (0, 0) := by
      rcases hn with h | h
      · exact h
      · omega
    exact ⟨_, noS, _, rfl, .inr ⟨hn, rfl, rfl⟩, noS_at _ _, hb⟩

theorem Runs.short {f : FuncM} {I : InM} {F : Nat} {s : StM} {en : EndM} (h : Runs f I F s en) : s.out.length ≤ 4096 ∧ s.arrs.length ≤ 8 ∧ (∀ l ∈ s.arrs, l.length ≤ 4096) ∧ s.vis.length ≤ 512 ∧ s.steps ≤ min F 200000 ∧ 0 ≤ s.checks ∧ (s.out.length : Int) + s.checks ≤ s.steps := by
  rcases h with ⟨hs, hend⟩ | ⟨_, rfl, _⟩
  · obtain ⟨hk, hst⟩ := hend.bounds hs
    obtain ⟨_, _, _, h8, h5⟩ := strict_bounds hs
    have hf := hk.fit
    exact ⟨hf.out, by have := hf.arrs; omega, hk.short, by have := hf.vis; omega, hst, hk.told.1, hk.told.2⟩
  · exact ⟨Nat.zero_le _, Nat.zero_le _, fun l hl => by simp [noS] at hl, Nat.zero_le _, Nat.zero_le _, Int.le_refl _, Int.le_refl _⟩

theorem Runs.reads {f : FuncM} {I : InM} {F : Nat} {s : StM} {en : EndM} {base : Nat} {w : World} {v : Value} (h : Runs f I F s en) (ht : TraceAt base w v s en) : TraceR w w.heap.size v s en := by
  obtain ⟨h1, h2, h3, h4, _⟩ := h.short
  exact ht.reads (by omega) (by omega) (fun l hl => by have := h3 l hl; omega) (by omega)

theorem irun_read (f : FuncM) (I : InM) (B : Nat) (pv bv av rv : Value) (F : Nat) (w : World) (hpv : Ints w B pv f.params) (hbv : BlocksR w B bv f.blocks) (hB : B ≤ w.heap.size) (hid : ∀ u ∈ usesM f, I64 u.1)
    (ha : Ints w B av I.args) (hr : ArrsR w B rv I.arrs) :
    Calls Tryz.prog 17 #[.agg #[pv, .int .i64 f.arrays, .int .i64 f.cells, bv], .agg #[av, rv], .int .i64 F] w (RunR f I F w) := by
  refine (irun_laid f I B pv bv av rv F w hpv hbv hB hid ha hr).mono ?_
  rintro e w' ⟨v, s, en, rfl, h1, h2, h3⟩
  exact ⟨v, s, en, rfl, h1, h1.reads h2, h3⟩

theorem Runs.more {f : FuncM} {I : InM} {a b : Nat} {s t : StM} {en em : EndM} (hab : a ≤ b) (hb : b ≤ 200000) (h : Runs f I a s en) (k : Runs f I b t em) :
    (en.1 ≠ 3 → s = t ∧ en = em) ∧ (en.1 = 3 → s.steps = a ∧ a ≤ t.steps ∧ s.out <+: t.out ∧ s.checks ≤ t.checks) := by
  rcases h with ⟨hs, h⟩ | ⟨hn, rfl, rfl⟩
  · rcases k with ⟨_, k⟩ | ⟨kn, _⟩
    · rw [Nat.min_eq_left (by omega)] at h k
      refine ⟨fun hne => end_more hab h k hne, fun h3 => ?_⟩
      have h1 := (end_none h h3).1
      obtain ⟨p1, p2, p3⟩ := end_prefix (start_fit f I) hab hb h k
      exact ⟨h1, by omega, p1, p2⟩
    · exact absurd hs kn
  · rcases k with ⟨ks, _⟩ | ⟨_, rfl, rfl⟩
    · exact absurd ks hn
    · exact ⟨fun _ => ⟨rfl, rfl⟩, fun h => absurd h (by decide)⟩

end Go.Proofs.YtglbepdjahddmaaGreat

namespace Go.Proofs.YtglbepdjahddmaaGreat
open Go.ChangeShapes Go.WideShapes Go.ChangeAt Go.RowKit Go.Deep
section
variable {H : Type} {enc : TypeId × Value → H} {w : World}

theorem bytes22 : Tryz.prog.bytesOf 22 = 24 := by kernel_rfl
theorem cellsI : Tryz.prog.cellsOf 39 = 1 := by kernel_rfl
theorem cellsIn : Tryz.prog.cellsOf 41 = 2 := by kernel_rfl

theorem rd_cap {fuel : Nat} {v : Value} {x : DataW H × List MemPlace} (h : Rd enc w fuel 22 [v] x) : ∀ A n c, v = .slice A n c → n ≤ c := by
  intro A n c e
  rcases open_ints Tryz.underlying22 Tryz.underlying3 cells3 h with ⟨hv, _⟩ | ⟨a, len', cap', zs, hv, _, hl, hm, hz, _⟩
  · injection hv with hv
    subst hv
    injection e with _ e1 e2
    omega
  · injection hv with hv
    subst hv
    injection e with _ e1 e2
    simp only [if_true] at hz
    omega

theorem rd_lists {fuel : Nat} {v : Value} {x : DataW H × List MemPlace} (h : Rd enc w fuel 39 [v] x) (hs : Sz 39 x.1) : ∃ xs, ArrsR w w.heap.size v xs := by
  obtain ⟨A, n, cap, rfl, hn, hk⟩ := rd_slice Tryz.underlying39 cells22 (by rw [bytes22]; omega) (by omega) h hs
  obtain ⟨xs, hl, hps⟩ := list_choose (α := List Int) (R := fun k l => ∃ b off lv, A = some ⟨b, off, none⟩ ∧ b < w.heap.size ∧ w.cell? ⟨b, off + k, none⟩ = some lv ∧ Ints w w.heap.size lv l ∧ ∀ A2 n2 c2, lv = .slice A2 n2 c2 → n2 ≤ c2) n (fun k hlt => by
      obtain ⟨b, off, cs, f, y, hA, hb, hlen, hc, hr, hz⟩ := hk k hlt
      obtain ⟨c0, rfl⟩ : ∃ c0, cs = [c0] := by
        match cs, hlen with
        | [a], _ => exact ⟨a, rfl⟩
      obtain ⟨l, hi, _⟩ := rd_ints hr hz
      exact ⟨l, b, off, c0, hA, hb, by have := hc 0 (by omega); rw [Nat.mul_one, Nat.add_zero] at this; exact this, hi, rd_cap hr⟩)
  subst hl
  exact ⟨xs, A, cap, rfl, hn, fun k l hk => hps k l hk⟩

/-- an input that lies in memory as it was handed in -/
structure InIn (w : World) (I : InM) (av rv : Value) : Prop where
  args : Ints w w.heap.size av I.args
  arrs : ArrsR w w.heap.size rv I.arrs

set_option maxRecDepth 100000 in
/-- the argument of type Input, opened -/
theorem open_input {ts : List TypeId} {ds : List (DataW H)} {base : Nat} {v : Value} {d : DataW H} {p : List MemPlace} (hok : Value.okWide Tryz.prog w .any base 41 v) (h : DataW.Trod enc Tryz.prog w 0 (fun _ => true) true 41 v d p)
    (hsz : (DataW.weightsEach Tryz.prog ts ds).all (· ≤ reachBytes) = true) {j : Nat} (ht : ts[j]? = some 41) (hd : ds[j]? = some d) :
    ∃ (I : InM) (av rv : Value), v = .agg #[av, rv] ∧ InIn w I av rv := by
  obtain ⟨cs, rfl, _⟩ := okWide_struct Tryz.underlying41 hok
  obtain ⟨fuel, hf⟩ := h
  have hs : Sz 41 d := by
    intro n hn
    have h1 := List.all_eq_true.1 hsz n (DataW.weights_mem_each ht hd n hn)
    rw [decide_eq_true_eq] at h1
    exact h1
  have hf' : Rd enc w fuel 41 cs.toList (d, p) := hf
  obtain ⟨ys, n, _, hx, hlen, _, hg⟩ := DataW.trod_struct Tryz.underlying41 hf'
  rw [cellsIn] at hlen
  obtain ⟨l, hl⟩ : ∃ l, l = cs.toList := ⟨_, rfl⟩
  rw [← hl] at hlen hf'
  obtain ⟨c0, c1, rfl⟩ : ∃ c0 c1, l = [c0, c1] := by
    match l, hlen with
    | [a, b], _ => exact ⟨a, b, rfl⟩
  obtain ⟨n0, y0, r0, z0⟩ := rd_field1 Tryz.underlying41 hf' hs 0 rfl 22 rfl 0 rfl cells22 rfl
  obtain ⟨n1, y1, r1, z1⟩ := rd_field1 Tryz.underlying41 hf' hs 1 rfl 39 rfl 1 rfl cellsI rfl
  obtain ⟨xs, hxs, _⟩ := rd_ints r0 z0
  obtain ⟨ls, hls⟩ := rd_lists r1 z1
  refine ⟨⟨xs, ls⟩, c0, c1, ?_, hxs, hls⟩
  congr 1
  rw [← Array.toArray_toList (xs := cs), ← hl]
end
end Go.Proofs.YtglbepdjahddmaaGreat
