/- What InterpVisits rests on, part 1: IVisM. -/
import Derived.Test.YtglbepdjahddmaaGreatPkI915

namespace Go.Proofs.YtglbepdjahddmaaGreat
open Go.RowKit Go.Maps

/-- how often a block was come to -/
def visM (s : StM) (b : Nat) : Int := s.vis.getD b 0

/-- how often a block was left again, or is being ended -/
def leftM (c : CfgM) (b : Nat) : Int := visM c.s b - if c.b = b then 1 else 0

def sumOver (g : Nat → Int) : List Nat → Int
  | [] => 0
  | b :: r => g b + sumOver g r

theorem sumOver_append (g : Nat → Int) : ∀ (l r : List Nat), sumOver g (l ++ r) = sumOver g l + sumOver g r
  | [], r => by simp [sumOver]
  | a :: l, r => by
    show g a + sumOver g (l ++ r) = g a + sumOver g l + sumOver g r
    rw [sumOver_append g l r]
    omega

theorem sumOver_mono {g h : Nat → Int} : ∀ {l : List Nat}, (∀ b ∈ l, g b ≤ h b) → sumOver g l ≤ sumOver h l
  | [], _ => Int.le_refl _
  | a :: l, k => by
    have h1 := k a (List.mem_cons_self ..)
    have h2 := sumOver_mono (l := l) fun b hb => k b (List.mem_cons_of_mem _ hb)
    show g a + sumOver g l ≤ h a + sumOver h l
    omega

theorem sumOver_more {g h : Nat → Int} {x : Nat} {d : Int} : ∀ {l : List Nat}, (∀ b ∈ l, g b ≤ h b) → x ∈ l → g x + d ≤ h x → sumOver g l + d ≤ sumOver h l
  | a :: l, k, hx, hd => by
    show g a + sumOver g l + d ≤ h a + sumOver h l
    have hk := fun b hb => k b (List.mem_cons_of_mem _ hb)
    rcases List.mem_cons.1 hx with rfl | hx
    · have h2 := sumOver_mono hk
      omega
    · have h1 := k a (List.mem_cons_self ..)
      have h2 := sumOver_more hk hx hd
      omega

theorem sumOver_bound {g : Nat → Int} {M : Int} : ∀ {l : List Nat}, (∀ b ∈ l, 0 ≤ g b ∧ g b ≤ M) → 0 ≤ sumOver g l ∧ sumOver g l ≤ l.length * M
  | [], _ => by simp [sumOver]
  | a :: l, k => by
    obtain ⟨h0, h1⟩ := k a (List.mem_cons_self ..)
    obtain ⟨h2, h3⟩ := sumOver_bound (l := l) fun b hb => k b (List.mem_cons_of_mem _ hb)
    show 0 ≤ g a + sumOver g l ∧ g a + sumOver g l ≤ ((l.length + 1 : Nat) : Int) * M
    have e : ((l.length + 1 : Nat) : Int) * M = l.length * M + M := by rw [Int.natCast_add, Int.add_mul]; omega
    omega

def lenM (f : FuncM) (b : Nat) : Int := (blkM f b).code.length + 1

/-- what is so at every step of a run -/
structure VisM (f : FuncM) (c : CfgM) : Prop where
  len : c.s.vis.length = f.blocks.length
  cur : c.b < f.blocks.length
  pos : c.k ≤ (blkM f c.b).code.length
  low : ∀ b, 0 ≤ leftM c b ∧ visM c.s b ≤ c.s.steps + 1
  zero : visM c.s 0 = 1
  come : ∀ b, 0 < b → b < f.blocks.length → visM c.s b ≤ sumOver (leftM c) (predsTo f.blocks f.blocks.length b)
  ends : ∀ b, b < f.blocks.length → (blkM f b).term.to = [] → leftM c b ≤ 0
  most : (c.s.steps : Int) ≤ sumOver (fun b => lenM f b * leftM c b) (List.range f.blocks.length) + c.k + if c.fin = none then 0 else 1

theorem done_vis (x : InstrM) (s : StM) : (doM x s).1.vis = s.vis := by
  have hm : (madeM x (x.args.map s.val) s).1.vis = s.vis := by
    unfold madeM lookS
    repeat' split
    all_goals rfl
  have hl : (lookS x.op s).vis = s.vis := by unfold lookS; split <;> rfl
  unfold doM
  simp only
  repeat' split
  all_goals first | rfl | exact hl | (rename_i h; rw [h] at hm; exact hm)

theorem visM_set {vis : List Int} {b : Nat} (hb : b < vis.length) (v : Int) (x : Nat) : (vis.set b v).getD x 0 = if b = x then v else vis.getD x 0 := by
  rw [List.getD_eq_getElem?_getD, List.getD_eq_getElem?_getD]
  by_cases e : b = x
  · subst e
    rw [List.getElem?_set_self hb, if_pos rfl]
    rfl
  · rw [List.getElem?_set_ne e, if_neg e]

theorem vis_start {f : FuncM} {I : InM} (hok : 0 < f.blocks.length) : VisM f (startM f I) := by
  have hv : ∀ b, visM (startM f I).s b = if 0 = b then 1 else 0 := fun b => by
    unfold visM startM enterM arriveM startS
    simp only
    rw [visM_set (by simpa using hok)]
    by_cases e : 0 = b
    · rw [if_pos e, if_pos e]
      rw [List.getD_eq_getElem?_getD, List.getElem?_replicate]
      split <;> (show wrap64 (0 + 1) = 1; unfold wrap64; omega)
    · rw [if_neg e, if_neg e, List.getD_eq_getElem?_getD, List.getElem?_replicate]
      split <;> rfl
  have hl : ∀ b, leftM (startM f I) b = 0 := fun b => by
    unfold leftM
    rw [hv]
    show (if 0 = b then (1 : Int) else 0) - (if 0 = b then 1 else 0) = 0
    omega
  refine ⟨?_, hok, Nat.zero_le _, fun b => ⟨by rw [hl]; exact Int.le_refl _, ?_⟩, hv 0, fun b h0 _ => ?_, fun b _ _ => by rw [hl]; exact Int.le_refl _, ?_⟩
  · show ((List.replicate f.blocks.length (0 : Int)).set 0 _).length = _
    simp
  · rw [hv]
    show (if 0 = b then (1 : Int) else 0) ≤ ((0 : Nat) : Int) + 1
    split <;> decide
  · rw [hv, if_neg (by omega)]
    have := (sumOver_bound (g := leftM (startM f I)) (M := 0) (l := predsTo f.blocks f.blocks.length b) fun x _ => by rw [hl]; exact ⟨Int.le_refl _, Int.le_refl _⟩).1
    exact this
  · have := (sumOver_bound (g := fun b => lenM f b * leftM (startM f I) b) (M := 0) (l := List.range f.blocks.length) fun x _ => by rw [hl]; simp).1
    show ((0 : Nat) : Int) ≤ _ + ((0 : Nat) : Int) + 0
    omega

theorem blk_some {f : FuncM} {b : Nat} (h : b < f.blocks.length) : f.blocks[b]? = some (blkM f b) := by
  unfold blkM
  rw [List.getD_eq_getElem?_getD, List.getElem?_eq_getElem h]
  rfl

theorem vis_go {f : FuncM} {nv : Nat} (hok : FOk f nv) (hpos : ∀ q ∈ f.blocks, ∀ x ∈ q.term.to, 1 ≤ x) {c : CfgM} (h : VisM f c) (hs : c.s.steps < 4294967295) : VisM f (goM f c) := by
  have hb := blk_some h.cur
  cases hfin : c.fin with
  | some e => rw [goM_fin (by rw [hfin]; simp)]; exact h
  | none =>
  have hst := goM_steps (f := f) hfin
  unfold goM at hst ⊢
  rw [hfin] at hst ⊢
  simp only at hst ⊢
  split
  · -- an instruction
    rename_i x hx
    rw [hx] at hst
    have hx' := (List.getElem?_eq_some_iff.1 hx).1
    have ev := done_vis x (tickM c.s)
    have hv : ∀ b, visM (doM x (tickM c.s)).1 b = visM c.s b := fun b => by unfold visM; rw [ev]; rfl
    have hl : ∀ b, leftM ⟨(doM x (tickM c.s)).1, c.b, c.k + 1, (doM x (tickM c.s)).2⟩ b = leftM c b := fun b => by
      unfold leftM
      rw [show visM (CfgM.mk (doM x (tickM c.s)).1 c.b (c.k + 1) (doM x (tickM c.s)).2).s b = visM c.s b from hv b]
    have hsum : ∀ (l : List Nat) (g g2 : Nat → Int), (∀ b, g b = g2 b) → sumOver g l = sumOver g2 l := fun l g g2 e => by rw [show g = g2 from funext e]
    refine ⟨by show (doM x (tickM c.s)).1.vis.length = _; rw [ev]; exact h.len, h.cur, hx', fun b => ⟨by rw [hl]; exact (h.low b).1, ?_⟩, by show visM (doM x (tickM c.s)).1 0 = 1; rw [hv]; exact h.zero, fun b h0 hbn => ?_, fun b hbn he => by rw [hl]; exact h.ends b hbn he, ?_⟩
    · show visM (doM x (tickM c.s)).1 b ≤ _
      rw [hv]
      have := (h.low b).2
      show visM c.s b ≤ ((doM x (tickM c.s)).1.steps : Int) + 1
      have e := doM_steps x (tickM c.s)
      simp only [tickM] at e
      simp only [tickM]
      omega
    · show visM (doM x (tickM c.s)).1 b ≤ _
      rw [hv, hsum _ _ _ hl]
      exact h.come b h0 hbn
    · have hm := h.most
      rw [hfin, if_pos rfl] at hm
      rw [hsum _ _ _ (fun b => by rw [hl b] : ∀ b, lenM f b * leftM ⟨(doM x (tickM c.s)).1, c.b, c.k + 1, (doM x (tickM c.s)).2⟩ b = lenM f b * leftM c b)]
      have e := doM_steps x (tickM c.s)
      simp only [tickM] at e
      show ((doM x (tickM c.s)).1.steps : Int) ≤ _ + ((c.k + 1 : Nat) : Int) + if (doM x (tickM c.s)).2 = none then 0 else 1
      have hif : (0 : Int) ≤ if (doM x (tickM c.s)).2 = none then 0 else 1 := by split <;> decide
      simp only [tickM]
      simp only [tickM] at hif
      omega
  · -- the block's end
    rename_i hx
    have hk : c.k = (blkM f c.b).code.length := by
      have := List.getElem?_eq_none_iff.1 hx
      have := h.pos
      omega
    have ht := (hok.term c.b _ hb).op
    unfold leaveM
    simp only
    split
    · refine ⟨h.len, h.cur, h.pos, fun b => ⟨(h.low b).1, ?_⟩, h.zero, h.come, h.ends, ?_⟩
      · have := (h.low b).2
        show visM c.s b ≤ ((c.s.steps + 1 : Nat) : Int) + 1
        omega
      · have hm := h.most
        rw [hfin, if_pos rfl] at hm
        show ((c.s.steps + 1 : Nat) : Int) ≤ sumOver (fun b => lenM f b * leftM c b) (List.range f.blocks.length) + c.k + 1
        omega
    · split
      · refine ⟨h.len, h.cur, h.pos, fun b => ⟨(h.low b).1, ?_⟩, h.zero, h.come, h.ends, ?_⟩
        · have := (h.low b).2
          show visM c.s b ≤ ((c.s.steps + 1 : Nat) : Int) + 1
          omega
        · have hm := h.most
          rw [hfin, if_pos rfl] at hm
          show ((c.s.steps + 1 : Nat) : Int) ≤ sumOver (fun b => lenM f b * leftM c b) (List.range f.blocks.length) + c.k + 1
          omega
      · rename_i h3 h4
        obtain ⟨t, ht, hmem⟩ : ∃ t, nextM (blkM f c.b).term (tickM c.s) = t ∧ t ∈ (blkM f c.b).term.to := by
          refine ⟨_, rfl, ?_⟩
          unfold nextM
          rcases ht with ⟨e, l⟩ | ⟨e, l⟩ | ⟨e, _⟩ | ⟨e, _⟩
          · rw [if_neg (by omega)]
            rw [List.getD_eq_getElem?_getD, List.getElem?_eq_getElem (by omega)]
            exact List.getElem_mem _
          · split
            · rw [List.getD_eq_getElem?_getD, List.getElem?_eq_getElem (by omega)]
              exact List.getElem_mem _
            · rw [List.getD_eq_getElem?_getD, List.getElem?_eq_getElem (by omega)]
              exact List.getElem_mem _
          · exact absurd e h3
          · exact absurd e h4
        rw [ht]
        obtain ⟨tn, rfl, htn, _⟩ := hok.goes c.b _ hb t hmem
        rw [Int.toNat_natCast]
        have ht0 : 1 ≤ tn := by
          have := hpos _ (List.mem_of_getElem? hb) _ hmem
          omega
        have hw : wrap64 (visM c.s tn + 1) = visM c.s tn + 1 := by
          have := (h.low tn)
          have h2 : 0 ≤ visM c.s tn := by
            have := this.1
            unfold leftM at this
            split at this <;> omega
          unfold wrap64
          omega
        have hv : ∀ b, visM (enterM f tn c.b (tickM c.s)).s b = visM c.s b + if tn = b then 1 else 0 := fun b => by
          unfold visM enterM arriveM
          simp only
          rw [visM_set (by show tn < c.s.vis.length; rw [h.len]; exact htn)]
          by_cases e : tn = b
          · subst e
            rw [if_pos rfl, if_pos rfl]
            exact hw
          · rw [if_neg e, if_neg e, Int.add_zero]
            rfl
        have hl : ∀ b, leftM (enterM f tn c.b (tickM c.s)) b = leftM c b + if c.b = b then 1 else 0 := fun b => by
          unfold leftM
          rw [hv]
          show visM c.s b + (if tn = b then (1 : Int) else 0) - (if tn = b then 1 else 0) = _
          omega
        refine ⟨?_, htn, Nat.zero_le _, fun b => ⟨?_, ?_⟩, ?_, fun b h0 hbn => ?_, fun b hbn he => ?_, ?_⟩
        · show (c.s.vis.set tn _).length = _
          rw [List.length_set]
          exact h.len
        · rw [hl]
          have := (h.low b).1
          split <;> omega
        · rw [hv]
          have := (h.low b).2
          show _ ≤ ((c.s.steps + 1 : Nat) : Int) + 1
          split <;> omega
        · rw [hv, if_neg (by omega), h.zero]
          rfl
        · rw [hv]
          have hc := h.come b h0 hbn
          have hle : ∀ x ∈ predsTo f.blocks f.blocks.length b, leftM c x ≤ leftM (enterM f tn c.b (tickM c.s)) x := fun x _ => by
            rw [hl]
            split <;> omega
          by_cases e : tn = b
          · subst e
            rw [if_pos rfl]
            have hin : c.b ∈ predsTo f.blocks f.blocks.length tn := by
              unfold predsTo
              refine List.mem_filter.2 ⟨List.mem_range.2 h.cur, decide_eq_true ?_⟩
              unfold succM
              rw [hb]
              exact List.mem_map.2 ⟨_, hmem, by simp⟩
            have := sumOver_more (d := 1) hle hin (by rw [hl, if_pos rfl]; omega)
            omega
          · rw [if_neg e]
            have := sumOver_mono hle
            omega
        · rw [hl]
          have := h.ends b hbn he
          by_cases e : c.b = b
          · subst e
            rw [he] at hmem
            cases hmem
          · rw [if_neg e]
            omega
        · have hm := h.most
          rw [hfin, if_pos rfl] at hm
          have hle : ∀ x ∈ List.range f.blocks.length, lenM f x * leftM c x ≤ lenM f x * leftM (enterM f tn c.b (tickM c.s)) x := fun x _ => by
            rw [hl]
            have : 0 ≤ lenM f x := by unfold lenM; omega
            split
            · exact Int.mul_le_mul_of_nonneg_left (by omega) this
            · rw [Int.add_zero]
              exact Int.le_refl _
          have := sumOver_more (d := lenM f c.b) hle (List.mem_range.2 h.cur) (by rw [hl, if_pos rfl, Int.mul_add, Int.mul_one]; exact Int.le_refl _)
          have e1 : lenM f c.b = c.k + 1 := by unfold lenM; rw [hk]
          show ((c.s.steps + 1 : Nat) : Int) ≤ _ + ((0 : Nat) : Int) + 0
          omega

theorem vis_goN {f : FuncM} {nv : Nat} {I : InM} (hok : FOk f nv) (hpos : ∀ q ∈ f.blocks, ∀ x ∈ q.term.to, 1 ≤ x) : ∀ n, n ≤ 200000 → VisM f (goN f n (startM f I)) ∧ (goN f n (startM f I)).s.steps ≤ n
  | 0, _ => ⟨vis_start hok.first.1, Nat.le_refl _⟩
  | n + 1, hn => by
    obtain ⟨h1, h2⟩ := vis_goN (I := I) hok hpos n (by omega)
    refine ⟨vis_go hok hpos h1 (by omega), ?_⟩
    have := go_steps_le f (goN f n (startM f I))
    show (goM f (goN f n (startM f I))).s.steps ≤ n + 1
    omega

/-- how often blocks were come to when a run has ended -/
structure VisEnd (f : FuncM) (F : Nat) (s : StM) : Prop where
  len : s.vis.length = f.blocks.length
  low : ∀ b, 0 ≤ visM s b ∧ visM s b ≤ F + 1
  zero : visM s 0 = 1
  come : ∀ b, 0 < b → b < f.blocks.length → visM s b ≤ sumOver (visM s) (predsTo f.blocks f.blocks.length b)
  ends : ∀ b, b < f.blocks.length → (blkM f b).term.to = [] → visM s b ≤ 1
  most : (s.steps : Int) ≤ sumOver (fun b => lenM f b * visM s b) (List.range f.blocks.length)

theorem vis_end {f : FuncM} {I : InM} {F : Nat} {s : StM} {en : EndM} (hs : CheckIs f (0, 0)) (h : EndIs f I (min F 200000) s en) : VisEnd f F s := by
  obtain ⟨rfl, _⟩ := h
  have hok := strict_fok hs
  obtain ⟨hl, _⟩ := check_zero hs
  obtain ⟨hv, hst⟩ := vis_goN (I := I) hok (fun q hq x hx => (term_in rfl (look_term hl q hq) x hx).1) (min F 200000) (by omega)
  obtain ⟨c, hc⟩ : ∃ c, c = goN f (min F 200000) (startM f I) := ⟨_, rfl⟩
  rw [← hc] at hv hst ⊢
  have hle : ∀ b, leftM c b ≤ visM c.s b := fun b => by
    unfold leftM
    split <;> omega
  refine ⟨hv.len, fun b => ⟨?_, ?_⟩, hv.zero, fun b h0 hb => ?_, fun b hb he => ?_, ?_⟩
  · have := (hv.low b).1
    have := hle b
    omega
  · have := (hv.low b).2
    omega
  · have := hv.come b h0 hb
    have := sumOver_mono (l := predsTo f.blocks f.blocks.length b) fun x _ => hle x
    omega
  · have := hv.ends b hb he
    unfold leftM at this
    split at this <;> omega
  · have hm := hv.most
    have := sumOver_more (g := fun b => lenM f b * leftM c b) (h := fun b => lenM f b * visM c.s b) (x := c.b) (d := lenM f c.b) (l := List.range f.blocks.length) (fun x _ => Int.mul_le_mul_of_nonneg_left (hle x) (by unfold lenM; omega)) (List.mem_range.2 hv.cur) (by
      show lenM f c.b * leftM c c.b + _ ≤ _
      unfold leftM
      rw [if_pos rfl, Int.mul_sub, Int.mul_one]
      omega)
    have hp := hv.pos
    have : (c.k : Int) + 1 ≤ lenM f c.b := by unfold lenM; omega
    have hif : (if c.fin = none then (0 : Int) else 1) ≤ 1 := by split <;> decide
    omega

end Go.Proofs.YtglbepdjahddmaaGreat
