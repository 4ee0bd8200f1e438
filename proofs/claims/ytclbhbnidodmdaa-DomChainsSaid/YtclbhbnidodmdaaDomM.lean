/- A tree of dominance that grows round by round over an order of blocks: plain data, no word of the program here. -/
import Derived.Test.YtclbhbnidodmdaaWays
namespace Go.Proofs.Ytclbhbnidodmdaa

/-- x stands above b, or is b, as the tree says -/
inductive Anc (par : Nat → Option Nat) (x : Nat) : Nat → Prop
  | refl : Anc par x x
  | up {b d : Nat} (h : par b = some d) (k : Anc par x d) : Anc par x b

/-- does the tree have b? -/
def Grown (par : Nat → Option Nat) (b : Nat) : Prop := b = 0 ∨ ∃ d, par b = some d

/-- what an order is like; pl tells each one's place -/
structure Ord (succ : Nat → List Nat) (o : List Nat) (pl : Nat → Nat) : Prop where
  zero : o[0]? = some 0
  place : ∀ (i : Nat) x, o[i]? = some x → pl x = i
  next : ∀ x ∈ o, ∀ y ∈ succ x, y ∈ o
  ahead : ∀ (i : Nat) x, 0 < i → o[i]? = some x → ∃ j y, j < i ∧ o[j]? = some y ∧ x ∈ succ y

structure Tree (o : List Nat) (pl : Nat → Nat) (par : Nat → Option Nat) : Prop where
  root : par 0 = none
  up : ∀ b d, par b = some d → b ∈ o ∧ d ∈ o ∧ pl d < pl b ∧ Grown par d

/-- a way from 0 to a block that avoids x, with k steps that do not go forward -/
inductive Way (succ : Nat → List Nat) (pl : Nat → Nat) (x : Nat) : Nat → Nat → Prop
  | start (h : 0 ≠ x) : Way succ pl x 0 0
  | fwd {p b k : Nat} (w : Way succ pl x p k) (e : b ∈ succ p) (n : b ≠ x) (h : pl p < pl b) : Way succ pl x b k
  | back {p b k : Nat} (w : Way succ pl x p k) (e : b ∈ succ p) (n : b ≠ x) (h : ¬ pl p < pl b) : Way succ pl x b (k + 1)

inductive Fwd (succ : Nat → List Nat) (pl : Nat → Nat) (b : Nat) : Nat → Prop
  | refl : Fwd succ pl b b
  | step {p c : Nat} (w : Fwd succ pl b p) (e : c ∈ succ p) (h : pl p < pl c) : Fwd succ pl b c

variable {succ : Nat → List Nat} {o : List Nat} {pl : Nat → Nat} {par : Nat → Option Nat}

theorem Ord.mem {i x : Nat} (h : o[i]? = some x) : x ∈ o := List.mem_of_getElem? h
theorem Ord.at (O : Ord succ o pl) {x : Nat} (h : x ∈ o) : o[pl x]? = some x := by
  obtain ⟨i, hi⟩ := List.getElem?_of_mem h
  rw [O.place i x hi]; exact hi
theorem Ord.inj (O : Ord succ o pl) {x y : Nat} (hx : x ∈ o) (hy : y ∈ o) (h : pl x = pl y) : x = y := by
  have h1 := O.at hx
  rw [h, O.at hy] at h1
  exact (Option.some.inj h1).symm
theorem Ord.zero_mem (O : Ord succ o pl) : 0 ∈ o := Ord.mem O.zero
theorem Ord.pl_zero (O : Ord succ o pl) : pl 0 = 0 := O.place 0 0 O.zero
theorem Ord.of_pl_zero (O : Ord succ o pl) {x : Nat} (hx : x ∈ o) (h : pl x = 0) : x = 0 := O.inj hx O.zero_mem (by rw [h, O.pl_zero])
theorem Ord.lt (O : Ord succ o pl) {x : Nat} (hx : x ∈ o) : pl x < o.length := (List.getElem?_eq_some_iff.1 (O.at hx)).1

theorem Anc.trans {x y z : Nat} (h : Anc par x y) (k : Anc par y z) : Anc par x z := by
  induction k with
  | refl => exact h
  | up e _ ih => exact .up e ih

theorem Anc.lin {x y c : Nat} (h : Anc par x c) (k : Anc par y c) : Anc par x y ∨ Anc par y x := by
  induction h with
  | refl => exact .inr k
  | up e h ih =>
    cases k with
    | refl => exact .inl (.up e h)
    | up e2 k => rw [e] at e2; cases e2; exact ih k

theorem Anc.step {x b d : Nat} (h : Anc par x b) (e : par b = some d) : x = b ∨ Anc par x d := by
  cases h with
  | refl => exact .inl rfl
  | up e2 k => rw [e] at e2; cases e2; exact .inr k

theorem Tree.mem (O : Ord succ o pl) (T : Tree o pl par) {b : Nat} (h : Grown par b) : b ∈ o := by
  rcases h with rfl | ⟨d, h⟩
  · exact O.zero_mem
  · exact (T.up b d h).1

theorem Tree.anc_pl (T : Tree o pl par) {x b : Nat} (h : Anc par x b) : x = b ∨ (pl x < pl b ∧ x ∈ o) := by
  induction h with
  | refl => exact .inl rfl
  | up e _ ih =>
    have h1 := T.up _ _ e
    rcases ih with rfl | ⟨h2, h3⟩
    · exact .inr ⟨h1.2.2.1, h1.2.1⟩
    · exact .inr ⟨by omega, h3⟩

theorem Tree.anc_le (T : Tree o pl par) {x b : Nat} (h : Anc par x b) : pl x ≤ pl b := by
  rcases T.anc_pl h with rfl | ⟨h, _⟩ <;> omega

theorem Tree.anc_zero (T : Tree o pl par) {x : Nat} (h : Anc par x 0) : x = 0 := by
  cases h with
  | refl => rfl
  | up e _ => rw [T.root] at e; cases e

theorem Tree.anc_grown (T : Tree o pl par) {x b : Nat} (h : Anc par x b) (hb : Grown par b) : Grown par x := by
  induction h with
  | refl => exact hb
  | up e _ ih => exact ih (T.up _ _ e).2.2.2

theorem Tree.anc_mem (O : Ord succ o pl) (T : Tree o pl par) {x b : Nat} (h : Anc par x b) (hb : Grown par b) : x ∈ o := T.mem O (T.anc_grown h hb)

theorem Tree.antisymm (T : Tree o pl par) {x y : Nat} (h : Anc par x y) (k : Anc par y x) : x = y := by
  rcases T.anc_pl h with h1 | ⟨h1, _⟩
  · exact h1
  · have := T.anc_le k; omega

theorem Tree.zero_anc (T : Tree o pl par) : ∀ (n b : Nat), pl b < n → Grown par b → Anc par 0 b := by
  intro n
  induction n with
  | zero => intro b h; omega
  | succ n ih =>
    intro b hb hg
    rcases hg with rfl | ⟨d, e⟩
    · exact .refl
    · have h1 := T.up b d e
      exact .up e (ih d (by omega) h1.2.2.2)

theorem Way.ne {x b k : Nat} (h : Way succ pl x b k) : b ≠ x := by
  cases h with
  | start h => exact h
  | fwd _ _ n _ => exact n
  | back _ _ n _ => exact n

theorem Way.mem (O : Ord succ o pl) {x b k : Nat} (h : Way succ pl x b k) : b ∈ o := by
  induction h with
  | start _ => exact O.zero_mem
  | fwd _ e _ _ ih => exact O.next _ ih _ e
  | back _ e _ _ ih => exact O.next _ ih _ e

theorem Way.next {x p b k : Nat} (h : Way succ pl x p k) (e : b ∈ succ p) (n : b ≠ x) : ∃ k', Way succ pl x b k' := by
  by_cases hp : pl p < pl b
  · exact ⟨k, .fwd h e n hp⟩
  · exact ⟨k + 1, .back h e n hp⟩

theorem Way.parts {x c k : Nat} (b : Nat) (h : Way succ pl x c k) : (∃ k', k' ≤ k ∧ Way succ pl x b k') ∨ Way succ pl b c k := by
  induction h with
  | start h =>
    by_cases e : 0 = b
    · subst e; exact .inl ⟨0, Nat.le_refl _, .start h⟩
    · exact .inr (.start e)
  | @fwd p c k w e n hp ih =>
    rcases ih with ⟨k', h1, h2⟩ | ih
    · exact .inl ⟨k', h1, h2⟩
    · by_cases e2 : c = b
      · subst e2; exact .inl ⟨k, Nat.le_refl _, .fwd w e n hp⟩
      · exact .inr (.fwd ih e e2 hp)
  | @back p c k w e n hp ih =>
    rcases ih with ⟨k', h1, h2⟩ | ih
    · exact .inl ⟨k', by omega, h2⟩
    · by_cases e2 : c = b
      · subst e2; exact .inl ⟨k + 1, Nat.le_refl _, .back w e n hp⟩
      · exact .inr (.back ih e e2 hp)

theorem fwd_or (O : Ord succ o pl) (b : Nat) : ∀ (n c : Nat), pl c < n → c ∈ o → Way succ pl b c 0 ∨ Fwd succ pl b c := by
  intro n
  induction n with
  | zero => intro c h; omega
  | succ n ih =>
    intro c hc hm
    by_cases e : c = b
    · subst e; exact .inr .refl
    · rcases Nat.eq_zero_or_pos (pl c) with h0 | h0
      · have := O.of_pl_zero hm h0
        subst this
        exact .inl (.start e)
      · obtain ⟨j, y, hj, hy, hs⟩ := O.ahead _ c h0 (O.at hm)
        have hpy := O.place j y hy
        rcases ih y (by omega) (Ord.mem hy) with h | h
        · exact .inl (.fwd h hs e (by omega))
        · exact .inr (.step h hs (by omega))

theorem Fwd.extend {x b c k : Nat} (h : Fwd succ pl b c) (w : Way succ pl x b k) (hx : pl x < pl b) : Way succ pl x c k ∧ pl b ≤ pl c := by
  induction h with
  | refl => exact ⟨w, Nat.le_refl _⟩
  | step _ e hp ih => exact ⟨.fwd ih.1 e (fun e2 => by subst e2; omega) hp, by omega⟩

/-- x stands on each way to b -/
def Dom (succ : Nat → List Nat) (pl : Nat → Nat) (x b : Nat) : Prop := ∀ k, ¬ Way succ pl x b k

/-- the tree in round r, with the first i of the order done -/
structure St (succ : Nat → List Nat) (o : List Nat) (pl : Nat → Nat) (par : Nat → Option Nat) (r i : Nat) : Prop where
  tree : Tree o pl par
  grown : ∀ b ∈ o, (0 < r ∨ pl b < i) → Grown par b
  first : r = 0 → ∀ b, Grown par b → pl b < i
  inv : ∀ c, Grown par c → ∀ x k, Way succ pl x c k → (k < r ∨ (k ≤ r ∧ pl c < i)) → ¬ Anc par x c
  low : ∀ c, Grown par c → ∀ x, Dom succ pl x c → Anc par x c

/-- d is where all that go to b, as far as the tree has them, meet -/
def Closest (succ : Nat → List Nat) (par : Nat → Option Nat) (b d : Nat) : Prop := ∀ x, Anc par x d ↔ ∀ p, Grown par p → b ∈ succ p → Anc par x p

def putP (par : Nat → Option Nat) (b d : Nat) : Nat → Option Nat := fun c => if c = b then some d else par c

theorem putP_self (par : Nat → Option Nat) {b d : Nat} (h : par b = some d) : putP par b d = par := by
  funext c
  unfold putP
  split
  · rename_i e; rw [e, h]
  · rfl

theorem St.start (O : Ord succ o pl) : St succ o pl (fun _ => none) 0 1 := by
  have hg : ∀ b, Grown (fun _ => none) b → b = 0 := by
    rintro b (h | ⟨d, h⟩)
    · exact h
    · cases h
  have ht : Tree o pl (fun _ => none) := ⟨rfl, fun b d h => by cases h⟩
  refine ⟨ht, fun b hb h => ?_, fun _ b h => ?_, fun c h x k w _ ha => ?_, fun c h x hd => ?_⟩
  · rcases h with h | h
    · omega
    · exact .inl (O.of_pl_zero hb (by omega))
  · rw [hg b h, O.pl_zero]; omega
  · have := hg c h
    subst this
    exact w.ne (ht.anc_zero ha).symm
  · have := hg c h
    subst this
    by_cases e : 0 = x
    · subst e; exact .refl
    · exact absurd (Way.start e) (hd 0)

theorem St.round (O : Ord succ o pl) {r : Nat} (S : St succ o pl par r o.length) : St succ o pl par (r + 1) 1 := by
  refine ⟨S.tree, fun b hb _ => S.grown b hb (.inr (O.lt hb)), fun h => by omega, fun c hc x k w hk => ?_, S.low⟩
  rcases hk with hk | ⟨_, hk⟩
  · exact S.inv c hc x k w (.inr ⟨by omega, O.lt (S.tree.mem O hc)⟩)
  · have := O.of_pl_zero (S.tree.mem O hc) (by omega)
    subst this
    intro ha
    exact w.ne (S.tree.anc_zero ha).symm

/-- what is closest stands ahead -/
theorem Closest.ahead (O : Ord succ o pl) {r i b d : Nat} (S : St succ o pl par r i) (hi : 0 < i) (hb : o[i]? = some b) (h : Closest succ par b d) : d ∈ o ∧ pl d < pl b ∧ Grown par d ∧ b ≠ 0 := by
  have hpb := O.place i b hb
  obtain ⟨j, y, hj, hy, hs⟩ := O.ahead i b hi hb
  have hpy := O.place j y hy
  have hgy := S.grown y (Ord.mem hy) (.inr (by omega))
  have h1 := (h d).1 .refl y hgy hs
  have h2 := S.tree.anc_le h1
  have h3 := S.tree.anc_grown h1 hgy
  exact ⟨S.tree.mem O h3, by omega, h3, fun e => by subst e; rw [O.pl_zero] at hpb; omega⟩

theorem St.step (O : Ord succ o pl) {r i b d : Nat} (S : St succ o pl par r i) (hi : 0 < i) (hb : o[i]? = some b) (h : Closest succ par b d) : St succ o pl (putP par b d) r (i + 1) := by
  obtain ⟨hd1, hd2, hd3, hb0⟩ := h.ahead O S hi hb
  have hpb := O.place i b hb
  have hbm := Ord.mem hb
  have hsame : ∀ c, c ≠ b → putP par b d c = par c := fun c hc => by unfold putP; rw [if_neg hc]
  have hat : putP par b d b = some d := by unfold putP; rw [if_pos rfl]
  have hgr : ∀ c, Grown par c → Grown (putP par b d) c := by
    rintro c (hc | ⟨e, hc⟩)
    · exact .inl hc
    · by_cases e2 : c = b
      · subst e2; exact .inr ⟨d, hat⟩
      · exact .inr ⟨e, by rw [hsame c e2]; exact hc⟩
  have hgr2 : ∀ c, Grown (putP par b d) c → c ≠ b → Grown par c := by
    rintro c (hc | ⟨e, hc⟩) hne
    · exact .inl hc
    · exact .inr ⟨e, by rw [hsame c hne] at hc; exact hc⟩
  have T : Tree o pl (putP par b d) := by
    refine ⟨by rw [hsame 0 (fun e => hb0 e.symm)]; exact S.tree.root, fun c e hc => ?_⟩
    by_cases e2 : c = b
    · subst e2
      rw [hat] at hc
      cases hc
      exact ⟨hbm, hd1, hd2, hgr _ hd3⟩
    · rw [hsame c e2] at hc
      have := S.tree.up c e hc
      exact ⟨this.1, this.2.1, this.2.2.1, hgr _ this.2.2.2⟩
  -- chains that do not come to b are as they were
  have hlow : ∀ x c, pl c < pl b → (Anc (putP par b d) x c ↔ Anc par x c) := by
    intro x c hc
    constructor
    · intro ha
      induction ha with
      | refl => exact .refl
      | @up c e1 e _ ih =>
        have hne : c ≠ b := fun e2 => by subst e2; omega
        rw [hsame c hne] at e
        exact .up e (ih (by have := (S.tree.up _ _ e).2.2.1; omega))
    · intro ha
      induction ha with
      | refl => exact .refl
      | @up c e1 e _ ih =>
        have hne : c ≠ b := fun e2 => by subst e2; omega
        exact .up (by rw [hsame c hne]; exact e) (ih (by have := (S.tree.up _ _ e).2.2.1; omega))
  have hanb : ∀ x, Anc (putP par b d) x b ↔ x = b ∨ Anc par x d := by
    intro x
    constructor
    · intro ha
      rcases ha.step hat with h1 | h1
      · exact .inl h1
      · exact .inr ((hlow x d hd2).1 h1)
    · rintro (h1 | h1)
      · subst h1; exact .refl
      · exact .up hat ((hlow x d hd2).2 h1)
  -- a new chain: the old one, or through b
  have hnew : ∀ x c, Anc (putP par b d) x c → (Anc par x c ∧ (Anc par b c → Anc par b x)) ∨ (Anc par b c ∧ Anc (putP par b d) x b) := by
    intro x c ha
    induction ha with
    | refl => exact .inl ⟨.refl, id⟩
    | @up c e1 e k ih =>
      by_cases hne : c = b
      · subst hne
        exact .inr ⟨.refl, .up e k⟩
      · rw [hsame c hne] at e
        rcases ih with ⟨h1, h2⟩ | ⟨h1, h2⟩
        · refine .inl ⟨.up e h1, fun h3 => ?_⟩
          rcases h3.step e with h4 | h4
          · exact absurd h4.symm hne
          · exact h2 h4
        · exact .inr ⟨.up e h1, h2⟩
  -- what stood under b, or apart from b, still does
  have hold : ∀ x c, Anc par x c → (Anc par b c → Anc par b x) → Anc (putP par b d) x c := by
    intro x c ha
    induction ha with
    | refl => intro _; exact .refl
    | @up c e1 e k ih =>
      intro h2
      by_cases hne : c = b
      · subst hne
        have h3 := h2 .refl
        have := S.tree.antisymm h3 (.up e k)
        rw [← this]
        exact .refl
      · exact .up (by rw [hsame c hne]; exact e) (ih (fun h3 => h2 (.up e h3)))
  have hthr : ∀ x c, Anc par b c → Anc (putP par b d) x b → Anc (putP par b d) x c := by
    intro x c ha hx
    exact hx.trans (hold b c ha (fun _ => .refl))
  have hinvb : ∀ x k, Way succ pl x b k → k ≤ r → ¬ Anc (putP par b d) x b := by
    intro x k w hk ha
    rcases (hanb x).1 ha with h1 | h1
    · exact w.ne h1.symm
    · have h2 := (h x).1 h1
      cases w with
      | start _ => exact hb0 rfl
      | fwd w e _ hp =>
        have hm := w.mem O
        have hg := S.grown _ hm (.inr (by omega))
        exact S.inv _ hg x k w (.inr ⟨hk, by omega⟩) (h2 _ hg e)
      | back w e _ hp =>
        have hm := w.mem O
        have hg := S.grown _ hm (.inl (by omega))
        exact S.inv _ hg x _ w (.inl (by omega)) (h2 _ hg e)
  have hlowb : ∀ x, Dom succ pl x b → Anc (putP par b d) x b := by
    intro x hx
    refine (hanb x).2 ?_
    by_cases e : x = b
    · exact .inl e
    · refine .inr ((h x).2 fun p hg he => S.low p hg x fun k w => ?_)
      obtain ⟨k', w'⟩ := w.next he (fun e2 => e e2.symm)
      exact hx k' w'
  -- nothing that stands under b is done in this round
  have hunder : ∀ c, Anc par b c → c ≠ b → Grown par c → 0 < r ∧ ¬ pl c < i + 1 := by
    intro c ha hne hg
    rcases S.tree.anc_pl ha with h1 | ⟨h1, _⟩
    · exact absurd h1.symm hne
    · refine ⟨?_, by omega⟩
      rcases Nat.eq_zero_or_pos r with h0 | h0
      · have := S.first h0 c hg; omega
      · exact h0
  refine ⟨T, fun c hc hk => ?_, fun h0 c hc => ?_, fun c hc x k w hk ha => ?_, fun c hc x hx => ?_⟩
  · by_cases e : c = b
    · subst e; exact .inr ⟨d, hat⟩
    · refine hgr c (S.grown c hc ?_)
      rcases hk with hk | hk
      · exact .inl hk
      · right
        have : pl c ≠ pl b := fun e2 => e (O.inj hc hbm e2)
        omega
  · by_cases e : c = b
    · subst e; omega
    · have := S.first h0 c (hgr2 c hc e); omega
  · by_cases e : c = b
    · subst e
      exact hinvb x k w (by omega) ha
    · have hg := hgr2 c hc e
      have hne : pl c ≠ pl b := fun e2 => e (O.inj (S.tree.mem O hg) hbm e2)
      have hk' : k < r ∨ (k ≤ r ∧ pl c < i) := by omega
      rcases hnew x c ha with ⟨h1, _⟩ | ⟨h1, h2⟩
      · exact S.inv c hg x k w hk' h1
      · obtain ⟨h3, h4⟩ := hunder c h1 e hg
        rcases w.parts b with ⟨k', h5, w'⟩ | w'
        · exact hinvb x k' w' (by omega) h2
        · exact S.inv c hg b k w' hk' h1
  · by_cases e : c = b
    · subst e; exact hlowb x hx
    · have hg := hgr2 c hc e
      have ha := S.low c hg x hx
      by_cases hbc : Anc par b c
      · rcases ha.lin hbc with h1 | h1
        · by_cases exb : x = b
          · subst exb; exact hold x c ha (fun _ => .refl)
          · -- x above b: no way to b avoids x
            refine hthr x c hbc (hlowb x fun k w => ?_)
            have hpx : pl x < pl b := by
              rcases S.tree.anc_pl h1 with h2 | ⟨h2, _⟩
              · exact absurd h2 exb
              · exact h2
            obtain ⟨h3, _⟩ := hunder c hbc e hg
            rcases fwd_or O b _ c (Nat.lt_succ_self _) (S.tree.mem O hg) with h4 | h4
            · exact S.inv c hg b 0 h4 (.inl h3) hbc
            · exact hx k (h4.extend w hpx).1
        · exact hold x c ha (fun _ => h1)
      · exact hold x c ha (fun h2 => absurd h2 hbc)

/-- b stands right: what is above it is above all that go to it -/
def Fixed (succ : Nat → List Nat) (par : Nat → Option Nat) (b : Nat) : Prop := ∀ p, Grown par p → b ∈ succ p → ∀ x, Anc par x b → x = b ∨ Anc par x p

theorem Closest.fixed {b d : Nat} (h : Closest succ par b d) (e : par b = some d) : Fixed succ par b := by
  intro p hg he x ha
  rcases ha.step e with h1 | h1
  · exact .inl h1
  · exact .inr ((h x).1 h1 p hg he)

/-- a tree that is done -/
structure Done (succ : Nat → List Nat) (o : List Nat) (pl : Nat → Nat) (par : Nat → Option Nat) : Prop where
  tree : Tree o pl par
  grown : ∀ b ∈ o, Grown par b
  fixed : ∀ b ∈ o, Fixed succ par b
  is : ∀ b ∈ o, ∀ x, Anc par x b ↔ Dom succ pl x b

theorem St.done (O : Ord succ o pl) {r i : Nat} (S : St succ o pl par r i) (hr : 0 < r) (hf : ∀ b ∈ o, b ≠ 0 → Fixed succ par b) : Done succ o pl par := by
  have hf' : ∀ b ∈ o, Fixed succ par b := by
    intro b hb
    by_cases e : b = 0
    · subst e
      intro p _ _ x ha
      exact .inl (S.tree.anc_zero ha)
    · exact hf b hb e
  refine ⟨S.tree, fun b hb => S.grown b hb (.inl hr), hf', fun b hb x => ⟨fun ha k w => ?_, fun hd => S.low b (S.grown b hb (.inl hr)) x hd⟩⟩
  induction w with
  | start h => exact h (S.tree.anc_zero ha).symm
  | fwd w e n _ ih =>
    have hm := w.mem O
    rcases hf' _ hb _ (S.grown _ hm (.inl hr)) e x ha with h1 | h1
    · exact n h1.symm
    · exact ih hm h1
  | back w e n _ ih =>
    have hm := w.mem O
    rcases hf' _ hb _ (S.grown _ hm (.inl hr)) e x ha with h1 | h1
    · exact n h1.symm
    · exact ih hm h1

theorem bound_upto {P : Nat → Nat → Prop} (hm : ∀ i a b, a ≤ b → P i a → P i b) : ∀ n, (∀ i, i < n → ∃ N, P i N) → ∃ N, ∀ i, i < n → P i N := by
  intro n
  induction n with
  | zero => intro _; exact ⟨0, fun i h => by omega⟩
  | succ n ih =>
    intro h
    obtain ⟨N, hN⟩ := ih (fun i hi => h i (by omega))
    obtain ⟨M, hM⟩ := h n (by omega)
    refine ⟨N + M, fun i hi => ?_⟩
    by_cases e : i = n
    · subst e; exact hm _ _ _ (by omega) hM
    · exact hm _ _ _ (by omega) (hN i (by omega))

/-- how many steps back are enough -/
theorem enough (succ : Nat → List Nat) (o : List Nat) (pl : Nat → Nat) : ∃ N, ∀ x ∈ o, ∀ c ∈ o, ∀ k, Way succ pl x c k → ∃ k', k' ≤ N ∧ Way succ pl x c k' := by
  have h1 : ∃ N, ∀ i, i < o.length → ∀ j, j < o.length → ∀ x c, o[i]? = some x → o[j]? = some c → ∀ k, Way succ pl x c k → ∃ k', k' ≤ N ∧ Way succ pl x c k' := by
    refine bound_upto (P := fun i N => ∀ j, j < o.length → ∀ x c, o[i]? = some x → o[j]? = some c → ∀ k, Way succ pl x c k → ∃ k', k' ≤ N ∧ Way succ pl x c k') (fun i a b hab h j hj x c hx hc k w => ?_) _ (fun i _ => ?_)
    · obtain ⟨k', h1, h2⟩ := h j hj x c hx hc k w
      exact ⟨k', by omega, h2⟩
    · refine bound_upto (P := fun j N => ∀ x c, o[i]? = some x → o[j]? = some c → ∀ k, Way succ pl x c k → ∃ k', k' ≤ N ∧ Way succ pl x c k') (fun j a b hab h x c hx hc k w => ?_) _ (fun j _ => ?_)
      · obtain ⟨k', h1, h2⟩ := h x c hx hc k w
        exact ⟨k', by omega, h2⟩
      · cases ha : o[i]? with
        | none => exact ⟨0, fun x c hx => by cases hx⟩
        | some a =>
          cases hb : o[j]? with
          | none => exact ⟨0, fun x c _ hc => by cases hc⟩
          | some b =>
            by_cases h : ∃ k, Way succ pl a b k
            · obtain ⟨K, hK⟩ := h
              exact ⟨K, fun x c hx hc k _ => by cases hx; cases hc; exact ⟨K, Nat.le_refl _, hK⟩⟩
            · exact ⟨0, fun x c hx hc k w => by cases hx; cases hc; exact absurd ⟨k, w⟩ h⟩
  obtain ⟨N, hN⟩ := h1
  refine ⟨N, fun x hx c hc k w => ?_⟩
  obtain ⟨i, hi⟩ := List.getElem?_of_mem hx
  obtain ⟨j, hj⟩ := List.getElem?_of_mem hc
  exact hN i (List.getElem?_eq_some_iff.1 hi).1 j (List.getElem?_eq_some_iff.1 hj).1 x c hi hj k w

/-- late enough nothing changes -/
theorem St.late (O : Ord succ o pl) {N r i b d : Nat} (hN : ∀ x ∈ o, ∀ c ∈ o, ∀ k, Way succ pl x c k → ∃ k', k' ≤ N ∧ Way succ pl x c k') (S : St succ o pl par r i) (hr : N < r) (hi : 0 < i) (hb : o[i]? = some b) (h : Closest succ par b d) : par b = some d := by
  obtain ⟨hd1, hd2, hd3, hb0⟩ := h.ahead O S hi hb
  have hbm := Ord.mem hb
  have hg : ∀ c ∈ o, Grown par c := fun c hc => S.grown c hc (.inl (by omega))
  have is : ∀ c ∈ o, ∀ x, Anc par x c ↔ Dom succ pl x c := by
    intro c hc x
    refine ⟨fun ha k w => ?_, fun hd => S.low c (hg c hc) x hd⟩
    obtain ⟨k', h1, h2⟩ := hN x (S.tree.anc_mem O ha (hg c hc)) c hc k w
    exact S.inv c (hg c hc) x k' h2 (.inl (by omega)) ha
  obtain ⟨d0, h0⟩ : ∃ d0, par b = some d0 := by
    rcases hg b hbm with e | e
    · exact absurd e hb0
    · exact e
  have hu := S.tree.up b d0 h0
  rw [h0]
  congr 1
  refine S.tree.antisymm ?_ ?_
  · -- d0 above d
    refine (h d0).2 fun p hp he => (is p (S.tree.mem O hp) d0).2 fun k w => ?_
    obtain ⟨k', w'⟩ := w.next he (fun e => by subst e; omega)
    exact (is b hbm d0).1 (.up h0 .refl) k' w'
  · have h1 := (h d).1 .refl
    have h2 : Anc par d b := by
      refine (is b hbm d).2 fun k w => ?_
      cases w with
      | start _ => exact hb0 rfl
      | fwd w e _ _ => exact (is _ (w.mem O) d).1 (h1 _ (hg _ (w.mem O)) e) _ w
      | back w e _ _ => exact (is _ (w.mem O) d).1 (h1 _ (hg _ (w.mem O)) e) _ w
    rcases h2.step h0 with h3 | h3
    · subst h3; omega
    · exact h3

/-- where two meet -/
def Meets (par : Nat → Option Nat) (a b m : Nat) : Prop := ∀ x, Anc par x m ↔ Anc par x a ∧ Anc par x b

theorem Meets.self (a : Nat) : Meets par a a a := fun _ => ⟨fun h => ⟨h, h⟩, fun h => h.1⟩

/-- one step up, of the one that stands later -/
theorem Tree.climb (T : Tree o pl par) {a b d : Nat} (h : pl b < pl a) (e : par a = some d) (x : Nat) : (Anc par x a ∧ Anc par x b) ↔ (Anc par x d ∧ Anc par x b) := by
  constructor
  · rintro ⟨h1, h2⟩
    rcases h1.step e with h3 | h3
    · subst h3
      have := T.anc_le h2
      omega
    · exact ⟨h3, h2⟩
  · rintro ⟨h1, h2⟩
    exact ⟨.up e h1, h2⟩

theorem Meets.mem (O : Ord succ o pl) (T : Tree o pl par) {a b m : Nat} (h : Meets par a b m) (ha : Grown par a) : Grown par m ∧ Anc par m a ∧ Anc par m b := by
  have h1 := (h m).1 .refl
  exact ⟨T.anc_grown h1.1 ha, h1.1, h1.2⟩

end Go.Proofs.Ytclbhbnidodmdaa
