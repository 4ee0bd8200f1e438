/- dom.Frontiers, as it is called. -/
import Derived.Test.YtclbhbnidodmdaaDOver
import Derived.Test.YtclbhbnidodmdaaDDominates
namespace Go.Proofs.Ytclbhbnidodmdaa

/-- a dominates one that goes to b, but not b, or is b -/
def FrontP (bs : List BlockM) (o : List Nat) (a b : Nat) : Prop := (∃ p, b ∈ succM bs p ∧ OverP bs o a p) ∧ (a = b ∨ ¬ OverP bs o a b)

/-- from p up to what stands above b -/
def Seg (par : Nat → Option Nat) (b p a : Nat) : Prop := Anc par a p ∧ ∀ d, par b = some d → ¬ Anc par a d

theorem front_seg {bs : List BlockM} {o : List Nat} {pl : Nat → Nat} {par : Nat → Option Nat} (hO : Ord (succM bs) o pl) (hD : Done (succM bs) o pl par) (a b : Nat) :
    FrontP bs o a b ↔ ∃ p, p ∈ o ∧ b ∈ succM bs p ∧ Seg par b p a := by
  have key : b ∈ o → ((a = b ∨ ¬ OverP bs o a b) ↔ ∀ d, par b = some d → ¬ Anc par a d) := by
    intro hb
    rw [over_anc hO hD hb]
    constructor
    · intro h d hd ha
      have hu := hD.tree.up b d hd
      rcases h with rfl | h
      · have := hD.tree.anc_le ha; omega
      · exact h (.up hd ha)
    · intro h
      by_cases e : a = b
      · exact .inl e
      · refine .inr fun ha => ?_
        cases ha with
        | refl => exact e rfl
        | up hd k => exact h _ hd k
  constructor
  · rintro ⟨⟨p, hs, hp⟩, h2⟩
    have hpo := hp.2.1
    exact ⟨p, hpo, hs, (over_anc hO hD hpo).1 hp, (key (hO.next p hpo b hs)).1 h2⟩
  · rintro ⟨p, hpo, hs, h1, h2⟩
    exact ⟨⟨p, hs, (over_anc hO hD hpo).2 h1⟩, (key (hO.next p hpo b hs)).2 h2⟩

/-- the list of a, when all blocks ahead of b are done, and b for those in P -/
def frontRow (F : Nat → Nat → Bool) (b : Nat) (P : Nat → Bool) (a : Nat) : List Nat := (List.range b).filter (fun c => F a c) ++ if P a then [b] else []
def frontRows (n : Nat) (F : Nat → Nat → Bool) (b : Nat) (P : Nat → Bool) : List (List Nat) := (List.range n).map (frontRow F b P)

section
variable {F : Nat → Nat → Bool} {n b a : Nat} {P P' : Nat → Bool}

theorem frontRows_at (h : a < n) : (frontRows n F b P)[a]? = some (frontRow F b P a) := by
  unfold frontRows
  rw [List.getElem?_map, List.getElem?_eq_getElem (by simpa using h)]
  simp

theorem frontRows_len : (frontRows n F b P).length = n := by simp [frontRows]

theorem frontRow_len : (frontRow F b P a).length ≤ b + 1 := by
  unfold frontRow
  have h := List.length_filter_le (fun c => F a c) (List.range b)
  rw [List.length_range] at h
  rw [List.length_append]
  split <;> simp <;> omega

theorem frontRows_zero : frontRows n F 0 (fun _ => false) = (List.range n).map fun _ => [] := by
  unfold frontRows frontRow
  simp

theorem frontRows_congr (h : ∀ a, a < n → P a = P' a) : frontRows n F b P = frontRows n F b P' := by
  unfold frontRows
  apply List.map_congr_left
  intro a ha
  unfold frontRow
  rw [h a (by simpa using ha)]

theorem frontRows_next (h : ∀ a, a < n → P a = F a b) : frontRows n F b P = frontRows n F (b + 1) (fun _ => false) := by
  unfold frontRows
  apply List.map_congr_left
  intro a ha
  unfold frontRow
  rw [h a (by simpa using ha), List.range_succ, List.filter_append]
  cases hf : F a b <;> simp [hf]

/-- one more in P -/
def andAlso (P : Nat → Bool) (a : Nat) : Nat → Bool := fun c => c == a || P c

theorem frontRows_skip (h : P a = true) : frontRows n F b (andAlso P a) = frontRows n F b P := by
  apply frontRows_congr
  intro c _
  unfold andAlso
  by_cases e : c = a
  · subst e; rw [h]; simp
  · simp [e]

theorem frontRows_push (h : P a = false) (ha : a < n) : (frontRows n F b P).set a (frontRow F b P a ++ [b]) = frontRows n F b (andAlso P a) := by
  apply List.ext_getElem?
  intro c
  by_cases hc : c < n
  · rw [frontRows_at hc]
    by_cases e : a = c
    · subst e
      rw [List.getElem?_set_self (by rw [frontRows_len]; exact ha)]
      unfold frontRow andAlso
      simp [h]
    · rw [List.getElem?_set_ne e, frontRows_at hc]
      unfold frontRow andAlso
      have : (c == a) = false := by simpa using fun h2 => e h2.symm
      rw [this, Bool.false_or]
  · rw [List.getElem?_eq_none (by rw [List.length_set, frontRows_len]; omega), List.getElem?_eq_none (by rw [frontRows_len]; omega)]

/-- is b the last one of the list? -/
theorem frontRow_yes (h : P a = true) : ∃ l, frontRow F b P a = l ++ [b] := ⟨_, by unfold frontRow; rw [if_pos h]⟩
theorem frontRow_no (h : P a = false) : ∀ x ∈ frontRow F b P a, x ≠ b := by
  intro x hx
  unfold frontRow at hx
  rw [h] at hx
  simp at hx
  omega

theorem frontRow_lt {c : Nat} (h : c ∈ frontRow F b P a) : c ≤ b := by
  unfold frontRow at h
  rcases List.mem_append.1 h with h | h
  · have := (List.mem_filter.1 h).1
    simp at this
    omega
  · split at h <;> simp at h
    omega
end

/-- the way up from p, as far as cur: P has what was there, and what was gone through -/
structure Climb (bs : List BlockM) (o : List Nat) (par : Nat → Option Nat) (b p : Nat) (P0 P : Nat → Bool) (cur : Option Nat) : Prop where
  here : ∀ a, cur = some a → Anc par a p ∧ ∀ d, par b = some d → Anc par d a
  gone : cur = none → par b = none
  has : ∀ a, P a = true ↔ P0 a = true ∨ (Anc par a p ∧ ∀ c, cur = some c → ¬ Anc par a c)

section
variable {bs : List BlockM} {o : List Nat} {pl : Nat → Nat} {par : Nat → Option Nat} {b p : Nat} {P0 P : Nat → Bool} {cur : Option Nat}

theorem Climb.start (hO : Ord (succM bs) o pl) (hD : Done (succM bs) o pl par) (hp : p ∈ o) (hs : b ∈ succM bs p) : Climb bs o par b p P0 P0 (some p) := by
  have hb := hO.next p hp b hs
  refine ⟨fun a e => ?_, (fun e => by cases e), fun a => ⟨.inl, ?_⟩⟩
  · cases e
    refine ⟨.refl, fun d hd => ?_⟩
    rcases hD.fixed b hb p (hD.grown p hp) hs d (.up hd .refl) with h | h
    · have := (hD.tree.up b d hd).2.2.1
      subst h; omega
    · exact h
  · rintro (h | ⟨h1, h2⟩)
    · exact h
    · exact absurd h1 (h2 p rfl)

theorem Climb.step (hD : Done (succM bs) o pl par) {a : Nat} (h : Climb bs o par b p P0 P (some a)) (hne : par b ≠ some a) : Climb bs o par b p P0 (andAlso P a) (par a) := by
  obtain ⟨h1, h2⟩ := h.here a rfl
  refine ⟨fun a2 e => ⟨(Anc.up e .refl : Anc par a2 a).trans h1, fun d hd => ?_⟩, fun e => ?_, fun c => ?_⟩
  · rcases (h2 d hd).step e with h3 | h3
    · subst h3; exact absurd hd hne
    · exact h3
  · cases hd : par b with
    | none => rfl
    | some d =>
      have h3 := h2 d hd
      cases h3 with
      | refl => exact absurd hd hne
      | up e2 _ => rw [e] at e2; cases e2
  · unfold andAlso
    rw [Bool.or_eq_true, h.has c]
    constructor
    · rintro (h3 | h3 | ⟨h3, h4⟩)
      · have : c = a := by simpa using h3
        subst this
        refine .inr ⟨h1, fun c2 e ha => ?_⟩
        have := (hD.tree.up c c2 e).2.2.1
        have := hD.tree.anc_le ha
        omega
      · exact .inl h3
      · exact .inr ⟨h3, fun c2 e ha => h4 a rfl (.up e ha)⟩
    · rintro (h3 | ⟨h3, h4⟩)
      · exact .inr (.inl h3)
      · by_cases e : c = a
        · left; simp [e]
        · refine .inr (.inr ⟨h3, fun c2 e2 ha => ?_⟩)
          cases e2
          cases ha with
          | refl => exact e rfl
          | up e3 k => exact h4 _ e3 k

theorem Climb.stop (h : Climb bs o par b p P0 P cur) (he : cur = par b) (a : Nat) : P a = true ↔ P0 a = true ∨ Seg par b p a := by
  rw [h.has a, he]
  exact Iff.rfl

theorem Climb.not_none (h : Climb bs o par b p P0 P none) : par b = none := h.gone rfl
end

end Go.Proofs.Ytclbhbnidodmdaa

namespace Go.Proofs.Ytclbhbnidodmdaa
open Go.RowKit Go.Maps

def AddPost (l : List Nat) (b base : Nat) (v : Value) (w : World) (e : Ending) (w' : World) : Prop :=
  ∃ (g' cap' : Nat) (ob : Obj), e = .returned (.slice (some ⟨g', 0, none⟩) (l.length + 1) cap') ∧ w'.ownsRow base 3 1 (.slice (some ⟨g', 0, none⟩) (l.length + 1) cap') (l.length + 1) (natInts l ++ [.int .i64 (b : Int)]) ∧ (w.alloc ob).grownBy w' v.ownBlock ∧ (v.ownBlock = some g' ∨ g' = (w.alloc ob).heap.size)

set_option maxRecDepth 100000 in
set_option maxHeartbeats 1000000 in
theorem add_new (l : List Nat) (b base : Nat) (v : Value) (w : World) (hown : w.ownsRow base 3 1 v l.length (natInts l)) (hl : l.length ≤ 1000) (hn : ∀ x ∈ l, x ≠ b) (hb : base ≤ w.heap.size) :
    Calls Try.prog 85 #[v, .int .i64 b] w (AddPost l b base v w) := by
  have HOWN := hideI hown
  have HINT := hideI (nat_ints hown (by omega))
  obtain ⟨i1, hjx, hy0, hy1, hy2⟩ := info_parts int_info
  obtain ⟨PA, pc, e1, _, hpx⟩ := HINT.out
  rw [List.length_map] at e1 hpx
  subst e1
  have H63 : Hid (l.length + 1 ≤ maxLen) := by show _ ≤ _; simp only [maxLen]; omega
  have HBY : Hid ((l.length + 1) * 8 ≤ 140737488355328) := by show _ ≤ _; omega
  rcases Nat.eq_zero_or_pos l.length with h0 | h0
  · have HLL : Hid (l.length = 0) := h0
    rw [h0] at HOWN H63 HBY ⊢
    clear hpx hown h0 hn HINT
    go_enter Try.func85, Try.ntmps85
    go_wp2_with (at_builtin; go_must (refine wpList_append_lies _ rfl _ _ _ rfl base 3 i1 (.int .i64 0) 1 8 Try.underlying22 hjx hy0 hy1 hy2 rfl (by decide) _ _ _ rfl (HOWN.out.alloc _) ⟨w.heap.size, 0, none⟩ 1 1 [.int .i64 b] rfl rfl (one_new w _) (by simp [Value.oneCell']) (by decide) H63.out HBY.out (by simp; omega) _ rfl ?_); intro g1 cap1 w3 hown1 hgrow1 hor1 _; have HO1 := hideI hown1; have HG1 := hideI hgrow1; have HR1 := hideI hor1; clear hown1 hgrow1 hor1)
    go_ret
    exact ⟨g1, cap1, _, by rw [HLL.out]; rfl, by rw [HLL.out]; exact HO1.out, HG1.out, HR1.out⟩
  · have hd : decide ((0 : Int) < (l.length : Int)) = true := decide_eq_true (by omega)
    obtain ⟨b1, o1, rfl, hb1, hc1⟩ := hpx (l.length - 1) (by omega)
    obtain ⟨y, hy⟩ : ∃ y, l[l.length - 1]? = some y := ⟨_, List.getElem?_eq_getElem (by omega)⟩
    rw [List.getElem?_map, hy] at hc1
    simp only [Option.map_some, Option.getD_some] at hc1
    have hne : ((y : Int) == (b : Int)) = false := by rw [beq_eq_false_iff_ne]; have := hn y (List.mem_of_getElem? hy); omega
    obtain ⟨L1, hL1⟩ : ∃ L1, L1 + 1 = l.length := ⟨l.length - 1, by omega⟩
    have HLL := hideI hL1
    rw [← hL1] at hc1 HOWN hd H63 HBY ⊢
    rw [Nat.add_sub_cancel] at hc1
    have hL1b : L1 ≤ 1000 := by omega
    clear hpx hown h0 hL1 hn hy
    go_enter Try.func85, Try.ntmps85
    go_wp2_with (at_builtin; go_must (refine wpList_append_lies _ rfl _ _ _ rfl base 3 i1 (.int .i64 0) 1 8 Try.underlying22 hjx hy0 hy1 hy2 rfl (by decide) _ _ _ rfl (HOWN.out.alloc _) ⟨w.heap.size, 0, none⟩ 1 1 [.int .i64 b] rfl rfl (one_new w _) (by simp [Value.oneCell']) (by decide) H63.out HBY.out (by simp; omega) _ rfl ?_); intro g1 cap1 w3 hown1 hgrow1 hor1 _; have HO1 := hideI hown1; have HG1 := hideI hgrow1; have HR1 := hideI hor1; clear hown1 hgrow1 hor1)
    go_ret
    exact ⟨g1, cap1, _, by rw [← HLL.out]; rfl, by rw [← HLL.out]; exact HO1.out, HG1.out, HR1.out⟩

set_option maxRecDepth 100000 in
set_option maxHeartbeats 1000000 in
theorem add_old (l : List Nat) (b base : Nat) (v : Value) (w : World) (hown : w.ownsRow base 3 1 v (l ++ [b]).length (natInts (l ++ [b]))) (hl : l.length ≤ 1000) :
    Calls Try.prog 85 #[v, .int .i64 b] w fun e w' => e = .returned v ∧ w = w' := by
  have HINT := hideI (nat_ints hown (by simp; omega))
  obtain ⟨PA, pc, e1, _, hpx⟩ := HINT.out
  obtain ⟨b1, o1, rfl, hb1, hc1⟩ := hpx l.length (by simp)
  rw [List.length_map, List.length_append] at e1
  simp only [List.length_singleton] at e1
  subst e1
  rw [List.getElem?_map, List.getElem?_append_right (Nat.le_refl _), Nat.sub_self] at hc1
  simp only [List.getElem?_cons_zero, Option.map_some, Option.getD_some] at hc1
  obtain ⟨L, hL⟩ : ∃ L, L = l.length := ⟨_, rfl⟩
  rw [← hL] at hc1 hl ⊢
  have hbb : ((b : Int) == (b : Int)) = true := by simp
  clear hpx hown hL HINT
  go_enter Try.func85, Try.ntmps85
  go_wp2
  go_ret
  exact ⟨rfl, rfl⟩

/-- the same list stored where it stood -/
theorem Lists.restore {w : World} {base gb n t : Nat} {vs : List Value} {ls : List (List Nat)} {v : Value} (h : Lists w base gb n vs ls) (hv : vs[t]? = some v) : Lists (w.setCell ⟨gb, t, none⟩ v) base gb n vs ls := by
  have hs := (World.ownsRow.stored h.row t v).1
  have e : vs.set t v = vs := by
    apply List.ext_getElem?
    intro i
    by_cases hi : t = i
    · subst hi
      rw [List.getElem?_set_self (List.getElem?_eq_some_iff.1 hv).1, hv]
    · rw [List.getElem?_set_ne hi]
  rw [e] at hs
  refine ⟨h.vl, h.ll, hs, fun t' v' l' hv' hl' => ?_, h.apart⟩
  have h1 := h.own t' v' l' hv' hl'
  exact ownsRow_setCell_other h1 (a := ⟨gb, t, none⟩) (by
    intro e
    have := (h1.lt _ e).1
    simp only at this
    omega) v

/-- what of the ways into b has been gone up -/
def UpTo (o : List Nat) (par : Nat → Option Nat) (b : Nat) (l : List Nat) (j : Nat) (P : Nat → Bool) : Prop := ∀ a, P a = true ↔ ∃ (i p : Nat), i < j ∧ l[i]? = some p ∧ p ∈ o ∧ Seg par b p a

theorem UpTo.start (o : List Nat) (par : Nat → Option Nat) (b : Nat) (l : List Nat) : UpTo o par b l 0 (fun _ => false) := fun a => ⟨(fun h => by cases h), fun ⟨i, p, h, _⟩ => by omega⟩

theorem UpTo.skip {o : List Nat} {par : Nat → Option Nat} {b j p : Nat} {l : List Nat} {P : Nat → Bool} (h : UpTo o par b l j P) (hp : l[j]? = some p) (hn : p ∉ o) : UpTo o par b l (j + 1) P := by
  intro a
  rw [h a]
  constructor
  · rintro ⟨i, q, h1, h2⟩; exact ⟨i, q, by omega, h2⟩
  · rintro ⟨i, q, h1, h2, h3, h4⟩
    by_cases e : i = j
    · subst e; rw [hp] at h2; cases h2; exact absurd h3 hn
    · exact ⟨i, q, by omega, h2, h3, h4⟩

theorem UpTo.step {o : List Nat} {par : Nat → Option Nat} {b j p : Nat} {l : List Nat} {P P' : Nat → Bool} (h : UpTo o par b l j P) (hp : l[j]? = some p) (hm : p ∈ o) (hP : ∀ a, P' a = true ↔ P a = true ∨ Seg par b p a) : UpTo o par b l (j + 1) P' := by
  intro a
  rw [hP a, h a]
  constructor
  · rintro (⟨i, q, h1, h2⟩ | h1)
    · exact ⟨i, q, by omega, h2⟩
    · exact ⟨j, p, by omega, hp, hm, h1⟩
  · rintro ⟨i, q, h1, h2, h3, h4⟩
    by_cases e : i = j
    · subst e; rw [hp] at h2; cases h2; exact .inr h4
    · exact .inl ⟨i, q, by omega, h2, h3, h4⟩

theorem UpTo.all {bs : List BlockM} {o : List Nat} {pl : Nat → Nat} {par : Nat → Option Nat} {b : Nat} {P : Nat → Bool} {F : Nat → Nat → Bool} (hK : TreeOk bs o pl par) (hD : Done (succM bs) o pl par) (hF : ∀ a b, F a b = true ↔ FrontP bs o a b) (h : UpTo o par b (predsTo bs bs.length b) (predsTo bs bs.length b).length P) (a : Nat) : P a = F a b := by
  rw [Bool.eq_iff_iff, h a, hF a b, front_seg hK.ord hD]
  constructor
  · rintro ⟨i, p, _, h2, h3, h4⟩
    exact ⟨p, h3, (mem_preds.1 (List.mem_of_getElem? h2)).2, h4⟩
  · rintro ⟨p, h1, h2, h3⟩
    obtain ⟨i, hi⟩ := List.getElem?_of_mem (mem_preds.2 ⟨hK.range p h1, h2⟩)
    exact ⟨i, p, (List.getElem?_eq_some_iff.1 hi).1, hi, h1, h3⟩

def mUp (pl : Nat → Nat) (z : Int) : Nat := if z < 0 then 0 else pl z.toNat + 1
theorem mUp_nat (pl : Nat → Nat) (a : Nat) : mUp pl (a : Int) = pl a + 1 := by unfold mUp; rw [if_neg (by omega), Int.toNat_natCast]
theorem mUp_top {o : List Nat} {pl : Nat → Nat} {par : Nat → Option Nat} (T : Tree o pl par) (a : Nat) : mUp pl (topI (par a)) < mUp pl (a : Int) := by
  rw [mUp_nat]
  cases h : par a with
  | none => unfold mUp topI; rw [if_pos (by decide)]; omega
  | some d =>
    have := (T.up a d h).2.2.1
    simp only [topI]
    rw [mUp_nat]
    omega

def FrontsPost (n : Nat) (F : Nat → Nat → Bool) (w : World) (e : Ending) (w' : World) : Prop :=
  ∃ (g : Nat) (vs : List Value), e = .returned (.slice (some ⟨g, 0, none⟩) n n) ∧ Lists w' w.heap.size g n vs (frontRows n F n (fun _ => false)) ∧ Below w.heap.size w w'

set_option maxRecDepth 100000 in
set_option maxHeartbeats 4000000 in
theorem frontiers_any (bs : List BlockM) (o : List Nat) (pl : Nat → Nat) (par : Nat → Option Nat) (B gp go capo gl gi : Nat) (pvs : List Value) (F : Nat → Nat → Bool) (w : World) (hT : TreeAt w B bs o pl par gp pvs go capo gl gi) (hK : TreeOk bs o pl par) (hD : Done (succM bs) o pl par) (hF : ∀ a b, F a b = true ↔ FrontP bs o a b) :
    Calls Try.prog 63 #[.agg #[.slice (some ⟨gp, 0, none⟩) bs.length bs.length, .slice (some ⟨go, 0, none⟩) o.length capo, .slice (some ⟨gl, 0, none⟩) bs.length bs.length, .slice (some ⟨gi, 0, none⟩) bs.length bs.length]] w (FrontsPost bs.length F w) := by
  have HK := hideI hK
  have HD := hideI hD
  have HF := hideI hF
  have HT := hideI hT
  have hn5 := hK.n5
  obtain ⟨i0, hix, hz0, hz1, hz2⟩ := info_parts ints_info
  clear hT hK hD hF
  go_enter Try.func63, Try.ntmps63
  go_wp2_with (first
    | (at_make; go_must (refine wpList_make_full _ rfl _ _ 28 rfl (w.heap.size + 1) 22 i0 (.slice none 0 0) 1 Try.underlying28 hix hz0 hz1 .i64 .i64 _ _ bs.length rfl rfl rfl rfl (by rw [hz2]; omega) (by unfold maxLen; omega) (by simp) ?_); intro w1 hown1 hg1; rw [World.size_alloc] at hown1; go_must (have HL1 := hideI (Lists.made hown1); have HXW := hideI ((hg1.block w.heap.size (by simp) (by simp)).trans (heap_alloc_new w _)); have hgb := row_cells HXW.out rfl; have HB0 : Hid (Below w.heap.size w w1) := ((Below.refl _ _).alloc (Nat.le_refl _) _).grown hg1 (by simp) (by simp); clear hown1 hg1; have q0 := hgb 0; clear hgb)))
  clear hix hz0 hz1 hz2 q0
  rw [← frontRows_zero (n := bs.length) (F := F)] at HL1
  have hsw1 : w.heap.size < w1.heap.size := lt_of_heap HXW.out
  go_loopw [17] (fun u wr => ∃ (b : Nat) (vs : List Value), b ≤ bs.length ∧ u = .int .i64 b ∧ Hid (Lists wr (w.heap.size + 1) (w.heap.size + 1) bs.length vs (frontRows bs.length F b (fun _ => false))) ∧ Hid (Below (w.heap.size + 1) w1 wr)) (fun u _ => bs.length - (intOf u).toNat)
  case atStart => exact ⟨0, _, Nat.zero_le _, rfl, HL1, hideI (Below.refl _ _)⟩
  case round =>
    obtain ⟨b, vs, hb, rfl, HL, HBr⟩ := hrel
    by_cases hlt : b < bs.length
    · have HTr := hideI (HT.out.kept (HB0.out.trans (HBr.out.mono (Nat.le_succ _))))
      have hb0 : Below w.heap.size w wr := HB0.out.trans (HBr.out.mono (Nat.le_succ _))
      obtain ⟨v, hc0, hown⟩ := HT.out.flow.list hlt
      have hc := (hb0.cell (p := ⟨gp, b, none⟩) HT.out.flow.preds.lt.2).trans hc0
      obtain ⟨l, hl⟩ : ∃ l, l = predsTo bs bs.length b := ⟨_, rfl⟩
      rw [← hl] at hown
      have hll : l.length ≤ 512 := by rw [hl]; exact Nat.le_trans (predsTo_len _ _ _) hn5
      have HLL := hideI hl
      obtain ⟨PA, pc2, e1, _, hpx⟩ := nat_ints hown (by omega)
      rw [List.length_map] at e1 hpx
      subst e1
      have HPX := hideI hpx
      have hx := row_cells HXW.out (HBr.out.block _ (Nat.lt_succ_self _))
      have q0 := hx 0
      clear hx hl hown hpx hc0 hb0
      go_wp2
      clear q0 hc
      go_loopw [27] (fun u wr => ∃ (j : Nat) (vs : List Value) (P : Nat → Bool), j ≤ l.length ∧ u = .int .i64 j ∧ Hid (UpTo o par b l j P) ∧ Hid (Lists wr (w.heap.size + 1) (w.heap.size + 1) bs.length vs (frontRows bs.length F b P)) ∧ Hid (Below (w.heap.size + 1) w1 wr)) (fun u _ => l.length - (intOf u).toNat)
      case atStart => exact ⟨0, vs, _, Nat.zero_le _, rfl, hideI (UpTo.start _ _ _ _), HL, HBr⟩
      case round =>
        clear HL HBr
        obtain ⟨j, vs, P, hj, rfl, HU, HL, HBr⟩ := hrel
        by_cases hltj : j < l.length
        · obtain ⟨p, hp⟩ : ∃ p, l[j]? = some p := ⟨_, List.getElem?_eq_getElem hltj⟩
          have hpm := mem_preds.1 (by have := List.mem_of_getElem? hp; rwa [HLL.out] at this)
          have hpl := hpm.1
          have HPS := hideI hpm.2
          have HTr := hideI (HT.out.kept (HB0.out.trans (HBr.out.mono (Nat.le_succ _))))
          have hsz : w1.heap.size ≤ wr.heap.size := HBr.out.size
          have hBW : B ≤ wr.heap.size := Nat.le_trans HTr.out.lt.1 (Nat.le_of_lt HTr.out.lt.2)
          obtain ⟨pb, po, rfl, hpb, d0⟩ := HPX.out j hltj
          rw [List.getElem?_map, hp] at d0
          simp only [Option.map_some, Option.getD_some] at d0
          have d1 := ((HB0.out.trans (HBr.out.mono (Nat.le_succ _))).cell (p := ⟨pb, po + j, none⟩) hpb).trans d0
          have hx := row_cells HXW.out (HBr.out.block _ (Nat.lt_succ_self _))
          have q0 := hx 0
          have q1 := hx 1
          have q2 := hx 2
          have HP := hideI hp
          clear hx hp hpm d0
          by_cases hpo : p ∈ o
          · have HPO := hideI hpo
            have HPD : Hid (decide (p ∈ o) = true) := decide_eq_true hpo
            clear hpo
            go_wp2_with (go_at_call 64; go_must (refine (comeTo_any bs o pl B gp go capo gl p pvs _ HTr.out.flow hBW hpl hn5).mono ?_); rw [HPD.out]; rintro e w3 ⟨rfl, hb3⟩; have HL3 := hideI (HL.out.kept hb3); have HB3 : Hid (Below (w.heap.size + 1) w1 w3) := HBr.out.trans (hb3.mono (Nat.le_trans hsw1 hsz)); clear hb3 q0 q1 q2 d1)
            go_loopw [7] (fun u wr => ∃ (cur : Option Nat) (vs : List Value) (P' : Nat → Bool), u = .int .i64 (topI cur) ∧ Hid (Climb bs o par b p P P' cur) ∧ Hid (Lists wr (w.heap.size + 1) (w.heap.size + 1) bs.length vs (frontRows bs.length F b P')) ∧ Hid (Below (w.heap.size + 1) w1 wr)) (fun u _ => mUp pl (intOf u))
            case atStart => exact ⟨some p, vs, P, rfl, hideI (Climb.start HK.out.ord HD.out HPO.out HPS.out), HL3, HB3⟩
            case round =>
              clear HL HBr HL3 HB3 HTr
              obtain ⟨cur, vs, P', rfl, HC, HL, HBr⟩ := hrel
              have HTr := hideI (HT.out.kept (HB0.out.trans (HBr.out.mono (Nat.le_succ _))))
              have c1 := HTr.out.top hlt
              have hx := row_cells HXW.out (HBr.out.block _ (Nat.lt_succ_self _))
              have q3 := hx 3
              clear hx
              cases cur with
              | none =>
                have hpn := HC.out.not_none
                have HSTOP := hideI (HC.out.stop hpn.symm)
                rw [hpn] at c1
                simp only [topI] at c1 ⊢
                clear hpn
                go_wp2
                go_roundw
                case rel => exact ⟨j + 1, vs, P', by omega, by go_num, hideI (HU.out.step HP.out HPO.out HSTOP.out), HL, HBr⟩
                case measure => simp [intOf]; omega
              | some a =>
                simp only [topI]
                by_cases hpa : par b = some a
                · have HSTOP := hideI (HC.out.stop hpa.symm)
                  rw [hpa] at c1
                  simp only [topI] at c1
                  have haa : ((a : Int) != (a : Int)) = false := by simp
                  clear hpa
                  go_wp2
                  go_roundw
                  case rel => exact ⟨j + 1, vs, P', by omega, by go_num, hideI (HU.out.step HP.out HPO.out HSTOP.out), HL, HBr⟩
                  case measure => simp [intOf]; omega
                · obtain ⟨T, hTT⟩ : ∃ T, T = topI (par b) := ⟨_, rfl⟩
                  rw [← hTT] at c1
                  have hne : ((a : Int) != T) = true := by
                    rw [bne_iff_ne, hTT]
                    intro e
                    cases hb : par b with
                    | none => rw [hb] at e; simp only [topI] at e; omega
                    | some d => rw [hb] at e hpa; simp only [topI] at e; exact hpa (by congr 1; omega)
                  have HSTEP := hideI (HC.out.step HD.out hpa)
                  have HMU := hideI (mUp_top HD.out.tree a)
                  have hal := HK.out.range a (HD.out.tree.anc_mem HK.out.ord (HC.out.here a rfl).1 (HD.out.grown p HPO.out))
                  have c2 := HTr.out.top hal
                  obtain ⟨va, hva⟩ : ∃ va, vs[a]? = some va := ⟨_, List.getElem?_eq_getElem (by rw [HL.out.vl]; exact hal)⟩
                  have hla := frontRows_at (F := F) (b := b) (P := P') hal
                  have c3 : wr.cell? ⟨w.heap.size + 1, a, none⟩ = some va := by rw [World.ownsRow.cellAt HL.out.row a (by omega)]; exact hva
                  have c4 : wr.frozen? ⟨w.heap.size + 1, a, none⟩ = false := World.ownsRow.frozenAt HL.out.row a
                  have HVA := hideI hva
                  have HLA := hideI hla
                  have HOA := hideI (HL.out.own a va _ hva hla)
                  have hlen : (frontRow F b P' a).length ≤ 1000 := by have := frontRow_len (F := F) (b := b) (P := P') (a := a); omega
                  have hgi : gi < w.heap.size := HT.out.lt.2
                  have hwr : w.heap.size + 1 < wr.heap.size := HL.out.lt.2
                  clear hpa hTT hva hla
                  cases hPa : P' a with
                  | true =>
                    obtain ⟨l0, hl0⟩ := frontRow_yes (F := F) (b := b) (a := a) hPa
                    have HL2 := hideI (HL.out.restore HVA.out)
                    have HSK : Hid (frontRows bs.length F b (andAlso P' a) = frontRows bs.length F b P') := frontRows_skip hPa
                    have HOA2 : Hid (wr.ownsRow (w.heap.size + 1 + 1) 3 1 va (l0 ++ [b]).length (natInts (l0 ++ [b]))) := by have := HOA.out; rwa [hl0] at this
                    have hl0l : l0.length ≤ 1000 := by rw [hl0, List.length_append] at hlen; omega
                    obtain ⟨ga, ca, rfl⟩ : ∃ ga ca, va = .slice (some ⟨ga, 0, none⟩) (l0.length + 1) ca := by
                      rcases HOA2.out.2 with ⟨_, h2⟩ | ⟨ga, ca, _, h2, _⟩
                      · simp at h2
                      · exact ⟨ga, ca, by simpa using h2⟩
                    clear hPa hl0 hlen
                    go_wp2_with (go_at_call 85; go_must (refine (add_old l0 b _ _ _ HOA2.out hl0l).mono ?_); rintro e w4 ⟨rfl, rfl⟩)
                    go_roundw
                    case rel => exact ⟨par a, vs, _, rfl, HSTEP, by rw [HSK.out]; exact HL2, hideI (HBr.out.setCell (Nat.le_refl _) _)⟩
                    case measure => simpa [intOf] using HMU.out
                  | false =>
                    have HPA : Hid (P' a = false) := hPa
                    have hnb := frontRow_no (F := F) (b := b) (a := a) hPa
                    clear hPa
                    go_wp2_with (go_at_call 85; go_must (refine (add_new _ b _ va _ HOA.out hlen hnb hwr).mono ?_); rintro e w4 ⟨g', cap', ob, rfl, hown4, hg4, hor4⟩; have HPU := hideI (HL.out.push HVA.out HLA.out hown4 hg4 hor4); have HBU := hideI (HL.out.pushed (u := .slice (some ⟨g', 0, none⟩) ((frontRow F b P' a).length + 1) cap') HVA.out HLA.out hg4 HBr.out (Nat.le_refl _)); obtain ⟨k3, k4⟩ := HL.out.held HVA.out HLA.out hg4; have hbel : Below (w.heap.size + 1) wr w4 := ((Below.refl _ wr).alloc (Nat.le_of_lt hwr) ob).grown hg4 (by simp; omega) (fun k hk => by have := (HOA.out.lt k hk).1; omega); have k2 := (hbel.cell (p := ⟨gi, a, none⟩) (by simp; omega)).trans c2; have hx4 := row_cells HXW.out ((HBr.out.trans hbel).block _ (Nat.lt_succ_self _)); have r3 := hx4 3; clear hown4 hg4 hor4 c3 c4 c2 q3 hx4 hbel)
                    go_roundw
                    case rel => exact ⟨par a, _, _, rfl, HSTEP, by rw [← frontRows_push HPA.out hal]; exact HPU, HBU⟩
                    case measure => simpa [intOf] using HMU.out
          · have HPD : Hid (decide (p ∈ o) = false) := decide_eq_false hpo
            have HPN := hideI hpo
            clear hpo
            go_wp2_with (go_at_call 64; go_must (refine (comeTo_any bs o pl B gp go capo gl p pvs _ HTr.out.flow hBW hpl hn5).mono ?_); rw [HPD.out]; rintro e w3 ⟨rfl, hb3⟩; have HL3 := hideI (HL.out.kept hb3); have HB3 : Hid (Below (w.heap.size + 1) w1 w3) := HBr.out.trans (hb3.mono (Nat.le_trans hsw1 hsz)); clear hb3 q0 q1 q2 d1)
            go_roundw
            case rel => exact ⟨j + 1, vs, P, by omega, by go_num, hideI (HU.out.skip HP.out HPN.out), HL3, HB3⟩
            case measure => simp [intOf]; omega
        · have HALL : Hid (∀ a, P a = F a b) := by
            have h1 := HU.out
            rw [show j = l.length by omega, HLL.out] at h1
            exact h1.all HK.out HD.out HF.out
          have HE : Hid (frontRows bs.length F b P = frontRows bs.length F (b + 1) (fun _ => false)) := frontRows_next (fun a _ => HALL.out a)
          rw [HE.out] at HL
          go_wp2
          go_roundw
          case rel => exact ⟨b + 1, vs, by omega, by go_num, HL, HBr⟩
          case measure => simp [intOf]; omega
    · have hbn : b = bs.length := by omega
      have HBN := hideI hbn
      rw [hbn] at HL
      clear hbn
      go_wp2
      go_ret
      exact ⟨_, vs, rfl, HL.out.mono (by omega), HB0.out.trans (HBr.out.mono (by omega))⟩

end Go.Proofs.Ytclbhbnidodmdaa

namespace Go.Proofs.Ytclbhbnidodmdaa
open Go.RowKit Go.Maps

section
variable (f : FuncM) (B : Nat) (pv bv : Value) (w : World) (hpv : Ints w B pv f.params) (hbv : BlocksR w B bv f.blocks) (hB : B ≤ w.heap.size) (hid : ∀ u ∈ usesM f, I64 u.1)
include hpv hbv hB hid

set_option maxRecDepth 100000 in
set_option maxHeartbeats 1000000 in
theorem domFronts_no (h0 : (lookM f).1 ≠ 0) :
    Calls Try.prog 35 #[.agg #[pv, .int .i64 f.arrays, .int .i64 f.cells, bv]] w fun e w' => e = .returned (.tuple #[.slice none 0 0, .int .i64 (lookM f).1]) ∧ Below w.heap.size w w' := by
  have HP := hideI hpv
  have HBL := hideI hbv
  have HID := hideI hid
  obtain ⟨P, pc, rfl, _⟩ := hpv
  obtain ⟨A, c, rfl, hbm, _⟩ := hbv
  have HB0 : Hid (Below w.heap.size w (w.alloc (.cells #[.slice P f.params.length pc, .int .i64 f.arrays, .int .i64 f.cells, .slice A f.blocks.length c] 25))) := (Below.refl _ w).alloc (Nat.le_refl _) _
  have HT := hideI (treeOf_any f B _ _ (w.alloc (.cells #[.slice P f.params.length pc, .int .i64 f.arrays, .int .i64 f.cells, .slice A f.blocks.length c] 25)) (HP.out.keeps (Keeps.of_below (HB0.out.mono hB))) (HBL.out.keeps (Keeps.of_below (HB0.out.mono hB))) (by simp; omega) HID.out)
  have H0 := hideI h0
  have hb : ((lookM f).1 != 0) = true := by simpa using h0
  clear hid h0
  go_enter Try.func35, Try.ntmps35
  go_wp2_with (go_at_call 59; go_must (refine HT.out.mono ?_); rintro e w1 (⟨_, rfl, hb1⟩ | ⟨hbad, _⟩); rotate_left; (exact absurd hbad H0.out); have HB1 := hideI (HB0.out.trans (hb1.mono (by simp))); clear hb1)
  go_ret2
  exact ⟨rfl, HB1.out.alloc HB1.out.size _⟩

def FrontiersPost (f : FuncM) (F : Nat → Nat → Bool) (w : World) (e : Ending) (w' : World) : Prop :=
  ∃ (g : Nat) (vs : List Value), e = .returned (.tuple #[.slice (some ⟨g, 0, none⟩) f.blocks.length f.blocks.length, .int .i64 0]) ∧ Lists w' w.heap.size g f.blocks.length vs (frontRows f.blocks.length F f.blocks.length (fun _ => false)) ∧ Below w.heap.size w w'

set_option maxRecDepth 100000 in
set_option maxHeartbeats 1000000 in
theorem domFronts_yes (o : List Nat) (F : Nat → Nat → Bool) (h0 : (lookM f).1 = 0) (ho : OrderIs f.blocks o) (hF : ∀ a b, F a b = true ↔ FrontP f.blocks o a b) :
    Calls Try.prog 35 #[.agg #[pv, .int .i64 f.arrays, .int .i64 f.cells, bv]] w (FrontiersPost f F w) := by
  have HP := hideI hpv
  have HBL := hideI hbv
  have HID := hideI hid
  have HO := hideI ho
  have HF := hideI hF
  obtain ⟨P, pc, rfl, _⟩ := hpv
  obtain ⟨A, c, rfl, hbm, _⟩ := hbv
  have HB0 : Hid (Below w.heap.size w (w.alloc (.cells #[.slice P f.params.length pc, .int .i64 f.arrays, .int .i64 f.cells, .slice A f.blocks.length c] 25))) := (Below.refl _ w).alloc (Nat.le_refl _) _
  have HT := hideI (treeOf_any f B _ _ (w.alloc (.cells #[.slice P f.params.length pc, .int .i64 f.arrays, .int .i64 f.cells, .slice A f.blocks.length c] 25)) (HP.out.keeps (Keeps.of_below (HB0.out.mono hB))) (HBL.out.keeps (Keeps.of_below (HB0.out.mono hB))) (by simp; omega) HID.out)
  have H0 := hideI h0
  clear hid h0 ho hF
  go_enter Try.func35, Try.ntmps35
  go_wp2_with (first
    | (go_at_call 59; go_must (refine HT.out.mono ?_); rintro e w1 (⟨hbad, _⟩ | ⟨_, o1, pl, par, B1, gp, vs, go, capo, gl, gi, rfl, hfs, hdone, htree, hlow, hb1⟩); (exact absurd H0.out hbad); (obtain rfl := HO.out.one hfs.order); have HFS := hideI hfs; have HDONE := hideI hdone; have HTREE := hideI htree; have HB1 := hideI (HB0.out.trans (hb1.mono (by simp))); clear hfs hdone htree hb1 hlow)
    | (go_at_call 63; go_must (refine (frontiers_any f.blocks o pl par B1 gp go capo gl gi vs F _ (HTREE.out.kept ((Below.refl _ w1).alloc (Nat.le_refl _) _)) (HFS.out.ok HDONE.out) HDONE.out HF.out).mono ?_); rintro e w2 ⟨g, vs2, rfl, hls, hb2⟩; have HLS := hideI hls; have HB2 := hideI ((HB1.out.alloc HB1.out.size _).trans (hb2.mono (by have := HB1.out.size; simp; omega))); have hs2 : w.heap.size ≤ w1.heap.size := HB1.out.size; clear hls hb2))
  go_ret2
  exact ⟨g, vs2, rfl, HLS.out.mono (by simp; omega), HB2.out⟩
end

end Go.Proofs.Ytclbhbnidodmdaa
