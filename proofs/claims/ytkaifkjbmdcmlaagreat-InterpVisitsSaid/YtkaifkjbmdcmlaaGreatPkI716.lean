/- What I7 rests on, part 16: TwoRuns, TwoSteps. -/
import Derived.Test.YtkaifkjbmdcmlaaGreatPkI715

namespace Go.Proofs.YtkaifkjbmdcmlaaGreat
open Go.RowKit Go.Maps

/-- where the region's operations stand, and where their values lie: calls, makings, stores -/
structure TwoP where
  c : Bool → Nat
  s : Bool → Nat
  a : Bool → Nat
  t : Bool → Nat
  p : Bool → Nat
  known : List (Nat × Nat)

/-- no two are one -/
def TwoP.okB (q : TwoP) : Bool :=
  decide ([q.c false, q.c true, q.a false, q.a true, q.p false, q.p true].Nodup) && decide ([q.s false, q.s true, q.t false, q.t true].Nodup) &&
  q.known.all fun x => q.known.all (fun y => x.1 != y.1 || x == y) && !([q.c false, q.c true, q.a false, q.a true, q.p false, q.p true].contains x.1) && !([q.s false, q.s true, q.t false, q.t true].contains x.2)

structure TwoP.Ok (q : TwoP) : Prop where
  cc : q.c false ≠ q.c true
  aa : q.a false ≠ q.a true
  pp : q.p false ≠ q.p true
  ca : ∀ j k, q.c j ≠ q.a k
  cp : ∀ j k, q.c j ≠ q.p k
  ap : ∀ j k, q.a j ≠ q.p k
  ss : q.s false ≠ q.s true
  tt : q.t false ≠ q.t true
  st : ∀ j k, q.s j ≠ q.t k
  one : ∀ x ∈ q.known, ∀ y ∈ q.known, x.1 = y.1 → x = y
  kc : ∀ x ∈ q.known, ∀ j, x.1 ≠ q.c j ∧ x.1 ≠ q.a j ∧ x.1 ≠ q.p j ∧ x.2 ≠ q.s j ∧ x.2 ≠ q.t j

theorem TwoP.ok_of {q : TwoP} (h : q.okB = true) : q.Ok := by
  unfold TwoP.okB at h
  simp only [Bool.and_eq_true, decide_eq_true_eq, List.all_eq_true, Bool.not_eq_true', Bool.or_eq_true, bne_iff_ne, beq_iff_eq, List.nodup_cons, List.mem_cons, List.not_mem_nil, or_false, not_or, List.contains_eq_mem, decide_eq_false_iff_not] at h
  obtain ⟨⟨⟨⟨c1, c2, c3, c4, c5⟩, ⟨d2, d3, d4, d5⟩, ⟨e3, e4, e5⟩, ⟨f4, f5⟩, g5, _⟩, ⟨s1, s2, s3⟩, ⟨r2, r3⟩, q3, _⟩, hk⟩ := h
  refine ⟨c1, e3, g5, fun j k => ?_, fun j k => ?_, fun j k => ?_, s1, q3, fun j k => ?_, fun x hx y hy he => ?_, fun x hx j => ?_⟩
  · cases j <;> cases k <;> assumption
  · cases j <;> cases k <;> assumption
  · cases j <;> cases k <;> assumption
  · cases j <;> cases k <;> assumption
  · obtain ⟨⟨h1, _⟩, _⟩ := hk x hx
    rcases h1 y hy with h1 | h1
    · exact absurd he h1
    · exact h1
  · obtain ⟨⟨_, h2⟩, h3⟩ := hk x hx
    obtain ⟨a1, a2, a3, a4, a5, a6⟩ := h2
    obtain ⟨b1, b2, b3, b4⟩ := h3
    cases j <;> exact ⟨by assumption, by assumption, by assumption, by assumption, by assumption⟩

/-- between two operations -/
structure TwoF (q : TwoP) (kv : Nat → Value) (RR : Bool → StM → EndM → Prop) (W2 : World) (L : Nat → Bool) (e : Nat → Value) (w : World) : Prop where
  below : Below W2.heap.size W2 w
  known : ∀ x ∈ q.known, L x.1 = true → e x.2 = kv x.2
  run : ∀ j, L (q.c j) = true → ∃ s en lo hi, RR j s en ∧ TraceIn lo hi w (e (q.s j)) s en ∧ hi ≤ w.heap.size ∧ ∀ k g, L (q.a k) = true → e (q.t k) = .pointer (some ⟨g, 0, none⟩) → g < lo ∨ hi ≤ g
  made : ∀ k, L (q.a k) = true → ∃ g x0 x1 x2 x3 x4 x5 x6 x7, e (q.t k) = .pointer (some ⟨g, 0, none⟩) ∧ W2.heap.size ≤ g ∧ g < w.heap.size ∧ w.heap[g]? = some (.cells #[x0, x1, x2, x3, x4, x5, x6, x7] 34 (0, 0))
  ne : L (q.a false) = true → L (q.a true) = true → e (q.t false) ≠ e (q.t true)
  put : ∀ k, L (q.p k) = true → L (q.a k) = true ∧ L (q.c k) = true ∧ ∃ g cs, e (q.t k) = .pointer (some ⟨g, 0, none⟩) ∧ e (q.s k) = .agg cs ∧ w.heap[g]? = some (.cells cs 34 (0, 0))

section
variable {q : TwoP} {kv : Nat → Value} {RR : Bool → StM → EndM → Prop} {W2 : World} {L : Nat → Bool} {e : Nat → Value} {w w' : World}

theorem TwoF.start (W2 : World) : TwoF q kv RR W2 (fun _ => false) e W2.drew :=
  ⟨(Below.refl _ _).drew, (fun _ _ h => absurd h (by decide)), (fun _ h => absurd h (by decide)), (fun _ h => absurd h (by decide)), (fun h => absurd h (by decide)), (fun _ h => absurd h (by decide))⟩

theorem updB_of {L : Nat → Bool} {i x : Nat} (h : updB L i x = true) (hn : i ≠ x) : L x = true := by
  unfold updB at h
  rwa [if_neg hn] at h

theorem updE_other (e : Nat → Value) {d x : Nat} (h : d ≠ x) (v : Value) : updE e (some d) v x = e x := by
  unfold updE
  rw [if_neg (by simpa using h)]

theorem updE_same (e : Nat → Value) (d : Nat) (v : Value) : updE e (some d) v d = v := by
  unfold updE
  rw [if_pos rfl]

/-- the world grows -/
theorem TwoF.grow (h : TwoF q kv RR W2 L e w) (hb : Below w.heap.size w w') : TwoF q kv RR W2 L e w' := by
  refine ⟨h.below.trans (hb.mono h.below.size), h.known, fun j hj => ?_, fun k hk => ?_, h.ne, fun k hk => ?_⟩
  · obtain ⟨s, en, lo, hi, h1, h2, h3, h4⟩ := h.run j hj
    exact ⟨s, en, lo, hi, h1, h2.kept fun b _ hb2 => hb.block b (by omega), Nat.le_trans h3 hb.size, h4⟩
  · obtain ⟨g, x0, x1, x2, x3, x4, x5, x6, x7, h1, h2, h3, h4⟩ := h.made k hk
    exact ⟨g, x0, x1, x2, x3, x4, x5, x6, x7, h1, h2, Nat.lt_of_lt_of_le h3 hb.size, (hb.block g h3).trans h4⟩
  · obtain ⟨h1, h2, g, cs, h3, h4, h5⟩ := h.put k hk
    obtain ⟨g2, _, _, _, _, _, _, _, _, e2, _, h6, _⟩ := h.made k h1
    rw [h3] at e2
    have : g = g2 := by simpa using e2
    subst this
    exact ⟨h1, h2, g, cs, h3, h4, (hb.block g h6).trans h5⟩

/-- an operation whose value is known -/
theorem TwoF.knows (h : TwoF q kv RR W2 L e w) (ok : q.Ok) {i d : Nat} (hm : (i, d) ∈ q.known) : TwoF q kv RR W2 (updB L i) (updE e (some d) (kv d)) w := by
  have hk := ok.kc _ hm
  refine ⟨h.below, fun x hx hL => ?_, fun j hj => ?_, fun k hk2 => ?_, fun h1 h2 => ?_, fun k hk2 => ?_⟩
  · by_cases hd : d = x.2
    · rw [hd, updE_same]
    · rw [updE_other _ hd]
      refine h.known x hx (updB_of hL fun hi => hd ?_)
      rw [← ok.one _ hm _ hx hi]
  · rw [updE_other _ (hk j).2.2.2.1]
    obtain ⟨s, en, lo, hi, h1, h2, h3, h4⟩ := h.run j (updB_of hj (hk j).1)
    refine ⟨s, en, lo, hi, h1, h2, h3, fun k g hL he => h4 k g (updB_of hL (hk k).2.1) ?_⟩
    rwa [updE_other _ (hk k).2.2.2.2] at he
  · rw [updE_other _ (hk k).2.2.2.2]
    exact h.made k (updB_of hk2 (hk k).2.1)
  · rw [updE_other _ (hk false).2.2.2.2, updE_other _ (hk true).2.2.2.2]
    exact h.ne (updB_of h1 (hk false).2.1) (updB_of h2 (hk true).2.1)
  · rw [updE_other _ (hk k).2.2.2.1, updE_other _ (hk k).2.2.2.2]
    obtain ⟨h1, h2, r⟩ := h.put k (updB_of hk2 (hk k).2.2.1)
    refine ⟨?_, ?_, r⟩
    · unfold updB; split <;> simp_all
    · unfold updB; split <;> simp_all

theorem updB_up {L : Nat → Bool} {i x : Nat} (h : L x = true) : updB L i x = true := by
  unfold updB
  split
  · rfl
  · exact h

/-- a run has come back -/
theorem TwoF.ran (h : TwoF q kv RR W2 L e w) (ok : q.Ok) {j : Bool} (hj : L (q.c j) = false) {v : Value} {s : StM} {en : EndM} (hr : RR j s en) (ht : TraceAt w.heap.size w' v s en) (hb : Below w.heap.size w w') : TwoF q kv RR W2 (updB L (q.c j)) (updE e (some (q.s j)) v) w' := by
  have h1 := h.grow hb
  have hcc : ∀ k, k ≠ j → q.c j ≠ q.c k := fun k hk => by
    have := ok.cc
    cases j <;> cases k <;> simp_all
    exact fun h => this h.symm
  have hss : ∀ k, k ≠ j → q.s j ≠ q.s k := fun k hk => by
    have := ok.ss
    cases j <;> cases k <;> simp_all
    exact fun h => this h.symm
  have hL : ∀ {k}, updB L (q.c j) (q.a k) = true → L (q.a k) = true := fun {k} hL => updB_of hL (ok.ca j k)
  have hE : ∀ k, updE e (some (q.s j)) v (q.t k) = e (q.t k) := fun k => updE_other _ (ok.st j k) _
  refine ⟨h1.below, fun x hx hLx => ?_, fun k hk => ?_, fun k hk => ?_, fun h2 h3 => ?_, fun k hk => ?_⟩
  · have := ok.kc x hx j
    rw [updE_other _ (Ne.symm this.2.2.2.1)]
    exact h1.known x hx (updB_of hLx (Ne.symm this.1))
  · by_cases e1 : k = j
    · subst e1
      rw [updE_same]
      refine ⟨s, en, w.heap.size, w'.heap.size, hr, ht.within, Nat.le_refl _, fun k2 g hLa he => .inl ?_⟩
      rw [hE] at he
      obtain ⟨g2, _, _, _, _, _, _, _, _, e2, _, h6, _⟩ := h.made k2 (hL hLa)
      rw [he] at e2
      have : g = g2 := by simpa using e2
      omega
    · rw [updE_other _ (hss k e1)]
      obtain ⟨s2, en2, lo, hi, a1, a2, a3, a4⟩ := h1.run k (updB_of hk (hcc k e1))
      exact ⟨s2, en2, lo, hi, a1, a2, a3, fun k2 g hLa he => a4 k2 g (hL hLa) (by rwa [hE] at he)⟩
  · rw [hE]
    exact h1.made k (hL hk)
  · rw [hE, hE]
    exact h1.ne (hL h2) (hL h3)
  · obtain ⟨a1, a2, g, cs, a3, a4, a5⟩ := h1.put k (updB_of hk (ok.cp j k))
    have hkj : k ≠ j := fun h => by rw [h, hj] at a2; cases a2
    exact ⟨updB_up a1, updB_up a2, g, cs, by rw [hE]; exact a3, by rw [updE_other _ (hss k hkj)]; exact a4, a5⟩

/-- a variable is made -/
theorem TwoF.makes (h : TwoF q kv RR W2 L e w) (ok : q.Ok) {j : Bool} (hj : L (q.a j) = false) (x0 x1 x2 x3 x4 x5 x6 x7 : Value) : TwoF q kv RR W2 (updB L (q.a j)) (updE e (some (q.t j)) (.pointer (some ⟨w.heap.size, 0, none⟩))) (w.alloc (.cells #[x0, x1, x2, x3, x4, x5, x6, x7] 34)) := by
  have h1 := h.grow ((Below.refl w.heap.size w).alloc (Nat.le_refl _) (.cells #[x0, x1, x2, x3, x4, x5, x6, x7] 34))
  have haa : ∀ k, k ≠ j → q.a j ≠ q.a k := fun k hk => by
    have := ok.aa
    cases j <;> cases k <;> simp_all
    exact fun h => this h.symm
  have htt : ∀ k, k ≠ j → q.t j ≠ q.t k := fun k hk => by
    have := ok.tt
    cases j <;> cases k <;> simp_all
    exact fun h => this h.symm
  have hS : ∀ k v, updE e (some (q.t j)) v (q.s k) = e (q.s k) := fun k v => updE_other _ (Ne.symm (ok.st k j)) _
  have hold : ∀ k, L (q.a k) = true → e (q.t k) ≠ .pointer (some ⟨w.heap.size, 0, none⟩) := fun k hk he => by
    obtain ⟨g2, _, _, _, _, _, _, _, _, e2, _, h6, _⟩ := h.made k hk
    rw [he] at e2
    have : w.heap.size = g2 := by injection e2 with e2; injection e2 with e2; injection e2
    omega
  refine ⟨h1.below, fun x hx hLx => ?_, fun k hk => ?_, fun k hk => ?_, fun h2 h3 => ?_, fun k hk => ?_⟩
  · have := ok.kc x hx j
    rw [updE_other _ (Ne.symm this.2.2.2.2)]
    exact h1.known x hx (updB_of hLx (Ne.symm this.2.1))
  · rw [hS]
    have hLc := updB_of hk (Ne.symm (ok.ca k j))
    obtain ⟨s2, en2, lo, hi, a1, a2, a3, a4⟩ := h1.run k hLc
    obtain ⟨_, _, _, hi0, _, _, b3, _⟩ := h.run k hLc
    obtain ⟨s3, en3, lo3, hi3, c1, c2, c3, c4⟩ := h.run k hLc
    refine ⟨s3, en3, lo3, hi3, c1, c2.kept fun b _ hb2 => Below.heap_alloc _ _ _ (by omega), by simp; omega, fun k2 g hLa he => ?_⟩
    by_cases e1 : k2 = j
    · subst e1
      rw [updE_same] at he
      have : w.heap.size = g := by simpa using he
      exact .inr (by omega)
    · rw [updE_other _ (htt k2 e1)] at he
      exact c4 k2 g (updB_of hLa (haa k2 e1)) he
  · by_cases e1 : k = j
    · subst e1
      rw [updE_same]
      exact ⟨w.heap.size, x0, x1, x2, x3, x4, x5, x6, x7, rfl, h.below.size, by simp, heap_alloc_new w _⟩
    · rw [updE_other _ (htt k e1)]
      exact h1.made k (updB_of hk (haa k e1))
  · cases j with
    | false =>
      rw [updE_same, updE_other _ (htt true (by decide))]
      exact fun he => hold true (updB_of h3 (haa true (by decide))) he.symm
    | true =>
      rw [updE_same, updE_other _ (htt false (by decide))]
      exact hold false (updB_of h2 (haa false (by decide)))
  · obtain ⟨a1, a2, g, cs, a3, a4, a5⟩ := h1.put k (updB_of hk (ok.ap j k))
    have hkj : k ≠ j := fun h => by rw [h, hj] at a1; cases a1
    exact ⟨updB_up a1, updB_up a2, g, cs, by rw [updE_other _ (htt k hkj)]; exact a3, by rw [hS]; exact a4, a5⟩

/-- a trace is stored -/
theorem TwoF.stores (h : TwoF q kv RR W2 L e w) (ok : q.Ok) {j : Bool} (hj : L (q.p j) = false) (ha : L (q.a j) = true) (hc : L (q.c j) = true) {g : Nat} {cs : Array Value} {v : Value} (hg : e (q.t j) = .pointer (some ⟨g, 0, none⟩)) (hcs : e (q.s j) = .agg cs)
    (hW : w'.heap[g]? = some (.cells cs 34 (0, 0))) (hW8 : ∃ x0 x1 x2 x3 x4 x5 x6 x7, cs = #[x0, x1, x2, x3, x4, x5, x6, x7]) (ho : ∀ b, b ≠ g → w'.heap[b]? = w.heap[b]?) (hb : Below W2.heap.size w w') (hsz : w'.heap.size = w.heap.size) : TwoF q kv RR W2 (updB L (q.p j)) (updE e none v) w' := by
  have hE : updE e none v = e := funext fun x => by simp [updE]
  have hpp : ∀ k, k ≠ j → q.p j ≠ q.p k := fun k hk => by
    have := ok.pp
    cases j <;> cases k <;> simp_all
    exact fun h => this h.symm
  have hLa : ∀ {k}, updB L (q.p j) (q.a k) = true → L (q.a k) = true := fun {k} hL => updB_of hL (Ne.symm (ok.ap k j))
  have hLc : ∀ {k}, updB L (q.p j) (q.c k) = true → L (q.c k) = true := fun {k} hL => updB_of hL (Ne.symm (ok.cp k j))
  have hother : ∀ k g2, k ≠ j → L (q.a k) = true → e (q.t k) = .pointer (some ⟨g2, 0, none⟩) → g2 ≠ g := fun k g2 hk hLk he hgg => by
    subst hgg
    cases j <;> cases k <;> simp_all
    · exact h.ne ha hLk (by rw [he, hg])
    · exact h.ne hLk ha (by rw [he, hg])
  rw [hE]
  refine ⟨h.below.trans hb, fun x hx hLx => ?_, fun k hk => ?_, fun k hk => ?_, fun h2 h3 => h.ne (hLa h2) (hLa h3), fun k hk => ?_⟩
  · have := ok.kc x hx j
    exact h.known x hx (updB_of hLx (Ne.symm this.2.2.1))
  · obtain ⟨s2, en2, lo, hi, a1, a2, a3, a4⟩ := h.run k (hLc hk)
    have hout := a4 j g ha hg
    exact ⟨s2, en2, lo, hi, a1, a2.kept fun b h1 h2 => ho b (by omega), by omega, fun k2 g2 hL2 he => a4 k2 g2 (hLa hL2) he⟩
  · obtain ⟨g2, y0, y1, y2, y3, y4, y5, y6, y7, b1, b2, b3, b4⟩ := h.made k (hLa hk)
    by_cases e1 : k = j
    · subst e1
      rw [hg] at b1
      have : g = g2 := by simpa using b1
      subst this
      obtain ⟨x0, x1, x2, x3, x4, x5, x6, x7, rfl⟩ := hW8
      exact ⟨g, x0, x1, x2, x3, x4, x5, x6, x7, hg, b2, by omega, hW⟩
    · exact ⟨g2, y0, y1, y2, y3, y4, y5, y6, y7, b1, b2, by omega, (ho g2 (hother k g2 e1 (hLa hk) b1)).trans b4⟩
  · by_cases e1 : k = j
    · subst e1
      exact ⟨updB_up ha, updB_up hc, g, cs, hg, hcs, hW⟩
    · obtain ⟨a1, a2, g2, cs2, a3, a4, a5⟩ := h.put k (updB_of hk (hpp k e1))
      exact ⟨updB_up a1, updB_up a2, g2, cs2, a3, a4, (ho g2 (hother k g2 e1 a1 a3)).trans a5⟩
/-- a run's variable, when all is done -/
theorem TwoF.done (h : TwoF q kv RR W2 L e w) {j : Bool} (hc : L (q.c j) = true) (ha : L (q.a j) = true) (hp : L (q.p j) = true) :
    ∃ g s en lo cs, e (q.t j) = .pointer (some ⟨g, 0, none⟩) ∧ W2.heap.size ≤ g ∧ g < w.heap.size ∧ RR j s en ∧ TraceAt lo w (.agg cs) s en ∧ w.heap[g]? = some (.cells cs 34 (0, 0)) := by
  obtain ⟨s, en, lo, hi, h1, h2, _⟩ := h.run j hc
  obtain ⟨g, _, _, _, _, _, _, _, _, e1, h3, h4, _⟩ := h.made j ha
  obtain ⟨_, _, g2, cs, e2, e3, h5⟩ := h.put j hp
  rw [e1] at e2
  have : g = g2 := by injection e2 with e2; injection e2 with e2; injection e2
  subst this
  rw [e3] at h2
  exact ⟨g, s, en, lo, cs, e1, h3, h4, h1, h2.at, h5⟩
end
end Go.Proofs.YtkaifkjbmdcmlaaGreat

namespace Go.Proofs.YtkaifkjbmdcmlaaGreat
open Go.RowKit Go.Maps

theorem load_func (ev : Operand → Value) (w : World) (b t d : Nat) (p0 p1 p2 p3 : Value) (pos : String) (af : Array Edge) (g) (ty : TypeId) (ha : ev (.tmp t) = .pointer (some ⟨b, 0, none⟩)) (hw : ∀ o, w.cell? ⟨b, o, none⟩ = (#[p0, p1, p2, p3] : Array Value)[o]?) :
   (execOp ev { dst := some d, op := .load 25 (.tmp t), type := ty, pos := pos, after := af, guard := g }).run Tryz.prog w = .ok (.value (.agg #[p0, p1, p2, p3])) w := by
  have h0 := hw 0
  have h1 := hw 1
  have h2 := hw 2
  have h3 := hw 3
  clear hw
  go_simp

theorem alloc_trace (ev : Operand → Value) (w : World) (d : Nat) (pos : String) (af : Array Edge) (g) (ty : TypeId) :
   ∃ x0 x1 x2 x3 x4 x5 x6 x7, (execOp ev { dst := some d, op := .alloc 34, type := ty, pos := pos, after := af, guard := g }).run Tryz.prog w = .ok (.value (.pointer (some ⟨w.heap.size, 0, none⟩))) (w.alloc (.cells #[x0, x1, x2, x3, x4, x5, x6, x7] 34)) := by
  refine ⟨.int .i64 0, .int .i64 0, .int .i64 0, .slice none 0 0, .slice none 0 0, .int .i64 0, .int .i64 0, .slice none 0 0, ?_⟩
  go_simp

theorem call_run (ev : Operand → Value) (w : World) (d t1 t2 t3 : Nat) (fv iv nv : Value) (pos : String) (af : Array Edge) (g) (ty : TypeId) (h1 : ev (.tmp t1) = fv) (h2 : ev (.tmp t2) = iv) (h3 : ev (.tmp t3) = nv) (hf : ev (.func 18) = .func (.func 18) #[] #[]) :
   (execOp ev { dst := some d, op := .call { callee := .value (.func 18), args := #[.tmp t1, .tmp t2, .tmp t3], argTypes := #[25, 28, 3] }, type := ty, pos := pos, after := af, guard := g }).run Tryz.prog w = .ok (.enter 18 #[fv, iv, nv]) w := by
  go_simp

theorem store_trace (ev : Operand → Value) (w : World) (t s b : Nat) (x0 x1 x2 x3 x4 x5 x6 x7 v0 v1 v2 v3 v4 v5 v6 v7 : Value) (n0 n1 n2 n5 n6 : Int) (A3 A4 A7 : Option Addr) (l3 c3 l4 c4 l7 c7 : Nat) (k0 : v0 = .int .i64 n0) (k1 : v1 = .int .i64 n1) (k2 : v2 = .int .i64 n2) (k3 : v3 = .slice A3 l3 c3) (k4 : v4 = .slice A4 l4 c4) (k5 : v5 = .int .i64 n5) (k6 : v6 = .int .i64 n6) (k7 : v7 = .slice A7 l7 c7) (pos : String) (af : Array Edge) (g) (ty : TypeId) (h1 : ev (.tmp t) = .pointer (some ⟨b, 0, none⟩)) (h2 : ev (.tmp s) = .agg #[v0, v1, v2, v3, v4, v5, v6, v7]) (hw : w.heap[b]? = some (.cells #[x0, x1, x2, x3, x4, x5, x6, x7] 34 (0, 0))) :
   (execOp ev { dst := none, op := .store 34 (.tmp t) (.tmp s), type := ty, pos := pos, after := af, guard := g }).run Tryz.prog w = .ok .skip ((((((((w.setCell ⟨b, 0, none⟩ v0).setCell ⟨b, 1, none⟩ v1).setCell ⟨b, 2, none⟩ v2).setCell ⟨b, 3, none⟩ v3).setCell ⟨b, 4, none⟩ v4).setCell ⟨b, 5, none⟩ v5).setCell ⟨b, 6, none⟩ v6).setCell ⟨b, 7, none⟩ v7) := by
  have hx := row_cells hw rfl
  have hz := fun o => frozen_of_row w b o _ _ hw
  have y0 : w.cell? ⟨b, 0, none⟩ = some x0 := hx 0
  have y1 : w.cell? ⟨b, 1, none⟩ = some x1 := hx 1
  have y2 : w.cell? ⟨b, 2, none⟩ = some x2 := hx 2
  have y3 : w.cell? ⟨b, 3, none⟩ = some x3 := hx 3
  have y4 : w.cell? ⟨b, 4, none⟩ = some x4 := hx 4
  have y5 : w.cell? ⟨b, 5, none⟩ = some x5 := hx 5
  have y6 : w.cell? ⟨b, 6, none⟩ = some x6 := hx 6
  have y7 : w.cell? ⟨b, 7, none⟩ = some x7 := hx 7
  have z0 := hz 0
  have z1 := hz 1
  have z2 := hz 2
  have z3 := hz 3
  have z4 := hz 4
  have z5 := hz 5
  have z6 := hz 6
  have z7 := hz 7
  clear hx hz
  subst k0 k1 k2 k3 k4 k5 k6 k7
  go_simp

theorem load_input (ev : Operand → Value) (w : World) (b t d : Nat) (p0 p1 : Value) (pos : String) (af : Array Edge) (g) (ty : TypeId) (ha : ev (.tmp t) = .pointer (some ⟨b, 0, none⟩)) (hw : ∀ o, w.cell? ⟨b, o, none⟩ = (#[p0, p1] : Array Value)[o]?) :
   (execOp ev { dst := some d, op := .load 28 (.tmp t), type := ty, pos := pos, after := af, guard := g }).run Tryz.prog w = .ok (.value (.agg #[p0, p1])) w := by
  have h0 := hw 0
  have h1 := hw 1
  clear hw
  go_simp

/-- so many operations there are -/
def maskB (n : Nat) (L : Nat → Bool) : Nat → Bool := fun i => L i && decide (i < n)

theorem mask_of {n i : Nat} {L : Nat → Bool} (h : L i = true) (hi : i < n) : maskB n L i = true := by
  unfold maskB
  rw [h, decide_eq_true hi]
  rfl

theorem mask_upd {n i : Nat} (hi : i < n) (L : Nat → Bool) : maskB n (updB L i) = updB (maskB n L) i := by
  funext x
  unfold maskB updB
  by_cases h : i = x
  · subst h
    rw [if_pos rfl, if_pos rfl, decide_eq_true hi]
    rfl
  · rw [if_neg h, if_neg h]

theorem mask_congr {n : Nat} {L L' : Nat → Bool} (h : ∀ i, i < n → L i = L' i) : maskB n L = maskB n L' := by
  funext x
  unfold maskB
  by_cases hx : x < n
  · rw [h x hx]
  · rw [decide_eq_false hx, Bool.and_false, Bool.and_false]

/-- these are waited for -/
def awaitsB (af : List Edge) (ks : List Nat) (n : Nat) : Bool := ks.all fun k => decide (k < n) && af.any fun x => Region.binds .any x && x.on == k

theorem awaits_spec {af : List Edge} {ks : List Nat} {n : Nat} (h : awaitsB af ks n = true) : ∀ k ∈ ks, k < n ∧ ∃ x ∈ af, Region.binds .any x = true ∧ x.on = k := by
  intro k hk
  unfold awaitsB at h
  rw [List.all_eq_true] at h
  have := h k hk
  rw [Bool.and_eq_true, decide_eq_true_iff, List.any_eq_true] at this
  obtain ⟨h1, x, hx, h2⟩ := this
  rw [Bool.and_eq_true, beq_iff_eq] at h2
  exact ⟨h1, x, hx, h2⟩

theorem move_run (ev : Operand → Value) (w : World) (x : Operand) (d : Option Nat) (pos : String) (af : Array Edge) (g) (ty : TypeId) :
   (execOp ev { dst := d, op := .move x, type := ty, pos := pos, after := af, guard := g }).run Tryz.prog w = .ok (.value (ev x)) w := by
  go_simp

section
variable {q : TwoP} {kv : Nat → Value} {RR : Bool → StM → EndM → Prop} {W2 : World} {Q : Exit → Act → World → Prop} {ops : Array Oper} {a0 : Act} {ds : List Nat} {n : Nat}

/-- what a region of runs keeps -/
def RunsF (n : Nat) (q : TwoP) (kv : Nat → Value) (RR : Bool → StM → EndM → Prop) (W2 : World) : (Nat → Bool) → (Nat → Value) → World → Prop := fun L e w => TwoF q kv RR W2 (maskB n L) e w

set_option maxRecDepth 100000 in
theorem step_known (ok : q.Ok) {i d : Nat} {o : Oper} (hi : i < n) (hm : (i, d) ∈ q.known) (hd : o.dst = some d) (hg : o.guard = none)
    (hrun : ∀ (a : Act) (w : World), Below W2.heap.size W2 w → (∀ x, x ∉ ds → a.eval (.tmp x) = a0.eval (.tmp x)) → (execOp a.eval o).run Tryz.prog w = .ok (.value (kv d)) w) : StepOk Tryz.prog ops Q a0 ds (RunsF n q kv RR W2) i o := by
  intro L e w a _ _ hF _ hout K hK
  rw [if_pos (by unfold Region.wanted; rw [hg])]
  unfold Oper.wp
  rw [hrun a w hF.below hout]
  show K (a.put o.dst (kv d)) w
  refine hK _ _ ?_
  unfold RunsF
  rw [mask_upd hi, hd]
  exact hF.knows ok hm

set_option maxRecDepth 100000 in
theorem step_make (ok : q.Ok) {j : Bool} {o : Oper} (hi : q.a j < n) (hd : o.dst = some (q.t j)) (hg : o.guard = none) (ho : o.op = .alloc 34) : StepOk Tryz.prog ops Q a0 ds (RunsF n q kv RR W2) (q.a j) o := by
  intro L e w a hL _ hF _ hout K hK
  rw [if_pos (by unfold Region.wanted; rw [hg])]
  obtain ⟨dst, op, ty, pos, af, g⟩ := o
  subst hd ho
  obtain ⟨x0, x1, x2, x3, x4, x5, x6, x7, hrun⟩ := alloc_trace a.eval w (q.t j) pos af g ty
  unfold Oper.wp
  rw [hrun]
  refine hK _ _ ?_
  unfold RunsF
  rw [mask_upd hi]
  exact hF.makes ok (by unfold maskB; rw [hL]; rfl) x0 x1 x2 x3 x4 x5 x6 x7

set_option maxRecDepth 100000 in
theorem step_run (ok : q.Ok) {j : Bool} {o : Oper} {t1 t2 t3 k1 k2 k3 : Nat} (hi : q.c j < n) (hd : o.dst = some (q.s j)) (hg : o.guard = none)
    (ho : o.op = .call { callee := .value (.func 18), args := #[.tmp t1, .tmp t2, .tmp t3], argTypes := #[25, 28, 3] })
    (haw : awaitsB o.after.toList [k1, k2, k3] n = true) (hk1 : (k1, t1) ∈ q.known) (hk2 : (k2, t2) ∈ q.known) (hk3 : (k3, t3) ∈ q.known) (hds : t1 ∈ ds ∧ t2 ∈ ds ∧ t3 ∈ ds)
    (hcall : ∀ W, Below W2.heap.size W2 W → Calls Tryz.prog 18 #[kv t1, kv t2, kv t3] W fun e w' => ∃ v s en, e = .returned v ∧ RR j s en ∧ TraceAt W.heap.size w' v s en ∧ Below W.heap.size W w') :
    StepOk Tryz.prog ops Q a0 ds (RunsF n q kv RR W2) (q.c j) o := by
  intro L e w a hL haf hF hin hout K hK
  rw [if_pos (by unfold Region.wanted; rw [hg])]
  have hdone : ∀ k ∈ [k1, k2, k3], maskB n L k = true := fun k hk => by
    obtain ⟨hkn, x, hx, hb, rfl⟩ := awaits_spec haw k hk
    exact mask_of (haf x hx hb) hkn
  have e1 : a.eval (.tmp t1) = kv t1 := (hin t1 hds.1).trans (hF.known _ hk1 (hdone k1 (by simp)))
  have e2 : a.eval (.tmp t2) = kv t2 := (hin t2 hds.2.1).trans (hF.known _ hk2 (hdone k2 (by simp)))
  have e3 : a.eval (.tmp t3) = kv t3 := (hin t3 hds.2.2).trans (hF.known _ hk3 (hdone k3 (by simp)))
  obtain ⟨dst, op, ty, pos, af, g⟩ := o
  subst hd ho
  unfold Oper.wp
  rw [call_run a.eval w (q.s j) t1 t2 t3 _ _ _ pos af g ty e1 e2 e3 rfl]
  refine (hcall w hF.below).mono ?_
  rintro en w' ⟨v, s, en, rfl, hr, ht, hb⟩
  refine hK _ _ ?_
  unfold RunsF
  rw [mask_upd hi]
  exact hF.ran ok (by unfold maskB; rw [hL]; rfl) hr ht hb

set_option maxRecDepth 100000 in
theorem step_store (ok : q.Ok) {j : Bool} {o : Oper} (hi : q.p j < n) (hd : o.dst = none) (hg : o.guard = none) (ho : o.op = .store 34 (.tmp (q.t j)) (.tmp (q.s j)))
    (haw : awaitsB o.after.toList [q.a j, q.c j] n = true) (hds : q.t j ∈ ds ∧ q.s j ∈ ds) :
    StepOk Tryz.prog ops Q a0 ds (RunsF n q kv RR W2) (q.p j) o := by
  intro L e w a hL haf hF hin hout K hK
  rw [if_pos (by unfold Region.wanted; rw [hg])]
  have hdone : ∀ k ∈ [q.a j, q.c j], maskB n L k = true := fun k hk => by
    obtain ⟨hkn, x, hx, hb, rfl⟩ := awaits_spec haw k hk
    exact mask_of (haf x hx hb) hkn
  have ha := hdone (q.a j) (by simp)
  have hc := hdone (q.c j) (by simp)
  obtain ⟨g, x0, x1, x2, x3, x4, x5, x6, x7, e1, hlo, _, hg8⟩ := hF.made j ha
  obtain ⟨s, en, lo, hi2, _, ⟨nv, val, e2, hrows⟩, _⟩ := hF.run j hc
  obtain ⟨Ao, co, ho⟩ := row_form (hrows .out _ rfl).1
  obtain ⟨Aa, ca, ha2⟩ := row_form (hrows .arrs _ rfl).1
  obtain ⟨Av, cv, hv⟩ := row_form (hrows .vis _ rfl).1
  obtain ⟨dst, op, ty, pos, af, gd⟩ := o
  subst hd ho
  unfold Oper.wp
  rw [store_trace a.eval w (q.t j) (q.s j) g x0 x1 x2 x3 x4 x5 x6 x7 _ _ _ _ _ _ _ _ _ _ _ _ _ Ao Aa Av _ co _ ca _ cv rfl rfl rfl ho ha2 rfl rfl hv pos af gd ty ((hin _ hds.1).trans e1) ((hin _ hds.2).trans e2) hg8]
  obtain ⟨h1, h2, h3⟩ := eight_set hg8 _ _ _ _ _ _ _ _ rfl
  refine hK _ _ ?_
  unfold RunsF
  rw [mask_upd hi]
  exact hF.stores ok (by unfold maskB; rw [hL]; rfl) ha hc e1 e2 h1 ⟨_, _, _, _, _, _, _, _, rfl⟩ h2 (h3 _ hlo) (by simp)
end

end Go.Proofs.YtkaifkjbmdcmlaaGreat
