/- What InterpSpareUpto rests on, part 17: TwoRuns, TwoSteps, SpareW, SpareX, SpareY, SpareO. -/
import Derived.Test.YtncmnbchkabgaaaGreatPkInterpSpareUpto16
import Derived.Deep.DeepCutAuto

namespace Go.Proofs.YtncmnbchkabgaaaGreat
open Go.RowKit Go.Maps

/-- where the region's operations stand, and where their values lie: calls, makings, stores -/
structure TwoP where
  c : Bool → Nat
  s : Bool → Nat
  a : Bool → Nat
  t : Bool → Nat
  p : Bool → Nat
  known : List (Nat × Nat)

/-- no two are one -/
def TwoP.okB (q : TwoP) : Bool :=
  decide ([q.c false, q.c true, q.a false, q.a true, q.p false, q.p true].Nodup) && decide ([q.s false, q.s true, q.t false, q.t true].Nodup) &&
  q.known.all fun x => q.known.all (fun y => x.1 != y.1 || x == y) && !([q.c false, q.c true, q.a false, q.a true, q.p false, q.p true].contains x.1) && !([q.s false, q.s true, q.t false, q.t true].contains x.2)

structure TwoP.Ok (q : TwoP) : Prop where
  cc : q.c false ≠ q.c true
  aa : q.a false ≠ q.a true
  pp : q.p false ≠ q.p true
  ca : ∀ j k, q.c j ≠ q.a k
  cp : ∀ j k, q.c j ≠ q.p k
  ap : ∀ j k, q.a j ≠ q.p k
  ss : q.s false ≠ q.s true
  tt : q.t false ≠ q.t true
  st : ∀ j k, q.s j ≠ q.t k
  one : ∀ x ∈ q.known, ∀ y ∈ q.known, x.1 = y.1 → x = y
  kc : ∀ x ∈ q.known, ∀ j, x.1 ≠ q.c j ∧ x.1 ≠ q.a j ∧ x.1 ≠ q.p j ∧ x.2 ≠ q.s j ∧ x.2 ≠ q.t j

theorem TwoP.ok_of {q : TwoP} (h : q.okB = true) : q.Ok := by
  unfold TwoP.okB at h
  simp only [Bool.and_eq_true, decide_eq_true_eq, List.all_eq_true, Bool.not_eq_true', Bool.or_eq_true, bne_iff_ne, beq_iff_eq, List.nodup_cons, List.mem_cons, List.not_mem_nil, or_false, not_or, List.contains_eq_mem, decide_eq_false_iff_not] at h
  obtain ⟨⟨⟨⟨c1, c2, c3, c4, c5⟩, ⟨d2, d3, d4, d5⟩, ⟨e3, e4, e5⟩, ⟨f4, f5⟩, g5, _⟩, ⟨s1, s2, s3⟩, ⟨r2, r3⟩, q3, _⟩, hk⟩ := h
  refine ⟨c1, e3, g5, fun j k => ?_, fun j k => ?_, fun j k => ?_, s1, q3, fun j k => ?_, fun x hx y hy he => ?_, fun x hx j => ?_⟩
  · cases j <;> cases k <;> assumption
  · cases j <;> cases k <;> assumption
  · cases j <;> cases k <;> assumption
  · cases j <;> cases k <;> assumption
  · obtain ⟨⟨h1, _⟩, _⟩ := hk x hx
    rcases h1 y hy with h1 | h1
    · exact absurd he h1
    · exact h1
  · obtain ⟨⟨_, h2⟩, h3⟩ := hk x hx
    obtain ⟨a1, a2, a3, a4, a5, a6⟩ := h2
    obtain ⟨b1, b2, b3, b4⟩ := h3
    cases j <;> exact ⟨by assumption, by assumption, by assumption, by assumption, by assumption⟩

/-- between two operations -/
structure TwoF (q : TwoP) (kv : Nat → Value) (RR : Bool → StM → EndM → Prop) (W2 : World) (L : Nat → Bool) (e : Nat → Value) (w : World) : Prop where
  below : Below W2.heap.size W2 w
  known : ∀ x ∈ q.known, L x.1 = true → e x.2 = kv x.2
  run : ∀ j, L (q.c j) = true → ∃ s en lo hi, RR j s en ∧ TraceIn lo hi w (e (q.s j)) s en ∧ hi ≤ w.heap.size ∧ ∀ k g, L (q.a k) = true → e (q.t k) = .pointer (some ⟨g, 0, none⟩) → g < lo ∨ hi ≤ g
  made : ∀ k, L (q.a k) = true → ∃ g x0 x1 x2 x3 x4 x5 x6 x7, e (q.t k) = .pointer (some ⟨g, 0, none⟩) ∧ W2.heap.size ≤ g ∧ g < w.heap.size ∧ w.heap[g]? = some (.cells #[x0, x1, x2, x3, x4, x5, x6, x7] 32 (0, 0))
  ne : L (q.a false) = true → L (q.a true) = true → e (q.t false) ≠ e (q.t true)
  put : ∀ k, L (q.p k) = true → L (q.a k) = true ∧ L (q.c k) = true ∧ ∃ g cs, e (q.t k) = .pointer (some ⟨g, 0, none⟩) ∧ e (q.s k) = .agg cs ∧ w.heap[g]? = some (.cells cs 32 (0, 0))

section
variable {q : TwoP} {kv : Nat → Value} {RR : Bool → StM → EndM → Prop} {W2 : World} {L : Nat → Bool} {e : Nat → Value} {w w' : World}

theorem TwoF.start (W2 : World) : TwoF q kv RR W2 (fun _ => false) e W2.drew :=
  ⟨(Below.refl _ _).drew, (fun _ _ h => absurd h (by decide)), (fun _ h => absurd h (by decide)), (fun _ h => absurd h (by decide)), (fun h => absurd h (by decide)), (fun _ h => absurd h (by decide))⟩

theorem updB_of {L : Nat → Bool} {i x : Nat} (h : updB L i x = true) (hn : i ≠ x) : L x = true := by
  unfold updB at h
  rwa [if_neg hn] at h

theorem updE_other (e : Nat → Value) {d x : Nat} (h : d ≠ x) (v : Value) : updE e (some d) v x = e x := by
  unfold updE
  rw [if_neg (by simpa using h)]

theorem updE_same (e : Nat → Value) (d : Nat) (v : Value) : updE e (some d) v d = v := by
  unfold updE
  rw [if_pos rfl]

/-- the world grows -/
theorem TwoF.grow (h : TwoF q kv RR W2 L e w) (hb : Below w.heap.size w w') : TwoF q kv RR W2 L e w' := by
  refine ⟨h.below.trans (hb.mono h.below.size), h.known, fun j hj => ?_, fun k hk => ?_, h.ne, fun k hk => ?_⟩
  · obtain ⟨s, en, lo, hi, h1, h2, h3, h4⟩ := h.run j hj
    exact ⟨s, en, lo, hi, h1, h2.kept fun b _ hb2 => hb.block b (by omega), Nat.le_trans h3 hb.size, h4⟩
  · obtain ⟨g, x0, x1, x2, x3, x4, x5, x6, x7, h1, h2, h3, h4⟩ := h.made k hk
    exact ⟨g, x0, x1, x2, x3, x4, x5, x6, x7, h1, h2, Nat.lt_of_lt_of_le h3 hb.size, (hb.block g h3).trans h4⟩
  · obtain ⟨h1, h2, g, cs, h3, h4, h5⟩ := h.put k hk
    obtain ⟨g2, _, _, _, _, _, _, _, _, e2, _, h6, _⟩ := h.made k h1
    rw [h3] at e2
    have : g = g2 := by simpa using e2
    subst this
    exact ⟨h1, h2, g, cs, h3, h4, (hb.block g h6).trans h5⟩

/-- an operation whose value is known -/
theorem TwoF.knows (h : TwoF q kv RR W2 L e w) (ok : q.Ok) {i d : Nat} (hm : (i, d) ∈ q.known) : TwoF q kv RR W2 (updB L i) (updE e (some d) (kv d)) w := by
  have hk := ok.kc _ hm
  refine ⟨h.below, fun x hx hL => ?_, fun j hj => ?_, fun k hk2 => ?_, fun h1 h2 => ?_, fun k hk2 => ?_⟩
  · by_cases hd : d = x.2
    · rw [hd, updE_same]
    · rw [updE_other _ hd]
      refine h.known x hx (updB_of hL fun hi => hd ?_)
      rw [← ok.one _ hm _ hx hi]
  · rw [updE_other _ (hk j).2.2.2.1]
    obtain ⟨s, en, lo, hi, h1, h2, h3, h4⟩ := h.run j (updB_of hj (hk j).1)
    refine ⟨s, en, lo, hi, h1, h2, h3, fun k g hL he => h4 k g (updB_of hL (hk k).2.1) ?_⟩
    rwa [updE_other _ (hk k).2.2.2.2] at he
  · rw [updE_other _ (hk k).2.2.2.2]
    exact h.made k (updB_of hk2 (hk k).2.1)
  · rw [updE_other _ (hk false).2.2.2.2, updE_other _ (hk true).2.2.2.2]
    exact h.ne (updB_of h1 (hk false).2.1) (updB_of h2 (hk true).2.1)
  · rw [updE_other _ (hk k).2.2.2.1, updE_other _ (hk k).2.2.2.2]
    obtain ⟨h1, h2, r⟩ := h.put k (updB_of hk2 (hk k).2.2.1)
    refine ⟨?_, ?_, r⟩
    · unfold updB; split <;> simp_all
    · unfold updB; split <;> simp_all

theorem updB_up {L : Nat → Bool} {i x : Nat} (h : L x = true) : updB L i x = true := by
  unfold updB
  split
  · rfl
  · exact h

/-- a run has come back -/
theorem TwoF.ran (h : TwoF q kv RR W2 L e w) (ok : q.Ok) {j : Bool} (hj : L (q.c j) = false) {v : Value} {s : StM} {en : EndM} (hr : RR j s en) (ht : TraceAt w.heap.size w' v s en) (hb : Below w.heap.size w w') : TwoF q kv RR W2 (updB L (q.c j)) (updE e (some (q.s j)) v) w' := by
  have h1 := h.grow hb
  have hcc : ∀ k, k ≠ j → q.c j ≠ q.c k := fun k hk => by
    have := ok.cc
    cases j <;> cases k <;> simp_all
    exact fun h => this h.symm
  have hss : ∀ k, k ≠ j → q.s j ≠ q.s k := fun k hk => by
    have := ok.ss
    cases j <;> cases k <;> simp_all
    exact fun h => this h.symm
  have hL : ∀ {k}, updB L (q.c j) (q.a k) = true → L (q.a k) = true := fun {k} hL => updB_of hL (ok.ca j k)
  have hE : ∀ k, updE e (some (q.s j)) v (q.t k) = e (q.t k) := fun k => updE_other _ (ok.st j k) _
  refine ⟨h1.below, fun x hx hLx => ?_, fun k hk => ?_, fun k hk => ?_, fun h2 h3 => ?_, fun k hk => ?_⟩
  · have := ok.kc x hx j
    rw [updE_other _ (Ne.symm this.2.2.2.1)]
    exact h1.known x hx (updB_of hLx (Ne.symm this.1))
  · by_cases e1 : k = j
    · subst e1
      rw [updE_same]
      refine ⟨s, en, w.heap.size, w'.heap.size, hr, ht.within, Nat.le_refl _, fun k2 g hLa he => .inl ?_⟩
      rw [hE] at he
      obtain ⟨g2, _, _, _, _, _, _, _, _, e2, _, h6, _⟩ := h.made k2 (hL hLa)
      rw [he] at e2
      have : g = g2 := by simpa using e2
      omega
    · rw [updE_other _ (hss k e1)]
      obtain ⟨s2, en2, lo, hi, a1, a2, a3, a4⟩ := h1.run k (updB_of hk (hcc k e1))
      exact ⟨s2, en2, lo, hi, a1, a2, a3, fun k2 g hLa he => a4 k2 g (hL hLa) (by rwa [hE] at he)⟩
  · rw [hE]
    exact h1.made k (hL hk)
  · rw [hE, hE]
    exact h1.ne (hL h2) (hL h3)
  · obtain ⟨a1, a2, g, cs, a3, a4, a5⟩ := h1.put k (updB_of hk (ok.cp j k))
    have hkj : k ≠ j := fun h => by rw [h, hj] at a2; cases a2
    exact ⟨updB_up a1, updB_up a2, g, cs, by rw [hE]; exact a3, by rw [updE_other _ (hss k hkj)]; exact a4, a5⟩

/-- a variable is made -/
theorem TwoF.makes (h : TwoF q kv RR W2 L e w) (ok : q.Ok) {j : Bool} (hj : L (q.a j) = false) (x0 x1 x2 x3 x4 x5 x6 x7 : Value) : TwoF q kv RR W2 (updB L (q.a j)) (updE e (some (q.t j)) (.pointer (some ⟨w.heap.size, 0, none⟩))) (w.alloc (.cells #[x0, x1, x2, x3, x4, x5, x6, x7] 32)) := by
  have h1 := h.grow ((Below.refl w.heap.size w).alloc (Nat.le_refl _) (.cells #[x0, x1, x2, x3, x4, x5, x6, x7] 32))
  have haa : ∀ k, k ≠ j → q.a j ≠ q.a k := fun k hk => by
    have := ok.aa
    cases j <;> cases k <;> simp_all
    exact fun h => this h.symm
  have htt : ∀ k, k ≠ j → q.t j ≠ q.t k := fun k hk => by
    have := ok.tt
    cases j <;> cases k <;> simp_all
    exact fun h => this h.symm
  have hS : ∀ k v, updE e (some (q.t j)) v (q.s k) = e (q.s k) := fun k v => updE_other _ (Ne.symm (ok.st k j)) _
  have hold : ∀ k, L (q.a k) = true → e (q.t k) ≠ .pointer (some ⟨w.heap.size, 0, none⟩) := fun k hk he => by
    obtain ⟨g2, _, _, _, _, _, _, _, _, e2, _, h6, _⟩ := h.made k hk
    rw [he] at e2
    have : w.heap.size = g2 := by injection e2 with e2; injection e2 with e2; injection e2
    omega
  refine ⟨h1.below, fun x hx hLx => ?_, fun k hk => ?_, fun k hk => ?_, fun h2 h3 => ?_, fun k hk => ?_⟩
  · have := ok.kc x hx j
    rw [updE_other _ (Ne.symm this.2.2.2.2)]
    exact h1.known x hx (updB_of hLx (Ne.symm this.2.1))
  · rw [hS]
    have hLc := updB_of hk (Ne.symm (ok.ca k j))
    obtain ⟨s2, en2, lo, hi, a1, a2, a3, a4⟩ := h1.run k hLc
    obtain ⟨_, _, _, hi0, _, _, b3, _⟩ := h.run k hLc
    obtain ⟨s3, en3, lo3, hi3, c1, c2, c3, c4⟩ := h.run k hLc
    refine ⟨s3, en3, lo3, hi3, c1, c2.kept fun b _ hb2 => Below.heap_alloc _ _ _ (by omega), by simp; omega, fun k2 g hLa he => ?_⟩
    by_cases e1 : k2 = j
    · subst e1
      rw [updE_same] at he
      have : w.heap.size = g := by simpa using he
      exact .inr (by omega)
    · rw [updE_other _ (htt k2 e1)] at he
      exact c4 k2 g (updB_of hLa (haa k2 e1)) he
  · by_cases e1 : k = j
    · subst e1
      rw [updE_same]
      exact ⟨w.heap.size, x0, x1, x2, x3, x4, x5, x6, x7, rfl, h.below.size, by simp, heap_alloc_new w _⟩
    · rw [updE_other _ (htt k e1)]
      exact h1.made k (updB_of hk (haa k e1))
  · cases j with
    | false =>
      rw [updE_same, updE_other _ (htt true (by decide))]
      exact fun he => hold true (updB_of h3 (haa true (by decide))) he.symm
    | true =>
      rw [updE_same, updE_other _ (htt false (by decide))]
      exact hold false (updB_of h2 (haa false (by decide)))
  · obtain ⟨a1, a2, g, cs, a3, a4, a5⟩ := h1.put k (updB_of hk (ok.ap j k))
    have hkj : k ≠ j := fun h => by rw [h, hj] at a1; cases a1
    exact ⟨updB_up a1, updB_up a2, g, cs, by rw [updE_other _ (htt k hkj)]; exact a3, by rw [hS]; exact a4, a5⟩

/-- a trace is stored -/
theorem TwoF.stores (h : TwoF q kv RR W2 L e w) (ok : q.Ok) {j : Bool} (hj : L (q.p j) = false) (ha : L (q.a j) = true) (hc : L (q.c j) = true) {g : Nat} {cs : Array Value} {v : Value} (hg : e (q.t j) = .pointer (some ⟨g, 0, none⟩)) (hcs : e (q.s j) = .agg cs)
    (hW : w'.heap[g]? = some (.cells cs 32 (0, 0))) (hW8 : ∃ x0 x1 x2 x3 x4 x5 x6 x7, cs = #[x0, x1, x2, x3, x4, x5, x6, x7]) (ho : ∀ b, b ≠ g → w'.heap[b]? = w.heap[b]?) (hb : Below W2.heap.size w w') (hsz : w'.heap.size = w.heap.size) : TwoF q kv RR W2 (updB L (q.p j)) (updE e none v) w' := by
  have hE : updE e none v = e := funext fun x => by simp [updE]
  have hpp : ∀ k, k ≠ j → q.p j ≠ q.p k := fun k hk => by
    have := ok.pp
    cases j <;> cases k <;> simp_all
    exact fun h => this h.symm
  have hLa : ∀ {k}, updB L (q.p j) (q.a k) = true → L (q.a k) = true := fun {k} hL => updB_of hL (Ne.symm (ok.ap k j))
  have hLc : ∀ {k}, updB L (q.p j) (q.c k) = true → L (q.c k) = true := fun {k} hL => updB_of hL (Ne.symm (ok.cp k j))
  have hother : ∀ k g2, k ≠ j → L (q.a k) = true → e (q.t k) = .pointer (some ⟨g2, 0, none⟩) → g2 ≠ g := fun k g2 hk hLk he hgg => by
    subst hgg
    cases j <;> cases k <;> simp_all
    · exact h.ne ha hLk (by rw [he, hg])
    · exact h.ne hLk ha (by rw [he, hg])
  rw [hE]
  refine ⟨h.below.trans hb, fun x hx hLx => ?_, fun k hk => ?_, fun k hk => ?_, fun h2 h3 => h.ne (hLa h2) (hLa h3), fun k hk => ?_⟩
  · have := ok.kc x hx j
    exact h.known x hx (updB_of hLx (Ne.symm this.2.2.1))
  · obtain ⟨s2, en2, lo, hi, a1, a2, a3, a4⟩ := h.run k (hLc hk)
    have hout := a4 j g ha hg
    exact ⟨s2, en2, lo, hi, a1, a2.kept fun b h1 h2 => ho b (by omega), by omega, fun k2 g2 hL2 he => a4 k2 g2 (hLa hL2) he⟩
  · obtain ⟨g2, y0, y1, y2, y3, y4, y5, y6, y7, b1, b2, b3, b4⟩ := h.made k (hLa hk)
    by_cases e1 : k = j
    · subst e1
      rw [hg] at b1
      have : g = g2 := by simpa using b1
      subst this
      obtain ⟨x0, x1, x2, x3, x4, x5, x6, x7, rfl⟩ := hW8
      exact ⟨g, x0, x1, x2, x3, x4, x5, x6, x7, hg, b2, by omega, hW⟩
    · exact ⟨g2, y0, y1, y2, y3, y4, y5, y6, y7, b1, b2, by omega, (ho g2 (hother k g2 e1 (hLa hk) b1)).trans b4⟩
  · by_cases e1 : k = j
    · subst e1
      exact ⟨updB_up ha, updB_up hc, g, cs, hg, hcs, hW⟩
    · obtain ⟨a1, a2, g2, cs2, a3, a4, a5⟩ := h.put k (updB_of hk (hpp k e1))
      exact ⟨updB_up a1, updB_up a2, g2, cs2, a3, a4, (ho g2 (hother k g2 e1 a1 a3)).trans a5⟩
/-- a run's variable, when all is done -/
theorem TwoF.done (h : TwoF q kv RR W2 L e w) {j : Bool} (hc : L (q.c j) = true) (ha : L (q.a j) = true) (hp : L (q.p j) = true) :
    ∃ g s en lo cs, e (q.t j) = .pointer (some ⟨g, 0, none⟩) ∧ W2.heap.size ≤ g ∧ g < w.heap.size ∧ RR j s en ∧ TraceAt lo w (.agg cs) s en ∧ w.heap[g]? = some (.cells cs 32 (0, 0)) := by
  obtain ⟨s, en, lo, hi, h1, h2, _⟩ := h.run j hc
  obtain ⟨g, _, _, _, _, _, _, _, _, e1, h3, h4, _⟩ := h.made j ha
  obtain ⟨_, _, g2, cs, e2, e3, h5⟩ := h.put j hp
  rw [e1] at e2
  have : g = g2 := by injection e2 with e2; injection e2 with e2; injection e2
  subst this
  rw [e3] at h2
  exact ⟨g, s, en, lo, cs, e1, h3, h4, h1, h2.at, h5⟩
end
end Go.Proofs.YtncmnbchkabgaaaGreat

namespace Go.Proofs.YtncmnbchkabgaaaGreat
open Go.RowKit Go.Maps

theorem load_func (ev : Operand → Value) (w : World) (b t d : Nat) (p0 p1 p2 p3 : Value) (pos : String) (af : Array Edge) (g) (ty : TypeId) (ha : ev (.tmp t) = .pointer (some ⟨b, 0, none⟩)) (hw : ∀ o, w.cell? ⟨b, o, none⟩ = (#[p0, p1, p2, p3] : Array Value)[o]?) :
   (execOp ev { dst := some d, op := .load 25 (.tmp t), type := ty, pos := pos, after := af, guard := g }).run Tryz.prog w = .ok (.value (.agg #[p0, p1, p2, p3])) w := by
  have h0 := hw 0
  have h1 := hw 1
  have h2 := hw 2
  have h3 := hw 3
  clear hw
  go_simp

theorem alloc_trace (ev : Operand → Value) (w : World) (d : Nat) (pos : String) (af : Array Edge) (g) (ty : TypeId) :
   ∃ x0 x1 x2 x3 x4 x5 x6 x7, (execOp ev { dst := some d, op := .alloc 32, type := ty, pos := pos, after := af, guard := g }).run Tryz.prog w = .ok (.value (.pointer (some ⟨w.heap.size, 0, none⟩))) (w.alloc (.cells #[x0, x1, x2, x3, x4, x5, x6, x7] 32)) := by
  refine ⟨.int .i64 0, .int .i64 0, .int .i64 0, .slice none 0 0, .slice none 0 0, .int .i64 0, .int .i64 0, .slice none 0 0, ?_⟩
  go_simp

theorem call_run (ev : Operand → Value) (w : World) (d t1 t2 t3 : Nat) (fv iv nv : Value) (pos : String) (af : Array Edge) (g) (ty : TypeId) (h1 : ev (.tmp t1) = fv) (h2 : ev (.tmp t2) = iv) (h3 : ev (.tmp t3) = nv) (hf : ev (.func 10) = .func (.func 10) #[] #[]) :
   (execOp ev { dst := some d, op := .call { callee := .value (.func 10), args := #[.tmp t1, .tmp t2, .tmp t3], argTypes := #[25, 28, 3] }, type := ty, pos := pos, after := af, guard := g }).run Tryz.prog w = .ok (.enter 10 #[fv, iv, nv]) w := by
  go_simp

theorem store_trace (ev : Operand → Value) (w : World) (t s b : Nat) (x0 x1 x2 x3 x4 x5 x6 x7 v0 v1 v2 v3 v4 v5 v6 v7 : Value) (n0 n1 n2 n5 n6 : Int) (A3 A4 A7 : Option Addr) (l3 c3 l4 c4 l7 c7 : Nat) (k0 : v0 = .int .i64 n0) (k1 : v1 = .int .i64 n1) (k2 : v2 = .int .i64 n2) (k3 : v3 = .slice A3 l3 c3) (k4 : v4 = .slice A4 l4 c4) (k5 : v5 = .int .i64 n5) (k6 : v6 = .int .i64 n6) (k7 : v7 = .slice A7 l7 c7) (pos : String) (af : Array Edge) (g) (ty : TypeId) (h1 : ev (.tmp t) = .pointer (some ⟨b, 0, none⟩)) (h2 : ev (.tmp s) = .agg #[v0, v1, v2, v3, v4, v5, v6, v7]) (hw : w.heap[b]? = some (.cells #[x0, x1, x2, x3, x4, x5, x6, x7] 32 (0, 0))) :
   (execOp ev { dst := none, op := .store 32 (.tmp t) (.tmp s), type := ty, pos := pos, after := af, guard := g }).run Tryz.prog w = .ok .skip ((((((((w.setCell ⟨b, 0, none⟩ v0).setCell ⟨b, 1, none⟩ v1).setCell ⟨b, 2, none⟩ v2).setCell ⟨b, 3, none⟩ v3).setCell ⟨b, 4, none⟩ v4).setCell ⟨b, 5, none⟩ v5).setCell ⟨b, 6, none⟩ v6).setCell ⟨b, 7, none⟩ v7) := by
  have hx := row_cells hw rfl
  have hz := fun o => frozen_of_row w b o _ _ hw
  have y0 : w.cell? ⟨b, 0, none⟩ = some x0 := hx 0
  have y1 : w.cell? ⟨b, 1, none⟩ = some x1 := hx 1
  have y2 : w.cell? ⟨b, 2, none⟩ = some x2 := hx 2
  have y3 : w.cell? ⟨b, 3, none⟩ = some x3 := hx 3
  have y4 : w.cell? ⟨b, 4, none⟩ = some x4 := hx 4
  have y5 : w.cell? ⟨b, 5, none⟩ = some x5 := hx 5
  have y6 : w.cell? ⟨b, 6, none⟩ = some x6 := hx 6
  have y7 : w.cell? ⟨b, 7, none⟩ = some x7 := hx 7
  have z0 := hz 0
  have z1 := hz 1
  have z2 := hz 2
  have z3 := hz 3
  have z4 := hz 4
  have z5 := hz 5
  have z6 := hz 6
  have z7 := hz 7
  clear hx hz
  subst k0 k1 k2 k3 k4 k5 k6 k7
  go_simp

theorem load_input (ev : Operand → Value) (w : World) (b t d : Nat) (p0 p1 : Value) (pos : String) (af : Array Edge) (g) (ty : TypeId) (ha : ev (.tmp t) = .pointer (some ⟨b, 0, none⟩)) (hw : ∀ o, w.cell? ⟨b, o, none⟩ = (#[p0, p1] : Array Value)[o]?) :
   (execOp ev { dst := some d, op := .load 28 (.tmp t), type := ty, pos := pos, after := af, guard := g }).run Tryz.prog w = .ok (.value (.agg #[p0, p1])) w := by
  have h0 := hw 0
  have h1 := hw 1
  clear hw
  go_simp

/-- so many operations there are -/
def maskB (n : Nat) (L : Nat → Bool) : Nat → Bool := fun i => L i && decide (i < n)

theorem mask_of {n i : Nat} {L : Nat → Bool} (h : L i = true) (hi : i < n) : maskB n L i = true := by
  unfold maskB
  rw [h, decide_eq_true hi]
  rfl

theorem mask_upd {n i : Nat} (hi : i < n) (L : Nat → Bool) : maskB n (updB L i) = updB (maskB n L) i := by
  funext x
  unfold maskB updB
  by_cases h : i = x
  · subst h
    rw [if_pos rfl, if_pos rfl, decide_eq_true hi]
    rfl
  · rw [if_neg h, if_neg h]

theorem mask_congr {n : Nat} {L L' : Nat → Bool} (h : ∀ i, i < n → L i = L' i) : maskB n L = maskB n L' := by
  funext x
  unfold maskB
  by_cases hx : x < n
  · rw [h x hx]
  · rw [decide_eq_false hx, Bool.and_false, Bool.and_false]

/-- these are waited for -/
def awaitsB (af : List Edge) (ks : List Nat) (n : Nat) : Bool := ks.all fun k => decide (k < n) && af.any fun x => Region.binds .any x && x.on == k

theorem awaits_spec {af : List Edge} {ks : List Nat} {n : Nat} (h : awaitsB af ks n = true) : ∀ k ∈ ks, k < n ∧ ∃ x ∈ af, Region.binds .any x = true ∧ x.on = k := by
  intro k hk
  unfold awaitsB at h
  rw [List.all_eq_true] at h
  have := h k hk
  rw [Bool.and_eq_true, decide_eq_true_iff, List.any_eq_true] at this
  obtain ⟨h1, x, hx, h2⟩ := this
  rw [Bool.and_eq_true, beq_iff_eq] at h2
  exact ⟨h1, x, hx, h2⟩

theorem move_run (ev : Operand → Value) (w : World) (x : Operand) (d : Option Nat) (pos : String) (af : Array Edge) (g) (ty : TypeId) :
   (execOp ev { dst := d, op := .move x, type := ty, pos := pos, after := af, guard := g }).run Tryz.prog w = .ok (.value (ev x)) w := by
  go_simp

section
variable {q : TwoP} {kv : Nat → Value} {RR : Bool → StM → EndM → Prop} {W2 : World} {Q : Exit → Act → World → Prop} {ops : Array Oper} {a0 : Act} {ds : List Nat} {n : Nat}

/-- what a region of runs keeps -/
def RunsF (n : Nat) (q : TwoP) (kv : Nat → Value) (RR : Bool → StM → EndM → Prop) (W2 : World) : (Nat → Bool) → (Nat → Value) → World → Prop := fun L e w => TwoF q kv RR W2 (maskB n L) e w

set_option maxRecDepth 100000 in
theorem step_known (ok : q.Ok) {i d : Nat} {o : Oper} (hi : i < n) (hm : (i, d) ∈ q.known) (hd : o.dst = some d) (hg : o.guard = none)
    (hrun : ∀ (a : Act) (w : World), Below W2.heap.size W2 w → (∀ x, x ∉ ds → a.eval (.tmp x) = a0.eval (.tmp x)) → (execOp a.eval o).run Tryz.prog w = .ok (.value (kv d)) w) : StepOk Tryz.prog ops Q a0 ds (RunsF n q kv RR W2) i o := by
  intro L e w a _ _ hF _ hout K hK
  rw [if_pos (by unfold Region.wanted; rw [hg])]
  unfold Oper.wp
  rw [hrun a w hF.below hout]
  show K (a.put o.dst (kv d)) w
  refine hK _ _ ?_
  unfold RunsF
  rw [mask_upd hi, hd]
  exact hF.knows ok hm

set_option maxRecDepth 100000 in
theorem step_make (ok : q.Ok) {j : Bool} {o : Oper} (hi : q.a j < n) (hd : o.dst = some (q.t j)) (hg : o.guard = none) (ho : o.op = .alloc 32) : StepOk Tryz.prog ops Q a0 ds (RunsF n q kv RR W2) (q.a j) o := by
  intro L e w a hL _ hF _ hout K hK
  rw [if_pos (by unfold Region.wanted; rw [hg])]
  obtain ⟨dst, op, ty, pos, af, g⟩ := o
  subst hd ho
  obtain ⟨x0, x1, x2, x3, x4, x5, x6, x7, hrun⟩ := alloc_trace a.eval w (q.t j) pos af g ty
  unfold Oper.wp
  rw [hrun]
  refine hK _ _ ?_
  unfold RunsF
  rw [mask_upd hi]
  exact hF.makes ok (by unfold maskB; rw [hL]; rfl) x0 x1 x2 x3 x4 x5 x6 x7

set_option maxRecDepth 100000 in
theorem step_run (ok : q.Ok) {j : Bool} {o : Oper} {t1 t2 t3 k1 k2 k3 : Nat} (hi : q.c j < n) (hd : o.dst = some (q.s j)) (hg : o.guard = none)
    (ho : o.op = .call { callee := .value (.func 10), args := #[.tmp t1, .tmp t2, .tmp t3], argTypes := #[25, 28, 3] })
    (haw : awaitsB o.after.toList [k1, k2, k3] n = true) (hk1 : (k1, t1) ∈ q.known) (hk2 : (k2, t2) ∈ q.known) (hk3 : (k3, t3) ∈ q.known) (hds : t1 ∈ ds ∧ t2 ∈ ds ∧ t3 ∈ ds)
    (hcall : ∀ W, Below W2.heap.size W2 W → Calls Tryz.prog 10 #[kv t1, kv t2, kv t3] W fun e w' => ∃ v s en, e = .returned v ∧ RR j s en ∧ TraceAt W.heap.size w' v s en ∧ Below W.heap.size W w') :
    StepOk Tryz.prog ops Q a0 ds (RunsF n q kv RR W2) (q.c j) o := by
  intro L e w a hL haf hF hin hout K hK
  rw [if_pos (by unfold Region.wanted; rw [hg])]
  have hdone : ∀ k ∈ [k1, k2, k3], maskB n L k = true := fun k hk => by
    obtain ⟨hkn, x, hx, hb, rfl⟩ := awaits_spec haw k hk
    exact mask_of (haf x hx hb) hkn
  have e1 : a.eval (.tmp t1) = kv t1 := (hin t1 hds.1).trans (hF.known _ hk1 (hdone k1 (by simp)))
  have e2 : a.eval (.tmp t2) = kv t2 := (hin t2 hds.2.1).trans (hF.known _ hk2 (hdone k2 (by simp)))
  have e3 : a.eval (.tmp t3) = kv t3 := (hin t3 hds.2.2).trans (hF.known _ hk3 (hdone k3 (by simp)))
  obtain ⟨dst, op, ty, pos, af, g⟩ := o
  subst hd ho
  unfold Oper.wp
  rw [call_run a.eval w (q.s j) t1 t2 t3 _ _ _ pos af g ty e1 e2 e3 rfl]
  refine (hcall w hF.below).mono ?_
  rintro en w' ⟨v, s, en, rfl, hr, ht, hb⟩
  refine hK _ _ ?_
  unfold RunsF
  rw [mask_upd hi]
  exact hF.ran ok (by unfold maskB; rw [hL]; rfl) hr ht hb

set_option maxRecDepth 100000 in
theorem step_store (ok : q.Ok) {j : Bool} {o : Oper} (hi : q.p j < n) (hd : o.dst = none) (hg : o.guard = none) (ho : o.op = .store 32 (.tmp (q.t j)) (.tmp (q.s j)))
    (haw : awaitsB o.after.toList [q.a j, q.c j] n = true) (hds : q.t j ∈ ds ∧ q.s j ∈ ds) :
    StepOk Tryz.prog ops Q a0 ds (RunsF n q kv RR W2) (q.p j) o := by
  intro L e w a hL haf hF hin hout K hK
  rw [if_pos (by unfold Region.wanted; rw [hg])]
  have hdone : ∀ k ∈ [q.a j, q.c j], maskB n L k = true := fun k hk => by
    obtain ⟨hkn, x, hx, hb, rfl⟩ := awaits_spec haw k hk
    exact mask_of (haf x hx hb) hkn
  have ha := hdone (q.a j) (by simp)
  have hc := hdone (q.c j) (by simp)
  obtain ⟨g, x0, x1, x2, x3, x4, x5, x6, x7, e1, hlo, _, hg8⟩ := hF.made j ha
  obtain ⟨s, en, lo, hi2, _, ⟨nv, val, e2, hrows⟩, _⟩ := hF.run j hc
  obtain ⟨Ao, co, ho⟩ := row_form (hrows .out _ rfl).1
  obtain ⟨Aa, ca, ha2⟩ := row_form (hrows .arrs _ rfl).1
  obtain ⟨Av, cv, hv⟩ := row_form (hrows .vis _ rfl).1
  obtain ⟨dst, op, ty, pos, af, gd⟩ := o
  subst hd ho
  unfold Oper.wp
  rw [store_trace a.eval w (q.t j) (q.s j) g x0 x1 x2 x3 x4 x5 x6 x7 _ _ _ _ _ _ _ _ _ _ _ _ _ Ao Aa Av _ co _ ca _ cv rfl rfl rfl ho ha2 rfl rfl hv pos af gd ty ((hin _ hds.1).trans e1) ((hin _ hds.2).trans e2) hg8]
  obtain ⟨h1, h2, h3⟩ := eight_set hg8 _ _ _ _ _ _ _ _ rfl
  refine hK _ _ ?_
  unfold RunsF
  rw [mask_upd hi]
  exact hF.stores ok (by unfold maskB; rw [hL]; rfl) ha hc e1 e2 h1 ⟨_, _, _, _, _, _, _, _, rfl⟩ h2 (h3 _ hlo) (by simp)
end

end Go.Proofs.YtncmnbchkabgaaaGreat

namespace Go.Proofs.YtncmnbchkabgaaaGreat
open Go.RowKit Go.Maps

abbrev tA : Tag := .fr 0 0
abbrev tB : Tag := .fr 0 1
def spE (L : Nat → Bool) : Nat := if L 5 then 84 else if L 3 then 82 else 79
def spG (L : Nat → Bool) : Nat := if L 12 then 91 else if L 9 then 88 else 85
def spA (args more : List Int) (L : Nat → Bool) : List Int := if L 5 then args ++ more else if L 3 then args else []
def spB (us : List Value) (mv : Value) (L : Nat → Bool) : List Value := if L 12 then us ++ [mv] else if L 9 then us else []
def spRow (args more : List Int) (us : List Value) (mv : Value) (L : Nat → Bool) : Rows := fun t => if t = tA then some (intsRow (spA args more L)) else if t = tB then some ⟨22, 1, (spB us mv L).length, spB us mv L⟩ else none
def spD (L : Nat → Bool) (t : Tag) : Prop := (t = tA ∧ L 0 = true) ∨ (t = tB ∧ L 6 = true)

structure SpS (W2 : World) (mv : Value) (args more : List Int) (us : List Value) (L : Nat → Bool) (e : Nat → Value) (w : World) (v : Vals) (bl : List VarD) : Prop where
  own : OwnC W2 w (spRow args more us mv L) v (spD L) bl
  a : L 0 = true → v tA = e (spE L) ∧ ∃ g c, v tA = .slice (some ⟨g, 0, none⟩) (spA args more L).length c
  b : L 6 = true → v tB = e (spG L) ∧ ∃ g c, v tB = .slice (some ⟨g, 0, none⟩) (spB us mv L).length c
  n : L 11 = true → ∃ g, e 90 = .slice (some ⟨g, 0, none⟩) 1 1 ∧ (g, #[mv], 22) ∈ bl
  x : L 14 = true → ∃ g y z, e 8 = .pointer (some ⟨g, 0, none⟩) ∧ (g, #[y, z], 28) ∈ bl ∧ (L 15 = true → y = e 84 ∧ z = e 91)

structure SpF (W2 : World) (gI : Nat) (av rv mv : Value) (args more : List Int) (us : List Value) (L : Nat → Bool) (e : Nat → Value) (w : World) : Prop where
  o3 : L 3 = true → L 0 = true
  o5 : L 5 = true → L 3 = true
  o9 : L 9 = true → L 6 = true ∧ L 5 = true
  o12 : L 12 = true → L 9 = true ∧ L 11 = true
  o13 : L 13 = true → L 5 = true ∧ L 12 = true
  o15 : L 15 = true → L 13 = true ∧ L 14 = true
  k1 : L 1 = true → e 80 = .pointer (some ⟨gI, 0, none⟩)
  k2 : L 2 = true → e 81 = av
  k4 : L 4 = true → e 83 = mv
  k7 : L 7 = true → e 86 = .pointer (some ⟨gI, 1, none⟩)
  k8 : L 8 = true → e 87 = rv
  k10 : L 10 = true → e 89 = mv
  k13 : L 13 = true → e 92 = .agg #[e 84, e 91]
  st : ∃ v bl, SpS W2 mv args more us L e w v bl

section
variable {W2 : World} {gI : Nat} {av rv mv : Value} {args more : List Int} {us : List Value} {L : Nat → Bool} {e : Nat → Value} {w w' : World} {v : Vals} {bl : List VarD}

theorem SpF.start (e : Nat → Value) : SpF W2 gI av rv mv args more us (fun _ => false) e W2.drew := by
  refine ⟨(fun h => by cases h), (fun h => by cases h), (fun h => by cases h), (fun h => by cases h), (fun h => by cases h), (fun h => by cases h), (fun h => by cases h), (fun h => by cases h), (fun h => by cases h), (fun h => by cases h), (fun h => by cases h), (fun h => by cases h), (fun h => by cases h), fun _ => .slice none 0 0, [], ?_, (fun h => by cases h), (fun h => by cases h), (fun h => by cases h), (fun h => by cases h)⟩
  exact ((OwnC.nothing W2 (fun _ => none) (fun _ => .slice none 0 0)).grows (Below.refl _ _).drew).congr (fun t ht => by rcases ht with ⟨_, h⟩ | ⟨_, h⟩ <;> cases h) (fun _ _ => rfl) (fun t ht => by rcases ht with ⟨_, h⟩ | ⟨_, h⟩ <;> cases h)

theorem updB_ne {L : Nat → Bool} {i j : Nat} (h : i ≠ j) : updB L i j = L j := if_neg h
theorem updB_eq {L : Nat → Bool} {i : Nat} : updB L i i = true := if_pos rfl

/-- an operation that changes nothing of what the rows are -/
theorem SpS.same (h : SpS W2 mv args more us L e w v bl) {i d : Nat} {x : Value} (hi : i = 1 ∧ d = 80 ∨ i = 2 ∧ d = 81 ∨ i = 4 ∧ d = 83 ∨ i = 7 ∧ d = 86 ∨ i = 8 ∧ d = 87 ∨ i = 10 ∧ d = 89 ∨ i = 13 ∧ d = 92) : SpS W2 mv args more us (updB L i) (updE e (some d) x) w v bl := by
  have hE : ∀ c, c = 79 ∨ c = 82 ∨ c = 84 ∨ c = 85 ∨ c = 88 ∨ c = 90 ∨ c = 91 ∨ c = 8 → updE e (some d) x c = e c := fun c hc => by
    unfold updE
    rw [if_neg (by simp; omega)]
  have hL : ∀ c, c = 0 ∨ c = 3 ∨ c = 5 ∨ c = 6 ∨ c = 9 ∨ c = 11 ∨ c = 12 ∨ c = 14 ∨ c = 15 → updB L i c = L c := fun c hc => updB_ne (by omega)
  have e1 : spE (updB L i) = spE L := by unfold spE; rw [hL 5 (by simp), hL 3 (by simp)]
  have e2 : spG (updB L i) = spG L := by unfold spG; rw [hL 12 (by simp), hL 9 (by simp)]
  have e3 : spA args more (updB L i) = spA args more L := by unfold spA; rw [hL 5 (by simp), hL 3 (by simp)]
  have e4 : spB us mv (updB L i) = spB us mv L := by unfold spB; rw [hL 12 (by simp), hL 9 (by simp)]
  have e5 : spRow args more us mv (updB L i) = spRow args more us mv L := by unfold spRow; rw [e3, e4]
  have e6 : spD (updB L i) = spD L := by unfold spD; rw [hL 0 (by simp), hL 6 (by simp)]
  have e7 : updE e (some d) x (spE L) = e (spE L) := hE _ (by unfold spE; split; simp; split <;> simp)
  have e8 : updE e (some d) x (spG L) = e (spG L) := hE _ (by unfold spG; split; simp; split <;> simp)
  refine ⟨by rw [e5, e6]; exact h.own, fun h0 => ?_, fun h0 => ?_, fun h0 => ?_, fun h0 => ?_⟩
  · rw [hL 0 (by simp)] at h0
    rw [e1, e3, e7]
    exact h.a h0
  · rw [hL 6 (by simp)] at h0
    rw [e2, e4, e8]
    exact h.b h0
  · rw [hL 11 (by simp)] at h0
    rw [hE 90 (by simp)]
    exact h.n h0
  · rw [hL 14 (by simp)] at h0
    rw [hE 8 (by simp), hL 15 (by simp), hE 84 (by simp), hE 91 (by simp)]
    exact h.x h0

/-- a fact of SpF that the operation does not touch -/
theorem SpF.put (h : SpF W2 gI av rv mv args more us L e w) {i d : Nat} {x : Value} (hL : L i = false)
    (h3 : i = 3 → L 0 = true) (h5 : i = 5 → L 3 = true) (h9 : i = 9 → L 6 = true ∧ L 5 = true) (h12 : i = 12 → L 9 = true ∧ L 11 = true) (h13 : i = 13 → (L 5 = true ∧ L 12 = true) ∧ d = 92 ∧ x = .agg #[e 84, e 91]) (h15 : i = 15 → L 13 = true ∧ L 14 = true)
    (hk : i = 1 ∧ d = 80 ∧ x = .pointer (some ⟨gI, 0, none⟩) ∨ i = 2 ∧ d = 81 ∧ x = av ∨ i = 4 ∧ d = 83 ∧ x = mv ∨ i = 7 ∧ d = 86 ∧ x = .pointer (some ⟨gI, 1, none⟩) ∨ i = 8 ∧ d = 87 ∧ x = rv ∨ i = 10 ∧ d = 89 ∧ x = mv ∨ i = 13 ∧ d = 92 ∨ i = 0 ∧ d = 79 ∨ i = 3 ∧ d = 82 ∨ i = 5 ∧ d = 84 ∨ i = 6 ∧ d = 85 ∨ i = 9 ∧ d = 88 ∨ i = 11 ∧ d = 90 ∨ i = 12 ∧ d = 91 ∨ i = 14 ∧ d = 8 ∨ i = 15 ∧ d = 1000)
    (hst : ∃ v bl, SpS W2 mv args more us (updB L i) (updE e (some d) x) w' v bl) : SpF W2 gI av rv mv args more us (updB L i) (updE e (some d) x) w' := by
  have up : ∀ {c}, L c = true → updB L i c = true := fun {c} hc => by
    unfold updB
    split
    · rfl
    · exact hc
  have dn : ∀ {c}, updB L i c = true → c ≠ i → L c = true := fun {c} hc hn => by rwa [updB_ne (Ne.symm hn)] at hc
  have hE : ∀ c, d ≠ c → updE e (some d) x c = e c := fun c hc => by
    unfold updE
    rw [if_neg (by simpa using hc)]
  have hS : updE e (some d) x d = x := by unfold updE; rw [if_pos rfl]
  refine ⟨fun q => ?_, fun q => ?_, fun q => ?_, fun q => ?_, fun q => ?_, fun q => ?_, fun q => ?_, fun q => ?_, fun q => ?_, fun q => ?_, fun q => ?_, fun q => ?_, fun q => ?_, hst⟩
  · by_cases c : i = 3
    · exact up (h3 c)
    · exact up (h.o3 (dn q (Ne.symm c)))
  · by_cases c : i = 5
    · exact up (h5 c)
    · exact up (h.o5 (dn q (Ne.symm c)))
  · by_cases c : i = 9
    · exact ⟨up (h9 c).1, up (h9 c).2⟩
    · exact ⟨up (h.o9 (dn q (Ne.symm c))).1, up (h.o9 (dn q (Ne.symm c))).2⟩
  · by_cases c : i = 12
    · exact ⟨up (h12 c).1, up (h12 c).2⟩
    · exact ⟨up (h.o12 (dn q (Ne.symm c))).1, up (h.o12 (dn q (Ne.symm c))).2⟩
  · by_cases c : i = 13
    · exact ⟨up (h13 c).1.1, up (h13 c).1.2⟩
    · exact ⟨up (h.o13 (dn q (Ne.symm c))).1, up (h.o13 (dn q (Ne.symm c))).2⟩
  · by_cases c : i = 15
    · exact ⟨up (h15 c).1, up (h15 c).2⟩
    · exact ⟨up (h.o15 (dn q (Ne.symm c))).1, up (h.o15 (dn q (Ne.symm c))).2⟩
  · by_cases c : i = 1
    · obtain ⟨rfl, rfl⟩ : d = 80 ∧ x = .pointer (some ⟨gI, 0, none⟩) := by rcases hk with ⟨_, h1, h2⟩ | hk; exact ⟨h1, h2⟩; omega
      exact hS
    · rw [hE 80 (by omega)]; exact h.k1 (dn q (Ne.symm c))
  · by_cases c : i = 2
    · obtain ⟨rfl, rfl⟩ : d = 81 ∧ x = av := by rcases hk with hk | ⟨_, h1, h2⟩ | hk; omega; exact ⟨h1, h2⟩; omega
      exact hS
    · rw [hE 81 (by omega)]; exact h.k2 (dn q (Ne.symm c))
  · by_cases c : i = 4
    · obtain ⟨rfl, rfl⟩ : d = 83 ∧ x = mv := by rcases hk with hk | hk | ⟨_, h1, h2⟩ | hk; omega; omega; exact ⟨h1, h2⟩; omega
      exact hS
    · rw [hE 83 (by omega)]; exact h.k4 (dn q (Ne.symm c))
  · by_cases c : i = 7
    · obtain ⟨rfl, rfl⟩ : d = 86 ∧ x = .pointer (some ⟨gI, 1, none⟩) := by rcases hk with hk | hk | hk | ⟨_, h1, h2⟩ | hk; omega; omega; omega; exact ⟨h1, h2⟩; omega
      exact hS
    · rw [hE 86 (by omega)]; exact h.k7 (dn q (Ne.symm c))
  · by_cases c : i = 8
    · obtain ⟨rfl, rfl⟩ : d = 87 ∧ x = rv := by rcases hk with hk | hk | hk | hk | ⟨_, h1, h2⟩ | hk; omega; omega; omega; omega; exact ⟨h1, h2⟩; omega
      exact hS
    · rw [hE 87 (by omega)]; exact h.k8 (dn q (Ne.symm c))
  · by_cases c : i = 10
    · obtain ⟨rfl, rfl⟩ : d = 89 ∧ x = mv := by rcases hk with hk | hk | hk | hk | hk | ⟨_, h1, h2⟩ | hk; omega; omega; omega; omega; omega; exact ⟨h1, h2⟩; omega
      exact hS
    · rw [hE 89 (by omega)]; exact h.k10 (dn q (Ne.symm c))
  · by_cases c : i = 13
    · obtain ⟨_, rfl, rfl⟩ := h13 c
      rw [hS, hE 84 (by omega), hE 91 (by omega)]
    · have q13 := dn q (Ne.symm c)
      have n5 : i ≠ 5 := fun c5 => by rw [c5, (h.o13 q13).1] at hL; cases hL
      have n12 : i ≠ 12 := fun c5 => by rw [c5, (h.o13 q13).2] at hL; cases hL
      rw [hE 92 (by omega), hE 84 (by omega), hE 91 (by omega)]
      exact h.k13 q13
end
end Go.Proofs.YtncmnbchkabgaaaGreat

namespace Go.Proofs.YtncmnbchkabgaaaGreat
open Go.RowKit Go.Maps

section
variable {W2 : World} {gI : Nat} {av rv mv : Value} {args more : List Int} {us : List Value} {L : Nat → Bool} {e : Nat → Value} {w w' : World} {v : Vals} {bl : List VarD}

theorem rowA : spRow args more us mv L tA = some (intsRow (spA args more L)) := if_pos rfl
theorem rowB : spRow args more us mv L tB = some ⟨22, 1, (spB us mv L).length, spB us mv L⟩ := by
  unfold spRow
  rw [if_neg (by simp), if_pos rfl]

theorem SpS.opA (h : SpS W2 mv args more us L e w v bl) {i d g1 cap : Nat} {x : Value} (hi : (i = 0 ∧ d = 79) ∨ (i = 3 ∧ d = 82) ∨ (i = 5 ∧ d = 84)) (hsp : spE (updB L i) = d) (h15 : L 15 = false) (hx : x = .slice (some ⟨g1, 0, none⟩) (spA args more (updB L i)).length cap)
    (ho : OwnC W2 w' (upd (spRow args more us mv L) tA (some (intsRow (spA args more (updB L i))))) (upd v tA x) (fun t => spD L t ∨ t = tA) bl) : SpS W2 mv args more us (updB L i) (updE e (some d) x) w' (upd v tA x) bl := by
  have hL : ∀ c, c = 6 ∨ c = 9 ∨ c = 11 ∨ c = 12 ∨ c = 14 ∨ c = 15 → updB L i c = L c := fun c hc => updB_ne (by omega)
  have hE : ∀ c, c = 85 ∨ c = 88 ∨ c = 90 ∨ c = 91 ∨ c = 8 → updE e (some d) x c = e c := fun c hc => by
    unfold updE
    rw [if_neg (by simp; omega)]
  have e2 : spG (updB L i) = spG L := by unfold spG; rw [hL 12 (by simp), hL 9 (by simp)]
  have e4 : spB us mv (updB L i) = spB us mv L := by unfold spB; rw [hL 12 (by simp), hL 9 (by simp)]
  have e8 : updE e (some d) x (spG L) = e (spG L) := hE _ (by unfold spG; split; simp; split <;> simp)
  refine ⟨ho.congr (fun t ht => ?_) (fun _ _ => rfl) (fun t ht => ?_), fun _ => ?_, fun h0 => ?_, fun h0 => ?_, fun h0 => ?_⟩
  · rcases ht with ⟨rfl, _⟩ | ⟨rfl, _⟩
    · rw [rowA, upd_same]
    · rw [rowB, upd_ne _ _ (by simp), rowB, e4]
  · rcases ht with ⟨rfl, _⟩ | ⟨rfl, h6⟩
    · exact .inr rfl
    · exact .inl (.inr ⟨rfl, by rwa [hL 6 (by simp)] at h6⟩)
  · rw [hsp]
    refine ⟨?_, g1, cap, by rw [upd_same]; exact hx⟩
    rw [upd_same]
    unfold updE
    rw [if_pos rfl]
  · rw [hL 6 (by simp)] at h0
    rw [e2, e4, e8, upd_ne _ _ (by simp)]
    exact h.b h0
  · rw [hL 11 (by simp)] at h0
    rw [hE 90 (by simp)]
    exact h.n h0
  · rw [hL 14 (by simp)] at h0
    obtain ⟨g, y, z, h1, h2, _⟩ := h.x h0
    rw [hE 8 (by simp), hL 15 (by simp), h15]
    exact ⟨g, y, z, h1, h2, fun h => by cases h⟩

theorem SpS.opB (h : SpS W2 mv args more us L e w v bl) {i d g1 cap : Nat} {x : Value} (hi : (i = 6 ∧ d = 85) ∨ (i = 9 ∧ d = 88) ∨ (i = 12 ∧ d = 91)) (hsp : spG (updB L i) = d) (h15 : L 15 = false) (hx : x = .slice (some ⟨g1, 0, none⟩) (spB us mv (updB L i)).length cap)
    (ho : OwnC W2 w' (upd (spRow args more us mv L) tB (some ⟨22, 1, (spB us mv (updB L i)).length, spB us mv (updB L i)⟩)) (upd v tB x) (fun t => spD L t ∨ t = tB) bl) : SpS W2 mv args more us (updB L i) (updE e (some d) x) w' (upd v tB x) bl := by
  have hL : ∀ c, c = 0 ∨ c = 3 ∨ c = 5 ∨ c = 11 ∨ c = 14 ∨ c = 15 → updB L i c = L c := fun c hc => updB_ne (by omega)
  have hE : ∀ c, c = 79 ∨ c = 82 ∨ c = 84 ∨ c = 90 ∨ c = 8 → updE e (some d) x c = e c := fun c hc => by
    unfold updE
    rw [if_neg (by simp; omega)]
  have e1 : spE (updB L i) = spE L := by unfold spE; rw [hL 5 (by simp), hL 3 (by simp)]
  have e3 : spA args more (updB L i) = spA args more L := by unfold spA; rw [hL 5 (by simp), hL 3 (by simp)]
  have e7 : updE e (some d) x (spE L) = e (spE L) := hE _ (by unfold spE; split; simp; split <;> simp)
  refine ⟨ho.congr (fun t ht => ?_) (fun _ _ => rfl) (fun t ht => ?_), fun h0 => ?_, fun _ => ?_, fun h0 => ?_, fun h0 => ?_⟩
  · rcases ht with ⟨rfl, _⟩ | ⟨rfl, _⟩
    · rw [rowA, upd_ne _ _ (by simp), rowA, e3]
    · rw [rowB, upd_same]
  · rcases ht with ⟨rfl, h6⟩ | ⟨rfl, _⟩
    · exact .inl (.inl ⟨rfl, by rwa [hL 0 (by simp)] at h6⟩)
    · exact .inr rfl
  · rw [hL 0 (by simp)] at h0
    rw [e1, e3, e7, upd_ne _ _ (by simp)]
    exact h.a h0
  · rw [hsp]
    refine ⟨?_, g1, cap, by rw [upd_same]; exact hx⟩
    rw [upd_same]
    unfold updE
    rw [if_pos rfl]
  · rw [hL 11 (by simp)] at h0
    rw [hE 90 (by simp)]
    exact h.n h0
  · rw [hL 14 (by simp)] at h0
    obtain ⟨g, y, z, h1, h2, _⟩ := h.x h0
    rw [hE 8 (by simp), hL 15 (by simp), h15]
    exact ⟨g, y, z, h1, h2, fun h => by cases h⟩

/-- what keeps rows and their names, with more variables -/
theorem SpS.opV (h : SpS W2 mv args more us L e w v bl) {i d : Nat} {x : Value} {bl' : List VarD} (hi : (i = 11 ∧ d = 90) ∨ (i = 14 ∧ d = 8)) (h15 : L 15 = false) (hbl : ∀ y ∈ bl, y ∈ bl') (ho : OwnC W2 w' (spRow args more us mv L) v (spD L) bl')
    (hn : i = 11 → ∃ g, x = .slice (some ⟨g, 0, none⟩) 1 1 ∧ (g, #[mv], 22) ∈ bl') (hx : i = 14 → ∃ g y z, x = .pointer (some ⟨g, 0, none⟩) ∧ (g, #[y, z], 28) ∈ bl') : SpS W2 mv args more us (updB L i) (updE e (some d) x) w' v bl' := by
  have hL : ∀ c, c = 0 ∨ c = 3 ∨ c = 5 ∨ c = 6 ∨ c = 9 ∨ c = 12 ∨ c = 15 → updB L i c = L c := fun c hc => updB_ne (by omega)
  have hE : ∀ c, c = 79 ∨ c = 82 ∨ c = 84 ∨ c = 85 ∨ c = 88 ∨ c = 91 → updE e (some d) x c = e c := fun c hc => by
    unfold updE
    rw [if_neg (by simp; omega)]
  have e1 : spE (updB L i) = spE L := by unfold spE; rw [hL 5 (by simp), hL 3 (by simp)]
  have e2 : spG (updB L i) = spG L := by unfold spG; rw [hL 12 (by simp), hL 9 (by simp)]
  have e3 : spA args more (updB L i) = spA args more L := by unfold spA; rw [hL 5 (by simp), hL 3 (by simp)]
  have e4 : spB us mv (updB L i) = spB us mv L := by unfold spB; rw [hL 12 (by simp), hL 9 (by simp)]
  have e5 : spRow args more us mv (updB L i) = spRow args more us mv L := by unfold spRow; rw [e3, e4]
  have e6 : spD (updB L i) = spD L := by unfold spD; rw [hL 0 (by simp), hL 6 (by simp)]
  have e7 : updE e (some d) x (spE L) = e (spE L) := hE _ (by unfold spE; split; simp; split <;> simp)
  have e8 : updE e (some d) x (spG L) = e (spG L) := hE _ (by unfold spG; split; simp; split <;> simp)
  have hS : updE e (some d) x d = x := by unfold updE; rw [if_pos rfl]
  have hO : ∀ c, d ≠ c → updE e (some d) x c = e c := fun c hc => by
    unfold updE
    rw [if_neg (by simpa using hc)]
  refine ⟨by rw [e5, e6]; exact ho, fun h0 => ?_, fun h0 => ?_, fun h0 => ?_, fun h0 => ?_⟩
  · rw [hL 0 (by simp)] at h0
    rw [e1, e3, e7]
    exact h.a h0
  · rw [hL 6 (by simp)] at h0
    rw [e2, e4, e8]
    exact h.b h0
  · by_cases c : i = 11
    · obtain rfl : d = 90 := by omega
      rw [hS]
      exact hn c
    · rw [updB_ne c] at h0
      rw [hO 90 (by omega)]
      obtain ⟨g, h1, h2⟩ := h.n h0
      exact ⟨g, h1, hbl _ h2⟩
  · rw [hL 15 (by simp), h15]
    by_cases c : i = 14
    · obtain rfl : d = 8 := by omega
      rw [hS]
      obtain ⟨g, y, z, h1, h2⟩ := hx c
      exact ⟨g, y, z, h1, h2, fun h => by cases h⟩
    · rw [updB_ne c] at h0
      rw [hO 8 (by omega)]
      obtain ⟨g, y, z, h1, h2, _⟩ := h.x h0
      exact ⟨g, y, z, h1, hbl _ h2, fun h => by cases h⟩

/-- a variable among others is written -/
theorem OwnC.storeIn {w0 : World} {row : Rows} {D : Tag → Prop} {g j : Nat} {cs : Array Value} {T : TypeId} (h : OwnC w0 w row v D bl) (hm : (g, cs, T) ∈ bl) (u : Value) : OwnC w0 (w.setCell ⟨g, j, none⟩ u) row v D [(g, cs.setIfInBounds j u, T)] :=
  (h.drop (List.singleton_sublist.2 hm)).store u
end
end Go.Proofs.YtncmnbchkabgaaaGreat

namespace Go.Proofs.YtncmnbchkabgaaaGreat
open Go.RowKit Go.Maps

theorem exec_append {ev : Operand → Value} {w w' : World} {o : Oper} {s x : Operand} {sl : TypeId} {v vs vx : Value} (ho : o.op = .call { callee := .builtin .append, args := #[s, x], argTypes := #[sl, sl] }) (hs : ev s = vs) (hx : ev x = vx)
    (hr : (Builtin.append_ #[sl, sl] o.type #[vs, vx]).run Tryz.prog w = .ok v w') : (execOp ev o).run Tryz.prog w = .ok (.value v) w' := by
  unfold execOp
  simp only [ho, resolve, invoke, builtin, Sem.run_bind, Sem.run_pure, Result.andThen_ok, List.map_toArray, List.map_cons, List.map_nil, hs, hx, hr]

theorem exec_emptyI (ev : Operand → Value) (w : World) (d : Nat) (pos : String) (af : Array Edge) (g) (ty : TypeId) : (execOp ev { dst := some d, op := .buildSlice 22 0 #[], type := ty, pos := pos, after := af, guard := g }).run Tryz.prog w = .ok (.value (.slice (some ⟨w.heap.size, 0, none⟩) 0 0)) (w.alloc (.cells #[] 3)) := by go_simp
theorem exec_emptyL (ev : Operand → Value) (w : World) (d : Nat) (pos : String) (af : Array Edge) (g) (ty : TypeId) : (execOp ev { dst := some d, op := .buildSlice 26 0 #[], type := ty, pos := pos, after := af, guard := g }).run Tryz.prog w = .ok (.value (.slice (some ⟨w.heap.size, 0, none⟩) 0 0)) (w.alloc (.cells #[] 22)) := by go_simp
theorem exec_one (ev : Operand → Value) (w : World) (d t : Nat) (A : Option Addr) (n c : Nat) (pos : String) (af : Array Edge) (g) (ty : TypeId) (h : ev (.tmp t) = .slice A n c) : (execOp ev { dst := some d, op := .buildSlice 26 1 #[(0, .tmp t)], type := ty, pos := pos, after := af, guard := g }).run Tryz.prog w = .ok (.value (.slice (some ⟨w.heap.size, 0, none⟩) 1 1)) (w.alloc (.cells #[.slice A n c] 22)) := by go_simp
theorem exec_build (ev : Operand → Value) (w : World) (d t u : Nat) (A0 A1 : Option Addr) (n0 c0 n1 c1 : Nat) (pos : String) (af : Array Edge) (g) (ty : TypeId) (h1 : ev (.tmp t) = .slice A0 n0 c0) (h2 : ev (.tmp u) = .slice A1 n1 c1) : (execOp ev { dst := some d, op := .build 28 #[(0, .tmp t), (1, .tmp u)], type := ty, pos := pos, after := af, guard := g }).run Tryz.prog w = .ok (.value (.agg #[.slice A0 n0 c0, .slice A1 n1 c1])) w := by go_simp
theorem exec_alloc (ev : Operand → Value) (w : World) (d : Nat) (pos : String) (af : Array Edge) (g) (ty : TypeId) : (execOp ev { dst := some d, op := .alloc 28, type := ty, pos := pos, after := af, guard := g }).run Tryz.prog w = .ok (.value (.pointer (some ⟨w.heap.size, 0, none⟩))) (w.alloc (.cells #[.slice none 0 0, .slice none 0 0] 28)) := by go_simp
theorem exec_field (ev : Operand → Value) (w : World) (d t b j : Nat) (pos : String) (af : Array Edge) (g) (ty : TypeId) (h : ev (.tmp t) = .pointer (some ⟨b, 0, none⟩)) (hj : j = 0 ∨ j = 1) : (execOp ev { dst := some d, op := .fieldAddr 28 (.tmp t) j, type := ty, pos := pos, after := af, guard := g }).run Tryz.prog w = .ok (.value (.pointer (some ⟨b, j, none⟩))) w := by
  rcases hj with rfl | rfl <;> go_simp
theorem exec_loadI (ev : Operand → Value) (w : World) (d t b j : Nat) (v : Value) (pos : String) (af : Array Edge) (g) (ty : TypeId) (h : ev (.tmp t) = .pointer (some ⟨b, j, none⟩)) (hc : w.cell? ⟨b, j, none⟩ = some v) : (execOp ev { dst := some d, op := .load 22 (.tmp t), type := ty, pos := pos, after := af, guard := g }).run Tryz.prog w = .ok (.value v) w := by go_simp
theorem exec_loadL (ev : Operand → Value) (w : World) (d t b j : Nat) (v : Value) (pos : String) (af : Array Edge) (g) (ty : TypeId) (h : ev (.tmp t) = .pointer (some ⟨b, j, none⟩)) (hc : w.cell? ⟨b, j, none⟩ = some v) : (execOp ev { dst := some d, op := .load 26 (.tmp t), type := ty, pos := pos, after := af, guard := g }).run Tryz.prog w = .ok (.value v) w := by go_simp
theorem exec_store (ev : Operand → Value) (w : World) (t s b : Nat) (x0 x1 : Value) (A0 A1 : Option Addr) (n0 c0 n1 c1 : Nat) (pos : String) (af : Array Edge) (g) (ty : TypeId) (h1 : ev (.tmp t) = .pointer (some ⟨b, 0, none⟩)) (h2 : ev (.tmp s) = .agg #[.slice A0 n0 c0, .slice A1 n1 c1]) (hw : w.heap[b]? = some (.cells #[x0, x1] 28 (0, 0))) :
    (execOp ev { dst := none, op := .store 28 (.tmp t) (.tmp s), type := ty, pos := pos, after := af, guard := g }).run Tryz.prog w = .ok .skip ((w.setCell ⟨b, 0, none⟩ (.slice A0 n0 c0)).setCell ⟨b, 1, none⟩ (.slice A1 n1 c1)) := by
  have hx := row_cells hw rfl
  have y0 : w.cell? ⟨b, 0, none⟩ = some x0 := hx 0
  have y1 : w.cell? ⟨b, 1, none⟩ = some x1 := hx 1
  have z0 := frozen_of_row w b 0 _ _ hw
  have z1 := frozen_of_row w b 1 _ _ hw
  clear hx
  go_simp

section
variable {W2 : World} {gI : Nat} {av rv mv : Value} {args more : List Int} {us : List Value} {Q : Exit → Act → World → Prop} {ops : Array Oper} {a0 : Act} {ds : List Nat}

abbrev SpM (W2 : World) (gI : Nat) (av rv mv : Value) (args more : List Int) (us : List Value) : (Nat → Bool) → (Nat → Value) → World → Prop := fun L e w => SpF W2 gI av rv mv args more us (maskB 16 L) e w

set_option maxRecDepth 100000 in
/-- an operation that has a value -/
theorem sp_step {i d : Nat} {o : Oper} (aw : List Nat) (hi : i < 16) (hd : o.dst = some d) (hg : o.guard = none) (haw : awaitsB o.after.toList aw 16 = true)
    (H : ∀ (L : Nat → Bool) (e : Nat → Value) (w : World) (a : Act), L i = false → (∀ k ∈ aw, L k = true) → SpF W2 gI av rv mv args more us L e w → (∀ d ∈ ds, a.eval (.tmp d) = e d) → (∀ d, d ∉ ds → a.eval (.tmp d) = a0.eval (.tmp d)) →
      ∃ x w', (execOp a.eval o).run Tryz.prog w = .ok (.value x) w' ∧ SpF W2 gI av rv mv args more us (updB L i) (updE e (some d) x) w') : StepOk Tryz.prog ops Q a0 ds (SpM W2 gI av rv mv args more us) i o := by
  intro L e w a hL haf hF hin hout K hK
  rw [if_pos (by unfold Region.wanted; rw [hg])]
  have hdone : ∀ k ∈ aw, maskB 16 L k = true := fun k hk => by
    obtain ⟨hkn, x, hx, hb, rfl⟩ := awaits_spec haw k hk
    exact mask_of (haf x hx hb) hkn
  obtain ⟨x, w', hr, h2⟩ := H (maskB 16 L) e w a (by unfold maskB; rw [hL]; rfl) hdone hF hin hout
  unfold Oper.wp
  rw [hr]
  refine hK _ _ ?_
  show SpF W2 gI av rv mv args more us (maskB 16 (updB L i)) _ _
  rw [mask_upd hi, hd]
  exact h2
end
end Go.Proofs.YtncmnbchkabgaaaGreat

namespace Go.Proofs.YtncmnbchkabgaaaGreat
open Go.RowKit Go.Maps

section
variable {W2 : World} {gI : Nat} {av rv mv : Value} {args more : List Int} {us : List Value} {L : Nat → Bool} {e : Nat → Value} {w : World}

theorem not15 {i : Nat} (h : SpF W2 gI av rv mv args more us L e w) (hL : L i = false) (hi : i = 0 ∨ i = 3 ∨ i = 5 ∨ i = 6 ∨ i = 9 ∨ i = 11 ∨ i = 12 ∨ i = 14) : L 15 = false := by
  cases h15 : L 15 with
  | false => rfl
  | true =>
    obtain ⟨h13, h14⟩ := h.o15 h15
    obtain ⟨h5, h12⟩ := h.o13 h13
    obtain ⟨h9, h11⟩ := h.o12 h12
    obtain ⟨h6, _⟩ := h.o9 h9
    have h3 := h.o5 h5
    have h0 := h.o3 h3
    rcases hi with rfl | rfl | rfl | rfl | rfl | rfl | rfl | rfl
    all_goals first | (rw [h0] at hL; cases hL) | (rw [h3] at hL; cases hL) | (rw [h5] at hL; cases hL) | (rw [h6] at hL; cases hL) | (rw [h9] at hL; cases hL) | (rw [h11] at hL; cases hL) | (rw [h12] at hL; cases hL) | (rw [h14] at hL; cases hL)

/-- an empty list of numbers -/
theorem step0 (h : SpF W2 gI av rv mv args more us L e w) (hL : L 0 = false) : SpF W2 gI av rv mv args more us (updB L 0) (updE e (some 79) (.slice (some ⟨w.heap.size, 0, none⟩) 0 0)) (w.alloc (.cells #[] 3)) := by
  have h3 : L 3 = false := by cases q : L 3 with | false => rfl | true => rw [h.o3 q] at hL; cases hL
  have h5 : L 5 = false := by cases q : L 5 with | false => rfl | true => rw [h.o5 q] at h3; cases h3
  have h15 := not15 h hL (by simp)
  obtain ⟨v, bl, hs⟩ := h.st
  have es : spA args more (updB L 0) = [] := by unfold spA; rw [updB_ne (by omega), updB_ne (by omega), h5, h3]; rfl
  have ho := hs.own.empty (t0 := tA) (fun hd => by rcases hd with ⟨_, q⟩ | ⟨q, _⟩; rw [hL] at q; cases q; cases q)
  refine h.put hL (by omega) (by omega) (by omega) (by omega) (by omega) (by omega) (by simp) ⟨_, bl, hs.opA (g1 := w.heap.size) (cap := 0) (.inl ⟨rfl, rfl⟩) (by unfold spE; rw [updB_ne (by omega), updB_ne (by omega), h5, h3]; rfl) h15 (by rw [es]; rfl) (by rw [es]; exact ho)⟩

/-- an empty list of lists -/
theorem step6 (h : SpF W2 gI av rv mv args more us L e w) (hL : L 6 = false) : SpF W2 gI av rv mv args more us (updB L 6) (updE e (some 85) (.slice (some ⟨w.heap.size, 0, none⟩) 0 0)) (w.alloc (.cells #[] 22)) := by
  have h9 : L 9 = false := by cases q : L 9 with | false => rfl | true => rw [(h.o9 q).1] at hL; cases hL
  have h12 : L 12 = false := by cases q : L 12 with | false => rfl | true => rw [(h.o12 q).1] at h9; cases h9
  have h15 := not15 h hL (by simp)
  obtain ⟨v, bl, hs⟩ := h.st
  have es : spB us mv (updB L 6) = [] := by unfold spB; rw [updB_ne (by omega), updB_ne (by omega), h12, h9]; rfl
  have ho := hs.own.emptyT (t0 := tB) 22 (fun hd => by rcases hd with ⟨q, _⟩ | ⟨_, q⟩; cases q; rw [hL] at q; cases q)
  refine h.put hL (by omega) (by omega) (by omega) (by omega) (by omega) (by omega) (by simp) ⟨_, bl, hs.opB (g1 := w.heap.size) (cap := 0) (.inl ⟨rfl, rfl⟩) (by unfold spG; rw [updB_ne (by omega), updB_ne (by omega), h12, h9]; rfl) h15 (by rw [es]; rfl) (by rw [es]; exact ho)⟩

/-- numbers are laid behind numbers -/
theorem stepA {i d n0 : Nat} {ys xs : List Int} {w' : World} {g0 c0 g1 cap : Nat} (h : SpF W2 gI av rv mv args more us L e w) (hL : L i = false) (hi : (i = 3 ∧ d = 82 ∧ L 0 = true) ∨ (i = 5 ∧ d = 84 ∧ L 3 = true)) {v : Vals} {bl : List VarD} (hs : SpS W2 mv args more us L e w v bl) (hA : spA args more L = ys) (hA' : spA args more (updB L i) = ys ++ xs) (hE : spE (updB L i) = d) (hv : v tA = .slice (some ⟨g0, 0, none⟩) n0 c0)
    (hown : w'.ownsRow W2.heap.size 3 1 (.slice (some ⟨g1, 0, none⟩) (ys.length + xs.length) cap) (ys.length + xs.length) ((ys ++ xs).map (Value.int .i64))) (hg : w.grownBy w' (some g0)) (hor : g1 = g0 ∨ g1 = w.heap.size) : SpF W2 gI av rv mv args more us (updB L i) (updE e (some d) (.slice (some ⟨g1, 0, none⟩) (ys.length + xs.length) cap)) w' := by
  have hown' : w'.ownsRow W2.heap.size 3 1 (.slice (some ⟨g1, 0, none⟩) (ys.length + xs.length) cap) (ys ++ xs).length ((ys ++ xs).map (Value.int .i64)) := by rw [List.length_append]; exact hown
  have key : ∀ h0 : L 0 = true, OwnC W2 w' (upd (spRow args more us mv L) tA (some (intsRow (ys ++ xs)))) (upd v tA (.slice (some ⟨g1, 0, none⟩) (ys.length + xs.length) cap)) (fun t => spD L t ∨ t = tA) bl := fun h0 => (OwnC.grow (t0 := tA) (d := intsRow (ys ++ xs)) hs.own (.inl ⟨rfl, h0⟩) hown' (by rw [hv]; exact hg) rfl (by rw [hv]; rcases hor with q | q; exact .inl (by rw [q]; rfl); exact .inr q)).congr (D' := fun t => spD L t ∨ t = tA) (fun _ _ => rfl) (fun _ _ => rfl) (fun t ht => ht.elim id (fun q => q ▸ .inl ⟨rfl, h0⟩))
  rcases hi with ⟨rfl, rfl, h0⟩ | ⟨rfl, rfl, h3⟩
  · exact h.put hL (fun _ => h0) (by omega) (by omega) (by omega) (by omega) (by omega) (by simp) ⟨_, bl, hs.opA (g1 := g1) (cap := cap) (by simp) hE (not15 h hL (by simp)) (by rw [hA', List.length_append]) (by rw [hA']; exact key h0)⟩
  · exact h.put hL (by omega) (fun _ => h3) (by omega) (by omega) (by omega) (by omega) (by simp) ⟨_, bl, hs.opA (g1 := g1) (cap := cap) (by simp) hE (not15 h hL (by simp)) (by rw [hA', List.length_append]) (by rw [hA']; exact key (h.o3 h3))⟩

/-- lists are laid behind lists -/
theorem stepB {i d n0 : Nat} {ys xs : List Value} {w' : World} {g0 c0 g1 cap : Nat} (h : SpF W2 gI av rv mv args more us L e w) (hL : L i = false) (hi : (i = 9 ∧ d = 88 ∧ L 6 = true ∧ L 5 = true) ∨ (i = 12 ∧ d = 91 ∧ L 9 = true ∧ L 11 = true)) {v : Vals} {bl : List VarD} (hs : SpS W2 mv args more us L e w v bl) (hA' : spB us mv (updB L i) = ys ++ xs) (hE : spG (updB L i) = d) (hv : v tB = .slice (some ⟨g0, 0, none⟩) n0 c0)
    (hown : w'.ownsRow W2.heap.size 22 1 (.slice (some ⟨g1, 0, none⟩) (ys.length + xs.length) cap) (ys.length + xs.length) (ys ++ xs)) (hg : w.grownBy w' (some g0)) (hor : g1 = g0 ∨ g1 = w.heap.size) : SpF W2 gI av rv mv args more us (updB L i) (updE e (some d) (.slice (some ⟨g1, 0, none⟩) (ys.length + xs.length) cap)) w' := by
  have hown' : w'.ownsRow W2.heap.size 22 1 (.slice (some ⟨g1, 0, none⟩) (ys.length + xs.length) cap) (ys ++ xs).length (ys ++ xs) := by rw [List.length_append]; exact hown
  have key : ∀ h6 : L 6 = true, OwnC W2 w' (upd (spRow args more us mv L) tB (some ⟨22, 1, (ys ++ xs).length, ys ++ xs⟩)) (upd v tB (.slice (some ⟨g1, 0, none⟩) (ys.length + xs.length) cap)) (fun t => spD L t ∨ t = tB) bl := fun h6 => (OwnC.grow (t0 := tB) (d := ⟨22, 1, (ys ++ xs).length, ys ++ xs⟩) hs.own (.inr ⟨rfl, h6⟩) hown' (by rw [hv]; exact hg) rfl (by rw [hv]; rcases hor with q | q; exact .inl (by rw [q]; rfl); exact .inr q)).congr (D' := fun t => spD L t ∨ t = tB) (fun _ _ => rfl) (fun _ _ => rfl) (fun t ht => ht.elim id (fun q => q ▸ .inr ⟨rfl, h6⟩))
  rcases hi with ⟨rfl, rfl, h6, h5⟩ | ⟨rfl, rfl, h9, h11⟩
  · exact h.put hL (by omega) (by omega) (fun _ => ⟨h6, h5⟩) (by omega) (by omega) (by omega) (by simp) ⟨_, bl, hs.opB (g1 := g1) (cap := cap) (by simp) hE (not15 h hL (by simp)) (by rw [hA', List.length_append]) (by rw [hA']; exact key h6)⟩
  · exact h.put hL (by omega) (by omega) (by omega) (fun _ => ⟨h9, h11⟩) (by omega) (by omega) (by simp) ⟨_, bl, hs.opB (g1 := g1) (cap := cap) (by simp) hE (not15 h hL (by simp)) (by rw [hA', List.length_append]) (by rw [hA']; exact key (h.o9 h9).1)⟩

/-- a list of one list is made -/
theorem step11 (h : SpF W2 gI av rv mv args more us L e w) (hL : L 11 = false) : SpF W2 gI av rv mv args more us (updB L 11) (updE e (some 90) (.slice (some ⟨w.heap.size, 0, none⟩) 1 1)) (w.alloc (.cells #[mv] 22)) := by
  have h15 := not15 h hL (by simp)
  obtain ⟨v, bl, hs⟩ := h.st
  refine h.put hL (by omega) (by omega) (by omega) (by omega) (by omega) (by omega) (by simp) ⟨v, _, hs.opV (.inl ⟨rfl, rfl⟩) h15 (fun y hy => List.mem_cons_of_mem _ hy) (hs.own.make #[mv] 22) (fun _ => ⟨_, rfl, List.mem_cons_self ..⟩) (by omega)⟩

/-- the wider input's variable is made -/
theorem step14 (h : SpF W2 gI av rv mv args more us L e w) (hL : L 14 = false) : SpF W2 gI av rv mv args more us (updB L 14) (updE e (some 8) (.pointer (some ⟨w.heap.size, 0, none⟩))) (w.alloc (.cells #[.slice none 0 0, .slice none 0 0] 28)) := by
  have h15 := not15 h hL (by simp)
  obtain ⟨v, bl, hs⟩ := h.st
  refine h.put hL (by omega) (by omega) (by omega) (by omega) (by omega) (by omega) (by simp) ⟨v, _, hs.opV (.inr ⟨rfl, rfl⟩) h15 (fun y hy => List.mem_cons_of_mem _ hy) (hs.own.make #[.slice none 0 0, .slice none 0 0] 28) (by omega) (fun _ => ⟨_, _, _, rfl, List.mem_cons_self ..⟩)⟩

/-- what is known, or built of what is there -/
theorem stepK {i d : Nat} {x : Value} (h : SpF W2 gI av rv mv args more us L e w) (hL : L i = false)
    (hk : i = 1 ∧ d = 80 ∧ x = .pointer (some ⟨gI, 0, none⟩) ∨ i = 2 ∧ d = 81 ∧ x = av ∨ i = 4 ∧ d = 83 ∧ x = mv ∨ i = 7 ∧ d = 86 ∧ x = .pointer (some ⟨gI, 1, none⟩) ∨ i = 8 ∧ d = 87 ∧ x = rv ∨ i = 10 ∧ d = 89 ∧ x = mv ∨ i = 13 ∧ d = 92 ∧ (L 5 = true ∧ L 12 = true) ∧ x = .agg #[e 84, e 91]) : SpF W2 gI av rv mv args more us (updB L i) (updE e (some d) x) w := by
  obtain ⟨v, bl, hs⟩ := h.st
  rcases hk with ⟨rfl, rfl, rfl⟩ | ⟨rfl, rfl, rfl⟩ | ⟨rfl, rfl, rfl⟩ | ⟨rfl, rfl, rfl⟩ | ⟨rfl, rfl, rfl⟩ | ⟨rfl, rfl, rfl⟩ | ⟨rfl, rfl, h3, rfl⟩
  · exact h.put hL (by omega) (by omega) (by omega) (by omega) (by omega) (by omega) (by simp) ⟨v, bl, hs.same (by simp)⟩
  · exact h.put hL (by omega) (by omega) (by omega) (by omega) (by omega) (by omega) (by simp) ⟨v, bl, hs.same (by simp)⟩
  · exact h.put hL (by omega) (by omega) (by omega) (by omega) (by omega) (by omega) (by simp) ⟨v, bl, hs.same (by simp)⟩
  · exact h.put hL (by omega) (by omega) (by omega) (by omega) (by omega) (by omega) (by simp) ⟨v, bl, hs.same (by simp)⟩
  · exact h.put hL (by omega) (by omega) (by omega) (by omega) (by omega) (by omega) (by simp) ⟨v, bl, hs.same (by simp)⟩
  · exact h.put hL (by omega) (by omega) (by omega) (by omega) (by omega) (by omega) (by simp) ⟨v, bl, hs.same (by simp)⟩
  · exact h.put hL (by omega) (by omega) (by omega) (by omega) (fun _ => ⟨h3, rfl, rfl⟩) (by omega) (by simp) ⟨v, bl, hs.same (by simp)⟩
end
end Go.Proofs.YtncmnbchkabgaaaGreat
