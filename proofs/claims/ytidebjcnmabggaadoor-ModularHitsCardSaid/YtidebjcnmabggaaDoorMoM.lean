/- Steps modulo a number: the first that comes into a span, by rounds; plain facts. -/
import Derived.Test.YtidebjcnmabggaaDoorRows
namespace Go.Proofs.YtidebjcnmabggaaDoor.Mo

/-- a round: what is reckoned modulo, the step, the span -/
structure Rnd where
  M : Nat
  s : Nat
  lo : Nat
  hi : Nat

structure Rnd.Ok (r : Rnd) : Prop where
  lo0 : 0 < r.lo
  span : r.lo ≤ r.hi
  hi1 : r.hi < r.M
  step : r.s < r.M

/-- so many steps come into the span -/
def Rnd.Hits (r : Rnd) (n : Nat) : Prop := r.lo ≤ (n * r.s) % r.M ∧ (n * r.s) % r.M ≤ r.hi
def Rnd.Least (r : Rnd) (n : Nat) : Prop := r.Hits n ∧ ∀ m, m < n → ¬ r.Hits m
def Rnd.Never (r : Rnd) : Prop := ∀ m, ¬ r.Hits m

def Rnd.flip (r : Rnd) : Rnd := ⟨r.M, r.M - r.s, r.M - r.hi, r.M - r.lo⟩
def Rnd.short (r : Rnd) : Rnd := if r.s ≤ r.M - r.s then r else r.flip

theorem Rnd.flip_hits {r : Rnd} (h : r.Ok) (n : Nat) : r.flip.Hits n ↔ r.Hits n := by
  obtain ⟨h1, h2, h3, h4⟩ := h
  unfold Rnd.Hits Rnd.flip
  show r.M - r.hi ≤ n * (r.M - r.s) % r.M ∧ n * (r.M - r.s) % r.M ≤ r.M - r.lo ↔ _
  have e : (n * (r.M - r.s) + n * r.s) % r.M = 0 := by
    rw [← Nat.mul_add, show r.M - r.s + r.s = r.M by omega]
    exact Nat.mul_mod_left n r.M
  rw [Nat.add_mod] at e
  have a1 := Nat.mod_lt (n * (r.M - r.s)) (by omega : 0 < r.M)
  have a2 := Nat.mod_lt (n * r.s) (by omega : 0 < r.M)
  obtain ⟨x, hx⟩ : ∃ x, x = n * (r.M - r.s) % r.M := ⟨_, rfl⟩
  obtain ⟨y, hy⟩ : ∃ y, y = n * r.s % r.M := ⟨_, rfl⟩
  rw [← hx, ← hy] at e
  rw [← hx] at a1 ⊢
  rw [← hy] at a2 ⊢
  rcases Nat.lt_or_ge (x + y) r.M with hl | hl
  · rw [Nat.mod_eq_of_lt hl] at e
    omega
  · rw [Nat.mod_eq_sub_mod hl, Nat.mod_eq_of_lt (by omega)] at e
    omega

theorem Rnd.flip_ok {r : Rnd} (h : r.Ok) (hs : 0 < r.s) : r.flip.Ok := by
  obtain ⟨h1, h2, h3, h4⟩ := h
  exact ⟨by show 0 < r.M - r.hi; omega, by show r.M - r.hi ≤ r.M - r.lo; omega, by show r.M - r.lo < r.M; omega, by show r.M - r.s < r.M; omega⟩

theorem Rnd.short_hits {r : Rnd} (h : r.Ok) (n : Nat) : r.short.Hits n ↔ r.Hits n := by
  unfold Rnd.short
  split
  · exact Iff.rfl
  · exact Rnd.flip_hits h n
theorem Rnd.short_ok {r : Rnd} (h : r.Ok) (hs : 0 < r.s) : r.short.Ok := by
  unfold Rnd.short
  split
  · exact h
  · exact Rnd.flip_ok h hs
theorem Rnd.short_half {r : Rnd} (h : r.Ok) (hs : 0 < r.s) : r.short.M = r.M ∧ 0 < r.short.s ∧ 2 * r.short.s ≤ r.M := by
  have := h.step
  unfold Rnd.short
  split
  · exact ⟨rfl, hs, by omega⟩
  · exact ⟨rfl, by show 0 < r.M - r.s; omega, by show 2 * (r.M - r.s) ≤ r.M; omega⟩
theorem Rnd.least_of {r t : Rnd} (h : ∀ n, t.Hits n ↔ r.Hits n) {n : Nat} (hl : t.Least n) : r.Least n :=
  ⟨(h n).mp hl.1, fun m hm hh => hl.2 m hm ((h m).mpr hh)⟩
theorem Rnd.never_of {r t : Rnd} (h : ∀ n, t.Hits n ↔ r.Hits n) (hl : t.Never) : r.Never := fun m hm => hl m ((h m).mpr hm)

theorem Rnd.one {r : Rnd} {n m : Nat} (h : r.Least n) (h2 : r.Least m) : n = m := by
  rcases Nat.lt_trichotomy n m with h3 | h3 | h3
  · exact absurd h.1 (h2.2 _ h3)
  · exact h3
  · exact absurd h2.1 (h.2 _ h3)

theorem Rnd.Least.below {r : Rnd} (h : r.Ok) {n : Nat} (hl : r.Least n) : n < r.M := by
  rcases Nat.lt_or_ge n r.M with h1 | h1
  · exact h1
  · exfalso
    have h0 := h.step
    refine hl.2 (n - r.M) (by omega) ?_
    have e : n * r.s % r.M = (n - r.M) * r.s % r.M := by
      rw [Nat.sub_mul]
      have : r.M * r.s ≤ n * r.s := Nat.mul_le_mul_right _ h1
      have e2 : n * r.s = (n * r.s - r.M * r.s) + r.M * r.s := by omega
      rw [e2, Nat.add_mul_mod_self_left, ← e2]
    have := hl.1
    unfold Rnd.Hits at this ⊢
    rw [e] at this
    exact this

def Rnd.ahead (r : Rnd) : Nat := (r.lo - 1) / r.s

theorem Rnd.hit {r : Rnd} (h : r.Ok) (hs : 0 < r.s) (hk : r.ahead + 1 ≤ r.hi / r.s) : r.Least (r.ahead + 1) := by
  obtain ⟨h1, h2, h3, h4⟩ := h
  unfold Rnd.ahead at hk ⊢
  have a1 := Nat.div_add_mod (r.lo - 1) r.s
  have a2 := Nat.mod_lt (r.lo - 1) hs
  have a3 := (Nat.le_div_iff_mul_le hs).mp hk
  have e : ((r.lo - 1) / r.s + 1) * r.s = r.s * ((r.lo - 1) / r.s) + r.s := by rw [Nat.add_mul, Nat.one_mul, Nat.mul_comm]
  rw [e] at a3
  refine ⟨?_, ?_⟩
  · unfold Rnd.Hits
    rw [e, Nat.mod_eq_of_lt (by omega)]
    omega
  · intro m hm hh
    have b1 : m * r.s ≤ r.s * ((r.lo - 1) / r.s) := by rw [Nat.mul_comm]; exact Nat.mul_le_mul_left _ (by omega)
    unfold Rnd.Hits at hh
    rw [Nat.mod_eq_of_lt (by omega)] at hh
    omega

/-- the round of how often the steps go over the end -/
def Rnd.next (r : Rnd) : Rnd := ⟨r.s, r.s - 1 - (r.M - 1) % r.s, r.lo % r.s, r.hi % r.s⟩
def Rnd.reach (r : Rnd) (t : Nat) : Nat := (t * r.M + (r.lo - 1)) / r.s + 1

theorem Rnd.next_step {r : Rnd} (h : r.Ok) (hs : 0 < r.s) : (r.next.s + r.M) % r.s = 0 := by
  have h0 := h.step
  show (r.s - 1 - (r.M - 1) % r.s + r.M) % r.s = 0
  have a1 := Nat.div_add_mod (r.M - 1) r.s
  have a2 := Nat.mod_lt (r.M - 1) hs
  have e : r.s - 1 - (r.M - 1) % r.s + r.M = r.s * ((r.M - 1) / r.s) + r.s := by omega
  rw [e, show r.s * ((r.M - 1) / r.s) + r.s = r.s * ((r.M - 1) / r.s + 1) by rw [Nat.mul_add, Nat.mul_one]]
  exact Nat.mul_mod_right _ _

/-- no multiple of the step in the span: all of it lies between two -/
theorem Rnd.miss {r : Rnd} (h : r.Ok) (hs : 0 < r.s) (hk : ¬ r.ahead + 1 ≤ r.hi / r.s) :
    ∃ q, q * r.s + r.lo % r.s = r.lo ∧ q * r.s + r.hi % r.s = r.hi ∧ 0 < r.lo % r.s := by
  obtain ⟨h1, h2, h3, h4⟩ := h
  unfold Rnd.ahead at hk
  have a1 := Nat.div_add_mod (r.lo - 1) r.s
  have a2 := Nat.mod_lt (r.lo - 1) hs
  have b1 := Nat.div_add_mod r.hi r.s
  have b2 := Nat.mod_lt r.hi hs
  have c1 : (r.lo - 1) / r.s ≤ r.hi / r.s := Nat.div_le_div_right (by omega)
  have e : (r.lo - 1) / r.s = r.hi / r.s := by omega
  rw [e] at a1
  obtain ⟨q, hq⟩ : ∃ q, q = r.hi / r.s := ⟨_, rfl⟩
  rw [← hq] at a1 b1
  have hlo : r.lo = q * r.s + ((r.lo - 1) % r.s + 1) := by rw [Nat.mul_comm]; omega
  have hlt : (r.lo - 1) % r.s + 1 < r.s := by omega
  have hlm : r.lo % r.s = (r.lo - 1) % r.s + 1 := by
    have e3 : (q * r.s + ((r.lo - 1) % r.s + 1)) % r.s = (r.lo - 1) % r.s + 1 := by
      rw [Nat.mul_add_mod_self_right, Nat.mod_eq_of_lt hlt]
    exact (congrArg (· % r.s) hlo).trans e3
  exact ⟨q, by omega, by rw [Nat.mul_comm]; exact b1, by omega⟩

theorem Rnd.next_ok {r : Rnd} (h : r.Ok) (hs : 0 < r.s) (hk : ¬ r.ahead + 1 ≤ r.hi / r.s) : r.next.Ok := by
  obtain ⟨q, e1, e2, e3⟩ := Rnd.miss h hs hk
  have := h.span
  exact ⟨e3, by show r.lo % r.s ≤ r.hi % r.s; omega, Nat.mod_lt _ hs, by show r.s - 1 - (r.M - 1) % r.s < r.s; omega⟩

theorem mod_split {q s c t : Nat} (hs : 0 < s) (h : (q * s + c) % s = t % s) (hc : c < s) : t % s = c := by
  rw [← h, Nat.mul_add_mod_self_right, Nat.mod_eq_of_lt hc]

/-- what comes into the span has gone over the end so many times -/
theorem Rnd.hits_next {r : Rnd} (h : r.Ok) (hs : 0 < r.s) (hk : ¬ r.ahead + 1 ≤ r.hi / r.s) {n : Nat} (hh : r.Hits n) : r.next.Hits (n * r.s / r.M) := by
  obtain ⟨q, e1, e2, e3⟩ := Rnd.miss h hs hk
  have hd := Rnd.next_step h hs
  have a1 := Nat.div_add_mod (n * r.s) r.M
  obtain ⟨t, ht⟩ : ∃ t, t = n * r.s / r.M := ⟨_, rfl⟩
  obtain ⟨x, hx⟩ : ∃ x, x = n * r.s % r.M := ⟨_, rfl⟩
  unfold Rnd.Hits at hh
  rw [← hx] at hh a1
  rw [← ht] at a1 ⊢
  have b2 := Nat.mod_lt r.hi hs
  -- x = q s + c
  obtain ⟨c, hc⟩ : ∃ c, x = q * r.s + c := ⟨x - q * r.s, by omega⟩
  have hcs : c < r.s := by omega
  have e4 : (t * r.next.s) % r.s = c := by
    have d1 : (t * r.next.s + t * r.M) % r.s = 0 := by
      rw [← Nat.mul_add, Nat.mul_mod, hd, Nat.mul_zero, Nat.zero_mod]
    -- t M + x = n s
    have d2 : (t * r.M + c) % r.s = 0 := by
      have d3 : t * r.M + c + q * r.s = n * r.s := by rw [Nat.mul_comm t]; omega
      have d4 : (t * r.M + c + q * r.s) % r.s = 0 := by rw [d3]; exact Nat.mul_mod_left _ _
      rwa [Nat.add_mul_mod_self_right] at d4
    have d5 : (t * r.next.s + t * r.M + c) % r.s = c := by
      rw [Nat.add_mod, d1, Nat.zero_add, Nat.mod_mod, Nat.mod_eq_of_lt hcs]
    have d6 : (t * r.next.s + (t * r.M + c)) % r.s = t * r.next.s % r.s := by
      rw [Nat.add_mod, d2, Nat.add_zero, Nat.mod_mod]
    rw [← d6, ← Nat.add_assoc]; exact d5
  show r.lo % r.s ≤ (t * r.next.s) % r.s ∧ (t * r.next.s) % r.s ≤ r.hi % r.s
  rw [e4]
  omega

theorem Rnd.next_hits {r : Rnd} (h : r.Ok) (hs : 0 < r.s) (hk : ¬ r.ahead + 1 ≤ r.hi / r.s) {t : Nat} (hh : r.next.Hits t) : r.Hits (r.reach t) ∧ (r.reach t) * r.s / r.M = t := by
  obtain ⟨q, e1, e2, e3⟩ := Rnd.miss h hs hk
  have hd := Rnd.next_step h hs
  have hh2 : r.lo % r.s ≤ (t * r.next.s) % r.s ∧ (t * r.next.s) % r.s ≤ r.hi % r.s := hh
  obtain ⟨c, hc⟩ : ∃ c, c = (t * r.next.s) % r.s := ⟨_, rfl⟩
  rw [← hc] at hh2
  have b2 := Nat.mod_lt r.hi hs
  have d1 : (t * r.next.s + t * r.M) % r.s = 0 := by
    rw [← Nat.mul_add, Nat.mul_mod, hd, Nat.mul_zero, Nat.zero_mod]
  have d2 : (c + t * r.M) % r.s = 0 := by
    rw [hc, Nat.mod_add_mod]; exact d1
  have d3 : (t * r.M + (q * r.s + c)) % r.s = 0 := by
    rw [show t * r.M + (q * r.s + c) = c + t * r.M + q * r.s by omega, Nat.add_mul_mod_self_right]; exact d2
  obtain ⟨n, hn⟩ : ∃ n, t * r.M + (q * r.s + c) = r.s * n := ⟨(t * r.M + (q * r.s + c)) / r.s, by have := Nat.div_add_mod (t * r.M + (q * r.s + c)) r.s; omega⟩
  have hx1 := h.hi1
  have hl0 := h.lo0
  have hrn : r.reach t = n := by
    unfold Rnd.reach
    have hn1 : 0 < n := by
      rcases Nat.eq_zero_or_pos n with h0 | h0
      · rw [h0, Nat.mul_zero] at hn; omega
      · exact h0
    obtain ⟨m, rfl⟩ : ∃ m, n = m + 1 := ⟨n - 1, by omega⟩
    rw [Nat.mul_add, Nat.mul_one] at hn
    have : (t * r.M + (r.lo - 1)) / r.s = m := by
      rw [show t * r.M + (r.lo - 1) = r.s * m + (t * r.M + (r.lo - 1) - r.s * m) by omega, Nat.mul_add_div hs, Nat.div_eq_of_lt (by omega)]
      rfl
    omega
  rw [hrn]
  have hM : n * r.s = r.M * t + (q * r.s + c) := by rw [Nat.mul_comm n, ← hn, Nat.mul_comm t]
  refine ⟨?_, ?_⟩
  · unfold Rnd.Hits
    rw [hM, Nat.mul_add_mod, Nat.mod_eq_of_lt (by omega)]
    omega
  · rw [hM, Nat.mul_add_div (by omega), Nat.div_eq_of_lt (by omega)]
    rfl

theorem Rnd.next_least {r : Rnd} (h : r.Ok) (hs : 0 < r.s) (hk : ¬ r.ahead + 1 ≤ r.hi / r.s) {t : Nat} (hl : r.next.Least t) : r.Least (r.reach t) := by
  obtain ⟨a1, a2⟩ := Rnd.next_hits h hs hk hl.1
  refine ⟨a1, fun m hm hh => ?_⟩
  have b1 := Rnd.hits_next h hs hk hh
  have hM : 0 < r.M := by have := h.step; omega
  have b2 : m * r.s / r.M ≤ t := by rw [← a2]; exact Nat.div_le_div_right (Nat.mul_le_mul_right _ (by omega))
  have b3 : m * r.s / r.M = t := by
    rcases Nat.lt_or_ge (m * r.s / r.M) t with h1 | h1
    · exact absurd b1 (hl.2 _ h1)
    · omega
  -- m s ≥ t M + lo, so m ≥ reach t
  have c1 := Nat.div_add_mod (m * r.s) r.M
  rw [b3] at c1
  have c2 : r.lo ≤ m * r.s % r.M := hh.1
  have c3 : t * r.M + r.lo ≤ m * r.s := by rw [Nat.mul_comm t]; omega
  have hl0 := h.lo0
  unfold Rnd.reach at hm
  have c4 : (t * r.M + (r.lo - 1)) / r.s < m := by
    rw [Nat.div_lt_iff_lt_mul hs]
    omega
  omega

theorem Rnd.next_never {r : Rnd} (h : r.Ok) (hs : 0 < r.s) (hk : ¬ r.ahead + 1 ≤ r.hi / r.s) (hl : r.next.Never) : r.Never :=
  fun _ hh => hl _ (Rnd.hits_next h hs hk hh)

/-- what the rounds that were asked, the last of them first, make of an answer -/
def outR : List Rnd → Nat → Nat
  | [], n => n
  | r :: R, n => outR R (r.reach n)
def FitR : List Rnd → Nat → Prop
  | [], _ => True
  | r :: R, n => (r.Ok ∧ 0 < r.s ∧ n < r.s ∧ r.reach n < r.M) ∧ FitR R (r.reach n)

structure Asked (R : List Rnd) (r z : Rnd) : Prop where
  least : ∀ n, r.Least n → FitR R n ∧ z.Least (outR R n)
  never : r.Never → z.Never

theorem Asked.nil (r : Rnd) : Asked [] r r := ⟨fun _ h => ⟨trivial, h⟩, fun h => h⟩
theorem Asked.short {R : List Rnd} {r z : Rnd} (a : Asked R r z) (h : r.Ok) : Asked R r.short z :=
  ⟨fun n hn => a.least n (Rnd.least_of (Rnd.short_hits h) hn), fun hn => a.never (Rnd.never_of (Rnd.short_hits h) hn)⟩
theorem Asked.next {R : List Rnd} {r z : Rnd} (a : Asked R r z) (h : r.Ok) (hs : 0 < r.s) (hk : ¬ r.ahead + 1 ≤ r.hi / r.s) : Asked (r :: R) r.next z := by
  refine ⟨fun n hn => ?_, fun hn => a.never (Rnd.next_never h hs hk hn)⟩
  have h1 := Rnd.next_least h hs hk hn
  have h2 := a.least _ h1
  exact ⟨⟨⟨h, hs, Rnd.Least.below (Rnd.next_ok h hs hk) hn, Rnd.Least.below h h1⟩, h2.1⟩, h2.2⟩

/-- a number with the step 0 never comes to a span above 0 -/
theorem Rnd.still {r : Rnd} (h : r.Ok) (hs : r.s = 0) : r.Never := by
  intro m hm
  have h0 := h.lo0
  unfold Rnd.Hits at hm
  rw [hs, Nat.mul_zero, Nat.zero_mod] at hm
  omega

/-- what is asked: the first of a row of numbers in a span -/
def Hit (M a b lo hi n : Nat) : Prop := lo ≤ (a + b * n) % M ∧ (a + b * n) % M ≤ hi
def First (M a b lo hi n : Nat) : Prop := Hit M a b lo hi n ∧ ∀ m, m < n → ¬ Hit M a b lo hi m
def None (M a b lo hi : Nat) : Prop := ∀ m, ¬ Hit M a b lo hi m

/-- the answer, as numbers -/
inductive Ans (M a b lo hi : Nat) : Nat → Int → Prop
  | yes {n : Nat} (h : First M a b lo hi n) : Ans M a b lo hi n 0
  | no (h : None M a b lo hi) : Ans M a b lo hi 0 9

theorem First.one {M a b lo hi n m : Nat} (h : First M a b lo hi n) (h2 : First M a b lo hi m) : n = m := by
  rcases Nat.lt_trichotomy n m with h3 | h3 | h3
  · exact absurd h.1 (h2.2 _ h3)
  · exact h3
  · exact absurd h2.1 (h.2 _ h3)

theorem Ans.one {M a b lo hi n m : Nat} {e f : Int} (h : Ans M a b lo hi n e) (h2 : Ans M a b lo hi m f) : n = m ∧ e = f := by
  cases h with
  | yes h1 => cases h2 with
    | yes h3 => exact ⟨First.one h1 h3, rfl⟩
    | no h3 => exact absurd h1.1 (h3 _)
  | no h1 => cases h2 with
    | yes h3 => exact absurd h3.1 (h1 _)
    | no h3 => exact ⟨rfl, rfl⟩

/-- only what a and b are modulo M counts -/
theorem hit_mod (M a b lo hi n : Nat) : Hit M (a % M) (b % M) lo hi n ↔ Hit M a b lo hi n := by
  unfold Hit
  have e : (a % M + b % M * n) % M = (a + b * n) % M := by
    rw [Nat.add_mod, Nat.mod_mod, Nat.mul_mod (b % M), Nat.mod_mod, ← Nat.mul_mod, ← Nat.add_mod]
  rw [e]
theorem Ans.of_iff {M a b lo hi M2 a2 b2 lo2 hi2 : Nat} (h : ∀ n, Hit M a b lo hi n ↔ Hit M2 a2 b2 lo2 hi2 n) {n : Nat} {e : Int} (hA : Ans M a b lo hi n e) : Ans M2 a2 b2 lo2 hi2 n e := by
  cases hA with
  | yes h1 => exact .yes ⟨(h _).mp h1.1, fun m hm hh => h1.2 m hm ((h m).mpr hh)⟩
  | no h1 => exact .no fun m hm => h1 m ((h m).mpr hm)

/-- seen from a, which lies outside the span -/
def from_ (M a x : Nat) : Nat := if a ≤ x then x - a else x + M - a

theorem hit_from {M a b lo hi : Nat} (hM : 0 < M) (ha : a < M) (hl : lo ≤ hi) (hh : hi < M) (hn : ¬ (lo ≤ a ∧ a ≤ hi)) (n : Nat) :
    (⟨M, b, from_ M a lo, from_ M a hi⟩ : Rnd).Hits n ↔ Hit M a b lo hi n := by
  unfold Rnd.Hits Hit from_
  show (if a ≤ lo then lo - a else lo + M - a) ≤ n * b % M ∧ n * b % M ≤ (if a ≤ hi then hi - a else hi + M - a) ↔ _
  rw [Nat.mul_comm b n]
  have a1 := Nat.mod_lt (n * b) hM
  have e : (a + n * b) % M = (a + n * b % M) % M := by rw [Nat.add_mod_mod]
  rw [e]
  obtain ⟨x, hx⟩ : ∃ x, x = n * b % M := ⟨_, rfl⟩
  rw [← hx] at a1 ⊢
  rcases Nat.lt_or_ge (a + x) M with h1 | h1
  · rw [Nat.mod_eq_of_lt h1]
    by_cases c1 : a ≤ lo
    · rw [if_pos c1, if_pos (by omega)]; omega
    · rw [if_neg c1, if_neg (by omega)]; omega
  · rw [Nat.mod_eq_sub_mod h1, Nat.mod_eq_of_lt (by omega)]
    by_cases c1 : a ≤ lo
    · rw [if_pos c1, if_pos (by omega)]; omega
    · rw [if_neg c1, if_neg (by omega)]; omega

theorem from_ok {M a b lo hi : Nat} (ha : a < M) (hb : b < M) (hl : lo ≤ hi) (hh : hi < M) (hn : ¬ (lo ≤ a ∧ a ≤ hi)) :
    (⟨M, b, from_ M a lo, from_ M a hi⟩ : Rnd).Ok := by
  unfold from_
  refine ⟨?_, ?_, ?_, hb⟩
  · show 0 < if a ≤ lo then lo - a else lo + M - a
    split <;> omega
  · show (if a ≤ lo then lo - a else lo + M - a) ≤ if a ≤ hi then hi - a else hi + M - a
    split <;> split <;> omega
  · show (if a ≤ hi then hi - a else hi + M - a) < M
    split <;> omega

/-- the row comes back after M -/
theorem hit_again (M a b lo hi n : Nat) : Hit M a b lo hi (n + M) ↔ Hit M a b lo hi n := by
  unfold Hit
  rw [Nat.mul_add, ← Nat.add_assoc, Nat.add_mul_mod_self_right]
theorem hit_back {M : Nat} (hM : 0 < M) (a b lo hi n : Nat) : Hit M a b lo hi (n % M) ↔ Hit M a b lo hi n := by
  unfold Hit
  have e : (a + b * (n % M)) % M = (a + b * n) % M := by
    rw [Nat.add_mod, Nat.mul_mod b (n % M), Nat.mod_mod, ← Nat.mul_mod, ← Nat.add_mod]
  rw [e]

/-- none of the first M, none at all -/
theorem None.of {M a b lo hi : Nat} (hM : 0 < M) (h : ∀ m, m < M → ¬ Hit M a b lo hi m) : None M a b lo hi :=
  fun m hm => h (m % M) (Nat.mod_lt _ hM) ((hit_back hM a b lo hi m).mpr hm)
end Go.Proofs.YtidebjcnmabggaaDoor.Mo
