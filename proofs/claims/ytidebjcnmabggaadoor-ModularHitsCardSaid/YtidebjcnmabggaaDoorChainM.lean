/- Chains as plain data: values, sums, products, the next one, the chain of values; modulo 2^64; so many values determine so many numbers. -/
import Derived.Test.YtidebjcnmabggaaDoorRows
namespace Go.Proofs.YtidebjcnmabggaaDoor.Chn

/-- the value of a chain behind n rounds -/
def vl : List Int → Nat → Int
  | c, 0 => c.headD 0
  | c, n + 1 => vl c n + vl c.tail n

theorem vl_zero (c : List Int) : vl c 0 = c.headD 0 := by unfold vl; rfl
theorem vl_succ (c : List Int) (n : Nat) : vl c (n + 1) = vl c n + vl c.tail n := by rw [vl]

theorem vl_nil : ∀ n, vl [] n = 0
  | 0 => by rw [vl_zero]; rfl
  | n + 1 => by rw [vl_succ, vl_nil n, List.tail_nil, vl_nil n]; rfl

/-- binomials -/
def ch : Nat → Nat → Int
  | _, 0 => 1
  | 0, _ + 1 => 0
  | n + 1, k + 1 => ch n k + ch n (k + 1)

theorem ch_right (n : Nat) : ch n 0 = 1 := by cases n <;> simp [ch]
theorem ch_left (k : Nat) : ch 0 (k + 1) = 0 := by simp [ch]
theorem ch_step (n k : Nat) : ch (n + 1) (k + 1) = ch n k + ch n (k + 1) := by simp [ch]

/-- a chain's numbers, each by its binomial -/
def sumFrom (n : Nat) : Nat → List Int → Int
  | _, [] => 0
  | k, x :: r => x * ch n k + sumFrom n (k + 1) r

theorem sumFrom_left : ∀ (c : List Int) (k : Nat), sumFrom 0 (k + 1) c = 0
  | [], _ => rfl
  | x :: r, k => by rw [sumFrom, ch_left, sumFrom_left r (k + 1)]; simp

theorem sumFrom_step : ∀ (c : List Int) (n k : Nat), sumFrom (n + 1) (k + 1) c = sumFrom n (k + 1) c + sumFrom n k c
  | [], _, _ => rfl
  | x :: r, n, k => by
    rw [sumFrom, sumFrom, sumFrom, ch_step, sumFrom_step r n (k + 1), Int.mul_add]
    omega

theorem vl_sum : ∀ (n : Nat) (c : List Int), vl c n = sumFrom n 0 c := by
  intro n
  induction n with
  | zero =>
    intro c
    rw [vl_zero]
    cases c with
    | nil => rfl
    | cons x r => rw [sumFrom, ch_right, sumFrom_left]; simp
  | succ n ih =>
    intro c
    rw [vl_succ, ih, ih]
    cases c with
    | nil => rfl
    | cons x r =>
      rw [List.tail_cons, sumFrom, sumFrom, ch_right, ch_right, sumFrom_step]
      omega

/-- the sum of two chains -/
def addM : List Int → List Int → List Int
  | [], b => b
  | x :: a, [] => x :: a
  | x :: a, y :: b => (x + y) :: addM a b

theorem addM_nil (a : List Int) : addM a [] = a := by cases a <;> rfl
theorem addM_head (a b : List Int) : (addM a b).headD 0 = a.headD 0 + b.headD 0 := by
  cases a <;> cases b <;> simp [addM]
theorem addM_tail (a b : List Int) : (addM a b).tail = addM a.tail b.tail := by
  cases a with
  | nil => simp [addM]
  | cons x a =>
    cases b with
    | nil => simp [addM, addM_nil]
    | cons y b => simp [addM]
theorem addM_len : ∀ (a b : List Int), (addM a b).length = max a.length b.length
  | [], b => by simp [addM]
  | x :: a, [] => by simp [addM]
  | x :: a, y :: b => by
    have := addM_len a b
    simp only [addM, List.length_cons]
    omega
theorem addM_at : ∀ (a b : List Int) (k : Nat), (addM a b).getD k 0 = a.getD k 0 + b.getD k 0
  | [], b, k => by simp [addM]
  | x :: a, [], k => by simp [addM]
  | x :: a, y :: b, 0 => by simp [addM]
  | x :: a, y :: b, k + 1 => by
    have := addM_at a b k
    simpa [addM] using this

theorem vl_add : ∀ (n : Nat) (a b : List Int), vl (addM a b) n = vl a n + vl b n := by
  intro n
  induction n with
  | zero => intro a b; rw [vl_zero, vl_zero, vl_zero, addM_head]
  | succ n ih =>
    intro a b
    rw [vl_succ, vl_succ, vl_succ, addM_tail, ih, ih]
    omega

/-- a chain a round later -/
def nextM (c : List Int) : List Int := addM c c.tail
theorem vl_next (c : List Int) (n : Nat) : vl (nextM c) n = vl c (n + 1) := by rw [nextM, vl_add, vl_succ]
theorem nextM_len (c : List Int) : (nextM c).length = c.length := by
  rw [nextM, addM_len, List.length_tail]
  omega

/-- the sums of a chain's values -/
theorem vl_sums (s : Int) (c : List Int) (n : Nat) : vl (s :: c) (n + 1) = vl (s :: c) n + vl c n := by rw [vl_succ, List.tail_cons]
theorem vl_sums0 (s : Int) (c : List Int) : vl (s :: c) 0 = s := by rw [vl_zero]; rfl

/-- the product of two chains -/
def mulM : List Int → List Int → List Int
  | [], _ => []
  | _ :: _, [] => []
  | x :: a, y :: b => (x * y) :: addM (mulM a (nextM (y :: b))) (mulM (x :: a) b)
termination_by a b => a.length + b.length
decreasing_by
  · rw [nextM_len]; simp only [List.length_cons]; omega
  · simp only [List.length_cons]; omega

theorem mulM_nil (b : List Int) : mulM [] b = [] := by rw [mulM]
theorem mulM_nil' (a : List Int) : mulM a [] = [] := by cases a <;> rw [mulM]

theorem vl_mul : ∀ (n : Nat) (a b : List Int), vl (mulM a b) n = vl a n * vl b n := by
  intro n
  induction n with
  | zero =>
    intro a b
    rw [vl_zero, vl_zero, vl_zero]
    cases a with
    | nil => rw [mulM_nil]; simp
    | cons x a =>
      cases b with
      | nil => rw [mulM_nil']; simp
      | cons y b => rw [mulM]; simp
  | succ n ih =>
    intro a b
    cases a with
    | nil => rw [mulM_nil, vl_nil, Int.zero_mul]
    | cons x a =>
      cases b with
      | nil => rw [mulM_nil', vl_nil, Int.mul_zero]
      | cons y b =>
        have h1 := ih (x :: a) (y :: b)
        have h2 : (mulM (x :: a) (y :: b)).tail = addM (mulM a (nextM (y :: b))) (mulM (x :: a) b) := by rw [mulM]; rfl
        rw [vl_succ (mulM _ _), h1, h2, vl_add, ih, ih, vl_next, vl_succ (x :: a), vl_succ (y :: b)]
        simp only [List.tail_cons]
        simp only [Int.add_mul, Int.mul_add]
        omega

theorem mulM_len : ∀ (m : Nat) (a b : List Int), a.length + b.length = m → (mulM a b).length ≤ m - 1 := by
  intro m
  induction m using Nat.strongRecOn with
  | ind m ih =>
    intro a b hm
    cases a with
    | nil => rw [mulM_nil]; simp
    | cons x a =>
      cases b with
      | nil => rw [mulM_nil']; simp
      | cons y b =>
        rw [mulM]
        simp only [List.length_cons] at hm
        have h1 := ih (m - 1) (by omega) a (nextM (y :: b)) (by rw [nextM_len]; simp only [List.length_cons]; omega)
        have h2 := ih (m - 1) (by omega) (x :: a) b (by simp only [List.length_cons]; omega)
        rw [List.length_cons, addM_len]
        omega

/-- differences of a row of values -/
def diffs : Int → List Int → List Int
  | _, [] => []
  | v, u :: r => (u - v) :: diffs u r
theorem diffs_len : ∀ (v : Int) (r : List Int), (diffs v r).length = r.length
  | _, [] => rfl
  | _, u :: r => by rw [diffs, List.length_cons, List.length_cons, diffs_len u r]

/-- the chain of values, by differences -/
def fitM : List Int → List Int
  | [] => []
  | v :: r => v :: fitM (diffs v r)
termination_by l => l.length
decreasing_by rw [diffs_len, List.length_cons]; omega

theorem fitM_nil : fitM [] = [] := by rw [fitM]
theorem fitM_cons (v : Int) (r : List Int) : fitM (v :: r) = v :: fitM (diffs v r) := by rw [fitM]

theorem fitM_len : ∀ (m : Nat) (l : List Int), l.length = m → (fitM l).length = m := by
  intro m
  induction m with
  | zero => intro l h; rw [List.length_eq_zero_iff.1 h, fitM_nil]; rfl
  | succ m ih =>
    intro l h
    cases l with
    | nil => cases h
    | cons v r =>
      rw [fitM_cons, List.length_cons, ih (diffs v r) (by rw [diffs_len]; simpa using h)]

theorem diffs_at : ∀ (r : List Int) (v : Int) (n : Nat), n < r.length → (diffs v r).getD n 0 = r.getD n 0 - (v :: r).getD n 0
  | [], _, n, h => by simp at h
  | u :: r, v, 0, _ => by simp [diffs]
  | u :: r, v, n + 1, h => by
    have := diffs_at r u n (by simpa using h)
    simpa [diffs] using this

theorem vl_fit : ∀ (n : Nat) (l : List Int), n < l.length → vl (fitM l) n = l.getD n 0 := by
  intro n
  induction n with
  | zero =>
    intro l h
    cases l with
    | nil => simp at h
    | cons v r => rw [fitM_cons, vl_zero]; rfl
  | succ n ih =>
    intro l h
    cases l with
    | nil => simp at h
    | cons v r =>
      have hr : n < r.length := by simpa using h
      have h1 := ih (v :: r) (by rw [List.length_cons]; omega)
      have h2 := ih (diffs v r) (by rw [diffs_len]; exact hr)
      rw [vl_succ, h1]
      rw [fitM_cons, List.tail_cons, h2, diffs_at r v n hr]
      rw [List.getD_cons_succ]
      omega

/-- a chain's first m numbers, zeros where it has none -/
def padM : Nat → List Int → List Int
  | 0, _ => []
  | m + 1, c => c.headD 0 :: padM m c.tail

theorem padM_len : ∀ (m : Nat) (c : List Int), (padM m c).length = m
  | 0, _ => rfl
  | m + 1, c => by rw [padM, List.length_cons, padM_len m]

theorem padM_all : ∀ (m : Nat) (c : List Int), c.length ≤ m → padM m c = c ++ List.replicate (m - c.length) 0
  | 0, c, h => by
    have : c = [] := List.length_eq_zero_iff.1 (by omega)
    subst this
    rfl
  | m + 1, [], h => by
    rw [padM, List.tail_nil, padM_all m [] (by simp)]
    rfl
  | m + 1, x :: c, h => by
    rw [padM, List.tail_cons, padM_all m c (by simpa using h), List.length_cons, Nat.add_sub_add_right]
    rfl

theorem diffs_vl : ∀ (m : Nat) (c : List Int) (s : Nat), diffs (vl c s) ((List.range m).map fun k => vl c (s + 1 + k)) = (List.range m).map fun k => vl c.tail (s + k)
  | 0, _, _ => rfl
  | m + 1, c, s => by
    rw [List.range_succ_eq_map, List.map_cons, List.map_cons, List.map_map, List.map_map, diffs]
    congr 1
    · simp only [Nat.add_zero]; rw [vl_succ]; omega
    · have h := diffs_vl m c (s + 1)
      have e1 : ((fun k => vl c (s + 1 + k)) ∘ Nat.succ) = fun k => vl c (s + 1 + 1 + k) := by funext k; show vl c (s + 1 + (k + 1)) = _; rw [show s + 1 + (k + 1) = s + 1 + 1 + k from by omega]
      have e2 : ((fun k => vl c.tail (s + k)) ∘ Nat.succ) = fun k => vl c.tail (s + 1 + k) := by funext k; show vl c.tail (s + (k + 1)) = _; rw [show s + (k + 1) = s + 1 + k from by omega]
      rw [e1, e2]
      exact h

/-- the chain of a chain's first values is the chain -/
theorem fit_vl : ∀ (m : Nat) (c : List Int), fitM ((List.range m).map (vl c)) = padM m c
  | 0, _ => by rw [List.range_zero, List.map_nil, fitM_nil]; rfl
  | m + 1, c => by
    rw [List.range_succ_eq_map, List.map_cons, List.map_map, fitM_cons, padM, vl_zero]
    congr 1
    have h := diffs_vl m c 0
    have e1 : (vl c ∘ Nat.succ) = fun k => vl c (0 + 1 + k) := by funext k; show vl c (k + 1) = _; rw [show k + 1 = 0 + 1 + k from by omega]
    have e2 : (fun k => vl c.tail (0 + k)) = vl c.tail := by funext k; rw [Nat.zero_add]
    rw [e1, ← vl_zero c, h, e2]
    exact fit_vl m c.tail

/-- two chains whose first values are the same are the same so far -/
theorem pad_eq {m : Nat} {a b : List Int} (h : ∀ n, n < m → vl a n = vl b n) : padM m a = padM m b := by
  rw [← fit_vl, ← fit_vl]
  congr 1
  exact List.map_congr_left fun k hk => h k (List.mem_range.1 hk)

/-- binomials of a sum: a sum over i from 0 to k -/
def conv (a b k : Nat) : Nat → Int
  | 0 => ch a 0 * ch b k
  | i + 1 => conv a b k i + ch a (i + 1) * ch b (k - (i + 1))

theorem conv_zero (b k : Nat) : ∀ i, conv 0 b k i = ch b k
  | 0 => by rw [conv, ch_right, Int.one_mul]
  | i + 1 => by rw [conv, conv_zero b k i, ch_left, Int.zero_mul, Int.add_zero]

theorem conv_step (a b k : Nat) : ∀ i, conv (a + 1) b (k + 1) (i + 1) = conv a b (k + 1) (i + 1) + conv a b k i
  | 0 => by
    simp only [conv, ch_right, ch_step, Int.add_mul, Nat.add_sub_cancel]
    omega
  | i + 1 => by
    have h := conv_step a b k i
    rw [conv, h]
    rw [conv.eq_2 a b (k + 1) (i + 1), conv.eq_2 a b k i, ch_step, Int.add_mul, show k + 1 - (i + 1 + 1) = k - (i + 1) from by omega]
    omega

/-- the row of the sum by the rows of the parts -/
theorem conv_all : ∀ (a b k : Nat), conv a b k k = ch (a + b) k
  | 0, b, k => by rw [conv_zero, Nat.zero_add]
  | a + 1, b, 0 => by rw [conv, ch_right, ch_right, ch_right]; rfl
  | a + 1, b, k + 1 => by
    rw [conv_step, conv_all a b (k + 1), conv_all a b k, show a + 1 + b = (a + b) + 1 from by omega, ch_step]
    omega

/-! Modulo 2^64. -/

def Eq64 (a b : Int) : Prop := a % 18446744073709551616 = b % 18446744073709551616
theorem Eq64.rfl' (a : Int) : Eq64 a a := rfl
theorem Eq64.symm {a b : Int} (h : Eq64 a b) : Eq64 b a := Eq.symm h
theorem Eq64.trans {a b c : Int} (h : Eq64 a b) (k : Eq64 b c) : Eq64 a c := Eq.trans h k
theorem Eq64.add {a b c d : Int} (h : Eq64 a b) (k : Eq64 c d) : Eq64 (a + c) (b + d) := by unfold Eq64 at *; omega
theorem Eq64.sub {a b c d : Int} (h : Eq64 a b) (k : Eq64 c d) : Eq64 (a - c) (b - d) := by unfold Eq64 at *; omega
theorem Eq64.mul {a b c d : Int} (h : Eq64 a b) (k : Eq64 c d) : Eq64 (a * c) (b * d) := by
  unfold Eq64 at *
  rw [Int.mul_emod, h, k, ← Int.mul_emod]

/-- lists that are the same number by number -/
def EqL (a b : List Int) : Prop := a.length = b.length ∧ ∀ k, Eq64 (a.getD k 0) (b.getD k 0)

theorem EqL.rfl' (a : List Int) : EqL a a := ⟨rfl, fun _ => rfl⟩
theorem EqL.symm {a b : List Int} (h : EqL a b) : EqL b a := ⟨h.1.symm, fun k => (h.2 k).symm⟩
theorem EqL.trans {a b c : List Int} (h : EqL a b) (k : EqL b c) : EqL a c := ⟨h.1.trans k.1, fun i => (h.2 i).trans (k.2 i)⟩
theorem EqL.cons {x y : Int} {a b : List Int} (h : Eq64 x y) (k : EqL a b) : EqL (x :: a) (y :: b) := ⟨by simp [k.1], fun i => by cases i with | zero => simpa using h | succ i => simpa using k.2 i⟩
theorem EqL.uncons {x y : Int} {a b : List Int} (h : EqL (x :: a) (y :: b)) : Eq64 x y ∧ EqL a b := ⟨by simpa using h.2 0, by simpa using h.1, fun k => by simpa using h.2 (k + 1)⟩

theorem diffs_eq : ∀ (r s : List Int) (v u : Int), Eq64 v u → EqL r s → EqL (diffs v r) (diffs u s)
  | [], [], _, _, _, _ => EqL.rfl' _
  | [], _ :: _, _, _, _, h => by cases h.1
  | _ :: _, [], _, _, _, h => by cases h.1
  | x :: r, y :: s, v, u, h, k => by
    obtain ⟨h1, h2⟩ := k.uncons
    rw [diffs, diffs]
    exact EqL.cons (h1.sub h) (diffs_eq r s x y h1 h2)

/-- values that are the same modulo 2^64 have such a chain -/
theorem fit_eq : ∀ (m : Nat) (a b : List Int), a.length = m → EqL a b → EqL (fitM a) (fitM b) := by
  intro m
  induction m with
  | zero =>
    intro a b ha h
    have h1 : a = [] := List.length_eq_zero_iff.1 ha
    have h2 : b = [] := List.length_eq_zero_iff.1 (h.1.symm.trans ha)
    subst h1 h2
    exact EqL.rfl' _
  | succ m ih =>
    intro a b ha h
    cases a with
    | nil => cases ha
    | cons x a =>
      cases b with
      | nil => cases h.1
      | cons y b =>
        obtain ⟨h1, h2⟩ := h.uncons
        rw [fitM_cons, fitM_cons]
        exact EqL.cons h1 (ih _ _ (by rw [diffs_len]; simpa using ha) (diffs_eq a b x y h1 h2))

theorem vl_eq : ∀ (n : Nat) (a b : List Int), EqL a b → Eq64 (vl a n) (vl b n) := by
  intro n
  induction n with
  | zero =>
    intro a b h
    rw [vl_zero, vl_zero]
    have := h.2 0
    cases a <;> cases b <;> simpa using this
  | succ n ih =>
    intro a b h
    rw [vl_succ, vl_succ]
    refine (ih a b h).add (ih a.tail b.tail ?_)
    cases a with
    | nil =>
      cases b with
      | nil => exact EqL.rfl' _
      | cons y b => cases h.1
    | cons x a =>
      cases b with
      | nil => cases h.1
      | cons y b => exact h.uncons.2

/-! Without zeros at the end. -/

def trimM : List Int → List Int
  | [] => []
  | x :: r => if trimM r = [] ∧ x = 0 then [] else x :: trimM r

theorem trimM_at : ∀ (c : List Int) (k : Nat), (trimM c).getD k 0 = c.getD k 0
  | [], _ => rfl
  | x :: r, k => by
    rw [trimM]
    split
    · rename_i h
      cases k with
      | zero => simp [h.2]
      | succ k =>
        have := trimM_at r k
        rw [h.1] at this
        simpa using this
    · cases k with
      | zero => simp
      | succ k => simpa using trimM_at r k

theorem trimM_len : ∀ (c : List Int), (trimM c).length ≤ c.length
  | [] => by simp [trimM]
  | x :: r => by
    rw [trimM]
    have := trimM_len r
    split
    · simp
    · simp only [List.length_cons]; omega

/-- what is trimmed has no zero at its end -/
theorem trimM_last : ∀ (c : List Int), (trimM c).getLast? ≠ some 0
  | [] => by simp [trimM]
  | x :: r => by
    rw [trimM]
    have h := trimM_last r
    split
    · simp
    · rename_i h2
      cases ht : trimM r with
      | nil =>
        intro e
        have e : x = 0 := by simpa using e
        exact h2 ⟨ht, e⟩
      | cons y s =>
        rw [ht] at h
        intro e
        rw [List.getLast?_cons_cons] at e
        exact h e

/-- the same numbers, whatever zeros stand behind them, are trimmed the same -/
theorem trimM_eq : ∀ (a b : List Int), (∀ k, a.getD k 0 = b.getD k 0) → trimM a = trimM b
  | [], [], _ => rfl
  | [], y :: b, h => by
    have h0 : y = 0 := by have := h 0; simp at this; exact this.symm
    have h1 := trimM_eq [] b (fun k => by simpa using h (k + 1))
    have h2 : trimM b = [] := h1.symm
    simp [trimM, h0, h2]
  | x :: a, [], h => by
    have h0 : x = 0 := by simpa using h 0
    have h1 := trimM_eq a [] (fun k => by simpa using h (k + 1))
    have h2 : trimM a = [] := h1
    simp [trimM, h0, h2]
  | x :: a, y :: b, h => by
    have h0 : x = y := by simpa using h 0
    have h1 := trimM_eq a b (fun k => by simpa using h (k + 1))
    rw [trimM, trimM, h1, h0]

/-- what has no zero at its end is left as it is -/
theorem trimM_id : ∀ (c : List Int), c.getLast? ≠ some 0 → trimM c = c
  | [], _ => rfl
  | [x], h => by
    have h0 : x ≠ 0 := fun e => h (by rw [e]; rfl)
    simp [trimM, h0]
  | x :: y :: r, h => by
    have h1 := trimM_id (y :: r) (by rw [List.getLast?_cons_cons] at h; exact h)
    rw [trimM, h1]
    simp

theorem trimM_zero (c : List Int) : trimM (c ++ [0]) = trimM c := trimM_eq _ _ fun k => by
  rw [List.getD_eq_getElem?_getD, List.getD_eq_getElem?_getD]
  rcases Nat.lt_trichotomy k c.length with h | h | h
  · rw [List.getElem?_append_left h]
  · subst h
    simp
  · rw [List.getElem?_eq_none (by simp; omega), List.getElem?_eq_none (by omega)]

theorem trimM_snoc (c : List Int) {x : Int} (h : x ≠ 0) : trimM (c ++ [x]) = c ++ [x] := trimM_id _ (by simp [h])

/-- a list's first numbers, the last of them told -/
theorem trimM_take {c : List Int} {k : Nat} {x : Int} (h : c[k]? = some x) : trimM (c.take (k + 1)) = if x = 0 then trimM (c.take k) else c.take (k + 1) := by
  obtain ⟨hk, rfl⟩ := List.getElem?_eq_some_iff.1 h
  rw [List.take_succ_eq_append_getElem hk]
  split
  · rename_i e
    rw [e, trimM_zero]
  · rename_i e
    exact trimM_snoc _ e

theorem vl_at : ∀ (n : Nat) (a b : List Int), (∀ k, a.getD k 0 = b.getD k 0) → vl a n = vl b n := by
  intro n
  induction n with
  | zero =>
    intro a b h
    have := h 0
    rw [vl_zero, vl_zero]
    cases a <;> cases b <;> simp_all
  | succ n ih =>
    intro a b h
    rw [vl_succ, vl_succ, ih a b h, ih a.tail b.tail (fun k => by
      have := h (k + 1)
      cases a <;> cases b <;> first | exact this | (simp at this; simp [this]) | (simp at this; simp [← this]))]

theorem vl_trim (n : Nat) (c : List Int) : vl (trimM c) n = vl c n := vl_at n _ _ (trimM_at c)

/-- a number that 64 bits hold -/
def In64 (x : Int) : Prop := -9223372036854775808 ≤ x ∧ x ≤ 9223372036854775807
theorem In64.one {a b : Int} (ha : In64 a) (hb : In64 b) (h : Eq64 a b) : a = b := by
  unfold In64 at *
  unfold Eq64 at h
  omega

theorem eqL_values {m : Nat} {f g : Nat → Int} (h : ∀ n, n < m → Eq64 (f n) (g n)) : EqL ((List.range m).map f) ((List.range m).map g) := by
  refine ⟨by simp, fun k => ?_⟩
  rcases Nat.lt_or_ge k m with hk | hk
  · simpa [List.getD_eq_getElem?_getD, hk] using h k hk
  · simp [List.getD_eq_getElem?_getD, hk, Eq64]

/-- so many values determine so many numbers -/
theorem pad_eq64 {m : Nat} {a b : List Int} (h : ∀ n, n < m → Eq64 (vl a n) (vl b n)) : EqL (padM m a) (padM m b) := by
  rw [← fit_vl, ← fit_vl]
  exact fit_eq m _ _ (by simp) (eqL_values h)

theorem padM_at : ∀ (m : Nat) (c : List Int) (k : Nat), k < m → (padM m c).getD k 0 = c.getD k 0
  | 0, _, _, h => by omega
  | m + 1, c, 0, _ => by rw [padM]; cases c <;> simp
  | m + 1, c, k + 1, h => by
    have := padM_at m c.tail k (by omega)
    rw [padM, List.getD_cons_succ, this]
    cases c <;> simp

theorem getD_over {c : List Int} {m k : Nat} (h : c.length ≤ m) (hk : m ≤ k) : c.getD k 0 = 0 := by
  simp [List.getD_eq_getElem?_getD, List.getElem?_eq_none (show c.length ≤ k by omega)]

theorem getD_in {c : List Int} (h : ∀ x ∈ c, In64 x) (k : Nat) : In64 (c.getD k 0) := by
  rw [List.getD_eq_getElem?_getD]
  cases hc : c[k]? with
  | none => exact ⟨by simp, by simp⟩
  | some x => exact h x (List.mem_of_getElem? hc)

/-- two chains of no more than m numbers, whose first m values are the same modulo 2^64, are the same but for zeros at their ends -/
theorem trim_of_values {m : Nat} {a b : List Int} (ha : a.length ≤ m) (hb : b.length ≤ m) (ia : ∀ x ∈ a, In64 x) (ib : ∀ x ∈ b, In64 x) (h : ∀ n, n < m → Eq64 (vl a n) (vl b n)) : trimM a = trimM b := by
  refine trimM_eq a b fun k => ?_
  rcases Nat.lt_or_ge k m with hk | hk
  · have h1 := (pad_eq64 h).2 k
    rw [padM_at m a k hk, padM_at m b k hk] at h1
    exact (getD_in ia k).one (getD_in ib k) h1
  · rw [getD_over ha hk, getD_over hb hk]

/-- a list is held in 64 bits, number by number -/
def Held (a b : List Int) : Prop := EqL a b ∧ ∀ x ∈ b, In64 x

theorem Held.one {a b c : List Int} (h : Held a b) (k : Held a c) : b = c := by
  refine List.ext_getElem (h.1.1.symm.trans k.1.1) fun i h1 h2 => ?_
  have e := (h.1.2 i).symm.trans (k.1.2 i)
  rw [List.getD_eq_getElem?_getD, List.getD_eq_getElem?_getD, List.getElem?_eq_getElem h1, List.getElem?_eq_getElem h2] at e
  exact (h.2 _ (List.getElem_mem h1)).one (k.2 _ (List.getElem_mem h2)) e

/-- the chain of values that are a chain's modulo 2^64, held in 64 bits, is that chain but for zeros -/
theorem fit_held {m : Nat} {vs c p : List Int} (hv : vs.length = m) (he : ∀ n, n < m → Eq64 (vs.getD n 0) (vl c n)) (hp : Held (fitM vs) p) (hc : c.length ≤ m) (ic : ∀ x ∈ c, In64 x) : trimM p = trimM c := by
  refine trim_of_values (m := m) ?_ hc hp.2 ic fun n hn => ?_
  · rw [← hp.1.1, fitM_len m vs hv]
    exact Nat.le_refl _
  · refine (vl_eq n _ _ hp.1).symm.trans ?_
    rw [vl_fit n vs (by omega)]
    exact he n hn

end Go.Proofs.YtidebjcnmabggaaDoor.Chn
