/- What the program's calls answer, told by values: sums, products, sums of values. -/
import Derived.Test.YtfifbgpiekpepaaDoorChOpen
import Derived.Test.YtfifbgpiekpepaaDoorChMul
import Derived.Test.YtfifbgpiekpepaaDoorChSums
import Derived.Test.YtfifbgpiekpepaaDoorChNext
namespace Go.Proofs.YtfifbgpiekpepaaDoor.Chn
open Go.RowKit

/-- a trimmed chain of at most L numbers, told by its values -/
structure Is (ys : List Int) (F : Nat → Int) (L : Nat) : Prop where
  val : ∀ n, Eq64 (vl ys n) (F n)
  held : ∀ x ∈ ys, In64 x
  trim : trimM ys = ys
  len : ys.length ≤ L

theorem Is.one {ys zs : List Int} {F G : Nat → Int} {L M : Nat} (h : Is ys F L) (k : Is zs G M) (e : ∀ n, Eq64 (F n) (G n)) : ys = zs := by
  rw [← h.trim, ← k.trim]
  exact trim_of_values (m := L + M) (by have := h.len; omega) (by have := k.len; omega) h.held k.held fun n _ => (h.val n).trans ((e n).trans (k.val n).symm)

theorem trimM_mem : ∀ (c : List Int) (x : Int), x ∈ trimM c → x ∈ c
  | [], x, h => by cases h
  | y :: r, x, h => by
    rw [trimM] at h
    split at h
    · cases h
    · rcases List.mem_cons.1 h with rfl | h
      · exact List.mem_cons_self ..
      · exact List.mem_cons_of_mem _ (trimM_mem r x h)

theorem trimM_trim (c : List Int) : trimM (trimM c) = trimM c := trimM_eq _ _ (trimM_at c)

theorem trimM_short {c : List Int} {L : Nat} (h : ∀ j, L ≤ j → c.getD j 0 = 0) : (trimM c).length ≤ L := by
  have e : trimM c = trimM (c.take L) := trimM_eq _ _ fun k => by
    rcases Nat.lt_or_ge k L with hk | hk
    · rw [List.getD_eq_getElem?_getD, List.getD_eq_getElem?_getD, List.getElem?_take, if_pos hk]
    · rw [h k hk, List.getD_eq_getElem?_getD, List.getElem?_take, if_neg (by omega)]
      rfl
  rw [e]
  have h1 := trimM_len (c.take L)
  rw [List.length_take] at h1
  omega

theorem heldL_at (c : List Int) (j : Nat) : (heldL c).getD j 0 = wrp (c.getD j 0) := by
  unfold heldL
  rw [List.getD_eq_getElem?_getD, List.getD_eq_getElem?_getD, List.getElem?_map]
  cases c[j]? with
  | none => rfl
  | some x => rfl

/-- the chain of an exact chain -/
theorem Is.of (c : List Int) (L : Nat) (h : c.length ≤ L) : Is (trimM (heldL c)) (vl c) L :=
  ⟨fun n => by rw [vl_trim]; exact (vl_eq n _ _ (heldL_eq c)).symm, fun x hx => heldL_in c x (trimM_mem _ x hx), trimM_trim _, by
    have h1 := trimM_len (heldL c)
    have h2 : (heldL c).length = c.length := by simp [heldL]
    omega⟩

theorem Is.more {ys : List Int} {F : Nat → Int} {L M : Nat} (h : Is ys F L) (hM : L ≤ M) : Is ys F M := ⟨h.val, h.held, h.trim, Nat.le_trans h.len hM⟩
theorem Is.to {ys : List Int} {F G : Nat → Int} {L : Nat} (h : Is ys F L) (e : ∀ n, Eq64 (F n) (G n)) : Is ys G L := ⟨fun n => (h.val n).trans (e n), h.held, h.trim, h.len⟩

/-- all values at one round, added -/
def tv : List (List Int) → Nat → Int
  | [], _ => 0
  | c :: r, n => vl c n + tv r n

def sumM : List (List Int) → List Int
  | [] => []
  | c :: r => addM c (sumM r)

theorem sumM_at : ∀ (css : List (List Int)) (j : Nat), (sumM css).getD j 0 = tot css j
  | [], j => by simp [sumM, tot]
  | c :: r, j => by rw [sumM, addM_at, sumM_at r j, tot]

theorem sumM_vl : ∀ (css : List (List Int)) (n : Nat), vl (sumM css) n = tv css n
  | [], n => by rw [sumM, vl_nil, tv]
  | c :: r, n => by rw [sumM, vl_add, sumM_vl r n, tv]

theorem sumM_len : ∀ (css : List (List Int)) (L : Nat), (∀ c ∈ css, c.length ≤ L) → (sumM css).length ≤ L
  | [], L, _ => by simp [sumM]
  | c :: r, L, h => by
    rw [sumM, addM_len]
    have h1 := h c (List.mem_cons_self ..)
    have h2 := sumM_len r L fun d hd => h d (List.mem_cons_of_mem _ hd)
    omega

theorem sumW_is (css : List (List Int)) (L m : Nat) (h : ∀ c ∈ css, c.length ≤ L) (hm : L ≤ m) : trimM (sumW css m) = trimM (heldL (sumM css)) := trimM_eq _ _ fun j => by
  rw [heldL_at, sumM_at]
  unfold sumW
  rcases Nat.lt_or_ge j m with hj | hj
  · rw [List.getD_eq_getElem?_getD, List.getElem?_map, List.getElem?_range hj]
    rfl
  · rw [List.getD_eq_getElem?_getD, List.getElem?_eq_none (by simpa using hj), ← sumM_at, getD_over (m := m) (Nat.le_trans (sumM_len css L h) hm) hj]
    rfl

/-- sums -/
theorem add_is (css : List (List Int)) (L : Nat) (h : ∀ c ∈ css, c.length ≤ L) (hL : L ≤ 16) : ∃ ys, addAM css = some ys ∧ Is ys (tv css) L := by
  have h1 := (Is.of (sumM css) L (sumM_len css L h)).to (fun n => by rw [sumM_vl]; exact Eq64.rfl' _)
  rw [← sumW_is css L 16 h hL] at h1
  refine ⟨_, ?_, h1⟩
  unfold addAM
  rw [if_neg (by
    rintro ⟨c, hc, hl⟩
    have h2 := h c hc
    have h3 := trimM_len c
    omega)]
  exact if_neg (by have := h1.len; omega)

/-- products -/
theorem mul_is (xs ys : List Int) (a b : Nat) (ha : xs.length ≤ a) (hb : ys.length ≤ b) (hl : a + b ≤ 17) (h0 : 1 ≤ a + b) (h1 : a ≤ 16) (h2 : b ≤ 16) : ∃ zs, mulAM xs ys = some zs ∧ Is zs (fun n => vl xs n * vl ys n) (a + b - 1) := by
  have l1 := trimM_len xs
  have l2 := trimM_len ys
  have l3 := mulM_len _ (trimM xs) (trimM ys) rfl
  have h3 := (Is.of (mulM (trimM xs) (trimM ys)) (a + b - 1) (by omega)).to (G := fun n => vl xs n * vl ys n) (fun n => by rw [vl_mul, vl_trim, vl_trim]; exact Eq64.rfl' _)
  refine ⟨_, ?_, h3⟩
  unfold mulAM
  rw [if_neg (by omega)]
  exact if_neg (by have := h3.len; omega)

/-- sums of values -/
theorem sums_is (s : Int) (xs : List Int) (a : Nat) (hs : In64 s) (hi : ∀ x ∈ xs, In64 x) (ha : xs.length ≤ a) (hl : a ≤ 15) : ∃ zs, ansM (trimM (s :: trimM xs)) = some zs ∧ Is zs (vl (s :: xs)) (a + 1) := by
  have l1 := trimM_len xs
  have l2 := trimM_len (s :: trimM xs)
  have hI : Is (trimM (s :: trimM xs)) (vl (s :: xs)) (a + 1) := ⟨fun n => by
      rw [vl_trim]
      rw [vl_at n (s :: trimM xs) (s :: xs) (fun k => by cases k with | zero => rfl | succ k => simpa using trimM_at xs k)]
      exact Eq64.rfl' _, fun x hx => by
      rcases List.mem_cons.1 (trimM_mem _ x hx) with rfl | h
      · exact hs
      · exact hi x (trimM_mem _ x h), trimM_trim _, by simp only [List.length_cons] at l2; omega⟩
  exact ⟨_, if_neg (by have := hI.len; omega), hI⟩

theorem trim_is (xs : List Int) (a : Nat) (hi : ∀ x ∈ xs, In64 x) (ha : xs.length ≤ a) : Is (trimM xs) (vl xs) a :=
  ⟨fun n => by rw [vl_trim]; exact Eq64.rfl' _, fun x hx => hi x (trimM_mem _ x hx), trimM_trim _, by have := trimM_len xs; omega⟩

/-- what lies in memory: a list, told by its values -/
structure Res (w : World) (A : Option Addr) (n c : Nat) (F : Nat → Int) (L : Nat) (ys : List Int) : Prop where
  len : n = ys.length
  ci : CI w w.heap.size (.slice A n c) ys
  is : Is ys F L

theorem Res.keep {w w' : World} {A : Option Addr} {n c L : Nat} {F : Nat → Int} {ys : List Int} (h : Res w A n c F L ys) (hb : Below w.heap.size w w') : Res w' A n c F L ys := ⟨h.len, (h.ci.keep hb).more hb.size, h.is⟩

theorem AnsE.res {w w' : World} {r : Option (List Int)} {ys : List Int} {F : Nat → Int} {L : Nat} {e : Ending} (h : AnsE w r e w') (hr : r = some ys) (hi : Is ys F L) (hL : L ≤ 1000) :
    ∃ A n c, e = .returned (.tuple #[.slice A n c, .int .i64 0]) ∧ Res w' A n c F L ys ∧ Below w.heap.size w w' := by
  obtain ⟨A, c, rfl, _, hv, hb⟩ := h.some_ hr
  exact ⟨A, _, c, rfl, ⟨rfl, hv.ci (by have := hi.len; omega), hi⟩, hb⟩
end Go.Proofs.YtfifbgpiekpepaaDoor.Chn
