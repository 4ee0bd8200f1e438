/- The program's Mul and Add of lists that lie in memory, told by values. -/
import Derived.Test.YtfifbgpiekpepaaDoorChIs
namespace Go.Proofs.YtfifbgpiekpepaaDoor.Chn
open Go.RowKit

/-- a list that lies in memory -/
structure Lst (w : World) (A : Option Addr) (n c : Nat) (ys : List Int) : Prop where
  len : n = ys.length
  ci : CI w w.heap.size (.slice A n c) ys

theorem Lst.keep {w w' : World} {A : Option Addr} {n c : Nat} {ys : List Int} (h : Lst w A n c ys) (hb : Below w.heap.size w w') : Lst w' A n c ys := ⟨h.len, (h.ci.keep hb).more hb.size⟩

theorem below_of_drew {w w' : World} {m : Nat} (h : w' = w.drewN m) : Below w.heap.size w w' := by rw [h]; exact below_drewN (Below.refl _ _) m

/-- the call's end: a list told by its values -/
def LstE (V : World) (F : Nat → Int) (L : Nat) (e : Ending) (w' : World) : Prop :=
  ∃ A n c zs, e = .returned (.tuple #[.slice A n c, .int .i64 0]) ∧ Lst w' A n c zs ∧ Is zs F L ∧ Below V.heap.size V w'

theorem LstE.of {V U w' : World} {r : Option (List Int)} {ys : List Int} {F : Nat → Int} {L : Nat} {e : Ending} (h : AnsE U r e w') (hr : r = some ys) (hi : Is ys F L) (hL : L ≤ 1000) (hU : Below V.heap.size V U) : LstE V F L e w' := by
  obtain ⟨A, n, c, he, h1, h2⟩ := h.res hr hi hL
  exact ⟨A, n, c, ys, he, ⟨h1.len, h1.ci⟩, hi, hU.trans (h2.mono hU.size)⟩

theorem mul_lst (V U : World) (hU : Below V.heap.size V U) (hT : Tab V) {A A' : Option Addr} {n n' c c' : Nat} {xs ys : List Int} (h1 : Lst U A n c xs) (h2 : Lst U A' n' c' ys) (a b : Nat) (ha : xs.length ≤ a) (hb : ys.length ≤ b) (hl : a + b ≤ 17 ∧ 1 ≤ a + b ∧ a ≤ 16 ∧ b ≤ 16) :
    Calls Tryd.prog 17 #[.slice A n c, .slice A' n' c'] U (LstE V (fun k => vl xs k * vl ys k) (a + b - 1)) := by
  obtain ⟨zs, hz, hi⟩ := mul_is xs ys a b ha hb hl.1 hl.2.1 hl.2.2.1 hl.2.2.2
  exact (chMul_any xs ys U.heap.size _ _ U (hT.keep hU hT.1) h1.ci h2.ci (Nat.le_refl _)).mono fun e w' h => LstE.of h hz hi (by omega) hU

theorem add_lst (V U : World) (hU : Below V.heap.size V U) {v : Value} {css : List (List Int)} (h1 : LR U U.heap.size v css) (L : Nat) (h : ∀ c ∈ css, c.length ≤ L) (hL : L ≤ 16) :
    Calls Tryd.prog 12 #[v] U (LstE V (tv css) L) := by
  obtain ⟨zs, hz, hi⟩ := add_is css L h hL
  exact (chAdd_any css U.heap.size v U h1 (Nat.le_refl _)).mono fun e w' h => LstE.of h hz hi (by omega) hU

theorem lst_two (V : World) {A A' : Option Addr} {n n' c c' : Nat} {xs ys : List Int} (h1 : Lst V A n c xs) (h2 : Lst V A' n' c' ys) (L : Nat) (ha : xs.length ≤ L) (hb : ys.length ≤ L) (hL : L ≤ 16) :
    Calls Tryd.prog 12 #[.slice (some ⟨V.heap.size, 0, none⟩) 2 2] (V.alloc (.cells #[.slice A n c, .slice A' n' c'] 24)) (LstE V (tv [xs, ys]) L) :=
  add_lst V _ ((Below.refl _ V).alloc (Nat.le_refl _) _) ((lr_two V _ _ _ _ 24 V.heap.size (Nat.le_refl _) h1.ci h2.ci).more (by simp)) L (by
    intro d hd
    simp at hd
    rcases hd with rfl | rfl <;> assumption) hL

theorem lst_three (V : World) {A A' A'' : Option Addr} {n n' n'' c c' c'' : Nat} {xs ys zs : List Int} (h1 : Lst V A n c xs) (h2 : Lst V A' n' c' ys) (h3 : Lst V A'' n'' c'' zs) (L : Nat) (ha : xs.length ≤ L) (hb : ys.length ≤ L) (hc : zs.length ≤ L) (hL : L ≤ 16) :
    Calls Tryd.prog 12 #[.slice (some ⟨V.heap.size, 0, none⟩) 3 3] (V.alloc (.cells #[.slice A n c, .slice A' n' c', .slice A'' n'' c''] 24)) (LstE V (tv [xs, ys, zs]) L) :=
  add_lst V _ ((Below.refl _ V).alloc (Nat.le_refl _) _) ((lr_three V _ _ _ _ _ _ 24 V.heap.size (Nat.le_refl _) h1.ci h2.ci h3.ci).more (by simp)) L (by
    intro d hd
    simp at hd
    rcases hd with rfl | rfl | rfl <;> assumption) hL

/-- a list of numbers that was just built -/
theorem lst_new (V : World) (xs : List Int) (n : Nat) (hn : n = xs.length) (hm : n ≤ 1000) (cs : Array Value) (hc : cs = (xs.map (Value.int .i64)).toArray) (ty : TypeId) : Lst (V.alloc (.cells cs ty)) (some ⟨V.heap.size, 0, none⟩) n n xs := by
  subst hc
  exact ⟨hn, ci_row (rowC_new V xs ty) hn (Nat.le_refl _) (by omega) (by simp)⟩

theorem vl_const (x : Int) : ∀ n, vl [x] n = x
  | 0 => by rw [vl_zero]; rfl
  | n + 1 => by rw [vl_succ, vl_const x n, List.tail_cons, vl_nil]; omega

theorem vl_pad (x : Int) (n : Nat) : vl [x, 0] n = x := by
  rw [vl_at n [x, 0] [x] (fun k => by match k with | 0 => rfl | 1 => rfl | k + 2 => rfl), vl_const]
end Go.Proofs.YtfifbgpiekpepaaDoor.Chn
