/- The reference's find: where a number stands in a rising list. -/
import Derived.Test.YtgmikokdiafjgaaInts
import Derived.IntWalk
namespace Go.Proofs.Ytgmikokdiafjgaa
open Go.RowKit

def Found (xs : List Int) (n r : Int) : Prop := (r = -1 ∧ n ∉ xs) ∨ ∃ k : Nat, r = k ∧ xs[k]? = some n

def FindPost (xs : List Int) (n : Int) (w : World) (e : Ending) (w' : World) : Prop := ∃ r, e = .returned (.int .i64 r) ∧ Found xs n r ∧ w = w'

/-- n can only stand from a on, and before b -/
def Lies (xs : List Int) (n : Int) (a b : Nat) : Prop := ∀ j, xs[j]? = some n → a ≤ j ∧ j < b

theorem lies_up {xs : List Int} {n x : Int} {a b m : Nat} (hr : xs.Pairwise (· < ·)) (h : Lies xs n a b) (hm : xs[m]? = some x) (hx : x < n) : Lies xs n (m + 1) b := by
  intro j hj
  refine ⟨?_, (h j hj).2⟩
  obtain ⟨h1, rfl⟩ := List.getElem?_eq_some_iff.1 hm
  obtain ⟨h2, rfl⟩ := List.getElem?_eq_some_iff.1 hj
  rcases Nat.lt_trichotomy j m with hjm | rfl | hjm
  · have := List.pairwise_iff_getElem.1 hr j m h2 h1 hjm
    omega
  · omega
  · omega

theorem lies_down {xs : List Int} {n x : Int} {a b m : Nat} (hr : xs.Pairwise (· < ·)) (h : Lies xs n a b) (hm : xs[m]? = some x) (hx : n < x) : Lies xs n a m := by
  intro j hj
  refine ⟨(h j hj).1, ?_⟩
  obtain ⟨h1, rfl⟩ := List.getElem?_eq_some_iff.1 hm
  obtain ⟨h2, rfl⟩ := List.getElem?_eq_some_iff.1 hj
  rcases Nat.lt_trichotomy j m with hjm | rfl | hjm
  · omega
  · omega
  · have := List.pairwise_iff_getElem.1 hr m j h1 h2 hjm
    omega

set_option maxHeartbeats 800000 in
theorem find_any (w : World) (B : Nat) (v : Value) (xs : List Int) (n : Int) (hx : Ints w B v xs) (hr : xs.Pairwise (· < ·)) (hl : xs.length ≤ 100000) :
    Calls Try.prog 27 #[v, .int .i64 n] w (FindPost xs n w) := by
  obtain ⟨A, c, rfl, hm, hx⟩ := hx
  have Hx := hideI hx
  have HR := hideI hr
  clear hx hr
  go_enter Try.func27, Try.ntmps27
  go_wp2
  go_loopw [5, 6] (fun i o wr => ∃ a b : Nat, a ≤ b ∧ b ≤ xs.length ∧ i = .int .i64 a ∧ o = .int .i64 b ∧ Lies xs n a b ∧ wr = w) (fun i o _ => (intOf o).toNat - (intOf i).toNat)
  case atStart =>
    refine ⟨0, xs.length, Nat.zero_le _, Nat.le_refl _, rfl, rfl, ?_, rfl⟩
    intro j hj
    obtain ⟨h, _⟩ := List.getElem?_eq_some_iff.1 hj
    exact ⟨Nat.zero_le _, h⟩
  case round =>
    obtain ⟨a, b, hab, hb, rfl, rfl, hL, rfl⟩ := hrel
    have HL := hideI hL
    clear hL
    by_cases hlt : a < b
    · obtain ⟨m, hm1⟩ : ∃ m, m = (a + b) / 2 := ⟨_, rfl⟩
      have hm2 : a ≤ m ∧ m < b := by omega
      have hq : ((a : Int) + (b : Int)).tdiv 2 = (m : Int) := by rw [hm1, Int.tdiv_eq_ediv_of_nonneg (by omega)]; omega
      clear hm1
      obtain ⟨g, off, rfl, hg, hc⟩ := Hx.out m (by omega)
      obtain ⟨x, hx⟩ : ∃ x, xs[m]? = some x := ⟨_, List.getElem?_eq_getElem (by omega)⟩
      rw [hx] at hc
      simp only [Option.getD_some] at hc
      have HX := hideI hx
      clear hx
      cases he : x == n
      · cases hs : decide (x < n)
        · go_wp2
          go_roundw
          case rel => exact ⟨a, m, by omega, by omega, by go_num, by go_num, lies_down HR.out HL.out HX.out (by have h1 := of_decide_eq_false hs; have h2 : x ≠ n := (by simpa using he); omega), trivial⟩
          case measure => simp [intOf]; omega
        · go_wp2
          go_roundw
          case rel => exact ⟨m + 1, b, by omega, by omega, by go_num, by go_num, lies_up HR.out HL.out HX.out (of_decide_eq_true hs), trivial⟩
          case measure => simp [intOf]; omega
      · have hxn : x = n := by simpa using he
        have HXN := hideI hxn
        clear hxn
        go_wp2
        go_ret
        exact ⟨_, rfl, .inr ⟨m, rfl, by rw [HX.out, HXN.out]⟩, rfl⟩
    · go_wp2
      go_ret
      refine ⟨_, rfl, .inl ⟨rfl, fun hn => ?_⟩, rfl⟩
      obtain ⟨j, hj⟩ := List.getElem?_of_mem hn
      have := HL.out j hj
      omega

end Go.Proofs.Ytgmikokdiafjgaa
