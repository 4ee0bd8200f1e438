/- slices.Reverse of a row that the call owns. -/
import Derived.Test.YtgmikokdiafjgaaRefArgs
import Derived.Test.YtgmikokdiafjgaaDefine
import Derived.OwnWalk
import Derived.RegionTactic
import Derived.ChangeAlike
import Derived.BigRegion
import Derived.Outline
import Derived.Laws.OwnMore
namespace Go.Proofs.Ytgmikokdiafjgaa
open Go.RowKit

/-- turned round from both ends, k elements each -/
def RevTo {α : Type} (xs ys : List α) (k : Nat) : Prop :=
  ys.length = xs.length ∧ ∀ p, p < xs.length → ys[p]? = if p < k ∨ xs.length ≤ p + k then xs[xs.length - 1 - p]? else xs[p]?

theorem RevTo.start {α : Type} (xs : List α) : RevTo xs xs 0 := ⟨rfl, fun p hp => by rw [if_neg (by omega)]⟩

theorem RevTo.step {α : Type} {xs ys : List α} {k m : Nat} {a b : α} (h : RevTo xs ys k) (hm : m + k + 1 = xs.length) (hlt : k < m) (ha : ys[k]? = some a) (hb : ys[m]? = some b) : RevTo xs ((ys.set k b).set m a) (k + 1) := by
  refine ⟨by rw [List.length_set, List.length_set, h.1], fun p hp => ?_⟩
  have h1 := h.2 k (by omega)
  have h2 := h.2 m (by omega)
  rw [if_neg (by omega)] at h1 h2
  by_cases e2 : p = m
  · subst e2
    rw [List.getElem?_set_self (by rw [List.length_set, h.1]; omega), if_pos (by omega), ← ha, h1]
    congr 1
    omega
  · rw [List.getElem?_set_ne (by omega)]
    by_cases e1 : p = k
    · subst e1
      rw [List.getElem?_set_self (by rw [h.1]; omega), if_pos (by omega), ← hb, h2]
      congr 1
      omega
    · rw [List.getElem?_set_ne (by omega), h.2 p hp]
      by_cases hc : p < k ∨ xs.length ≤ p + k
      · rw [if_pos hc, if_pos (by omega)]
      · rw [if_neg hc, if_neg (by omega)]

theorem RevTo.last {α : Type} {xs ys : List α} {k m : Nat} (h : RevTo xs ys k) (hm : m + k + 1 = xs.length) (hge : m ≤ k) : ys = xs.reverse := by
  apply List.ext_getElem?
  intro p
  by_cases hp : p < xs.length
  · rw [h.2 p hp, List.getElem?_reverse hp]
    by_cases hc : p < k ∨ xs.length ≤ p + k
    · rw [if_pos hc]
    · rw [if_neg hc]
      congr 1
      omega
  · rw [List.getElem?_eq_none (by rw [h.1]; omega), List.getElem?_eq_none (by rw [List.length_reverse]; omega)]

set_option maxRecDepth 100000 in
set_option maxHeartbeats 2000000 in
theorem reverse_any (base g cap : Nat) (xs : List Int) (w : World) (hn : 0 < xs.length) (hn2 : xs.length ≤ 1000000) (hown : w.ownsRow base 3 1 (.slice (some ⟨g, 0, none⟩) xs.length cap) xs.length (xs.map (Value.int .i64))) :
    Calls Try.prog 52 #[.slice (some ⟨g, 0, none⟩) xs.length cap] w fun e w' => e = .returned (.tuple #[]) ∧ w'.ownsRow base 3 1 (.slice (some ⟨g, 0, none⟩) xs.length cap) xs.length (xs.reverse.map (Value.int .i64)) ∧ w.grownBy w' (some g) := by
  have HOWN := hideI hown
  obtain ⟨n, hN⟩ : ∃ n, n = xs.length := ⟨_, rfl⟩
  have HN := hideI hN
  rw [← hN] at hn hn2 ⊢
  clear hown hN
  go_enter Try.func52, Try.ntmps52
  go_wp2
  go_loopw [2, 3] (fun u v wr => ∃ (k m : Nat) (ys : List Int), m + k + 1 = n ∧ u = .int .i64 k ∧ v = .int .i64 m ∧ Hid (RevTo xs ys k) ∧ Hid (wr.ownsRow base 3 1 (.slice (some ⟨g, 0, none⟩) n cap) n (ys.map (Value.int .i64))) ∧ Hid (w.grownBy wr (some g))) (fun _ v _ => (intOf v).toNat)
  case atStart => exact ⟨0, n - 1, xs, by omega, rfl, by go_num, hideI (RevTo.start xs), (by have := HOWN.out; rw [← HN.out] at this; exact hideI this), hideI (World.grownBy.refl _ _)⟩
  case round =>
    obtain ⟨k, m, ys, hm, rfl, rfl, HR, HO, HG⟩ := hrel
    have hyl : ys.length = n := by rw [HR.out.1, ← HN.out]
    have HM : Hid (m + k + 1 = xs.length) := by show _ = _; rw [← HN.out]; exact hm
    by_cases hlt : k < m
    · obtain ⟨a, ha⟩ : ∃ a, ys[k]? = some a := ⟨_, List.getElem?_eq_getElem (by omega)⟩
      obtain ⟨b, hb⟩ : ∃ b, ys[m]? = some b := ⟨_, List.getElem?_eq_getElem (by omega)⟩
      have q1 : wr.cell? ⟨g, k, none⟩ = some (.int .i64 a) := by rw [World.ownsRow.cellAt HO.out k (by omega), List.getElem?_map, ha]; rfl
      have q2 : wr.cell? ⟨g, m, none⟩ = some (.int .i64 b) := by rw [World.ownsRow.cellAt HO.out m (by omega), List.getElem?_map, hb]; rfl
      have q3 : wr.frozen? ⟨g, k, none⟩ = false := World.ownsRow.frozenAt HO.out k
      have q4 : wr.frozen? ⟨g, m, none⟩ = false := World.ownsRow.frozenAt HO.out m
      have HA := hideI ha
      have HB := hideI hb
      have hkm : k ≠ m := by omega
      have hmk : m ≠ k := by omega
      have hkn : k < n := by omega
      have hmn : m < n := by omega
      obtain ⟨m', rfl⟩ : ∃ m', m = m' + 1 := ⟨m - 1, by omega⟩
      have HM2 : Hid (m' + (k + 1) + 1 = n) := by show _ = _; omega
      clear ha hb hyl hm
      go_wp2
      go_region
      have HS : Hid (((wr.setCell ⟨g, k, none⟩ (.int .i64 b)).setCell ⟨g, m' + 1, none⟩ (.int .i64 a)).drew.ownsRow base 3 1 (.slice (some ⟨g, 0, none⟩) n cap) n (((ys.set k b).set (m' + 1) a).map (Value.int .i64))) := by
        show World.ownsRow _ _ _ _ _ _ _
        rw [List.map_set, List.map_set]
        exact ((World.ownsRow.stored (World.ownsRow.stored HO.out k _).1 (m' + 1) _).1).drew
      have HG2 : Hid (w.grownBy ((wr.setCell ⟨g, k, none⟩ (.int .i64 b)).setCell ⟨g, m' + 1, none⟩ (.int .i64 a)).drew (some g)) :=
        ((HG.out.trans_grown (World.ownsRow.stored HO.out k _).2).trans_grown (World.ownsRow.stored (World.ownsRow.stored HO.out k (.int .i64 b)).1 (m' + 1) _).2).trans_grown ⟨rfl, rfl, rfl, Nat.le_refl _, fun _ _ _ => rfl⟩
      clear q1 q2 q3 q4
      go_wp2
      go_roundw
      case rel => exact ⟨k + 1, m', (ys.set k b).set (m' + 1) a, HM2.out, by go_num, by go_num, HR.out.step HM.out (by omega) HA.out HB.out, HS, HG2⟩
      case measure => simp [intOf]
    · have hge : m ≤ k := by omega
      clear hm hyl
      go_wp2
      go_end0
      refine ⟨rfl, ?_, HG.out⟩
      rw [← HR.out.last HM.out hge]
      exact HO.out

end Go.Proofs.Ytgmikokdiafjgaa
