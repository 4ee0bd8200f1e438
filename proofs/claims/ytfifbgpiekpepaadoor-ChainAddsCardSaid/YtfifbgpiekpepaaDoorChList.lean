/- The program's trimmed, tooLong, own, answer. -/
import Derived.Test.YtfifbgpiekpepaaDoorChVal
import Derived.Test.YtfifbgpiekpepaaDoorRTrim
namespace Go.Proofs.YtfifbgpiekpepaaDoor.Chn
open Go.RowKit

theorem CI.keep {w w' : World} {B : Nat} {v : Value} {xs : List Int} (h : CI w B v xs) (hk : Below B w w') : CI w' B v xs := ⟨h.1.keep hk, h.2⟩
theorem CI.more {w : World} {B B' : Nat} {v : Value} {xs : List Int} (h : CI w B v xs) (hB : B ≤ B') : CI w B' v xs := ⟨h.1.more hB, h.2⟩
theorem CI.nil (w : World) (B : Nat) : CI w B (.slice none 0 0) [] := ⟨Ints.nil w B, fun _ _ _ e => by injection e with _ e1 e2; omega⟩

theorem CI.take {w : World} {B : Nat} {A : Option Addr} {n c : Nat} {xs ys : List Int} (h : CI w B (.slice A n c) xs) {k : Nat} (hk : k ≤ xs.length) (hy : ys = xs.take k) : CI w B (.slice A k c) ys := by
  subst hy
  obtain ⟨⟨A2, c2, e, hm, hat⟩, hc⟩ := h
  have hcc := hc _ _ _ rfl
  injection e with e1 e2 e3
  subst e1 e3
  refine ⟨⟨A, c, by rw [List.length_take, Nat.min_eq_left hk], by rw [List.length_take]; omega, fun j hj => ?_⟩, fun A' n' c' e => by injection e with _ e4 e5; omega⟩
  rw [List.length_take] at hj
  obtain ⟨b, off, e, hb, hcl⟩ := hat j (by omega)
  exact ⟨b, off, e, hb, by rw [hcl, List.getElem?_take, if_pos (by omega)]⟩

theorem Num.ci {w : World} {base : Nat} {v : Value} {xs : List Int} (h : Num w base v xs) (hl : xs.length ≤ 140737488351232) : CI w w.heap.size v xs :=
  ⟨h.ints hl, fun A n c e => by subst e; exact h.cap.1⟩

set_option maxRecDepth 100000 in
set_option maxHeartbeats 1000000 in
theorem trimmed_any (xs : List Int) (B : Nat) (v : Value) (w : World) (hx : CI w B v xs) :
    Calls Tryd.prog 27 #[v] w fun e w' => ∃ v', e = .returned v' ∧ CI w B v' (trimM xs) ∧ w' = w := by
  have HX := hideI hx
  obtain ⟨⟨A, c, rfl, hm, _⟩, hcap⟩ := hx
  have hcn := hcap _ _ _ rfl
  have HM := hideI hm
  clear hm hcap
  go_enter Tryd.func27, Tryd.ntmps27
  go_wp2
  go_loopw [0] (fun u wr => ∃ k : Nat, k ≤ xs.length ∧ u = .slice A k c ∧ Hid (trimM (xs.take k) = trimM xs) ∧ wr = w) (fun u _ => sliceLen u)
  case atStart => exact ⟨xs.length, Nat.le_refl _, rfl, hideI (by rw [List.take_length]), rfl⟩
  case round =>
    obtain ⟨k, hk, rfl, HT, hw⟩ := hrel
    obtain rfl := hw.symm
    by_cases h0 : k = 0
    · have hr : trimM xs = [] := by have h := HT.out; rw [h0] at h; exact h.symm
      have HE : Hid (CI w B (.slice A 0 c) (trimM xs)) := hideI (by rw [hr]; exact HX.out.take (by omega) rfl)
      subst h0
      clear hr HT
      go_wp2
      go_ret
      exact ⟨_, rfl, HE.out, rfl⟩
    · obtain ⟨m, rfl⟩ : ∃ m, k = m + 1 := ⟨k - 1, by omega⟩
      obtain ⟨x, hx⟩ : ∃ x, xs[m]? = some x := ⟨_, List.getElem?_eq_getElem (by omega)⟩
      have hT2 := HT.out
      rw [trimM_take hx] at hT2
      obtain ⟨⟨A2, c2, e, _, hat⟩, _⟩ := HX.out
      injection e with e1 _ e3
      subst e1 e3
      obtain ⟨b, off, hA, hb, hc⟩ := hat m (by omega)
      subst hA
      rw [hx] at hc
      have hmc : (m : Int) ≤ (c : Int) := by omega
      have hc0 : ¬ c = 0 := by omega
      have hm5 := HM.out
      clear hat hx hb h0 HT
      by_cases hx0 : x = 0
      · subst hx0
        rw [if_pos rfl] at hT2
        have HT3 := hideI hT2
        have hxb : ((0 : Int) == 0) = true := rfl
        clear hT2
        go_wp2
        go_roundw
        case rel => exact ⟨m, by omega, by go_num, HT3, trivial⟩
        case measure => simp [sliceLen]
      · rw [if_neg hx0] at hT2
        have hxb : (x == 0) = false := by simpa using hx0
        have HE : Hid (CI w B (.slice (some ⟨b, off, none⟩) (m + 1) c) (trimM xs)) := hideI (HX.out.take hk hT2.symm)
        clear hT2 hx0
        go_wp2
        go_ret
        exact ⟨_, rfl, HE.out, rfl⟩

set_option maxRecDepth 100000 in
theorem tooLong_any (A : Option Addr) (n c : Nat) (w : World) :
    Calls Tryd.prog 28 #[.slice A n c] w fun e w' => e = .returned (.bool (decide (16 < n))) ∧ w' = w := by
  go_enter Tryd.func28, Tryd.ntmps28
  go_wp2
  go_ret
  exact ⟨by simp; omega, rfl⟩
end Go.Proofs.YtfifbgpiekpepaaDoor.Chn
