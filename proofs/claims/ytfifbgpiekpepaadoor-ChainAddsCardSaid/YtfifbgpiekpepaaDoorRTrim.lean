/- The reference's Trim and Long of a chain. -/
import Derived.Test.YtfifbgpiekpepaaDoorChainM
import Derived.Test.YtfifbgpiekpepaaDoorNumRow
import Derived.IntWalk
import Derived.BigQuiet
namespace Go.Proofs.YtfifbgpiekpepaaDoor.Chn
open Go.RowKit

theorem grown_below {w w' : World} {o : Obj} {base n : Nat} {e : TypeId} {size : Nat} {v : Value} {xs : List Value} (hg : (w.alloc o).grownBy w' (some w.heap.size)) (_ho : w'.ownsRow base e size v n xs) (hb : base ≤ w.heap.size) : Below base w w' :=
  ⟨hg.os, hg.tape, hg.output, by have := hg.size; simp at this; omega, fun k hk => by
    rw [hg.block k (by simp; omega) (by simp; omega), Below.heap_alloc _ _ _ (by omega)]⟩

def sliceLen : Value → Nat
  | .slice _ n _ => n
  | _ => 0

set_option maxRecDepth 100000 in
set_option maxHeartbeats 1000000 in
theorem refTrim_any (xs : List Int) (B : Nat) (v : Value) (w : World) (hx : Ints w B v xs) (hB : B ≤ w.heap.size) (hn : xs.length ≤ 100000) :
    Calls Tryd.prog 19 #[v] w fun e w' => ∃ v', e = .returned v' ∧ Num w' w.heap.size v' (trimM xs) ∧ Below w.heap.size w w' := by
  have HX := hideI hx
  obtain ⟨A, c, rfl, _, _⟩ := hx
  have HB := hideI hB
  have HN := hideI hn
  clear hB
  clear hn
  go_enter Tryd.func19, Tryd.ntmps19
  go_wp2_with (at_builtin; go_must (refine wpList_copy rfl _ _ rfl B w.heap.size (.slice A xs.length c) xs rfl rfl (HX.out.keep ((Below.refl _ w).alloc HB.out _)) (heap_alloc_new w _) HN.out w.heap.size (Nat.le_refl _) ?_); intro A1 c1 w1 hown hg hv)
  have HB1 : Hid (Below w.heap.size w w1) := hideI (grown_below hg hown (Nat.le_refl _))
  have HO := hideI (show Num w1 w.heap.size (.slice A1 xs.length c1) xs from hown)
  clear hown hg hv
  go_loopw [3] (fun u wr => ∃ k : Nat, k ≤ xs.length ∧ u = .slice A1 k c1 ∧ Hid (trimM (xs.take k) = trimM xs) ∧ wr = w1) (fun u _ => sliceLen u)
  case atStart => exact ⟨xs.length, Nat.le_refl _, rfl, hideI (by rw [List.take_length]), rfl⟩
  case round =>
    obtain ⟨k, hk, rfl, HT, hw⟩ := hrel
    obtain rfl := hw.symm
    have hn5 := HN.out
    by_cases h0 : k = 0
    · have hr : trimM xs = [] := by have h := HT.out; rw [h0] at h; exact h.symm
      have HE : Hid (Num w1 w.heap.size (.slice A1 0 c1) (trimM xs)) := hideI (by rw [hr]; exact HO.out.less 0 (by omega) rfl)
      subst h0
      clear hr HT
      go_wp2
      go_ret
      exact ⟨_, rfl, HE.out, HB1.out⟩
    · obtain ⟨m, rfl⟩ : ∃ m, k = m + 1 := ⟨k - 1, by omega⟩
      obtain ⟨x, hx⟩ : ∃ x, xs[m]? = some x := ⟨_, List.getElem?_eq_getElem (by omega)⟩
      have hT2 := HT.out
      rw [trimM_take hx] at hT2
      obtain ⟨A2, c2, hv, hr⟩ := HO.out.read
      obtain ⟨g, hg, _, _, hc⟩ := hr m x hx
      injection hv with e1 e2 e3
      subst e1 hg
      have hcap := HO.out.cap.1
      have hmc : (m : Int) ≤ (c1 : Int) := by omega
      have hc0 : ¬ c1 = 0 := by omega
      clear hr hx e2 e3 h0 HT
      by_cases hx0 : x = 0
      · subst hx0
        rw [if_pos rfl] at hT2
        have HT3 := hideI hT2
        clear hT2
        go_wp2
        go_roundw
        case rel => exact ⟨m, by omega, by go_num, HT3, trivial⟩
        case measure => simp [sliceLen]
      · rw [if_neg hx0] at hT2
        have hxb : (x == 0) = false := by simpa using hx0
        have HE : Hid (Num w1 w.heap.size (.slice (some ⟨g, 0, none⟩) (m + 1) c1) (trimM xs)) := hideI (HO.out.less (m + 1) hk hT2.symm)
        clear hT2 hx0
        go_wp2
        go_ret
        exact ⟨_, rfl, HE.out, HB1.out⟩

set_option maxRecDepth 100000 in
theorem refLong_any (xs : List Int) (B : Nat) (v : Value) (w : World) (hx : Ints w B v xs) (hB : B ≤ w.heap.size) (hn : xs.length ≤ 100000) :
    Calls Tryd.prog 11 #[v] w fun e w' => e = .returned (.bool (decide (16 < (trimM xs).length))) ∧ Below w.heap.size w w' := by
  have HT := hideI (refTrim_any xs B v w hx hB hn)
  have hl := trimM_len xs
  go_enter Tryd.func11, Tryd.ntmps11
  go_wp2_with (go_at_call 19; go_must (refine HT.out.mono ?_); rintro e w1 ⟨v1, rfl, hv, hb⟩; have HB1 := hideI hb; obtain ⟨A1, c1, rfl, _⟩ := hv.read; clear hv hb)
  go_ret
  exact ⟨by simp; omega, HB1.out⟩
end Go.Proofs.YtfifbgpiekpepaaDoor.Chn
