/- The reference's at: a chain's value at a round, by the row of binomials. -/
import Derived.Test.YtfifbgpiekpepaaDoorRRow
import Derived.Deep.QuietTactic
namespace Go.Proofs.YtfifbgpiekpepaaDoor.Chn
open Go.RowKit

/-- the sum of the first k products -/
def ps (c : List Int) (n off : Nat) : Nat → Int
  | 0 => 0
  | k + 1 => ps c n off k + c.getD k 0 * ch n (off + k)

theorem ps_cons (x : Int) (r : List Int) (n off : Nat) : ∀ k, ps (x :: r) n off (k + 1) = x * ch n off + ps r n (off + 1) k
  | 0 => by simp [ps]
  | k + 1 => by
    rw [ps, ps_cons x r n off k, ps, List.getD_cons_succ, show off + (k + 1) = off + 1 + k from by omega]
    omega

theorem ps_all : ∀ (c : List Int) (n off : Nat), ps c n off c.length = sumFrom n off c
  | [], _, _ => rfl
  | x :: r, n, off => by rw [List.length_cons, ps_cons, sumFrom, ps_all r n (off + 1)]

theorem ps_vl (c : List Int) (n : Nat) : ps c n 0 c.length = vl c n := by rw [ps_all, vl_sum]

theorem at_step (c : List Int) (n k : Nat) {x : Int} (hx : c[k]? = some x) : IntKind.i64.wrap (wrp (ps c n 0 k) + IntKind.i64.wrap (x * wrp (ch n k))) = wrp (ps c n 0 (k + 1)) := by
  refine wrp_of ?_
  rw [ps, List.getD_eq_getElem?_getD, hx, Nat.zero_add]
  exact (wrp_eq _).add ((wrp_eq _).trans ((Eq64.rfl' _).mul (wrp_eq _)))

set_option maxRecDepth 100000 in
set_option maxHeartbeats 2000000 in
theorem refAt_any (cs : List Int) (B : Nat) (v : Value) (n : Nat) (w : World) (hx : Ints w B v cs) (hB : B ≤ w.heap.size) (hl : cs.length ≤ 100000) (hn : n < 9223372036854775808) :
    Calls Tryd.prog 32 #[v, .int .i64 n] w fun e w' => e = .returned (.int .i64 (wrp (vl cs n))) ∧ Below w.heap.size w w' := by
  have HX := hideI hx
  obtain ⟨A, c, rfl, _, _⟩ := hx
  have HB := hideI hB
  have HR := hideI (refRow_any n hn cs.length w hl)
  obtain ⟨m, hm⟩ : ∃ m, m = cs.length := ⟨_, rfl⟩
  have HM := hideI hm
  rw [← hm] at HR hl ⊢
  clear hB hm
  go_enter Tryd.func32, Tryd.ntmps32
  go_wp2_with (go_at_call 37; go_must (refine HR.out.mono ?_); rintro e w1 ⟨v5, rfl, hv, hb⟩; have HV := hideI hv; have HB1 := hideI hb; clear hv hb)
  obtain ⟨A5, c5, rfl, hr5⟩ := HV.out.read
  obtain ⟨g5, hg5, _, _, _⟩ := hr5 0 _ (rowW_at (Nat.zero_le m))
  subst hg5
  rw [rowW_len]
  have HR5 : Hid (∀ j, j ≤ m → w1.cell? ⟨g5, j, none⟩ = some (.int .i64 (wrp (ch n j)))) := hideI fun j hj => by
    obtain ⟨g, e, _, _, hc⟩ := hr5 j _ (rowW_at hj)
    injection e with e
    injection e with e
    subst e
    exact hc
  have HX1 := hideI ((HX.out.keep (HB1.out.mono HB.out)))
  clear hr5
  go_loopw [6, 7] (fun u6 u7 wv => ∃ k : Nat, k ≤ m ∧ u7 = .int .i64 k ∧ u6 = .int .i64 (wrp (ps cs n 0 k)) ∧ Hid (Below w1.heap.size w1 wv)) (fun _ u7 _ => m - (intOf u7).toNat)
  case atStart => exact ⟨0, Nat.zero_le _, rfl, rfl, hideI (Below.refl _ _)⟩
  case round =>
    obtain ⟨k, hk, rfl, rfl, HBr⟩ := hrel
    by_cases hlt : k < m
    · obtain ⟨x, hx⟩ : ∃ x, cs[k]? = some x := ⟨_, List.getElem?_eq_getElem (by have := HM.out; omega)⟩
      obtain ⟨A', c', e, _, hat⟩ := HX1.out
      injection e with e e1 e2
      subst e e2
      obtain ⟨b, off, hA, hb, hc⟩ := hat k (by have := HM.out; omega)
      subst hA
      have HBB := HB.out
      have HSZ := HB1.out.size
      have k1 : wr.cell? ⟨b, off + k, none⟩ = some (.int .i64 x) := by
        rw [hx] at hc
        exact (HBr.out.cell (p := ⟨b, off + k, none⟩) (show b < w1.heap.size by omega)).trans hc
      have k2 : wr.cell? ⟨g5, k, none⟩ = some (.int .i64 (wrp (ch n k))) := (HBr.out.cell (p := ⟨g5, k, none⟩) (World.ownsRow.lt (by have h := HV.out; unfold Num at h; exact h) g5 rfl).2).trans (HR5.out k (by omega))
      have k3 : (k : Int) < (m : Int) + 1 := by omega
      have k4 : (k : Int) < (m : Int) := by omega
      have HAS := hideI (at_step cs n k hx)
      clear hx hat hb hc e1 HBB HSZ
      go_upto_region 6 with fail
      go_quiet (fail)
      go_wp2
      go_roundw
      case rel => exact ⟨k + 1, by omega, by go_num, by simp only [odd_wrap, HAS.out], hideI ⟨HBr.out.os, HBr.out.tape, HBr.out.output, HBr.out.size, HBr.out.block⟩⟩
      case measure => simp [intOf]; omega
    · have hkm : k = m := by omega
      have hE : ps cs n 0 k = vl cs n := by rw [hkm, HM.out, ps_vl]
      rw [hE]
      clear hE
      go_wp2
      go_ret
      exact ⟨rfl, HB1.out.trans (HBr.out.mono HB1.out.size)⟩
end Go.Proofs.YtfifbgpiekpepaaDoor.Chn
