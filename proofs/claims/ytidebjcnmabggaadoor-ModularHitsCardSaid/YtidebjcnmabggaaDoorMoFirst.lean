/- First and Solve, whole; Inverse. -/
import Derived.Test.YtidebjcnmabggaaDoorMoStep2
import Derived.Test.YtidebjcnmabggaaDoorMoSolveM
import Derived.Test.YtidebjcnmabggaaDoorOdd
namespace Go.Proofs.YtidebjcnmabggaaDoor.Mo
open Go.RowKit

set_option maxRecDepth 100000 in
theorem width_yes (n : Nat) (h0 : 1 ≤ n) (h1 : n ≤ 64) (w : World) :
    Calls Tryd.prog 19 #[.int .i64 (n : Int)] w fun e w' => e = .returned (.bool true) ∧ w' = w := by
  have b1 : (1 : Int) ≤ (n : Int) := by omega
  have b2 : (n : Int) ≤ 64 := by omega
  go_enter Tryd.func19, Tryd.ntmps19
  go_wp2
  go_ret
  exact ⟨rfl, rfl⟩

set_option maxRecDepth 100000 in
theorem width_no (n : Int) (h0 : n < 1 ∨ 64 < n) (w : World) :
    Calls Tryd.prog 19 #[.int .i64 n] w fun e w' => e = .returned (.bool false) ∧ w' = w := by
  by_cases h : n < 1
  · have b1 : ¬ (1 : Int) ≤ n := by omega
    go_enter Tryd.func19, Tryd.ntmps19
    go_wp2
    go_ret
    exact ⟨rfl, rfl⟩
  · have b1 : (1 : Int) ≤ n := by omega
    have b2 : ¬ n ≤ (64 : Int) := by omega
    go_enter Tryd.func19, Tryd.ntmps19
    go_wp2
    go_ret
    exact ⟨rfl, rfl⟩

set_option maxRecDepth 100000 in
theorem greatest_any (n : Nat) (h1 : n ≤ 64) (w : World) :
    Calls Tryd.prog 20 #[.int .i64 (n : Int)] w fun e w' => e = .returned (.int .u64 ((2 ^ n - 1 : Nat) : Int)) ∧ w' = w := by
  have hm : min n 64 = n := Nat.min_eq_left h1
  have hp := pow_pos n
  have hl := pow_le64 h1
  obtain ⟨P, hP⟩ : ∃ P, P = 2 ^ n := ⟨_, rfl⟩
  have hPi : (2 : Int) ^ n = (P : Int) := by rw [hP, Int.natCast_pow]; rfl
  rw [← hP] at hp hl ⊢
  have e1 : IntKind.u64.wrap (IntKind.u64.wrap (P : Int) - 1) = ((P - 1 : Nat) : Int) := by simp only [IntKind.wrap_u64]; omega
  obtain ⟨Q, hQ⟩ : ∃ Q, Q = P - 1 := ⟨_, rfl⟩
  rw [← hQ] at e1 ⊢
  clear hP hp hl hQ
  go_enter Tryd.func20, Tryd.ntmps20
  go_wp2
  go_ret
  exact ⟨by simp [e1], rfl⟩

theorem top_int {n : Nat} (h : n ≤ 64) : 2 ^ n - 1 < 18446744073709551616 := by have := pow_le64 h; have := pow_pos n; omega

set_option maxRecDepth 100000 in
theorem first_width (a b lo hi : Int) (n : Int) (h0 : n < 1 ∨ 64 < n) (w : World) :
    Calls Tryd.prog 15 #[.int .u64 a, .int .u64 b, .int .u64 lo, .int .u64 hi, .int .i64 n] w fun e w' => e = .returned (.tuple #[.int .u64 0, .int .i64 1]) ∧ w' = w := by
  have HN := hideI (fun V : World => width_no n h0 V)
  clear h0
  go_enter Tryd.func15, Tryd.ntmps15
  go_wp2_with (go_at_call 19; go_must (refine (HN.out _).mono ?_); rintro e w1 ⟨rfl, hw⟩; obtain rfl := hw.symm)
  refine bodyPost_ret (results_tmp2 rfl _ _ _) (by rfl) ?_
  exact ⟨rfl, rfl⟩

set_option maxRecDepth 100000 in
theorem first_arg (a b : Int) (lo hi n : Nat) (h0 : 1 ≤ n) (h1 : n ≤ 64) (hr : hi < lo ∨ 2 ^ n ≤ hi) (w : World) :
    Calls Tryd.prog 15 #[.int .u64 a, .int .u64 b, .int .u64 (lo : Int), .int .u64 (hi : Int), .int .i64 (n : Int)] w fun e w' => e = .returned (.tuple #[.int .u64 0, .int .i64 1]) ∧ w' = w := by
  have HN := hideI (fun V : World => width_yes n h0 h1 V)
  have HG := hideI (fun V : World => greatest_any n h1 V)
  have hp := pow_pos n
  obtain ⟨P, hP⟩ : ∃ P, P = 2 ^ n := ⟨_, rfl⟩
  rw [← hP] at HG hr hp
  obtain ⟨Q, hQ⟩ : ∃ Q, Q = P - 1 := ⟨_, rfl⟩
  rw [← hQ] at HG
  by_cases hc : hi < lo
  · have b1 : (hi : Int) < (lo : Int) := by omega
    clear hP hp hQ hr h0 h1 hc
    go_enter Tryd.func15, Tryd.ntmps15
    go_wp2_with (go_at_call 19; go_must (refine (HN.out _).mono ?_); rintro e w1 ⟨rfl, hw⟩; obtain rfl := hw.symm)
    refine bodyPost_ret (results_tmp2 rfl _ _ _) (by rfl) ?_
    exact ⟨rfl, rfl⟩
  · have b1 : ¬ (hi : Int) < (lo : Int) := by omega
    have b2 : (Q : Int) < (hi : Int) := by omega
    clear hP hp hQ hr h0 h1 hc
    go_enter Tryd.func15, Tryd.ntmps15
    go_wp2_with (first
      | (go_at_call 19; go_must (refine (HN.out _).mono ?_); rintro e w1 ⟨rfl, hw⟩; obtain rfl := hw.symm)
      | (go_at_call 20; go_must (refine (HG.out _).mono ?_); rintro e w1 ⟨rfl, hw⟩; obtain rfl := hw.symm))
    refine bodyPost_ret (results_tmp2 rfl _ _ _) (by rfl) ?_
    exact ⟨rfl, rfl⟩

/-- what First and Solve answer where they are asked rightly -/
def AnsP (M a b lo hi : Nat) (w : World) (e : Ending) (w' : World) : Prop :=
  ∃ (x : Nat) (r : Int), Ans M a b lo hi x r ∧ e = .returned (.tuple #[.int .u64 (x : Int), .int .i64 r]) ∧ Below w.heap.size w w'

set_option maxRecDepth 100000 in
theorem first_any (a b lo hi n : Nat) (h0 : 1 ≤ n) (h1 : n ≤ 64) (ha : a < 18446744073709551616) (hb : b < 18446744073709551616) (hl : lo ≤ hi) (hh : hi < 2 ^ n) (w : World) :
    Calls Tryd.prog 15 #[.int .u64 (a : Int), .int .u64 (b : Int), .int .u64 (lo : Int), .int .u64 (hi : Int), .int .i64 (n : Int)] w (AnsP (2 ^ n) a b lo hi w) := by
  have HN := hideI (fun V : World => width_yes n h0 h1 V)
  have HG := hideI (fun V : World => greatest_any n h1 V)
  have hp := pow_pos n
  have hle := pow_le64 h1
  have A1 := and_top ha h1
  have A2 := and_top hb h1
  have hlon : lo % 2 ^ n = lo := Nat.mod_eq_of_lt (by omega)
  have hhin : hi % 2 ^ n = hi := Nat.mod_eq_of_lt hh
  have ha1 := Nat.mod_lt a hp
  have hb1 := Nat.mod_lt b hp
  have A3 := sub_top (c := lo) (a := a % 2 ^ n) (by omega) (by omega) h1
  have A4 := sub_top (c := hi) (a := a % 2 ^ n) (by omega) (by omega) h1
  rw [Nat.mod_mod, hlon] at A3
  rw [Nat.mod_mod, hhin] at A4
  have HMOD : Hid (∀ k, Hit (2 ^ n) (a % 2 ^ n) (b % 2 ^ n) lo hi k ↔ Hit (2 ^ n) a b lo hi k) := hideI (fun k => hit_mod _ _ _ _ _ _)
  obtain ⟨P, hP⟩ : ∃ P, P = 2 ^ n := ⟨_, rfl⟩
  have hPn : P ≤ 2 ^ n := by omega
  rw [← hP] at HG hh hp hle A1 A2 A3 A4 HMOD ha1 hb1 ⊢
  obtain ⟨a1, hae⟩ : ∃ z, z = a % P := ⟨_, rfl⟩
  obtain ⟨b1, hbe⟩ : ∃ z, z = b % P := ⟨_, rfl⟩
  rw [← hae] at A1 A3 A4 HMOD ha1
  rw [← hbe] at A2 HMOD hb1
  obtain ⟨Q, hQ⟩ : ∃ Q, Q = P - 1 := ⟨_, rfl⟩
  have hPQ : P = Q + 1 := by omega
  rw [← hQ] at HG A1 A2 A3 A4
  have c1 : ¬ (hi : Int) < (lo : Int) := by omega
  have c2 : ¬ (Q : Int) < (hi : Int) := by omega
  by_cases hin : lo ≤ a1 ∧ a1 ≤ hi
  · have c3 : (lo : Int) ≤ (a1 : Int) := by omega
    have c4 : (a1 : Int) ≤ (hi : Int) := by omega
    have HANS : Hid (Ans P a b lo hi 0 0) := hideI (Ans.of_iff HMOD.out (.yes ⟨by unfold Hit; rw [Nat.mul_zero, Nat.add_zero, Nat.mod_eq_of_lt ha1]; exact hin, fun m hm => by omega⟩))
    clear hP hp hQ h0 h1 ha hb hl hh hle ha1 hb1 hae hbe hlon hhin hPQ hin hPn
    go_enter Tryd.func15, Tryd.ntmps15
    go_wp2_with (first
      | (go_at_call 19; go_must (refine (HN.out _).mono ?_); rintro e w1 ⟨rfl, hw⟩; obtain rfl := hw.symm)
      | (go_at_call 20; go_must (refine (HG.out _).mono ?_); rintro e w1 ⟨rfl, hw⟩; obtain rfl := hw.symm))
    refine bodyPost_ret (results_tmp2 rfl _ _ _) (by rfl) ?_
    exact ⟨0, 0, HANS.out, rfl, Below.refl _ w⟩
  · have hok := from_ok ha1 hb1 hl hh hin
    have HHIT : Hid (∀ k, (⟨P, b1, from_ P a1 lo, from_ P a1 hi⟩ : Rnd).Hits k ↔ Hit P a b lo hi k) := hideI (fun k => (hit_from hp ha1 hl hh hin k).trans (HMOD.out k))
    obtain ⟨lo2, hlo2⟩ : ∃ z, z = from_ P a1 lo := ⟨_, rfl⟩
    obtain ⟨hi2, hhi2⟩ : ∃ z, z = from_ P a1 hi := ⟨_, rfl⟩
    rw [← hlo2] at A3 hok HHIT
    rw [← hhi2] at A4 hok HHIT
    have HST := hideI (fun V : World => steps_any Q b1 lo2 hi2 n (by rw [← hPQ]; exact hok) (by omega) (by rw [← hPQ]; exact hPn) h1 V)
    rw [← hPQ] at HST
    by_cases hc : lo ≤ a1
    · have c3 : (lo : Int) ≤ (a1 : Int) := by omega
      have c4 : ¬ (a1 : Int) ≤ (hi : Int) := by omega
      clear hP hp hQ h0 h1 ha hb hl hh hle ha1 hb1 hae hbe hlon hhin hPQ hin hPn hok hlo2 hhi2 hc
      go_enter Tryd.func15, Tryd.ntmps15
      go_wp2_with (first
        | (go_at_call 19; go_must (refine (HN.out _).mono ?_); rintro e w1 ⟨rfl, hw⟩; obtain rfl := hw.symm)
        | (go_at_call 20; go_must (refine (HG.out _).mono ?_); rintro e w1 ⟨rfl, hw⟩; obtain rfl := hw.symm)
        | (go_at_call 22; go_must (refine (HST.out _).mono ?_); rintro e w3 ⟨⟨v, hv, rfl⟩, hw3⟩; rcases hv.or with ⟨n2, hl2, rfl⟩ | ⟨hl2, rfl⟩))
      · refine bodyPost_ret (results_tmp2 rfl _ _ _) (by rfl) ?_
        exact ⟨n2, 0, .yes ⟨(HHIT.out _).mp hl2.1, fun m hm hh => hl2.2 m hm ((HHIT.out m).mpr hh)⟩, rfl, hw3⟩
      · refine bodyPost_ret (results_tmp2 rfl _ _ _) (by rfl) ?_
        exact ⟨0, 9, .no fun m hh => hl2 m ((HHIT.out m).mpr hh), rfl, hw3⟩
    · have c3 : ¬ (lo : Int) ≤ (a1 : Int) := by omega
      clear hP hp hQ h0 h1 ha hb hl hh hle ha1 hb1 hae hbe hlon hhin hPQ hin hPn hok hlo2 hhi2 hc
      go_enter Tryd.func15, Tryd.ntmps15
      go_wp2_with (first
        | (go_at_call 19; go_must (refine (HN.out _).mono ?_); rintro e w1 ⟨rfl, hw⟩; obtain rfl := hw.symm)
        | (go_at_call 20; go_must (refine (HG.out _).mono ?_); rintro e w1 ⟨rfl, hw⟩; obtain rfl := hw.symm)
        | (go_at_call 22; go_must (refine (HST.out _).mono ?_); rintro e w3 ⟨⟨v, hv, rfl⟩, hw3⟩; rcases hv.or with ⟨n2, hl2, rfl⟩ | ⟨hl2, rfl⟩))
      · refine bodyPost_ret (results_tmp2 rfl _ _ _) (by rfl) ?_
        exact ⟨n2, 0, .yes ⟨(HHIT.out _).mp hl2.1, fun m hm hh => hl2.2 m hm ((HHIT.out m).mpr hh)⟩, rfl, hw3⟩
      · refine bodyPost_ret (results_tmp2 rfl _ _ _) (by rfl) ?_
        exact ⟨0, 9, .no fun m hh => hl2 m ((HHIT.out m).mpr hh), rfl, hw3⟩

set_option maxRecDepth 100000 in
theorem solve_width (a b c : Int) (n : Int) (h0 : n < 1 ∨ 64 < n) (w : World) :
    Calls Tryd.prog 13 #[.int .u64 a, .int .u64 b, .int .u64 c, .int .i64 n] w fun e w' => e = .returned (.tuple #[.int .u64 0, .int .i64 1]) ∧ w' = w := by
  have HN := hideI (fun V : World => width_no n h0 V)
  clear h0
  go_enter Tryd.func13, Tryd.ntmps13
  go_wp2_with (go_at_call 19; go_must (refine (HN.out _).mono ?_); rintro e w1 ⟨rfl, hw⟩; obtain rfl := hw.symm)
  refine bodyPost_ret (results_tmp2 rfl _ _ _) (by rfl) ?_
  exact ⟨rfl, rfl⟩

def PartsIs (w0 : World) (x o t : Nat) : Prop := ∀ V, Chn.Tab V → Calls Tryd.prog 21 #[.int .u64 (x : Int)] V fun e w' => e = .returned (.tuple #[.int .u64 (o : Int), .int .i64 (t : Int)]) ∧ w' = V

set_option maxRecDepth 100000 in
theorem solve_less (a b c s d o1 t1 o2 t2 n : Nat) (h0 : 1 ≤ n) (h1 : n ≤ 64) (A1 : bits BinOp.and IntKind.u64 (b : Int) ((2 ^ n - 1 : Nat) : Int) = (s : Int)) (A2 : bits BinOp.and IntKind.u64 (IntKind.u64.wrap ((c : Int) - (a : Int))) ((2 ^ n - 1 : Nat) : Int) = (d : Int))
    (w : World) (hT : Chn.Tab w) (HP1 : PartsIs w s o1 t1) (HP2 : PartsIs w d o2 t2) (hlt : t2 < t1) :
    Calls Tryd.prog 13 #[.int .u64 (a : Int), .int .u64 (b : Int), .int .u64 (c : Int), .int .i64 (n : Int)] w fun e w' => e = .returned (.tuple #[.int .u64 0, .int .i64 9]) ∧ Below w.heap.size w w' := by
  have HN := hideI (fun V : World => width_yes n h0 h1 V)
  have HG := hideI (fun V : World => greatest_any n h1 V)
  obtain ⟨Q, hQ⟩ : ∃ Q, Q = 2 ^ n - 1 := ⟨_, rfl⟩
  rw [← hQ] at HG A1 A2
  have HA := hideI (HP1 w hT)
  have HB := hideI (HP2 w hT)
  have b1 : (t2 : Int) < (t1 : Int) := by omega
  clear hQ h0 h1 hlt HP1 HP2 hT
  go_enter Tryd.func13, Tryd.ntmps13
  go_wp2_with (first
    | (go_at_call 19; go_must (refine (HN.out _).mono ?_); rintro e w1 ⟨rfl, hw⟩; obtain rfl := hw.symm)
    | (go_at_call 20; go_must (refine (HG.out _).mono ?_); rintro e w1 ⟨rfl, hw⟩; obtain rfl := hw.symm)
    | (go_at_call 21; go_must (refine HA.out.mono ?_); rintro e w1 ⟨rfl, hw⟩; (obtain rfl := hw.symm); replace HA := HB))
  refine bodyPost_ret (results_tmp2 rfl _ _ _) (by rfl) ?_
  exact ⟨rfl, Below.refl _ w⟩

set_option maxRecDepth 100000 in
theorem solve_more (a b c s d o1 t1 o2 t2 n u y i m k x : Nat) (h0 : 1 ≤ n) (h1 : n ≤ 64) (A1 : bits BinOp.and IntKind.u64 (b : Int) ((2 ^ n - 1 : Nat) : Int) = (s : Int)) (A2 : bits BinOp.and IntKind.u64 (IntKind.u64.wrap ((c : Int) - (a : Int))) ((2 ^ n - 1 : Nat) : Int) = (d : Int))
    (w : World) (hT : Chn.Tab w) (HP1 : PartsIs w s o1 t1) (HP2 : PartsIs w d o2 t2) (ho : o1 < 18446744073709551616) (hu : t2 = t1 + u) (ht : t2 ≤ 64) (e2 : IntKind.u64.wrap ((o2 : Int) * 2 ^ u) = (y : Int)) (hi : Chn.invW (o1 : Int) 5 = (i : Int))
    (e3 : IntKind.u64.wrap ((y : Int) * (i : Int)) = (m : Int)) (e4 : ((2 ^ n - 1 : Nat) : Int) / 2 ^ t1 = (k : Int)) (e5 : bits BinOp.and IntKind.u64 (m : Int) (k : Int) = (x : Int)) :
    Calls Tryd.prog 13 #[.int .u64 (a : Int), .int .u64 (b : Int), .int .u64 (c : Int), .int .i64 (n : Int)] w fun e w' => e = .returned (.tuple #[.int .u64 (x : Int), .int .i64 0]) ∧ Below w.heap.size w w' := by
  have HN := hideI (fun V : World => width_yes n h0 h1 V)
  have HG := hideI (fun V : World => greatest_any n h1 V)
  obtain ⟨Q, hQ⟩ : ∃ Q, Q = 2 ^ n - 1 := ⟨_, rfl⟩
  rw [← hQ] at HG A1 A2 e4
  have HA := hideI (HP1 w hT)
  have HB := hideI (HP2 w hT)
  have HI := hideI (fun V : World => Chn.inverse_any (o1 : Int) ⟨by omega, by omega⟩ V)
  rw [hi] at HI
  have b1 : ¬ (t2 : Int) < (t1 : Int) := by omega
  have b2 : (t2 : Int) - (t1 : Int) = (u : Int) := by omega
  have b3 : IntKind.i64.wrap ((t2 : Int) - (t1 : Int)) = (u : Int) := by rw [b2]; exact IntWalk.i64_in _ (by omega)
  have b4 : min u 64 = u := Nat.min_eq_left (by omega)
  have b5 : ¬ (u : Int) < 0 := by omega
  have b7 : min t1 64 = t1 := Nat.min_eq_left (by omega)
  have b6 : IntKind.i64.wrap (u : Int) = (u : Int) := IntWalk.i64_in _ (by omega)
  clear hQ h0 h1 hu ht HP1 HP2 hT hi ho
  go_enter Tryd.func13, Tryd.ntmps13
  go_upto_region 8 with (first
    | (go_at_call 19; go_must (refine (HN.out _).mono ?_); rintro e w1 ⟨rfl, hw⟩; obtain rfl := hw.symm)
    | (go_at_call 20; go_must (refine (HG.out _).mono ?_); rintro e w1 ⟨rfl, hw⟩; obtain rfl := hw.symm)
    | (go_at_call 21; go_must (refine HA.out.mono ?_); rintro e w1 ⟨rfl, hw⟩; (obtain rfl := hw.symm); replace HA := HB))
  go_quiet (refine Calls.quiet_of_same (HI.out _))
  go_wp2
  refine bodyPost_ret (results_tmp2 rfl _ _ _) (by rfl) ?_
  exact ⟨rfl, ⟨rfl, rfl, rfl, Nat.le_refl _, fun _ _ => rfl⟩⟩

theorem parts_is (w0 : World) (q t : Nat) (h : (2 * q + 1) * 2 ^ t < 18446744073709551616) : PartsIs w0 ((2 * q + 1) * 2 ^ t) (2 * q + 1) t := fun V hV => Chn.parts_any q t h V hV
theorem parts_is0 (w0 : World) : PartsIs w0 0 0 64 := fun V _ => Chn.parts_zero V

theorem inv_low (o : Nat) (hl : o < 18446744073709551616) : ∃ i : Nat, Chn.invW (o : Int) 5 = (i : Int) := by
  obtain ⟨h1, h2⟩ := Chn.invW_low (o := (o : Int)) 5 ⟨by omega, by omega⟩
  exact Int.eq_ofNat_of_zero_le h1

theorem wrap_nat (x : Nat) (h : x < 18446744073709551616) : IntKind.u64.wrap (x : Int) = (x : Int) := by rw [IntKind.wrap_u64]; omega
theorem wrap_mod (x : Nat) : IntKind.u64.wrap (x : Int) = ((x % 18446744073709551616 : Nat) : Int) := by rw [IntKind.wrap_u64]; omega
theorem shift_int {n t : Nat} (ht : t ≤ n) : ((2 ^ n - 1 : Nat) : Int) / 2 ^ t = ((2 ^ (n - t) - 1 : Nat) : Int) := by
  rw [← top_shift ht, Int.natCast_ediv, Int.natCast_pow]
  rfl

theorem and_zero (k : Nat) (hk : k < 18446744073709551616) : bits BinOp.and IntKind.u64 ((0 : Nat) : Int) (k : Int) = ((0 : Nat) : Int) := by
  have h := bits_and_u64_nat 0 k (by decide) hk
  rw [Nat.zero_and] at h
  exact h

set_option maxRecDepth 100000 in
theorem solve_any (a b c n : Nat) (h0 : 1 ≤ n) (h1 : n ≤ 64) (ha : a < 18446744073709551616) (hb : b < 18446744073709551616) (hc : c < 18446744073709551616) (w : World) (hT : Chn.Tab w) :
    Calls Tryd.prog 13 #[.int .u64 (a : Int), .int .u64 (b : Int), .int .u64 (c : Int), .int .i64 (n : Int)] w (AnsP (2 ^ n) a b (c % 2 ^ n) (c % 2 ^ n) w) := by
  have hp := pow_pos n
  have hle := pow_le64 h1
  have A1 := and_top hb h1
  have A2 := sub_top hc ha h1
  have hcl := Nat.mod_lt c hp
  have hD := fun m => hit_diff (a := a) (b := b) hp hcl m
  obtain ⟨s, hs⟩ : ∃ s, s = b % 2 ^ n := ⟨_, rfl⟩
  obtain ⟨d, hd⟩ : ∃ d, d = from_ (2 ^ n) (a % 2 ^ n) (c % 2 ^ n) := ⟨_, rfl⟩
  have hs2 : s < 2 ^ n := by rw [hs]; exact Nat.mod_lt b hp
  have hd2 : d < 2 ^ n := by
    have := Nat.mod_lt a hp
    rw [hd]
    unfold from_
    split <;> omega
  rw [← hs] at A1 hD
  rw [← hd] at A2 hD
  have yes : ∀ x, (x * s) % 2 ^ n = d → (∀ m, m < x → (m * s) % 2 ^ n ≠ d) → Ans (2 ^ n) a b (c % 2 ^ n) (c % 2 ^ n) x 0 :=
    fun x hx hm => .yes ⟨(hD x).mpr hx, fun m h h2 => hm m h ((hD m).mp h2)⟩
  have no : (∀ m, (m * s) % 2 ^ n ≠ d) → Ans (2 ^ n) a b (c % 2 ^ n) (c % 2 ^ n) 0 9 := fun h => .no fun m hh => h m ((hD m).mp hh)
  have fin : ∀ (x : Nat) (r : Int), Ans (2 ^ n) a b (c % 2 ^ n) (c % 2 ^ n) x r → Calls Tryd.prog 13 #[.int .u64 (a : Int), .int .u64 (b : Int), .int .u64 (c : Int), .int .i64 (n : Int)] w (fun e w' => e = .returned (.tuple #[.int .u64 (x : Int), .int .i64 r]) ∧ Below w.heap.size w w') →
      Calls Tryd.prog 13 #[.int .u64 (a : Int), .int .u64 (b : Int), .int .u64 (c : Int), .int .i64 (n : Int)] w (AnsP (2 ^ n) a b (c % 2 ^ n) (c % 2 ^ n) w) :=
    fun x r hA hC => hC.mono fun e w' h => ⟨x, r, hA, h.1, h.2⟩
  rcases Nat.eq_zero_or_pos s with s0 | s0
  · subst s0
    rcases Nat.eq_zero_or_pos d with d0 | d0
    · subst d0
      obtain ⟨i, hi⟩ := inv_low 0 (by decide)
      refine fin 0 0 (yes 0 (by simp) (fun m hm => by omega)) ?_
      have e4 : ((2 ^ n - 1 : Nat) : Int) / 2 ^ 64 = ((0 : Nat) : Int) := by
        rw [show ((2 : Int) ^ 64) = 18446744073709551616 by decide]
        omega
      exact solve_more a b c 0 0 0 64 0 64 n 0 0 i 0 0 0 h0 h1 A1 A2 w hT (parts_is0 w) (parts_is0 w) (by decide) rfl (Nat.le_refl _) (by simp [IntKind.wrap_u64]) hi (by simp [IntKind.wrap_u64]) e4 (and_zero 0 (by decide))
    · obtain ⟨q, r, e⟩ := odd_two d d d0 (Nat.le_refl _)
      have hr := Chn.small_pow (b := 64) (by rw [← e]; exact Nat.lt_of_lt_of_le hd2 hle)
      refine fin 0 9 (no fun m h => by simp at h; omega) ?_
      have P2 := parts_is w q r (by rw [← e]; omega)
      rw [← e] at P2
      exact solve_less a b c 0 d 0 64 (2 * q + 1) r n h0 h1 A1 A2 w hT (parts_is0 w) P2 (by omega)
  · obtain ⟨p, t, es⟩ := odd_two s s s0 (Nat.le_refl _)
    have ht := Chn.small_pow (b := n) (by rw [← es]; exact hs2)
    have P1 := parts_is w p t (by rw [← es]; omega)
    rw [← es] at P1
    have ho : 2 * p + 1 < 18446744073709551616 := by
      have h3 : (2 * p + 1) * 1 ≤ (2 * p + 1) * 2 ^ t := Nat.mul_le_mul_left _ (pow_pos t)
      omega
    obtain ⟨i, hi, hi64, hio⟩ := inv_nat (2 * p + 1) (by omega) ho
    have hk64 : n - t ≤ 64 := by omega
    have htop := top_int (n := n - t) hk64
    rcases Nat.eq_zero_or_pos d with d0 | d0
    · subst d0
      refine fin 0 0 (yes 0 (by simp) (fun m hm => by omega)) ?_
      exact solve_more a b c s 0 (2 * p + 1) t 0 64 n (64 - t) 0 i 0 (2 ^ (n - t) - 1) 0 h0 h1 A1 A2 w hT P1 (parts_is0 w) ho (by omega) (Nat.le_refl _) (by simp [IntKind.wrap_u64]) hi (by simp [IntKind.wrap_u64]) (shift_int (by omega)) (and_zero _ htop)
    · obtain ⟨q, r, e⟩ := odd_two d d d0 (Nat.le_refl _)
      have hr := Chn.small_pow (b := n) (by rw [← e]; exact hd2)
      have P2 := parts_is w q r (by rw [← e]; omega)
      rw [← e] at P2
      by_cases hrt : r < t
      · refine fin 0 9 (no fun m h => ?_) ?_
        · rw [es, e] at h
          exact few_twos hrt (by omega) h
        · exact solve_less a b c s d (2 * p + 1) t (2 * q + 1) r n h0 h1 A1 A2 w hT P1 P2 hrt
      · obtain ⟨u, rfl⟩ : ∃ u, r = t + u := ⟨r - t, by omega⟩
        obtain ⟨y, hy⟩ : ∃ y, y = (2 * q + 1) * 2 ^ u := ⟨_, rfl⟩
        have edy : d = y * 2 ^ t := by rw [e, hy, Nat.mul_assoc, ← Nat.pow_add, Nat.add_comm u t]
        have hyk : y < 2 ^ (n - t) := by
          rw [edy, pow_split (n := n) (t := t) (by omega)] at hd2
          exact Nat.lt_of_mul_lt_mul_right hd2
        have hyl := Nat.lt_of_lt_of_le hyk (pow_le64 hk64)
        have hns : 2 ^ n = 2 ^ (n - t) * 2 ^ t := pow_split (by omega)
        obtain ⟨x, hx⟩ : ∃ x, x = y * i % 18446744073709551616 % 2 ^ (n - t) := ⟨_, rfl⟩
        have hxl : x < 2 ^ (n - t) := by rw [hx]; exact Nat.mod_lt _ (pow_pos _)
        refine fin x 0 (yes x ?_ ?_) ?_
        · rw [es, hns, edy, hx]
          exact solve_is hk64 hyk hio
        · intro m hm h
          rw [es, hns, edy] at h
          have := solve_one hk64 hio (by omega) h
          omega
        · refine solve_more a b c s d (2 * p + 1) t (2 * q + 1) (t + u) n u y i (y * i % 18446744073709551616) (2 ^ (n - t) - 1) x h0 h1 A1 A2 w hT P1 P2 ho rfl (by omega) ?_ hi ?_ (shift_int (by omega)) ?_
          · rw [show ((2 * q + 1 : Nat) : Int) * 2 ^ u = (y : Int) by rw [hy, Int.natCast_mul, Int.natCast_pow]; rfl]
            exact wrap_nat y hyl
          · rw [← Int.natCast_mul]
            exact wrap_mod _
          · rw [hx]
            exact and_top (Nat.mod_lt _ (by decide)) hk64
end Go.Proofs.YtidebjcnmabggaaDoor.Mo
