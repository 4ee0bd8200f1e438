/- What is proved: for all numbers, 1 to 64 bits and every list of numbers, what modular.First and modular.Solve answer is a solution, and none of the first 200 numbers, nor of the first 200 of the list, is an earlier one. No condition but the card's own: the table of the trailing zeros is as Go's library lays it. -/
import Derived.Test.YtidebjcnmabggaaDoorMoOpenU
import Derived.Test.YtidebjcnmabggaaDoorMoRef
import Derived.Test.YtidebjcnmabggaaDoorTie
import Derived.Test.YtidebjcnmabggaaDoorCards
import Derived.ProofKit
import Derived.LaidMore
import Derived.Lay
import Derived.OpenShut
import Derived.SevenTiedAt
namespace Go.Proofs.YtidebjcnmabggaaDoor.modularHits
open Go.ChangeShapes Go.WideShapes Go.ChangeAt Go.RowKit Go.Proofs.YtidebjcnmabggaaDoor.Mo Go.Proofs.YtidebjcnmabggaaDoor.Chn


/-- the value behind so many steps, as it is reckoned -/
theorem val_at (a b t n : Nat) (hn : n ≤ 64) : ∃ m1 m2 : Nat, IntKind.u64.wrap ((b : Int) * (t : Int)) = (m1 : Int) ∧ IntKind.u64.wrap ((a : Int) + (m1 : Int)) = (m2 : Int) ∧ bits BinOp.and IntKind.u64 (m2 : Int) ((2 ^ n - 1 : Nat) : Int) = (((a + b * t) % 2 ^ n : Nat) : Int) := by
  refine ⟨b * t % 18446744073709551616, (a + b * t % 18446744073709551616) % 18446744073709551616, ?_, ?_, ?_⟩
  · rw [← Int.natCast_mul]; exact wrap_mod _
  · rw [← Int.natCast_add]; exact wrap_mod _
  · rw [and_top (Nat.mod_lt _ (by decide)) hn, mod_mod64 hn, Nat.add_mod, mod_mod64 hn, ← Nat.add_mod]

theorem First.low {M a b lo hi x : Nat} (h : First M a b lo hi x) (hM : M ≤ 18446744073709551616 ∧ 0 < M) : x < 18446744073709551616 := by
  rcases Nat.lt_or_ge x M with h1 | h1
  · omega
  · exact absurd ((hit_back hM.2 a b lo hi x).mpr h.1) (h.2 _ (Nat.lt_of_lt_of_le (Nat.mod_lt _ hM.2) h1))

/-- how a number that is tried lies -/
inductive Lies (L H : Nat) (x y u t : Nat) (e f : Int) : Prop
  | under (h1 : u < L)
  | over (h1 : L ≤ u) (h2 : H < u) (h3 : u ≠ L)
  | inside (h1 : L ≤ u) (h2 : u ≤ H) (h3 : e = 0) (h4 : ¬ t < x) (h5 : u ≠ L)
  | at_ (h1 : u = L) (h2 : L ≤ H) (h3 : e = 0) (h4 : ¬ t < x) (h5 : f = 0) (h6 : ¬ t < y)

theorem lies {P a b L H x y t : Nat} {e f : Int} (hLH : L ≤ H) (hA : Ans P a b L H x e) (hB : Ans P a b L L y f) : Lies L H x y ((a + b * t) % P) t e f := by
  obtain ⟨u, hu⟩ : ∃ u, u = (a + b * t) % P := ⟨_, rfl⟩
  rw [← hu]
  have hit : L ≤ u → u ≤ H → e = 0 ∧ ¬ t < x := fun h1 h2 => by
    have hh : Hit P a b L H t := by unfold Hit; rw [← hu]; exact ⟨h1, h2⟩
    cases hA with
    | yes h => exact ⟨rfl, fun h3 => h.2 t h3 hh⟩
    | no h => exact absurd hh (h t)
  have hitL : u = L → f = 0 ∧ ¬ t < y := fun h1 => by
    have hh : Hit P a b L L t := by unfold Hit; rw [← hu, h1]; exact ⟨Nat.le_refl _, Nat.le_refl _⟩
    cases hB with
    | yes h => exact ⟨rfl, fun h3 => h.2 t h3 hh⟩
    | no h => exact absurd hh (h t)
  by_cases h1 : u < L
  · exact .under h1
  · by_cases h2 : H < u
    · exact .over (by omega) h2 (by omega)
    · obtain ⟨g1, g2⟩ := hit (by omega) (by omega)
      by_cases h3 : u = L
      · obtain ⟨g3, g4⟩ := hitL h3
        exact .at_ h3 hLH g1 g2 g3 g4
      · exact .inside (by omega) (by omega) g1 g2 h3

set_option maxHeartbeats 16000000 in
set_option maxRecDepth 100000 in
theorem walk (a b lo hi k : Nat) (xs : List Nat) (v : Value) (w : World) (hT : Tab w) (ha : a < 18446744073709551616) (hb : b < 18446744073709551616) (hlo : lo < 18446744073709551616) (hhi : hi < 18446744073709551616) (hk : k < 256) (hx : InU w v xs) :
    Calls Tryd.prog 7 #[.int .u64 (a : Int), .int .u64 (b : Int), .int .u64 (lo : Int), .int .u64 (hi : Int), .int .u8 (k : Int), v] w fun e w' => e = .returned (.bool true) ∧ Below w.heap.size w w' := by
  have HT := hideI hT
  have hT0 := hT.1
  have HB := hideI (Below.refl w.heap.size w)
  obtain ⟨r, hr⟩ : ∃ r, r = k % 64 := ⟨_, rfl⟩
  obtain ⟨n, hn⟩ : ∃ n, n = r + 1 := ⟨_, rfl⟩
  have e1 : (k : Int) % 64 = (r : Int) := by omega
  have e2 : (k : Int).tmod 64 = (r : Int) := by rw [hr]; rfl
  have e3 : (r : Int) + 1 = (n : Int) := by omega
  have hr12 : (r : Int) < 64 := by omega
  have h1n : 1 ≤ n := by omega
  have hn64 : n ≤ 64 := by omega
  obtain ⟨A, c, rfl, hN63, hcs⟩ := hx.sl
  obtain ⟨N, hNe⟩ : ∃ N, N = xs.length := ⟨_, rfl⟩
  have HXS : Hid (∀ V, Below w.heap.size w V → ∀ j, j < N → ∃ (t b0 off : Nat), A = some ⟨b0, off, none⟩ ∧ V.cell? ⟨b0, off + j, none⟩ = some (.int .u64 (t : Int))) := hideI fun V hV j hj => by
    obtain ⟨x, hxj⟩ : ∃ x, xs[j]? = some x := ⟨_, List.getElem?_eq_getElem (by omega)⟩
    obtain ⟨b0, off, e, hlt, hc, _⟩ := hcs j x hxj
    exact ⟨x, b0, off, e, (hV.cell (p := ⟨b0, off + j, none⟩) hlt).trans hc⟩
  rw [← hNe] at hN63 ⊢
  have HM := hideI (fun V : World => refMask_any n (by omega) V)
  have hp := pow_pos n
  have hle := pow_le64 (n := n) (by omega)
  have A1 := and_top hlo (n := n) (by omega)
  have A2 := and_top hhi (n := n) (by omega)
  have hl1 := Nat.mod_lt lo hp
  have hh1 := Nat.mod_lt hi hp
  obtain ⟨L, hL⟩ : ∃ z : Nat, z = if hi % 2 ^ n < lo % 2 ^ n then hi % 2 ^ n else lo % 2 ^ n := ⟨_, rfl⟩
  obtain ⟨H, hH⟩ : ∃ z : Nat, z = if hi % 2 ^ n < lo % 2 ^ n then lo % 2 ^ n else hi % 2 ^ n := ⟨_, rfl⟩
  have hLH : L ≤ H := by rw [hL, hH]; split <;> omega
  have hHP : H < 2 ^ n := by rw [hH]; split <;> omega
  have HF := hideI (fun V : World => first_any a b L H n h1n (by omega) ha hb hLH hHP V)
  have HS := hideI (fun (V : World) (hV : Tab V) => solve_any a b L n h1n (by omega) ha hb (by omega) V hV)
  rw [Nat.mod_eq_of_lt (Nat.lt_of_le_of_lt hLH hHP)] at HS
  have HVAL := hideI (fun t : Nat => val_at a b t n (by omega))
  obtain ⟨P, hP⟩ : ∃ P, P = 2 ^ n := ⟨_, rfl⟩
  rw [← hP] at HM A1 A2 hl1 hh1 hp hle HF HS HVAL hL hH
  obtain ⟨Q, hQ⟩ : ∃ Q, Q = P - 1 := ⟨_, rfl⟩
  rw [← hQ] at HM A1 A2 HVAL
  obtain ⟨l1, hl1e⟩ : ∃ z, z = lo % P := ⟨_, rfl⟩
  obtain ⟨h1, hh1e⟩ : ∃ z, z = hi % P := ⟨_, rfl⟩
  rw [← hl1e] at A1 hL hH
  rw [← hh1e] at A2 hL hH
  have HL := hideI hL
  have HH := hideI hH
  have HLH := hideI hLH
  have HPP : Hid (P ≤ 18446744073709551616 ∧ 0 < P) := hideI ⟨hle, hp⟩
  have hN64i : (N : Int) ≤ 9223372036854775807 := by omega
  clear hT hr hn ha hb hlo hhi hk hn64 h1n hp hP hQ hl1 hh1 hle hl1e hh1e hL hH hLH hHP hx hcs hNe hN63
  go_enter Tryd.func7, Tryd.ntmps7
  go_upto_if 38 with (go_at_call 16; go_must (refine (HM.out _).mono ?_); rintro e w2 ⟨rfl, hw⟩; obtain rfl := hw.symm)
  go_cut [2, 3] from 38 to 40 (fun s2 s3 wx => s2 = .int .u64 L ∧ s3 = .int .u64 H ∧ wx = w)
  case first =>
    by_cases hsw : h1 < l1
    · have c1 : (h1 : Int) < (l1 : Int) := by omega
      have eL : L = h1 := by rw [HL.out, if_pos hsw]
      have eH : H = l1 := by rw [HH.out, if_pos hsw]
      clear hsw
      go_wp2_with fail
      all_goals (go_meet; exact ⟨by rw [eL], by rw [eH], rfl⟩)
    · have c1 : ¬ (h1 : Int) < (l1 : Int) := by omega
      have eL : L = l1 := by rw [HL.out, if_neg hsw]
      have eH : H = h1 := by rw [HH.out, if_neg hsw]
      clear hsw
      go_wp2_with fail
      all_goals (go_meet; exact ⟨by rw [eL], by rw [eH], rfl⟩)
  case rest =>
    obtain ⟨rfl, rfl, hw⟩ := hcut
    obtain rfl := hw.symm
    go_upto_region 8 with (first
      | (go_at_call 15; go_must (refine (HF.out _).mono ?_); rintro e w1 ⟨x, en, hA, rfl, hb⟩; have HA := hideI hA; replace HB := hideI (HB.out.trans (hb.mono HB.out.size)); clear hA hb)
      | (go_at_call 13; go_must (refine (HS.out _ (HT.out.keep HB.out hT0)).mono ?_); rintro e w1 ⟨y, fn, hA, rfl, hb⟩; have HA2 := hideI hA; replace HB := hideI (HB.out.trans (hb.mono HB.out.size)); clear hA hb))
    have HLIES := hideI (fun t : Nat => lies (t := t) HLH.out HA.out HA2.out)
    have HAV := hideI (Mo.awake_any w1 (HT.out.keep HB.out hT0))
    have hcase : (en = 0 ∧ fn = 0 ∧ L ≤ (a + b * x) % P ∧ (a + b * x) % P ≤ H ∧ (a + b * y) % P = L ∧ x ≤ y) ∨ (en = 0 ∧ fn = 9 ∧ L ≤ (a + b * x) % P ∧ (a + b * x) % P ≤ H) ∨ (en = 9 ∧ fn = 9) := by
      rcases ans_or HA.out with ⟨rfl, hf⟩ | ⟨rfl, rfl, hf⟩
      · rcases ans_or HA2.out with ⟨rfl, hg⟩ | ⟨rfl, rfl, hg⟩
        · have hyL : (a + b * y) % P = L := by have := hg.1; unfold Hit at this; omega
          refine .inl ⟨rfl, rfl, hf.1.1, hf.1.2, hyL, ?_⟩
          rcases Nat.lt_or_ge y x with h | h
          · exact absurd (by unfold Hit; rw [hyL]; exact ⟨Nat.le_refl _, HLH.out⟩) (hf.2 y h)
          · exact h
        · exact .inr (.inl ⟨rfl, rfl, hf.1.1, hf.1.2⟩)
      · rcases ans_or HA2.out with ⟨rfl, hg⟩ | ⟨rfl, rfl, hg⟩
        · exfalso
          have hyL : (a + b * y) % P = L := by have := hg.1; unfold Hit at this; omega
          exact hf y (by unfold Hit; rw [hyL]; exact ⟨Nat.le_refl _, HLH.out⟩)
        · exact .inr (.inr ⟨rfl, rfl⟩)
    obtain ⟨mx1, mx2, qx1, qx2, qx3⟩ := HVAL.out x
    obtain ⟨my1, my2, qy1, qy2, qy3⟩ := HVAL.out y
    obtain ⟨ux, hux⟩ : ∃ z, z = (a + b * x) % P := ⟨_, rfl⟩
    obtain ⟨uy, huy⟩ : ∃ z, z = (a + b * y) % P := ⟨_, rfl⟩
    rw [← hux] at qx3 hcase
    rw [← huy] at qy3 hcase
    clear hux huy
    rcases hcase with ⟨rfl, rfl, g1, g2, g3, g4⟩ | ⟨rfl, rfl, g1, g2⟩ | ⟨rfl, rfl⟩
    · have g5 := g3.symm
      subst g5
      have d1 : ¬ (ux : Int) < (L : Int) := by omega
      have d2 : ¬ (H : Int) < (ux : Int) := by omega
      have d3 : ¬ (y : Int) < (x : Int) := by omega
      clear g1 g2 g4 g3
      go_upto_region 14 with (go_at_call 12; go_must (refine HAV.out.mono ?_); rintro e w4 ⟨rfl, hb⟩; replace HB := hideI (HB.out.trans (hb.mono HB.out.size)); clear hb)
      have HTR : Hid (∀ j, j < N → ∃ (t b0 off : Nat), A = some ⟨b0, off, none⟩ ∧ w4.cell? ⟨b0, off + j, none⟩ = some (.int .u64 (t : Int))) := hideI fun j hj => HXS.out w4 HB.out j hj
      clear qx1 qx2 qx3 qy1 qy2 qy3
      go_loopw [21] (fun s21 wv => ∃ i : Nat, i ≤ 400 ∧ s21 = .int .i64 i ∧ wv = w4) (fun s21 _ => 400 - (intOf s21).toNat)
      case atStart => exact ⟨0, by omega, rfl, rfl⟩
      case round =>
        obtain ⟨i, hi, rfl, hwr⟩ := hrel
        obtain rfl := hwr.symm
        by_cases h400 : i < 400
        · have k0 : (i : Int) < 400 := by omega
          have ew : IntKind.u64.wrap (i : Int) = (i : Int) := by rw [IntKind.wrap_u64]; omega
          by_cases h200 : i < 200
          · have k1 : ¬ (200 : Int) ≤ (i : Int) := by omega
            obtain ⟨m1, m2, q1, q2, q3⟩ := HVAL.out i
            have hlies := HLIES.out i
            obtain ⟨u, hu⟩ : ∃ u, u = (a + b * i) % P := ⟨_, rfl⟩
            rw [← hu] at q3 hlies
            clear hu
            cases hlies with
            | under h1 =>
              have c3 : ¬ (L : Int) ≤ (u : Int) := by omega
              have c4 : ¬ (u : Int) = (L : Int) := by omega
              clear h1
              go_wp2
              go_roundw
              case rel => first | exact ⟨i + 1, by omega, by go_num⟩ | exact ⟨i + 1, by omega, by go_num, trivial⟩
              case measure => simp [intOf]; omega
            | over h1 h2 h3 =>
              have c3 : (L : Int) ≤ (u : Int) := by omega
              have c4 : ¬ (u : Int) ≤ (H : Int) := by omega
              have c5 : ¬ (u : Int) = (L : Int) := by omega
              clear h1 h2 h3
              go_wp2
              go_roundw
              case rel => first | exact ⟨i + 1, by omega, by go_num⟩ | exact ⟨i + 1, by omega, by go_num, trivial⟩
              case measure => simp [intOf]; omega
            | inside h1 h2 h3 h4 h5 =>
              have c3 : (L : Int) ≤ (u : Int) := by omega
              have c4 : (u : Int) ≤ (H : Int) := by omega
              have c5 : ¬ (u : Int) = (L : Int) := by omega
              have c6 : ¬ (i : Int) < (x : Int) := by omega
              clear h1 h2 h3 h4 h5
              go_wp2
              go_roundw
              case rel => first | exact ⟨i + 1, by omega, by go_num⟩ | exact ⟨i + 1, by omega, by go_num, trivial⟩
              case measure => simp [intOf]; omega
            | at_ h1 h2 h3 h4 h5 h6 =>
              have h7 := h1.symm
              subst h7
              have c4 : (L : Int) ≤ (H : Int) := by omega
              have c6 : ¬ (i : Int) < (x : Int) := by omega
              have c7 : ¬ (i : Int) < (y : Int) := by omega
              clear h2 h3 h4 h5 h6 h1
              go_wp2
              go_roundw
              case rel => first | exact ⟨i + 1, by omega, by go_num⟩ | exact ⟨i + 1, by omega, by go_num, trivial⟩
              case measure => simp [intOf]; omega
          · have k1 : (200 : Int) ≤ (i : Int) := by omega
            obtain ⟨j, hj⟩ : ∃ j, j = i - 200 := ⟨_, rfl⟩
            have k2 : (i : Int) - 200 = (j : Int) := by omega
            by_cases hjl : j < N
            · have k3 : ¬ (N : Int) ≤ (j : Int) := by omega
              have k4 : (j : Int) < (N : Int) := by omega
              obtain ⟨t, b0, off, rfl, hcell⟩ := HTR.out j hjl
              clear hj hjl
              obtain ⟨m1, m2, q1, q2, q3⟩ := HVAL.out t
              have hlies := HLIES.out t
              obtain ⟨u, hu⟩ : ∃ u, u = (a + b * t) % P := ⟨_, rfl⟩
              rw [← hu] at q3 hlies
              clear hu
              cases hlies with
              | under h1 =>
                have c3 : ¬ (L : Int) ≤ (u : Int) := by omega
                have c4 : ¬ (u : Int) = (L : Int) := by omega
                clear h1
                go_wp2
                go_roundw
                case rel => first | exact ⟨i + 1, by omega, by go_num⟩ | exact ⟨i + 1, by omega, by go_num, trivial⟩
                case measure => simp [intOf]; omega
              | over h1 h2 h3 =>
                have c3 : (L : Int) ≤ (u : Int) := by omega
                have c4 : ¬ (u : Int) ≤ (H : Int) := by omega
                have c5 : ¬ (u : Int) = (L : Int) := by omega
                clear h1 h2 h3
                go_wp2
                go_roundw
                case rel => first | exact ⟨i + 1, by omega, by go_num⟩ | exact ⟨i + 1, by omega, by go_num, trivial⟩
                case measure => simp [intOf]; omega
              | inside h1 h2 h3 h4 h5 =>
                have c3 : (L : Int) ≤ (u : Int) := by omega
                have c4 : (u : Int) ≤ (H : Int) := by omega
                have c5 : ¬ (u : Int) = (L : Int) := by omega
                have c6 : ¬ (t : Int) < (x : Int) := by omega
                clear h1 h2 h3 h4 h5
                go_wp2
                go_roundw
                case rel => first | exact ⟨i + 1, by omega, by go_num⟩ | exact ⟨i + 1, by omega, by go_num, trivial⟩
                case measure => simp [intOf]; omega
              | at_ h1 h2 h3 h4 h5 h6 =>
                have h7 := h1.symm
                subst h7
                have c4 : (L : Int) ≤ (H : Int) := by omega
                have c6 : ¬ (t : Int) < (x : Int) := by omega
                have c7 : ¬ (t : Int) < (y : Int) := by omega
                clear h2 h3 h4 h5 h6 h1
                go_wp2
                go_roundw
                case rel => first | exact ⟨i + 1, by omega, by go_num⟩ | exact ⟨i + 1, by omega, by go_num, trivial⟩
                case measure => simp [intOf]; omega
            · have k3 : (N : Int) ≤ (j : Int) := by omega
              clear hj hjl
              go_wp2
              go_ret
              exact ⟨rfl, HB.out⟩
        · have k0 : ¬ (i : Int) < 400 := by omega
          go_wp2
          go_ret
          exact ⟨rfl, HB.out⟩
    · have d1 : ¬ (ux : Int) < (L : Int) := by omega
      have d2 : ¬ (H : Int) < (ux : Int) := by omega
      clear g1 g2
      go_upto_region 14 with (go_at_call 12; go_must (refine HAV.out.mono ?_); rintro e w4 ⟨rfl, hb⟩; replace HB := hideI (HB.out.trans (hb.mono HB.out.size)); clear hb)
      have HTR : Hid (∀ j, j < N → ∃ (t b0 off : Nat), A = some ⟨b0, off, none⟩ ∧ w4.cell? ⟨b0, off + j, none⟩ = some (.int .u64 (t : Int))) := hideI fun j hj => HXS.out w4 HB.out j hj
      clear qx1 qx2 qx3 qy1 qy2 qy3
      go_loopw [21] (fun s21 wv => ∃ i : Nat, i ≤ 400 ∧ s21 = .int .i64 i ∧ wv = w4) (fun s21 _ => 400 - (intOf s21).toNat)
      case atStart => exact ⟨0, by omega, rfl, rfl⟩
      case round =>
        obtain ⟨i, hi, rfl, hwr⟩ := hrel
        obtain rfl := hwr.symm
        by_cases h400 : i < 400
        · have k0 : (i : Int) < 400 := by omega
          have ew : IntKind.u64.wrap (i : Int) = (i : Int) := by rw [IntKind.wrap_u64]; omega
          by_cases h200 : i < 200
          · have k1 : ¬ (200 : Int) ≤ (i : Int) := by omega
            obtain ⟨m1, m2, q1, q2, q3⟩ := HVAL.out i
            have hlies := HLIES.out i
            obtain ⟨u, hu⟩ : ∃ u, u = (a + b * i) % P := ⟨_, rfl⟩
            rw [← hu] at q3 hlies
            clear hu
            cases hlies with
            | under h1 =>
              have c3 : ¬ (L : Int) ≤ (u : Int) := by omega
              have c4 : ¬ (u : Int) = (L : Int) := by omega
              clear h1
              go_wp2
              go_roundw
              case rel => first | exact ⟨i + 1, by omega, by go_num⟩ | exact ⟨i + 1, by omega, by go_num, trivial⟩
              case measure => simp [intOf]; omega
            | over h1 h2 h3 =>
              have c3 : (L : Int) ≤ (u : Int) := by omega
              have c4 : ¬ (u : Int) ≤ (H : Int) := by omega
              have c5 : ¬ (u : Int) = (L : Int) := by omega
              clear h1 h2 h3
              go_wp2
              go_roundw
              case rel => first | exact ⟨i + 1, by omega, by go_num⟩ | exact ⟨i + 1, by omega, by go_num, trivial⟩
              case measure => simp [intOf]; omega
            | inside h1 h2 h3 h4 h5 =>
              have c3 : (L : Int) ≤ (u : Int) := by omega
              have c4 : (u : Int) ≤ (H : Int) := by omega
              have c5 : ¬ (u : Int) = (L : Int) := by omega
              have c6 : ¬ (i : Int) < (x : Int) := by omega
              clear h1 h2 h3 h4 h5
              go_wp2
              go_roundw
              case rel => first | exact ⟨i + 1, by omega, by go_num⟩ | exact ⟨i + 1, by omega, by go_num, trivial⟩
              case measure => simp [intOf]; omega
            | at_ h1 h2 h3 h4 h5 h6 =>
              exact absurd h5 (by decide)
          · have k1 : (200 : Int) ≤ (i : Int) := by omega
            obtain ⟨j, hj⟩ : ∃ j, j = i - 200 := ⟨_, rfl⟩
            have k2 : (i : Int) - 200 = (j : Int) := by omega
            by_cases hjl : j < N
            · have k3 : ¬ (N : Int) ≤ (j : Int) := by omega
              have k4 : (j : Int) < (N : Int) := by omega
              obtain ⟨t, b0, off, rfl, hcell⟩ := HTR.out j hjl
              clear hj hjl
              obtain ⟨m1, m2, q1, q2, q3⟩ := HVAL.out t
              have hlies := HLIES.out t
              obtain ⟨u, hu⟩ : ∃ u, u = (a + b * t) % P := ⟨_, rfl⟩
              rw [← hu] at q3 hlies
              clear hu
              cases hlies with
              | under h1 =>
                have c3 : ¬ (L : Int) ≤ (u : Int) := by omega
                have c4 : ¬ (u : Int) = (L : Int) := by omega
                clear h1
                go_wp2
                go_roundw
                case rel => first | exact ⟨i + 1, by omega, by go_num⟩ | exact ⟨i + 1, by omega, by go_num, trivial⟩
                case measure => simp [intOf]; omega
              | over h1 h2 h3 =>
                have c3 : (L : Int) ≤ (u : Int) := by omega
                have c4 : ¬ (u : Int) ≤ (H : Int) := by omega
                have c5 : ¬ (u : Int) = (L : Int) := by omega
                clear h1 h2 h3
                go_wp2
                go_roundw
                case rel => first | exact ⟨i + 1, by omega, by go_num⟩ | exact ⟨i + 1, by omega, by go_num, trivial⟩
                case measure => simp [intOf]; omega
              | inside h1 h2 h3 h4 h5 =>
                have c3 : (L : Int) ≤ (u : Int) := by omega
                have c4 : (u : Int) ≤ (H : Int) := by omega
                have c5 : ¬ (u : Int) = (L : Int) := by omega
                have c6 : ¬ (t : Int) < (x : Int) := by omega
                clear h1 h2 h3 h4 h5
                go_wp2
                go_roundw
                case rel => first | exact ⟨i + 1, by omega, by go_num⟩ | exact ⟨i + 1, by omega, by go_num, trivial⟩
                case measure => simp [intOf]; omega
              | at_ h1 h2 h3 h4 h5 h6 =>
                exact absurd h5 (by decide)
            · have k3 : (N : Int) ≤ (j : Int) := by omega
              clear hj hjl
              go_wp2
              go_ret
              exact ⟨rfl, HB.out⟩
        · have k0 : ¬ (i : Int) < 400 := by omega
          go_wp2
          go_ret
          exact ⟨rfl, HB.out⟩
    · skip
      go_upto_region 14 with (go_at_call 12; go_must (refine HAV.out.mono ?_); rintro e w4 ⟨rfl, hb⟩; replace HB := hideI (HB.out.trans (hb.mono HB.out.size)); clear hb)
      have HTR : Hid (∀ j, j < N → ∃ (t b0 off : Nat), A = some ⟨b0, off, none⟩ ∧ w4.cell? ⟨b0, off + j, none⟩ = some (.int .u64 (t : Int))) := hideI fun j hj => HXS.out w4 HB.out j hj
      clear qx1 qx2 qx3 qy1 qy2 qy3
      go_loopw [21] (fun s21 wv => ∃ i : Nat, i ≤ 400 ∧ s21 = .int .i64 i ∧ wv = w4) (fun s21 _ => 400 - (intOf s21).toNat)
      case atStart => exact ⟨0, by omega, rfl, rfl⟩
      case round =>
        obtain ⟨i, hi, rfl, hwr⟩ := hrel
        obtain rfl := hwr.symm
        by_cases h400 : i < 400
        · have k0 : (i : Int) < 400 := by omega
          have ew : IntKind.u64.wrap (i : Int) = (i : Int) := by rw [IntKind.wrap_u64]; omega
          by_cases h200 : i < 200
          · have k1 : ¬ (200 : Int) ≤ (i : Int) := by omega
            obtain ⟨m1, m2, q1, q2, q3⟩ := HVAL.out i
            have hlies := HLIES.out i
            obtain ⟨u, hu⟩ : ∃ u, u = (a + b * i) % P := ⟨_, rfl⟩
            rw [← hu] at q3 hlies
            clear hu
            cases hlies with
            | under h1 =>
              have c3 : ¬ (L : Int) ≤ (u : Int) := by omega
              have c4 : ¬ (u : Int) = (L : Int) := by omega
              clear h1
              go_wp2
              go_roundw
              case rel => first | exact ⟨i + 1, by omega, by go_num⟩ | exact ⟨i + 1, by omega, by go_num, trivial⟩
              case measure => simp [intOf]; omega
            | over h1 h2 h3 =>
              have c3 : (L : Int) ≤ (u : Int) := by omega
              have c4 : ¬ (u : Int) ≤ (H : Int) := by omega
              have c5 : ¬ (u : Int) = (L : Int) := by omega
              clear h1 h2 h3
              go_wp2
              go_roundw
              case rel => first | exact ⟨i + 1, by omega, by go_num⟩ | exact ⟨i + 1, by omega, by go_num, trivial⟩
              case measure => simp [intOf]; omega
            | inside h1 h2 h3 h4 h5 =>
              exact absurd h3 (by decide)
            | at_ h1 h2 h3 h4 h5 h6 =>
              exact absurd h3 (by decide)
          · have k1 : (200 : Int) ≤ (i : Int) := by omega
            obtain ⟨j, hj⟩ : ∃ j, j = i - 200 := ⟨_, rfl⟩
            have k2 : (i : Int) - 200 = (j : Int) := by omega
            by_cases hjl : j < N
            · have k3 : ¬ (N : Int) ≤ (j : Int) := by omega
              have k4 : (j : Int) < (N : Int) := by omega
              obtain ⟨t, b0, off, rfl, hcell⟩ := HTR.out j hjl
              clear hj hjl
              obtain ⟨m1, m2, q1, q2, q3⟩ := HVAL.out t
              have hlies := HLIES.out t
              obtain ⟨u, hu⟩ : ∃ u, u = (a + b * t) % P := ⟨_, rfl⟩
              rw [← hu] at q3 hlies
              clear hu
              cases hlies with
              | under h1 =>
                have c3 : ¬ (L : Int) ≤ (u : Int) := by omega
                have c4 : ¬ (u : Int) = (L : Int) := by omega
                clear h1
                go_wp2
                go_roundw
                case rel => first | exact ⟨i + 1, by omega, by go_num⟩ | exact ⟨i + 1, by omega, by go_num, trivial⟩
                case measure => simp [intOf]; omega
              | over h1 h2 h3 =>
                have c3 : (L : Int) ≤ (u : Int) := by omega
                have c4 : ¬ (u : Int) ≤ (H : Int) := by omega
                have c5 : ¬ (u : Int) = (L : Int) := by omega
                clear h1 h2 h3
                go_wp2
                go_roundw
                case rel => first | exact ⟨i + 1, by omega, by go_num⟩ | exact ⟨i + 1, by omega, by go_num, trivial⟩
                case measure => simp [intOf]; omega
              | inside h1 h2 h3 h4 h5 =>
                exact absurd h3 (by decide)
              | at_ h1 h2 h3 h4 h5 h6 =>
                exact absurd h3 (by decide)
            · have k3 : (N : Int) ≤ (j : Int) := by omega
              clear hj hjl
              go_wp2
              go_ret
              exact ⟨rfl, HB.out⟩
        · have k0 : ¬ (i : Int) < 400 := by omega
          go_wp2
          go_ret
          exact ⟨rfl, HB.out⟩

set_option maxRecDepth 100000 in
theorem lifted (os : Os) (started : os.Started) (H : Type) (enc : TypeId × Value → H) :
    ReturnsInHanded {} Tryd.checked os 7 .any (fun w args => (Rows.modularHitsSpec.pre enc Tryd.prog Tryd.f7 Rows.modularHitsRow.domain false w args ∧ laidMetH Tryd.prog Rows.modularHitsRow.laid w) ∧ sizedMet enc Tryd.prog Tryd.f7 (OpenSpec.ofChange Rows.modularHitsSpec) false w args) (Rows.modularHitsSpec.post enc Tryd.prog Tryd.f7 false true false false) := by
  refine returnsInHanded_of_change_and (C := Tryd.checked) (X := fun w _ => laidMetH Tryd.prog Rows.modularHitsRow.laid w) (fun _ _ _ hh h => h.of_heap hh) own started (by kernel_rfl) Tryd.func7
    (ChangeSpec.witness_shaped (enc := enc) (C := Tryd.checked) (os := os) (X := fun w _ => laidMetH Tryd.prog Rows.modularHitsRow.laid w) false (World.laidAll Tryd.prog os Rows.modularHitsRow.laid) #[.int .u64 0, .int .u64 0, .int .u64 0, .int .u64 0, .int .u8 0, .slice none 0 0] 8 (World.laidAll_os _ _ _)
      (World.shaped_of_ZipB (by kernel_rfl) (by kernel_rfl)) (by kernel_rfl) (by kernel_rfl) (by kernel_rfl)
      (by rw [MakeChecks.laidMetH_plain _ _ _ (by kernel_rfl)]; exact laidMet_laidAll _ (by kernel_rfl) (by kernel_rfl))) ?_
  intro W base args ds gs before hval0 hW _ hsz hL _
  have hT : Tab W := tab_of rfl hL (fun w => MakeChecks.laidMetH_plain _ _ _ (by kernel_rfl))
  have hval : ∀ (j : Nat) t v, Tryd.f7.params[j]? = some t → args[j]? = some v → Value.okWide Tryd.prog W .any base t v := hval0
  have hW' := hW
  obtain ⟨p, q, hA0, hV, rfl, hfz, hnd⟩ := hW
  have hA : DataW.TrodAll enc Tryd.prog W 0 (fun _ => true) true Tryd.f7.params.toList args.toList ds p := hA0
  rw [Tryd.params7] at hA hval
  obtain ⟨v0, vs0, d0, ds0, p0, q0, hargs, rfl, rfl, h0, r0⟩ := trodAll_cons hA
  obtain ⟨v1, vs1, d1, ds1, p1, q1, rfl, rfl, rfl, h1, r1⟩ := trodAll_cons r0
  obtain ⟨v2, vs2, d2, ds2, p2, q2, rfl, rfl, rfl, h2, r2⟩ := trodAll_cons r1
  obtain ⟨v3, vs3, d3, ds3, p3, q3, rfl, rfl, rfl, h3, r3⟩ := trodAll_cons r2
  obtain ⟨v4, vs4, d4, ds4, p4, q4, rfl, rfl, rfl, h4, r4⟩ := trodAll_cons r3
  obtain ⟨v5, vs5, d5, ds5, p5, q5, rfl, rfl, rfl, h5, r5⟩ := trodAll_cons r4
  obtain ⟨rfl, rfl, rfl⟩ := trodAll_nil r5
  obtain rfl : args = #[v0, v1, v2, v3, v4, v5] := by cases args; simp_all
  obtain ⟨rfl, rfl⟩ := trodVars_none hV
  obtain ⟨x0, rfl, _, _, hx0⟩ := open_int Tryd.underlying27 (hval 0 27 v0 rfl rfl) h0
  obtain ⟨y0, rfl, hl0⟩ := wf_u64 hx0
  obtain ⟨x1, rfl, _, _, hx1⟩ := open_int Tryd.underlying27 (hval 1 27 v1 rfl rfl) h1
  obtain ⟨y1, rfl, hl1⟩ := wf_u64 hx1
  obtain ⟨x2, rfl, _, _, hx2⟩ := open_int Tryd.underlying27 (hval 2 27 v2 rfl rfl) h2
  obtain ⟨y2, rfl, hl2⟩ := wf_u64 hx2
  obtain ⟨x3, rfl, _, _, hx3⟩ := open_int Tryd.underlying27 (hval 3 27 v3 rfl rfl) h3
  obtain ⟨y3, rfl, hl3⟩ := wf_u64 hx3
  obtain ⟨x4, rfl, _, _, hx4⟩ := open_int Tryd.underlying5 (hval 4 5 v4 rfl rfl) h4
  obtain ⟨y4, rfl, hl4⟩ := wf_u8 hx4
  obtain ⟨x5, hx5⟩ := arg_us (hval 5 35 v5 rfl rfl) h5 hsz (j := 5) rfl rfl
  clear hA0 hval0
  refine (walk y0 y1 y2 y3 y4 x5 v5 W hT hl0 hl1 hl2 hl3 hl4 hx5).mono fun e W' ⟨he, hg⟩ => ?_
  subst he
  exact ⟨_, rfl, law_post (by kernel_rfl) hW' rfl (by kernel_rfl) Tryd.underlying4 rfl rfl rfl (by rw [Tryd.params7]; decide +kernel) hg⟩

theorem over : Rows.modularHitsRow.holds Tryd.pinned (OpenSpec.ofChange Rows.modularHitsSpec) :=
  OpenClaim.holds_of_wide 7 Tryd.f7 rfl rfl rfl rfl rfl rfl rfl ⟨rfl, rfl, rfl, rfl, rfl⟩ rfl rfl rfl rfl rfl (by kernel_rfl) Tryd.func7 (by kernel_rfl)
    (of_decide_eq_true (by kernel_rfl)) (by unfold Func.isWrapper; first | (rw [if_pos (by decide +kernel)]; kernel_rfl) | (rw [if_neg (by decide +kernel)]; exact ⟨rfl, rfl⟩))
    (fun os started H enc _ => lifted os started H enc)

theorem proved : Rows.ModularHitsCardSaid :=
  Claim7.holds_tied_plain_at .later [] [.data] true Rows.modularHitsCard.stood.harness false
    over (fun _ h => by cases h) (by kernel_rfl) (fun _ h => by cases h) modularHits_row_tie rfl ⟨rfl, rfl⟩ (by kernel_rfl) rfl
    (fun f fn hf hfn => by
      obtain rfl : f = 7 := Option.some.inj ((show Tryd.prog.funcNamed "strake/strakelaw13.ModularHits" = some 7 by kernel_rfl).symm.trans hf) |>.symm
      obtain rfl : fn = Tryd.f7 := (Option.some.inj (Tryd.func7.symm.trans hfn)).symm
      exact ⟨by kernel_rfl, fun j t ht => by
        rw [Tryd.params7] at ht
        have hm : t ∈ [27, 27, 27, 27, 5, 35] := by simpa using Array.mem_of_getElem? ht
        have hall : ([27, 27, 27, 27, 5, 35].all fun u => !Tryd.prog.wantsStandIn u) = true := by kernel_rfl
        exact (show Tryd.prog.wantsStandIn t = false by simpa using List.all_eq_true.1 hall t hm)⟩)
    (by kernel_rfl)
#print axioms proved
end Go.Proofs.YtidebjcnmabggaaDoor.modularHits
