/- The reference's instr. -/
import Derived.Test.YtgmikokdiafjgaaSmall
import Derived.Test.YtgmikokdiafjgaaRefArgs
namespace Go.Proofs.Ytgmikokdiafjgaa
open Go.RowKit

/-- the greatest N of a kind -/
def mostR (f : FuncM) (kd : Int) : Int := if kd = 2 then 1 else if kd = 3 then f.arrays - 1 else if kd = 4 then f.cells - 1 else 0
def fitsR (f : FuncM) (kd n : Int) : Bool := if kd = 1 then true else decide (0 ≤ n) && decide (n ≤ mostR f kd)
def instrR (f : FuncM) (x : InstrM) : Bool := isOp x.op && ((x.args.length == (takesS x.op).length) && (!(makesS x.op == 0 && x.id != -1) && fitsR f (kindS x.op) x.n))

theorem says_two {b b' : Bool} {w : World} {o o2 : Obj} (h : b = b') : Says b' w (.returned (.bool b)) ((w.alloc o).alloc o2) := by
  subst h
  exact ⟨rfl, ((Below.refl _ w).alloc (Nat.le_refl _) _).alloc (by simp) _⟩

theorem fitsR_neg {f : FuncM} {kd n : Int} (h : kd ≠ 1) (hz : decide (0 ≤ n) = false) : fitsR f kd n = false := by
  unfold fitsR
  rw [if_neg h, hz]
  rfl
theorem fitsR_pos {f : FuncM} {kd n : Int} (h : kd ≠ 1) (hz : decide (0 ≤ n) = true) : fitsR f kd n = decide (n ≤ mostR f kd) := by
  unfold fitsR
  rw [if_neg h, hz]
  rfl
theorem most2 {f : FuncM} : mostR f 2 = 1 := rfl
theorem most3 {f : FuncM} : mostR f 3 = f.arrays - 1 := rfl
theorem most4 {f : FuncM} : mostR f 4 = f.cells - 1 := rfl
theorem most0 {f : FuncM} {kd : Int} (h2 : (kd == 2) = false) (h3 : (kd == 3) = false) (h4 : (kd == 4) = false) : mostR f kd = 0 := by
  unfold mostR
  rw [if_neg (by simpa using h2), if_neg (by simpa using h3), if_neg (by simpa using h4)]

theorem kind_cases (kd : Int) : kd = 1 ∨ kd = 2 ∨ kd = 3 ∨ kd = 4 ∨ ((kd == 1) = false ∧ (kd == 2) = false ∧ (kd == 3) = false ∧ (kd == 4) = false) := by
  by_cases h1 : kd = 1
  · exact .inl h1
  by_cases h2 : kd = 2
  · exact .inr (.inl h2)
  by_cases h3 : kd = 3
  · exact .inr (.inr (.inl h3))
  by_cases h4 : kd = 4
  · exact .inr (.inr (.inr (.inl h4)))
  exact .inr (.inr (.inr (.inr ⟨by simpa using h1, by simpa using h2, by simpa using h3, by simpa using h4⟩)))

set_option maxRecDepth 100000 in
set_option maxHeartbeats 4000000 in
theorem refInstr_any (f : FuncM) (pv bv : Value) (x : InstrM) (A : Option Addr) (c : Nat) (w : World) (hl : x.args.length ≤ 140737488351232) (ha : 0 ≤ f.arrays ∧ f.arrays ≤ 8) (hc : 0 ≤ f.cells ∧ f.cells ≤ 64) :
    Calls Try.prog 45 #[.agg #[pv, .int .i64 f.arrays, .int .i64 f.cells, bv], .agg #[.int .i64 x.op, .int .i64 x.id, .slice A x.args.length c, .int .i64 x.n]] w (Says (instrR f x) w) := by
  obtain ⟨sb, hsb⟩ : ∃ sb : ByteArray, sb = ⟨(shapeS x.op).1.toArray⟩ := ⟨_, rfl⟩
  obtain ⟨mk, hmk⟩ : ∃ mk, mk = (shapeS x.op).2.1 := ⟨_, rfl⟩
  obtain ⟨kd, hkd⟩ : ∃ kd, kd = (shapeS x.op).2.2.1 := ⟨_, rfl⟩
  obtain ⟨ok, hok⟩ : ∃ ok, ok = (shapeS x.op).2.2.2 := ⟨_, rfl⟩
  have hsz : sb.size = (takesS x.op).length := by rw [hsb]; unfold takesS; rw [List.length_map]; simp [ByteArray.size]
  have HSH : Hid (shapeV x.op = .tuple #[.string sb, .int .i64 mk, .int .i64 kd, .bool ok]) := by show _ = _; rw [hsb, hmk, hkd, hok]; rfl
  have hI : instrR f x = (ok && ((x.args.length == sb.size) && (!(mk == 0 && x.id != -1) && fitsR f kd x.n))) := by
    unfold instrR
    rw [← hsz, hmk, hkd, hok]
    rfl
  rw [hI]
  have hs3 : sb.size ≤ 3 := by rw [hsb]; simpa [ByteArray.size] using shapeS_short x.op
  clear hsb hmk hkd hok hsz hI
  obtain ⟨n, hn⟩ : ∃ n, n = x.args.length := ⟨_, rfl⟩
  rw [← hn] at hl ⊢
  clear hn
  cases ok
  · go_enter Try.func45, Try.ntmps45
    go_wp2_with (go_at_call 47; refine (shape_any _ _).mono ?_; rintro e w3 ⟨rfl, rfl⟩; rw [HSH.out])
    go_ret
    exact says_two rfl
  · by_cases hlen : n = sb.size
    · cases hk : (mk == 0 && x.id != -1)
      · rw [hlen] at hl ⊢
        have hmi : (mk == 0) = false ∨ ((mk == 0) = true ∧ (x.id != -1) = false) := by
          cases h1 : mk == 0
          · exact .inl rfl
          · rw [h1] at hk
            exact .inr ⟨rfl, by simpa using hk⟩
        rcases hmi with h1 | ⟨h1, h2⟩
        all_goals
          rcases kind_cases kd with rfl | rfl | rfl | rfl | ⟨k1, k2, k3, k4⟩
          · go_enter Try.func45, Try.ntmps45
            go_wp2_with (go_at_call 47; refine (shape_any _ _).mono ?_; rintro e w3 ⟨rfl, rfl⟩; rw [HSH.out])
            go_ret
            exact says_two (by simp [fitsR])
          all_goals
            cases hz : decide (0 ≤ x.n)
            · go_enter Try.func45, Try.ntmps45
              go_wp2_with (go_at_call 47; refine (shape_any _ _).mono ?_; rintro e w3 ⟨rfl, rfl⟩; rw [HSH.out])
              go_ret
              exact says_two (by rw [fitsR_neg (by first | decide | simpa using k1) hz]; simp)
            · go_enter Try.func45, Try.ntmps45
              go_wp2_with (go_at_call 47; refine (shape_any _ _).mono ?_; rintro e w3 ⟨rfl, rfl⟩; rw [HSH.out])
              go_ret
              exact says_two (by rw [fitsR_pos (by first | decide | simpa using k1) hz]; first | (rw [most2]; simp) | (rw [most3]; simp) | (rw [most4]; simp) | (rw [most0 k2 k3 k4]; simp))
      · rw [hlen] at hl ⊢
        obtain ⟨h1, h2⟩ : (mk == 0) = true ∧ (x.id != -1) = true := by simpa using hk
        go_enter Try.func45, Try.ntmps45
        go_wp2_with (go_at_call 47; refine (shape_any _ _).mono ?_; rintro e w3 ⟨rfl, rfl⟩; rw [HSH.out])
        go_ret
        exact says_two (by simp)
    · have hb : (n == sb.size) = false := by simpa using hlen
      have hne : ((n : Int) != (sb.size : Int)) = true := by simp; omega
      go_enter Try.func45, Try.ntmps45
      go_wp2_with (go_at_call 47; refine (shape_any _ _).mono ?_; rintro e w3 ⟨rfl, rfl⟩; rw [HSH.out])
      go_ret
      exact says_two (by rw [hb]; rfl)

end Go.Proofs.Ytgmikokdiafjgaa
