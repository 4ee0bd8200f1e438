/- What InterpCalc rests on, part 1: IPure, ICalcP, IRefCalc. -/
import Derived.Test.YtglbepdjahddmaaGreatPkI915

namespace Go.Proofs.YtglbepdjahddmaaGreat
open Go.RowKit Go.Maps

theorem isPure_any (op : Int) (w : World) : Calls Tryz.prog 45 #[.int .i64 op] w fun e w' => e = .returned (.bool (decide (3 ≤ op) && decide (op ≤ 17))) ∧ w' = w := by
  by_cases h1 : 3 ≤ op
  · have h1' : decide ((3 : Int) ≤ op) = true := by simpa using h1
    go_enter Tryz.func45, Tryz.ntmps45
    go_wp2
    go_ret
    exact ⟨by simp [h1'], rfl⟩
  · have h1' : decide ((3 : Int) ≤ op) = false := by simpa using h1
    go_enter Tryz.func45, Tryz.ntmps45
    go_wp2
    go_ret
    exact ⟨by simp, rfl⟩

end Go.Proofs.YtglbepdjahddmaaGreat

namespace Go.Proofs.YtglbepdjahddmaaGreat
open Go.RowKit Go.Maps

def calcR (op : Int) (a : List Int) : Int × Int :=
  if 3 ≤ op ∧ op ≤ 17 ∧ a.length = (takesS op).length then (if divZero op a then (0, 9) else (calcM op a, 0)) else (0, 1)

def CalcPost (op : Int) (a : List Int) (w : World) (e : Ending) (w' : World) : Prop := e = .returned (.tuple #[.int .i64 (calcR op a).1, .int .i64 (calcR op a).2]) ∧ Below w.heap.size w w'

set_option maxRecDepth 100000 in
set_option maxHeartbeats 1000000 in
theorem iCalc_any (op : Int) (a : List Int) (B : Nat) (av : Value) (w : World) (ha : Ints w B av a) (hB : B ≤ w.heap.size) :
    Calls Tryz.prog 18 #[.int .i64 op, av] w (CalcPost op a w) := by
  have HA := hideI ha
  obtain ⟨A, ac, rfl, _, _⟩ := ha
  have HARGS := hideI (irArgs_any op w)
  unfold ArgsPost at HARGS
  obtain ⟨n, hn⟩ : ∃ n, n = a.length := ⟨_, rfl⟩
  obtain ⟨k, hk⟩ : ∃ k, k = (takesS op).length := ⟨_, rfl⟩
  have HN := hideI hn
  have HK := hideI hk
  rw [← hn]
  have HPURE : Hid (∀ W : World, _) := hideI fun W => isPure_any op W
  clear hn hk
  by_cases hp : 3 ≤ op ∧ op ≤ 17
  · have hb : (decide (3 ≤ op) && decide (op ≤ 17)) = true := by simp [hp]
    rw [hb] at HPURE
    have HP := hideI hp
    clear hb hp
    by_cases hnk : (n : Int) = (k : Int)
    · have hne : ((n : Int) != (k : Int)) = false := by simpa using hnk
      have hlen : a.length = (takesS op).length := by rw [← HN.out, ← HK.out]; omega
      have HLEN := hideI hlen
      have HDIV : Hid (∀ W, Below w.heap.size w W → Calls Tryz.prog 46 #[.int .i64 op, .slice A n ac] W fun e w' => e = .returned (.bool (divZero op a)) ∧ w' = W) := hideI fun W hW => by
        have h := divZero_any op a (fun ho => by rw [hlen, takes_two HP.out.1 (by omega)]; exact Nat.le_refl 2) B _ W (HA.out.keeps (Keeps.of_below (hW.mono hB)))
        rw [← HN.out] at h
        exact h
      have HCALC : Hid (divZero op a = false → ∀ W M, Below w.heap.size w W → OpsAt W M → Calls Tryz.prog 48 #[.map (some M), .int .i64 op, .slice A n ac] W fun e w' => e = .returned (.int .i64 (calcM op a)) ∧ ∃ m, w' = W.drewN m) := hideI fun hd W M hW hM => by
        have h := calc_any op HP.out.1 HP.out.2 a hlen hd M B _ W hM (HA.out.keeps (Keeps.of_below (hW.mono hB)))
        rw [← HN.out] at h
        exact h
      clear hnk hlen
      cases hd : divZero op a with
      | true =>
        have HR : Hid (calcR op a = (0, 9)) := hideI (by unfold calcR; rw [if_pos ⟨HP.out.1, HP.out.2, HLEN.out⟩, if_pos hd])
        rw [hd] at HDIV
        clear hd HCALC
        go_enter Tryz.func18, Tryz.ntmps18
        go_wp2_with (first
          | (go_at_call 44; refine HARGS.out.mono ?_; rintro e w1 ⟨v, rfl, ⟨A1, c1, rfl, _, _⟩, hb⟩; rw [← HK.out]; have HB1 := hideI hb; clear hb)
          | (go_at_call 45; refine (HPURE.out _).mono ?_; rintro e w2 ⟨rfl, rfl⟩)
          | (go_at_call 46; refine (HDIV.out _ HB1.out).mono ?_; rintro e w2 ⟨rfl, rfl⟩))
        go_ret2
        exact ⟨by rw [HR.out]; rfl, HB1.out⟩
      | false =>
        have HR : Hid (calcR op a = (calcM op a, 0)) := hideI (by unfold calcR; rw [if_pos ⟨HP.out.1, HP.out.2, HLEN.out⟩, if_neg (by rw [hd]; decide)])
        rw [hd] at HDIV
        replace HCALC := hideI (HCALC.out hd)
        clear hd
        go_enter Tryz.func18, Tryz.ntmps18
        go_wp2_with (first
          | (go_at_call 44; refine HARGS.out.mono ?_; rintro e w1 ⟨v, rfl, ⟨A1, c1, rfl, _, _⟩, hb⟩; rw [← HK.out]; have HB1 := hideI hb; clear hb)
          | (go_at_call 45; refine (HPURE.out _).mono ?_; rintro e w2 ⟨rfl, rfl⟩)
          | (go_at_call 46; refine (HDIV.out _ HB1.out).mono ?_; rintro e w2 ⟨rfl, rfl⟩)
          | (go_at_call 47; refine (pairs_any _).mono ?_; rintro e w3 ⟨rfl, hops, hb⟩; have HOPS := hideI hops; have HB3 := hideI (HB1.out.trans (hb.mono HB1.out.size)); clear hops hb)
          | (go_at_call 48; refine (HCALC.out _ _ HB3.out HOPS.out).mono ?_; rintro e w4 ⟨rfl, m, rfl⟩))
        go_ret2
        exact ⟨by rw [HR.out]; rfl, below_drewN HB3.out m⟩
    · have hne : ((n : Int) != (k : Int)) = true := by simpa using hnk
      have HR : Hid (calcR op a = (0, 1)) := hideI (by unfold calcR; rw [if_neg]; rintro ⟨_, _, h⟩; rw [← HN.out, ← HK.out] at h; exact hnk (by omega))
      clear hnk
      go_enter Tryz.func18, Tryz.ntmps18
      go_wp2_with (first
        | (go_at_call 44; refine HARGS.out.mono ?_; rintro e w1 ⟨v, rfl, ⟨A1, c1, rfl, _, _⟩, hb⟩; rw [← HK.out]; have HB1 := hideI hb; clear hb)
        | (go_at_call 45; refine (HPURE.out _).mono ?_; rintro e w2 ⟨rfl, rfl⟩))
      go_ret2
      exact ⟨by rw [HR.out]; rfl, HB1.out⟩
  · have hb : (decide (3 ≤ op) && decide (op ≤ 17)) = false := by
      rw [Bool.and_eq_false_iff]
      simp only [decide_eq_false_iff_not]
      omega
    rw [hb] at HPURE
    have HR : Hid (calcR op a = (0, 1)) := hideI (by unfold calcR; rw [if_neg]; rintro ⟨h1, h2, _⟩; exact hp ⟨h1, h2⟩)
    clear hb hp
    go_enter Tryz.func18, Tryz.ntmps18
    go_wp2_with (first
      | (go_at_call 44; refine HARGS.out.mono ?_; rintro e w1 ⟨v, rfl, ⟨A1, c1, rfl, _, _⟩, hb⟩; rw [← HK.out]; have HB1 := hideI hb; clear hb)
      | (go_at_call 45; refine (HPURE.out _).mono ?_; rintro e w2 ⟨rfl, rfl⟩))
    go_ret2
    exact ⟨by rw [HR.out]; rfl, HB1.out⟩
end Go.Proofs.YtglbepdjahddmaaGreat

namespace Go.Proofs.YtglbepdjahddmaaGreat
open Go.RowKit Go.Maps

theorem refBit_any (b : Bool) (w : World) : Calls Tryz.prog 50 #[.bool b] w fun e w' => e = .returned (.int .i64 (flagM b)) ∧ w' = w := by
  cases b
  · go_enter Tryz.func50, Tryz.ntmps50
    go_wp2
    go_ret
    exact ⟨rfl, rfl⟩
  · go_enter Tryz.func50, Tryz.ntmps50
    go_wp2
    go_ret
    exact ⟨rfl, rfl⟩

def refPost (r : Int × Int) (w : World) (e : Ending) (w' : World) : Prop := e = .returned (.tuple #[.int .i64 r.1, .int .i64 r.2]) ∧ ∃ m, w' = w.drewN m

set_option maxRecDepth 100000 in
set_option maxHeartbeats 4000000 in
/-- not pure, or not so many -/
theorem refCalc_bad (op : Int) (A : Option Addr) (n c : Nat) (w : World) (s : ByteArray) (mk nn : Int) (ok : Bool) (hs : shapeV op = .tuple #[.string s, .int .i64 mk, .int .i64 nn, .bool ok])
    (hbad : ok = false ∨ mk = 0 ∨ nn ≠ 0 ∨ (n : Int) ≠ (s.size : Int)) :
    Calls Tryz.prog 19 #[.int .i64 op, .slice A n c] w (refPost (0, 1) w) := by
  have HS : Hid (∀ W : World, Calls Tryz.prog 49 #[.int .i64 op] W fun e w' => e = .returned (.tuple #[.string s, .int .i64 mk, .int .i64 nn, .bool ok]) ∧ w' = W) := hideI fun W => (shape_any op W).mono fun e w' ⟨h1, h2⟩ => ⟨by rw [h1, hs], h2.symm⟩
  clear hs
  cases ok with
  | false =>
    clear hbad
    go_enter Tryz.func19, Tryz.ntmps19
    go_wp2_with (first | (go_at_call 49; refine (HS.out _).mono ?_; rintro e w1 ⟨rfl, rfl⟩))
    go_ret2
    exact ⟨rfl, 0, rfl⟩
  | true =>
    by_cases hmk : mk = 0
    · have e1 : (mk == 0) = true := by simpa using hmk
      clear hbad hmk
      go_enter Tryz.func19, Tryz.ntmps19
      go_wp2_with (first | (go_at_call 49; refine (HS.out _).mono ?_; rintro e w1 ⟨rfl, rfl⟩))
      go_ret2
      exact ⟨rfl, 0, rfl⟩
    · have e1 : (mk == 0) = false := by simpa using hmk
      by_cases hnn : nn = 0
      · have e2 : (nn != 0) = false := by simpa using hnn
        have hl : (n : Int) ≠ (s.size : Int) := by
          rcases hbad with h | h | h | h
          · cases h
          · exact absurd h hmk
          · exact absurd hnn h
          · exact h
        have e3 : ((n : Int) != (s.size : Int)) = true := by simpa using hl
        clear hbad hmk hnn hl
        go_enter Tryz.func19, Tryz.ntmps19
        go_wp2_with (first | (go_at_call 49; refine (HS.out _).mono ?_; rintro e w1 ⟨rfl, rfl⟩))
        go_ret2
        exact ⟨rfl, 0, rfl⟩
      · have e2 : (nn != 0) = true := by simpa using hnn
        clear hbad hmk hnn
        go_enter Tryz.func19, Tryz.ntmps19
        go_wp2_with (first | (go_at_call 49; refine (HS.out _).mono ?_; rintro e w1 ⟨rfl, rfl⟩))
        go_ret2
        exact ⟨rfl, 0, rfl⟩

theorem shape_two {op : Int} (h1 : 3 ≤ op) (h2 : op ≤ 15) : ∃ mk : Int, (mk == 0) = false ∧ shapeV op = .tuple #[.string ⟨#[73, 73]⟩, .int .i64 mk, .int .i64 0, .bool true] := by
  unfold shapeV shapeS
  rw [if_neg (by omega), if_neg (by omega)]
  by_cases h : 3 ≤ op ∧ op ≤ 12
  · rw [if_pos h]; exact ⟨1, rfl, rfl⟩
  · rw [if_neg h, if_pos (by omega)]; exact ⟨2, rfl, rfl⟩

set_option maxRecDepth 100000 in
set_option maxHeartbeats 4000000 in
theorem refCalc_3 (x y : Int) (g off c : Nat) (w : World) (c0 : w.cell? ⟨g, off, none⟩ = some (.int .i64 x)) (c1 : w.cell? ⟨g, off + 1, none⟩ = some (.int .i64 y)) :
    Calls Tryz.prog 19 #[.int .i64 3, .slice (some ⟨g, off, none⟩) 2 c] w (refPost (calcM 3 [x, y], 0) w) := by
  obtain ⟨mk, e1, hs⟩ := shape_two (op := 3) (by decide) (by decide)
  have HS : Hid (∀ W : World, Calls Tryz.prog 49 #[.int .i64 3] W fun e w' => e = .returned (.tuple #[.string ⟨#[73, 73]⟩, .int .i64 mk, .int .i64 0, .bool true]) ∧ w' = W) := hideI fun W => (shape_any 3 W).mono fun e w' ⟨h1, h2⟩ => ⟨by rw [h1, hs], h2.symm⟩
  have hsz : (⟨#[73, 73]⟩ : ByteArray).size = 2 := rfl
  clear hs
  go_enter Tryz.func19, Tryz.ntmps19
  go_wp2_with (first | (go_at_call 49; refine (HS.out _).mono ?_; rintro e w1 ⟨rfl, rfl⟩))
  go_quiet (fail)
  go_wp2
  go_ret2
  exact ⟨rfl, _, rfl⟩

set_option maxRecDepth 100000 in
set_option maxHeartbeats 4000000 in
theorem refCalc_4 (x y : Int) (g off c : Nat) (w : World) (c0 : w.cell? ⟨g, off, none⟩ = some (.int .i64 x)) (c1 : w.cell? ⟨g, off + 1, none⟩ = some (.int .i64 y)) :
    Calls Tryz.prog 19 #[.int .i64 4, .slice (some ⟨g, off, none⟩) 2 c] w (refPost (calcM 4 [x, y], 0) w) := by
  obtain ⟨mk, e1, hs⟩ := shape_two (op := 4) (by decide) (by decide)
  have HS : Hid (∀ W : World, Calls Tryz.prog 49 #[.int .i64 4] W fun e w' => e = .returned (.tuple #[.string ⟨#[73, 73]⟩, .int .i64 mk, .int .i64 0, .bool true]) ∧ w' = W) := hideI fun W => (shape_any 4 W).mono fun e w' ⟨h1, h2⟩ => ⟨by rw [h1, hs], h2.symm⟩
  have hsz : (⟨#[73, 73]⟩ : ByteArray).size = 2 := rfl
  clear hs
  go_enter Tryz.func19, Tryz.ntmps19
  go_wp2_with (first | (go_at_call 49; refine (HS.out _).mono ?_; rintro e w1 ⟨rfl, rfl⟩))
  go_quiet (fail)
  go_wp2
  go_ret2
  exact ⟨rfl, _, rfl⟩

set_option maxRecDepth 100000 in
set_option maxHeartbeats 4000000 in
theorem refCalc_5 (x y : Int) (g off c : Nat) (w : World) (c0 : w.cell? ⟨g, off, none⟩ = some (.int .i64 x)) (c1 : w.cell? ⟨g, off + 1, none⟩ = some (.int .i64 y)) :
    Calls Tryz.prog 19 #[.int .i64 5, .slice (some ⟨g, off, none⟩) 2 c] w (refPost (calcM 5 [x, y], 0) w) := by
  obtain ⟨mk, e1, hs⟩ := shape_two (op := 5) (by decide) (by decide)
  have HS : Hid (∀ W : World, Calls Tryz.prog 49 #[.int .i64 5] W fun e w' => e = .returned (.tuple #[.string ⟨#[73, 73]⟩, .int .i64 mk, .int .i64 0, .bool true]) ∧ w' = W) := hideI fun W => (shape_any 5 W).mono fun e w' ⟨h1, h2⟩ => ⟨by rw [h1, hs], h2.symm⟩
  have hsz : (⟨#[73, 73]⟩ : ByteArray).size = 2 := rfl
  clear hs
  go_enter Tryz.func19, Tryz.ntmps19
  go_wp2_with (first | (go_at_call 49; refine (HS.out _).mono ?_; rintro e w1 ⟨rfl, rfl⟩))
  go_quiet (fail)
  go_wp2
  go_ret2
  exact ⟨rfl, _, rfl⟩

set_option maxRecDepth 100000 in
set_option maxHeartbeats 4000000 in
theorem refCalc_6 (x y : Int) (g off c : Nat) (w : World) (c0 : w.cell? ⟨g, off, none⟩ = some (.int .i64 x)) (c1 : w.cell? ⟨g, off + 1, none⟩ = some (.int .i64 y)) :
    Calls Tryz.prog 19 #[.int .i64 6, .slice (some ⟨g, off, none⟩) 2 c] w (refPost (calcM 6 [x, y], 0) w) := by
  obtain ⟨mk, e1, hs⟩ := shape_two (op := 6) (by decide) (by decide)
  have HS : Hid (∀ W : World, Calls Tryz.prog 49 #[.int .i64 6] W fun e w' => e = .returned (.tuple #[.string ⟨#[73, 73]⟩, .int .i64 mk, .int .i64 0, .bool true]) ∧ w' = W) := hideI fun W => (shape_any 6 W).mono fun e w' ⟨h1, h2⟩ => ⟨by rw [h1, hs], h2.symm⟩
  have hsz : (⟨#[73, 73]⟩ : ByteArray).size = 2 := rfl
  clear hs
  go_enter Tryz.func19, Tryz.ntmps19
  go_wp2_with (first | (go_at_call 49; refine (HS.out _).mono ?_; rintro e w1 ⟨rfl, rfl⟩))
  go_quiet (fail)
  go_wp2
  go_ret2
  exact ⟨rfl, _, rfl⟩

set_option maxRecDepth 100000 in
set_option maxHeartbeats 4000000 in
theorem refCalc_7 (x y : Int) (g off c : Nat) (w : World) (c0 : w.cell? ⟨g, off, none⟩ = some (.int .i64 x)) (c1 : w.cell? ⟨g, off + 1, none⟩ = some (.int .i64 y)) :
    Calls Tryz.prog 19 #[.int .i64 7, .slice (some ⟨g, off, none⟩) 2 c] w (refPost (calcM 7 [x, y], 0) w) := by
  obtain ⟨mk, e1, hs⟩ := shape_two (op := 7) (by decide) (by decide)
  have HS : Hid (∀ W : World, Calls Tryz.prog 49 #[.int .i64 7] W fun e w' => e = .returned (.tuple #[.string ⟨#[73, 73]⟩, .int .i64 mk, .int .i64 0, .bool true]) ∧ w' = W) := hideI fun W => (shape_any 7 W).mono fun e w' ⟨h1, h2⟩ => ⟨by rw [h1, hs], h2.symm⟩
  have hsz : (⟨#[73, 73]⟩ : ByteArray).size = 2 := rfl
  clear hs
  go_enter Tryz.func19, Tryz.ntmps19
  go_wp2_with (first | (go_at_call 49; refine (HS.out _).mono ?_; rintro e w1 ⟨rfl, rfl⟩))
  go_quiet (fail)
  go_wp2
  go_ret2
  exact ⟨rfl, _, rfl⟩

set_option maxRecDepth 100000 in
set_option maxHeartbeats 4000000 in
theorem refCalc_8 (x y : Int) (g off c : Nat) (w : World) (c0 : w.cell? ⟨g, off, none⟩ = some (.int .i64 x)) (c1 : w.cell? ⟨g, off + 1, none⟩ = some (.int .i64 y)) :
    Calls Tryz.prog 19 #[.int .i64 8, .slice (some ⟨g, off, none⟩) 2 c] w (refPost (calcM 8 [x, y], 0) w) := by
  obtain ⟨mk, e1, hs⟩ := shape_two (op := 8) (by decide) (by decide)
  have HS : Hid (∀ W : World, Calls Tryz.prog 49 #[.int .i64 8] W fun e w' => e = .returned (.tuple #[.string ⟨#[73, 73]⟩, .int .i64 mk, .int .i64 0, .bool true]) ∧ w' = W) := hideI fun W => (shape_any 8 W).mono fun e w' ⟨h1, h2⟩ => ⟨by rw [h1, hs], h2.symm⟩
  have hsz : (⟨#[73, 73]⟩ : ByteArray).size = 2 := rfl
  clear hs
  go_enter Tryz.func19, Tryz.ntmps19
  go_wp2_with (first | (go_at_call 49; refine (HS.out _).mono ?_; rintro e w1 ⟨rfl, rfl⟩))
  go_quiet (fail)
  go_wp2
  go_ret2
  exact ⟨rfl, _, rfl⟩

set_option maxRecDepth 100000 in
set_option maxHeartbeats 4000000 in
theorem refCalc_9 (x y : Int) (g off c : Nat) (w : World) (c0 : w.cell? ⟨g, off, none⟩ = some (.int .i64 x)) (c1 : w.cell? ⟨g, off + 1, none⟩ = some (.int .i64 y)) :
    Calls Tryz.prog 19 #[.int .i64 9, .slice (some ⟨g, off, none⟩) 2 c] w (refPost (calcM 9 [x, y], 0) w) := by
  obtain ⟨mk, e1, hs⟩ := shape_two (op := 9) (by decide) (by decide)
  have HS : Hid (∀ W : World, Calls Tryz.prog 49 #[.int .i64 9] W fun e w' => e = .returned (.tuple #[.string ⟨#[73, 73]⟩, .int .i64 mk, .int .i64 0, .bool true]) ∧ w' = W) := hideI fun W => (shape_any 9 W).mono fun e w' ⟨h1, h2⟩ => ⟨by rw [h1, hs], h2.symm⟩
  have hsz : (⟨#[73, 73]⟩ : ByteArray).size = 2 := rfl
  have hs9 := shift_l Tryz.prog x y
  clear hs
  go_enter Tryz.func19, Tryz.ntmps19
  go_wp2_with (first | (go_at_call 49; refine (HS.out _).mono ?_; rintro e w1 ⟨rfl, rfl⟩))
  go_quiet (fail)
  go_wp2
  go_ret2
  exact ⟨rfl, _, rfl⟩

set_option maxRecDepth 100000 in
set_option maxHeartbeats 4000000 in
theorem refCalc_10 (x y : Int) (g off c : Nat) (w : World) (c0 : w.cell? ⟨g, off, none⟩ = some (.int .i64 x)) (c1 : w.cell? ⟨g, off + 1, none⟩ = some (.int .i64 y)) :
    Calls Tryz.prog 19 #[.int .i64 10, .slice (some ⟨g, off, none⟩) 2 c] w (refPost (calcM 10 [x, y], 0) w) := by
  obtain ⟨mk, e1, hs⟩ := shape_two (op := 10) (by decide) (by decide)
  have HS : Hid (∀ W : World, Calls Tryz.prog 49 #[.int .i64 10] W fun e w' => e = .returned (.tuple #[.string ⟨#[73, 73]⟩, .int .i64 mk, .int .i64 0, .bool true]) ∧ w' = W) := hideI fun W => (shape_any 10 W).mono fun e w' ⟨h1, h2⟩ => ⟨by rw [h1, hs], h2.symm⟩
  have hsz : (⟨#[73, 73]⟩ : ByteArray).size = 2 := rfl
  have hs10 := shift_r Tryz.prog x y
  clear hs
  go_enter Tryz.func19, Tryz.ntmps19
  go_wp2_with (first | (go_at_call 49; refine (HS.out _).mono ?_; rintro e w1 ⟨rfl, rfl⟩))
  go_quiet (fail)
  go_wp2
  go_ret2
  exact ⟨rfl, _, rfl⟩

set_option maxRecDepth 100000 in
set_option maxHeartbeats 4000000 in
theorem refCalc_13 (x y : Int) (g off c : Nat) (w : World) (c0 : w.cell? ⟨g, off, none⟩ = some (.int .i64 x)) (c1 : w.cell? ⟨g, off + 1, none⟩ = some (.int .i64 y)) :
    Calls Tryz.prog 19 #[.int .i64 13, .slice (some ⟨g, off, none⟩) 2 c] w (refPost (calcM 13 [x, y], 0) w) := by
  obtain ⟨mk, e1, hs⟩ := shape_two (op := 13) (by decide) (by decide)
  have HS : Hid (∀ W : World, Calls Tryz.prog 49 #[.int .i64 13] W fun e w' => e = .returned (.tuple #[.string ⟨#[73, 73]⟩, .int .i64 mk, .int .i64 0, .bool true]) ∧ w' = W) := hideI fun W => (shape_any 13 W).mono fun e w' ⟨h1, h2⟩ => ⟨by rw [h1, hs], h2.symm⟩
  have hsz : (⟨#[73, 73]⟩ : ByteArray).size = 2 := rfl
  clear hs
  go_enter Tryz.func19, Tryz.ntmps19
  go_wp2_with (first | (go_at_call 49; refine (HS.out _).mono ?_; rintro e w1 ⟨rfl, rfl⟩))
  go_quiet (refine Calls.quiet_of_same (refBit_any _ _))
  go_wp2
  go_ret2
  exact ⟨rfl, _, rfl⟩

set_option maxRecDepth 100000 in
set_option maxHeartbeats 4000000 in
theorem refCalc_14 (x y : Int) (g off c : Nat) (w : World) (c0 : w.cell? ⟨g, off, none⟩ = some (.int .i64 x)) (c1 : w.cell? ⟨g, off + 1, none⟩ = some (.int .i64 y)) :
    Calls Tryz.prog 19 #[.int .i64 14, .slice (some ⟨g, off, none⟩) 2 c] w (refPost (calcM 14 [x, y], 0) w) := by
  obtain ⟨mk, e1, hs⟩ := shape_two (op := 14) (by decide) (by decide)
  have HS : Hid (∀ W : World, Calls Tryz.prog 49 #[.int .i64 14] W fun e w' => e = .returned (.tuple #[.string ⟨#[73, 73]⟩, .int .i64 mk, .int .i64 0, .bool true]) ∧ w' = W) := hideI fun W => (shape_any 14 W).mono fun e w' ⟨h1, h2⟩ => ⟨by rw [h1, hs], h2.symm⟩
  have hsz : (⟨#[73, 73]⟩ : ByteArray).size = 2 := rfl
  clear hs
  go_enter Tryz.func19, Tryz.ntmps19
  go_wp2_with (first | (go_at_call 49; refine (HS.out _).mono ?_; rintro e w1 ⟨rfl, rfl⟩))
  go_quiet (refine Calls.quiet_of_same (refBit_any _ _))
  go_wp2
  go_ret2
  exact ⟨rfl, _, rfl⟩

set_option maxRecDepth 100000 in
set_option maxHeartbeats 4000000 in
theorem refCalc_15 (x y : Int) (g off c : Nat) (w : World) (c0 : w.cell? ⟨g, off, none⟩ = some (.int .i64 x)) (c1 : w.cell? ⟨g, off + 1, none⟩ = some (.int .i64 y)) :
    Calls Tryz.prog 19 #[.int .i64 15, .slice (some ⟨g, off, none⟩) 2 c] w (refPost (calcM 15 [x, y], 0) w) := by
  obtain ⟨mk, e1, hs⟩ := shape_two (op := 15) (by decide) (by decide)
  have HS : Hid (∀ W : World, Calls Tryz.prog 49 #[.int .i64 15] W fun e w' => e = .returned (.tuple #[.string ⟨#[73, 73]⟩, .int .i64 mk, .int .i64 0, .bool true]) ∧ w' = W) := hideI fun W => (shape_any 15 W).mono fun e w' ⟨h1, h2⟩ => ⟨by rw [h1, hs], h2.symm⟩
  have hsz : (⟨#[73, 73]⟩ : ByteArray).size = 2 := rfl
  clear hs
  go_enter Tryz.func19, Tryz.ntmps19
  go_wp2_with (first | (go_at_call 49; refine (HS.out _).mono ?_; rintro e w1 ⟨rfl, rfl⟩))
  go_quiet (refine Calls.quiet_of_same (refBit_any _ _))
  go_wp2
  go_ret2
  exact ⟨rfl, _, rfl⟩

set_option maxRecDepth 100000 in
set_option maxHeartbeats 4000000 in
theorem refCalc_11 (x y : Int) (g off c : Nat) (w : World) (c0 : w.cell? ⟨g, off, none⟩ = some (.int .i64 x)) (c1 : w.cell? ⟨g, off + 1, none⟩ = some (.int .i64 y)) (hy : ¬ y = 0) :
    Calls Tryz.prog 19 #[.int .i64 11, .slice (some ⟨g, off, none⟩) 2 c] w (refPost (calcM 11 [x, y], 0) w) := by
  obtain ⟨mk, e1, hs⟩ := shape_two (op := 11) (by decide) (by decide)
  have HS : Hid (∀ W : World, Calls Tryz.prog 49 #[.int .i64 11] W fun e w' => e = .returned (.tuple #[.string ⟨#[73, 73]⟩, .int .i64 mk, .int .i64 0, .bool true]) ∧ w' = W) := hideI fun W => (shape_any 11 W).mono fun e w' ⟨h1, h2⟩ => ⟨by rw [h1, hs], h2.symm⟩
  have hsz : (⟨#[73, 73]⟩ : ByteArray).size = 2 := rfl
  have hy0 : (y == 0) = false := by simpa using hy
  clear hs
  go_enter Tryz.func19, Tryz.ntmps19
  go_wp2_with (first | (go_at_call 49; refine (HS.out _).mono ?_; rintro e w1 ⟨rfl, rfl⟩))
  go_quiet (fail)
  go_wp2
  go_ret2
  exact ⟨rfl, _, rfl⟩

set_option maxRecDepth 100000 in
set_option maxHeartbeats 4000000 in
theorem refCalc_12 (x y : Int) (g off c : Nat) (w : World) (c0 : w.cell? ⟨g, off, none⟩ = some (.int .i64 x)) (c1 : w.cell? ⟨g, off + 1, none⟩ = some (.int .i64 y)) (hy : ¬ y = 0) :
    Calls Tryz.prog 19 #[.int .i64 12, .slice (some ⟨g, off, none⟩) 2 c] w (refPost (calcM 12 [x, y], 0) w) := by
  obtain ⟨mk, e1, hs⟩ := shape_two (op := 12) (by decide) (by decide)
  have HS : Hid (∀ W : World, Calls Tryz.prog 49 #[.int .i64 12] W fun e w' => e = .returned (.tuple #[.string ⟨#[73, 73]⟩, .int .i64 mk, .int .i64 0, .bool true]) ∧ w' = W) := hideI fun W => (shape_any 12 W).mono fun e w' ⟨h1, h2⟩ => ⟨by rw [h1, hs], h2.symm⟩
  have hsz : (⟨#[73, 73]⟩ : ByteArray).size = 2 := rfl
  have hy0 : (y == 0) = false := by simpa using hy
  clear hs
  go_enter Tryz.func19, Tryz.ntmps19
  go_wp2_with (first | (go_at_call 49; refine (HS.out _).mono ?_; rintro e w1 ⟨rfl, rfl⟩))
  go_quiet (fail)
  go_wp2
  go_ret2
  exact ⟨rfl, _, rfl⟩

set_option maxRecDepth 100000 in
set_option maxHeartbeats 4000000 in
theorem refCalc_11z (x : Int) (g off c : Nat) (w : World) (c0 : w.cell? ⟨g, off, none⟩ = some (.int .i64 x)) (c1 : w.cell? ⟨g, off + 1, none⟩ = some (.int .i64 0)) :
    Calls Tryz.prog 19 #[.int .i64 11, .slice (some ⟨g, off, none⟩) 2 c] w (refPost (0, 9) w) := by
  obtain ⟨mk, e1, hs⟩ := shape_two (op := 11) (by decide) (by decide)
  have HS : Hid (∀ W : World, Calls Tryz.prog 49 #[.int .i64 11] W fun e w' => e = .returned (.tuple #[.string ⟨#[73, 73]⟩, .int .i64 mk, .int .i64 0, .bool true]) ∧ w' = W) := hideI fun W => (shape_any 11 W).mono fun e w' ⟨h1, h2⟩ => ⟨by rw [h1, hs], h2.symm⟩
  have hsz : (⟨#[73, 73]⟩ : ByteArray).size = 2 := rfl
  clear hs
  go_enter Tryz.func19, Tryz.ntmps19
  go_wp2_with (first | (go_at_call 49; refine (HS.out _).mono ?_; rintro e w1 ⟨rfl, rfl⟩))
  go_ret2
  exact ⟨rfl, 0, rfl⟩

set_option maxRecDepth 100000 in
set_option maxHeartbeats 4000000 in
theorem refCalc_12z (x : Int) (g off c : Nat) (w : World) (c0 : w.cell? ⟨g, off, none⟩ = some (.int .i64 x)) (c1 : w.cell? ⟨g, off + 1, none⟩ = some (.int .i64 0)) :
    Calls Tryz.prog 19 #[.int .i64 12, .slice (some ⟨g, off, none⟩) 2 c] w (refPost (0, 9) w) := by
  obtain ⟨mk, e1, hs⟩ := shape_two (op := 12) (by decide) (by decide)
  have HS : Hid (∀ W : World, Calls Tryz.prog 49 #[.int .i64 12] W fun e w' => e = .returned (.tuple #[.string ⟨#[73, 73]⟩, .int .i64 mk, .int .i64 0, .bool true]) ∧ w' = W) := hideI fun W => (shape_any 12 W).mono fun e w' ⟨h1, h2⟩ => ⟨by rw [h1, hs], h2.symm⟩
  have hsz : (⟨#[73, 73]⟩ : ByteArray).size = 2 := rfl
  clear hs
  go_enter Tryz.func19, Tryz.ntmps19
  go_wp2_with (first | (go_at_call 49; refine (HS.out _).mono ?_; rintro e w1 ⟨rfl, rfl⟩))
  go_ret2
  exact ⟨rfl, 0, rfl⟩

set_option maxRecDepth 100000 in
set_option maxHeartbeats 4000000 in
theorem refCalc_16 (x : Int) (g off c : Nat) (w : World) (c0 : w.cell? ⟨g, off, none⟩ = some (.int .i64 x)) :
    Calls Tryz.prog 19 #[.int .i64 16, .slice (some ⟨g, off, none⟩) 1 c] w (refPost (calcM 16 [x], 0) w) := by
  have HS : Hid (∀ W : World, Calls Tryz.prog 49 #[.int .i64 16] W fun e w' => e = .returned (.tuple #[.string ⟨#[66]⟩, .int .i64 2, .int .i64 0, .bool true]) ∧ w' = W) := hideI fun W => (shape_any 16 W).mono fun e w' ⟨h1, h2⟩ => ⟨by rw [h1]; rfl, h2.symm⟩
  have hsz : (⟨#[66]⟩ : ByteArray).size = 1 := rfl
  have HC : Hid (∀ W : World, Calls Tryz.prog 50 #[.bool (x == 0)] W fun e w' => e = .returned (.int .i64 (calcM 16 [x])) ∧ w' = W) := hideI fun W => refBit_any _ W
  go_enter Tryz.func19, Tryz.ntmps19
  go_wp2_with (first | (go_at_call 49; refine (HS.out _).mono ?_; rintro e w1 ⟨rfl, rfl⟩) | (go_at_call 50; refine (HC.out _).mono ?_; rintro e w1 ⟨rfl, rfl⟩))
  go_ret2
  exact ⟨rfl, 0, rfl⟩

set_option maxRecDepth 100000 in
set_option maxHeartbeats 4000000 in
theorem refCalc_17 (x y z : Int) (g off c : Nat) (w : World) (c0 : w.cell? ⟨g, off, none⟩ = some (.int .i64 x)) (c1 : w.cell? ⟨g, off + 1, none⟩ = some (.int .i64 y)) (c2 : w.cell? ⟨g, off + 2, none⟩ = some (.int .i64 z)) :
    Calls Tryz.prog 19 #[.int .i64 17, .slice (some ⟨g, off, none⟩) 3 c] w (refPost (calcM 17 [x, y, z], 0) w) := by
  have HS : Hid (∀ W : World, Calls Tryz.prog 49 #[.int .i64 17] W fun e w' => e = .returned (.tuple #[.string ⟨#[66, 73, 73]⟩, .int .i64 1, .int .i64 0, .bool true]) ∧ w' = W) := hideI fun W => (shape_any 17 W).mono fun e w' ⟨h1, h2⟩ => ⟨by rw [h1]; rfl, h2.symm⟩
  have hsz : (⟨#[66, 73, 73]⟩ : ByteArray).size = 3 := rfl
  by_cases hx : x = 0
  · have HE : Hid (calcM 17 [x, y, z] = z) := hideI (by unfold calcM; simp [hx])
    have x0 : (x == 0) = true := by simpa using hx
    clear hx
    go_enter Tryz.func19, Tryz.ntmps19
    go_wp2_with (first | (go_at_call 49; refine (HS.out _).mono ?_; rintro e w1 ⟨rfl, rfl⟩))
    go_ret2
    exact ⟨by rw [HE.out]; rfl, 0, rfl⟩
  · have HE : Hid (calcM 17 [x, y, z] = y) := hideI (by unfold calcM; simp [hx])
    have x0 : (x == 0) = false := by simpa using hx
    clear hx
    go_enter Tryz.func19, Tryz.ntmps19
    go_wp2_with (first | (go_at_call 49; refine (HS.out _).mono ?_; rintro e w1 ⟨rfl, rfl⟩))
    go_ret2
    exact ⟨by rw [HE.out]; rfl, 0, rfl⟩

theorem divZero_two {op x y : Int} : divZero op [x, y] = ((decide (op = 11) || decide (op = 12)) && decide (y = 0)) := rfl

/-- the reference's Calc is calcR -/
theorem refCalc_any (op : Int) (a : List Int) (B : Nat) (av : Value) (w : World) (ha : Ints w B av a) :
    Calls Tryz.prog 19 #[.int .i64 op, av] w (refPost (calcR op a) w) := by
  obtain ⟨A, ac, rfl, _, hat⟩ := ha
  by_cases hp : 3 ≤ op ∧ op ≤ 17
  · by_cases hl : a.length = (takesS op).length
    · have hR : calcR op a = if divZero op a then (0, 9) else (calcM op a, 0) := by unfold calcR; rw [if_pos ⟨hp.1, hp.2, hl⟩]
      rw [hR]
      by_cases h15 : op ≤ 15
      · rw [takes_two hp.1 h15] at hl
        obtain ⟨x, y, rfl⟩ : ∃ x y, a = [x, y] := by
          match a, hl with
          | [x, y], _ => exact ⟨x, y, rfl⟩
        obtain ⟨g, off, rfl, _, c0⟩ := hat 0 (by simp)
        obtain ⟨_, _, e, _, c1⟩ := hat 1 (by simp)
        cases e
        have c0 : w.cell? ⟨g, off, none⟩ = some (.int .i64 x) := by simpa using c0
        have c1 : w.cell? ⟨g, off + 1, none⟩ = some (.int .i64 y) := by simpa using c1
        rw [divZero_two]
        obtain ⟨h1, h2⟩ := hp
        obtain rfl | rfl | rfl | rfl | rfl | rfl | rfl | rfl | rfl | rfl | rfl | rfl | rfl : op = 3 ∨ op = 4 ∨ op = 5 ∨ op = 6 ∨ op = 7 ∨ op = 8 ∨ op = 9 ∨ op = 10 ∨ op = 11 ∨ op = 12 ∨ op = 13 ∨ op = 14 ∨ op = 15 := by omega
        · exact refCalc_3 x y g off ac w c0 c1
        · exact refCalc_4 x y g off ac w c0 c1
        · exact refCalc_5 x y g off ac w c0 c1
        · exact refCalc_6 x y g off ac w c0 c1
        · exact refCalc_7 x y g off ac w c0 c1
        · exact refCalc_8 x y g off ac w c0 c1
        · exact refCalc_9 x y g off ac w c0 c1
        · exact refCalc_10 x y g off ac w c0 c1
        · by_cases hy : y = 0
          · subst hy; exact refCalc_11z x g off ac w c0 c1
          · rw [if_neg (by simp [hy])]; exact refCalc_11 x y g off ac w c0 c1 hy
        · by_cases hy : y = 0
          · subst hy; exact refCalc_12z x g off ac w c0 c1
          · rw [if_neg (by simp [hy])]; exact refCalc_12 x y g off ac w c0 c1 hy
        · exact refCalc_13 x y g off ac w c0 c1
        · exact refCalc_14 x y g off ac w c0 c1
        · exact refCalc_15 x y g off ac w c0 c1
      · obtain rfl | rfl : op = 16 ∨ op = 17 := by omega
        · have hl1 : a.length = 1 := hl
          obtain ⟨x, rfl⟩ : ∃ x, a = [x] := by
            match a, hl1 with
            | [x], _ => exact ⟨x, rfl⟩
          obtain ⟨g, off, rfl, _, c0⟩ := hat 0 (by simp)
          exact refCalc_16 x g off ac w (by simpa using c0)
        · have hl1 : a.length = 3 := hl
          obtain ⟨x, y, z, rfl⟩ : ∃ x y z, a = [x, y, z] := by
            match a, hl1 with
            | [x, y, z], _ => exact ⟨x, y, z, rfl⟩
          obtain ⟨g, off, rfl, _, c0⟩ := hat 0 (by simp)
          obtain ⟨_, _, e, _, c1⟩ := hat 1 (by simp)
          cases e
          obtain ⟨_, _, e, _, c2⟩ := hat 2 (by simp)
          cases e
          exact refCalc_17 x y z g off ac w (by simpa using c0) (by simpa using c1) (by simpa using c2)
    · have hR : calcR op a = (0, 1) := by unfold calcR; rw [if_neg (fun h => hl h.2.2)]
      rw [hR]
      refine refCalc_bad op A a.length ac w _ _ _ _ rfl (.inr (.inr (.inr ?_)))
      intro e
      apply hl
      have h2 : (takesS op).length = (shapeS op).1.length := by unfold takesS; rw [List.length_map]
      have h3 : (⟨(shapeS op).1.toArray⟩ : ByteArray).size = (shapeS op).1.length := rfl
      rw [h3] at e
      omega
  · have hR : calcR op a = (0, 1) := by unfold calcR; rw [if_neg (fun h => hp ⟨h.1, h.2.1⟩)]
    rw [hR]
    refine refCalc_bad op A a.length ac w _ _ _ _ rfl ?_
    rcases op_cases op with h | h | h
    · have : op = 1 ∨ op = 2 := by omega
      rcases this with rfl | rfl <;> exact .inr (.inr (.inl (by decide)))
    · have : op = 18 ∨ op = 19 ∨ op = 20 ∨ op = 21 ∨ op = 22 ∨ op = 23 ∨ op = 24 ∨ op = 25 := by omega
      rcases this with rfl | rfl | rfl | rfl | rfl | rfl | rfl | rfl
      · exact .inr (.inr (.inl (by decide)))
      · exact .inr (.inr (.inl (by decide)))
      · exact .inr (.inl (by decide))
      · exact .inr (.inr (.inl (by decide)))
      · exact .inr (.inl (by decide))
      · exact .inr (.inl (by decide))
      · exact .inr (.inr (.inl (by decide)))
      · exact .inr (.inl (by decide))
    · rw [shapeS_none h]; exact .inl rfl
end Go.Proofs.YtglbepdjahddmaaGreat
