/- behind and steps: the rounds that are asked, and the way back through them. -/
import Derived.Test.YtidebjcnmabggaaDoorMoReach
import Derived.Deep.AppendLies
import Derived.Deep.Onto
import Derived.OneCell
import Derived.Laws.OwnMore
namespace Go.Proofs.YtidebjcnmabggaaDoor.Mo
open Go.RowKit

def rc (r : Rnd) : List Value := [.int .u64 ((r.M - 1 : Nat) : Int), .int .u64 (r.s : Int), .int .u64 (r.lo : Int), .int .u64 (r.hi : Int)]

theorem flat4 : ∀ (R : List Rnd) (j o : Nat) (r : Rnd), R[j]? = some r → o < 4 → (R.flatMap rc)[j * 4 + o]? = (rc r)[o]?
  | [], j, o, r, h, _ => by simp at h
  | a :: R, 0, o, r, h, ho => by
    simp at h
    subst h
    rw [List.flatMap_cons, Nat.zero_mul, Nat.zero_add, List.getElem?_append_left (by simp [rc]; exact ho)]
  | a :: R, j + 1, o, r, h, ho => by
    have h2 : R[j]? = some r := by simpa using h
    rw [List.flatMap_cons, List.getElem?_append_right (by simp [rc]; omega), show (j + 1) * 4 + o - (rc a).length = j * 4 + o by simp [rc]; omega]
    exact flat4 R j o r h2 ho

theorem flat_len (R : List Rnd) : (R.flatMap rc).length = R.length * 4 := by
  induction R with
  | nil => rfl
  | cons a R ih => rw [List.flatMap_cons, List.length_append, ih, List.length_cons]; simp [rc]; omega

/-- the call's own list of rounds -/
def RdL (w : World) (base : Nat) (v : Value) (R : List Rnd) : Prop := w.ownsRow base 44 4 v R.length (R.flatMap rc)

theorem RdL.sl {w : World} {base : Nat} {v : Value} {R : List Rnd} (h : RdL w base v R) : ∃ A c, v = .slice A R.length c := by
  rcases h.2 with ⟨rfl, h0⟩ | ⟨g, cap, cur, rfl, _⟩
  · exact ⟨_, _, by rw [h0]⟩
  · exact ⟨_, _, rfl⟩

theorem RdL.at_ {w : World} {base : Nat} {v : Value} {R : List Rnd} (h : RdL w base v R) {j : Nat} {r : Rnd} (hj : R[j]? = some r) :
    ∃ g c, v = .slice (some ⟨g, 0, none⟩) R.length c ∧ w.cell? ⟨g, j * 4, none⟩ = some (.int .u64 ((r.M - 1 : Nat) : Int)) ∧ w.cell? ⟨g, j * 4 + 1, none⟩ = some (.int .u64 (r.s : Int)) ∧ w.cell? ⟨g, j * 4 + 2, none⟩ = some (.int .u64 (r.lo : Int)) ∧ w.cell? ⟨g, j * 4 + 3, none⟩ = some (.int .u64 (r.hi : Int)) := by
  obtain ⟨hjl, _⟩ := List.getElem?_eq_some_iff.1 hj
  unfold RdL at h
  obtain ⟨g, cap, rfl, hb, hlt⟩ := World.ownsRow.form h (by omega)
  have hc : ∀ o, o < 4 → w.cell? ⟨g, j * 4 + o, none⟩ = (rc r)[o]? := fun o ho => by
    rw [World.ownsRow.cellAt h (j * 4 + o) (by omega)]
    exact flat4 R j o r hj ho
  exact ⟨g, cap, rfl, hc 0 (by omega), hc 1 (by omega), hc 2 (by omega), hc 3 (by omega)⟩

theorem RdL.kept {w w' : World} {base B : Nat} {v : Value} {R : List Rnd} (h : RdL w base v R) (hb : Below B w w') (hB : w.heap.size ≤ B) : RdL w' base v R :=
  World.ownsRow.kept (row := none) h ⟨hb.os, hb.tape, hb.output, hb.size, fun k hk _ => hb.block k (by omega)⟩ (by
    cases hv : v.ownBlock with
    | none => exact .inl rfl
    | some k => exact .inr (by simp))

theorem outR_drop (R : List Rnd) (k : Nat) (r : Rnd) (h : R.reverse[k]? = some r) : R.reverse.drop k = r :: R.reverse.drop (k + 1) := by
  obtain ⟨hl, e⟩ := List.getElem?_eq_some_iff.1 h
  rw [List.drop_eq_getElem_cons hl, e]

set_option maxRecDepth 100000 in
theorem behind_any (R : List Rnd) (n base : Nat) (v : Value) (hR : R.length ≤ 64) (hM : ∀ r ∈ R, r.M ≤ 18446744073709551616) (hF : FitR R.reverse n) (w : World) (hL : RdL w base v R) :
    Calls Tryd.prog 26 #[v, .int .u64 (n : Int)] w fun e w' => e = .returned (.int .u64 (outR R.reverse n : Int)) ∧ Below w.heap.size w w' := by
  obtain ⟨A, c, rfl⟩ := hL.sl
  have HL := hideI hL
  have HM := hideI hM
  have HF := hideI hF
  obtain ⟨N, hN⟩ : ∃ N, N = R.length := ⟨_, rfl⟩
  have HN := hideI hN
  have hN64 : N ≤ 64 := by omega
  rw [← hN]
  clear hL hM hF hN hR
  go_enter Tryd.func26, Tryd.ntmps26
  go_wp2
  go_loopw [1, 8] (fun u1 u8 wv => ∃ k x : Nat, k ≤ N ∧ u8 = .int .i64 k ∧ u1 = .int .u64 x ∧ Hid (FitR (R.reverse.drop k) x ∧ outR (R.reverse.drop k) x = outR R.reverse n) ∧ Hid (Below w.heap.size w wv)) (fun _ u8 _ => N - (intOf u8).toNat)
  case atStart => exact ⟨0, n, by omega, rfl, rfl, ⟨HF.out, rfl⟩, Below.refl _ w⟩
  case round =>
    obtain ⟨k, x, hk, rfl, rfl, hI, hB⟩ := hrel
    by_cases hlt : k < N
    · have hl : (k : Int) < (N : Int) := by omega
      obtain ⟨j, hj⟩ : ∃ j, j = N - 1 - k := ⟨_, rfl⟩
      have hjN : j < R.length := by rw [← HN.out]; omega
      obtain ⟨r, hr⟩ : ∃ r, R[j]? = some r := ⟨_, List.getElem?_eq_getElem hjN⟩
      have hr2 : R.reverse[k]? = some r := by
        rw [List.getElem?_reverse (by rw [← HN.out]; exact hlt), ← HN.out, ← hj]; exact hr
      obtain ⟨g, cp, hA, d0, d1, d2, d3⟩ := RdL.at_ (RdL.kept HL.out hB.out (Nat.le_refl _)) hr
      injection hA with hA1 _ hA3
      subst hA1 hA3
      have hdr := outR_drop R k r hr2
      obtain ⟨hf, ho⟩ := hI.out
      rw [hdr] at hf ho
      obtain ⟨⟨hok, hs0, hxs, hrm⟩, hf2⟩ := hf
      have hMr := HM.out r (List.mem_of_getElem? hr)
      have HRE := hideI (fun V : World => reach_any (r.M - 1) r.s r.lo r.hi x hok.lo0 (by have := hok.span; have := hok.hi1; omega) (by have := hok.step; omega) hxs (by omega) (by
        have h3 := hrm
        unfold Rnd.reach at h3
        rw [show r.M - 1 + 1 = r.M by have := hok.step; omega]; exact h3) V)
      rw [show r.M - 1 + 1 = r.M by have := hok.step; omega] at HRE
      obtain ⟨y, hy⟩ : ∃ y, y = r.reach x := ⟨_, rfl⟩
      rw [show (x * r.M + (r.lo - 1)) / r.s + 1 = y from hy.symm] at HRE
      have HI2 : Hid (FitR (R.reverse.drop (k + 1)) y ∧ outR (R.reverse.drop (k + 1)) y = outR R.reverse n) := hideI (by rw [hy]; exact ⟨hf2, ho⟩)
      have e1 : (N : Int) - 1 - (k : Int) = (j : Int) := by omega
      have hji : (j : Int) < (N : Int) := by omega
      have hwz : Hid (w.heap.size ≤ wr.heap.size) := hideI hB.out.size
      clear hI hr hr2 hdr ho hok hs0 hxs hrm hf2 hMr hj hjN hy
      go_wp2_with (go_at_call 29; go_must (refine (HRE.out _).mono ?_); rintro e w4 ⟨rfl, hw4⟩)
      have HB4 : Hid (Below w.heap.size w w4) := hideI (hB.out.trans (hw4.mono hwz.out))
      clear hw4
      go_roundw
      case rel => exact ⟨k + 1, y, by omega, by go_num, rfl, HI2, HB4⟩
      case measure => simp [intOf]; omega
    · have hkm : k = N := by omega
      subst hkm
      have HX : Hid (x = outR R.reverse n) := hideI (by
        have h := hI.out.2
        rw [List.drop_of_length_le (by rw [List.length_reverse, ← HN.out]; exact Nat.le_refl _)] at h
        exact h)
      go_wp2
      go_ret
      exact ⟨by rw [HX.out]; rfl, hB.out⟩

/-- the box of the round that is asked -/
theorem box_put {W : World} {b T s lo hi T2 s2 lo2 hi2 : Nat} (h : W.heap[b]? = some (.cells #[.int .u64 (T : Int), .int .u64 (s : Int), .int .u64 (lo : Int), .int .u64 (hi : Int)] 44 (0, 0))) :
    ((((W.setCell ⟨b, 0, none⟩ (.int .u64 (T2 : Int))).setCell ⟨b, 1, none⟩ (.int .u64 (s2 : Int))).setCell ⟨b, 2, none⟩ (.int .u64 (lo2 : Int))).setCell ⟨b, 3, none⟩ (.int .u64 (hi2 : Int))).heap[b]? = some (.cells #[.int .u64 (T2 : Int), .int .u64 (s2 : Int), .int .u64 (lo2 : Int), .int .u64 (hi2 : Int)] 44 (0, 0)) := put4 _ _ _ _ h

theorem box_below {W : World} {b B : Nat} {v0 v1 v2 v3 : Value} (h : B ≤ b) : Below B W ((((W.setCell ⟨b, 0, none⟩ v0).setCell ⟨b, 1, none⟩ v1).setCell ⟨b, 2, none⟩ v2).setCell ⟨b, 3, none⟩ v3) :=
  ((((Below.refl B W).setCell (p := ⟨b, 0, none⟩) h _).setCell (p := ⟨b, 1, none⟩) h _).setCell (p := ⟨b, 2, none⟩) h _).setCell (p := ⟨b, 3, none⟩) h _

theorem RdL.box {W : World} {b base : Nat} {v v0 v1 v2 v3 : Value} {R : List Rnd} (h : RdL W base v R) (hb : b < base) : RdL ((((W.setCell ⟨b, 0, none⟩ v0).setCell ⟨b, 1, none⟩ v1).setCell ⟨b, 2, none⟩ v2).setCell ⟨b, 3, none⟩ v3) base v R := by
  have hlt : v.ownBlock ≠ some b := fun hk => by have := (World.ownsRow.lt h b hk).1; omega
  refine World.ownsRow.kept (row := some b) h ⟨rfl, rfl, rfl, by simp, fun k hk hne => ?_⟩ (.inr hlt)
  have hne2 : k ≠ b := fun e => hne (by rw [e])
  rw [heap_setCell_other _ _ _ _ hne2, heap_setCell_other _ _ _ _ hne2, heap_setCell_other _ _ _ _ hne2, heap_setCell_other _ _ _ _ hne2]

/-- what steps answers -/
inductive StepsIs (z : Rnd) : Value → Prop
  | yes {n : Nat} (h : z.Least n) : StepsIs z (.tuple #[.int .u64 (n : Int), .bool true])
  | no (h : z.Never) : StepsIs z (.tuple #[.int .u64 0, .bool false])

theorem StepsIs.or {z : Rnd} {v : Value} (h : StepsIs z v) : (∃ n : Nat, z.Least n ∧ v = .tuple #[.int .u64 (n : Int), .bool true]) ∨ (z.Never ∧ v = .tuple #[.int .u64 0, .bool false]) := by
  cases h with
  | yes h => exact .inl ⟨_, h, rfl⟩
  | no h => exact .inr ⟨h, rfl⟩

theorem rnd_info : (Tryd.prog.info? 44).map (fun i => (i.zero, i.size, i.bytes)) = some (some (.agg #[.int .u64 0, .int .u64 0, .int .u64 0, .int .u64 0]), 4, 32) := by kernel_rfl
end Go.Proofs.YtidebjcnmabggaaDoor.Mo
