/- The reference's phi. -/
import Derived.Test.YtclbhbnidodmdaaUsed
import Derived.BigQuiet
namespace Go.Proofs.Ytclbhbnidodmdaa
open Go.RowKit

theorem once_of {nb : Nat} : ∀ (l seen : List Int), l.Nodup → (∀ x ∈ l, 0 ≤ x ∧ x ≤ nb - 1) → (∀ x ∈ l, x ∉ seen) → onceB nb seen l = true := by
  intro l
  induction l with
  | nil => intro seen _ _ _; rfl
  | cons b l ih =>
    intro seen h1 h2 h3
    rw [List.nodup_cons] at h1
    unfold onceB
    simp only [Bool.and_eq_true, Bool.not_eq_true']
    have hb := h2 b (List.mem_cons_self ..)
    refine ⟨⟨?_, ?_⟩, ih _ h1.2 (fun x hx => h2 x (List.mem_cons_of_mem _ hx)) (fun x hx hm => ?_)⟩
    · unfold withinB
      simp only [Bool.and_eq_true, decide_eq_true_eq]
      exact hb
    · have := h3 b (List.mem_cons_self ..)
      simpa using this
    · rcases List.mem_cons.1 hm with rfl | hm
      · exact h1.1 hx
      · exact h3 x (List.mem_cons_of_mem _ hx) hm

/-- the first k blocks are blocks, none twice -/
def OkTo (nb : Nat) (l : List Int) (k : Nat) : Prop := (l.take k).Nodup ∧ ∀ x ∈ l.take k, 0 ≤ x ∧ x ≤ (nb : Int) - 1

theorem okTo_succ {nb k : Nat} {l : List Int} {x : Int} (h : OkTo nb l k) (hx : l[k]? = some x) (h1 : 0 ≤ x) (h2 : x ≤ (nb : Int) - 1) (hd : ∀ i, i < k → l[i]? ≠ some x) : OkTo nb l (k + 1) := by
  obtain ⟨hk, rfl⟩ := List.getElem?_eq_some_iff.1 hx
  unfold OkTo
  rw [List.take_succ_eq_append_getElem hk]
  refine ⟨?_, fun y hy => ?_⟩
  · rw [List.nodup_append]
    refine ⟨h.1, by simp, fun a ha b hb => ?_⟩
    simp at hb
    subst hb
    intro e
    subst e
    obtain ⟨i, hi⟩ := List.getElem?_of_mem ha
    rw [List.getElem?_take] at hi
    split at hi
    · rename_i hik
      exact hd i hik hi
    · cases hi
  · rcases List.mem_append.1 hy with hy | hy
    · exact h.2 y hy
    · simp at hy
      subst hy
      exact ⟨h1, h2⟩

theorem once_true {nb : Nat} {l : List Int} (h : OkTo nb l l.length) : onceB nb [] l = true := by
  unfold OkTo at h
  rw [List.take_of_length_le (Nat.le_refl _)] at h
  exact once_of l [] h.1 h.2 (fun x _ hx => by cases hx)

theorem once_range {nb k : Nat} {l : List Int} {x : Int} (hx : l[k]? = some x) (h : x < 0 ∨ (nb : Int) ≤ x) : onceB nb [] l = false := by
  cases ho : onceB nb [] l
  · rfl
  · have := (once_nodup l [] ho).2.1 x (List.mem_of_getElem? hx)
    omega

theorem once_twice {nb k j : Nat} {l : List Int} {x : Int} (hx : l[k]? = some x) (hj : l[j]? = some x) (hne : j < k) : onceB nb [] l = false := by
  cases ho : onceB nb [] l
  · rfl
  · have h := (once_nodup l [] ho).1
    obtain ⟨h1, e1⟩ := List.getElem?_eq_some_iff.1 hx
    obtain ⟨h2, e2⟩ := List.getElem?_eq_some_iff.1 hj
    have := List.pairwise_iff_getElem.1 h j k h2 h1 hne
    rw [e1, e2] at this
    exact absurd rfl this

theorem says_drew {b b' : Bool} {w : World} {o o2 : Obj} {m : Nat} (h : b = b') : Says b' w (.returned (.bool b)) (((w.alloc o).alloc o2).drewN m) := by
  subst h
  have : Below w.heap.size w ((w.alloc o).alloc o2) := ((Below.refl _ w).alloc (Nat.le_refl _) _).alloc (by simp) _
  exact ⟨rfl, ⟨this.os, this.tape, this.output, this.size, this.block⟩⟩

set_option maxRecDepth 100000 in
set_option maxHeartbeats 4000000 in
theorem refPhi_any (f : FuncM) (B : Nat) (pv av cv fv vv : Value) (A : Option Addr) (c : Nat) (p : PhiM) (w : World) (hfv : Ints w B fv p.fr) (hvv : Ints w B vv p.vals) (hB : B ≤ w.heap.size) (hl : f.blocks.length ≤ 512) :
    Calls Try.prog 66 #[.agg #[pv, av, cv, .slice A f.blocks.length c], .agg #[.int .i64 p.id, .int .i64 p.typ, fv, vv]] w (Says (phiB f p) w) := by
  obtain ⟨FA, fc, rfl, hfm, hfx⟩ := hfv
  obtain ⟨VA, vc, rfl, hvm, _⟩ := hvv
  obtain ⟨W2, hW2⟩ : ∃ W2, W2 = (w.alloc (.cells #[pv, av, cv, .slice A f.blocks.length c] 25)).alloc (.cells #[.int .i64 p.id, .int .i64 p.typ, .slice FA p.fr.length fc, .slice VA p.vals.length vc] 92) := ⟨_, rfl⟩
  have hbox : W2.heap[w.heap.size]? = some (.cells #[pv, av, cv, .slice A f.blocks.length c] 25 (0, 0)) := by
    rw [hW2, Below.heap_alloc _ _ _ (by simp)]
    exact heap_alloc_new w _
  have hbox2 : W2.heap[w.heap.size + 1]? = some (.cells #[.int .i64 p.id, .int .i64 p.typ, .slice FA p.fr.length fc, .slice VA p.vals.length vc] 92 (0, 0)) := by
    have h := heap_alloc_new (w.alloc (.cells #[pv, av, cv, .slice A f.blocks.length c] 25)) (.cells #[.int .i64 p.id, .int .i64 p.typ, .slice FA p.fr.length fc, .slice VA p.vals.length vc] 92)
    rw [hW2]
    simpa using h
  have hx1 := row_cells hbox rfl
  have hx2 := row_cells hbox2 rfl
  have HFX : Hid (∀ k, k < p.fr.length → ∃ b off, FA = some ⟨b, off, none⟩ ∧ b < B ∧ W2.cell? ⟨b, off + k, none⟩ = some (.int .i64 (p.fr[k]?.getD 0))) := by
    intro k hk
    obtain ⟨b, off, h1, h2, h3⟩ := hfx k hk
    refine ⟨b, off, h1, h2, ?_⟩
    rw [← h3]
    refine World.cell?_of_block (a := ⟨b, off + k, none⟩) ?_
    show W2.heap[b]? = w.heap[b]?
    rw [hW2, Below.heap_alloc _ _ _ (by simp; omega), Below.heap_alloc _ _ _ (by omega)]
  have HW2 := hideI hW2
  have hfin : ∀ (b b' : Bool) (m : Nat), b = b' → Says b' w (.returned (.bool b)) (W2.drewN m) := fun b b' m h => by rw [HW2.out]; exact says_drew h
  have HFIN := hideI hfin
  clear hfx hW2 hfin hbox hbox2
  have htyp : ((p.typ != 1) = false ∨ ((p.typ != 1) = true ∧ (p.typ != 2) = false)) ∧ isTypeB p.typ = true ∨ ((p.typ != 1) = true ∧ (p.typ != 2) = true) ∧ isTypeB p.typ = false := by
    unfold isTypeB
    by_cases h1 : p.typ = 1
    · exact .inl ⟨.inl (by simpa using h1), by simp [h1]⟩
    by_cases h2 : p.typ = 2
    · exact .inl ⟨.inr ⟨by simpa using h1, by simpa using h2⟩, by simp [h2]⟩
    exact .inr ⟨⟨by simpa using h1, by simpa using h2⟩, by simp [h1, h2]⟩
  rcases htyp with ⟨ht, hT⟩ | ⟨⟨t1, t2⟩, hT⟩
  · by_cases hlen : p.vals.length = p.fr.length
    · have hB2 : phiB f p = onceB f.blocks.length [] p.fr := by unfold phiB; rw [hT, hlen]; simp
      rw [hB2]
      have hne : ((p.fr.length : Int) != (p.vals.length : Int)) = false := by simp; omega
      clear hT hB2 hlen
      rcases ht with t1 | ⟨t1, t2⟩
      all_goals
        go_enter Try.func66, Try.ntmps66
        go_wp2
        rw [← HW2.out]
        go_loopw [5] (fun i wr => ∃ k m : Nat, k ≤ p.fr.length ∧ i = .int .i64 k ∧ Hid (OkTo f.blocks.length p.fr k) ∧ wr = W2.drewN m) (fun i _ => p.fr.length - (intOf i).toNat)
        case atStart => exact ⟨0, 0, Nat.zero_le _, rfl, ⟨by simp, by simp⟩, rfl⟩
        case round =>
          obtain ⟨k, m, hk, rfl, hok, rfl⟩ := hrel
          by_cases hlt : k < p.fr.length
          · obtain ⟨b, off, rfl, hb, hc⟩ := HFX.out k hlt
            obtain ⟨x, hx⟩ : ∃ x, p.fr[k]? = some x := ⟨_, List.getElem?_eq_getElem hlt⟩
            rw [hx] at hc
            simp only [Option.getD_some] at hc
            have HX := hideI hx
            clear hx
            cases h0 : decide (x < 0)
            · cases h1 : decide ((f.blocks.length : Int) ≤ x)
              · go_wp2
                go_quiet (fail)
                go_wp2
                go_loopw [6] (fun i wr => ∃ j n : Nat, j ≤ k ∧ i = .int .i64 j ∧ Hid (∀ i, i < j → p.fr[i]? ≠ some x) ∧ wr = W2.drewN n) (fun i _ => k - (intOf i).toNat)
                case atStart => exact ⟨0, m + nq, Nat.zero_le _, rfl, (fun i hi => absurd hi (by omega)), by rw [World.drewN_drewN]⟩
                case round =>
                  obtain ⟨j, n, hj, rfl, hd, rfl⟩ := hrel
                  by_cases hlj : j < k
                  · obtain ⟨b', off', hbe, hb', hc'⟩ := HFX.out j (by omega)
                    obtain ⟨rfl, rfl⟩ : b = b' ∧ off = off' := by simpa using hbe
                    obtain ⟨y, hy⟩ : ∃ y, p.fr[j]? = some y := ⟨_, List.getElem?_eq_getElem (by omega)⟩
                    rw [hy] at hc'
                    simp only [Option.getD_some] at hc'
                    have HY := hideI hy
                    clear hy
                    cases he : y == x
                    · have HE := hideI he
                      go_wp2
                      go_quiet (fail)
                      go_wp2
                      go_roundw
                      case rel =>
                        refine ⟨j + 1, _, by omega, by go_num, ?_, rfl⟩
                        intro i hi
                        rcases Nat.lt_or_ge i j with hij | hij
                        · exact hd.out i hij
                        · have hij' : i = j := by omega
                          rw [hij', HY.out]
                          intro e
                          injection e with e
                          have := HE.out
                          rw [e] at this
                          simp at this
                      case measure => simp [intOf]; omega
                    · have hyx : y = x := by simpa using he
                      have HYX := hideI hyx
                      clear hyx
                      go_wp2
                      go_quiet (fail)
                      go_wp2
                      go_ret
                      rw [World.drewN_drewN]
                      exact HFIN.out _ _ _ (once_twice HX.out (by rw [HY.out, HYX.out]) hlj).symm
                  · go_wp2
                    go_roundw
                    case rel => exact ⟨k + 1, n, by omega, by go_num, okTo_succ hok.out HX.out (by have := of_decide_eq_false h0; omega) (by have := of_decide_eq_false h1; omega) (fun i hi => hd.out i (by omega)), rfl⟩
                    case measure => simp [intOf]; omega
              · go_wp2
                go_quiet (fail)
                go_wp2
                go_ret
                rw [World.drewN_drewN]
                exact HFIN.out _ _ _ (once_range HX.out (.inr (of_decide_eq_true h1))).symm
            · go_wp2
              go_quiet (fail)
              go_wp2
              go_ret
              rw [World.drewN_drewN]
              exact HFIN.out _ _ _ (once_range HX.out (.inl (of_decide_eq_true h0))).symm
          · have hfull := hok.out
            rw [show k = p.fr.length by omega] at hfull
            have HO := hideI (once_true hfull)
            clear hfull
            go_wp2
            go_ret
            exact HFIN.out _ _ _ HO.out.symm
    · have hB2 : phiB f p = false := by
        have : (p.vals.length == p.fr.length) = false := by simpa using hlen
        unfold phiB; rw [hT, this]; rfl
      have hne : ((p.fr.length : Int) != (p.vals.length : Int)) = true := by simp; omega
      rw [hB2]
      rcases ht with t1 | ⟨t1, t2⟩
      all_goals
        go_enter Try.func66, Try.ntmps66
        go_wp2
        rw [← HW2.out]
        go_ret
        exact HFIN.out _ _ 0 rfl
  · have hB2 : phiB f p = false := by unfold phiB; rw [hT]; rfl
    rw [hB2]
    go_enter Try.func66, Try.ntmps66
    go_wp2
    rw [← HW2.out]
    go_ret
    exact HFIN.out _ _ 0 rfl

end Go.Proofs.Ytclbhbnidodmdaa
