/- The reference's end. -/
import Derived.Test.YtgmikokdiafjgaaRefPhi
import Derived.Test.YtgmikokdiafjgaaRefInstr
namespace Go.Proofs.Ytgmikokdiafjgaa
open Go.RowKit

/-- what is asked of an end beside its targets -/
def endR (t : TermM) : Bool :=
  if t.op = 1 then t.to.length == 1 && (t.val == -1 && t.n == 0) else
  if t.op = 2 then t.to.length == 2 && t.n == 0 else
  if t.op = 3 then t.to.length == 0 && t.n == 0 else
  if t.op = 4 then t.to.length == 0 && (t.val == -1 && decide (0 ≤ t.n)) else false

theorem term_all {f : FuncM} {t : TermM} (h : targetsB f.blocks.length t.to = true) : termB f t = endR t := by
  unfold termB
  rw [h]
  rfl

theorem term_bad {f : FuncM} {t : TermM} {k : Nat} {x : Int} (hx : t.to[k]? = some x) (h : x < 1 ∨ (f.blocks.length : Int) ≤ x) : termB f t = false := by
  have h1 : targetsB f.blocks.length t.to = false := by
    cases hh : targetsB f.blocks.length t.to
    · rfl
    · unfold targetsB at hh
      have := within_bd (List.all_eq_true.1 hh x (List.mem_of_getElem? hx))
      omega
  unfold termB
  rw [h1]
  rfl

set_option maxRecDepth 100000 in
set_option maxHeartbeats 4000000 in
theorem refEnd_any (f : FuncM) (B : Nat) (pv av cv tv : Value) (A : Option Addr) (c : Nat) (t : TermM) (w : World) (htv : Ints w B tv t.to) (hB : B ≤ w.heap.size) (hl : f.blocks.length ≤ 512) :
    Calls Try.prog 46 #[.agg #[pv, av, cv, .slice A f.blocks.length c], .agg #[.int .i64 t.op, .int .i64 t.val, tv, .int .i64 t.n]] w (Says (termB f t) w) := by
  obtain ⟨TA, tc, rfl, htm, htx⟩ := htv
  obtain ⟨W2, hW2⟩ : ∃ W2, W2 = (w.alloc (.cells #[pv, av, cv, .slice A f.blocks.length c] 25)).alloc (.cells #[.int .i64 t.op, .int .i64 t.val, .slice TA t.to.length tc, .int .i64 t.n] 50) := ⟨_, rfl⟩
  have hbox : W2.heap[w.heap.size]? = some (.cells #[pv, av, cv, .slice A f.blocks.length c] 25 (0, 0)) := by
    rw [hW2, Below.heap_alloc _ _ _ (by simp)]
    exact heap_alloc_new w _
  have hbox2 : W2.heap[w.heap.size + 1]? = some (.cells #[.int .i64 t.op, .int .i64 t.val, .slice TA t.to.length tc, .int .i64 t.n] 50 (0, 0)) := by
    have h := heap_alloc_new (w.alloc (.cells #[pv, av, cv, .slice A f.blocks.length c] 25)) (.cells #[.int .i64 t.op, .int .i64 t.val, .slice TA t.to.length tc, .int .i64 t.n] 50)
    rw [hW2]
    simpa using h
  have hx1 := row_cells hbox rfl
  have hx2 := row_cells hbox2 rfl
  have HFX : Hid (∀ k, k < t.to.length → ∃ b off, TA = some ⟨b, off, none⟩ ∧ b < B ∧ W2.cell? ⟨b, off + k, none⟩ = some (.int .i64 (t.to[k]?.getD 0))) := by
    intro k hk
    obtain ⟨b, off, h1, h2, h3⟩ := htx k hk
    refine ⟨b, off, h1, h2, ?_⟩
    rw [← h3]
    refine World.cell?_of_block (a := ⟨b, off + k, none⟩) ?_
    show W2.heap[b]? = w.heap[b]?
    rw [hW2, Below.heap_alloc _ _ _ (by simp; omega), Below.heap_alloc _ _ _ (by omega)]
  have HW2 := hideI hW2
  have hfin : ∀ (b b' : Bool) (m : Nat), b = b' → Says b' w (.returned (.bool b)) (W2.drewN m) := fun b b' m h => by rw [HW2.out]; exact says_drew h
  have HFIN := hideI hfin
  clear htx hW2 hfin hbox hbox2
  go_enter Try.func46, Try.ntmps46
  go_wp2
  rw [← HW2.out]
  go_loopw [5] (fun i wr => ∃ k m : Nat, k ≤ t.to.length ∧ i = .int .i64 k ∧ Hid ((t.to.take k).all (fun b => withinB b 1 (f.blocks.length - 1)) = true) ∧ wr = W2.drewN m) (fun i _ => t.to.length - (intOf i).toNat)
  case atStart => exact ⟨0, 0, Nat.zero_le _, rfl, by simp [Hid], rfl⟩
  case round =>
    obtain ⟨k, m, hk, rfl, hok, rfl⟩ := hrel
    by_cases hlt : k < t.to.length
    · obtain ⟨b, off, rfl, hb, hc⟩ := HFX.out k hlt
      obtain ⟨x, hx⟩ : ∃ x, t.to[k]? = some x := ⟨_, List.getElem?_eq_getElem hlt⟩
      rw [hx] at hc
      simp only [Option.getD_some] at hc
      have HX := hideI hx
      clear hx
      cases h0 : decide (x < 1)
      · cases h1 : decide ((f.blocks.length : Int) ≤ x)
        · go_wp2
          go_quiet (fail)
          go_wp2
          go_roundw
          case rel =>
            refine ⟨k + 1, _, by omega, by go_num, ?_, rfl⟩
            have hxx : t.to[k] = x := by have := HX.out; rw [List.getElem?_eq_getElem hlt] at this; injection this
            show _ = true
            rw [all_take_succ _ _ _ hlt, hok.out, hxx]
            unfold withinB
            have h2 := of_decide_eq_false h0
            have h3 := of_decide_eq_false h1
            simp
            omega
          case measure => simp [intOf]; omega
        · go_wp2
          go_quiet (fail)
          go_wp2
          go_ret
          rw [World.drewN_drewN]
          exact HFIN.out _ _ _ (term_bad HX.out (.inr (of_decide_eq_true h1))).symm
      · go_wp2
        go_quiet (fail)
        go_wp2
        go_ret
        rw [World.drewN_drewN]
        exact HFIN.out _ _ _ (term_bad HX.out (.inl (of_decide_eq_true h0))).symm
    · have hall : termB f t = endR t := term_all (by have := hok.out; rw [List.take_of_length_le (by omega)] at this; exact this)
      have HALL := hideI hall
      clear hall
      rcases kind_cases t.op with h | h | h | h | ⟨o1, o2, o3, o4⟩
      · have HOP := hideI h
        have o1 : (t.op == 1) = true := by rw [h]; rfl
        clear h
        by_cases hl : t.to.length = 1
        · have l1 : ((t.to.length : Int) == 1) = true := by rw [hl]; rfl
          have HL := hideI hl
          clear hl
          cases hv : t.val == -1 <;> cases hn : t.n == 0
          all_goals
            go_wp2
            go_ret
            exact HFIN.out _ _ _ (by rw [HALL.out]; unfold endR; simp [HOP.out, HL.out, hv, hn])
        · have l1 : ((t.to.length : Int) == 1) = false := beq_eq_false_iff_ne.2 (by omega)
          have HL := hideI hl
          clear hl
          go_wp2
          go_ret
          exact HFIN.out _ _ _ (by rw [HALL.out]; unfold endR; simp [HOP.out, HL.out])
      · have HOP := hideI h
        have o1 : (t.op == 1) = false := by rw [h]; rfl
        have o2 : (t.op == 2) = true := by rw [h]; rfl
        clear h
        by_cases hl : t.to.length = 2
        · have l1 : ((t.to.length : Int) == 2) = true := by rw [hl]; rfl
          have HL := hideI hl
          clear hl
          cases hn : t.n == 0
          all_goals
            go_wp2
            go_ret
            exact HFIN.out _ _ _ (by rw [HALL.out]; unfold endR; simp [HOP.out, HL.out, hn])
        · have l1 : ((t.to.length : Int) == 2) = false := beq_eq_false_iff_ne.2 (by omega)
          have HL := hideI hl
          clear hl
          go_wp2
          go_ret
          exact HFIN.out _ _ _ (by rw [HALL.out]; unfold endR; simp [HOP.out, HL.out])
      · have HOP := hideI h
        have o1 : (t.op == 1) = false := by rw [h]; rfl
        have o2 : (t.op == 2) = false := by rw [h]; rfl
        have o3 : (t.op == 3) = true := by rw [h]; rfl
        clear h
        by_cases hl : t.to.length = 0
        · have l1 : ((t.to.length : Int) == 0) = true := by rw [hl]; rfl
          have HL := hideI hl
          clear hl
          cases hn : t.n == 0
          all_goals
            go_wp2
            go_ret
            exact HFIN.out _ _ _ (by rw [HALL.out]; unfold endR; simp [HOP.out, HL.out, hn])
        · have l1 : ((t.to.length : Int) == 0) = false := beq_eq_false_iff_ne.2 (by omega)
          have HL := hideI hl
          clear hl
          go_wp2
          go_ret
          exact HFIN.out _ _ _ (by rw [HALL.out]; unfold endR; simp [HOP.out, HL.out])
      · have HOP := hideI h
        have o1 : (t.op == 1) = false := by rw [h]; rfl
        have o2 : (t.op == 2) = false := by rw [h]; rfl
        have o3 : (t.op == 3) = false := by rw [h]; rfl
        have o4 : (t.op == 4) = true := by rw [h]; rfl
        clear h
        by_cases hl : t.to.length = 0
        · have l1 : ((t.to.length : Int) == 0) = true := by rw [hl]; rfl
          have HL := hideI hl
          clear hl
          cases hv : t.val == -1 <;> cases hn : decide (0 ≤ t.n)
          all_goals
            go_wp2
            go_ret
            exact HFIN.out _ _ _ (by rw [HALL.out]; unfold endR; simp [HOP.out, HL.out, hv, hn])
        · have l1 : ((t.to.length : Int) == 0) = false := beq_eq_false_iff_ne.2 (by omega)
          have HL := hideI hl
          clear hl
          go_wp2
          go_ret
          exact HFIN.out _ _ _ (by rw [HALL.out]; unfold endR; simp [HOP.out, HL.out])
      · have hf : endR t = false := by
          unfold endR
          rw [if_neg (by simpa using o1), if_neg (by simpa using o2), if_neg (by simpa using o3), if_neg (by simpa using o4)]
        have HE := hideI hf
        clear hf
        go_wp2
        go_ret
        exact HFIN.out _ _ _ (by rw [HALL.out, HE.out])

end Go.Proofs.Ytgmikokdiafjgaa
