/- What LZ rests on, part 5: RefFormed, RVisit. -/
import Derived.Test.YtglbepdjahddmaaGreatPkLZ4
import Derived.BigQuiet
import Derived.IntWalk
import Derived.Laws.MakeOwn
import Derived.Deep.RegionHeld3

namespace Go.Proofs.YtglbepdjahddmaaGreat
open Go.RowKit

/-- the greatest N of a kind -/
def mostR (f : FuncM) (kd : Int) : Int := if kd = 2 then 1 else if kd = 3 then f.arrays - 1 else if kd = 4 then f.cells - 1 else 0
def fitsR (f : FuncM) (kd n : Int) : Bool := if kd = 1 then true else decide (0 ≤ n) && decide (n ≤ mostR f kd)
def instrR (f : FuncM) (x : InstrM) : Bool := isOp x.op && ((x.args.length == (takesS x.op).length) && (!(makesS x.op == 0 && x.id != -1) && fitsR f (kindS x.op) x.n))

theorem says_two {b b' : Bool} {w : World} {o o2 : Obj} (h : b = b') : Says b' w (.returned (.bool b)) ((w.alloc o).alloc o2) := by
  subst h
  exact ⟨rfl, ((Below.refl _ w).alloc (Nat.le_refl _) _).alloc (by simp) _⟩

theorem fitsR_neg {f : FuncM} {kd n : Int} (h : kd ≠ 1) (hz : decide (0 ≤ n) = false) : fitsR f kd n = false := by
  unfold fitsR
  rw [if_neg h, hz]
  rfl
theorem fitsR_pos {f : FuncM} {kd n : Int} (h : kd ≠ 1) (hz : decide (0 ≤ n) = true) : fitsR f kd n = decide (n ≤ mostR f kd) := by
  unfold fitsR
  rw [if_neg h, hz]
  rfl
theorem most2 {f : FuncM} : mostR f 2 = 1 := rfl
theorem most3 {f : FuncM} : mostR f 3 = f.arrays - 1 := rfl
theorem most4 {f : FuncM} : mostR f 4 = f.cells - 1 := rfl
theorem most0 {f : FuncM} {kd : Int} (h2 : (kd == 2) = false) (h3 : (kd == 3) = false) (h4 : (kd == 4) = false) : mostR f kd = 0 := by
  unfold mostR
  rw [if_neg (by simpa using h2), if_neg (by simpa using h3), if_neg (by simpa using h4)]

theorem kind_cases (kd : Int) : kd = 1 ∨ kd = 2 ∨ kd = 3 ∨ kd = 4 ∨ ((kd == 1) = false ∧ (kd == 2) = false ∧ (kd == 3) = false ∧ (kd == 4) = false) := by
  by_cases h1 : kd = 1
  · exact .inl h1
  by_cases h2 : kd = 2
  · exact .inr (.inl h2)
  by_cases h3 : kd = 3
  · exact .inr (.inr (.inl h3))
  by_cases h4 : kd = 4
  · exact .inr (.inr (.inr (.inl h4)))
  exact .inr (.inr (.inr (.inr ⟨by simpa using h1, by simpa using h2, by simpa using h3, by simpa using h4⟩)))

set_option maxRecDepth 100000 in
set_option maxHeartbeats 4000000 in
theorem refInstr_any (f : FuncM) (pv bv : Value) (x : InstrM) (A : Option Addr) (c : Nat) (w : World) (_hl : x.args.length ≤ 140737488351232) (_ha : 0 ≤ f.arrays ∧ f.arrays ≤ 8) (_hc : 0 ≤ f.cells ∧ f.cells ≤ 64) :
    Calls Tryz.prog 110 #[.agg #[pv, .int .i64 f.arrays, .int .i64 f.cells, bv], .agg #[.int .i64 x.op, .int .i64 x.id, .slice A x.args.length c, .int .i64 x.n]] w (Says (instrR f x) w) := by
  obtain ⟨sb, hsb⟩ : ∃ sb : ByteArray, sb = ⟨(shapeS x.op).1.toArray⟩ := ⟨_, rfl⟩
  obtain ⟨mk, hmk⟩ : ∃ mk, mk = (shapeS x.op).2.1 := ⟨_, rfl⟩
  obtain ⟨kd, hkd⟩ : ∃ kd, kd = (shapeS x.op).2.2.1 := ⟨_, rfl⟩
  obtain ⟨ok, hok⟩ : ∃ ok, ok = (shapeS x.op).2.2.2 := ⟨_, rfl⟩
  have hsz : sb.size = (takesS x.op).length := by rw [hsb]; unfold takesS; rw [List.length_map]; simp [ByteArray.size]
  have HSH : Hid (shapeV x.op = .tuple #[.string sb, .int .i64 mk, .int .i64 kd, .bool ok]) := by show _ = _; rw [hsb, hmk, hkd, hok]; rfl
  have hI : instrR f x = (ok && ((x.args.length == sb.size) && (!(mk == 0 && x.id != -1) && fitsR f kd x.n))) := by
    unfold instrR
    rw [← hsz, hmk, hkd, hok]
    rfl
  rw [hI]
  have hs3 : sb.size ≤ 3 := by rw [hsb]; simpa [ByteArray.size] using shapeS_short x.op
  clear hsb hmk hkd hok hsz hI
  obtain ⟨n, hn⟩ : ∃ n, n = x.args.length := ⟨_, rfl⟩
  rw [← hn] at _hl ⊢
  clear hn
  cases ok
  · go_enter Tryz.func110, Tryz.ntmps110
    go_wp2_with (go_at_call 49; refine (shape_any _ _).mono ?_; rintro e w3 ⟨rfl, rfl⟩; rw [HSH.out])
    go_ret
    exact says_two rfl
  · by_cases hlen : n = sb.size
    · cases hk : (mk == 0 && x.id != -1)
      · rw [hlen] at _hl ⊢
        have hmi : (mk == 0) = false ∨ ((mk == 0) = true ∧ (x.id != -1) = false) := by
          cases h1 : mk == 0
          · exact .inl rfl
          · rw [h1] at hk
            exact .inr ⟨rfl, by simpa using hk⟩
        rcases hmi with h1 | ⟨h1, h2⟩
        all_goals
          rcases kind_cases kd with rfl | rfl | rfl | rfl | ⟨k1, k2, k3, k4⟩
          · go_enter Tryz.func110, Tryz.ntmps110
            go_wp2_with (go_at_call 49; refine (shape_any _ _).mono ?_; rintro e w3 ⟨rfl, rfl⟩; rw [HSH.out])
            go_ret
            exact says_two (by simp [fitsR])
          all_goals
            cases hz : decide (0 ≤ x.n)
            · go_enter Tryz.func110, Tryz.ntmps110
              go_wp2_with (go_at_call 49; refine (shape_any _ _).mono ?_; rintro e w3 ⟨rfl, rfl⟩; rw [HSH.out])
              go_ret
              exact says_two (by rw [fitsR_neg (by first | decide | simpa using k1) hz]; simp)
            · go_enter Tryz.func110, Tryz.ntmps110
              go_wp2_with (go_at_call 49; refine (shape_any _ _).mono ?_; rintro e w3 ⟨rfl, rfl⟩; rw [HSH.out])
              go_ret
              exact says_two (by rw [fitsR_pos (by first | decide | simpa using k1) hz]; first | (rw [most2]; simp) | (rw [most3]; simp) | (rw [most4]; simp) | (rw [most0 k2 k3 k4]; simp))
      · rw [hlen] at _hl ⊢
        obtain ⟨h1, h2⟩ : (mk == 0) = true ∧ (x.id != -1) = true := by simpa using hk
        go_enter Tryz.func110, Tryz.ntmps110
        go_wp2_with (go_at_call 49; refine (shape_any _ _).mono ?_; rintro e w3 ⟨rfl, rfl⟩; rw [HSH.out])
        go_ret
        exact says_two (by simp)
    · have hb : (n == sb.size) = false := by simpa using hlen
      have hne : ((n : Int) != (sb.size : Int)) = true := by simp; omega
      go_enter Tryz.func110, Tryz.ntmps110
      go_wp2_with (go_at_call 49; refine (shape_any _ _).mono ?_; rintro e w3 ⟨rfl, rfl⟩; rw [HSH.out])
      go_ret
      exact says_two (by rw [hb]; rfl)

end Go.Proofs.YtglbepdjahddmaaGreat

namespace Go.Proofs.YtglbepdjahddmaaGreat
open Go.RowKit

/-- what is asked of an end beside its targets -/
def endR (t : TermM) : Bool :=
  if t.op = 1 then t.to.length == 1 && (t.val == -1 && t.n == 0) else
  if t.op = 2 then t.to.length == 2 && t.n == 0 else
  if t.op = 3 then t.to.length == 0 && t.n == 0 else
  if t.op = 4 then t.to.length == 0 && (t.val == -1 && decide (0 ≤ t.n)) else false

theorem term_all {f : FuncM} {t : TermM} (h : targetsB f.blocks.length t.to = true) : termB f t = endR t := by
  unfold termB
  rw [h]
  rfl

theorem term_bad {f : FuncM} {t : TermM} {k : Nat} {x : Int} (hx : t.to[k]? = some x) (h : x < 1 ∨ (f.blocks.length : Int) ≤ x) : termB f t = false := by
  have h1 : targetsB f.blocks.length t.to = false := by
    cases hh : targetsB f.blocks.length t.to
    · rfl
    · unfold targetsB at hh
      have := within_bd (List.all_eq_true.1 hh x (List.mem_of_getElem? hx))
      omega
  unfold termB
  rw [h1]
  rfl

set_option maxRecDepth 100000 in
set_option maxHeartbeats 4000000 in
theorem refEnd_any (f : FuncM) (B : Nat) (pv av cv tv : Value) (A : Option Addr) (c : Nat) (t : TermM) (w : World) (htv : Ints w B tv t.to) (_hB : B ≤ w.heap.size) (_hl : f.blocks.length ≤ 512) :
    Calls Tryz.prog 111 #[.agg #[pv, av, cv, .slice A f.blocks.length c], .agg #[.int .i64 t.op, .int .i64 t.val, tv, .int .i64 t.n]] w (Says (termB f t) w) := by
  obtain ⟨TA, tc, rfl, htm, htx⟩ := htv
  obtain ⟨W2, hW2⟩ : ∃ W2, W2 = (w.alloc (.cells #[pv, av, cv, .slice A f.blocks.length c] 25)).alloc (.cells #[.int .i64 t.op, .int .i64 t.val, .slice TA t.to.length tc, .int .i64 t.n] 57) := ⟨_, rfl⟩
  have hbox : W2.heap[w.heap.size]? = some (.cells #[pv, av, cv, .slice A f.blocks.length c] 25 (0, 0)) := by
    rw [hW2, Below.heap_alloc _ _ _ (by simp)]
    exact heap_alloc_new w _
  have hbox2 : W2.heap[w.heap.size + 1]? = some (.cells #[.int .i64 t.op, .int .i64 t.val, .slice TA t.to.length tc, .int .i64 t.n] 57 (0, 0)) := by
    have h := heap_alloc_new (w.alloc (.cells #[pv, av, cv, .slice A f.blocks.length c] 25)) (.cells #[.int .i64 t.op, .int .i64 t.val, .slice TA t.to.length tc, .int .i64 t.n] 57)
    rw [hW2]
    simpa using h
  have hx1 := row_cells hbox rfl
  have hx2 := row_cells hbox2 rfl
  have HFX : Hid (∀ k, k < t.to.length → ∃ b off, TA = some ⟨b, off, none⟩ ∧ b < B ∧ W2.cell? ⟨b, off + k, none⟩ = some (.int .i64 (t.to[k]?.getD 0))) := by
    intro k hk
    obtain ⟨b, off, h1, h2, h3⟩ := htx k hk
    refine ⟨b, off, h1, h2, ?_⟩
    rw [← h3]
    refine World.cell?_of_block (a := ⟨b, off + k, none⟩) ?_
    show W2.heap[b]? = w.heap[b]?
    rw [hW2, Below.heap_alloc _ _ _ (by simp; omega), Below.heap_alloc _ _ _ (by omega)]
  have HW2 := hideI hW2
  have hfin : ∀ (b b' : Bool) (m : Nat), b = b' → Says b' w (.returned (.bool b)) (W2.drewN m) := fun b b' m h => by rw [HW2.out]; exact says_drew h
  have HFIN := hideI hfin
  clear htx hW2 hfin hbox hbox2
  go_enter Tryz.func111, Tryz.ntmps111
  go_wp2
  rw [← HW2.out]
  go_loopw [5] (fun i wr => ∃ k m : Nat, k ≤ t.to.length ∧ i = .int .i64 k ∧ Hid ((t.to.take k).all (fun b => withinB b 1 (f.blocks.length - 1)) = true) ∧ wr = W2.drewN m) (fun i _ => t.to.length - (intOf i).toNat)
  case atStart => exact ⟨0, 0, Nat.zero_le _, rfl, by simp [Hid], rfl⟩
  case round =>
    obtain ⟨k, m, hk, rfl, hok, rfl⟩ := hrel
    by_cases hlt : k < t.to.length
    · obtain ⟨b, off, rfl, hb, hc⟩ := HFX.out k hlt
      obtain ⟨x, hx⟩ : ∃ x, t.to[k]? = some x := ⟨_, List.getElem?_eq_getElem hlt⟩
      rw [hx] at hc
      simp only [Option.getD_some] at hc
      have HX := hideI hx
      clear hx
      cases h0 : decide (x < 1)
      · cases h1 : decide ((f.blocks.length : Int) ≤ x)
        · go_wp2
          go_quiet (fail)
          go_wp2
          go_roundw
          case rel =>
            refine ⟨k + 1, _, by omega, by go_num, ?_, rfl⟩
            have hxx : t.to[k] = x := by have := HX.out; rw [List.getElem?_eq_getElem hlt] at this; injection this
            show _ = true
            rw [all_take_succ _ _ _ hlt, hok.out, hxx]
            unfold withinB
            have h2 := of_decide_eq_false h0
            have h3 := of_decide_eq_false h1
            simp
            omega
          case measure => simp [intOf]; omega
        · go_wp2
          go_quiet (fail)
          go_wp2
          go_ret
          rw [World.drewN_drewN]
          exact HFIN.out _ _ _ (term_bad HX.out (.inr (of_decide_eq_true h1))).symm
      · go_wp2
        go_quiet (fail)
        go_wp2
        go_ret
        rw [World.drewN_drewN]
        exact HFIN.out _ _ _ (term_bad HX.out (.inl (of_decide_eq_true h0))).symm
    · have hall : termB f t = endR t := term_all (by have := hok.out; rw [List.take_of_length_le (by omega)] at this; exact this)
      have HALL := hideI hall
      clear hall
      rcases kind_cases t.op with h | h | h | h | ⟨o1, o2, o3, o4⟩
      · have HOP := hideI h
        have o1 : (t.op == 1) = true := by rw [h]; rfl
        clear h
        by_cases hl : t.to.length = 1
        · have l1 : ((t.to.length : Int) == 1) = true := by rw [hl]; rfl
          have HL := hideI hl
          clear hl
          cases hv : t.val == -1 <;> cases hn : t.n == 0
          all_goals
            go_wp2
            go_ret
            exact HFIN.out _ _ _ (by rw [HALL.out]; unfold endR; simp [HOP.out, HL.out, hv, hn])
        · have l1 : ((t.to.length : Int) == 1) = false := beq_eq_false_iff_ne.2 (by omega)
          have HL := hideI hl
          clear hl
          go_wp2
          go_ret
          exact HFIN.out _ _ _ (by rw [HALL.out]; unfold endR; simp [HOP.out, HL.out])
      · have HOP := hideI h
        have o1 : (t.op == 1) = false := by rw [h]; rfl
        have o2 : (t.op == 2) = true := by rw [h]; rfl
        clear h
        by_cases hl : t.to.length = 2
        · have l1 : ((t.to.length : Int) == 2) = true := by rw [hl]; rfl
          have HL := hideI hl
          clear hl
          cases hn : t.n == 0
          all_goals
            go_wp2
            go_ret
            exact HFIN.out _ _ _ (by rw [HALL.out]; unfold endR; simp [HOP.out, HL.out, hn])
        · have l1 : ((t.to.length : Int) == 2) = false := beq_eq_false_iff_ne.2 (by omega)
          have HL := hideI hl
          clear hl
          go_wp2
          go_ret
          exact HFIN.out _ _ _ (by rw [HALL.out]; unfold endR; simp [HOP.out, HL.out])
      · have HOP := hideI h
        have o1 : (t.op == 1) = false := by rw [h]; rfl
        have o2 : (t.op == 2) = false := by rw [h]; rfl
        have o3 : (t.op == 3) = true := by rw [h]; rfl
        clear h
        by_cases hl : t.to.length = 0
        · have l1 : ((t.to.length : Int) == 0) = true := by rw [hl]; rfl
          have HL := hideI hl
          clear hl
          cases hn : t.n == 0
          all_goals
            go_wp2
            go_ret
            exact HFIN.out _ _ _ (by rw [HALL.out]; unfold endR; simp [HOP.out, HL.out, hn])
        · have l1 : ((t.to.length : Int) == 0) = false := beq_eq_false_iff_ne.2 (by omega)
          have HL := hideI hl
          clear hl
          go_wp2
          go_ret
          exact HFIN.out _ _ _ (by rw [HALL.out]; unfold endR; simp [HOP.out, HL.out])
      · have HOP := hideI h
        have o1 : (t.op == 1) = false := by rw [h]; rfl
        have o2 : (t.op == 2) = false := by rw [h]; rfl
        have o3 : (t.op == 3) = false := by rw [h]; rfl
        have o4 : (t.op == 4) = true := by rw [h]; rfl
        clear h
        by_cases hl : t.to.length = 0
        · have l1 : ((t.to.length : Int) == 0) = true := by rw [hl]; rfl
          have HL := hideI hl
          clear hl
          cases hv : t.val == -1 <;> cases hn : decide (0 ≤ t.n)
          all_goals
            go_wp2
            go_ret
            exact HFIN.out _ _ _ (by rw [HALL.out]; unfold endR; simp [HOP.out, HL.out, hv, hn])
        · have l1 : ((t.to.length : Int) == 0) = false := beq_eq_false_iff_ne.2 (by omega)
          have HL := hideI hl
          clear hl
          go_wp2
          go_ret
          exact HFIN.out _ _ _ (by rw [HALL.out]; unfold endR; simp [HOP.out, HL.out])
      · have hf : endR t = false := by
          unfold endR
          rw [if_neg (by simpa using o1), if_neg (by simpa using o2), if_neg (by simpa using o3), if_neg (by simpa using o4)]
        have HE := hideI hf
        clear hf
        go_wp2
        go_ret
        exact HFIN.out _ _ _ (by rw [HALL.out, HE.out])

end Go.Proofs.YtglbepdjahddmaaGreat

namespace Go.Proofs.YtglbepdjahddmaaGreat
open Go.RowKit Go.Maps

theorem drewN_below' {B n : Nat} {w w' : World} (h : Below B w w') : Below B w (w'.drewN n) := ⟨h.os, h.tape, h.output, h.size, h.block⟩

set_option maxHeartbeats 1000000 in
theorem refSize_any (bs : List BlockM) (B : Nat) (pv av cv bv : Value) (w : World) (hbv : BlocksR w B bv bs) (hB : B ≤ w.heap.size) (h2 : bs.length ≤ 512) :
    Calls Tryz.prog 108 #[.agg #[pv, av, cv, bv]] w fun e w' => e = .returned (.int .i64 ((bs.map sizeB).sum : Nat)) ∧ Below w.heap.size w w' := by
  have HB := hideI hbv
  obtain ⟨A, c, rfl, hbm, hbx⟩ := hbv
  have HX := hideI hbx
  clear hbx
  go_enter Tryz.func108, Tryz.ntmps108
  go_wp2
  go_loopw [3, 4] (fun n i wr => ∃ k S : Nat, k ≤ bs.length ∧ i = .int .i64 k ∧ n = .int .i64 S ∧ S + k = bs.length + ((bs.take k).map sizeB).sum ∧ S ≤ bs.length + k * 281474976702465 ∧ Below (w.heap.size + 1) (w.alloc (.cells #[pv, av, cv, .slice A bs.length c] 25)) wr) (fun _ i _ => bs.length - (intOf i).toNat)
  case atStart => exact ⟨0, bs.length, Nat.zero_le _, rfl, rfl, rfl, Nat.le_refl _, Below.refl _ _⟩
  case round =>
    obtain ⟨k, S, hk, rfl, rfl, hS, hSb, hBe⟩ := hrel
    obtain ⟨hx1, hz1⟩ := one_cells hBe
    have hks := hideI (keeps_one hBe hB)
    have HBe := hideI hBe
    have HS := hideI hS
    clear hBe hS
    by_cases hlt : k < bs.length
    · obtain ⟨q, hq⟩ : ∃ q, bs[k]? = some q := ⟨_, List.getElem?_eq_getElem hlt⟩
      obtain ⟨b, off, pv, cv, tv, rfl, hb, e0, e1, e2, e3, e4, e5, hpv, hcv, htv, _⟩ := HX.out k q hq
      have c0 := (hks.out b (off + k * 6) hb).trans e0
      have c1 := (hks.out b (off + k * 6 + 1) hb).trans e1
      obtain ⟨PA, pc, hpe, hpm, _⟩ := hpv
      obtain ⟨CA, cc, hce, hcm, _⟩ := hcv
      subst hpe hce
      have HQ := hideI hq
      clear e0 e1 e2 e3 e4 e5 hq
      have hn1 : S + (q.phis.length + q.code.length) ≤ bs.length + (k + 1) * 281474976702465 := by omega
      have hw1 : IntKind.i64.wrap ((q.phis.length : Int) + q.code.length) = (q.phis.length : Int) + q.code.length := IntWalk.i64_in _ (by omega)
      have hw2 : IntKind.i64.wrap ((S : Int) + ((q.phis.length : Int) + q.code.length)) = (S : Int) + ((q.phis.length : Int) + q.code.length) := IntWalk.i64_in _ (by omega)
      go_wp2
      go_quiet (fail)
      clear hw1 hw2
      go_wp2
      go_roundw
      case rel => exact ⟨k + 1, S + (q.phis.length + q.code.length), by omega, by go_num, by go_num, by rw [size_take _ _ _ HQ.out]; have := HS.out; omega, hn1, drewN_below' HBe.out⟩
      case measure => simp [intOf]; omega
    · have hS' : S = (bs.map sizeB).sum := by have := HS.out; rw [List.take_of_length_le (by omega)] at this; omega
      go_wp2
      go_ret
      refine ⟨?_, below_one HBe.out⟩
      rw [hS']
      rfl

end Go.Proofs.YtglbepdjahddmaaGreat

namespace Go.Proofs.YtglbepdjahddmaaGreat
open Go.RowKit

def blockR (f : FuncM) (q : BlockM) : Bool := q.phis.all (phiB f) && (q.code.all (instrR f) && termB f q.term)
def headR (f : FuncM) : Bool := (f.blocks.headD ⟨[], [], ⟨0, 0, [], 0⟩⟩).phis.isEmpty
def formedR (f : FuncM) : Bool := limitsB f && (f.params.all isTypeB && (headR f && f.blocks.all (blockR f)))

theorem Keeps.heap' {B : Nat} {w wr W : World} (h : Keeps B w wr) (e : W.heap = wr.heap) : Keeps B w W := fun b o hb =>
  (World.cell?_of_block (a := ⟨b, o, none⟩) (show W.heap[b]? = wr.heap[b]? by rw [e])).trans (h b o hb)

theorem undrew' {B : Nat} {w w' : World} (h : Below B w.drew w') : Below B w w' := ⟨h.os, h.tape, h.output, h.size, h.block⟩

/-- the limits, one after the other -/
def LimitsNo (f : FuncM) : Prop :=
  16 < f.params.length ∨ (f.params.length ≤ 16 ∧ (f.arrays < 0 ∨ (0 ≤ f.arrays ∧ (8 < f.arrays ∨ (f.arrays ≤ 8 ∧ (f.cells < 0 ∨ (0 ≤ f.cells ∧ (64 < f.cells ∨ (f.cells ≤ 64 ∧
    (f.blocks.length < 1 ∨ (1 ≤ f.blocks.length ∧ (512 < f.blocks.length ∨ (f.blocks.length ≤ 512 ∧ 4096 < (f.blocks.map sizeB).sum)))))))))))))

theorem limits_split (f : FuncM) : limitsB f = true ∨ (limitsB f = false ∧ LimitsNo f) := by
  cases h : limitsB f
  · refine .inr ⟨rfl, ?_⟩
    unfold LimitsNo
    apply Classical.byContradiction
    intro hc
    have : limitsB f = true := by
      unfold limitsB withinB sizeM
      simp only [Bool.and_eq_true, decide_eq_true_eq]
      omega
    rw [h] at this
    cases this
  · exact .inl rfl

theorem formedR_limits {f : FuncM} (h : limitsB f = false) : formedR f = false := by unfold formedR; rw [h]; rfl
theorem formedR_param {f : FuncM} {k : Nat} {t : Int} (ht : f.params[k]? = some t) (h : isTypeB t = false) : formedR f = false := by
  have : f.params.all isTypeB = false := by
    cases ha : f.params.all isTypeB
    · rfl
    · have := List.all_eq_true.1 ha t (List.mem_of_getElem? ht)
      rw [h] at this
      cases this
  unfold formedR
  rw [this]
  simp
theorem formedR_head {f : FuncM} {q : BlockM} (hq : f.blocks[0]? = some q) {j : Nat} (h : j < q.phis.length) : formedR f = false := by
  have : headR f = false := by
    unfold headR
    cases hb : f.blocks with
    | nil => rw [hb] at hq; cases hq
    | cons a l =>
      rw [hb] at hq
      simp at hq
      subst hq
      cases hp : a.phis
      · rw [hp] at h; simp at h
      · simp [hp]
  unfold formedR
  rw [this]
  simp
theorem formedR_block {f : FuncM} {k : Nat} {q : BlockM} (hq : f.blocks[k]? = some q) (h : blockR f q = false) : formedR f = false := by
  have : f.blocks.all (blockR f) = false := by
    cases ha : f.blocks.all (blockR f)
    · rfl
    · have := List.all_eq_true.1 ha q (List.mem_of_getElem? hq)
      rw [h] at this
      cases this
  unfold formedR
  rw [this]
  simp
theorem blockR_phi {f : FuncM} {q : BlockM} {k : Nat} {p : PhiM} (hp : q.phis[k]? = some p) (h : phiB f p = false) : blockR f q = false := by
  have : q.phis.all (phiB f) = false := by
    cases ha : q.phis.all (phiB f)
    · rfl
    · have := List.all_eq_true.1 ha p (List.mem_of_getElem? hp)
      rw [h] at this
      cases this
  unfold blockR
  rw [this]
  rfl
theorem blockR_instr {f : FuncM} {q : BlockM} {k : Nat} {p : InstrM} (hp : q.code[k]? = some p) (h : instrR f p = false) : blockR f q = false := by
  have : q.code.all (instrR f) = false := by
    cases ha : q.code.all (instrR f)
    · rfl
    · have := List.all_eq_true.1 ha p (List.mem_of_getElem? hp)
      rw [h] at this
      cases this
  unfold blockR
  rw [this]
  simp
theorem blockR_term {f : FuncM} {q : BlockM} (h : termB f q.term = false) : blockR f q = false := by
  unfold blockR
  rw [h]
  simp
theorem all_succ {α : Type} {p : α → Bool} {l : List α} {k : Nat} {x : α} (h : (l.take k).all p = true) (hx : l[k]? = some x) (hp : p x = true) : (l.take (k + 1)).all p = true := by
  obtain ⟨hk, rfl⟩ := List.getElem?_eq_some_iff.1 hx
  rw [all_take_succ _ _ _ hk, h, hp]
  rfl
theorem all_full {α : Type} {p : α → Bool} {l : List α} {k : Nat} (h : (l.take k).all p = true) (hk : l.length ≤ k) : l.all p = true := by
  rw [List.take_of_length_le hk] at h
  exact h

theorem type_split (t : Int) : (((t != 1) = false ∨ ((t != 1) = true ∧ (t != 2) = false)) ∧ isTypeB t = true) ∨ (((t != 1) = true ∧ (t != 2) = true) ∧ isTypeB t = false) := by
  unfold isTypeB
  by_cases h1 : t = 1
  · exact .inl ⟨.inl (by simpa using h1), by simp [h1]⟩
  by_cases h2 : t = 2
  · exact .inl ⟨.inr ⟨by simpa using h1, by simpa using h2⟩, by simp [h2]⟩
  exact .inr ⟨⟨by simpa using h1, by simpa using h2⟩, by simp [h1, h2]⟩

/-- all of this world's boxes stay -/
theorem saysB {b b' : Bool} {w w' : World} (h : b = b') (hb : Below w.heap.size w w') : Says b' w (.returned (.bool b)) w' := by
  subst h
  exact ⟨rfl, hb⟩

set_option maxRecDepth 100000 in
set_option maxHeartbeats 8000000 in
theorem refFormed_no (f : FuncM) (B : Nat) (pv bv : Value) (w : World) (hpv : Ints w B pv f.params) (hbv : BlocksR w B bv f.blocks) (hB : B ≤ w.heap.size) (h : LimitsNo f) (hl : limitsB f = false) :
    Calls Tryz.prog 65 #[.agg #[pv, .int .i64 f.arrays, .int .i64 f.cells, bv]] w (Says (formedR f) w) := by
  rw [formedR_limits hl]
  clear hl
  have HBV := hideI hbv
  obtain ⟨A, c, rfl, hbm, hbx⟩ := hbv
  obtain ⟨P, pc, rfl, hpm, hpx⟩ := hpv
  obtain ⟨S, hS⟩ : ∃ S, S = (f.blocks.map sizeB).sum := ⟨_, rfl⟩
  have HS := hideI hS
  unfold LimitsNo at h
  rw [← hS] at h
  clear hbx hpx hS
  rcases h with h | ⟨a1, h | ⟨a2, h | ⟨a3, h | ⟨a4, h | ⟨a5, h | ⟨a6, h | ⟨a7, h⟩⟩⟩⟩⟩⟩⟩
  all_goals
    go_enter Tryz.func65, Tryz.ntmps65
    go_wp2_with (go_at_call 108; refine (refSize_any f.blocks B _ _ _ _ _ (HBV.out.keeps ((Keeps.refl w).alloc hB _)) (by simp; omega) (by omega)).mono ?_; rintro e w1 ⟨rfl, hb1⟩; rw [← HS.out]; have HB1 := hideI hb1; clear hb1)
    go_ret
    first
      | exact says_new rfl
      | exact saysB rfl (((Below.refl _ w).alloc (Nat.le_refl _) _).trans (HB1.out.mono (by simp)))


set_option maxRecDepth 100000 in
set_option maxHeartbeats 16000000 in
theorem refFormed_yes (f : FuncM) (B : Nat) (pv bv : Value) (w : World) (hpv : Ints w B pv f.params) (hbv : BlocksR w B bv f.blocks) (hB : B ≤ w.heap.size) (hl : limitsB f = true) :
    Calls Tryz.prog 65 #[.agg #[pv, .int .i64 f.arrays, .int .i64 f.cells, bv]] w (Says (formedR f) w) := by
  have HLIM := hideI hl
  obtain ⟨l1, l2, l3, l4, l5, l6, l7, l8⟩ := limits_bd hl
  have HBV := hideI hbv
  obtain ⟨A, c, rfl, hbm, hbx⟩ := hbv
  obtain ⟨P, pc, rfl, hpm, hpx⟩ := hpv
  obtain ⟨S, hS⟩ : ∃ S, S = (f.blocks.map sizeB).sum := ⟨_, rfl⟩
  rw [← hS] at l8
  have HS := hideI hS
  have HX := hideI hbx
  have HP := hideI hpx
  have hbox0 := hideI (heap_alloc_new w (.cells #[.slice P f.params.length pc, .int .i64 f.arrays, .int .i64 f.cells, .slice A f.blocks.length c] 25))
  have HB0 : Hid (Below w.heap.size w (w.alloc (.cells #[.slice P f.params.length pc, .int .i64 f.arrays, .int .i64 f.cells, .slice A f.blocks.length c] 25))) := (Below.refl _ w).alloc (Nat.le_refl _) _
  clear hbx hpx hS hl
  go_enter Tryz.func65, Tryz.ntmps65
  go_wp2_with (go_at_call 108; refine (refSize_any f.blocks B _ _ _ _ _ (HBV.out.keeps ((Keeps.refl w).alloc hB _)) (by simp; omega) (by omega)).mono ?_; rintro e w1 ⟨rfl, hb1⟩; rw [← HS.out]; have HBX := hideI ((hb1.block _ (lt_of_heap hbox0.out)).trans hbox0.out); have hx := row_cells HBX.out rfl; have HB1 := hideI (HB0.out.trans (hb1.mono (by simp))); clear hb1)
  have hsz : w.heap.size < w1.heap.size := lt_of_heap HBX.out
  have HK := hideI (Keeps.mono' (Keeps.of_below HB1.out) hB)
  go_loopw [3] (fun i wr => ∃ k : Nat, k ≤ f.params.length ∧ i = .int .i64 k ∧ Hid ((f.params.take k).all isTypeB = true) ∧ wr = w1) (fun i _ => f.params.length - (intOf i).toNat)
  case atStart => exact ⟨0, Nat.zero_le _, rfl, by simp [Hid], rfl⟩
  case round =>
    obtain ⟨k, hk, rfl, hok, rfl⟩ := hrel
    by_cases hlt : k < f.params.length
    · obtain ⟨b3, off3, rfl, hb3, e3⟩ := HP.out k hlt
      obtain ⟨t, ht⟩ : ∃ t, f.params[k]? = some t := ⟨_, List.getElem?_eq_getElem hlt⟩
      rw [ht] at e3
      have f3 := (HK.out b3 (off3 + k) hb3).trans e3
      simp only [Option.getD_some] at f3
      have HT := hideI ht
      clear e3 ht
      rcases type_split t with ⟨t1 | ⟨t1, t2⟩, hT⟩ | ⟨⟨t1, t2⟩, hT⟩
      · have HTT := hideI hT
        clear hT
        go_wp2
        go_roundw
        case rel => exact ⟨k + 1, by omega, by go_num, all_succ hok.out HT.out HTT.out, trivial⟩
        case measure => simp [intOf]; omega
      · have HTT := hideI hT
        clear hT
        go_wp2
        go_roundw
        case rel => exact ⟨k + 1, by omega, by go_num, all_succ hok.out HT.out HTT.out, trivial⟩
        case measure => simp [intOf]; omega
      · have HTT := hideI hT
        clear hT
        go_wp2
        go_ret
        exact saysB (formedR_param HT.out HTT.out).symm HB1.out
    · have HPAR : Hid (f.params.all isTypeB = true) := all_full hok.out (by omega)
      go_wp2
      obtain ⟨wa, rfl⟩ : ∃ wa : World, wa = wr := ⟨_, rfl⟩
      clear hok hlt hk
      go_loopw [4] (fun i wr => ∃ k : Nat, k ≤ f.blocks.length ∧ i = .int .i64 k ∧ Hid ((f.blocks.take k).all (blockR f) = true) ∧ Hid (0 < k → headR f = true) ∧ Below wa.heap.size wa wr) (fun i _ => f.blocks.length - (intOf i).toNat)
      case atStart => exact ⟨0, Nat.zero_le _, rfl, by simp [Hid], (fun h => absurd h (by omega)), Below.refl _ _⟩
      case round =>
        obtain ⟨k, hk, rfl, hok, hhd, hbw⟩ := hrel
        have HBW := hideI hbw
        have HBX2 := hideI ((hbw.block _ (lt_of_heap HBX.out)).trans HBX.out)
        have HBA := hideI (HB1.out.trans (hbw.mono (Nat.le_of_lt hsz)))
        have HK2 := hideI (Keeps.mono' (Keeps.of_below HBA.out) hB)
        have hsz2 : w.heap.size < wr.heap.size := lt_of_heap HBX2.out
        clear hbw
        clear hx
        have hx := row_cells HBX2.out rfl
        by_cases hlt : k < f.blocks.length
        · obtain ⟨q, hq⟩ : ∃ q, f.blocks[k]? = some q := ⟨_, List.getElem?_eq_getElem hlt⟩
          obtain ⟨b, off, qpv, qcv, qtv, rfl, hb, e0, e1, e2, e3, e4, e5, hpv, hcv, htv, _⟩ := HX.out k q hq
          have c0 := (HK2.out b (off + k * 6) hb).trans e0
          have c1 := (HK2.out b (off + k * 6 + 1) hb).trans e1
          have c2 := (HK2.out b (off + k * 6 + 2) hb).trans e2
          have c3 := (HK2.out b (off + k * 6 + 3) hb).trans e3
          have c4 := (HK2.out b (off + k * 6 + 4) hb).trans e4
          have c5 := (HK2.out b (off + k * 6 + 5) hb).trans e5
          have HQ := hideI hq
          have HTV := hideI htv
          obtain ⟨PA, pc2, rfl, hpm2, hpx⟩ := hpv
          obtain ⟨CA, cc, rfl, hcm, hcx⟩ := hcv
          obtain ⟨TA, tc, rfl, _⟩ := htv
          have HPX := hideI hpx
          have HCX := hideI hcx
          clear e0 e1 e2 e3 e4 e5 hq hpx hcx
          obtain ⟨wo, rfl⟩ : ∃ wo : World, wo = wr := ⟨_, rfl⟩
          obtain ⟨W1, hW1⟩ : ∃ W1 : World, W1 = wo.alloc (.cells #[.slice PA q.phis.length pc2, .slice CA q.code.length cc, .int .i64 q.term.op, .int .i64 q.term.val, .slice TA q.term.to.length tc, .int .i64 q.term.n] 59) := ⟨_, rfl⟩
          have HBB : Hid (W1.heap[wo.heap.size]? = some (.cells #[.slice PA q.phis.length pc2, .slice CA q.code.length cc, .int .i64 q.term.op, .int .i64 q.term.val, .slice TA q.term.to.length tc, .int .i64 q.term.n] 59 (0, 0))) := by rw [hW1]; exact heap_alloc_new wo _
          have HBX3 : Hid (W1.heap[w.heap.size]? = some (.cells #[.slice P f.params.length pc, .int .i64 f.arrays, .int .i64 f.cells, .slice (some ⟨b, off, none⟩) f.blocks.length c] 25 (0, 0))) := by show _ = _; rw [hW1, Below.heap_alloc _ _ _ hsz2]; exact HBX2.out
          have HBO : Hid (Below wo.heap.size wo W1) := by rw [hW1]; exact (Below.refl _ _).alloc (Nat.le_refl _) _
          have hszo : wo.heap.size < W1.heap.size := lt_of_heap HBB.out
          have HW1 := hideI hW1
          clear hW1
          go_wp2
          rw [← HW1.out]
          clear c0 c1 c2 c3 c4 c5 hx
          go_loopw [6] (fun i wr => ∃ j : Nat, j ≤ q.phis.length ∧ i = .int .i64 j ∧ Hid (k = 0 → j = 0) ∧ Hid ((q.phis.take j).all (phiB f) = true) ∧ Below W1.heap.size W1 wr) (fun i _ => q.phis.length - (intOf i).toNat)
          case atStart => exact ⟨0, Nat.zero_le _, rfl, (fun _ => rfl), by simp [Hid], Below.refl _ _⟩
          case round =>
            obtain ⟨j, hj, rfl, hj0, hpok, hbj⟩ := hrel
            have HBJ := hideI hbj
            have HBBj := hideI ((hbj.block _ hszo).trans HBB.out)
            have HBXj := hideI ((hbj.block _ (lt_of_heap HBX3.out)).trans HBX3.out)
            have HBAj := hideI (HBA.out.trans ((HBO.out.trans (hbj.mono (Nat.le_of_lt hszo))).mono (Nat.le_of_lt hsz2)))
            have HKj := hideI (Keeps.mono' (Keeps.of_below HBAj.out) hB)
            have hszj : wo.heap.size < wr.heap.size := lt_of_heap HBBj.out
            have hszw : w.heap.size < wr.heap.size := lt_of_heap HBXj.out
            clear hbj
            have hx1 := row_cells HBBj.out rfl
            by_cases hlj : j < q.phis.length
            · obtain ⟨p, hp⟩ : ∃ p, q.phis[j]? = some p := ⟨_, List.getElem?_eq_getElem hlj⟩
              have HPP := hideI hp
              by_cases hk0 : k = 0
              · have hkb : ((k : Int) == 0) = true := by rw [hk0]; rfl
                have HNO : Hid (formedR f = false) := formedR_head (q := q) (by have := HQ.out; rw [hk0] at this; exact this) hlj
                clear hk0 hp
                go_wp2
                go_quiet (fail)
                go_wp2
                go_ret
                exact saysB HNO.out.symm (drewN_below' HBAj.out)
              · have hkb : ((k : Int) == 0) = false := by simpa using hk0
                obtain ⟨b2, off2, fv, vv, rfl, hb2, e0, e1, e2, e3, hf, hv, _⟩ := HPX.out j p hp
                have HF := hideI hf
                have HV := hideI hv
                obtain ⟨FA, fc, rfl, _⟩ := hf
                obtain ⟨VA, vc, rfl, _⟩ := hv
                have d0 := (HKj.out b2 (off2 + j * 4) hb2).trans e0
                have d1 := (HKj.out b2 (off2 + j * 4 + 1) hb2).trans e1
                have d2 := (HKj.out b2 (off2 + j * 4 + 2) hb2).trans e2
                have d3 := (HKj.out b2 (off2 + j * 4 + 3) hb2).trans e3
                have HK0 := hideI hk0
                clear e0 e1 e2 e3 hp hk0
                have G0 : Hid (∀ W, Below wr.heap.size wr W → W.cell? ⟨w.heap.size, 0, none⟩ = some (.slice P f.params.length pc) ∧ W.cell? ⟨w.heap.size, 1, none⟩ = some (.int .i64 f.arrays) ∧ W.cell? ⟨w.heap.size, 2, none⟩ = some (.int .i64 f.cells) ∧ W.cell? ⟨w.heap.size, 3, none⟩ = some (.slice (some ⟨b, off, none⟩) f.blocks.length c) ∧
                    W.cell? ⟨wo.heap.size, 0, none⟩ = some (.slice (some ⟨b2, off2, none⟩) q.phis.length pc2) ∧ W.cell? ⟨b2, off2 + j * 4, none⟩ = some (.int .i64 p.id) ∧ W.cell? ⟨b2, off2 + j * 4 + 1, none⟩ = some (.int .i64 p.typ) ∧ W.cell? ⟨b2, off2 + j * 4 + 2, none⟩ = some (.slice FA p.fr.length fc) ∧ W.cell? ⟨b2, off2 + j * 4 + 3, none⟩ = some (.slice VA p.vals.length vc)) :=
                  fun W hW => ⟨row_cells HBXj.out (hW.block _ (lt_of_heap HBXj.out)) 0, row_cells HBXj.out (hW.block _ (lt_of_heap HBXj.out)) 1, row_cells HBXj.out (hW.block _ (lt_of_heap HBXj.out)) 2, row_cells HBXj.out (hW.block _ (lt_of_heap HBXj.out)) 3, row_cells HBBj.out (hW.block _ (lt_of_heap HBBj.out)) 0,
                    ((Keeps.of_below hW) _ _ (by omega)).trans d0, ((Keeps.of_below hW) _ _ (by omega)).trans d1, ((Keeps.of_below hW) _ _ (by omega)).trans d2, ((Keeps.of_below hW) _ _ (by omega)).trans d3⟩
                go_wp2
                clear hx1 d0 d1 d2 d3
                obtain ⟨q0, q1, q2, q3, q4, q5, q6, q7, q8⟩ := G0.out _ (Below.refl _ _)
                cases hph : phiB f p
                all_goals
                  have HPH := hideI hph
                  clear hph
                  go_region_held3 (fun w' => w'.cell? ⟨w.heap.size, 0, none⟩ = some (.slice P f.params.length pc) ∧ w'.cell? ⟨w.heap.size, 1, none⟩ = some (.int .i64 f.arrays) ∧ w'.cell? ⟨w.heap.size, 2, none⟩ = some (.int .i64 f.cells) ∧ w'.cell? ⟨w.heap.size, 3, none⟩ = some (.slice (some ⟨b, off, none⟩) f.blocks.length c) ∧
                    w'.cell? ⟨wo.heap.size, 0, none⟩ = some (.slice (some ⟨b2, off2, none⟩) q.phis.length pc2) ∧ w'.cell? ⟨b2, off2 + j * 4, none⟩ = some (.int .i64 p.id) ∧ w'.cell? ⟨b2, off2 + j * 4 + 1, none⟩ = some (.int .i64 p.typ) ∧ w'.cell? ⟨b2, off2 + j * 4 + 2, none⟩ = some (.slice FA p.fr.length fc) ∧ w'.cell? ⟨b2, off2 + j * 4 + 3, none⟩ = some (.slice VA p.vals.length vc)) (first | go_keep | exact G0.out _ (undrew' hb4))
                    (first | (go_at_call 109; refine (refPhi_any f B _ _ _ _ _ _ c p _ (HF.out.keeps (Keeps.heap' HKj.out (by rfl))) (HV.out.keeps (Keeps.heap' HKj.out (by rfl))) (by exact Nat.le_trans hB (Nat.le_of_lt hszw)) l7).mono ?_; rw [HPH.out]; rintro e w4 ⟨rfl, hb4⟩))
                  have HB4 := hideI (show Below wr.heap.size wr w4 from undrew' hb4)
                  clear q0 q1 q2 q3 q4 q5 q6 q7 q8 hb4
                  go_wp2
                · go_ret
                  exact saysB (formedR_block HQ.out (blockR_phi HPP.out HPH.out)).symm (HBAj.out.trans (HB4.out.mono (Nat.le_of_lt hszw)))
                · go_roundw
                  case rel => exact ⟨j + 1, by omega, by go_num, (fun h => absurd h HK0.out), all_succ hpok.out HPP.out HPH.out, HBJ.out.trans (HB4.out.mono HBJ.out.size)⟩
                  case measure => simp [intOf]; omega
            · have HPOK : Hid (q.phis.all (phiB f) = true) := all_full hpok.out (by omega)
              have HHD : Hid (headR f = true) := by
                by_cases hk0 : k = 0
                · have h1 := hj0.out hk0
                  have h2 : q.phis = [] := List.eq_nil_of_length_eq_zero (by omega)
                  have h3 := HQ.out
                  rw [hk0] at h3
                  show _ = _
                  unfold headR
                  cases hb : f.blocks with
                  | nil => rw [hb] at h3; cases h3
                  | cons a l =>
                    rw [hb] at h3
                    simp at h3
                    subst h3
                    simp [h2]
                · exact hhd.out (by omega)
              go_wp2
              obtain ⟨wp, rfl⟩ : ∃ wp : World, wp = wr := ⟨_, rfl⟩
              clear hx1 hj0 hpok hlj hj
              go_loopw [7] (fun i wr => ∃ j : Nat, j ≤ q.code.length ∧ i = .int .i64 j ∧ Hid ((q.code.take j).all (instrR f) = true) ∧ Below W1.heap.size W1 wr) (fun i _ => q.code.length - (intOf i).toNat)
              case atStart => exact ⟨0, Nat.zero_le _, rfl, by simp [Hid], HBJ.out⟩
              case round =>
                clear HBJ HBBj HBXj HBAj HKj hszj hszw
                obtain ⟨j, hj, rfl, hcok, hbj⟩ := hrel
                have HBJ := hideI hbj
                have HBBj := hideI ((hbj.block _ hszo).trans HBB.out)
                have HBXj := hideI ((hbj.block _ (lt_of_heap HBX3.out)).trans HBX3.out)
                have HBAj := hideI (HBA.out.trans ((HBO.out.trans (hbj.mono (Nat.le_of_lt hszo))).mono (Nat.le_of_lt hsz2)))
                have HKj := hideI (Keeps.mono' (Keeps.of_below HBAj.out) hB)
                have hszj : wo.heap.size < wr.heap.size := lt_of_heap HBBj.out
                have hszw : w.heap.size < wr.heap.size := lt_of_heap HBXj.out
                clear hbj
                have hx1 := row_cells HBBj.out rfl
                by_cases hlj : j < q.code.length
                · obtain ⟨x, hp⟩ : ∃ x, q.code[j]? = some x := ⟨_, List.getElem?_eq_getElem hlj⟩
                  have HPP := hideI hp
                  obtain ⟨b2, off2, av, rfl, hb2, e0, e1, e2, e3, hf, _⟩ := HCX.out j x hp
                  obtain ⟨FA, fc, rfl, hfl, _⟩ := hf
                  have d0 := (HKj.out b2 (off2 + j * 4) hb2).trans e0
                  have d1 := (HKj.out b2 (off2 + j * 4 + 1) hb2).trans e1
                  have d2 := (HKj.out b2 (off2 + j * 4 + 2) hb2).trans e2
                  have d3 := (HKj.out b2 (off2 + j * 4 + 3) hb2).trans e3
                  clear e0 e1 e2 e3 hp
                  have G0 : Hid (∀ W, Below wr.heap.size wr W → W.cell? ⟨w.heap.size, 0, none⟩ = some (.slice P f.params.length pc) ∧ W.cell? ⟨w.heap.size, 1, none⟩ = some (.int .i64 f.arrays) ∧ W.cell? ⟨w.heap.size, 2, none⟩ = some (.int .i64 f.cells) ∧ W.cell? ⟨w.heap.size, 3, none⟩ = some (.slice (some ⟨b, off, none⟩) f.blocks.length c) ∧
                      W.cell? ⟨wo.heap.size, 1, none⟩ = some (.slice (some ⟨b2, off2, none⟩) q.code.length cc) ∧ W.cell? ⟨b2, off2 + j * 4, none⟩ = some (.int .i64 x.op) ∧ W.cell? ⟨b2, off2 + j * 4 + 1, none⟩ = some (.int .i64 x.id) ∧ W.cell? ⟨b2, off2 + j * 4 + 2, none⟩ = some (.slice FA x.args.length fc) ∧ W.cell? ⟨b2, off2 + j * 4 + 3, none⟩ = some (.int .i64 x.n)) :=
                    fun W hW => ⟨row_cells HBXj.out (hW.block _ (lt_of_heap HBXj.out)) 0, row_cells HBXj.out (hW.block _ (lt_of_heap HBXj.out)) 1, row_cells HBXj.out (hW.block _ (lt_of_heap HBXj.out)) 2, row_cells HBXj.out (hW.block _ (lt_of_heap HBXj.out)) 3, row_cells HBBj.out (hW.block _ (lt_of_heap HBBj.out)) 1,
                      ((Keeps.of_below hW) _ _ (by omega)).trans d0, ((Keeps.of_below hW) _ _ (by omega)).trans d1, ((Keeps.of_below hW) _ _ (by omega)).trans d2, ((Keeps.of_below hW) _ _ (by omega)).trans d3⟩
                  go_wp2
                  clear hx1 d0 d1 d2 d3
                  obtain ⟨q0, q1, q2, q3, q4, q5, q6, q7, q8⟩ := G0.out _ (Below.refl _ _)
                  cases hph : instrR f x
                  all_goals
                    have HPH := hideI hph
                    clear hph
                    go_region_held3 (fun w' => w'.cell? ⟨w.heap.size, 0, none⟩ = some (.slice P f.params.length pc) ∧ w'.cell? ⟨w.heap.size, 1, none⟩ = some (.int .i64 f.arrays) ∧ w'.cell? ⟨w.heap.size, 2, none⟩ = some (.int .i64 f.cells) ∧ w'.cell? ⟨w.heap.size, 3, none⟩ = some (.slice (some ⟨b, off, none⟩) f.blocks.length c) ∧
                      w'.cell? ⟨wo.heap.size, 1, none⟩ = some (.slice (some ⟨b2, off2, none⟩) q.code.length cc) ∧ w'.cell? ⟨b2, off2 + j * 4, none⟩ = some (.int .i64 x.op) ∧ w'.cell? ⟨b2, off2 + j * 4 + 1, none⟩ = some (.int .i64 x.id) ∧ w'.cell? ⟨b2, off2 + j * 4 + 2, none⟩ = some (.slice FA x.args.length fc) ∧ w'.cell? ⟨b2, off2 + j * 4 + 3, none⟩ = some (.int .i64 x.n)) (first | go_keep | exact G0.out _ (undrew' hb4))
                      (first | (go_at_call 110; refine (refInstr_any f _ _ x FA fc _ hfl ⟨l2, l3⟩ ⟨l4, l5⟩).mono ?_; rw [HPH.out]; rintro e w4 ⟨rfl, hb4⟩))
                    have HB4 := hideI (show Below wr.heap.size wr w4 from undrew' hb4)
                    clear q0 q1 q2 q3 q4 q5 q6 q7 q8 hb4
                    go_wp2
                  · go_ret
                    exact saysB (formedR_block HQ.out (blockR_instr HPP.out HPH.out)).symm (HBAj.out.trans (HB4.out.mono (Nat.le_of_lt hszw)))
                  · go_roundw
                    case rel => exact ⟨j + 1, by omega, by go_num, all_succ hcok.out HPP.out HPH.out, HBJ.out.trans (HB4.out.mono HBJ.out.size)⟩
                    case measure => simp [intOf]; omega
                · have HCOK : Hid (q.code.all (instrR f) = true) := all_full hcok.out (by omega)
                  have hx2 := row_cells HBXj.out rfl
                  cases hph : termB f q.term
                  · have HPH := hideI hph
                    clear hph
                    go_wp2_with (go_at_call 111; refine (refEnd_any f B _ _ _ _ _ c q.term _ (HTV.out.keeps HKj.out) (Nat.le_trans hB (Nat.le_of_lt hszw)) l7).mono ?_; rw [HPH.out]; rintro e w4 ⟨rfl, hb4⟩; have HB4 := hideI hb4; clear hb4)
                    go_ret
                    exact saysB (formedR_block HQ.out (blockR_term HPH.out)).symm (HBAj.out.trans (HB4.out.mono (Nat.le_of_lt hszw)))
                  · have HPH := hideI hph
                    clear hph
                    go_wp2_with (go_at_call 111; refine (refEnd_any f B _ _ _ _ _ c q.term _ (HTV.out.keeps HKj.out) (Nat.le_trans hB (Nat.le_of_lt hszw)) l7).mono ?_; rw [HPH.out]; rintro e w4 ⟨rfl, hb4⟩; have HB4 := hideI hb4; clear hb4)
                    have HBR : Hid (blockR f q = true) := by show _ = _; unfold blockR; rw [HPOK.out, HCOK.out, HPH.out]; rfl
                    go_roundw
                    case rel => exact ⟨k + 1, by omega, by go_num, all_succ hok.out HQ.out HBR.out, (fun _ => HHD.out), HBW.out.trans (((HBO.out.trans (HBJ.out.mono (Nat.le_of_lt hszo))).trans (HB4.out.mono (Nat.le_of_lt hszj))).mono HBW.out.size)⟩
                    case measure => simp [intOf]; omega
        · have HOK : Hid (f.blocks.all (blockR f) = true) := all_full hok.out (by omega)
          have HH := hideI (hhd.out (by omega))
          go_wp2
          go_ret
          exact saysB (by unfold formedR; rw [HLIM.out, HPAR.out, HH.out, HOK.out]; rfl) HBA.out

theorem refFormed_any (f : FuncM) (B : Nat) (pv bv : Value) (w : World) (hpv : Ints w B pv f.params) (hbv : BlocksR w B bv f.blocks) (hB : B ≤ w.heap.size) :
    Calls Tryz.prog 65 #[.agg #[pv, .int .i64 f.arrays, .int .i64 f.cells, bv]] w (Says (formedR f) w) := by
  rcases limits_split f with h | ⟨h, h2⟩
  · exact refFormed_yes f B pv bv w hpv hbv hB h
  · exact refFormed_no f B pv bv w hpv hbv hB h2 h

end Go.Proofs.YtglbepdjahddmaaGreat

namespace Go.Proofs.YtglbepdjahddmaaGreat
open Go.RowKit Go.Maps

/-- what the visit keeps: the row of what was begun, and the list of what is done -/
structure RVis (w : World) (B gr n : Nat) (bg dn : List Nat) (v : Value) : Prop where
  row : w.ownsRow B 4 1 (.slice (some ⟨gr, 0, none⟩) n n) n (marks n bg)
  own : w.ownsRow B 3 1 v dn.length (natInts dn)

/-- all else is as it was -/
structure RFr (w w' : World) (gr : Nat) (v : Value) : Prop where
  os : w'.os = w.os
  tape : w'.tape = w.tape
  output : w'.output = w.output
  size : w.heap.size ≤ w'.heap.size
  block : ∀ k, k < w.heap.size → k ≠ gr → some k ≠ v.ownBlock → w'.heap[k]? = w.heap[k]?

/-- a value's block is that of the elder one, or a new one -/
def NewOr (w : World) (v v' : Value) : Prop := ∀ k, v'.ownBlock = some k → v.ownBlock = some k ∨ w.heap.size ≤ k

variable {w w1 w2 : World} {B gr n : Nat} {bg dn : List Nat} {v v1 v2 : Value}

theorem RFr.refl (w : World) (gr : Nat) (v : Value) : RFr w w gr v := ⟨rfl, rfl, rfl, Nat.le_refl _, fun _ _ _ _ => rfl⟩
theorem RFr.trans (h : RFr w w1 gr v) (hn : NewOr w v v1) (k : RFr w1 w2 gr v1) : RFr w w2 gr v :=
  ⟨k.os.trans h.os, k.tape.trans h.tape, k.output.trans h.output, Nat.le_trans h.size k.size, fun b hb h1 h2 =>
    (k.block b (Nat.lt_of_lt_of_le hb h.size) h1 (fun e => by
      rcases hn b e.symm with h3 | h3
      · exact h2 h3.symm
      · omega)).trans (h.block b hb h1 h2)⟩
theorem NewOr.refl (w : World) (v : Value) : NewOr w v v := fun _ h => .inl h
theorem NewOr.trans (hf : RFr w w1 gr v) (h : NewOr w v v1) (k : NewOr w1 v1 v2) : NewOr w v v2 := fun b hb => by
  rcases k b hb with h1 | h1
  · exact h b h1
  · exact .inr (Nat.le_trans hf.size h1)
theorem RFr.below (h : RFr w w1 gr v) (hg : B ≤ gr) (hv : ∀ k, v.ownBlock = some k → B ≤ k) (hB : B ≤ w.heap.size) : Below B w w1 :=
  ⟨h.os, h.tape, h.output, h.size, fun k hk => h.block k (by omega) (by omega) (fun e => by have := hv k e.symm; omega)⟩
theorem RFr.drew (h : RFr w.drew w1 gr v) : RFr w w1 gr v := ⟨h.os, h.tape, h.output, h.size, h.block⟩
theorem NewOr.drew (h : NewOr w.drew v v1) : NewOr w v v1 := h

theorem RVis.gr_lt (h : RVis w B gr n bg dn v) : B ≤ gr ∧ gr < w.heap.size := h.row.lt gr rfl
theorem RVis.alloc (h : RVis w B gr n bg dn v) (o : Obj) : RVis (w.alloc o) B gr n bg dn v := ⟨h.row.alloc o, h.own.alloc o⟩
theorem RVis.heap (h : RVis w B gr n bg dn v) (e : w1.heap = w.heap) : RVis w1 B gr n bg dn v := by
  refine ⟨⟨h.row.1, ?_⟩, ⟨h.own.1, ?_⟩⟩
  · rw [e]; exact h.row.2
  · rw [e]; exact h.own.2

theorem ne_block {w : World} {B gr n m : Nat} {bs xs : List Value} (hr : w.ownsRow B 4 1 (.slice (some ⟨gr, 0, none⟩) n n) n bs) (ho : w.ownsRow B 3 1 v m xs) : v.ownBlock ≠ some gr := by
  intro e
  rcases hr.2 with ⟨h, _⟩ | ⟨g, cap, cur, h, _, hg, _⟩
  · cases h
  · cases h
    rcases ho.2 with ⟨rfl, _⟩ | ⟨g2, cap2, cur2, rfl, _, hg2, _⟩
    · cases e
    · cases e
      rw [hg] at hg2
      cases hg2

theorem RVis.mark {b : Nat} (h : RVis w B gr n bg dn v) : RVis (w.setCell ⟨gr, b, none⟩ (.bool true)) B gr n (b :: bg) dn v := by
  have hs := h.row.stored b (.bool true)
  rw [marks_set] at hs
  exact ⟨hs.1, h.own.kept hs.2 (.inr (ne_block h.row h.own))⟩

theorem RFr.mark {b : Nat} {u : Value} (h : RFr w w1 gr v) : RFr w (w1.setCell ⟨gr, b, none⟩ u) gr v :=
  ⟨h.os, h.tape, h.output, by simpa using h.size, fun k hk h1 h2 => (heap_setCell_other w1 ⟨gr, b, none⟩ k u h1).trans (h.block k hk h1 h2)⟩
theorem RFr.alloc (h : RFr w w1 gr v) (o : Obj) : RFr w (w1.alloc o) gr v :=
  ⟨h.os, h.tape, h.output, by have := h.size; simp; omega, fun k hk h1 h2 => (Below.heap_alloc w1 o k (Nat.lt_of_lt_of_le hk h.size)).trans (h.block k hk h1 h2)⟩

def RVPost (bs : List BlockM) (B gr : Nat) (bg dn : List Nat) (v : Value) (b : Nat) (w : World) (e : Ending) (w' : World) : Prop :=
  ∃ bg' dn' v', e = .returned v' ∧ Visit (succM bs) (succM bs b) (b :: bg, dn) (bg', dn') ∧ RVis w' B gr bs.length bg' (dn' ++ [b]) v' ∧ RFr w w' gr v ∧ NewOr w v v'

theorem rv_push {b g1 cap1 : Nat} {o : Obj} (hV : RVis w B gr n bg dn v) (hown : w1.ownsRow B 3 1 (.slice (some ⟨g1, 0, none⟩) (dn.length + 1) cap1) (dn.length + 1) (natInts dn ++ [.int .i64 (b : Int)])) (hg : (w.alloc o).grownBy w1 v.ownBlock) (hor : v.ownBlock = some g1 ∨ g1 = (w.alloc o).heap.size) :
    RVis w1 B gr n bg (dn ++ [b]) (.slice (some ⟨g1, 0, none⟩) (dn.length + 1) cap1) ∧ RFr w w1 gr v ∧ NewOr w v (.slice (some ⟨g1, 0, none⟩) (dn.length + 1) cap1) := by
  refine ⟨⟨(hV.row.alloc o).kept hg (.inr (fun e => ne_block hV.row hV.own e.symm)), by simpa [natInts] using hown⟩, ⟨hg.os, hg.tape, hg.output, by have := hg.size; simp at this; omega, fun k hk _ h2 => ?_⟩, fun k hk => ?_⟩
  · rw [hg.block k (by simp; omega) h2, Below.heap_alloc _ _ _ hk]
  · cases hk
    rcases hor with h | h
    · exact .inl h
    · right
      rw [h]
      simp

set_option maxRecDepth 100000 in
set_option maxHeartbeats 4000000 in
theorem refVisit_any (bs : List BlockM) (B gr : Nat) (pv av cv bv : Value) (hn5 : bs.length ≤ 512) (hin : EndsIn bs) :
    ∀ (k : Nat) (bg dn : List Nat) (v : Value) (b : Nat) (w : World), bs.length ≤ bg.length + k → bg.Nodup → (∀ x ∈ bg, x < bs.length) → dn.length ≤ bg.length → b < bs.length → b ∉ bg → BlocksR w B bv bs → RVis w B gr bs.length bg dn v → B ≤ w.heap.size →
    Calls Tryz.prog 112 #[.agg #[pv, av, cv, bv], .int .i64 b, .slice (some ⟨gr, 0, none⟩) bs.length bs.length, v] w (RVPost bs B gr bg dn v b w) := by
  intro k
  induction k with
  | zero =>
    intro bg dn v b w hk hnd hlt _ hb hf
    have := fresh_len hnd hlt hb hf
    omega
  | succ k ih =>
    intro bg dn v b w hk hnd hlt hdl hb hf hbl hV hBw
    have HIH := hideI ih
    have HIN := hideI hin
    have HND := hideI hnd
    have HLT := hideI hlt
    have HF := hideI hf
    have HBL := hideI hbl
    have HVS := hideI hV
    obtain ⟨q, hq⟩ : ∃ q, bs[b]? = some q := ⟨_, List.getElem?_eq_getElem hb⟩
    obtain ⟨A, c, rfl, hbm, hbx⟩ := hbl
    obtain ⟨ab, off, pq, cq, tv, rfl, hab, x0, x1, x2, x3, x4, x5, _, _, htv, _⟩ := hbx b q hq
    have HTV := hideI htv
    have HQ := hideI hq
    have HSU : Hid (succM bs b = q.term.to.map Int.toNat) := by show _ = _; unfold succM; rw [hq]
    have hgl := hV.gr_lt
    have hmk : w.cell? ⟨gr, b, none⟩ = some (.bool false) := by
      rw [World.ownsRow.cellAt hV.row b (by omega), marks_at hb]
      simp [hf]
    have hmf : w.frozen? ⟨gr, b, none⟩ = false := World.ownsRow.frozenAt hV.row b
    have hne1 : ab ≠ gr := by omega
    have hne2 : w.heap.size ≠ gr := by omega
    obtain ⟨TA, tc, rfl, htm, _⟩ := htv
    obtain ⟨m, hm⟩ : ∃ m, m = q.term.to.length := ⟨_, rfl⟩
    have HM := hideI hm
    rw [← hm] at x4 htm
    have hab2 : ab < w.heap.size := by omega
    have hab3 : ab ≠ w.heap.size := by omega
    have HNB : Hid (∀ k, v.ownBlock = some k → k < w.heap.size) := fun k hk => (hV.own.lt k hk).2
    have HW1 := hideI ((hV.mark (b := b)).alloc (.cells #[pv, av, cv, .slice (some ⟨ab, off, none⟩) bs.length c] 25))
    have HF1 : Hid (RFr w ((w.setCell ⟨gr, b, none⟩ (.bool true)).alloc (.cells #[pv, av, cv, .slice (some ⟨ab, off, none⟩) bs.length c] 25)) gr v) := (RFr.refl w gr v).mark.alloc _
    have HBX1 : Hid (((w.setCell ⟨gr, b, none⟩ (.bool true)).alloc (.cells #[pv, av, cv, .slice (some ⟨ab, off, none⟩) bs.length c] 25)).heap[w.heap.size]? = some (.cells #[pv, av, cv, .slice (some ⟨ab, off, none⟩) bs.length c] 25 (0, 0))) := by
      have := heap_alloc_new (w.setCell ⟨gr, b, none⟩ (.bool true)) (.cells #[pv, av, cv, .slice (some ⟨ab, off, none⟩) bs.length c] 25)
      show _ = _
      simpa using this
    clear ih hin hnd hlt hf hbx hq x0 x1 x2 x3 x5 hm hV
    go_enter Tryz.func112, Tryz.ntmps112
    go_wp2
    obtain ⟨wm, hwm⟩ : ∃ wm : World, wm = (w.setCell ⟨gr, b, none⟩ (.bool true)).alloc (.cells #[pv, av, cv, .slice (some ⟨ab, off, none⟩) bs.length c] 25) := ⟨_, rfl⟩
    have hsm : w.heap.size < wm.heap.size := by rw [hwm]; simp
    rw [← hwm] at HW1 HF1 HBX1 ⊢
    clear hwm hmk hmf x4
    go_loopw [3, 10] (fun d u wr => ∃ (i : Nat) (bgi dni : List Nat) (vi : Value), i ≤ m ∧ vi = d ∧ u = .int .i64 i ∧ Hid (Visit (succM bs) ((q.term.to.map Int.toNat).take i) (b :: bg, dn) (bgi, dni)) ∧ Hid (RVis wr B gr bs.length bgi dni vi) ∧ Hid (RFr w wr gr v) ∧ Hid (NewOr w v vi) ∧ Hid (wr.heap[w.heap.size]? = some (.cells #[pv, av, cv, .slice (some ⟨ab, off, none⟩) bs.length c] 25 (0, 0)))) (fun _ u _ => m - (intOf u).toNat)
    case atStart => exact ⟨0, b :: bg, dn, v, Nat.zero_le _, rfl, rfl, by exact hideI (.nil _), HW1, HF1, hideI (NewOr.refl w v), HBX1⟩
    case round =>
      obtain ⟨i, bgi, dni, d, hi, rfl, rfl, HV, HDr, HFr, HNr, HXr⟩ := hrel
      obtain ⟨new, hdid⟩ := HV.out.did
      have hndi : bgi.Nodup := hdid.keepsNodup (List.nodup_cons.2 ⟨HF.out, HND.out⟩)
      have hleni : bgi.length = bg.length + 1 + new.length := hdid.len
      have hdni : dni.length = dn.length + new.length := by have := hdid.done; simp only at this; rw [this, List.length_append]
      have hlti : ∀ x ∈ bgi, x < bs.length := visit_range HIN.out.succ HV.out (fun x hx => HIN.out.succ b x (by rw [HSU.out]; exact List.mem_of_mem_take hx)) (fun x hx => by
        rcases List.mem_cons.1 hx with rfl | hx
        · exact hb
        · exact HLT.out x hx)
      have hlb : bg.length + 1 ≤ bgi.length := by omega
      have hdb0 : dni.length ≤ bgi.length := by omega
      have HNDI := hideI hndi
      have HLTI := hideI hlti
      have hbgl := below_len _ _ hndi hlti
      have hszr : w.heap.size < wr.heap.size := (Array.getElem?_eq_some_iff.1 HXr.out).1
      have HBr : Hid (Below B w wr) := HFr.out.below hgl.1 (fun k hk => (HVS.out.own.lt k hk).1) hBw
      clear hdid hndi hlti hleni hdni
      by_cases hlt : i < m
      · obtain ⟨t, ht⟩ : ∃ t, q.term.to[i]? = some t := ⟨_, List.getElem?_eq_getElem (by rw [HM.out] at hlt; exact hlt)⟩
        have htn := HIN.out q (List.mem_of_getElem? HQ.out) t (List.mem_of_getElem? ht)
        obtain ⟨tn, rfl⟩ : ∃ tn : Nat, t = (tn : Int) := ⟨t.toNat, by omega⟩
        have htl : tn < bs.length := by omega
        have htk : Hid ((q.term.to.map Int.toNat).take (i + 1) = (q.term.to.map Int.toNat).take i ++ [tn]) := by
          show _ = _
          rw [List.take_add_one, List.getElem?_map, ht]
          rfl
        obtain ⟨TA', tc', e0, _, hxx⟩ := HTV.out.keep HBr.out
        cases e0
        obtain ⟨tb, toff, rfl, htb, hcell⟩ := hxx i (by rw [← HM.out]; exact hlt)
        rw [ht] at hcell
        simp only [Option.getD_some] at hcell
        have hmk : wr.cell? ⟨gr, tn, none⟩ = some (.bool (decide (tn ∈ bgi))) := by rw [World.ownsRow.cellAt HDr.out.row tn (by omega), marks_at htl]
        clear hxx ht htn
        by_cases hin2 : tn ∈ bgi
        · have HIN2 := hideI hin2
          rw [show decide (tn ∈ bgi) = true from by simpa using hin2] at hmk
          clear hin2
          go_wp2
          go_roundw
          case rel => exact ⟨i + 1, bgi, dni, d, by omega, rfl, by go_num, by rw [htk.out]; exact hideI (HV.out.append (.skip HIN2.out (.nil _))), HDr, HFr, HNr, HXr⟩
          case measure => simp [intOf]; omega
        · have HIN2 := hideI hin2
          rw [show decide (tn ∈ bgi) = false from by simpa using hin2] at hmk
          clear hin2
          go_wp2
          clear hmk
          have hxr := row_cells HXr.out rfl
          have q0 := hxr 0
          have q1 := hxr 1
          have q2 := hxr 2
          have q3 := hxr 3
          clear hxr
          have G0 : Hid (∀ W, RFr wr W gr d → W.cell? ⟨w.heap.size, 0, none⟩ = some pv ∧ W.cell? ⟨w.heap.size, 1, none⟩ = some av ∧ W.cell? ⟨w.heap.size, 2, none⟩ = some cv ∧ W.cell? ⟨w.heap.size, 3, none⟩ = some (.slice (some ⟨ab, off, none⟩) bs.length c) ∧ W.cell? ⟨tb, toff + i, none⟩ = some (.int .i64 tn)) := by
            intro W hW
            have hx := row_cells HXr.out (hW.block _ hszr hne2 (own_ne' HDr.out.own HXr.out (by decide)))
            exact ⟨hx 0, hx 1, hx 2, hx 3, (World.cell?_of_block (a := ⟨tb, toff + i, none⟩) (hW.block tb (by omega) (by omega) (fun e => by have := (HDr.out.own.lt _ e.symm).1; omega))).trans hcell⟩
          go_region_held3 (fun w' => w'.cell? ⟨w.heap.size, 0, none⟩ = some pv ∧ w'.cell? ⟨w.heap.size, 1, none⟩ = some av ∧ w'.cell? ⟨w.heap.size, 2, none⟩ = some cv ∧ w'.cell? ⟨w.heap.size, 3, none⟩ = some (.slice (some ⟨ab, off, none⟩) bs.length c) ∧ w'.cell? ⟨tb, toff + i, none⟩ = some (.int .i64 tn)) (first | go_keep | exact G0.out _ (RFr.drew hfr2))
            (first | (go_at_call 112; refine (HIH.out bgi dni d tn _ (by omega) HNDI.out HLTI.out (by omega) htl HIN2.out (HBL.out.keeps (Keeps.heap' (Keeps.of_below HBr.out) (by rfl))) (HDr.out.heap (by rfl)) (by exact Nat.le_trans hBw HBr.out.size)).mono ?_; rintro e w2 ⟨bg2, dn2, v2, rfl, hv2, hd2, hfr2, hn2⟩))
          have HV2 := hideI hv2
          have HD2 := hideI hd2
          have HF2 := hideI (HFr.out.trans HNr.out hfr2.drew)
          have HN2 := hideI (NewOr.trans HFr.out HNr.out hn2.drew)
          have HX2 : Hid (w2.heap[w.heap.size]? = some (.cells #[pv, av, cv, .slice (some ⟨ab, off, none⟩) bs.length c] 25 (0, 0))) := (hfr2.drew.block _ hszr hne2 (own_ne' HDr.out.own HXr.out (by decide))).trans HXr.out
          clear hv2 hd2 hfr2 hn2 q0 q1 q2 q3 hcell
          go_wp2
          go_roundw
          case rel => exact ⟨i + 1, bg2, dn2 ++ [tn], v2, by omega, rfl, by go_num, by rw [htk.out]; exact hideI (HV.out.append (.go HIN2.out HV2.out (.nil _))), HD2, HF2, HN2, HX2⟩
          case measure => simp [intOf]; omega
      · obtain ⟨i0, hix, hz0, hz1, hz2⟩ := info_parts int_info
        have hall : (q.term.to.map Int.toNat).take i = succM bs b := by rw [HSU.out, List.take_of_length_le (by rw [List.length_map, ← HM.out]; omega)]
        rw [hall] at HV
        have hown := HDr.out.own
        clear hall
        have hBr2 : B ≤ wr.heap.size := Nat.le_trans hBw HBr.out.size
        go_wp2_with (at_builtin; go_must (refine wpList_append_lies _ rfl _ _ _ rfl B 3 i0 (.int .i64 0) 1 8 Tryz.underlying22 hix hz0 hz1 hz2 rfl (by decide) _ _ _ rfl (hown.alloc _) ⟨wr.heap.size, 0, none⟩ 1 1 [.int .i64 b] rfl rfl (one_new wr _) (by simp [Value.oneCell']) (by decide) (by simp only [maxLen]; omega) (by omega) (by simp; omega) _ rfl ?_); intro g1 cap1 w1 hown1 hgrow1 hor1 _; go_must (have HP := hideI (rv_push HDr.out hown1 hgrow1 hor1); clear hown1 hgrow1 hor1))
        go_ret
        exact ⟨bgi, dni, _, rfl, HV.out, HP.out.1, HFr.out.trans HNr.out HP.out.2.1, NewOr.trans HFr.out HNr.out HP.out.2.2⟩

end Go.Proofs.YtglbepdjahddmaaGreat

namespace Go.Proofs.YtglbepdjahddmaaGreat
open Go.RowKit Go.Maps

theorem take_rev {l : List Nat} {j k x : Nat} (hx : l[k]? = some x) (hk : k + j + 1 = l.length) : natInts (l.reverse.take (j + 1)) = natInts (l.reverse.take j) ++ [.int .i64 (x : Int)] := by
  have : l.reverse[j]? = some x := by rw [List.getElem?_reverse (by omega), ← hx]; congr 1; omega
  unfold natInts
  rw [List.take_add_one, this]
  simp

theorem rvis_new (w : World) (n : Nat) (hn : n ≤ 512) : RVis (w.alloc (.cells (madeCells #[.bool false] n) 4)) w.heap.size w.heap.size n [] [] (.slice none 0 0) := by
  refine ⟨?_, World.ownsRow_nil _ _ _ _⟩
  have h1 := marks_made n
  rw [Nat.mul_one, show (Value.bool false).cells = #[Value.bool false] from rfl] at h1
  rw [← h1]
  exact World.ownsRow_lit w _ n (Nat.le_refl _) (by unfold maxLen; omega) (by simp [madeCells])

set_option maxRecDepth 100000 in
set_option maxHeartbeats 4000000 in
theorem refOrder_any (bs : List BlockM) (B : Nat) (pv av cv bv : Value) (w : World) (hbv : BlocksR w B bv bs) (hB : B ≤ w.heap.size) (h0 : 0 < bs.length) (hn5 : bs.length ≤ 512) (hin : EndsIn bs) :
    Calls Tryz.prog 71 #[.agg #[pv, av, cv, bv]] w (OrdPost bs w) := by
  have HBL := hideI hbv
  have HIN := hideI hin
  obtain ⟨A, c, rfl, hbm, _⟩ := hbv
  obtain ⟨i0, hix, hz0, hz1, hz2⟩ := info_parts bool_info
  have hmk : ∀ W : World, (Instr.makeSlice 74 (.int .i64 (bs.length : Int)) (.int .i64 (bs.length : Int))).run Tryz.prog W = .ok (.slice (some ⟨W.heap.size, 0, none⟩) bs.length bs.length) (W.alloc (.cells (madeCells (Value.bool false).cells (bs.length * 1)) 4)) := by
    intro W
    have := run_make (P := Tryz.prog) W 74 4 i0 (.bool false) Tryz.underlying74 hix hz0 .i64 .i64 (bs.length : Int) (bs.length : Int) (by omega) (Int.le_refl _) (by rw [hz2]; omega) (by omega)
    rw [hz1] at this
    simpa using this
  obtain ⟨W0, hW0⟩ : ∃ W0 : World, W0 = w.alloc (.cells #[pv, av, cv, .slice A bs.length c] 25) := ⟨_, rfl⟩
  have hs0 : w.heap.size < W0.heap.size := by rw [hW0]; simp
  have HBX : Hid (W0.heap[w.heap.size]? = some (.cells #[pv, av, cv, .slice A bs.length c] 25 (0, 0))) := by rw [hW0]; exact heap_alloc_new w _
  have HB0 : Hid (Below w.heap.size w W0) := by rw [hW0]; exact (Below.refl _ w).alloc (Nat.le_refl _) _
  have HW0 := hideI hW0
  clear hin hW0
  go_enter Tryz.func71, Tryz.ntmps71
  go_wp2
  rw [← HW0.out]
  have hxr := row_cells HBX.out rfl
  have q0 := hxr 0
  have q1 := hxr 1
  have q2 := hxr 2
  have q3 := hxr 3
  clear hxr
  have G0 : Hid (∀ W, Below W0.heap.size W0 W → W.cell? ⟨w.heap.size, 0, none⟩ = some pv ∧ W.cell? ⟨w.heap.size, 1, none⟩ = some av ∧ W.cell? ⟨w.heap.size, 2, none⟩ = some cv ∧ W.cell? ⟨w.heap.size, 3, none⟩ = some (.slice A bs.length c)) := by
    intro W hW
    have hx := row_cells HBX.out (hW.block _ hs0)
    exact ⟨hx 0, hx 1, hx 2, hx 3⟩
  have HV0 := hideI (rvis_new W0 bs.length hn5)
  have HBW : Hid (BlocksR W0 W0.heap.size (.slice A bs.length c) bs) := (HBL.out.keeps (Keeps.of_below (HB0.out.mono hB))).more' (by omega)
  go_region_held3 (fun w' => w'.cell? ⟨w.heap.size, 0, none⟩ = some pv ∧ w'.cell? ⟨w.heap.size, 1, none⟩ = some av ∧ w'.cell? ⟨w.heap.size, 2, none⟩ = some cv ∧ w'.cell? ⟨w.heap.size, 3, none⟩ = some (.slice A bs.length c)) (first | go_keep | exact G0.out _ hfb)
    (first | (go_at_call 112; refine (refVisit_any bs W0.heap.size W0.heap.size pv av cv _ hn5 HIN.out bs.length [] [] _ 0 _ (by simp) (by simp) (by simp) (by simp) h0 (by simp) (HBW.out.keeps (by exact Keeps.heap' ((Keeps.refl W0).alloc (Nat.le_refl _) _) (by rfl))) (HV0.out.heap (by rfl)) (by simp)).mono ?_; rintro e w2 ⟨bg, dn, v2, rfl, hv, hd, hf, hn⟩; have hfb : Below W0.heap.size W0 w2 := ((Below.refl _ W0).alloc (Nat.le_refl _) _).trans (hf.drew.below (Nat.le_refl _) (fun k hk => by cases hk) (by simp))))
  obtain ⟨l, hl⟩ : ∃ l, l = dn ++ [0] := ⟨_, rfl⟩
  rw [← hl] at hd
  have HL := hideI hl
  obtain ⟨hl0, hl1⟩ := ord_len HIN.out h0 hv hl
  have HV := hideI hv
  have HOWN := hideI hd.own
  obtain ⟨g, cap, rfl, hg1, hg2⟩ := hd.own.form hl0
  have HB2 := hideI (HB0.out.trans (hfb.mono (Nat.le_of_lt hs0)))
  have hs2 := hfb.size
  have HR0 := hideI (World.ownsRow_made (base := w2.heap.size) (e := 3) (size := 1) w2 #[] 0 (Nat.le_refl _) (by decide) rfl)
  clear hv hd hf hn hl hfb hmk q0 q1 q2 q3 hix hz0 hz1 hz2
  go_wp2
  obtain ⟨i1, hjx, hy0, hy1, hy2⟩ := info_parts int_info
  go_loopw [4, 5] (fun d u wr => ∃ (j : Nat) (z : Int) (vo : Value), j ≤ l.length ∧ vo = d ∧ u = .int .i64 z ∧ Hid (z = (l.length : Int) - 1 - j) ∧ Hid (wr.ownsRow w2.heap.size 3 1 vo j (natInts (l.reverse.take j))) ∧ Hid (Below w2.heap.size w2 wr)) (fun _ u _ => (intOf u + 1).toNat)
  case atStart => exact ⟨0, (l.length : Int) - 1, _, Nat.zero_le _, rfl, rfl, hideI (by simp), HR0, hideI ((Below.refl _ _).alloc (Nat.le_refl _) _)⟩
  case round =>
    obtain ⟨j, z, vo, hj, rfl, rfl, HZ, HO, HBr⟩ := hrel
    have hsr := HBr.out.size
    by_cases hlt : j < l.length
    · obtain ⟨k, rfl⟩ : ∃ k : Nat, z = (k : Int) := ⟨z.toNat, by have := HZ.out; omega⟩
      have hkj : k + j + 1 = l.length := by have := HZ.out; omega
      have hkl : k < l.length := by omega
      obtain ⟨x, hx⟩ : ∃ x, l[k]? = some x := ⟨_, List.getElem?_eq_getElem hkl⟩
      have c1 : wr.cell? ⟨g, k, none⟩ = some (.int .i64 (x : Int)) := nat_cell (own_kept_below HOWN.out HBr.out (fun i hi => by cases hi; exact hg2)) hx
      have HT := hideI (take_rev hx hkj)
      have HZ2 : Hid ((k : Int) - 1 = (l.length : Int) - 1 - ((j + 1 : Nat) : Int)) := by show _ = _; omega
      clear hx hkj
      go_wp2_with (at_builtin; go_must (refine wpList_append_lies _ rfl _ _ _ rfl w2.heap.size 3 i1 (.int .i64 0) 1 8 Tryz.underlying22 hjx hy0 hy1 hy2 rfl (by decide) _ _ _ rfl (HO.out.alloc _) ⟨wr.heap.size, 0, none⟩ 1 1 [.int .i64 x] rfl rfl (one_new wr _) (by simp [Value.oneCell']) (by decide) (by simp only [maxLen]; omega) (by omega) (by simp; omega) _ rfl ?_); intro g1 cap1 w3 hown1 hgrow1 hor1 _; go_must (rw [← HT.out] at hown1; have HO3 := hideI hown1; have HB3 : Hid (Below w2.heap.size w2 w3) := hideI ((HBr.out.alloc hsr _).grown hgrow1 (by simp; omega) (fun b hb => (HO.out.lt b hb).1)); clear hown1 hgrow1 hor1))
      go_roundw
      case rel => exact ⟨j + 1, (k : Int) - 1, _, by omega, rfl, by rfl, HZ2, HO3, HB3⟩
      case measure => simp [intOf]
    · obtain rfl : z = -1 := by have := HZ.out; omega
      have hjl : j = l.length := by omega
      have HE : Hid (l.reverse.take j = l.reverse) := List.take_of_length_le (by rw [List.length_reverse]; omega)
      rw [HE.out] at HO
      obtain ⟨g4, cap4, rfl, _, _⟩ := HO.out.form (by omega)
      rw [hjl] at HO
      have HJ := hideI hjl
      clear hjl
      go_wp2
      go_ret
      rw [HJ.out]
      exact ord_post HIN.out h0 HV.out HL.out (by omega) HO.out (HB2.out.trans (HBr.out.mono (by omega)))

end Go.Proofs.YtglbepdjahddmaaGreat
