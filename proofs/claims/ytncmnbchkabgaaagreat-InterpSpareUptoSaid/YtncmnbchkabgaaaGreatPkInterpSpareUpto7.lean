/- What InterpSpareUpto rests on, part 7: ITakeA, IOpen, SpareB, ICatch, IRunL, GOut, GOutP. -/
import Derived.Test.YtncmnbchkabgaaaGreatPkInterpSpareUpto6
import Derived.Deep.RegionHeldLaw
import Derived.Tactics
import Derived.Tactics2
import Derived.Defers
import Derived.Recover
import Derived.Laws.Pointers

namespace Go.Proofs.YtncmnbchkabgaaaGreat
open Go.RowKit Go.Maps

/-- lists of numbers in memory -/
def ArrsR (w : World) (B : Nat) (v : Value) (xs : List (List Int)) : Prop :=
  ∃ A c, v = .slice A xs.length c ∧ xs.length ≤ 140737488351232 ∧ ∀ k l, xs[k]? = some l → ∃ b off lv, A = some ⟨b, off, none⟩ ∧ b < B ∧ w.cell? ⟨b, off + k, none⟩ = some lv ∧ Ints w B lv l ∧ ∀ A2 n2 c2, lv = .slice A2 n2 c2 → n2 ≤ c2

/-- the arrays so far -/
def arrsAt (xs : List (List Int)) (na i : Nat) : List (List Int) := (List.range na).map fun j => if j < i then (xs.getD j []).take 4096 else []

theorem arrsAt_zero (xs : List (List Int)) (na : Nat) : arrsAt xs na 0 = List.replicate na [] := by
  unfold arrsAt
  apply List.ext_getElem?
  intro k
  by_cases hk : k < na <;> simp [hk]

theorem arrsAt_len (xs : List (List Int)) (na i : Nat) : (arrsAt xs na i).length = na := by simp [arrsAt]

theorem arrsAt_next {xs : List (List Int)} {na i : Nat} {l : List Int} (hi : xs[i]? = some l) (hn : i < na) : (arrsAt xs na i).set i (l.take 4096) = arrsAt xs na (i + 1) := by
  unfold arrsAt
  apply List.ext_getElem?
  intro k
  rw [List.getElem?_set]
  by_cases e : i = k
  · subst e
    rw [if_pos rfl, if_pos (by simpa using hn), List.getElem?_map, List.getElem?_range hn]
    simp only [Option.map_some]
    rw [if_pos (by omega), List.getD_eq_getElem?_getD, hi]
    rfl
  · rw [if_neg e]
    by_cases hk : k < na
    · simp only [List.getElem?_map, List.getElem?_range hk, Option.map_some]
      congr 1
      by_cases h1 : k < i
      · rw [if_pos h1, if_pos (by omega)]
      · rw [if_neg h1, if_neg (by omega)]
    · simp [hk]

theorem arrsAt_all (f : FuncM) (I : InM) {n : Nat} (hn : n = min f.arrays.toNat I.arrs.length) : arrsAt I.arrs f.arrays.toNat n = (startS f I).arrs := by
  unfold arrsAt startS
  apply List.ext_getElem?
  intro k
  by_cases hk : k < f.arrays.toNat
  · simp only [List.getElem?_map, List.getElem?_range hk, Option.map_some]
    congr 1
    by_cases h1 : k < n
    · rw [if_pos h1]
    · rw [if_neg h1, List.getD_eq_getElem?_getD, List.getElem?_eq_none (by omega)]
      rfl
  · simp [hk]

section
variable {c : MachC} {K : Nat → Prop} {w w1 : World} {val : MVals} {s : StM}

/-- one more array is there -/
theorem MachR.takeArr (h : MachR c K w val s) {i : Nat} (hi : i < s.arrs.length) {ga ca : Nat} (hga : val .arrs = .slice (some ⟨ga, 0, none⟩) s.arrs.length ca) {v : Value} {l : List Int} (hb : Below w.heap.size w w1) (hown : w1.ownsRow 0 3 1 v l.length (l.map (Value.int .i64))) (hnew : ∀ g, v.ownBlock = some g → w.heap.size ≤ g) :
    ∃ val', val' .arrs = val .arrs ∧ MachR c K (w1.setCell ⟨ga, i, none⟩ v) val' { s with arrs := s.arrs.set i l } ∧ KF K w (w1.setCell ⟨ga, i, none⟩ v) := by
  have hra : mRow s c.nv val .arrs = some ⟨22, s.arrs.length, (List.range s.arrs.length).map fun j => val (.arr j)⟩ := rfl
  have hoa : (val .arrs).ownBlock = some ga := by rw [hga]; rfl
  have hoff := h.off .arrs _ ga hra hoa
  have hgl := h.own_lt hra hoa
  have hml := h.m_lt
  have hk : KF K w (w1.setCell ⟨ga, i, none⟩ v) := (KF.of_below hb h.low).setCell hoff.2 v
  have hrow1 : w1.ownsRow 0 22 1 (.slice (some ⟨ga, 0, none⟩) s.arrs.length ca) s.arrs.length ((List.range s.arrs.length).map fun j => val (.arr j)) := by
    rw [← hga]
    exact owns_kept (h.rows _ _ hra) fun g hg => hb.block g (h.own_lt hra hg)
  have hst := World.ownsRow.stored hrow1 i v
  refine ⟨fun t => if t = .arr i then v else val t, by simp, h.remake (.arr i) hk ?_ (fun t d ht => ?_) (fun t d g ht e => ?_), hk⟩
  · rw [Below.heap_setCell _ _ _ _ (fun e => hoff.1 e.symm), hb.block _ hml, h.blk]
    congr 2
  · have old : ∀ t' d', t' ≠ .arrs → mRow s c.nv val t' = some d' → (w1.setCell ⟨ga, i, none⟩ v).ownsRow 0 d'.elem 1 (val t') d'.len d'.cells := fun t' d' hne ht' => by
      refine owns_kept (h.rows t' d' ht') fun g hg => ?_
      rw [Below.heap_setCell _ _ _ _ (fun e => hne (h.apart t' .arrs d' _ g ht' hra hg (by rw [hoa, e])))]
      exact hb.block g (h.own_lt ht' hg)
    cases t with
    | arr j =>
      by_cases e : j = i
      · subst e
        simp only [mRow, List.getElem?_set_self hi, Option.map_some, Option.some.injEq] at ht
        subst ht
        rw [if_pos rfl]
        have hne : v.ownBlock ≠ some ga := fun e2 => by have := hnew ga e2; omega
        have e3 : intRow l = ⟨3, l.length, l.map (Value.int .i64)⟩ := rfl
        rw [e3]
        exact ownsRow_setCell_other hown hne v
      · have hne : (MTag.arr j) ≠ .arr i := fun e2 => e (by injection e2)
        rw [if_neg hne]
        refine old (.arr j) d (by simp) ?_
        simp only [mRow] at ht ⊢
        rw [List.getElem?_set_ne (fun e2 => e e2.symm)] at ht
        exact ht
    | arrs =>
      injection ht with ht
      subst ht
      rw [if_neg (by simp)]
      have e1 : ((List.range (s.arrs.set i l).length).map fun j => (if MTag.arr j = .arr i then v else val (.arr j))) = ((List.range s.arrs.length).map fun j => val (.arr j)).set i v := by
        rw [List.length_set]
        apply List.ext_getElem?
        intro k
        rw [List.getElem?_set]
        by_cases e : i = k
        · subst e
          rw [if_pos rfl, if_pos (by simpa using hi), List.getElem?_map, List.getElem?_range hi]
          simp
        · rw [if_neg e]
          by_cases hk : k < s.arrs.length
          · simp only [List.getElem?_map, List.getElem?_range hk, Option.map_some]
            rw [if_neg (fun e2 => e (by injection e2 with e2; exact e2.symm))]
          · simp [hk]
      simp only at e1 ⊢
      rw [e1, hga, List.length_set]
      exact hst.1
    | vals => exact old .vals d (by simp) ht
    | cells => exact old .cells d (by simp) ht
    | vis => exact old .vis d (by simp) ht
    | out => exact old .out d (by simp) ht
  · cases t with
    | arr j =>
      by_cases e2 : j = i
      · subst e2
        rw [if_pos rfl] at e
        exact .inr ⟨rfl, hnew g e⟩
      · have hne : (MTag.arr j) ≠ .arr i := fun e3 => e2 (by injection e3)
        rw [if_neg hne] at e
        simp only [mRow] at ht
        rw [List.getElem?_set_ne (fun e3 => e2 e3.symm)] at ht
        exact .inl ⟨hne, ⟨d, ht⟩, e⟩
    | arrs => exact .inl ⟨by simp, ⟨_, hra⟩, by simpa using e⟩
    | vals => exact .inl ⟨by simp, ⟨d, ht⟩, by simpa using e⟩
    | cells => exact .inl ⟨by simp, ⟨d, ht⟩, by simpa using e⟩
    | vis => exact .inl ⟨by simp, ⟨d, ht⟩, by simpa using e⟩
    | out => exact .inl ⟨by simp, ⟨d, ht⟩, by simpa using e⟩

set_option maxRecDepth 100000 in
set_option maxHeartbeats 4000000 in
theorem takeArrays_any (f : FuncM) (I : InM) (B : Nat) (w : World) (av : Value) (hA : ArrsR w B av I.arrs) (harr : 0 ≤ f.arrays ∧ f.arrays ≤ 8) : TakeArrs f I B w av := by
  intro c K W val s h hkeep hK hs
  obtain ⟨i0, hix, hi2⟩ : ∃ i, Tryz.prog.info? 3 = some i ∧ i.zero = some (.int .i64 0) ∧ i.size = 1 ∧ i.bytes = 8 := ⟨_, rfl, rfl, rfl, rfl⟩
  obtain ⟨hz0, hz1, hz2⟩ := hi2
  obtain ⟨A, ac, rfl, hal, hat⟩ := hA
  have H := hideI h
  have HAT := hideI hat
  have HKP := hideI hkeep
  have HK := hideI hK
  obtain ⟨na, hna⟩ : ∃ na, na = f.arrays.toNat := ⟨_, rfl⟩
  obtain ⟨nx, hnx⟩ : ∃ nx, nx = I.arrs.length := ⟨_, rfl⟩
  have hna8 : na ≤ 8 := by omega
  have hlen : s.arrs.length = na := by rw [hs, List.length_replicate, hna]
  have hrow := h.rows .arrs _ rfl
  obtain ⟨Ao, ca, hv⟩ : ∃ Ao ca, val .arrs = .slice Ao na ca := by
    rcases hrow.2 with ⟨e, e0⟩ | ⟨g, cap, cur, e, _⟩
    · exact ⟨none, 0, by rw [e]; congr 1; rw [← hlen]; exact e0.symm⟩
    · exact ⟨_, _, by rw [e, ← hlen]⟩
  have c4 := h.cells 4
  simp only [machCells] at c4
  rw [hv] at c4
  have HV := hideI hv
  rw [← hnx] at hal ⊢
  obtain ⟨n, hn⟩ : ∃ n : Nat, n = min na nx := ⟨_, rfl⟩
  have hn1 : n ≤ na := by omega
  have hn2 : n ≤ nx := by omega
  have hmin : min (na : Int) (nx : Int) = (n : Int) := by omega
  have HN := hideI hn
  have HNX := hideI hnx
  have HNA := hideI hna
  have HS := hideI hs
  clear h hat hkeep hK hrow hlen hv hs hnx hna hn
  go_enter Tryz.func55, Tryz.ntmps55
  go_wp2
  clear hmin
  go_loopw [15] (fun u wr => ∃ (i : Nat) (val2 : MVals), i ≤ n ∧ u = .int .i64 i ∧ val2 .arrs = .slice Ao na ca ∧ Hid (MachR c K wr val2 { s with arrs := arrsAt I.arrs na i }) ∧ Hid (KF K W wr)) (fun u _ => n - (intOf u).toNat)
  case atStart => exact ⟨0, val, Nat.zero_le _, rfl, HV.out, hideI (by rw [arrsAt_zero, HNA.out, ← HS.out]; exact H.out), hideI (KF.refl _)⟩
  case round =>
    obtain ⟨i, val2, hi, rfl, hv2, HMr, HFr⟩ := hrel
    have HV2 := hideI hv2
    clear hv2
    by_cases hlt : i < n
    · obtain ⟨l, hl⟩ : ∃ l, I.arrs[i]? = some l := ⟨_, List.getElem?_eq_getElem (by rw [← HNX.out]; omega)⟩
      obtain ⟨xb, xoff, lv, rfl, hxb, x0, hli, hcap⟩ := HAT.out i l hl
      have kp : Keeps B w wr := HKP.out.trans (HFr.out.keeps HK.out)
      rw [← kp _ _ hxb] at x0
      have hli2 := hli.keeps kp
      have hlen2 : ({ s with arrs := arrsAt I.arrs na i } : StM).arrs.length = na := arrsAt_len _ _ _
      have hrr : mRow { s with arrs := arrsAt I.arrs na i } c.nv val2 .arrs = some ⟨22, (arrsAt I.arrs na i).length, (List.range (arrsAt I.arrs na i).length).map fun j => val2 (.arr j)⟩ := rfl
      obtain ⟨ga, ca2, hga⟩ := HMr.out.slice hrr (by show 0 < (arrsAt I.arrs na i).length; rw [arrsAt_len]; omega)
      have hga' : val2 .arrs = .slice (some ⟨ga, 0, none⟩) na ca2 := by rw [hga, arrsAt_len]
      obtain ⟨rfl, rfl⟩ : Ao = some ⟨ga, 0, none⟩ ∧ ca = ca2 := by
        have e := HV2.out.symm.trans hga'
        injection e with e1 _ e3
        exact ⟨e1, e3⟩
      have hgc := HMr.out.cell (j := i) hrr hga (by show i < (arrsAt I.arrs na i).length; rw [arrsAt_len]; omega)
      have hgcs : ∃ u, ((List.range (arrsAt I.arrs na i).length).map fun j => val2 (.arr j))[i]? = some u := ⟨_, List.getElem?_eq_getElem (by simp [arrsAt_len]; omega)⟩
      obtain ⟨u0, hu0⟩ := hgcs
      have y0 := hgc.1.trans hu0
      have y1 := hgc.2
      have c4 := HMr.out.cells 4
      simp only [machCells] at c4
      rw [hga'] at c4
      have hgl := HMr.out.own_lt hrr (show (val2 .arrs).ownBlock = some ga by rw [hga']; rfl)
      have hgm := (HMr.out.off .arrs _ ga hrr (by rw [hga']; rfl)).1
      have hgx : ¬ ga = xb := fun e => (HMr.out.off .arrs _ ga hrr (by rw [hga']; rfl)).2 (by rw [e]; exact HK.out xb hxb)
      have hgx' : ¬ xb = ga := fun e => hgx e.symm
      have hgm' : ¬ c.m = ga := fun e => hgm e.symm
      have hml := HMr.out.m_lt
      have hxl := World.block_lt_of_cell? wr _ x0
      obtain ⟨A2, c2, rfl, hll, hlat⟩ := hli2
      have hc2 := hcap _ _ _ rfl
      obtain ⟨k, hk⟩ : ∃ k : Nat, k = min l.length 4096 := ⟨_, rfl⟩
      obtain ⟨ln, hln⟩ : ∃ ln : Nat, ln = l.length := ⟨_, rfl⟩
      rw [← hln] at x0 hc2
      have hmin : min (ln : Int) 4096 = (k : Int) := by omega
      have hkc : (k : Int) ≤ (c2 : Int) := by omega
      have hkc' : k ≤ c2 := by omega
      have htl : (l.take 4096).length = k := by rw [List.length_take, hk]; omega
      have HL := hideI hl
      have HTL := hideI htl
      have HGA := hideI hga'
      have hin : i < na := by omega
      have hix2 : i < nx := by omega
      by_cases hk0 : k = 0
      · subst hk0
        have hpure : ∀ W : World, Sem.run Tryz.prog (pure (#[] : Array Value)) W = .ok #[] W := fun _ => rfl
        clear hli hcap kp hlen2 hrr hga hgc hu0 hlat hln hk htl hl hga'
        cases A2
        all_goals
          go_wp2
          go_region_held3 (fun w' => w'.cell? ⟨c.m, 4, none⟩ = some (.slice (some ⟨ga, 0, none⟩) na ca)) (first | go_keep) (first | fail)
          go_wp2
          go_roundw
          case rel =>
            obtain ⟨val3, h31, h32, h33⟩ := HMr.out.takeArr (i := i) (l := l.take 4096) (v := .slice none 0 0) (by show i < (arrsAt I.arrs na i).length; rw [arrsAt_len]; exact hin) (by rw [HGA.out]; congr 1; exact (arrsAt_len _ _ _).symm) (Below.refl _ _)
              (by have e : l.take 4096 = [] := List.eq_nil_of_length_eq_zero HTL.out
                  rw [e]; exact World.ownsRow_nil _ _ _ _) (fun g e => by cases e)
            refine ⟨i + 1, val3, by omega, by go_num, by rw [h31, HGA.out], hideI ?_, hideI (HFr.out.trans (h33.drewN 1))⟩
            rw [← arrsAt_next HL.out hin]
            exact h32.drewN 1
          case measure => simp [intOf]; omega
      · obtain ⟨b2, off2, rfl, hb2, _⟩ := hlat 0 (by omega)
        obtain ⟨news, hnews⟩ : ∃ news, news = (l.take 4096).map (Value.int .i64) := ⟨_, rfl⟩
        have HNL : Hid (news.length = k * 1) := hideI (by rw [hnews, List.length_map, htl, Nat.mul_one])
        have HNW : Hid (∀ (W : World), Below wr.heap.size wr W → ∀ j u, news[j]? = some u → W.cell? ((⟨b2, off2, none⟩ : Addr).add j) = some u) := hideI fun W hW j u hu => by
          rw [hnews, List.getElem?_map] at hu
          cases hj : (l.take 4096)[j]? with
          | none => rw [hj] at hu; cases hu
          | some y =>
            rw [hj] at hu
            simp only [Option.map_some, Option.some.injEq] at hu
            subst hu
            rw [List.getElem?_take] at hj
            split at hj
            · obtain ⟨b3, off3, e, hb3, hc3⟩ := hlat j (List.getElem?_eq_some_iff.1 hj).1
              cases e
              rw [hj] at hc3
              rw [Go.WideShapes.add_plain]
              exact (hW.cell (p := ⟨b2, off2 + j, none⟩) (World.block_lt_of_cell? wr _ hc3)).trans hc3
            · cases hj
        have HONE : Hid (∀ u ∈ news, u.oneCell' = true) := hideI (by rw [hnews]; intro u hu; obtain ⟨y, _, rfl⟩ := List.mem_map.1 hu; rfl)
        have hkpos : 0 < k := by omega
        have hk4 : k ≤ 4096 := by omega
        have HK4 := hideI hk4
        have HKPOS := hideI hkpos
        have HNEWS := hideI hnews
        have HC4 : Hid (wr.cell? ⟨c.m, 4, none⟩ = some (.slice (some ⟨ga, 0, none⟩) na ca)) := hideI (by rw [c4]; rfl)
        have HY0 := hideI y0
        have HY1 := hideI y1
        have HGL := hideI hgl
        have HML := hideI hml
        clear hli hcap kp hlen2 hrr hga hgc hu0 hlat hln hk htl hl hga' hnews
        go_wp2
        go_region_held3 (fun w' => w'.cell? ⟨c.m, 4, none⟩ = some (.slice (some ⟨ga, 0, none⟩) na ca)) (first | go_keep | exact hc4n)
          (first
            | (refine step_append_lies _ rfl _ _ _ rfl 0 3 i0 (.int .i64 0) 1 8 Tryz.underlying22 hix hz0 hz1 hz2 rfl (by decide) (.slice none 0 0) 0 [] rfl (World.ownsRow_nil _ _ _ _) ⟨b2, off2, none⟩ k c2 news rfl HNL.out (HNW.out _ (by exact Below.drew (Below.refl _ _))) HONE.out HKPOS.out (by have := HK4.out; unfold maxLen; omega) (by have := HK4.out; omega) (Nat.zero_le _) _ rfl ?_; intro g4 cap4 w4 hown4 hg4 hat4 hlt4; have hB4 : Below wr.heap.size wr w4 := ⟨hg4.os, hg4.tape, hg4.output, hg4.size, fun b hb => hg4.block b hb (fun e => by cases e)⟩; have hgn : wr.heap.size ≤ g4 := (by rcases hat4 with e | e; cases e; rw [e]; exact Nat.le_refl _); have HB4 := hideI hB4; have HGN := hideI hgn; have HOW4 := hideI hown4; have hc4n := (hB4.cell (p := ⟨c.m, 4, none⟩) HML.out).trans HC4.out; have y0n := (hB4.cell (p := ⟨ga, i, none⟩) HGL.out).trans HY0.out; have y1n := (hB4.frozen (p := ⟨ga, i, none⟩) HGL.out).trans HY1.out; have hg4m : ¬ g4 = c.m := (fun e => by have := HML.out; omega); have hg4a : ¬ g4 = ga := (fun e => by have := HGL.out; omega); clear hg4 hat4 hown4 hB4 hgn))
        go_wp2
        go_roundw
        case rel =>
          obtain ⟨val3, h31, h32, h33⟩ := HMr.out.takeArr (w1 := w4) (i := i) (l := l.take 4096) (v := .slice (some ⟨g4, 0, none⟩) k cap4) (by show i < (arrsAt I.arrs na i).length; rw [arrsAt_len]; exact hin) (by rw [HGA.out]; congr 1; exact (arrsAt_len _ _ _).symm) HB4.out
            (by rw [HTL.out, ← HNEWS.out]; have h := HOW4.out; rw [List.nil_append, Nat.zero_add] at h; exact h) (fun g e => by injection e with e; rw [← e]; exact HGN.out)
          refine ⟨i + 1, val3, by omega, by go_num, by rw [h31, HGA.out], hideI ?_, hideI (HFr.out.trans h33)⟩
          rw [← arrsAt_next HL.out hin]
          exact h32
        case measure => simp [intOf]; omega
    · obtain rfl : i = n := by omega
      go_wp2
      go_end0
      exact ⟨rfl, val2, by rw [← arrsAt_all f I (n := i) (by rw [← HNA.out, ← HNX.out]; exact HN.out), ← HNA.out]; exact HMr.out, HFr.out⟩
end
end Go.Proofs.YtncmnbchkabgaaaGreat

namespace Go.Proofs.YtncmnbchkabgaaaGreat
open Go.ChangeShapes Go.WideShapes Go.ChangeAt Go.RowKit Go.Deep
section
variable {H : Type} {enc : TypeId × Value → H} {w : World}

theorem bytes22 : Tryz.prog.bytesOf 22 = 24 := by kernel_rfl
theorem cellsI : Tryz.prog.cellsOf 26 = 1 := by kernel_rfl
theorem cellsIn : Tryz.prog.cellsOf 28 = 2 := by kernel_rfl

theorem rd_cap {fuel : Nat} {v : Value} {x : DataW H × List MemPlace} (h : Rd enc w fuel 22 [v] x) : ∀ A n c, v = .slice A n c → n ≤ c := by
  intro A n c e
  rcases open_ints Tryz.underlying22 Tryz.underlying3 cells3 h with ⟨hv, _⟩ | ⟨a, len', cap', zs, hv, _, hl, hm, hz, _⟩
  · injection hv with hv
    subst hv
    injection e with _ e1 e2
    omega
  · injection hv with hv
    subst hv
    injection e with _ e1 e2
    simp only [if_true] at hz
    omega

theorem rd_lists {fuel : Nat} {v : Value} {x : DataW H × List MemPlace} (h : Rd enc w fuel 26 [v] x) (hs : Sz 26 x.1) : ∃ xs, ArrsR w w.heap.size v xs := by
  obtain ⟨A, n, cap, rfl, hn, hk⟩ := rd_slice Tryz.underlying26 cells22 (by rw [bytes22]; omega) (by omega) h hs
  obtain ⟨xs, hl, hps⟩ := list_choose (α := List Int) (R := fun k l => ∃ b off lv, A = some ⟨b, off, none⟩ ∧ b < w.heap.size ∧ w.cell? ⟨b, off + k, none⟩ = some lv ∧ Ints w w.heap.size lv l ∧ ∀ A2 n2 c2, lv = .slice A2 n2 c2 → n2 ≤ c2) n (fun k hlt => by
      obtain ⟨b, off, cs, f, y, hA, hb, hlen, hc, hr, hz⟩ := hk k hlt
      obtain ⟨c0, rfl⟩ : ∃ c0, cs = [c0] := by
        match cs, hlen with
        | [a], _ => exact ⟨a, rfl⟩
      obtain ⟨l, hi, _⟩ := rd_ints hr hz
      exact ⟨l, b, off, c0, hA, hb, by have := hc 0 (by omega); rw [Nat.mul_one, Nat.add_zero] at this; exact this, hi, rd_cap hr⟩)
  subst hl
  exact ⟨xs, A, cap, rfl, hn, fun k l hk => hps k l hk⟩

/-- an input that lies in memory as it was handed in -/
structure InIn (w : World) (I : InM) (av rv : Value) : Prop where
  args : Ints w w.heap.size av I.args
  arrs : ArrsR w w.heap.size rv I.arrs

set_option maxRecDepth 100000 in
/-- the argument of type Input, opened -/
theorem open_input {ts : List TypeId} {ds : List (DataW H)} {base : Nat} {v : Value} {d : DataW H} {p : List MemPlace} (hok : Value.okWide Tryz.prog w .any base 28 v) (h : DataW.Trod enc Tryz.prog w 0 (fun _ => true) true 28 v d p)
    (hsz : (DataW.weightsEach Tryz.prog ts ds).all (· ≤ reachBytes) = true) {j : Nat} (ht : ts[j]? = some 28) (hd : ds[j]? = some d) :
    ∃ (I : InM) (av rv : Value), v = .agg #[av, rv] ∧ InIn w I av rv := by
  obtain ⟨cs, rfl, _⟩ := okWide_struct Tryz.underlying28 hok
  obtain ⟨fuel, hf⟩ := h
  have hs : Sz 28 d := by
    intro n hn
    have h1 := List.all_eq_true.1 hsz n (DataW.weights_mem_each ht hd n hn)
    rw [decide_eq_true_eq] at h1
    exact h1
  have hf' : Rd enc w fuel 28 cs.toList (d, p) := hf
  obtain ⟨ys, n, _, hx, hlen, _, hg⟩ := DataW.trod_struct Tryz.underlying28 hf'
  rw [cellsIn] at hlen
  obtain ⟨l, hl⟩ : ∃ l, l = cs.toList := ⟨_, rfl⟩
  rw [← hl] at hlen hf'
  obtain ⟨c0, c1, rfl⟩ : ∃ c0 c1, l = [c0, c1] := by
    match l, hlen with
    | [a, b], _ => exact ⟨a, b, rfl⟩
  obtain ⟨n0, y0, r0, z0⟩ := rd_field1 Tryz.underlying28 hf' hs 0 rfl 22 rfl 0 rfl cells22 rfl
  obtain ⟨n1, y1, r1, z1⟩ := rd_field1 Tryz.underlying28 hf' hs 1 rfl 26 rfl 1 rfl cellsI rfl
  obtain ⟨xs, hxs, _⟩ := rd_ints r0 z0
  obtain ⟨ls, hls⟩ := rd_lists r1 z1
  refine ⟨⟨xs, ls⟩, c0, c1, ?_, hxs, hls⟩
  congr 1
  rw [← Array.toArray_toList (xs := cs), ← hl]
end
end Go.Proofs.YtncmnbchkabgaaaGreat

namespace Go.Proofs.YtncmnbchkabgaaaGreat
open Go.ChangeShapes Go.WideShapes Go.ChangeAt Go.RowKit Go.Deep
section
variable {H : Type} {enc : TypeId × Value → H} {w : World}

theorem bulk_one (d : DataW H) : 1 ≤ Rows.uptoBulk d := by
  cases d with
  | lit l => cases l <;> simp [Rows.uptoBulk]
  | nil => simp [Rows.uptoBulk]
  | ptr d => simp [Rows.uptoBulk]
  | slice elems spare => simp [Rows.uptoBulk]
  | agg parts => simp [Rows.uptoBulk]
  | iface t d => simp [Rows.uptoBulk]
  | map entries => simp [Rows.uptoBulk]
  | held h => simp [Rows.uptoBulk]
theorem bulk_part {d : DataW H} {l : List (DataW H)} (h : d ∈ l) : Rows.uptoBulk d ≤ Rows.uptoBulkAll l := by
  induction l with
  | nil => cases h
  | cons x r ih =>
    simp only [Rows.uptoBulkAll]
    cases List.mem_cons.1 h with
    | inl e => subst e; omega
    | inr e => have := ih e; omega
theorem bulk_length (l : List (DataW H)) : l.length ≤ Rows.uptoBulkAll l := by
  induction l with
  | nil => simp [Rows.uptoBulkAll]
  | cons x r ih => have := bulk_one x; simp only [Rows.uptoBulkAll, List.length_cons]; omega
theorem bulk_slice (es sp : List (DataW H)) : es.length ≤ Rows.uptoBulk (.slice es sp) := by
  have := bulk_length es
  simp only [Rows.uptoBulk]
  omega
theorem bulk_agg {ps : List (DataW H)} {d : DataW H} (h : d ∈ ps) : Rows.uptoBulk d ≤ Rows.uptoBulk (.agg ps) := by
  have := bulk_part h
  simp only [Rows.uptoBulk]
  omega

theorem bulk_list {t e : TypeId} (ht : Tryz.prog.underlying t = some (.slice e)) {fuel : Nat} {A : Option Addr} {n c : Nat} {x : DataW H × List MemPlace} (h : Rd enc w fuel t [.slice A n c] x) : n ≤ Rows.uptoBulk x.1 := by
  rcases open_slice ht h with ⟨hv, _⟩ | ⟨a, len, cap, m, k, D, Pl, hv, _, hl, hm, hmm, hx, hi⟩
  · injection hv with hv
    injection hv with _ e1 _
    omega
  · injection hv with hv
    injection hv with _ e1 _
    rw [hx, e1]
    have h2 := bulk_slice ((List.range len).map D) ((List.range (m - len)).map fun j => D (len + j))
    rw [List.length_map, List.length_range] at h2
    exact h2

theorem rd_field1B {t : TypeId} {fs : Array Field} (ht : Tryz.prog.underlying t = some (.struct fs)) {fuel : Nat} {cs : List Value} {x : DataW H × List MemPlace} (h : Rd enc w fuel t cs x) (j : Nat) {f : Field} (hf : fs[j]? = some f)
    (ft : TypeId) (h1 : f.type = ft) (off : Nat) (h2 : f.offset = off) (hc : Tryz.prog.cellsOf ft = 1) {v : Value} (hv : cs[off]? = some v) : ∃ n y, Rd enc w n ft [v] y ∧ Rows.uptoBulk y.1 ≤ Rows.uptoBulk x.1 := by
  subst h1 h2
  obtain ⟨ys, n, _, hx, _, hlen, hg⟩ := DataW.trod_struct ht h
  have h1 := hg j f hf
  have hj : j < ys.length := by rw [hlen]; exact (Array.getElem?_eq_some_iff.1 hf).1
  rw [List.getElem?_eq_getElem hj] at h1
  refine ⟨n, ys[j], ?_, ?_⟩
  · rw [hc, drop_take_one hv] at h1
    exact h1
  · rw [hx]
    exact bulk_agg (List.mem_map.2 ⟨_, List.getElem_mem hj, rfl⟩)

theorem bulk_ints {w : World} {v : Value} {xs : List Int} {B : Nat} (h : Ints w B v xs) {fuel : Nat} {x : DataW H × List MemPlace} (hr : Rd enc w fuel 22 [v] x) : xs.length ≤ Rows.uptoBulk x.1 := by
  obtain ⟨A, c, rfl, _⟩ := h
  exact bulk_list Tryz.underlying22 hr
theorem bulk_arrs {w : World} {v : Value} {xs : List (List Int)} {B : Nat} (h : ArrsR w B v xs) {fuel : Nat} {x : DataW H × List MemPlace} (hr : Rd enc w fuel 26 [v] x) : xs.length ≤ Rows.uptoBulk x.1 := by
  obtain ⟨A, c, rfl, _⟩ := h
  exact bulk_list Tryz.underlying26 hr

set_option maxRecDepth 100000 in
/-- the lists of an input are no longer than all that is read of it -/
theorem bulk_input {I : InM} {av rv : Value} {d : DataW H} {p : List MemPlace} (h : DataW.Trod enc Tryz.prog w 0 (fun _ => true) true 28 (.agg #[av, rv]) d p) (hI : InIn w I av rv) :
    I.args.length ≤ Rows.uptoBulk d ∧ I.arrs.length ≤ Rows.uptoBulk d := by
  obtain ⟨fuel, hf⟩ := h
  have hf' : Rd enc w fuel 28 [av, rv] (d, p) := hf
  obtain ⟨n0, y0, r0, z0⟩ := rd_field1B Tryz.underlying28 hf' 0 rfl 22 rfl 0 rfl cells22 rfl
  obtain ⟨n1, y1, r1, z1⟩ := rd_field1B Tryz.underlying28 hf' 1 rfl 26 rfl 1 rfl cellsI rfl
  exact ⟨Nat.le_trans (bulk_ints hI.args r0) z0, Nat.le_trans (bulk_arrs hI.arrs r1) z1⟩
theorem bulk_nums {v : Value} {xs : List Int} {B : Nat} {d : DataW H} {p : List MemPlace} (h : DataW.Trod enc Tryz.prog w 0 (fun _ => true) true 22 v d p) (hx : Ints w B v xs) : xs.length ≤ Rows.uptoBulk d := by
  obtain ⟨fuel, hf⟩ := h
  have hx' := hx
  obtain ⟨A, c, rfl, _⟩ := hx'
  exact bulk_ints hx (x := (d, p)) hf
end
end Go.Proofs.YtncmnbchkabgaaaGreat

namespace Go.Proofs.YtncmnbchkabgaaaGreat
open Go.RowKit Go.Maps

section
variable {c : MachC} {K : Nat → Prop} {w w' : World} {val : MVals} {s : StM}

/-- a region ahead of the rest, which stays behind a letter -/
theorem wpS_seq_region (l : List Nat) {P : Program} {id : Nat} {ops : Array Oper} {y : Code} {Q : Exit → Act → List Frame → World → Prop} {a : Act} {cs : List Frame} {w : World} (hl : List.range ops.size = l)
    (h : ∀ N : Exit → Act → List Frame → World → Prop, Hid (∀ a cs w, y.wpS P Q a cs w → N .normal a cs w) → wpOpsS P ops N l a cs w) : (Code.seq (Code.region id ops false) y).wpS P Q a cs w :=
  wpS_seq (wpS_region (hl ▸ h (Exit.thenS (y.wpS P Q) Q) (fun _ _ _ h => h)))

theorem wpOpsS_step {P : Program} {ops : Array Oper} {Q : Exit → Act → List Frame → World → Prop} {a : Act} {cs : List Frame} {w : World} {i : Nat} {rest : List Nat} {o : Oper} (ho : ops[i]? = some o)
    (h : ∀ K : Act → World → Prop, (∀ a w, wpOpsS P ops Q rest a cs w → K a w) → if Region.wanted o (yielded ops a.tmps) = true then Oper.wp P o a w K (fun e a' w' => Q e a' cs w') else K (a.put o.dst undef) w) : wpOpsS P ops Q (i :: rest) a cs w := by
  have h1 := h _ (fun _ _ h => h)
  simp only [wpOpsS, ho]
  split at h1
  · rename_i hw
    rw [if_pos hw]
    unfold Oper.wp at h1
    split
    · rename_i w' hr
      rw [hr] at h1
      exact (h1 : False).elim
    · exact h1
  · rename_i hw
    rw [if_neg hw]
    exact h1

theorem wpOpsS_recover {P : Program} {ops : Array Oper} {Q : Exit → Act → List Frame → World → Prop} {a : Act} {cs cs' : List Frame} {w : World} {i : Nat} {rest : List Nat} {o : Oper} {v : Value} (ho : ops[i]? = some o) (hg : o.guard = none)
    (hr : (execOp a.eval o).run P w = .ok .recover w) (hrec : recoverD cs = some (v, cs')) (h : wpOpsS P ops Q rest (a.put o.dst v) cs' w) : wpOpsS P ops Q (i :: rest) a cs w := by
  have hw : Region.wanted o (yielded ops a.tmps) = true := by simp [Region.wanted, hg]
  simp only [wpOpsS, ho]
  rw [if_pos hw, hr]
  simp only [hrec]
  exact h

theorem wpOpsS_nil {P : Program} {ops : Array Oper} {Q : Exit → Act → List Frame → World → Prop} {a : Act} {cs : List Frame} {w : World} (h : Q .normal a cs w) : wpOpsS P ops Q [] a cs w := h

theorem run_recover {P : Program} {w : World} (a : Act) (o : Oper) (ho : o.op = Op.call { callee := Callee.builtin Builtin.recover, args := #[], argTypes := #[] }) : (execOp a.eval o).run P w = .ok .recover w := by
  unfold execOp
  simp [ho, resolve, invoke, builtin]

theorem assert_ending (en : EndM) (w : World) : (Instr.typeAssert (endV en) 20 106 true).run Tryz.prog w = .ok (.tuple #[.agg #[.int .i64 en.1, .int .i64 en.2.1, .int .i64 en.2.2], .bool true]) w := by
  unfold endV
  simp [Instr.typeAssert, run_underlying Tryz.underlying106, go_sem, Result.andThen]

/-- a run that has ended: the machine's block, and the rows, as they lie -/
structure DoneAt (c : MachC) (val : MVals) (s : StM) (en : EndM) (w : World) : Prop where
  blk : ∃ o8 o9 o10 o11 o12, w.heap[c.m]? = some (.cells #[.int .i64 en.1, .int .i64 en.2.1, .int .i64 en.2.2, val .out, val .arrs, .int .i64 s.steps, .int .i64 s.checks, val .vis, o8, o9, o10, o11, o12] 66 (0, 0))
  rows : ∀ t d, mRow s c.nv val t = some d → w.ownsRow 0 d.elem 1 (val t) d.len d.cells

theorem DoneAt.drewN {c : MachC} {val : MVals} {s : StM} {en : EndM} {w : World} (h : DoneAt c val s en w) (n : Nat) : DoneAt c val s en (w.drewN n) := ⟨h.blk, h.rows⟩

theorem MachR.done (h : MachR c K w val s) (e0 e1 e2 : Int) : KF K w (((w.setCell ⟨c.m, 0, none⟩ (.int .i64 e0)).setCell ⟨c.m, 1, none⟩ (.int .i64 e1)).setCell ⟨c.m, 2, none⟩ (.int .i64 e2)) ∧
    DoneAt c val s (e0, e1, e2) (((w.setCell ⟨c.m, 0, none⟩ (.int .i64 e0)).setCell ⟨c.m, 1, none⟩ (.int .i64 e1)).setCell ⟨c.m, 2, none⟩ (.int .i64 e2)) := by
  have h0 := heap_setCell_same w c.m 0 _ _ (.int .i64 e0) h.blk
  have h1 := heap_setCell_same _ c.m 1 _ _ (.int .i64 e1) h0
  have h2 := heap_setCell_same _ c.m 2 _ _ (.int .i64 e2) h1
  refine ⟨(((KF.refl w).setCell h.offm _).setCell h.offm _).setCell h.offm _, ⟨⟨.map (some c.M), c.bv, .int .i64 c.fuel, val .vals, val .cells, h2.trans ?_⟩, fun t d ht => ?_⟩⟩
  · unfold machCells
    simp
  · have hne : (val t).ownBlock ≠ some c.m := fun e => (h.off t d _ ht e).1 rfl
    exact ownsRow_setCell_other (a := ⟨c.m, 2, none⟩) (ownsRow_setCell_other (a := ⟨c.m, 1, none⟩) (ownsRow_setCell_other (a := ⟨c.m, 0, none⟩) (h.rows t d ht) hne _) hne _) hne _

set_option maxRecDepth 100000 in
set_option maxHeartbeats 4000000 in
theorem catch_any (h : MachR c K w val s) (g : Nat) (hg : K g) (hbox : w.cell? ⟨g, 0, none⟩ = some (.pointer (some ⟨c.m, 0, none⟩))) (e0 e1 e2 : Int) (older : List PanicEntry) :
    CallsD Tryz.prog 56 #[.pointer (some ⟨g, 0, none⟩)] (.panicking ({ v := endV (e0, e1, e2), recovered := false } :: older)) w fun e u' w' =>
      e = .returned (.tuple #[]) ∧ u' = .panicking ({ v := endV (e0, e1, e2), recovered := true } :: older) ∧ KF K w w' ∧ DoneAt c val s (e0, e1, e2) w' := by
  refine callsD_of_wpS Tryz.func56 rfl fun c₀ cs hu => ?_
  simp only [Tryz.ntmps56, List.size_toArray, List.length_cons, List.length_nil, Nat.reduceAdd, Nat.reduceSub, Array.replicate_succ,
     Array.replicate_zero, List.push_toArray, List.append_toArray, List.nil_append, List.cons_append]
  have hlm := h.m_lt
  have hgl := h.low g hg
  have hcl := h.cells
  have H := hideI h
  simp only [machCells] at hcl
  clear h
  refine wpS_seq_region [0, 1, 2, 3, 4, 5, 6, 7] (by kernel_rfl) fun N hN => ?_
  have hta := assert_ending
  obtain ⟨c1, hc1⟩ : ∃ c1 : Frame, c1 = { c₀ with mode := .panicking ({ v := endV (e0, e1, e2), recovered := true } :: older) } := ⟨_, rfl⟩
  have hrec : recoverD (c₀ :: cs) = some (endV (e0, e1, e2), c1 :: cs) := by
    rw [hc1]
    simp only [recoverD, hu]
  have hta := assert_ending (e0, e1, e2)
  have HC1 := hideI hc1
  clear hu hc1
  obtain ⟨VV, hVV⟩ : ∃ VV, VV = endV (e0, e1, e2) := ⟨_, rfl⟩
  rw [← hVV] at hrec hta
  clear hVV
  apply wpOpsS_recover (cs' := c1 :: cs)
  case ho => rfl
  case hg => rfl
  case hr => exact run_recover _ _ rfl
  case hrec => exact hrec
  case h =>
    simp only [Act.put, List.setIfInBounds_toArray]
    clear hrec
    repeat (refine wpOpsS_step rfl (fun K hK => ?_); go_simp; refine hK _ _ ?_; clear hK K)
    refine wpOpsS_nil (hN.out _ _ _ ?_)
    clear hN N hta
    refine wpS_seq_region [0] (by kernel_rfl) fun N hN => ?_
    repeat (refine wpOpsS_step rfl (fun K hK => ?_); go_simp; refine hK _ _ ?_; clear hK K)
    refine wpOpsS_nil (hN.out _ _ _ ?_)
    clear hN N
    refine wpS_cond (t := true) (by simp [Act.eval]) ?_
    simp only [if_true]
    refine wpS_of_wp ?_
    obtain ⟨W0, hW0⟩ : ∃ W0, W0 = w.alloc (.cells #[.int .i64 e0, .int .i64 e1, .int .i64 e2] 106) := ⟨_, rfl⟩
    have hm0 : MachR c (fun b => K b ∨ b = w.heap.size) W0 val s := by rw [hW0]; exact H.out.add _
    have hk0 : KF K w W0 := by rw [hW0]; exact (KF.refl _).alloc H.out.low _
    have hb0 : W0.heap[w.heap.size]? = some (.cells #[.int .i64 e0, .int .i64 e1, .int .i64 e2] 106 (0, 0)) := by rw [hW0]; exact heap_alloc_new w _
    rw [← hW0]
    have hx := row_cells hb0 rfl
    have b0 := hx 0
    have b1 := hx 1
    have b2 := hx 2
    have bg : W0.cell? ⟨g, 0, none⟩ = some (.pointer (some ⟨c.m, 0, none⟩)) := (World.cell?_of_block (a := ⟨g, 0, none⟩) (hk0.block g hg)).trans hbox
    have m0 := hm0.cells 0
    have m1 := hm0.cells 1
    have m2 := hm0.cells 2
    simp only [machCells] at m0 m1 m2
    have f0 := hm0.free 0
    have f1 := hm0.free 1
    have f2 := hm0.free 2
    have z1 : ¬ c.m = g := fun e => H.out.offm (e ▸ hg)
    have z1' : ¬ g = c.m := fun e => z1 e.symm
    have z2 : ¬ c.m = w.heap.size := fun e => by omega
    have z2' : ¬ w.heap.size = c.m := fun e => z2 e.symm
    have HM0 := hideI hm0
    have HK0 := hideI hk0
    clear hx hm0 hk0 hb0 hW0 hcl hbox
    go_region_held3 (fun w' => w'.cell? ⟨g, 0, none⟩ = some (.pointer (some ⟨c.m, 0, none⟩)) ∧ w'.cell? ⟨w.heap.size, 0, none⟩ = some (.int .i64 e0) ∧ w'.cell? ⟨w.heap.size, 1, none⟩ = some (.int .i64 e1) ∧ w'.cell? ⟨w.heap.size, 2, none⟩ = some (.int .i64 e2)) (first | go_keep) (first | fail)
    obtain ⟨d1, d2⟩ := HM0.out.done e0 e1 e2
    exact ⟨rfl, _, by rw [HC1.out], _, results_none rfl _ _ _, rfl, rfl, HK0.out.trans ((d1.mono (fun b hb => .inl hb)).drewN 1), d2.drewN 1⟩
end
end Go.Proofs.YtncmnbchkabgaaaGreat

namespace Go.Proofs.YtncmnbchkabgaaaGreat
open Go.RowKit Go.Maps

section
variable {P : Program}
theorem results_same {fn : Func} (h : fn.results = #[]) (t t' : Array Value) : results fn t = results fn t' := by unfold results; simp [h]

theorem leaves_tmps {fn : Func} {t t' : Array Value} {R : Ending → World → Prop} (h : fn.results = #[]) : ∀ (ds : List Deferred) (u : FrameMode) (w : World), Leaves P fn t R ds u w → Leaves P fn t' R ds u w := by
  intro ds
  induction ds with
  | nil =>
    intro u w hl
    cases u with
    | run => exact hl
    | returning =>
      obtain ⟨v, hr, hR⟩ := hl
      exact ⟨v, by rw [results_same h t' t]; exact hr, hR⟩
    | panicking chain => exact hl
  | cons d ds ih =>
    intro u w hl
    obtain ⟨h1, fv, cap, f, args, ht, hi, hc⟩ := hl
    refine ⟨h1, fv, cap, f, args, ht, hi, hc.mono fun e u' w' hh => ?_⟩
    cases e with
    | returned v => exact ih _ _ hh
    | panicked c => exact ih _ _ hh
    | outgrown => exact hh

theorem post_frameD {fn : Func} {R : Ending → World → Prop} (h : fn.results = #[]) : ∀ c a w d v, bodyPostD P fn R (.panic c) (Act.put a d v) w → bodyPostD P fn R (.panic c) a w := by
  intro c a w d v hh
  cases d with
  | none => exact hh
  | some t => exact leaves_tmps h _ _ _ hh
end

section
variable {c : MachC} {K K1 : Nat → Prop} {w w' : World} {val : MVals} {s : StM}

/-- behind 'run' -/
def RunPost (c : MachC) (K : Nat → Prop) (I : InM) (F : Nat) (w : World) (e : Ending) (w' : World) : Prop :=
  e = .returned (.tuple #[]) ∧ ∃ val s en, EndIs c.f I F s en ∧ DoneAt c val s en w' ∧ (∀ t d g, mRow s c.nv val t = some d → (val t).ownBlock = some g → ¬ K g) ∧ KF K w w'

theorem run_end (h : MachR c K1 w' val s) (hk : KF K w w') (hK : ∀ b, K b → K1 b) {g : Nat} (hg : K1 g) (hbox : w'.cell? ⟨g, 0, none⟩ = some (.pointer (some ⟨c.m, 0, none⟩))) {I : InM} {F : Nat} {e0 e1 e2 : Int} (he : EndIs c.f I F s (e0, e1, e2)) (tmps : Array Value) :
    Leaves Tryz.prog Tryz.f31 tmps (RunPost c K I F w) [{ target := .fn (.func 56) #[.pointer (some ⟨g, 0, none⟩)], args := #[] }] (.panicking [{ v := endV (e0, e1, e2), recovered := false }]) w' := by
  refine leaves_cons (f := 56) (args := #[.pointer (some ⟨g, 0, none⟩)]) (by simp) (by kernel_rfl) ?_
  refine (catch_any h g hg hbox e0 e1 e2 []).mono ?_
  rintro e u' w2 ⟨rfl, rfl, hk2, hd⟩
  refine ⟨.tuple #[], results_none rfl _ _ _, rfl, val, s, (e0, e1, e2), he, hd, (fun t d g h1 h2 h3 => (h.off t d g h1 h2).2 (hK g h3)), hk.trans (hk2.mono hK)⟩

/-- where a run stands as a block is come to -/
structure OutSt (c : MachC) (K1 : Nat → Prop) (I : InM) (F : Nat) (W0 wr : World) (val : MVals) (s : StM) (b : Nat) (fr : Int) : Prop where
  m : MachR c K1 wr val s
  kf : KF K1 W0 wr
  fit : Fit c.f s
  phis : ∀ q, c.f.blocks[b]? = some q → ∀ p ∈ q.phis, PhiOk c.nv fr p
  reach : Reach c.f I s.steps (enterM c.f b fr s)
  le : s.steps ≤ F

/-- where a run stands within a block -/
structure InSt (c : MachC) (K1 : Nat → Prop) (I : InM) (F : Nat) (W0 wr : World) (val : MVals) (s : StM) (b k st0 : Nat) : Prop where
  m : MachR c K1 wr val s
  kf : KF K1 W0 wr
  fit : Fit c.f s
  reach : Reach c.f I s.steps ⟨s, b, k, none⟩
  le : s.steps ≤ F
  ge : st0 ≤ s.steps

theorem code_cells {B : Nat} {cv : Value} {xs : List InstrM} (h : CodeR w B cv xs) : ∃ A pc, cv = .slice A xs.length pc ∧ ∀ k x, xs[k]? = some x → ∃ b off XA xc, A = some ⟨b, off, none⟩ ∧ b < B ∧
    w.cell? ⟨b, off + k * 4, none⟩ = some (.int .i64 x.op) ∧ w.cell? ⟨b, off + k * 4 + 1, none⟩ = some (.int .i64 x.id) ∧ w.cell? ⟨b, off + k * 4 + 2, none⟩ = some (.slice XA x.args.length xc) ∧ w.cell? ⟨b, off + k * 4 + 3, none⟩ = some (.int .i64 x.n) ∧
    Ints w B (.slice XA x.args.length xc) x.args := by
  obtain ⟨A, pc, rfl, hl, hat⟩ := h
  refine ⟨A, pc, rfl, fun k x hx => ?_⟩
  obtain ⟨b, off, av, e, hb, h0, h1, h2, h3, ha, _⟩ := hat k x hx
  have ha' := ha
  obtain ⟨XA, xc, rfl, _⟩ := ha
  exact ⟨b, off, XA, xc, e, hb, h0, h1, h2, h3, ha'⟩

theorem steps_cell (h : MachR c K w val s) : w.cell? ⟨c.m, 5, none⟩ = some (.int .i64 s.steps) := h.cells 5

set_option maxRecDepth 100000 in
set_option maxHeartbeats 16000000 in
theorem run_any (h : MachR c K w val s) (I : InM) (F : Nat) (hF : c.fuel = F) (hF2 : F ≤ 200000) (hok : FOk c.f c.nv) (hfit : Fit c.f s) (hst : s = startS c.f I) :
    Calls Tryz.prog 31 #[.pointer (some ⟨c.m, 0, none⟩)] w (RunPost c K I F w) := by
  have hmf : ∀ (fn : Fn) (first cap : Array Value) (w : World), (Instr.makeFunc fn first cap).run Tryz.prog w = .ok (.func fn first cap) w := fun _ _ _ _ => rfl
  obtain ⟨W0, hW0⟩ : ∃ W0, W0 = w.alloc (.cells #[.pointer (some ⟨c.m, 0, none⟩)] 61) := ⟨_, rfl⟩
  obtain ⟨K1, hK1⟩ : ∃ K1 : Nat → Prop, K1 = fun b => K b ∨ b = w.heap.size := ⟨_, rfl⟩
  have hm0 : MachR c K1 W0 val s := by rw [hW0, hK1]; exact h.add _
  have hk0 : KF K w W0 := by rw [hW0]; exact (KF.refl _).alloc h.low _
  have hb0 : W0.heap[w.heap.size]? = some (.cells #[.pointer (some ⟨c.m, 0, none⟩)] 61 (0, 0)) := by rw [hW0]; exact heap_alloc_new w _
  have hKG : K1 w.heap.size := by rw [hK1]; exact .inr rfl
  have hKK : ∀ b, K b → K1 b := fun b hb => by rw [hK1]; exact .inl hb
  have HBX : Hid (∀ W, KF K1 W0 W → W.cell? ⟨w.heap.size, 0, none⟩ = some (.pointer (some ⟨c.m, 0, none⟩))) := hideI fun W hW => row_cells hb0 (hW.block _ hKG) 0
  have HKG := hideI hKG
  have HKK := hideI hKK
  have HK0 := hideI hk0
  have HW0 := hideI hW0
  have HOK := hideI hok
  have HF := hideI hF
  have HF2 := hideI hF2
  have HSTART : Hid (OutSt c K1 I F W0 W0 val s 0 (-1)) := hideI ⟨hm0, KF.refl _, hfit, (fun q hq p hp => by rw [hok.first.2 q hq] at hp; cases hp), (by rw [hst]; rfl), (by rw [hst]; exact Nat.zero_le _)⟩
  have h0 := hok.first.1
  have q0 := HBX.out W0 (KF.refl _)
  clear hm0 hk0 hb0 hW0 h hok hfit hst hF hF2 hKG hKK hK1
  go_enter_defers Tryz.func31, Tryz.ntmps31
  go_upto_region 1 with fail
  rw [← HW0.out]
  clear q0
  go_wp2
  go_loopw [2, 3] (fun u v wr => ∃ (b : Nat) (fr : Int) (s : StM) (val : MVals), u = .int .i64 fr ∧ v = .int .i64 b ∧ b < c.f.blocks.length ∧ Hid (OutSt c K1 I F W0 wr val s b fr) ∧ wr.cell? ⟨c.m, 5, none⟩ = some (.int .i64 s.steps)) (fun _ _ wr => F - (intOf ((wr.cell? ⟨c.m, 5, none⟩).getD (.bool false))).toNat)
  case atStart => exact ⟨0, -1, s, val, rfl, rfl, h0, HSTART, steps_cell HSTART.out.m⟩
  case round =>
    obtain ⟨b, fr, s, val, rfl, rfl, hb, HO, h5⟩ := hrel
    obtain ⟨q, hq⟩ : ∃ q, c.f.blocks[b]? = some q := ⟨_, List.getElem?_eq_getElem hb⟩
    have HQ := hideI hq
    have HC := hideI (arrive_any HO.out.m b fr q hq (by rw [HO.out.fit.vis]; exact hb) (HO.out.phis q hq) (HOK.out.phis b q hq))
    have H5 := hideI h5
    have g0 := HBX.out wr HO.out.kf
    obtain ⟨A, cc, hbv, _, hbat⟩ := HSTART.out.m.blks
    obtain ⟨bb, boff, pv, cv, tv, rfl, hbb, _, d1, d2, d3, d4, d5, _, hcode, htv, _⟩ := hbat b q hq
    obtain ⟨CA, cc2, rfl, hcat⟩ := code_cells hcode
    have HCAT := hideI hcat
    have HBV := hideI hbv
    have HTV := hideI htv
    obtain ⟨nc, hnc⟩ : ∃ nc, nc = q.code.length := ⟨_, rfl⟩
    obtain ⟨nb, hnb⟩ : ∃ nb, nb = c.f.blocks.length := ⟨_, rfl⟩
    rw [← hnc] at d1
    rw [← hnb] at HBV hb
    have HNC := hideI hnc
    have HNB := hideI hnb
    have HCELL : Hid (∀ W, KF K1 W0 W → MachR c K1 W val s → True) := hideI fun _ _ _ => trivial
    have HBC : Hid (∀ W, KF K1 W0 W → W.cell? ⟨bb, boff + b * 6 + 1, none⟩ = some (.slice CA nc cc2) ∧ W.cell? ⟨bb, boff + b * 6 + 2, none⟩ = some (.int .i64 q.term.op) ∧ W.cell? ⟨bb, boff + b * 6 + 3, none⟩ = some (.int .i64 q.term.val) ∧ W.cell? ⟨bb, boff + b * 6 + 4, none⟩ = some tv ∧ W.cell? ⟨bb, boff + b * 6 + 5, none⟩ = some (.int .i64 q.term.n)) := hideI fun W hW => by
      have hk : Keeps c.B W0 W := hW.keeps HSTART.out.m.kB
      rw [hk _ _ hbb, hk _ _ hbb, hk _ _ hbb, hk _ _ hbb, hk _ _ hbb]
      exact ⟨d1, d2, d3, d4, d5⟩
    have hnc4 : nc ≤ 4096 := by rw [hnc]; exact HOK.out.codes b q hq
    clear hq h5 hbat hbv hcode hcat d1 d2 d3 d4 d5 htv hnc hnb HCELL
    go_upto_region 4 with (first | (go_at_call 57; refine HC.out.mono ?_; rintro e w1 ⟨rfl, hm1, hf1⟩))
    have HI : Hid (InSt c K1 I F W0 w1 val (arriveM c.f b fr s) b 0 s.steps) := hideI ⟨hm1, HO.out.kf.trans hf1, HO.out.fit.arrive b fr, HO.out.reach, HO.out.le, Nat.le_refl _⟩
    clear g0 hm1 hf1
    have g0 := HBX.out w1 HI.out.kf
    have c9 := HI.out.m.cells 9
    simp only [machCells] at c9
    rw [HBV.out] at c9
    have e1 := (HBC.out w1 HI.out.kf).1
    obtain ⟨st0, hst0⟩ : ∃ st0, st0 = s.steps := ⟨_, rfl⟩
    rw [← hst0] at HI
    have HST0 := hideI hst0
    clear hst0
    go_wp2
    clear g0 c9 e1
    obtain ⟨wo, rfl⟩ : ∃ wo : World, wo = wr := ⟨_, rfl⟩
    go_loopw [20] (fun u wr => ∃ (k : Nat) (s : StM) (val : MVals), k ≤ nc ∧ u = .int .i64 k ∧ Hid (InSt c K1 I F W0 wr val s b k st0)) (fun u _ => nc - (intOf u).toNat)
    case atStart => exact ⟨0, _, _, Nat.zero_le _, rfl, HI⟩
    case round =>
      obtain ⟨k, s2, val2, hk, rfl, HJ⟩ := hrel
      have g0 := HBX.out wr HJ.out.kf
      by_cases hlt : k < nc
      · obtain ⟨x, hx⟩ : ∃ x, q.code[k]? = some x := ⟨_, List.getElem?_eq_getElem (by rw [← HNC.out]; exact hlt)⟩
        obtain ⟨xb, xoff, XA, xc, rfl, hxb, e0, e1, e2, e3, hxa⟩ := HCAT.out k x hx
        have kp : Keeps c.B W0 wr := HJ.out.kf.keeps HSTART.out.m.kB
        rw [← kp _ _ hxb] at e0 e1 e2 e3
        have hxl := World.block_lt_of_cell? wr _ e0
        obtain ⟨W2, hW2⟩ : ∃ W2, W2 = wr.alloc (.cells #[.int .i64 x.op, .int .i64 x.id, .slice XA x.args.length xc, .int .i64 x.n] 59) := ⟨_, rfl⟩
        have hm2 : MachR c (fun b => K1 b ∨ b = wr.heap.size) W2 val2 s2 := by rw [hW2]; exact HJ.out.m.add _
        have hk2 : KF K1 wr W2 := by rw [hW2]; exact (KF.refl _).alloc HJ.out.m.low _
        have hb2 : W2.heap[wr.heap.size]? = some (.cells #[.int .i64 x.op, .int .i64 x.id, .slice XA x.args.length xc, .int .i64 x.n] 59 (0, 0)) := by rw [hW2]; exact heap_alloc_new wr _
        have HXA : Hid (Ints W0 c.B (.slice XA x.args.length xc) x.args) := hideI hxa
        have HX := hideI hx
        have HM2 := hideI hm2
        have HK2 := hideI (HJ.out.kf.trans hk2)
        have HB2 := hideI hb2
        have HXOK := hideI (HOK.out.code b q HQ.out x (List.mem_of_getElem? hx))
        obtain ⟨na, hna⟩ : ∃ na, na = x.args.length := ⟨_, rfl⟩
        rw [← hna] at e2 hW2 HB2
        have HNA := hideI hna
        have HW2 := hideI hW2
        have g2 := HBX.out W2 HK2.out
        clear hx hm2 hk2 hb2 hxa hna hW2 kp hxb
        by_cases hstop : (s2.steps : Int) = c.fuel
        · have HS := hideI (step_stop HM2.out hstop)
          have HEND : Hid (EndIs c.f I F s2 (3, 0, 0)) := hideI (by
            have e : s2.steps = F := by have := HF.out; omega
            have h1 := HJ.out.reach
            rw [e] at h1
            exact h1.stop)
          clear hstop
          go_upto_region 7 with fail
          rw [← HW2.out]
          go_wp2_with (first | (go_at_call 58; refine HS.out.mono ?_; rintro e w3 ⟨he, hm1, hf1⟩; simp only [endE, endV] at he; subst he))
          exact run_end hm1 (HK0.out.trans ((HK2.out.mono HKK.out).trans (hf1.mono (fun b hb => .inl (HKK.out b hb))))) (fun b hb => .inl (HKK.out b hb)) (.inl HKG.out) (HBX.out _ (HK2.out.trans (hf1.mono (fun b hb => .inl hb)))) HEND.out _
        · have hlt2 : s2.steps < F := by have := HF.out; have := HJ.out.le; omega
          have HS := hideI (step_go HM2.out hstop (by have := HF2.out; omega))
          have HR := hideI (HJ.out.reach.code HQ.out HX.out)
          have HFI := hideI (HJ.out.fit.tick)
          have HLT2 := hideI hlt2
          clear hstop hlt2
          have HDO : Hid (∀ W, MachR c (fun b => K1 b ∨ b = wr.heap.size) W val2 (tickM s2) → KF K1 W0 W → Calls Tryz.prog 59 #[.pointer (some ⟨c.m, 0, none⟩), .agg #[.int .i64 x.op, .int .i64 x.id, .slice XA na xc, .int .i64 x.n]] W (DoPost c (fun b => K1 b ∨ b = wr.heap.size) W (doM x (tickM s2)))) := hideI fun W h1 h2 => by
            have h3 := do_any h1 x (.slice XA x.args.length xc) (HXOK.out.instr HFI.out) (HXA.out.keeps (h2.keeps HSTART.out.m.kB)) HXOK.out.few HFI.out.out
            unfold boxI at h3
            rw [← HNA.out] at h3
            exact h3
          have HBC2 : Hid (∀ W, KF (fun b => K1 b ∨ b = wr.heap.size) W2 W → W.cell? ⟨wr.heap.size, 0, none⟩ = some (.int .i64 x.op) ∧ W.cell? ⟨wr.heap.size, 1, none⟩ = some (.int .i64 x.id) ∧ W.cell? ⟨wr.heap.size, 2, none⟩ = some (.slice XA na xc) ∧ W.cell? ⟨wr.heap.size, 3, none⟩ = some (.int .i64 x.n)) := hideI fun W hW => by
            have hx := row_cells HB2.out (hW.block _ (.inr rfl))
            exact ⟨hx 0, hx 1, hx 2, hx 3⟩
          cases hd : (doM x (tickM s2)).2 with
          | none =>
            have HFD := hideI (HFI.out.done x)
            have HST := hideI (doM_steps x (tickM s2))
            rw [hd] at HR
            have HD := hideI hd
            clear hd
            go_upto_region 7 with fail
            rw [← HW2.out]
            go_wp2_with (first
              | (go_at_call 58; refine HS.out.mono ?_; rintro e w3 ⟨rfl, hm1, hf1⟩; have HM3 := hideI hm1; have HF3 := hideI hf1; clear hm1 hf1 e0 e1 e2 e3 g0 g2; have g3 := HBX.out _ (HK2.out.trans (HF3.out.mono (fun b hb => .inl hb))); obtain ⟨i0, i1, i2, i3⟩ := HBC2.out _ HF3.out)
              | (go_at_call 59; refine (HDO.out _ HM3.out (HK2.out.trans (HF3.out.mono (fun b hb => .inl hb)))).mono ?_; rintro e w4 ⟨he, ⟨val4, hm4⟩, hf4⟩; rw [HD.out] at he; subst he; have HM4 := hideI hm4; have HF4 := hideI hf4; clear hm4 hf4 g3 i0 i1 i2 i3))
            go_roundw
            case rel => exact ⟨k + 1, _, val4, by omega, by go_num, hideI ⟨HM4.out.less (fun b hb => .inl hb) HSTART.out.m.kB HSTART.out.m.kM, HK2.out.trans ((HF3.out.trans HF4.out).mono (fun b hb => .inl hb)), HFD.out, by rw [HST.out]; exact HR.out, by rw [HST.out]; exact HLT2.out, by rw [HST.out]; exact Nat.le_succ_of_le HJ.out.ge⟩⟩
            case measure => simp [intOf]; omega
          | some en =>
            rw [hd] at HR
            obtain ⟨e0', e1', e2'⟩ := en
            have HEND : Hid (EndIs c.f I F (doM x (tickM s2)).1 (e0', e1', e2')) := hideI (HR.out.fin HLT2.out)
            have HD := hideI hd
            clear hd
            go_upto_region 7 with fail
            rw [← HW2.out]
            go_wp2_with (first
              | (go_at_call 58; refine HS.out.mono ?_; rintro e w3 ⟨rfl, hm1, hf1⟩; have HM3 := hideI hm1; have HF3 := hideI hf1; clear hm1 hf1 e0 e1 e2 e3 g0 g2; have g3 := HBX.out _ (HK2.out.trans (HF3.out.mono (fun b hb => .inl hb))); obtain ⟨i0, i1, i2, i3⟩ := HBC2.out _ HF3.out)
              | (go_at_call 59; refine (HDO.out _ HM3.out (HK2.out.trans (HF3.out.mono (fun b hb => .inl hb)))).mono ?_; rintro e w4 ⟨he, ⟨val4, hm4⟩, hf4⟩; rw [HD.out] at he; simp only [endE, endV] at he; subst he; have HM4 := hideI hm4; have HF4 := hideI hf4; clear hm4 hf4 g3 i0 i1 i2 i3))
            have hkf := HK2.out.trans ((HF3.out.trans HF4.out).mono (fun b hb => .inl hb))
            exact run_end HM4.out (HK0.out.trans (hkf.mono HKK.out)) (fun b hb => .inl (HKK.out b hb)) (.inl HKG.out) (HBX.out _ hkf) HEND.out _
      · have hkn : k = nc := by omega
        subst hkn
        have HTOK := hideI (HOK.out.term b q HQ.out)
        by_cases hstop : (s2.steps : Int) = c.fuel
        · have HS := hideI (step_stop HJ.out.m hstop)
          have HEND : Hid (EndIs c.f I F s2 (3, 0, 0)) := hideI (by
            have e : s2.steps = F := by have := HF.out; omega
            have h1 := HJ.out.reach
            rw [e] at h1
            exact h1.stop)
          clear hstop
          go_wp2_with (first | (go_at_call 58; refine HS.out.mono ?_; rintro e w3 ⟨he, hm1, hf1⟩; simp only [endE, endV] at he; subst he))
          exact run_end hm1 (HK0.out.trans ((HJ.out.kf.trans hf1).mono HKK.out)) HKK.out HKG.out (HBX.out _ (HJ.out.kf.trans hf1)) HEND.out _
        · have hlt2 : s2.steps < F := by have := HF.out; have := HJ.out.le; omega
          have HS := hideI (step_go HJ.out.m hstop (by have := HF2.out; omega))
          have HR := hideI (HJ.out.reach.leave HQ.out (by rw [← HNC.out]; exact Nat.le_refl _))
          have HFI := hideI (HJ.out.fit.tick)
          have HLT2 := hideI hlt2
          clear hstop hlt2
          have HNX : Hid (∀ W, MachR c K1 W val2 (tickM s2) → KF K1 W0 W → Calls Tryz.prog 60 #[.pointer (some ⟨c.m, 0, none⟩), .agg #[.int .i64 q.term.op, .int .i64 q.term.val, tv, .int .i64 q.term.n]] W (NextPost c K1 W val2 (tickM s2) q.term)) := hideI fun W h1 h2 =>
            next_any h1 q.term tv HTOK.out (HTV.out.keeps (h2.keeps HSTART.out.m.kB))
          go_upto_region 11 with (first
              | (go_at_call 58; refine HS.out.mono ?_; rintro e w3 ⟨rfl, hm1, hf1⟩; have HM3 := hideI hm1; have HF3 := hideI (HJ.out.kf.trans hf1); clear hm1 hf1 g0))
          have g3 := HBX.out w3 HF3.out
          have c9 := HM3.out.cells 9
          simp only [machCells] at c9
          rw [HBV.out] at c9
          obtain ⟨_, i2, i3, i4, i5⟩ := HBC.out w3 HF3.out
          have hbl := World.block_lt_of_cell? w3 _ i2
          have hgl := World.block_lt_of_cell? w3 _ g3
          have hml := HM3.out.m_lt
          cases hn : nextR q.term (tickM s2) with
          | inr en =>
            rw [leave_fin HQ.out hn] at HR
            obtain ⟨e0', e1', e2'⟩ := en
            have HEND : Hid (EndIs c.f I F (tickM s2) (e0', e1', e2')) := hideI (HR.out.fin HLT2.out)
            have HN := hideI hn
            clear hn
            refine wp_region_panics 10 (by kernel_rfl) rfl (by kernel_rfl) (by kernel_rfl) (fun c a w d v h => post_frameD rfl c a w d v h) ?_
            simp only [List.take_succ_cons, List.take_zero, List.getElem_toArray, List.getElem_cons_succ, List.getElem_cons_zero]
            repeat (refine wpPure_step (fun K hK => ?_); go_simp; refine hK _ ?_; clear hK K)
            refine wpPure_nil ?_
            rintro w' ⟨n, rfl⟩ K'
            go_simp
            refine (HNX.out _ (HM3.out.drewN n) (HF3.out.drewN n)).mono ?_
            rintro e w4 ⟨he, hm4, hf4⟩
            rw [HN.out] at he
            simp only [endE, endV] at he
            subst he
            have hkf := HF3.out.trans hf4.undrew
            exact run_end hm4 (HK0.out.trans (hkf.mono HKK.out)) HKK.out HKG.out (HBX.out _ hkf) HEND.out _
          | inl t =>
            obtain ⟨hlv, hmem⟩ := leave_go (k := k) HQ.out hn HTOK.out
            obtain ⟨t', rfl, htl, hphi⟩ := HOK.out.goes b q HQ.out t hmem
            rw [hlv] at HR
            have HN := hideI hn
            have HPH := hideI hphi
            rw [← HNB.out] at htl
            have HSS : Hid (∀ W, MachR c K1 W val2 (tickM s2) → KF K1 W0 W → W.cell? ⟨w.heap.size, 0, none⟩ = some (.pointer (some ⟨c.m, 0, none⟩)) ∧ W.cell? ⟨c.m, 9, none⟩ = some (.slice (some ⟨bb, boff, none⟩) nb cc) ∧ W.cell? ⟨bb, boff + b * 6 + 2, none⟩ = some (.int .i64 q.term.op) ∧ W.cell? ⟨bb, boff + b * 6 + 3, none⟩ = some (.int .i64 q.term.val) ∧ W.cell? ⟨bb, boff + b * 6 + 4, none⟩ = some tv ∧ W.cell? ⟨bb, boff + b * 6 + 5, none⟩ = some (.int .i64 q.term.n)) := hideI fun W h1 h2 =>
              ⟨HBX.out W h2, (h1.cells 9).trans (by simp [machCells, HBV.out, HNB.out]), (HBC.out W h2).2⟩
            clear hlv hmem hn hphi
            go_region_held3 (fun w' => w'.cell? ⟨w.heap.size, 0, none⟩ = some (.pointer (some ⟨c.m, 0, none⟩)) ∧ w'.cell? ⟨c.m, 9, none⟩ = some (.slice (some ⟨bb, boff, none⟩) nb cc) ∧ w'.cell? ⟨bb, boff + b * 6 + 2, none⟩ = some (.int .i64 q.term.op) ∧ w'.cell? ⟨bb, boff + b * 6 + 3, none⟩ = some (.int .i64 q.term.val) ∧ w'.cell? ⟨bb, boff + b * 6 + 4, none⟩ = some tv ∧ w'.cell? ⟨bb, boff + b * 6 + 5, none⟩ = some (.int .i64 q.term.n)) (first | exact HSS.out _ HM4.out HF4.out | go_keep)
              (first | (go_at_call 60; refine (HNX.out _ (HM3.out.drewN 1) (HF3.out.drewN 1)).mono ?_; rintro e w4 ⟨he, hm4, hf4⟩; rw [HN.out] at he; obtain rfl : e = .returned (.int .i64 (t' : Int)) := he; have HM4 := hideI hm4; have HF4 := hideI (HF3.out.trans hf4.undrew); clear hm4 hf4))
            clear g3 c9 i2 i3 i4 i5
            go_wp2
            go_roundw
            case rel => exact ⟨t', b, tickM s2, val2, rfl, rfl, by rw [← HNB.out]; exact htl, hideI ⟨HM4.out, HF4.out, HFI.out, HPH.out, by rw [Int.toNat_natCast] at HR; exact HR.out, HLT2.out⟩, steps_cell HM4.out⟩
            case measure =>
              rw [H5.out, steps_cell HM4.out]
              have h1 := HJ.out.ge
              have h2 := HST0.out
              have h3 := HLT2.out
              have h4 : (tickM s2).steps = s2.steps + 1 := rfl
              simp only [Option.getD_some, intOf, Int.toNat_natCast]
              omega
end
end Go.Proofs.YtncmnbchkabgaaaGreat

namespace Go.Proofs.YtncmnbchkabgaaaGreat
open Go.RowKit Go.Maps

def GOrderPost (f : FuncM) (w : World) (e : Ending) (w' : World) : Prop :=
  ((lookM f).1 ≠ 0 ∧ e = .returned (.tuple #[.slice none 0 0, .int .i64 (lookM f).1]) ∧ Below w.heap.size w w') ∨
  ((lookM f).1 = 0 ∧ ∃ (o : List Nat) (g cap : Nat), e = .returned (.tuple #[.slice (some ⟨g, 0, none⟩) o.length cap, .int .i64 0]) ∧ OrderIs f.blocks o ∧ 0 < o.length ∧ o.length ≤ f.blocks.length ∧ w'.ownsRow w.heap.size 3 1 (.slice (some ⟨g, 0, none⟩) o.length cap) o.length (natInts o) ∧ Below w.heap.size w w')

set_option maxRecDepth 100000 in
set_option maxHeartbeats 1000000 in
theorem gOrder_any (f : FuncM) (B : Nat) (pv bv : Value) (w : World) (hpv : Ints w B pv f.params) (hbv : BlocksR w B bv f.blocks) (hB : B ≤ w.heap.size) (hid : ∀ u ∈ usesM f, I64 u.1) :
    Calls Tryz.prog 61 #[.agg #[pv, .int .i64 f.arrays, .int .i64 f.cells, bv]] w (GOrderPost f w) := by
  have HP := hideI hpv
  have HBL := hideI hbv
  have HID := hideI hid
  obtain ⟨P, pc, rfl, _⟩ := hpv
  obtain ⟨A, c, rfl, hbm, _⟩ := hbv
  have HX := hideI (heap_alloc_new w (.cells #[.slice P f.params.length pc, .int .i64 f.arrays, .int .i64 f.cells, .slice A f.blocks.length c] 25))
  have HK : Hid (Keeps B w (w.alloc (.cells #[.slice P f.params.length pc, .int .i64 f.arrays, .int .i64 f.cells, .slice A f.blocks.length c] 25))) := (Keeps.refl w).alloc hB _
  have HB0 : Hid (Below w.heap.size w (w.alloc (.cells #[.slice P f.params.length pc, .int .i64 f.arrays, .int .i64 f.cells, .slice A f.blocks.length c] 25))) := (Below.refl _ w).alloc (Nat.le_refl _) _
  clear hid
  by_cases h0 : (lookM f).1 = 0
  · have H0 := hideI h0
    have hnb := look_some_block h0
    clear h0
    go_enter Tryz.func61, Tryz.ntmps61
    go_wp2_with (first
      | (go_at_call 72; go_must (refine (check_any f B _ _ _ (HP.out.keeps HK.out) (HBL.out.keeps HK.out) (by simp; omega) HID.out).mono ?_); rw [H0.out]; rintro e w1 ⟨rfl, hb⟩; have HB1 := hideI (HB0.out.trans (hb.mono (by simp))); have hxx := row_cells ((hb.block _ (lt_of_heap HX.out)).trans HX.out) rfl; have q0 := hxx 0; have q1 := hxx 1; have q2 := hxx 2; have q3 := hxx 3; have hl1 : w.heap.size < w1.heap.size := (by have := hb.size; simp at this; omega); clear hb hxx)
      | (go_at_call 112; go_must (refine (order_any f.blocks w.heap.size _ _ _ _ _ ((HBL.out.more' hB).keeps (Keeps.of_below HB1.out)) (by omega) hnb.1 hnb.2 (look_ends H0.out)).mono ?_); rintro e w2 ⟨o, g, cap, rfl, ho, ho0, ho1, hown, hb2⟩; have HO := hideI ho; have HW := hideI hown; have HB2 := hideI hb2; clear ho hown hb2))
    go_ret2
    exact .inr ⟨H0.out, o, g, cap, rfl, HO.out, ho0, ho1, World.ownsRow.mono HW.out (by omega), HB1.out.trans (HB2.out.mono (by omega))⟩
  · have H0 := hideI h0
    have hb : ((lookM f).1 != 0) = true := by simpa using h0
    clear h0
    go_enter Tryz.func61, Tryz.ntmps61
    go_wp2_with (first
      | (go_at_call 72; go_must (refine (check_any f B _ _ _ (HP.out.keeps HK.out) (HBL.out.keeps HK.out) (by simp; omega) HID.out).mono ?_); rintro e w1 ⟨rfl, hb1⟩; have HB1 := hideI (HB0.out.trans (hb1.mono (by simp))); clear hb1))
    go_ret2
    exact .inl ⟨H0.out, rfl, HB1.out⟩

end Go.Proofs.YtncmnbchkabgaaaGreat

namespace Go.Proofs.YtncmnbchkabgaaaGreat
open Go.RowKit Go.Maps

def PredsPost (bs : List BlockM) (w : World) (e : Ending) (w' : World) : Prop :=
  ∃ (g : Nat) (vs : List Value), e = .returned (.slice (some ⟨g, 0, none⟩) bs.length bs.length) ∧ Lists w' w.heap.size g bs.length vs (predsAt bs bs.length bs.length 0) ∧ Below w.heap.size w w'

set_option maxRecDepth 100000 in
set_option maxHeartbeats 4000000 in
theorem preds_any (bs : List BlockM) (B : Nat) (pv av cv bv : Value) (w : World) (hbv : BlocksR w B bv bs) (hB : B ≤ w.heap.size) (hn5 : bs.length ≤ 512) (hin : EndsIn bs) :
    Calls Tryz.prog 113 #[.agg #[pv, av, cv, bv]] w (PredsPost bs w) := by
  have HBL := hideI hbv
  have HIN := hideI hin
  obtain ⟨A, c, rfl, hbm, _⟩ := hbv
  obtain ⟨i0, hix, hz0, hz1, hz2⟩ := info_parts ints_info
  clear hin
  go_enter Tryz.func113, Tryz.ntmps113
  go_wp2_with (first
    | (at_make; go_must (refine wpList_make_full _ rfl _ _ 26 rfl (w.heap.size + 1) 22 i0 (.slice none 0 0) 1 Tryz.underlying26 hix hz0 hz1 .i64 .i64 _ _ bs.length rfl rfl rfl rfl (by rw [hz2]; omega) (by unfold maxLen; omega) (by simp) ?_); intro w1 hown1 hg1; rw [World.size_alloc] at hown1; go_must (have HL1 := hideI (Lists.made hown1); have hgb := row_cells ((hg1.block w.heap.size (by simp) (by simp)).trans (heap_alloc_new w _)) rfl; have HGB := hideI ((hg1.block w.heap.size (by simp) (by simp)).trans (heap_alloc_new w _)); have HB0 : Hid (Below w.heap.size w w1) := ((Below.refl _ _).alloc (Nat.le_refl _) _).grown hg1 (by simp) (by simp); clear hown1 hg1; have g3 := hgb 3; clear hgb)))
  clear hix hz0 hz1 hz2
  rw [← predsAt_zero bs bs.length] at HL1
  clear g3
  go_loopw [16] (fun u wr => ∃ (k : Nat) (vs : List Value), k ≤ bs.length ∧ u = .int .i64 k ∧ Hid (Lists wr (w.heap.size + 1) (w.heap.size + 1) bs.length vs (predsAt bs bs.length k 0)) ∧ Hid (Below w.heap.size w wr) ∧ Hid (Below (w.heap.size + 1) w1 wr)) (fun u _ => bs.length - (intOf u).toNat)
  case atStart => exact ⟨0, _, Nat.zero_le _, rfl, HL1, HB0, hideI (Below.refl _ _)⟩
  case round =>
    obtain ⟨k, vs, hk, rfl, HL, HBr, HBo⟩ := hrel
    have hgl := HBo.out
    by_cases hlt : k < bs.length
    · obtain ⟨q, hq⟩ : ∃ q, bs[k]? = some q := ⟨_, List.getElem?_eq_getElem hlt⟩
      obtain ⟨A', c', e0, _, hbx⟩ := (HBL.out.more' hB).keeps (Keeps.of_below HBr.out)
      cases e0
      obtain ⟨ab, off, pq, cq, tv, rfl, hab, x0, x1, x2, x3, x4, x5, _, _, htv, _⟩ := hbx k q hq
      have HTV := hideI htv
      have HQ := hideI hq
      have HSU : Hid (succM bs k = q.term.to.map Int.toNat) := by show _ = _; unfold succM; rw [hq]
      obtain ⟨TA, tc, rfl, htm, _⟩ := htv
      obtain ⟨m, hm⟩ : ∃ m, m = q.term.to.length := ⟨_, rfl⟩
      have HM := hideI hm
      rw [← hm] at x4 htm
      have hxr := row_cells HGB.out (hgl.block w.heap.size (by omega))
      have g3 := hxr 3
      clear hbx hq x0 x1 x2 x3 x5 hm hgl hxr
      go_wp2
      clear x4 g3
      obtain ⟨wo, rfl⟩ : ∃ wo : World, wo = wr := ⟨_, rfl⟩
      go_loopw [28] (fun u wr => ∃ (i : Nat) (vs : List Value), i ≤ m ∧ u = .int .i64 i ∧ Hid (Lists wr (w.heap.size + 1) (w.heap.size + 1) bs.length vs (predsAt bs bs.length k i)) ∧ Hid (Below (w.heap.size + 1) wo wr)) (fun u _ => m - (intOf u).toNat)
      case atStart => exact ⟨0, vs, Nat.zero_le _, rfl, HL, hideI (Below.refl _ _)⟩
      case round =>
        obtain ⟨i, vs2, hi, rfl, HLi, HBi⟩ := hrel
        by_cases hlti : i < m
        · obtain ⟨t, ht⟩ : ∃ t, q.term.to[i]? = some t := ⟨_, List.getElem?_eq_getElem (by rw [HM.out] at hlti; exact hlti)⟩
          have htn := HIN.out q (List.mem_of_getElem? HQ.out) t (List.mem_of_getElem? ht)
          obtain ⟨tn, rfl⟩ : ∃ tn : Nat, t = (tn : Int) := ⟨t.toNat, by omega⟩
          have htl : tn < bs.length := by omega
          have HTI : Hid ((succM bs k)[i]? = some tn) := by
            show _ = _
            rw [HSU.out, List.getElem?_map, ht]
            rfl
          obtain ⟨TA', tc', e0, _, hxx⟩ := HTV.out.keep (HBi.out.mono (Nat.le_succ _))
          cases e0
          obtain ⟨tb, toff, rfl, htb, hcell⟩ := hxx i (by rw [← HM.out]; exact hlti)
          rw [ht] at hcell
          simp only [Option.getD_some] at hcell
          obtain ⟨v, hv⟩ : ∃ v, vs2[tn]? = some v := ⟨_, List.getElem?_eq_getElem (by rw [HLi.out.vl]; exact htl)⟩
          obtain ⟨l, hl0⟩ : ∃ l, l = predsTo bs k tn ++ if tn ∈ (succM bs k).take i then [k] else [] := ⟨_, rfl⟩
          have hl : (predsAt bs bs.length k i)[tn]? = some l := by rw [predsAt_at htl, hl0]
          have hmem : k ∈ l ↔ tn ∈ (succM bs k).take i := by rw [hl0]; exact predsAt_mem
          have hll : l.length ≤ 1000 := by
            rw [hl0, List.length_append]
            have := predsTo_len bs k tn
            split <;> simp <;> omega
          have q1 : wr.cell? ⟨w.heap.size + 1, tn, none⟩ = some v := by rw [World.ownsRow.cellAt HLi.out.row tn (by omega)]; exact hv
          have HOWN := hideI (HLi.out.own tn v l hv hl)
          have HINT := hideI (nat_ints HOWN.out (by omega))
          have hsz := HLi.out.lt.2
          have HV := hideI hv
          have HLL := hideI hl
          have HL0 := hideI hl0
          clear hxx ht htn hv hl hl0
          by_cases hin2 : tn ∈ (succM bs k).take i
          · have HC : Hid (decide ((k : Int) ∈ l.map fun (x : Nat) => (x : Int)) = true) := by show _ = _; rw [decide_eq_true_iff, mem_nat, hmem]; exact hin2
            have HIN2 := hideI hin2
            clear hin2 hmem
            go_wp2_with (go_at_call 155; go_must (refine (contains_any _ _ _ _ _ HINT.out).mono ?_); rw [HC.out]; rintro e w2 ⟨rfl, rfl⟩)
            go_roundw
            case rel => exact ⟨i + 1, vs2, by omega, by go_num, by rw [predsAt_skip HTI.out HIN2.out]; exact HLi, HBi⟩
            case measure => simp [intOf]; omega
          · have HC : Hid (decide ((k : Int) ∈ l.map fun (x : Nat) => (x : Int)) = false) := by show _ = _; rw [decide_eq_false_iff_not, mem_nat, hmem]; exact hin2
            have HIN2 := hideI hin2
            have hl0 := HL0.out
            rw [if_neg hin2, List.append_nil] at hl0
            have HL1 := hideI hl0
            obtain ⟨i1, hjx, hy0, hy1, hy2⟩ := info_parts int_info
            have H63 : Hid (l.length + 1 ≤ maxLen) := by show _ ≤ _; simp only [maxLen]; omega
            have HBY : Hid ((l.length + 1) * 8 ≤ 140737488355328) := by show _ ≤ _; omega
            have HBS : Hid (w.heap.size + 1 ≤ wr.heap.size) := by show _ ≤ _; omega
            clear hin2 hmem hl0
            go_wp2_with (first
              | (go_at_call 155; go_must (refine (contains_any _ _ _ _ _ HINT.out).mono ?_); rw [HC.out]; rintro e w2 ⟨rfl, rfl⟩)
              | (at_builtin; go_must (refine wpList_append_lies _ rfl _ _ _ rfl (w.heap.size + 1 + 1) 3 i1 (.int .i64 0) 1 8 Tryz.underlying22 hjx hy0 hy1 hy2 rfl (by decide) _ _ _ rfl (HOWN.out.alloc _) ⟨wr.heap.size, 0, none⟩ 1 1 [.int .i64 k] rfl rfl (one_new wr _) (by simp [Value.oneCell']) (by decide) H63.out HBY.out (by simp; exact HBS.out) _ rfl ?_); intro g1 cap1 w3 hown1 hgrow1 hor1 _; go_must (have HP := hideI (HLi.out.push HV.out HLL.out hown1 hgrow1 hor1); have HPB := hideI (HLi.out.pushed (u := .slice (some ⟨g1, 0, none⟩) (l.length + 1) cap1) HV.out HLL.out hgrow1 HBi.out (Nat.le_refl _)); obtain ⟨hc4, hf4⟩ := HLi.out.held HV.out HLL.out hgrow1; clear hown1 hgrow1 hor1 q1)))
            go_roundw
            case rel => exact ⟨i + 1, _, by omega, by go_num, by rw [← predsAt_push HTI.out HIN2.out htl, ← HL1.out]; exact HP, HPB⟩
            case measure => simp [intOf]; omega
        · have HE : Hid (predsAt bs bs.length k i = predsAt bs bs.length (k + 1) 0) := predsAt_next bs _ k (by rw [HSU.out, List.length_map, ← HM.out]; omega)
          rw [HE.out] at HLi
          go_wp2
          go_roundw
          case rel => exact ⟨k + 1, vs2, by omega, by go_num, HLi, hideI (HBr.out.trans (HBi.out.mono (Nat.le_succ _))), hideI (HBo.out.trans HBi.out)⟩
          case measure => simp [intOf]; omega
    · have hkn : k = bs.length := by omega
      have HKN := hideI hkn
      rw [hkn] at HL
      clear hkn
      go_wp2
      go_ret
      exact ⟨_, vs, rfl, ⟨HL.out.vl, HL.out.ll, World.ownsRow.mono HL.out.row (by omega), HL.out.own, HL.out.apart⟩, HBr.out⟩

end Go.Proofs.YtncmnbchkabgaaaGreat

namespace Go.Proofs.YtncmnbchkabgaaaGreat
open Go.RowKit Go.Maps

theorem Lists.mono {w : World} {base base' gb n : Nat} {vs : List Value} {ls : List (List Nat)} (h : Lists w base gb n vs ls) (hb : base' ≤ base) : Lists w base' gb n vs ls :=
  ⟨h.vl, h.ll, World.ownsRow.mono h.row hb, h.own, h.apart⟩

theorem Lists.kept {w w' : World} {base gb n : Nat} {vs : List Value} {ls : List (List Nat)} (h : Lists w base gb n vs ls) (hb : Below w.heap.size w w') : Lists w' base gb n vs ls :=
  ⟨h.vl, h.ll, own_kept_below h.row hb (fun k hk => (h.row.lt k hk).2), fun t v l hv hl => own_kept_below (h.own t v l hv hl) hb (fun k hk => ((h.own t v l hv hl).lt k hk).2), h.apart⟩

def GPredsPost (f : FuncM) (w : World) (e : Ending) (w' : World) : Prop :=
  ((lookM f).1 ≠ 0 ∧ e = .returned (.tuple #[.slice none 0 0, .int .i64 (lookM f).1]) ∧ Below w.heap.size w w') ∨
  ((lookM f).1 = 0 ∧ ∃ (g : Nat) (vs : List Value), e = .returned (.tuple #[.slice (some ⟨g, 0, none⟩) f.blocks.length f.blocks.length, .int .i64 0]) ∧ Lists w' w.heap.size g f.blocks.length vs (predsAt f.blocks f.blocks.length f.blocks.length 0) ∧ Below w.heap.size w w')

set_option maxRecDepth 100000 in
set_option maxHeartbeats 1000000 in
theorem gPreds_any (f : FuncM) (B : Nat) (pv bv : Value) (w : World) (hpv : Ints w B pv f.params) (hbv : BlocksR w B bv f.blocks) (hB : B ≤ w.heap.size) (hid : ∀ u ∈ usesM f, I64 u.1) :
    Calls Tryz.prog 62 #[.agg #[pv, .int .i64 f.arrays, .int .i64 f.cells, bv]] w (GPredsPost f w) := by
  have HP := hideI hpv
  have HBL := hideI hbv
  have HID := hideI hid
  obtain ⟨P, pc, rfl, _⟩ := hpv
  obtain ⟨A, c, rfl, hbm, _⟩ := hbv
  have HX := hideI (heap_alloc_new w (.cells #[.slice P f.params.length pc, .int .i64 f.arrays, .int .i64 f.cells, .slice A f.blocks.length c] 25))
  have HK : Hid (Keeps B w (w.alloc (.cells #[.slice P f.params.length pc, .int .i64 f.arrays, .int .i64 f.cells, .slice A f.blocks.length c] 25))) := (Keeps.refl w).alloc hB _
  have HB0 : Hid (Below w.heap.size w (w.alloc (.cells #[.slice P f.params.length pc, .int .i64 f.arrays, .int .i64 f.cells, .slice A f.blocks.length c] 25))) := (Below.refl _ w).alloc (Nat.le_refl _) _
  clear hid
  by_cases h0 : (lookM f).1 = 0
  · have H0 := hideI h0
    have hnb := look_some_block h0
    clear h0
    go_enter Tryz.func62, Tryz.ntmps62
    go_wp2_with (first
      | (go_at_call 72; go_must (refine (check_any f B _ _ _ (HP.out.keeps HK.out) (HBL.out.keeps HK.out) (by simp; omega) HID.out).mono ?_); rw [H0.out]; rintro e w1 ⟨rfl, hb⟩; have HB1 := hideI (HB0.out.trans (hb.mono (by simp))); have hxx := row_cells ((hb.block _ (lt_of_heap HX.out)).trans HX.out) rfl; have q0 := hxx 0; have q1 := hxx 1; have q2 := hxx 2; have q3 := hxx 3; have hl1 : w.heap.size < w1.heap.size := (by have := hb.size; simp at this; omega); clear hb hxx)
      | (go_at_call 113; go_must (refine (preds_any f.blocks w.heap.size _ _ _ _ _ ((HBL.out.more' hB).keeps (Keeps.of_below HB1.out)) (by omega) hnb.2 (look_ends H0.out)).mono ?_); rintro e w2 ⟨g, vs, rfl, hls, hb2⟩; have HLS := hideI hls; have HB2 := hideI hb2; clear hls hb2))
    go_ret2
    exact .inr ⟨H0.out, g, vs, rfl, HLS.out.mono (by omega), HB1.out.trans (HB2.out.mono (by omega))⟩
  · have H0 := hideI h0
    have hb : ((lookM f).1 != 0) = true := by simpa using h0
    clear h0
    go_enter Tryz.func62, Tryz.ntmps62
    go_wp2_with (first
      | (go_at_call 72; go_must (refine (check_any f B _ _ _ (HP.out.keeps HK.out) (HBL.out.keeps HK.out) (by simp; omega) HID.out).mono ?_); rintro e w1 ⟨rfl, hb1⟩; have HB1 := hideI (HB0.out.trans (hb1.mono (by simp))); clear hb1))
    go_ret2
    exact .inl ⟨H0.out, rfl, HB1.out⟩

theorem gOrder_no (f : FuncM) (B : Nat) (pv bv : Value) (w : World) (hpv : Ints w B pv f.params) (hbv : BlocksR w B bv f.blocks) (hB : B ≤ w.heap.size) (hid : ∀ u ∈ usesM f, I64 u.1) (h : (lookM f).1 ≠ 0) :
    Calls Tryz.prog 61 #[.agg #[pv, .int .i64 f.arrays, .int .i64 f.cells, bv]] w fun e w' => e = .returned (.tuple #[.slice none 0 0, .int .i64 (lookM f).1]) ∧ Below w.heap.size w w' := by
  refine (gOrder_any f B pv bv w hpv hbv hB hid).mono ?_
  rintro e w' (⟨_, h2⟩ | ⟨h2, _⟩)
  · exact h2
  · exact absurd h2 h

theorem gOrder_yes (f : FuncM) (B : Nat) (pv bv : Value) (w : World) (hpv : Ints w B pv f.params) (hbv : BlocksR w B bv f.blocks) (hB : B ≤ w.heap.size) (hid : ∀ u ∈ usesM f, I64 u.1) (h : (lookM f).1 = 0) :
    Calls Tryz.prog 61 #[.agg #[pv, .int .i64 f.arrays, .int .i64 f.cells, bv]] w fun e w' => ∃ (o : List Nat) (g cap : Nat), e = .returned (.tuple #[.slice (some ⟨g, 0, none⟩) o.length cap, .int .i64 0]) ∧ OrderIs f.blocks o ∧ 0 < o.length ∧ o.length ≤ f.blocks.length ∧ w'.ownsRow w.heap.size 3 1 (.slice (some ⟨g, 0, none⟩) o.length cap) o.length (natInts o) ∧ Below w.heap.size w w' := by
  refine (gOrder_any f B pv bv w hpv hbv hB hid).mono ?_
  rintro e w' (⟨h2, _⟩ | ⟨_, h2⟩)
  · exact absurd h h2
  · exact h2

theorem gPreds_no (f : FuncM) (B : Nat) (pv bv : Value) (w : World) (hpv : Ints w B pv f.params) (hbv : BlocksR w B bv f.blocks) (hB : B ≤ w.heap.size) (hid : ∀ u ∈ usesM f, I64 u.1) (h : (lookM f).1 ≠ 0) :
    Calls Tryz.prog 62 #[.agg #[pv, .int .i64 f.arrays, .int .i64 f.cells, bv]] w fun e w' => e = .returned (.tuple #[.slice none 0 0, .int .i64 (lookM f).1]) ∧ Below w.heap.size w w' := by
  refine (gPreds_any f B pv bv w hpv hbv hB hid).mono ?_
  rintro e w' (⟨_, h2⟩ | ⟨h2, _⟩)
  · exact h2
  · exact absurd h2 h

theorem gPreds_yes (f : FuncM) (B : Nat) (pv bv : Value) (w : World) (hpv : Ints w B pv f.params) (hbv : BlocksR w B bv f.blocks) (hB : B ≤ w.heap.size) (hid : ∀ u ∈ usesM f, I64 u.1) (h : (lookM f).1 = 0) :
    Calls Tryz.prog 62 #[.agg #[pv, .int .i64 f.arrays, .int .i64 f.cells, bv]] w fun e w' => ∃ (g : Nat) (vs : List Value), e = .returned (.tuple #[.slice (some ⟨g, 0, none⟩) f.blocks.length f.blocks.length, .int .i64 0]) ∧ Lists w' w.heap.size g f.blocks.length vs (predsAt f.blocks f.blocks.length f.blocks.length 0) ∧ Below w.heap.size w w' := by
  refine (gPreds_any f B pv bv w hpv hbv hB hid).mono ?_
  rintro e w' (⟨h2, _⟩ | ⟨_, h2⟩)
  · exact absurd h h2
  · exact h2

end Go.Proofs.YtncmnbchkabgaaaGreat
