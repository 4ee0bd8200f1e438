/- eachUse, over the closure checkUses$1. -/
import Derived.Test.YtclbhbnidodmdaaFrame
import Derived.Test.YtclbhbnidodmdaaArgs
namespace Go.Proofs.Ytclbhbnidodmdaa.each3
open Go.RowKit Go.Maps

theorem flat_take {α β : Type} (g : α → List β) (l : List α) (k : Nat) (a : α) (h : l[k]? = some a) : (l.take (k + 1)).flatMap g = (l.take k).flatMap g ++ g a := by
  obtain ⟨hk, rfl⟩ := List.getElem?_eq_some_iff.1 h
  rw [List.take_succ_eq_append_getElem hk, List.flatMap_append]
  simp

theorem map_take_at {α β : Type} (g : α → β) (l : List α) (k : Nat) (a : α) (h : l[k]? = some a) : (l.take (k + 1)).map g = (l.take k).map g ++ [g a] := by
  obtain ⟨hk, rfl⟩ := List.getElem?_eq_some_iff.1 h
  rw [List.take_succ_eq_append_getElem hk, List.map_append]
  rfl

theorem zip_take_at {α β : Type} (l : List α) (r : List β) (k : Nat) (a : α) (b : β) (h : l[k]? = some a) (h2 : r[k]? = some b) : (l.take (k + 1)).zip (r.take (k + 1)) = (l.take k).zip (r.take k) ++ [(a, b)] := by
  obtain ⟨hk, rfl⟩ := List.getElem?_eq_some_iff.1 h
  obtain ⟨hk2, rfl⟩ := List.getElem?_eq_some_iff.1 h2
  rw [List.take_succ_eq_append_getElem hk, List.take_succ_eq_append_getElem hk2, List.zip_append (by simp; omega)]
  rfl

theorem mem_block {bs : List BlockM} {k : Nat} {q : BlockM} {u : Int × Int} (hq : bs[k]? = some q) (h : u ∈ usesBlock q) : u ∈ bs.flatMap usesBlock :=
  List.mem_flatMap.2 ⟨q, List.mem_of_getElem? hq, h⟩

theorem mem_phi {bs : List BlockM} {k j m : Nat} {q : BlockM} {p : PhiM} {v : Int} (hq : bs[k]? = some q) (hp : q.phis[j]? = some p) (hv : p.vals[m]? = some v) : (v, p.typ) ∈ bs.flatMap usesBlock :=
  mem_block hq (List.mem_append.2 (.inl (List.mem_flatMap.2 ⟨p, List.mem_of_getElem? hp, List.mem_map.2 ⟨v, List.mem_of_getElem? hv, rfl⟩⟩)))

theorem mem_instr {bs : List BlockM} {k j m : Nat} {q : BlockM} {x : InstrM} {v t : Int} (hq : bs[k]? = some q) (hp : q.code[j]? = some x) (hv : x.args[m]? = some v) (ht : (takesS x.op)[m]? = some t) : (v, t) ∈ bs.flatMap usesBlock := by
  refine mem_block hq (List.mem_append.2 (.inr (List.mem_append.2 (.inl (List.mem_flatMap.2 ⟨x, List.mem_of_getElem? hp, ?_⟩)))))
  unfold usesInstr
  exact List.mem_of_getElem? (i := m) (by rw [List.getElem?_zip_eq_some]; exact ⟨hv, ht⟩)

theorem mem_term {bs : List BlockM} {k : Nat} {q : BlockM} {u : Int × Int} (hq : bs[k]? = some q) (hu : u ∈ usesTerm q.term) : u ∈ bs.flatMap usesBlock :=
  mem_block hq (List.mem_append.2 (.inr (List.mem_append.2 (.inr hu))))

/-- one use more is seen -/
def Sees (S : List Nat) (N B : Nat) (I : List (Int × Int) → World → Prop) (a1 a2 a3 : Addr) : Prop :=
  ∀ us id taken w, I64 id → I us w → N ≤ w.heap.size → Calls Try.prog 98 #[.int .i64 id, .int .i64 taken, .pointer (some a1), .pointer (some a2), .pointer (some a3)] w fun e w' => e = .returned (.tuple #[]) ∧ I (us ++ [(id, taken)]) w' ∧ Fr S N B w w'

def Stays (I : List (Int × Int) → World → Prop) : Prop := ∀ us w w', I us w → Below w.heap.size w w' → I us w'

theorem Stays.alloc {I : List (Int × Int) → World → Prop} (h : Stays I) {us : List (Int × Int)} {w : World} (hI : I us w) (o : Obj) : I us (w.alloc o) := h us w _ hI ((Below.refl _ _).alloc (Nat.le_refl _) o)

set_option maxRecDepth 100000 in
set_option maxHeartbeats 4000000 in
theorem each_any (S : List Nat) (bs : List BlockM) (I : List (Int × Int) → World → Prop) (a1 a2 a3 : Addr) (B : Nat) (pv xv cv bv mv : Value) (us0 : List (Int × Int)) (w : World) (hbv : BlocksR w B bv bs) (hB : B ≤ w.heap.size)
    (hI : I us0 w) (hs : Sees S w.heap.size B I a1 a2 a3) (hst : Stays I) (hform : ∀ b ∈ bs, ∀ x ∈ b.code, x.args.length = (takesS x.op).length) (hid : ∀ u ∈ bs.flatMap usesBlock, I64 u.1) :
    Calls Try.prog 97 #[.agg #[pv, xv, cv, bv, mv], .func (.func 98) #[] #[.pointer (some a1), .pointer (some a2), .pointer (some a3)]] w fun e w' => e = .returned (.tuple #[]) ∧ I (us0 ++ bs.flatMap usesBlock) w' ∧ Fr S w.heap.size B w w' := by
  have HI := hideI hI
  have HS := hideI hs
  have HST := hideI hst
  have HFO := hideI hform
  have HID := hideI hid
  have HBB := hideI hbv
  obtain ⟨A, c, rfl, hbm, hbx⟩ := hbv
  have HX := hideI hbx
  clear hbx hI hs hst hform hid
  obtain ⟨W0, hW0⟩ : ∃ W0 : World, W0 = w.alloc (.cells #[pv, xv, cv, .slice A bs.length c, mv] 116) := ⟨_, rfl⟩
  have hF0 : Hid (Fr S w.heap.size B w W0) := by rw [hW0]; exact (Fr.refl w).alloc hB _
  have hbox0 : Hid (W0.heap[w.heap.size]? = some (.cells #[pv, xv, cv, .slice A bs.length c, mv] 116 (0, 0))) := by rw [hW0]; exact heap_alloc_new w _
  have hI0 : Hid (I us0 W0) := by rw [hW0]; exact HST.out.alloc HI.out _
  have HW0 := hideI hW0
  clear hW0
  go_enter Try.func97, Try.ntmps97
  go_wp2
  rw [← HW0.out]
  go_loopw [21] (fun i wr => ∃ k : Nat, k ≤ bs.length ∧ i = .int .i64 k ∧ I (us0 ++ (bs.take k).flatMap usesBlock) wr ∧ Fr S w.heap.size B W0 wr) (fun i _ => bs.length - (intOf i).toNat)
  case atStart => exact ⟨0, Nat.zero_le _, rfl, by simpa using hI0.out, Fr.refl _⟩
  case round =>
    obtain ⟨k, hk, rfl, hIk, hFk⟩ := hrel
    have HIk := hideI hIk
    have HFk := hideI hFk
    have hx := hFk.row hbox0.out (Nat.le_refl _)
    have hsz : w.heap.size < wr.heap.size := by have h1 := hFk.size; have h2 := (Array.getElem?_eq_some_iff.1 hbox0.out).1; omega
    have HK := hideI (hF0.out.trans hFk).keeps
    clear hIk hFk
    by_cases hlt : k < bs.length
    · obtain ⟨q, hq⟩ : ∃ q, bs[k]? = some q := ⟨_, List.getElem?_eq_getElem hlt⟩
      obtain ⟨b, off, qpv, qcv, qtv, rfl, hb, e0, e1, e2, e3, e4, e5, hpv, hcv, htv, _⟩ := HX.out k q hq
      have c0 := (HK.out b (off + k * 6) hb).trans e0
      have c1 := (HK.out b (off + k * 6 + 1) hb).trans e1
      have c2 := (HK.out b (off + k * 6 + 2) hb).trans e2
      have c3 := (HK.out b (off + k * 6 + 3) hb).trans e3
      have c4 := (HK.out b (off + k * 6 + 4) hb).trans e4
      have c5 := (HK.out b (off + k * 6 + 5) hb).trans e5
      have HQ := hideI hq
      obtain ⟨PA, pc, rfl, hpm, hpx⟩ := hpv
      obtain ⟨CA, cc, rfl, hcm, hcx⟩ := hcv
      obtain ⟨TA, tc, rfl, _⟩ := htv
      have HPX := hideI hpx
      have HCX := hideI hcx
      clear e0 e1 e2 e3 e4 e5 hq hpx hcx
      obtain ⟨wo, rfl⟩ : ∃ wo : World, wo = wr := ⟨_, rfl⟩
      obtain ⟨W1, hW1⟩ : ∃ W1 : World, W1 = wo.alloc (.cells #[.slice PA q.phis.length pc, .slice CA q.code.length cc, .int .i64 q.term.op, .int .i64 q.term.val, .slice TA q.term.to.length tc, .int .i64 q.term.n] 54) := ⟨_, rfl⟩
      have HF1 : Hid (Fr S w.heap.size B W0 W1) := by rw [hW1]; exact HFk.out.alloc (by omega) _
      have HI1 : Hid (I (us0 ++ (bs.take k).flatMap usesBlock) W1) := by rw [hW1]; exact HST.out.alloc HIk.out _
      have HB1 : Hid (W1.heap[wo.heap.size]? = some (.cells #[.slice PA q.phis.length pc, .slice CA q.code.length cc, .int .i64 q.term.op, .int .i64 q.term.val, .slice TA q.term.to.length tc, .int .i64 q.term.n] 54 (0, 0))) := by rw [hW1]; exact heap_alloc_new wo _
      have HW1 := hideI hW1
      clear hW1
      obtain ⟨us1, hus1⟩ : ∃ us1, us1 = us0 ++ (bs.take k).flatMap usesBlock := ⟨_, rfl⟩
      rw [← hus1] at HI1
      have HU1 := hideI hus1
      clear hus1
      go_wp2
      rw [← HW1.out]
      go_loopw [28] (fun i wr => ∃ j : Nat, j ≤ q.phis.length ∧ i = .int .i64 j ∧ I (us1 ++ (q.phis.take j).flatMap usesPhi) wr ∧ Fr S w.heap.size B W1 wr) (fun i _ => q.phis.length - (intOf i).toNat)
      case atStart => exact ⟨0, Nat.zero_le _, rfl, by simpa using HI1.out, Fr.refl _⟩
      case round =>
        obtain ⟨j, hj, rfl, hIj, hFj⟩ := hrel
        have HIj := hideI hIj
        have HFj := hideI hFj
        have hx1 := hFj.row HB1.out (by omega)
        have hsz1 : wo.heap.size < wr.heap.size := by have h1 := hFj.size; have h2 := (Array.getElem?_eq_some_iff.1 HB1.out).1; omega
        have HK1 := hideI ((hF0.out.trans HF1.out).trans hFj).keeps
        clear hIj hFj
        by_cases hlj : j < q.phis.length
        · obtain ⟨p, hp⟩ : ∃ p, q.phis[j]? = some p := ⟨_, List.getElem?_eq_getElem hlj⟩
          obtain ⟨b2, off2, fv, vv, rfl, hb2, e0, e1, e2, e3, hf, hv, _⟩ := HPX.out j p hp
          have d0 := (HK1.out b2 (off2 + j * 4) hb2).trans e0
          have d1 := (HK1.out b2 (off2 + j * 4 + 1) hb2).trans e1
          have d2 := (HK1.out b2 (off2 + j * 4 + 2) hb2).trans e2
          have d3 := (HK1.out b2 (off2 + j * 4 + 3) hb2).trans e3
          have HQ2 := hideI hp
          obtain ⟨FA, fc, rfl, _⟩ := hf
          obtain ⟨VA, vc, rfl, hvm, hvx⟩ := hv
          have HVX := hideI hvx
          clear e0 e1 e2 e3 hp hvx
          obtain ⟨wi, rfl⟩ : ∃ wi : World, wi = wr := ⟨_, rfl⟩
          obtain ⟨W2, hW2⟩ : ∃ W2 : World, W2 = wi.alloc (.cells #[.int .i64 p.id, .int .i64 p.typ, .slice FA p.fr.length fc, .slice VA p.vals.length vc] 92) := ⟨_, rfl⟩
          have HF2 : Hid (Fr S w.heap.size B W1 W2) := by rw [hW2]; exact HFj.out.alloc (by omega) _
          have HI2 : Hid (I (us1 ++ (q.phis.take j).flatMap usesPhi) W2) := by rw [hW2]; exact HST.out.alloc HIj.out _
          have HB2 : Hid (W2.heap[wi.heap.size]? = some (.cells #[.int .i64 p.id, .int .i64 p.typ, .slice FA p.fr.length fc, .slice VA p.vals.length vc] 92 (0, 0))) := by rw [hW2]; exact heap_alloc_new wi _
          have HW2 := hideI hW2
          clear hW2
          obtain ⟨us2, hus2⟩ : ∃ us2, us2 = us1 ++ (q.phis.take j).flatMap usesPhi := ⟨_, rfl⟩
          rw [← hus2] at HI2
          have HU2 := hideI hus2
          clear hus2
          go_wp2
          rw [← HW2.out]
          go_loopw [35] (fun i wr => ∃ m : Nat, m ≤ p.vals.length ∧ i = .int .i64 m ∧ I (us2 ++ (p.vals.take m).map fun v => (v, p.typ)) wr ∧ Fr S w.heap.size B W2 wr) (fun i _ => p.vals.length - (intOf i).toNat)
          case atStart => exact ⟨0, Nat.zero_le _, rfl, by simpa using HI2.out, Fr.refl _⟩
          case round =>
            obtain ⟨m, hm, rfl, hIm, hFm⟩ := hrel
            have HIm := hideI hIm
            have HFm := hideI hFm
            have hx2 := hFm.row HB2.out (by omega)
            have HK2 := hideI (((hF0.out.trans HF1.out).trans HF2.out).trans hFm).keeps
            have hsz2 : w.heap.size ≤ wr.heap.size := by have h1 := hFm.size; have h2 := (Array.getElem?_eq_some_iff.1 HB2.out).1; omega
            clear hIm hFm
            by_cases hlm : m < p.vals.length
            · obtain ⟨b3, off3, rfl, hb3, e3⟩ := HVX.out m hlm
              obtain ⟨v, hv⟩ : ∃ v, p.vals[m]? = some v := ⟨_, List.getElem?_eq_getElem hlm⟩
              rw [hv] at e3
              have f3 := (HK2.out b3 (off3 + m) hb3).trans e3
              simp only [Option.getD_some] at f3
              have HV := hideI hv
              have HIV : Hid (I64 v) := HID.out _ (mem_phi HQ.out HQ2.out hv)
              clear e3 hv
              go_wp2_with (go_at_call 98; refine (HS.out _ v p.typ _ HIV.out HIm.out hsz2).mono ?_; rintro e w3 ⟨rfl, hI3, hF3⟩; have HI3 := hideI hI3; have HF3 := hideI hF3; clear hI3 hF3)
              go_roundw
              case rel => exact ⟨m + 1, by omega, by go_num, by rw [map_take_at _ _ _ _ HV.out, ← List.append_assoc]; exact HI3.out, HFm.out.trans HF3.out⟩
              case measure => simp [intOf]; omega
            · have HIend : Hid (I (us2 ++ usesPhi p) wr) := by have := HIm.out; rw [List.take_of_length_le (by omega)] at this; exact this
              go_wp2
              go_roundw
              case rel => exact ⟨j + 1, by omega, by go_num, by rw [flat_take _ _ _ _ HQ2.out, ← List.append_assoc, ← HU2.out]; exact HIend.out, HF2.out.trans HFm.out⟩
              case measure => simp [intOf]; omega
        · have HIend : Hid (I (us1 ++ q.phis.flatMap usesPhi) wr) := by have := HIj.out; rw [List.take_of_length_le (by omega)] at this; exact this
          go_wp2
          obtain ⟨wp, rfl⟩ : ∃ wp : World, wp = wr := ⟨_, rfl⟩
          clear hx1 hsz1 HK1 hlj
          obtain ⟨us3, hus3⟩ : ∃ us3, us3 = us1 ++ q.phis.flatMap usesPhi := ⟨_, rfl⟩
          rw [← hus3] at HIend
          have HU3 := hideI hus3
          clear hus3
          go_loopw [49] (fun i wr => ∃ j : Nat, j ≤ q.code.length ∧ i = .int .i64 j ∧ I (us3 ++ (q.code.take j).flatMap usesInstr) wr ∧ Fr S w.heap.size B W1 wr) (fun i _ => q.code.length - (intOf i).toNat)
          case atStart => exact ⟨0, Nat.zero_le _, rfl, by simpa using HIend.out, HFj.out⟩
          case round =>
            obtain ⟨j2, hj2, rfl, hIj2, hFj2⟩ := hrel
            have HIj2 := hideI hIj2
            have HFj2 := hideI hFj2
            have hx1 := hFj2.row HB1.out (by omega)
            have hsz1 : wo.heap.size < wr.heap.size := by have h1 := hFj2.size; have h2 := (Array.getElem?_eq_some_iff.1 HB1.out).1; omega
            have HK1 := hideI ((hF0.out.trans HF1.out).trans hFj2).keeps
            clear hIj2 hFj2
            by_cases hlj2 : j2 < q.code.length
            · obtain ⟨x, hp⟩ : ∃ x, q.code[j2]? = some x := ⟨_, List.getElem?_eq_getElem hlj2⟩
              have hxl : Hid (x.args.length = (takesS x.op).length) := HFO.out q (List.mem_of_getElem? HQ.out) x (List.mem_of_getElem? hp)
              obtain ⟨b2, off2, av, rfl, hb2, e0, e1, e2, e3, hf, _⟩ := HCX.out j2 x hp
              have d0 := (HK1.out b2 (off2 + j2 * 4) hb2).trans e0
              have d1 := (HK1.out b2 (off2 + j2 * 4 + 1) hb2).trans e1
              have d2 := (HK1.out b2 (off2 + j2 * 4 + 2) hb2).trans e2
              have d3 := (HK1.out b2 (off2 + j2 * 4 + 3) hb2).trans e3
              have HQ2 := hideI hp
              obtain ⟨AA, ac, rfl, ham, hax⟩ := hf
              have HAX := hideI hax
              clear e0 e1 e2 e3 hp hax
              obtain ⟨wi, rfl⟩ : ∃ wi : World, wi = wr := ⟨_, rfl⟩
              go_wp2_with (go_at_call 107; refine (irArgs_any _ _).mono ?_; rintro e w3 ⟨tv, rfl, htv, hbA⟩; obtain ⟨TK, tkc, rfl, htm, htx⟩ := htv; have HTX := hideI htx; have HBA := hideI hbA; have hB3 : Hid (w3.heap[wi.heap.size]? = some (.cells #[.int .i64 x.op, .int .i64 x.id, .slice AA x.args.length ac, .int .i64 x.n] 86 (0, 0))) := (hbA.block _ (by simp)).trans (heap_alloc_new wi _); have hx3 := row_cells hB3.out rfl; clear htx hbA)
              have HF3 : Hid (Fr S w.heap.size B W1 w3) := (HFj2.out.alloc (by omega) _).trans (Fr.of_below HBA.out (by simp; omega))
              have HI3 : Hid (I (us3 ++ (q.code.take j2).flatMap usesInstr) w3) := HST.out _ _ _ (HST.out.alloc HIj2.out _) HBA.out
              obtain ⟨us4, hus4⟩ : ∃ us4, us4 = us3 ++ (q.code.take j2).flatMap usesInstr := ⟨_, rfl⟩
              rw [← hus4] at HI3
              have HU4 := hideI hus4
              clear hus4 hx3 hx1
              go_loopw [63] (fun i wr => ∃ m : Nat, m ≤ x.args.length ∧ i = .int .i64 m ∧ I (us4 ++ (x.args.take m).zip ((takesS x.op).take m)) wr ∧ Fr S w.heap.size B w3 wr) (fun i _ => x.args.length - (intOf i).toNat)
              case atStart => exact ⟨0, Nat.zero_le _, rfl, by simpa using HI3.out, Fr.refl _⟩
              case round =>
                obtain ⟨m, hm, rfl, hIm, hFm⟩ := hrel
                have HIm := hideI hIm
                have HFm := hideI hFm
                have hx2 := hFm.row hB3.out (by omega)
                have HK2 := hideI ((hF0.out.trans HF1.out).trans (HF3.out.trans hFm)).keeps
                have hsz2 : w.heap.size ≤ wr.heap.size := by have h1 := hFm.size; have h2 := (Array.getElem?_eq_some_iff.1 hB3.out).1; omega
                clear hIm hFm
                by_cases hlm : m < x.args.length
                · obtain ⟨b3, off3, rfl, hb3, e3⟩ := HAX.out m hlm
                  obtain ⟨v, hv⟩ : ∃ v, x.args[m]? = some v := ⟨_, List.getElem?_eq_getElem hlm⟩
                  have hlt2 : m < (takesS x.op).length := by rw [← hxl.out]; exact hlm
                  obtain ⟨t, ht⟩ : ∃ t, (takesS x.op)[m]? = some t := ⟨_, List.getElem?_eq_getElem hlt2⟩
                  obtain ⟨g, cs, rfl, hg, hgb, hgc⟩ := HTX.out (by omega)
                  have hgx := (HFm.out.row hgb (by simp at hg; omega) m).trans (hgc m hlt2)
                  rw [hv] at e3
                  rw [ht] at hgx
                  have f3 := (HK2.out b3 (off3 + m) hb3).trans e3
                  simp only [Option.getD_some] at f3 hgx
                  have HV := hideI hv
                  have HT2 := hideI ht
                  have HIV : Hid (I64 v) := HID.out _ (mem_instr HQ.out HQ2.out hv ht)
                  clear e3 hv ht hgb hgc
                  go_wp2_with (go_at_call 98; refine (HS.out _ v t _ HIV.out HIm.out hsz2).mono ?_; rintro e w4 ⟨rfl, hI4, hF4⟩; have HI4 := hideI hI4; have HF4 := hideI hF4; clear hI4 hF4)
                  go_roundw
                  case rel => exact ⟨m + 1, by omega, by go_num, by rw [zip_take_at _ _ _ _ _ HV.out HT2.out, ← List.append_assoc]; exact HI4.out, HFm.out.trans HF4.out⟩
                  case measure => simp [intOf]; omega
                · have HIe : Hid (I (us4 ++ usesInstr x) wr) := by
                    have := HIm.out
                    rw [List.take_of_length_le (by omega), List.take_of_length_le (by rw [← hxl.out]; omega)] at this
                    exact this
                  go_wp2
                  go_roundw
                  case rel => exact ⟨j2 + 1, by omega, by go_num, by rw [flat_take _ _ _ _ HQ2.out, ← List.append_assoc, ← HU4.out]; exact HIe.out, HF3.out.trans HFm.out⟩
                  case measure => simp [intOf]; omega
            · have HIe : Hid (I (us3 ++ q.code.flatMap usesInstr) wr) := by have := HIj2.out; rw [List.take_of_length_le (by omega)] at this; exact this
              have HUB : Hid (us0 ++ (bs.take (k + 1)).flatMap usesBlock = (us3 ++ q.code.flatMap usesInstr) ++ usesTerm q.term) := by
                show _ = _
                rw [flat_take _ _ _ _ HQ.out, HU3.out, HU1.out]
                simp only [usesBlock, List.append_assoc]
              have hszr : w.heap.size ≤ wr.heap.size := by omega
              cases h2 : q.term.op == 2
              · cases h3 : q.term.op == 3
                · have hu : usesTerm q.term = [] := by
                    unfold usesTerm
                    rw [if_neg (by simpa using h2), if_neg (by simpa using h3)]
                  have HU := hideI hu
                  clear hu
                  go_wp2
                  go_roundw
                  case rel => exact ⟨k + 1, by omega, by go_num, by rw [HUB.out, HU.out, List.append_nil]; exact HIe.out, HF1.out.trans HFj2.out⟩
                  case measure => simp [intOf]; omega
                · have hu : usesTerm q.term = [(q.term.val, 0)] := by
                    unfold usesTerm
                    rw [if_neg (by simpa using h2), if_pos (by simpa using h3)]
                  have HU := hideI hu
                  have HIT : Hid (I64 q.term.val) := HID.out (q.term.val, 0) (mem_term HQ.out (by rw [hu]; exact List.mem_singleton.2 rfl))
                  clear hu
                  go_wp2_with (go_at_call 98; refine (HS.out _ _ _ _ HIT.out HIe.out hszr).mono ?_; rintro e w4 ⟨rfl, hI4, hF4⟩; have HI4 := hideI hI4; have HF4 := hideI hF4; clear hI4 hF4)
                  go_roundw
                  case rel => exact ⟨k + 1, by omega, by go_num, by rw [HUB.out, HU.out]; exact HI4.out, (HF1.out.trans HFj2.out).trans HF4.out⟩
                  case measure => simp [intOf]; omega
              · have hu : usesTerm q.term = [(q.term.val, 2)] := by
                  unfold usesTerm
                  rw [if_pos (by simpa using h2)]
                have HU := hideI hu
                have HIT : Hid (I64 q.term.val) := HID.out (q.term.val, 2) (mem_term HQ.out (by rw [hu]; exact List.mem_singleton.2 rfl))
                clear hu
                go_wp2_with (go_at_call 98; refine (HS.out _ _ _ _ HIT.out HIe.out hszr).mono ?_; rintro e w4 ⟨rfl, hI4, hF4⟩; have HI4 := hideI hI4; have HF4 := hideI hF4; clear hI4 hF4)
                go_roundw
                case rel => exact ⟨k + 1, by omega, by go_num, by rw [HUB.out, HU.out]; exact HI4.out, (HF1.out.trans HFj2.out).trans HF4.out⟩
                case measure => simp [intOf]; omega
    · go_wp2
      go_end0
      refine ⟨rfl, ?_, hF0.out.trans HFk.out⟩
      have := HIk.out
      rw [List.take_of_length_le (by omega)] at this
      exact this

end Go.Proofs.Ytclbhbnidodmdaa.each3
