/- The reference's visit and Order. -/
import Derived.Laws.MakeOwn
import Derived.Test.YtgmikokdiafjgaaGOutP
import Derived.Test.YtgmikokdiafjgaaRefFormed
import Derived.Deep.RegionHeld3
namespace Go.Proofs.Ytgmikokdiafjgaa
open Go.RowKit Go.Maps

/-- what the visit keeps: the row of what was begun, and the list of what is done -/
structure RVis (w : World) (B gr n : Nat) (bg dn : List Nat) (v : Value) : Prop where
  row : w.ownsRow B 4 1 (.slice (some ⟨gr, 0, none⟩) n n) n (marks n bg)
  own : w.ownsRow B 3 1 v dn.length (natInts dn)

/-- all else is as it was -/
structure RFr (w w' : World) (gr : Nat) (v : Value) : Prop where
  os : w'.os = w.os
  tape : w'.tape = w.tape
  output : w'.output = w.output
  size : w.heap.size ≤ w'.heap.size
  block : ∀ k, k < w.heap.size → k ≠ gr → some k ≠ v.ownBlock → w'.heap[k]? = w.heap[k]?

/-- a value's block is that of the elder one, or a new one -/
def NewOr (w : World) (v v' : Value) : Prop := ∀ k, v'.ownBlock = some k → v.ownBlock = some k ∨ w.heap.size ≤ k

variable {w w1 w2 : World} {B gr n : Nat} {bg dn : List Nat} {v v1 v2 : Value}

theorem RFr.refl (w : World) (gr : Nat) (v : Value) : RFr w w gr v := ⟨rfl, rfl, rfl, Nat.le_refl _, fun _ _ _ _ => rfl⟩
theorem RFr.trans (h : RFr w w1 gr v) (hn : NewOr w v v1) (k : RFr w1 w2 gr v1) : RFr w w2 gr v :=
  ⟨k.os.trans h.os, k.tape.trans h.tape, k.output.trans h.output, Nat.le_trans h.size k.size, fun b hb h1 h2 =>
    (k.block b (Nat.lt_of_lt_of_le hb h.size) h1 (fun e => by
      rcases hn b e.symm with h3 | h3
      · exact h2 h3.symm
      · omega)).trans (h.block b hb h1 h2)⟩
theorem NewOr.refl (w : World) (v : Value) : NewOr w v v := fun _ h => .inl h
theorem NewOr.trans (hf : RFr w w1 gr v) (h : NewOr w v v1) (k : NewOr w1 v1 v2) : NewOr w v v2 := fun b hb => by
  rcases k b hb with h1 | h1
  · exact h b h1
  · exact .inr (Nat.le_trans hf.size h1)
theorem RFr.below (h : RFr w w1 gr v) (hg : B ≤ gr) (hv : ∀ k, v.ownBlock = some k → B ≤ k) (hB : B ≤ w.heap.size) : Below B w w1 :=
  ⟨h.os, h.tape, h.output, h.size, fun k hk => h.block k (by omega) (by omega) (fun e => by have := hv k e.symm; omega)⟩
theorem RFr.drew (h : RFr w.drew w1 gr v) : RFr w w1 gr v := ⟨h.os, h.tape, h.output, h.size, h.block⟩
theorem NewOr.drew (h : NewOr w.drew v v1) : NewOr w v v1 := h

theorem RVis.gr_lt (h : RVis w B gr n bg dn v) : B ≤ gr ∧ gr < w.heap.size := h.row.lt gr rfl
theorem RVis.alloc (h : RVis w B gr n bg dn v) (o : Obj) : RVis (w.alloc o) B gr n bg dn v := ⟨h.row.alloc o, h.own.alloc o⟩
theorem RVis.heap (h : RVis w B gr n bg dn v) (e : w1.heap = w.heap) : RVis w1 B gr n bg dn v := by
  refine ⟨⟨h.row.1, ?_⟩, ⟨h.own.1, ?_⟩⟩
  · rw [e]; exact h.row.2
  · rw [e]; exact h.own.2

theorem ne_block {w : World} {B gr n m : Nat} {bs xs : List Value} (hr : w.ownsRow B 4 1 (.slice (some ⟨gr, 0, none⟩) n n) n bs) (ho : w.ownsRow B 3 1 v m xs) : v.ownBlock ≠ some gr := by
  intro e
  rcases hr.2 with ⟨h, _⟩ | ⟨g, cap, cur, h, _, hg, _⟩
  · cases h
  · cases h
    rcases ho.2 with ⟨rfl, _⟩ | ⟨g2, cap2, cur2, rfl, _, hg2, _⟩
    · cases e
    · cases e
      rw [hg] at hg2
      cases hg2

theorem RVis.mark {b : Nat} (h : RVis w B gr n bg dn v) : RVis (w.setCell ⟨gr, b, none⟩ (.bool true)) B gr n (b :: bg) dn v := by
  have hs := h.row.stored b (.bool true)
  rw [marks_set] at hs
  exact ⟨hs.1, h.own.kept hs.2 (.inr (ne_block h.row h.own))⟩

theorem RFr.mark {b : Nat} {u : Value} (h : RFr w w1 gr v) : RFr w (w1.setCell ⟨gr, b, none⟩ u) gr v :=
  ⟨h.os, h.tape, h.output, by simpa using h.size, fun k hk h1 h2 => (heap_setCell_other w1 ⟨gr, b, none⟩ k u h1).trans (h.block k hk h1 h2)⟩
theorem RFr.alloc (h : RFr w w1 gr v) (o : Obj) : RFr w (w1.alloc o) gr v :=
  ⟨h.os, h.tape, h.output, by have := h.size; simp; omega, fun k hk h1 h2 => (Below.heap_alloc w1 o k (Nat.lt_of_lt_of_le hk h.size)).trans (h.block k hk h1 h2)⟩

def RVPost (bs : List BlockM) (B gr : Nat) (bg dn : List Nat) (v : Value) (b : Nat) (w : World) (e : Ending) (w' : World) : Prop :=
  ∃ bg' dn' v', e = .returned v' ∧ Visit (succM bs) (succM bs b) (b :: bg, dn) (bg', dn') ∧ RVis w' B gr bs.length bg' (dn' ++ [b]) v' ∧ RFr w w' gr v ∧ NewOr w v v'

theorem rv_push {b g1 cap1 : Nat} {o : Obj} (hV : RVis w B gr n bg dn v) (hown : w1.ownsRow B 3 1 (.slice (some ⟨g1, 0, none⟩) (dn.length + 1) cap1) (dn.length + 1) (natInts dn ++ [.int .i64 (b : Int)])) (hg : (w.alloc o).grownBy w1 v.ownBlock) (hor : v.ownBlock = some g1 ∨ g1 = (w.alloc o).heap.size) :
    RVis w1 B gr n bg (dn ++ [b]) (.slice (some ⟨g1, 0, none⟩) (dn.length + 1) cap1) ∧ RFr w w1 gr v ∧ NewOr w v (.slice (some ⟨g1, 0, none⟩) (dn.length + 1) cap1) := by
  refine ⟨⟨(hV.row.alloc o).kept hg (.inr (fun e => ne_block hV.row hV.own e.symm)), by simpa [natInts] using hown⟩, ⟨hg.os, hg.tape, hg.output, by have := hg.size; simp at this; omega, fun k hk _ h2 => ?_⟩, fun k hk => ?_⟩
  · rw [hg.block k (by simp; omega) h2, Below.heap_alloc _ _ _ hk]
  · cases hk
    rcases hor with h | h
    · exact .inl h
    · right
      rw [h]
      simp

set_option maxRecDepth 100000 in
set_option maxHeartbeats 4000000 in
theorem refVisit_any (bs : List BlockM) (B gr : Nat) (pv av cv bv : Value) (hn5 : bs.length ≤ 512) (hin : EndsIn bs) :
    ∀ (k : Nat) (bg dn : List Nat) (v : Value) (b : Nat) (w : World), bs.length ≤ bg.length + k → bg.Nodup → (∀ x ∈ bg, x < bs.length) → dn.length ≤ bg.length → b < bs.length → b ∉ bg → BlocksR w B bv bs → RVis w B gr bs.length bg dn v → B ≤ w.heap.size →
    Calls Try.prog 34 #[.agg #[pv, av, cv, bv], .int .i64 b, .slice (some ⟨gr, 0, none⟩) bs.length bs.length, v] w (RVPost bs B gr bg dn v b w) := by
  intro k
  induction k with
  | zero =>
    intro bg dn v b w hk hnd hlt _ hb hf
    have := fresh_len hnd hlt hb hf
    omega
  | succ k ih =>
    intro bg dn v b w hk hnd hlt hdl hb hf hbl hV hBw
    have HIH := hideI ih
    have HIN := hideI hin
    have HND := hideI hnd
    have HLT := hideI hlt
    have HF := hideI hf
    have HBL := hideI hbl
    have HVS := hideI hV
    obtain ⟨q, hq⟩ : ∃ q, bs[b]? = some q := ⟨_, List.getElem?_eq_getElem hb⟩
    obtain ⟨A, c, rfl, hbm, hbx⟩ := hbl
    obtain ⟨ab, off, pq, cq, tv, rfl, hab, x0, x1, x2, x3, x4, x5, _, _, htv, _⟩ := hbx b q hq
    have HTV := hideI htv
    have HQ := hideI hq
    have HSU : Hid (succM bs b = q.term.to.map Int.toNat) := by show _ = _; unfold succM; rw [hq]
    have hgl := hV.gr_lt
    have hmk : w.cell? ⟨gr, b, none⟩ = some (.bool false) := by
      rw [World.ownsRow.cellAt hV.row b (by omega), marks_at hb]
      simp [hf]
    have hmf : w.frozen? ⟨gr, b, none⟩ = false := World.ownsRow.frozenAt hV.row b
    have hne1 : ab ≠ gr := by omega
    have hne2 : w.heap.size ≠ gr := by omega
    obtain ⟨TA, tc, rfl, htm, _⟩ := htv
    obtain ⟨m, hm⟩ : ∃ m, m = q.term.to.length := ⟨_, rfl⟩
    have HM := hideI hm
    rw [← hm] at x4 htm
    have hab2 : ab < w.heap.size := by omega
    have hab3 : ab ≠ w.heap.size := by omega
    have HNB : Hid (∀ k, v.ownBlock = some k → k < w.heap.size) := fun k hk => (hV.own.lt k hk).2
    have HW1 := hideI ((hV.mark (b := b)).alloc (.cells #[pv, av, cv, .slice (some ⟨ab, off, none⟩) bs.length c] 25))
    have HF1 : Hid (RFr w ((w.setCell ⟨gr, b, none⟩ (.bool true)).alloc (.cells #[pv, av, cv, .slice (some ⟨ab, off, none⟩) bs.length c] 25)) gr v) := (RFr.refl w gr v).mark.alloc _
    have HBX1 : Hid (((w.setCell ⟨gr, b, none⟩ (.bool true)).alloc (.cells #[pv, av, cv, .slice (some ⟨ab, off, none⟩) bs.length c] 25)).heap[w.heap.size]? = some (.cells #[pv, av, cv, .slice (some ⟨ab, off, none⟩) bs.length c] 25 (0, 0))) := by
      have := heap_alloc_new (w.setCell ⟨gr, b, none⟩ (.bool true)) (.cells #[pv, av, cv, .slice (some ⟨ab, off, none⟩) bs.length c] 25)
      show _ = _
      simpa using this
    clear ih hin hnd hlt hf hbx hq x0 x1 x2 x3 x5 hm hV
    go_enter Try.func34, Try.ntmps34
    go_wp2
    obtain ⟨wm, hwm⟩ : ∃ wm : World, wm = (w.setCell ⟨gr, b, none⟩ (.bool true)).alloc (.cells #[pv, av, cv, .slice (some ⟨ab, off, none⟩) bs.length c] 25) := ⟨_, rfl⟩
    have hsm : w.heap.size < wm.heap.size := by rw [hwm]; simp
    rw [← hwm] at HW1 HF1 HBX1 ⊢
    clear hwm hmk hmf x4
    go_loopw [3, 10] (fun d u wr => ∃ (i : Nat) (bgi dni : List Nat) (vi : Value), i ≤ m ∧ vi = d ∧ u = .int .i64 i ∧ Hid (Visit (succM bs) ((q.term.to.map Int.toNat).take i) (b :: bg, dn) (bgi, dni)) ∧ Hid (RVis wr B gr bs.length bgi dni vi) ∧ Hid (RFr w wr gr v) ∧ Hid (NewOr w v vi) ∧ Hid (wr.heap[w.heap.size]? = some (.cells #[pv, av, cv, .slice (some ⟨ab, off, none⟩) bs.length c] 25 (0, 0)))) (fun _ u _ => m - (intOf u).toNat)
    case atStart => exact ⟨0, b :: bg, dn, v, Nat.zero_le _, rfl, rfl, by exact hideI (.nil _), HW1, HF1, hideI (NewOr.refl w v), HBX1⟩
    case round =>
      obtain ⟨i, bgi, dni, d, hi, rfl, rfl, HV, HDr, HFr, HNr, HXr⟩ := hrel
      obtain ⟨new, hdid⟩ := HV.out.did
      have hndi : bgi.Nodup := hdid.keepsNodup (List.nodup_cons.2 ⟨HF.out, HND.out⟩)
      have hleni : bgi.length = bg.length + 1 + new.length := hdid.len
      have hdni : dni.length = dn.length + new.length := by have := hdid.done; simp only at this; rw [this, List.length_append]
      have hlti : ∀ x ∈ bgi, x < bs.length := visit_range HIN.out.succ HV.out (fun x hx => HIN.out.succ b x (by rw [HSU.out]; exact List.mem_of_mem_take hx)) (fun x hx => by
        rcases List.mem_cons.1 hx with rfl | hx
        · exact hb
        · exact HLT.out x hx)
      have hlb : bg.length + 1 ≤ bgi.length := by omega
      have hdb0 : dni.length ≤ bgi.length := by omega
      have HNDI := hideI hndi
      have HLTI := hideI hlti
      have hbgl := below_len _ _ hndi hlti
      have hszr : w.heap.size < wr.heap.size := (Array.getElem?_eq_some_iff.1 HXr.out).1
      have HBr : Hid (Below B w wr) := HFr.out.below hgl.1 (fun k hk => (HVS.out.own.lt k hk).1) hBw
      clear hdid hndi hlti hleni hdni
      by_cases hlt : i < m
      · obtain ⟨t, ht⟩ : ∃ t, q.term.to[i]? = some t := ⟨_, List.getElem?_eq_getElem (by rw [HM.out] at hlt; exact hlt)⟩
        have htn := HIN.out q (List.mem_of_getElem? HQ.out) t (List.mem_of_getElem? ht)
        obtain ⟨tn, rfl⟩ : ∃ tn : Nat, t = (tn : Int) := ⟨t.toNat, by omega⟩
        have htl : tn < bs.length := by omega
        have htk : Hid ((q.term.to.map Int.toNat).take (i + 1) = (q.term.to.map Int.toNat).take i ++ [tn]) := by
          show _ = _
          rw [List.take_add_one, List.getElem?_map, ht]
          rfl
        obtain ⟨TA', tc', e0, _, hxx⟩ := HTV.out.keep HBr.out
        cases e0
        obtain ⟨tb, toff, rfl, htb, hcell⟩ := hxx i (by rw [← HM.out]; exact hlt)
        rw [ht] at hcell
        simp only [Option.getD_some] at hcell
        have hmk : wr.cell? ⟨gr, tn, none⟩ = some (.bool (decide (tn ∈ bgi))) := by rw [World.ownsRow.cellAt HDr.out.row tn (by omega), marks_at htl]
        clear hxx ht htn
        by_cases hin2 : tn ∈ bgi
        · have HIN2 := hideI hin2
          rw [show decide (tn ∈ bgi) = true from by simpa using hin2] at hmk
          clear hin2
          go_wp2
          go_roundw
          case rel => exact ⟨i + 1, bgi, dni, d, by omega, rfl, by go_num, by rw [htk.out]; exact hideI (HV.out.append (.skip HIN2.out (.nil _))), HDr, HFr, HNr, HXr⟩
          case measure => simp [intOf]; omega
        · have HIN2 := hideI hin2
          rw [show decide (tn ∈ bgi) = false from by simpa using hin2] at hmk
          clear hin2
          go_wp2
          clear hmk
          have hxr := row_cells HXr.out rfl
          have q0 := hxr 0
          have q1 := hxr 1
          have q2 := hxr 2
          have q3 := hxr 3
          clear hxr
          have G0 : Hid (∀ W, RFr wr W gr d → W.cell? ⟨w.heap.size, 0, none⟩ = some pv ∧ W.cell? ⟨w.heap.size, 1, none⟩ = some av ∧ W.cell? ⟨w.heap.size, 2, none⟩ = some cv ∧ W.cell? ⟨w.heap.size, 3, none⟩ = some (.slice (some ⟨ab, off, none⟩) bs.length c) ∧ W.cell? ⟨tb, toff + i, none⟩ = some (.int .i64 tn)) := by
            intro W hW
            have hx := row_cells HXr.out (hW.block _ hszr hne2 (own_ne' HDr.out.own HXr.out (by decide)))
            exact ⟨hx 0, hx 1, hx 2, hx 3, (World.cell?_of_block (a := ⟨tb, toff + i, none⟩) (hW.block tb (by omega) (by omega) (fun e => by have := (HDr.out.own.lt _ e.symm).1; omega))).trans hcell⟩
          go_region_held3 (fun w' => w'.cell? ⟨w.heap.size, 0, none⟩ = some pv ∧ w'.cell? ⟨w.heap.size, 1, none⟩ = some av ∧ w'.cell? ⟨w.heap.size, 2, none⟩ = some cv ∧ w'.cell? ⟨w.heap.size, 3, none⟩ = some (.slice (some ⟨ab, off, none⟩) bs.length c) ∧ w'.cell? ⟨tb, toff + i, none⟩ = some (.int .i64 tn)) (first | go_keep | exact G0.out _ (RFr.drew hfr2))
            (first | (go_at_call 34; refine (HIH.out bgi dni d tn _ (by omega) HNDI.out HLTI.out (by omega) htl HIN2.out (HBL.out.keeps (Keeps.heap' (Keeps.of_below HBr.out) (by rfl))) (HDr.out.heap (by rfl)) (by exact Nat.le_trans hBw HBr.out.size)).mono ?_; rintro e w2 ⟨bg2, dn2, v2, rfl, hv2, hd2, hfr2, hn2⟩))
          have HV2 := hideI hv2
          have HD2 := hideI hd2
          have HF2 := hideI (HFr.out.trans HNr.out hfr2.drew)
          have HN2 := hideI (NewOr.trans HFr.out HNr.out hn2.drew)
          have HX2 : Hid (w2.heap[w.heap.size]? = some (.cells #[pv, av, cv, .slice (some ⟨ab, off, none⟩) bs.length c] 25 (0, 0))) := (hfr2.drew.block _ hszr hne2 (own_ne' HDr.out.own HXr.out (by decide))).trans HXr.out
          clear hv2 hd2 hfr2 hn2 q0 q1 q2 q3 hcell
          go_wp2
          go_roundw
          case rel => exact ⟨i + 1, bg2, dn2 ++ [tn], v2, by omega, rfl, by go_num, by rw [htk.out]; exact hideI (HV.out.append (.go HIN2.out HV2.out (.nil _))), HD2, HF2, HN2, HX2⟩
          case measure => simp [intOf]; omega
      · obtain ⟨i0, hix, hz0, hz1, hz2⟩ := info_parts int_info
        have hall : (q.term.to.map Int.toNat).take i = succM bs b := by rw [HSU.out, List.take_of_length_le (by rw [List.length_map, ← HM.out]; omega)]
        rw [hall] at HV
        have hown := HDr.out.own
        clear hall
        have hBr2 : B ≤ wr.heap.size := Nat.le_trans hBw HBr.out.size
        go_wp2_with (at_builtin; go_must (refine wpList_append_lies _ rfl _ _ _ rfl B 3 i0 (.int .i64 0) 1 8 Try.underlying22 hix hz0 hz1 hz2 rfl (by decide) _ _ _ rfl (hown.alloc _) ⟨wr.heap.size, 0, none⟩ 1 1 [.int .i64 b] rfl rfl (one_new wr _) (by simp [Value.oneCell']) (by decide) (by simp only [maxLen]; omega) (by omega) (by simp; omega) _ rfl ?_); intro g1 cap1 w1 hown1 hgrow1 hor1 _; go_must (have HP := hideI (rv_push HDr.out hown1 hgrow1 hor1); clear hown1 hgrow1 hor1))
        go_ret
        exact ⟨bgi, dni, _, rfl, HV.out, HP.out.1, HFr.out.trans HNr.out HP.out.2.1, NewOr.trans HFr.out HNr.out HP.out.2.2⟩

end Go.Proofs.Ytgmikokdiafjgaa

namespace Go.Proofs.Ytgmikokdiafjgaa
open Go.RowKit Go.Maps

theorem take_rev {l : List Nat} {j k x : Nat} (hx : l[k]? = some x) (hk : k + j + 1 = l.length) : natInts (l.reverse.take (j + 1)) = natInts (l.reverse.take j) ++ [.int .i64 (x : Int)] := by
  have : l.reverse[j]? = some x := by rw [List.getElem?_reverse (by omega), ← hx]; congr 1; omega
  unfold natInts
  rw [List.take_add_one, this]
  simp

theorem rvis_new (w : World) (n : Nat) (hn : n ≤ 512) : RVis (w.alloc (.cells (madeCells #[.bool false] n) 4)) w.heap.size w.heap.size n [] [] (.slice none 0 0) := by
  refine ⟨?_, World.ownsRow_nil _ _ _ _⟩
  have h1 := marks_made n
  rw [Nat.mul_one, show (Value.bool false).cells = #[Value.bool false] from rfl] at h1
  rw [← h1]
  exact World.ownsRow_lit w _ n (Nat.le_refl _) (by unfold maxLen; omega) (by simp [madeCells])

set_option maxRecDepth 100000 in
set_option maxHeartbeats 4000000 in
theorem refOrder_any (bs : List BlockM) (B : Nat) (pv av cv bv : Value) (w : World) (hbv : BlocksR w B bv bs) (hB : B ≤ w.heap.size) (h0 : 0 < bs.length) (hn5 : bs.length ≤ 512) (hin : EndsIn bs) :
    Calls Try.prog 18 #[.agg #[pv, av, cv, bv]] w (OrdPost bs w) := by
  have HBL := hideI hbv
  have HIN := hideI hin
  obtain ⟨A, c, rfl, hbm, _⟩ := hbv
  obtain ⟨i0, hix, hz0, hz1, hz2⟩ := info_parts bool_info
  have hmk : ∀ W : World, (Instr.makeSlice 31 (.int .i64 (bs.length : Int)) (.int .i64 (bs.length : Int))).run Try.prog W = .ok (.slice (some ⟨W.heap.size, 0, none⟩) bs.length bs.length) (W.alloc (.cells (madeCells (Value.bool false).cells (bs.length * 1)) 4)) := by
    intro W
    have := run_make (P := Try.prog) W 31 4 i0 (.bool false) Try.underlying31 hix hz0 .i64 .i64 (bs.length : Int) (bs.length : Int) (by omega) (Int.le_refl _) (by rw [hz2]; omega) (by omega)
    rw [hz1] at this
    simpa using this
  obtain ⟨W0, hW0⟩ : ∃ W0 : World, W0 = w.alloc (.cells #[pv, av, cv, .slice A bs.length c] 25) := ⟨_, rfl⟩
  have hs0 : w.heap.size < W0.heap.size := by rw [hW0]; simp
  have HBX : Hid (W0.heap[w.heap.size]? = some (.cells #[pv, av, cv, .slice A bs.length c] 25 (0, 0))) := by rw [hW0]; exact heap_alloc_new w _
  have HB0 : Hid (Below w.heap.size w W0) := by rw [hW0]; exact (Below.refl _ w).alloc (Nat.le_refl _) _
  have HW0 := hideI hW0
  clear hin hW0
  go_enter Try.func18, Try.ntmps18
  go_wp2
  rw [← HW0.out]
  have hxr := row_cells HBX.out rfl
  have q0 := hxr 0
  have q1 := hxr 1
  have q2 := hxr 2
  have q3 := hxr 3
  clear hxr
  have G0 : Hid (∀ W, Below W0.heap.size W0 W → W.cell? ⟨w.heap.size, 0, none⟩ = some pv ∧ W.cell? ⟨w.heap.size, 1, none⟩ = some av ∧ W.cell? ⟨w.heap.size, 2, none⟩ = some cv ∧ W.cell? ⟨w.heap.size, 3, none⟩ = some (.slice A bs.length c)) := by
    intro W hW
    have hx := row_cells HBX.out (hW.block _ hs0)
    exact ⟨hx 0, hx 1, hx 2, hx 3⟩
  have HV0 := hideI (rvis_new W0 bs.length hn5)
  have HBW : Hid (BlocksR W0 W0.heap.size (.slice A bs.length c) bs) := (HBL.out.keeps (Keeps.of_below (HB0.out.mono hB))).more' (by omega)
  go_region_held3 (fun w' => w'.cell? ⟨w.heap.size, 0, none⟩ = some pv ∧ w'.cell? ⟨w.heap.size, 1, none⟩ = some av ∧ w'.cell? ⟨w.heap.size, 2, none⟩ = some cv ∧ w'.cell? ⟨w.heap.size, 3, none⟩ = some (.slice A bs.length c)) (first | go_keep | exact G0.out _ hfb)
    (first | (go_at_call 34; refine (refVisit_any bs W0.heap.size W0.heap.size pv av cv _ hn5 HIN.out bs.length [] [] _ 0 _ (by simp) (by simp) (by simp) (by simp) h0 (by simp) (HBW.out.keeps (by exact Keeps.heap' ((Keeps.refl W0).alloc (Nat.le_refl _) _) (by rfl))) (HV0.out.heap (by rfl)) (by simp)).mono ?_; rintro e w2 ⟨bg, dn, v2, rfl, hv, hd, hf, hn⟩; have hfb : Below W0.heap.size W0 w2 := ((Below.refl _ W0).alloc (Nat.le_refl _) _).trans (hf.drew.below (Nat.le_refl _) (fun k hk => by cases hk) (by simp))))
  obtain ⟨l, hl⟩ : ∃ l, l = dn ++ [0] := ⟨_, rfl⟩
  rw [← hl] at hd
  have HL := hideI hl
  obtain ⟨hl0, hl1⟩ := ord_len HIN.out h0 hv hl
  have HV := hideI hv
  have HOWN := hideI hd.own
  obtain ⟨g, cap, rfl, hg1, hg2⟩ := hd.own.form hl0
  have HB2 := hideI (HB0.out.trans (hfb.mono (Nat.le_of_lt hs0)))
  have hs2 := hfb.size
  have HR0 := hideI (World.ownsRow_made (base := w2.heap.size) (e := 3) (size := 1) w2 #[] 0 (Nat.le_refl _) (by decide) rfl)
  clear hv hd hf hn hl hfb hmk q0 q1 q2 q3 hix hz0 hz1 hz2
  go_wp2
  obtain ⟨i1, hjx, hy0, hy1, hy2⟩ := info_parts int_info
  go_loopw [4, 5] (fun d u wr => ∃ (j : Nat) (z : Int) (vo : Value), j ≤ l.length ∧ vo = d ∧ u = .int .i64 z ∧ Hid (z = (l.length : Int) - 1 - j) ∧ Hid (wr.ownsRow w2.heap.size 3 1 vo j (natInts (l.reverse.take j))) ∧ Hid (Below w2.heap.size w2 wr)) (fun _ u _ => (intOf u + 1).toNat)
  case atStart => exact ⟨0, (l.length : Int) - 1, _, Nat.zero_le _, rfl, rfl, hideI (by simp), HR0, hideI ((Below.refl _ _).alloc (Nat.le_refl _) _)⟩
  case round =>
    obtain ⟨j, z, vo, hj, rfl, rfl, HZ, HO, HBr⟩ := hrel
    have hsr := HBr.out.size
    by_cases hlt : j < l.length
    · obtain ⟨k, rfl⟩ : ∃ k : Nat, z = (k : Int) := ⟨z.toNat, by have := HZ.out; omega⟩
      have hkj : k + j + 1 = l.length := by have := HZ.out; omega
      have hkl : k < l.length := by omega
      obtain ⟨x, hx⟩ : ∃ x, l[k]? = some x := ⟨_, List.getElem?_eq_getElem hkl⟩
      have c1 : wr.cell? ⟨g, k, none⟩ = some (.int .i64 (x : Int)) := nat_cell (own_kept_below HOWN.out HBr.out (fun i hi => by cases hi; exact hg2)) hx
      have HT := hideI (take_rev hx hkj)
      have HZ2 : Hid ((k : Int) - 1 = (l.length : Int) - 1 - ((j + 1 : Nat) : Int)) := by show _ = _; omega
      clear hx hkj
      go_wp2_with (at_builtin; go_must (refine wpList_append_lies _ rfl _ _ _ rfl w2.heap.size 3 i1 (.int .i64 0) 1 8 Try.underlying22 hjx hy0 hy1 hy2 rfl (by decide) _ _ _ rfl (HO.out.alloc _) ⟨wr.heap.size, 0, none⟩ 1 1 [.int .i64 x] rfl rfl (one_new wr _) (by simp [Value.oneCell']) (by decide) (by simp only [maxLen]; omega) (by omega) (by simp; omega) _ rfl ?_); intro g1 cap1 w3 hown1 hgrow1 hor1 _; go_must (rw [← HT.out] at hown1; have HO3 := hideI hown1; have HB3 : Hid (Below w2.heap.size w2 w3) := hideI ((HBr.out.alloc hsr _).grown hgrow1 (by simp; omega) (fun b hb => (HO.out.lt b hb).1)); clear hown1 hgrow1 hor1))
      go_roundw
      case rel => exact ⟨j + 1, (k : Int) - 1, _, by omega, rfl, by rfl, HZ2, HO3, HB3⟩
      case measure => simp [intOf]
    · obtain rfl : z = -1 := by have := HZ.out; omega
      have hjl : j = l.length := by omega
      have HE : Hid (l.reverse.take j = l.reverse) := List.take_of_length_le (by rw [List.length_reverse]; omega)
      rw [HE.out] at HO
      obtain ⟨g4, cap4, rfl, _, _⟩ := HO.out.form (by omega)
      rw [hjl] at HO
      have HJ := hideI hjl
      clear hjl
      go_wp2
      go_ret
      rw [HJ.out]
      exact ord_post HIN.out h0 HV.out HL.out (by omega) HO.out (HB2.out.trans (HBr.out.mono (by omega)))

end Go.Proofs.Ytgmikokdiafjgaa
