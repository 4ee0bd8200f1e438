/- The reference's Values: all values of a function, in their order. -/
import Derived.Test.YtclbhbnidodmdaaUsed
namespace Go.Proofs.Ytclbhbnidodmdaa
open Go.RowKit

theorem val_info : (Try.prog.info? 74).map (fun i => (i.zero, i.size, i.bytes)) = some (some (.agg #[.int .i64 0, .int .i64 0]), 2, 16) := by kernel_rfl

def valCells (vs : List (Int × Int)) : List Value := vs.flatMap fun d => [.int .i64 d.1, .int .i64 d.2]

/-- the slice v is the call's own row of values -/
def RV (w : World) (base : Nat) (v : Value) (vs : List (Int × Int)) : Prop := w.ownsRow base 74 2 v vs.length (valCells vs)

theorem RV.push {w' : World} {base : Nat} {v' : Value} {vs : List (Int × Int)} {a b : Int} (h : w'.ownsRow base 74 2 v' (vs.length + 1) (valCells vs ++ [.int .i64 a, .int .i64 b])) : RV w' base v' (vs ++ [(a, b)]) := by
  unfold RV valCells at *
  rw [List.length_append, List.flatMap_append]
  exact h

theorem RV.alloc {w : World} {base : Nat} {v : Value} {vs : List (Int × Int)} (h : RV w base v vs) (o : Obj) : RV (w.alloc o) base v vs := World.ownsRow.alloc h o

theorem RV.below {w w' : World} {base : Nat} {v : Value} {vs : List (Int × Int)} (h : RV w base v vs) (hb : Below w.heap.size w w') : RV w' base v vs :=
  World.ownsRow.kept (row := none) h ⟨hb.os, hb.tape, hb.output, hb.size, fun k hk _ => hb.block k hk⟩ (by
    cases hv : v.ownBlock with
    | none => exact .inl rfl
    | some k => exact .inr (by simp))

/-- what a walk keeps that appends to a row of values: all but that row -/
structure Kv (base : Nat) (w w' : World) : Prop where
  os : w'.os = w.os
  tape : w'.tape = w.tape
  output : w'.output = w.output
  size : w.heap.size ≤ w'.heap.size
  low : ∀ b, b < base → w'.heap[b]? = w.heap[b]?
  other : ∀ (b : Nat) (cs : Array Value) (t : TypeId), w.heap[b]? = some (Obj.cells cs t (0, 0)) → t ≠ 74 → w'.heap[b]? = some (Obj.cells cs t (0, 0))

theorem Kv.refl (base : Nat) (w : World) : Kv base w w := ⟨rfl, rfl, rfl, Nat.le_refl _, fun _ _ => rfl, fun _ _ _ h _ => h⟩
theorem Kv.trans {base : Nat} {a b c : World} (h : Kv base a b) (k : Kv base b c) : Kv base a c :=
  ⟨k.os.trans h.os, k.tape.trans h.tape, k.output.trans h.output, Nat.le_trans h.size k.size, fun i hi => (k.low i hi).trans (h.low i hi), fun i cs t hi ht => k.other i cs t (h.other i cs t hi ht) ht⟩
theorem Kv.of_below {base : Nat} {w w' : World} (h : Below w.heap.size w w') (hb : base ≤ w.heap.size) : Kv base w w' :=
  ⟨h.os, h.tape, h.output, h.size, fun i hi => h.block i (by omega), fun i cs t hi _ => (h.block i (lt_of_heap hi)).trans hi⟩
theorem Kv.alloc {base : Nat} {a w : World} (h : Kv base a w) (hb : base ≤ w.heap.size) (o : Obj) : Kv base a (w.alloc o) := h.trans (Kv.of_below ((Below.refl _ _).alloc (Nat.le_refl _) o) hb)
theorem Kv.drew {base : Nat} {a w : World} (h : Kv base a w) : Kv base a w.drew := h.trans ⟨rfl, rfl, rfl, Nat.le_refl _, fun _ _ => rfl, fun _ _ _ h _ => h⟩
theorem Kv.grown {base n : Nat} {w w' : World} {v : Value} {xs : List Value} (hg : w.grownBy w' v.ownBlock) (ho : w.ownsRow base 74 2 v n xs) (hb : base ≤ w.heap.size) : Kv base w w' :=
  ⟨hg.os, hg.tape, hg.output, hg.size, fun i hi => hg.block i (by omega) (fun e => by have := (ho.lt i e.symm).1; omega), fun i cs t hi ht => (hg.block i (lt_of_heap hi) (own_ne' ho hi (fun e => ht e.symm))).trans hi⟩
theorem Kv.keeps {base : Nat} {w w' : World} (h : Kv base w w') : Keeps base w w' := fun b o hb => World.cell?_of_block (a := ⟨b, o, none⟩) (h.low b hb)
theorem Kv.row {base g : Nat} {w w' : World} {cs : Array Value} {t : TypeId} (h : Kv base w w') (hg : w.heap[g]? = some (.cells cs t (0, 0))) (ht : t ≠ 74) : ∀ o, w'.cell? ⟨g, o, none⟩ = cs[o]? :=
  row_cells hg ((h.other g cs t hg ht).trans hg.symm)
theorem Kv.below {w w' : World} (h : Kv w.heap.size w w') : Below w.heap.size w w' := ⟨h.os, h.tape, h.output, h.size, h.low⟩

theorem two_new (w : World) (cs : List Value) (t : TypeId) : ∀ (j : Nat) (u : Value), cs[j]? = some u → (w.alloc (.cells cs.toArray t)).cell? ((⟨w.heap.size, 0, none⟩ : Addr).add j) = some u := five_new w cs t

def valuesInstr (x : InstrM) : List (Int × Int) := if 0 < makesS x.op then [(x.id, makesS x.op)] else []
def valuesBlock (q : BlockM) : List (Int × Int) := (q.phis.map fun p => (p.id, p.typ)) ++ q.code.flatMap valuesInstr
def valuesM (f : FuncM) : List (Int × Int) := paramDefs 0 f.params ++ f.blocks.flatMap valuesBlock

theorem paramDefs_take {l : List Int} {k : Nat} {t : Int} (h : l[k]? = some t) : paramDefs 0 (l.take (k + 1)) = paramDefs 0 (l.take k) ++ [((k : Int), t)] := by
  obtain ⟨hk, rfl⟩ := List.getElem?_eq_some_iff.1 h
  rw [List.take_succ_eq_append_getElem hk, paramDefs_snoc, List.length_take]
  congr 3
  omega

theorem valuesBlock_len (q : BlockM) : (valuesBlock q).length ≤ sizeB q := by
  unfold valuesBlock sizeB
  rw [List.length_append, List.length_map]
  have := flat_len valuesInstr 1 q.code (fun x _ => by unfold valuesInstr; split <;> simp)
  omega

theorem values_len : ∀ l : List BlockM, (l.flatMap valuesBlock).length ≤ (l.map sizeB).sum := by
  intro l
  induction l with
  | nil => simp
  | cons q l ih =>
    rw [List.flatMap_cons, List.length_append, List.map_cons, List.sum_cons]
    have := valuesBlock_len q
    omega

/-- the values are few enough -/
def FewV (f : FuncM) : Prop := f.params.length ≤ 16 ∧ sizeM f ≤ 4096

theorem fewv_par {f : FuncM} (h : FewV f) (k : Nat) : (paramDefs 0 (f.params.take k)).length < 5000 := by
  rw [paramDefs_len, List.length_take]
  have := h.1
  omega

theorem fewv_phi {f : FuncM} (h : FewV f) {k j : Nat} {q : BlockM} (hq : f.blocks[k]? = some q) (hj : j < q.phis.length) (vs1 : List (Int × Int)) (h1 : vs1 = paramDefs 0 f.params ++ (f.blocks.take k).flatMap valuesBlock) :
    (vs1 ++ (q.phis.take j).map fun p => (p.id, p.typ)).length < 5000 := by
  have a := flat_at_le valuesBlock f.blocks k q hq
  have b := values_len f.blocks
  have c : q.phis.length ≤ (valuesBlock q).length := by unfold valuesBlock; rw [List.length_append, List.length_map]; omega
  have d := h.1
  have e := h.2
  unfold sizeM at e
  rw [h1]
  simp only [List.length_append, List.length_map, List.length_take, paramDefs_len]
  omega

theorem fewv_code {f : FuncM} (h : FewV f) {k j : Nat} {q : BlockM} (hq : f.blocks[k]? = some q) (vs1 vs2 : List (Int × Int)) (h1 : vs1 = paramDefs 0 f.params ++ (f.blocks.take k).flatMap valuesBlock) (h2 : vs2 = vs1 ++ q.phis.map fun p => (p.id, p.typ)) :
    (vs2 ++ (q.code.take j).flatMap valuesInstr).length < 5000 := by
  have a := flat_at_le valuesBlock f.blocks k q hq
  have b := values_len f.blocks
  have c : q.phis.length + ((q.code.take j).flatMap valuesInstr).length ≤ (valuesBlock q).length := by
    have := flat_take_le valuesInstr q.code j
    unfold valuesBlock; rw [List.length_append, List.length_map]; omega
  have d := h.1
  have e := h.2
  unfold sizeM at e
  rw [h2, h1]
  simp only [List.length_append, List.length_map, paramDefs_len]
  omega

set_option maxRecDepth 100000 in
set_option maxHeartbeats 8000000 in
theorem refValues_any (f : FuncM) (B : Nat) (pv bv : Value) (w : World) (hpv : Ints w B pv f.params) (hbv : BlocksR w B bv f.blocks) (hB : B ≤ w.heap.size) (hfew : FewV f) (hl5 : f.blocks.length ≤ 512) :
    Calls Try.prog 42 #[.agg #[pv, .int .i64 f.arrays, .int .i64 f.cells, bv]] w fun e w' => ∃ v, e = .returned v ∧ RV w' w.heap.size v (valuesM f) ∧ Below w.heap.size w w' := by
  have HFEW := hideI hfew
  obtain ⟨i0, hi, hz0, hz1, hz2⟩ := info_parts val_info
  obtain ⟨A, c, rfl, hbm, hbx⟩ := hbv
  obtain ⟨P, pc, rfl, hpm, hpx⟩ := hpv
  have HX := hideI hbx
  have HP := hideI hpx
  have hp16 := hfew.1
  clear hbx hfew hpx
  obtain ⟨W0, hW0⟩ : ∃ W0 : World, W0 = (w.alloc (.cells #[.slice P f.params.length pc, .int .i64 f.arrays, .int .i64 f.cells, .slice A f.blocks.length c] 25)).alloc (.cells #[] 74) := ⟨_, rfl⟩
  have hK0 : Hid (Kv w.heap.size w W0) := by rw [hW0]; exact ((Kv.refl _ w).alloc (Nat.le_refl _) _).alloc (by simp) _
  have hbox0 : Hid (W0.heap[w.heap.size]? = some (.cells #[.slice P f.params.length pc, .int .i64 f.arrays, .int .i64 f.cells, .slice A f.blocks.length c] 25 (0, 0))) := by
    show _ = _
    rw [hW0, Below.heap_alloc _ _ _ (by simp)]
    exact heap_alloc_new w _
  have hR0 : Hid (RV W0 w.heap.size (.slice (some ⟨w.heap.size + 1, 0, none⟩) 0 0) []) := by
    have := World.ownsRow_made (base := w.heap.size) (e := 74) (size := 2) (w.alloc (.cells #[.slice P f.params.length pc, .int .i64 f.arrays, .int .i64 f.cells, .slice A f.blocks.length c] 25)) #[] 0 (by simp) (by decide) rfl
    show RV W0 _ _ _
    rw [hW0]
    unfold RV
    simpa [valCells] using this
  have HW0 := hideI hW0
  clear hW0
  go_enter Try.func42, Try.ntmps42
  go_wp2
  rw [← HW0.out]
  go_loopw [3, 4] (fun o i wr => ∃ k : Nat, k ≤ f.params.length ∧ i = .int .i64 k ∧ RV wr w.heap.size o (paramDefs 0 (f.params.take k)) ∧ Kv w.heap.size W0 wr) (fun _ i _ => f.params.length - (intOf i).toNat)
  case atStart => exact ⟨0, Nat.zero_le _, rfl, by simpa [paramDefs] using hR0.out, Kv.refl _ _⟩
  case round =>
    obtain ⟨k, hk, rfl, hIk, hFk⟩ := hrel
    have HIk := hideI hIk
    have HFk := hideI hFk
    have hx := hFk.row hbox0.out (by decide)
    have hsz : w.heap.size < wr.heap.size := by have h1 := hFk.size; have h2 := lt_of_heap hbox0.out; omega
    have HK := hideI (Keeps.mono' (hK0.out.trans hFk).keeps hB)
    clear hIk hFk
    by_cases hlt : k < f.params.length
    · obtain ⟨b3, off3, rfl, hb3, e3⟩ := HP.out k hlt
      obtain ⟨t, ht⟩ : ∃ t, f.params[k]? = some t := ⟨_, List.getElem?_eq_getElem hlt⟩
      rw [ht] at e3
      have f3 := (HK.out b3 (off3 + k) hb3).trans e3
      simp only [Option.getD_some] at f3
      have HT := hideI ht
      have hfw := fewv_par HFEW.out k
      obtain ⟨uu, huu⟩ : ∃ uu, uu = paramDefs 0 (f.params.take k) := ⟨_, rfl⟩
      rw [← huu] at hfw HIk
      have HUU := hideI huu
      clear e3 ht huu
      have hown := HIk.out
      unfold RV at hown
      go_wp2_with (at_builtin; refine wpList_append_lies _ rfl _ _ _ rfl w.heap.size 74 i0 _ 2 16 Try.underlying71 hi hz0 hz1 hz2 rfl (by decide) _ _ _ rfl (hown.alloc _) ⟨wr.heap.size, 0, none⟩ 1 1 [.int .i64 k, .int .i64 t] rfl rfl (two_new _ _ _) (by simp [Value.oneCell']) (by decide) (by unfold maxLen; omega) (by omega) (by simp; omega) _ rfl ?_; intro g1 cap1 w4 hown1 hgrow1 hor hgl1; have hka := hideI (Kv.grown hgrow1 (hown.alloc _) (by simp; omega)); have HO1 := hideI hown1; clear hown1 hgrow1 hor hgl1)
      go_roundw
      case rel => exact ⟨k + 1, by omega, by go_num, by rw [paramDefs_take HT.out, ← HUU.out]; exact RV.push HO1.out, (HFk.out.alloc (by omega) _).trans hka.out⟩
      case measure => simp [intOf]; omega
    · have HIend : Hid (RV wr w.heap.size u3 (paramDefs 0 f.params)) := by have := HIk.out; rw [List.take_of_length_le (by omega)] at this; exact this
      go_wp2
      obtain ⟨wa, rfl⟩ : ∃ wa : World, wa = wr := ⟨_, rfl⟩
      clear hx hsz HK hlt
      go_loopw [3, 5] (fun o i wr => ∃ k : Nat, k ≤ f.blocks.length ∧ i = .int .i64 k ∧ RV wr w.heap.size o (paramDefs 0 f.params ++ (f.blocks.take k).flatMap valuesBlock) ∧ Kv w.heap.size W0 wr) (fun _ i _ => f.blocks.length - (intOf i).toNat)
      case atStart => exact ⟨0, Nat.zero_le _, rfl, by simpa using HIend.out, HFk.out⟩
      case round =>
        obtain ⟨k, hk, rfl, hIk, hFk⟩ := hrel
        have HIk := hideI hIk
        have HFk := hideI hFk
        have hx := hFk.row hbox0.out (by decide)
        have hsz : w.heap.size < wr.heap.size := by have h1 := hFk.size; have h2 := lt_of_heap hbox0.out; omega
        have HK := hideI (Keeps.mono' (hK0.out.trans hFk).keeps hB)
        clear hIk hFk
        by_cases hlt : k < f.blocks.length
        · obtain ⟨q, hq⟩ : ∃ q, f.blocks[k]? = some q := ⟨_, List.getElem?_eq_getElem hlt⟩
          obtain ⟨b, off, qpv, qcv, qtv, rfl, hb, e0, e1, e2, e3, e4, e5, hpv, hcv, htv, _⟩ := HX.out k q hq
          have c0 := (HK.out b (off + k * 6) hb).trans e0
          have c1 := (HK.out b (off + k * 6 + 1) hb).trans e1
          have c2 := (HK.out b (off + k * 6 + 2) hb).trans e2
          have c3 := (HK.out b (off + k * 6 + 3) hb).trans e3
          have c4 := (HK.out b (off + k * 6 + 4) hb).trans e4
          have c5 := (HK.out b (off + k * 6 + 5) hb).trans e5
          have HQ := hideI hq
          obtain ⟨PA, pc2, rfl, hpm2, hpx⟩ := hpv
          obtain ⟨CA, cc, rfl, hcm, hcx⟩ := hcv
          obtain ⟨TA, tc, rfl, _⟩ := htv
          have HPX := hideI hpx
          have HCX := hideI hcx
          clear e0 e1 e2 e3 e4 e5 hq hpx hcx
          obtain ⟨wo, rfl⟩ : ∃ wo : World, wo = wr := ⟨_, rfl⟩
          obtain ⟨W1, hW1⟩ : ∃ W1 : World, W1 = wo.alloc (.cells #[.slice PA q.phis.length pc2, .slice CA q.code.length cc, .int .i64 q.term.op, .int .i64 q.term.val, .slice TA q.term.to.length tc, .int .i64 q.term.n] 54) := ⟨_, rfl⟩
          have HF1 : Hid (Kv w.heap.size W0 W1) := by rw [hW1]; exact HFk.out.alloc (by omega) _
          have HI1 : Hid (RV W1 w.heap.size u3 (paramDefs 0 f.params ++ (f.blocks.take k).flatMap valuesBlock)) := by rw [hW1]; exact HIk.out.alloc _
          have HB1 : Hid (W1.heap[wo.heap.size]? = some (.cells #[.slice PA q.phis.length pc2, .slice CA q.code.length cc, .int .i64 q.term.op, .int .i64 q.term.val, .slice TA q.term.to.length tc, .int .i64 q.term.n] 54 (0, 0))) := by rw [hW1]; exact heap_alloc_new wo _
          have HW1 := hideI hW1
          clear hW1
          obtain ⟨us1, hus1⟩ : ∃ us1, us1 = paramDefs 0 f.params ++ (f.blocks.take k).flatMap valuesBlock := ⟨_, rfl⟩
          rw [← hus1] at HI1
          have HU1 := hideI hus1
          clear hus1
          go_wp2
          rw [← HW1.out]
          go_loopw [3, 7] (fun o i wr => ∃ j : Nat, j ≤ q.phis.length ∧ i = .int .i64 j ∧ RV wr w.heap.size o (us1 ++ (q.phis.take j).map fun p => (p.id, p.typ)) ∧ Kv w.heap.size W1 wr) (fun _ i _ => q.phis.length - (intOf i).toNat)
          case atStart => exact ⟨0, Nat.zero_le _, rfl, by simpa using HI1.out, Kv.refl _ _⟩
          case round =>
            obtain ⟨j, hj, rfl, hIj, hFj⟩ := hrel
            have HIj := hideI hIj
            have HFj := hideI hFj
            have hx1 := hFj.row HB1.out (by decide)
            have hsz1 : wo.heap.size < wr.heap.size := by have h1 := hFj.size; have h2 := lt_of_heap HB1.out; omega
            have hsz2 : w.heap.size ≤ wr.heap.size := by omega
            have HK1 := hideI (Keeps.mono' ((hK0.out.trans HF1.out).trans hFj).keeps hB)
            clear hIj hFj
            by_cases hlj : j < q.phis.length
            · obtain ⟨p, hp⟩ : ∃ p, q.phis[j]? = some p := ⟨_, List.getElem?_eq_getElem hlj⟩
              obtain ⟨b2, off2, fv, vv, rfl, hb2, e0, e1, e2, e3, hf, hv, _⟩ := HPX.out j p hp
              have HQ2 := hideI hp
              have d0 := (HK1.out b2 (off2 + j * 4) hb2).trans e0
              have d1 := (HK1.out b2 (off2 + j * 4 + 1) hb2).trans e1
              have g0 : wr.cell? ⟨wo.heap.size, 0, none⟩ = some (.slice (some ⟨b2, off2, none⟩) q.phis.length pc2) := hx1 0
              have hfw := fewv_phi HFEW.out HQ.out hlj us1 HU1.out
              obtain ⟨uu, huu⟩ : ∃ uu, uu = us1 ++ (q.phis.take j).map fun p => (p.id, p.typ) := ⟨_, rfl⟩
              rw [← huu] at hfw HIj
              have HUU := hideI huu
              have hown := HIj.out
              unfold RV at hown
              clear e0 e1 e2 e3 hp huu hx1
              have G0 : Hid (∀ W, Kv w.heap.size wr W → W.cell? ⟨wo.heap.size, 0, none⟩ = some (.slice (some ⟨b2, off2, none⟩) q.phis.length pc2) ∧ W.cell? ⟨b2, off2 + j * 4, none⟩ = some (.int .i64 p.id) ∧ W.cell? ⟨b2, off2 + j * 4 + 1, none⟩ = some (.int .i64 p.typ)) :=
                fun W hW => ⟨(HFj.out.trans hW).row HB1.out (by decide) 0, (hW.keeps _ _ (by omega)).trans d0, (hW.keeps _ _ (by omega)).trans d1⟩
              go_wp2
              go_region_held3 (fun w' => w'.cell? ⟨wo.heap.size, 0, none⟩ = some (.slice (some ⟨b2, off2, none⟩) q.phis.length pc2) ∧ w'.cell? ⟨b2, off2 + j * 4, none⟩ = some (.int .i64 p.id) ∧ w'.cell? ⟨b2, off2 + j * 4 + 1, none⟩ = some (.int .i64 p.typ)) (first | go_keep | exact G0.out _ ((((Kv.refl _ wr).alloc hsz2 _).drew).trans hka) | exact G0.out _ (((Kv.refl _ wr).alloc hsz2 _).trans hka))
                (first | (refine step_append_lies _ rfl (.tmp 50) (.tmp 64) _ rfl w.heap.size 74 i0 _ 2 16 Try.underlying71 hi hz0 hz1 hz2 rfl (by decide) _ _ _ rfl (hown.alloc _) ⟨wr.heap.size, 0, none⟩ 1 1 [.int .i64 p.id, .int .i64 p.typ] rfl rfl (two_new _ _ _) (by simp [Value.oneCell']) (by decide) (by unfold maxLen; omega) (by omega) (by simp; omega) _ rfl ?_; intro g1 cap1 w4 hown1 hgrow1 hor hgl1; have hka := Kv.grown hgrow1 (hown.alloc _) (by simp; omega)))
              have HIN : Hid (RV w4 w.heap.size (.slice (some ⟨g1, 0, none⟩) (uu.length + 1) cap1) (us1 ++ (q.phis.take (j + 1)).map fun p => (p.id, p.typ))) := by
                have := RV.push hown1
                rw [map_take' (fun p : PhiM => (p.id, p.typ)) q.phis j p HQ2.out, ← List.append_assoc, ← HUU.out]
                exact this
              have HFN : Hid (Kv w.heap.size W1 w4) := (HFj.out.trans (((Kv.refl _ wr).alloc hsz2 _).drew)).trans hka
              clear hown1 hgrow1 hor hgl1 hka
              go_wp2
              go_roundw
              case rel => exact ⟨j + 1, by omega, by go_num, HIN.out, HFN.out⟩
              case measure => simp [intOf]; omega
            · have HIend : Hid (RV wr w.heap.size u3 (us1 ++ q.phis.map fun p => (p.id, p.typ))) := by have := HIj.out; rw [List.take_of_length_le (by omega)] at this; exact this
              go_wp2
              obtain ⟨wp, rfl⟩ : ∃ wp : World, wp = wr := ⟨_, rfl⟩
              clear hx1 hsz1 hsz2 HK1 hlj
              obtain ⟨us3, hus3⟩ : ∃ us3, us3 = us1 ++ q.phis.map fun p => (p.id, p.typ) := ⟨_, rfl⟩
              rw [← hus3] at HIend
              have HU3 := hideI hus3
              clear hus3
              go_loopw [3, 8] (fun o i wr => ∃ j : Nat, j ≤ q.code.length ∧ i = .int .i64 j ∧ RV wr w.heap.size o (us3 ++ (q.code.take j).flatMap valuesInstr) ∧ Kv w.heap.size W1 wr) (fun _ i _ => q.code.length - (intOf i).toNat)
              case atStart => exact ⟨0, Nat.zero_le _, rfl, by simpa using HIend.out, HFj.out⟩
              case round =>
                obtain ⟨j2, hj2, rfl, hIj2, hFj2⟩ := hrel
                have HIj2 := hideI hIj2
                have HFj2 := hideI hFj2
                have hx1 := hFj2.row HB1.out (by decide)
                have hsz1 : wo.heap.size < wr.heap.size := by have h1 := hFj2.size; have h2 := lt_of_heap HB1.out; omega
                have hsz0 : w.heap.size ≤ wr.heap.size := by omega
                have HK1 := hideI (Keeps.mono' ((hK0.out.trans HF1.out).trans hFj2).keeps hB)
                clear hIj2 hFj2
                by_cases hlj2 : j2 < q.code.length
                · obtain ⟨x, hp⟩ : ∃ x, q.code[j2]? = some x := ⟨_, List.getElem?_eq_getElem hlj2⟩
                  obtain ⟨b2, off2, av, rfl, hb2, e0, e1, e2, e3, hf, _⟩ := HCX.out j2 x hp
                  have d0 := (HK1.out b2 (off2 + j2 * 4) hb2).trans e0
                  have d1 := (HK1.out b2 (off2 + j2 * 4 + 1) hb2).trans e1
                  have HQ2 := hideI hp
                  clear e0 e1 e2 e3 hp
                  have hfw := fewv_code (j := j2) HFEW.out HQ.out us1 us3 HU1.out HU3.out
                  obtain ⟨uu, huu⟩ : ∃ uu, uu = us3 ++ (q.code.take j2).flatMap valuesInstr := ⟨_, rfl⟩
                  rw [← huu] at hfw HIj2
                  have HUU := hideI huu
                  have hown := HIj2.out
                  unfold RV at hown
                  clear huu
                  obtain ⟨sk, hsk⟩ : ∃ sk, sk = (shapeS x.op).2.1 := ⟨_, rfl⟩
                  have HSK : Hid (makesS x.op = sk) := hsk.symm
                  have HSH : Hid (shapeV x.op = .tuple #[.string ⟨(shapeS x.op).1.toArray⟩, .int .i64 sk, .int .i64 (shapeS x.op).2.2.1, .bool (shapeS x.op).2.2.2]) := by show _ = _; rw [hsk]; rfl
                  clear hsk
                  cases hm : decide (0 < sk)
                  · have hv : valuesInstr x = [] := by unfold valuesInstr; rw [HSK.out, if_neg (by simpa using hm)]
                    have HV := hideI hv
                    clear hv
                    go_wp2_with (go_at_call 69; refine (shape_any _ _).mono ?_; rintro e w3 ⟨rfl, rfl⟩; rw [HSH.out])
                    go_roundw
                    case rel => exact ⟨j2 + 1, by omega, by go_num, by rw [flat_take' _ _ _ _ HQ2.out, HV.out, List.append_nil, ← HUU.out]; exact HIj2.out, HFj2.out⟩
                    case measure => simp [intOf]; omega
                  · have hv : valuesInstr x = [(x.id, sk)] := by unfold valuesInstr; rw [HSK.out, if_pos (by simpa using hm)]
                    have HV := hideI hv
                    clear hv
                    go_wp2_with (first | (go_at_call 69; refine (shape_any _ _).mono ?_; rintro e w3 ⟨rfl, rfl⟩; rw [HSH.out]) | (at_builtin; refine wpList_append_lies _ rfl _ _ _ rfl w.heap.size 74 i0 _ 2 16 Try.underlying71 hi hz0 hz1 hz2 rfl (by decide) _ _ _ rfl (hown.alloc _) ⟨wr.heap.size, 0, none⟩ 1 1 [.int .i64 x.id, .int .i64 sk] rfl rfl (two_new _ _ _) (by simp [Value.oneCell']) (by decide) (by unfold maxLen; omega) (by omega) (by simp; omega) _ rfl ?_; intro g1 cap1 w4 hown1 hgrow1 hor hgl1; have hka := hideI (Kv.grown hgrow1 (hown.alloc _) (by simp; omega)); have HO1 := hideI hown1; clear hown1 hgrow1 hor hgl1))
                    go_roundw
                    case rel => exact ⟨j2 + 1, by omega, by go_num, by rw [flat_take' _ _ _ _ HQ2.out, HV.out, ← List.append_assoc, ← HUU.out]; exact RV.push HO1.out, (HFj2.out.alloc hsz0 _).trans hka.out⟩
                    case measure => simp [intOf]; omega
                · have HIe : Hid (RV wr w.heap.size u3 (us3 ++ q.code.flatMap valuesInstr)) := by have := HIj2.out; rw [List.take_of_length_le (by omega)] at this; exact this
                  have HUB : Hid (paramDefs 0 f.params ++ (f.blocks.take (k + 1)).flatMap valuesBlock = us3 ++ q.code.flatMap valuesInstr) := by
                    show _ = _
                    rw [flat_take' _ _ _ _ HQ.out, HU3.out, HU1.out]
                    simp only [valuesBlock, List.append_assoc]
                  go_wp2
                  go_roundw
                  case rel => exact ⟨k + 1, by omega, by go_num, by rw [HUB.out]; exact HIe.out, HF1.out.trans HFj2.out⟩
                  case measure => simp [intOf]; omega
        · go_wp2
          go_ret
          refine ⟨_, rfl, ?_, (hK0.out.trans HFk.out).below⟩
          have := HIk.out
          rw [List.take_of_length_le (by omega)] at this
          exact this

end Go.Proofs.Ytclbhbnidodmdaa
