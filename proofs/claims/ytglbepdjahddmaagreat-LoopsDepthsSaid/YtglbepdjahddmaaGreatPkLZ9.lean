/- What LZ rests on, part 9: LExits, Late, LAddL, RPreds. -/
import Derived.Test.YtglbepdjahddmaaGreatPkLZ8
import Derived.Deep.RegionHeld3
import Derived.Deep.AppendLies
import Derived.Deep.QuietTactic
import Derived.BigQuiet

namespace Go.Proofs.YtglbepdjahddmaaGreat
open Go.RowKit Go.Maps

/-- the marks when i blocks of the list are done, and j ends of the next one, c -/
structure ExS (bs : List BlockM) (P : Nat → Bool) (l : List Nat) (i : Nat) (c : Nat) (j : Nat) (S : List Nat) : Prop where
  is : ∀ x, x ∈ S ↔ (P x = false ∧ ((∃ k b, k < i ∧ l[k]? = some b ∧ x ∈ succM bs b) ∨ x ∈ (succM bs c).take j))

section
variable {bs : List BlockM} {P : Nat → Bool} {l : List Nat} {i c j t : Nat} {S : List Nat}

theorem ExS.start : ExS bs P l 0 c 0 [] := ⟨fun x => by simp⟩

theorem ExS.begin (h : ExS bs P l i c 0 S) (c' : Nat) : ExS bs P l i c' 0 S := ⟨fun x => by rw [h.is]; simp⟩

theorem ExS.skip (h : ExS bs P l i c j S) (ht : (succM bs c)[j]? = some t) (hp : P t = true) : ExS bs P l i c (j + 1) S := ⟨fun x => by
  rw [h.is, List.take_add_one, ht]
  simp only [Option.toList_some, List.mem_append, List.mem_singleton]
  constructor
  · rintro ⟨h1, h2 | h2⟩
    · exact ⟨h1, .inl h2⟩
    · exact ⟨h1, .inr (.inl h2)⟩
  · rintro ⟨h1, h2 | h2 | h2⟩
    · exact ⟨h1, .inl h2⟩
    · exact ⟨h1, .inr h2⟩
    · subst h2; rw [hp] at h1; cases h1⟩

theorem ExS.mark (h : ExS bs P l i c j S) (ht : (succM bs c)[j]? = some t) (hp : P t = false) : ExS bs P l i c (j + 1) (t :: S) := ⟨fun x => by
  rw [List.mem_cons, h.is, List.take_add_one, ht]
  simp only [Option.toList_some, List.mem_append, List.mem_singleton]
  constructor
  · rintro (rfl | ⟨h1, h2 | h2⟩)
    · exact ⟨hp, .inr (.inr rfl)⟩
    · exact ⟨h1, .inl h2⟩
    · exact ⟨h1, .inr (.inl h2)⟩
  · rintro ⟨h1, h2 | h2 | h2⟩
    · exact .inr ⟨h1, .inl h2⟩
    · exact .inr ⟨h1, .inr h2⟩
    · exact .inl h2⟩

theorem ExS.next (h : ExS bs P l i c j S) (hc : l[i]? = some c) (hj : (succM bs c).length ≤ j) : ExS bs P l (i + 1) c 0 S := ⟨fun x => by
  rw [h.is, List.take_of_length_le hj]
  constructor
  · rintro ⟨h1, ⟨k, b, h2, h3, h4⟩ | h2⟩
    · exact ⟨h1, .inl ⟨k, b, by omega, h3, h4⟩⟩
    · exact ⟨h1, .inl ⟨i, c, by omega, hc, h2⟩⟩
  · rintro ⟨h1, ⟨k, b, h2, h3, h4⟩ | h2⟩
    · by_cases e : k = i
      · subst e
        rw [hc] at h3
        cases h3
        exact ⟨h1, .inr h4⟩
      · exact ⟨h1, .inl ⟨k, b, by omega, h3, h4⟩⟩
    · simp at h2⟩

theorem ExS.done {L : Nat → Nat → Bool} {h n : Nat} (H : ExS bs (L h) (blocksM n L h) (blocksM n L h).length c 0 S) (hn : n = bs.length) (x : Nat) : decide (x ∈ S) = (!L h x && outB bs L h x) := by
  subst hn
  rw [Bool.eq_iff_iff, decide_eq_true_iff, H.is, Bool.and_eq_true, Bool.not_eq_true']
  unfold outB
  rw [List.any_eq_true]
  constructor
  · rintro ⟨h1, ⟨k, b, h2, h3, h4⟩ | h2⟩
    · have hm := List.mem_of_getElem? h3
      unfold blocksM at hm
      rw [List.mem_filter] at hm
      exact ⟨h1, b, hm.1, by rw [hm.2, Bool.true_and]; exact decide_eq_true h4⟩
    · simp at h2
  · rintro ⟨h1, b, h2, h3⟩
    rw [Bool.and_eq_true] at h3
    have hm : b ∈ blocksM bs.length L h := by unfold blocksM; exact List.mem_filter.2 ⟨h2, h3.1⟩
    obtain ⟨k, hk⟩ := List.getElem?_of_mem hm
    exact ⟨h1, .inl ⟨k, b, (List.getElem?_eq_some_iff.1 hk).1, hk, of_decide_eq_true h3.2⟩⟩
end

set_option maxRecDepth 100000 in
set_option maxHeartbeats 4000000 in
theorem lExits_any (bs : List BlockM) (L : Nat → Nat → Bool) (h c B gm : Nat) (p0 p1 p2 p4 p5 p6 lv s : Value) (A : Option Addr) (w : World) (hn5 : bs.length ≤ 512) (hin : EndsIn bs) (hbv : BlocksR w B (.slice A bs.length c) bs) (hB : B ≤ w.heap.size) (hs : Ints w w.heap.size s ((blocksM bs.length L h).map fun (x : Nat) => (x : Int))) (hg : gm < w.heap.size) (hc : ∀ b, b < bs.length → w.cell? ⟨gm, b, none⟩ = some (.bool (L h b))) :
    Calls Tryz.prog 104 #[.agg #[p0, p1, p2, .slice A bs.length c, p4, p5, p6, lv], s, .slice (some ⟨gm, 0, none⟩) bs.length bs.length] w (RowPost (exitsM bs L h) w) := by
  have HIN := hideI hin
  obtain ⟨W, hW⟩ : ∃ W : World, W = w.alloc (.cells #[p0, p1, p2, .slice A bs.length c, p4, p5, p6, lv] 67) := ⟨_, rfl⟩
  have HBW : Hid (Below w.heap.size w W) := by show Below _ _ _; rw [hW]; exact (Below.refl _ _).alloc (Nat.le_refl _) _
  have HXW : Hid (W.heap[w.heap.size]? = some (.cells #[p0, p1, p2, .slice A bs.length c, p4, p5, p6, lv] 67 (0, 0))) := by show _ = _; rw [hW]; exact heap_alloc_new w _
  have hwW : w.heap.size < W.heap.size := lt_of_heap HXW.out
  have HBL := hideI ((hbv.keeps (Keeps.of_below (HBW.out.mono hB))).more' (Nat.le_trans hB HBW.out.size))
  have HSW := hideI ((hs.keep HBW.out).more HBW.out.size)
  have HCW : Hid (∀ b, b < bs.length → W.cell? ⟨gm, b, none⟩ = some (.bool (L h b))) := fun b hb => (HBW.out.cell (p := ⟨gm, b, none⟩) hg).trans (hc b hb)
  have hgW : gm < W.heap.size := by omega
  have HW0 := hideI hW
  have hx := row_cells HXW.out rfl
  have q3 := hx 3
  obtain ⟨i0, hix, hz0, hz1, hz2⟩ := info_parts bool_info
  obtain ⟨l, hl⟩ : ∃ l, l = blocksM bs.length L h := ⟨_, rfl⟩
  have HL := hideI hl
  have hlb : ∀ x ∈ l, x < bs.length := fun x hx => by
    rw [hl] at hx
    unfold blocksM at hx
    simpa using (List.mem_filter.1 hx).1
  have HLB := hideI hlb
  have hll : l.length ≤ 512 := by
    rw [hl]
    unfold blocksM
    have := List.length_filter_le (L h) (List.range bs.length)
    rw [List.length_range] at this
    omega
  rw [← hl] at HSW
  obtain ⟨PA, pc2, e1, _, hpx⟩ := HSW.out
  rw [List.length_map] at e1 hpx
  subst e1
  have HPX := hideI hpx
  clear hin hW hs hx hbv hc hl hpx hlb
  go_enter Tryz.func104, Tryz.ntmps104
  go_upto_region 1 with fail
  rw [← HW0.out]
  go_wp2_with (at_make; go_must (refine wpList_make_full _ rfl _ _ 118 rfl W.heap.size 4 i0 (.bool false) 1 Tryz.underlying118 hix hz0 hz1 .i64 .i64 _ _ bs.length rfl rfl rfl rfl (by rw [hz2]; omega) (by unfold maxLen; omega) (Nat.le_refl _) ?_); intro w1 hown1 hg1; go_must (rw [marks_made] at hown1; have HO1 := hideI hown1; have HB1 : Hid (Below W.heap.size W w1) := hideI ((Below.refl _ _).grown hg1 (Nat.le_refl _) (by simp)); clear hown1 hg1 q3))
  clear hix hz0 hz1 hz2
  go_loopw [20] (fun u wr => ∃ (i : Nat) (S : List Nat), i ≤ l.length ∧ u = .int .i64 i ∧ Hid (ExS bs (L h) l i 0 0 S) ∧ Hid (wr.ownsRow W.heap.size 4 1 (.slice (some ⟨W.heap.size, 0, none⟩) bs.length bs.length) bs.length (marks bs.length S)) ∧ Hid (Below W.heap.size W wr)) (fun u _ => l.length - (intOf u).toNat)
  case atStart => exact ⟨0, [], Nat.zero_le _, rfl, hideI ExS.start, HO1, HB1⟩
  case round =>
    obtain ⟨i, S, hi, rfl, HX, HO, HBr⟩ := hrel
    by_cases hlt : i < l.length
    · obtain ⟨b, hb⟩ : ∃ b, l[i]? = some b := ⟨_, List.getElem?_eq_getElem hlt⟩
      have hbl := HLB.out b (List.mem_of_getElem? hb)
      obtain ⟨pb, po, rfl, hpb, d0⟩ := HPX.out i hlt
      rw [List.getElem?_map, hb] at d0
      simp only [Option.map_some, Option.getD_some] at d0
      have d1 := (HBr.out.cell (p := ⟨pb, po + i, none⟩) hpb).trans d0
      have HXB := hideI (HX.out.begin b)
      have HBI := hideI hb
      obtain ⟨q, hq⟩ : ∃ q, bs[b]? = some q := ⟨_, List.getElem?_eq_getElem hbl⟩
      obtain ⟨A', c', e0, _, hbx⟩ := HBL.out.keeps (Keeps.of_below HBr.out)
      cases e0
      obtain ⟨ab, off, pq, cq, tv, rfl, hab, x0, x1, x2, x3, x4, x5, _, _, htv, _⟩ := hbx b q hq
      have HTV := hideI htv
      have HQ := hideI hq
      have HSU : Hid (succM bs b = q.term.to.map Int.toNat) := by show _ = _; unfold succM; rw [hq]
      obtain ⟨TA, tc, rfl, htm, _⟩ := htv
      obtain ⟨m, hm⟩ : ∃ m, m = q.term.to.length := ⟨_, rfl⟩
      have HM := hideI hm
      rw [← hm] at x4 htm
      have hxr := row_cells HXW.out (HBr.out.block w.heap.size hwW)
      have g3 := hxr 3
      clear hbx hq x0 x1 x2 x3 x5 hm hxr hb d0
      go_wp2
      clear x4 g3 d1
      obtain ⟨wo, rfl⟩ : ∃ wo : World, wo = wr := ⟨_, rfl⟩
      go_loopw [34] (fun u wr => ∃ (j : Nat) (S : List Nat), j ≤ m ∧ u = .int .i64 j ∧ Hid (ExS bs (L h) l i b j S) ∧ Hid (wr.ownsRow W.heap.size 4 1 (.slice (some ⟨W.heap.size, 0, none⟩) bs.length bs.length) bs.length (marks bs.length S)) ∧ Hid (Below W.heap.size W wr)) (fun u _ => m - (intOf u).toNat)
      case atStart => exact ⟨0, S, Nat.zero_le _, rfl, HXB, HO, HBr⟩
      case round =>
        have HBo := HBr
        clear HXB HX HO HBr
        obtain ⟨j, S, hj, rfl, HX, HO, HBr⟩ := hrel
        by_cases hltj : j < m
        · obtain ⟨t, ht⟩ : ∃ t, q.term.to[j]? = some t := ⟨_, List.getElem?_eq_getElem (by rw [HM.out] at hltj; exact hltj)⟩
          have htn := HIN.out q (List.mem_of_getElem? HQ.out) t (List.mem_of_getElem? ht)
          obtain ⟨tn, rfl⟩ : ∃ tn : Nat, t = (tn : Int) := ⟨t.toNat, by omega⟩
          have htl : tn < bs.length := by omega
          have HTI : Hid ((succM bs b)[j]? = some tn) := by
            show _ = _
            rw [HSU.out, List.getElem?_map, ht]
            rfl
          obtain ⟨TA', tc', e0, _, hxx⟩ := HTV.out
          cases e0
          obtain ⟨tb, toff, rfl, htb, hcell0⟩ := hxx j (by rw [← HM.out]; exact hltj)
          rw [ht] at hcell0
          simp only [Option.getD_some] at hcell0
          have hcell : wr.cell? ⟨tb, toff + j, none⟩ = some (.int .i64 (tn : Int)) := by
            rw [← hcell0]
            exact World.cell?_of_block (a := ⟨tb, toff + j, none⟩) ((HBr.out.block tb htb).trans (HBo.out.block tb htb).symm)
          have cm := (HBr.out.cell (p := ⟨gm, tn, none⟩) hgW).trans (HCW.out tn htl)
          cases hr : L h tn with
          | true =>
            rw [hr] at cm
            have HX2 := hideI (HX.out.skip HTI.out hr)
            clear hxx ht htn hcell0 hr
            go_wp2
            go_roundw
            case rel => exact ⟨j + 1, S, by omega, by go_num, HX2, HO, HBr⟩
            case measure => simp [intOf]; omega
          | false =>
            rw [hr] at cm
            have HX2 := hideI (HX.out.mark HTI.out hr)
            have hmk : wr.cell? ⟨W.heap.size, tn, none⟩ = some (.bool (decide (tn ∈ S))) := by rw [World.ownsRow.cellAt HO.out tn (by omega), marks_at htl]
            obtain ⟨old, hold⟩ : ∃ old : Bool, old = decide (tn ∈ S) := ⟨_, rfl⟩
            rw [← hold] at hmk
            have hmf : wr.frozen? ⟨W.heap.size, tn, none⟩ = false := World.ownsRow.frozenAt HO.out tn
            have hst := (World.ownsRow.stored HO.out tn (.bool true)).1
            rw [marks_set] at hst
            have HST := hideI hst
            have HBS : Hid (Below W.heap.size W (wr.setCell ⟨W.heap.size, tn, none⟩ (.bool true))) := HBr.out.setCell (Nat.le_refl _) _
            clear hxx ht htn hcell0 hr hold hst
            go_wp2
            go_roundw
            case rel => exact ⟨j + 1, _, by omega, by go_num, HX2, HST, HBS⟩
            case measure => simp [intOf]; omega
        · have HX2 := hideI ((HX.out.next HBI.out (by rw [HSU.out, List.length_map, ← HM.out]; omega)).begin 0)
          go_wp2
          go_roundw
          case rel => exact ⟨i + 1, S, by omega, by go_num, HX2, HO, HBr⟩
          case measure => simp [intOf]; omega
    · have hil : i = l.length := by omega
      have HDN : Hid (∀ x, decide (x ∈ S) = (!L h x && outB bs L h x)) := fun x => by
        have h1 := HX.out
        rw [hil, HL.out] at h1
        exact h1.done rfl x
      have hgr : W.heap.size < wr.heap.size := (HO.out.lt _ rfl).2
      have HRS := hideI (lRise_any bs.length W.heap.size (fun x => !L h x && outB bs L h x) wr hn5 hgr (fun b hb => by rw [World.ownsRow.cellAt HO.out b (by omega), marks_at hb, HDN.out]))
      clear hil
      go_wp2_with (go_at_call 64; go_must (refine HRS.out.mono ?_); rintro e w5 ⟨v, rfl, hown5, hb5⟩; have HO5 := hideI hown5; have HB5 := hideI hb5; clear hown5 hb5)
      go_ret
      have h1 : w.heap.size ≤ wr.heap.size := Nat.le_trans HBW.out.size HBr.out.size
      exact ⟨v, rfl, World.ownsRow.mono HO5.out h1, HBW.out.trans ((HBr.out.mono (Nat.le_of_lt hwW)).trans (HB5.out.mono h1))⟩

end Go.Proofs.YtglbepdjahddmaaGreat

namespace Go.Proofs.YtglbepdjahddmaaGreat

section
variable {P : Program} {ops : Array Oper} {Q : Exit → Act → World → Prop} {md : Region.Mode} {S : World → Prop} {T : List Nat}

/-- Whatever order is picked from here on, and every operation but those of T keeps S. -/
def wpAnyT (P : Program) (md : Region.Mode) (ops : Array Oper) (Q : Exit → Act → World → Prop) (S : World → Prop) (T : List Nat) : Nat → Array Bool → Act → World → Prop
  | 0, listed, a, w => Region.ready md ops listed = [] ∧ Q .normal a w
  | fuel + 1, listed, a, w =>
    (Region.ready md ops listed = [] → Q .normal a w) ∧
    ∀ i ∈ Region.ready md ops listed, wpOp P ops Q i (fun a' w' => (i ∉ T → S w → S w') ∧ wpAnyT P md ops Q S T fuel (listed.setIfInBounds i true) a' w') a w

theorem wpAny_of_late : ∀ (fuel : Nat) (listed : Array Bool) (a : Act) (w : World), wpAnyT P md ops Q S T fuel listed a w → wpAny P md ops Q fuel listed a w
  | 0, _, _, _, h => h
  | fuel + 1, _, _, _, h => ⟨h.1, fun i hi => wpOp_mono (fun a' w' h' => wpAny_of_late fuel _ a' w' h'.2) (h.2 i hi)⟩

/-- once all that is left is of T, no world need meet S -/
theorem late_of_wpAny : ∀ (fuel : Nat) (listed : Array Bool) (a : Act) (w : World), (∀ i, listed.getD i true = false → i ∈ T) → wpAny P md ops Q fuel listed a w → wpAnyT P md ops Q S T fuel listed a w
  | 0, _, _, _, _, h => h
  | fuel + 1, listed, _, _, hl, h => ⟨h.1, fun i hi => wpOp_mono (fun a' w' h' => ⟨fun hn _ => absurd (hl i (by have := (mem_ready.1 hi).1; exact this)) hn, late_of_wpAny fuel _ a' w' (fun j hj => by
      by_cases e : i = j
      · subst e
        refine hl i ?_
        exact (mem_ready.1 hi).1
      · rw [getD_set_ne true e] at hj; exact hl j hj) h'⟩) (h.2 i hi)⟩

/-- every operation of U waits for number i, or for one of U -/
def waitsB (md : Region.Mode) (ops : Array Oper) (U : List Nat) (i : Nat) : Bool :=
  U.all fun j => match ops[j]? with | some oj => oj.after.any (fun e => Region.binds md e && (e.on == i || U.contains e.on)) | none => true

theorem waits_spec {U : List Nat} {i : Nat} (h : waitsB md ops U i = true) {j : Nat} (hj : j ∈ U) {oj : Oper} (ho : ops[j]? = some oj) : ∃ e ∈ oj.after, Region.binds md e = true ∧ (e.on = i ∨ e.on ∈ U) := by
  unfold waitsB at h
  rw [List.all_eq_true] at h
  have h1 := h j hj
  rw [ho] at h1
  simp only [Array.any_eq_true', Bool.and_eq_true, Bool.or_eq_true, beq_iff_eq, List.contains_eq_mem, decide_eq_true_eq] at h1
  obtain ⟨e, he, h2, h3⟩ := h1
  exact ⟨e, he, h2, h3⟩

theorem wpAnyT_first {i : Nat} {oi : Oper} {v : Value} (hi : ops[i]? = some oi) (hsel : ∀ (j : Nat) (o : Oper) cs b, ops[j]? = some o → o.op ≠ .select cs b)
    (hQ : ∀ c a w, Q (.panic c) (a.put oi.dst v) w → Q (.panic c) a w) {R : World → Prop} {U : List Nat} (hU : waitsB md ops U i = true) (hR : ∀ (j : Nat) (oj : Oper) (w w' : World), ops[j]? = some oj → j ∉ U → (j ∉ T → S w → S w') → R w → R w') :
    ∀ (fuel : Nat) (listed : Array Bool) (a : Act) (w : World),
      (∀ j oj, ops[j]? = some oj → j ≠ i → listed.getD j true = false → (∀ e ∈ oj.after, Region.binds md e = true → e.on ≠ i) → oi.apart ops oj = true) →
      (∀ u ∈ U, listed.getD u true = false) → i ∈ Region.ready md ops listed → YieldsIf P ops R oi v a → R w →
      wpAnyT P md ops Q S T fuel (listed.setIfInBounds i true) (a.put oi.dst v) w → wpAnyT P md ops Q S T (fuel + 1) listed a w := by
  intro fuel
  induction fuel with
  | zero =>
    intro listed a w _ _ hr hy hW H
    refine ⟨fun h => (by rw [h] at hr; cases hr), fun j hj => ?_⟩
    by_cases hji : j = i
    · subst hji; exact hy.wpOp hi hW ⟨fun _ h => h, H⟩
    · have := ready_mono hj hji
      rw [H.1] at this
      cases this
  | succ fuel ih =>
    intro listed a w hfree hun hr hy hW H
    refine ⟨fun h => (by rw [h] at hr; cases hr), fun j hj => ?_⟩
    by_cases hji : j = i
    · subst hji; exact hy.wpOp hi hW ⟨fun _ h => h, H⟩
    · have h1 := H.2 j (ready_mono hj hji)
      obtain ⟨hjun, oj, hoj, hall⟩ := mem_ready.1 hj
      have hnot : ∀ e ∈ oj.after, Region.binds md e = true → e.on ≠ i := fun e he hb heq => by
        have h1 := hall e he hb
        have h0 := (mem_ready.1 hr).1
        rw [heq] at h1
        rcases Nat.lt_or_ge i listed.size with h' | h'
        · simp [h'] at h0 h1; rw [h0] at h1; cases h1
        · simp [Array.getElem?_eq_none h'] at h1
      have hnU : ∀ e ∈ oj.after, Region.binds md e = true → e.on ∉ U := fun e he hb hm => by
        have h1 := hall e he hb
        have h0 := hun _ hm
        rcases Nat.lt_or_ge e.on listed.size with h' | h'
        · simp [h'] at h0 h1; rw [h0] at h1; cases h1
        · simp [Array.getElem?_eq_none h'] at h1
      have hjU : j ∉ U := fun hm => by
        obtain ⟨e, he, hb, heq⟩ := waits_spec hU hm hoj
        rcases heq with heq | heq
        · exact hnot e he hb heq
        · exact hnU e he hb heq
      have hun' : ∀ u ∈ U, (listed.setIfInBounds j true).getD u true = false := fun u hu => by
        have hne : j ≠ u := fun e => hjU (by rw [e]; exact hu)
        rw [getD_set_ne true hne]
        exact hun u hu
      have h2 := wpOp_putIf hoj (hfree j oj hoj hji hjun hnot) (fun cs b => hsel i oi cs b hi) (fun cs b => hsel j oj cs b hoj) hQ hy h1
      have hfree' : ∀ k ok, ops[k]? = some ok → k ≠ i → (listed.setIfInBounds j true).getD k true = false →
          (∀ e ∈ ok.after, Region.binds md e = true → e.on ≠ i) → oi.apart ops ok = true := fun k ok hk hki hun hno => by
        refine hfree k ok hk hki ?_ hno
        by_cases hjk : j = k
        · subst hjk; exact hjun
        · rw [getD_set_ne true hjk] at hun; exact hun
      refine wpOp_mono (fun a' w' h3 => ⟨h3.2.1, ih (listed.setIfInBounds j true) a' w' hfree' hun' (ready_mono hr (Ne.symm hji)) h3.1 (hR j oj w w' hoj hjU h3.2.1 hW) ?_⟩) h2
      rw [Array.setIfInBounds_comm _ _ hji]
      exact h3.2.2

/-- Take a load first, for which all of U waits, T among them. -/
theorem wpAnyT_take (U : List Nat) {i : Nat} {oi : Oper} {v : Value} {fuel : Nat} {listed : Array Bool} {a : Act} {w : World} (hi : ops.toList[i]? = some oi)
    (hs : Region.noSelect ops = true) (hf : Region.free md ops listed i = true) (hr : (Region.ready md ops listed).contains i = true) (hU : waitsB md ops U i = true) (hT : T.all (U.contains ·) = true) (hl : U.all (fun u => !(listed.getD u true)) = true)
    (hQ : ∀ c a w, Q (.panic c) (a.put oi.dst v) w → Q (.panic c) a w) (hS : S w) (hy : YieldsIf P ops S oi v a)
    (h : wpAnyT P md ops Q S T fuel (listed.setIfInBounds i true) (a.put oi.dst v) w) : wpAnyT P md ops Q S T (fuel + 1) listed a w :=
  wpAnyT_first (by simpa using hi) (Region.noSelect_spec hs) hQ hU (fun j oj w w' ho hn hw => hw fun hm => hn (by
    rw [List.all_eq_true] at hT
    simpa using hT j hm)) fuel listed a w (Region.free_spec (by simpa using hi) hf) (fun u hu => by rw [List.all_eq_true] at hl; simpa using hl u hu) (by simpa using hr) hy hS h

/-- Take first what yields in whatever world. -/
theorem wpAnyT_quiet {i : Nat} {oi : Oper} {v : Value} {fuel : Nat} {listed : Array Bool} {a : Act} {w : World} (hi : ops.toList[i]? = some oi)
    (hs : Region.noSelect ops = true) (hf : Region.free md ops listed i = true) (hr : (Region.ready md ops listed).contains i = true)
    (hQ : ∀ c a w, Q (.panic c) (a.put oi.dst v) w → Q (.panic c) a w) (hy : Yields P ops oi v a)
    (h : wpAnyT P md ops Q S T fuel (listed.setIfInBounds i true) (a.put oi.dst v) w) : wpAnyT P md ops Q S T (fuel + 1) listed a w :=
  wpAnyT_first (R := fun _ => True) (U := []) (by simpa using hi) (Region.noSelect_spec hs) hQ rfl (fun _ _ _ _ _ _ _ _ => trivial) fuel listed a w (Region.free_spec (by simpa using hi) hf) (fun u hu => by cases hu) (by simpa using hr)
    (hy.imp (fun ⟨hw, hv⟩ => ⟨hw, fun w _ => hv w⟩) id) trivial h

/-- Each of the operations rs comes up next. -/
def AllReadyT (P : Program) (md : Region.Mode) (ops : Array Oper) (Q : Exit → Act → World → Prop) (S : World → Prop) (T : List Nat) (fuel : Nat) (listed : Array Bool) (a : Act) (w : World) (rs : List Nat) : Prop :=
  ∀ i ∈ rs, wpOp P ops Q i (fun a' w' => (i ∉ T → S w → S w') ∧ wpAnyT P md ops Q S T fuel (listed.setIfInBounds i true) a' w') a w

theorem AllReadyT.nil {fuel : Nat} {listed : Array Bool} {a : Act} {w : World} : AllReadyT P md ops Q S T fuel listed a w [] := fun _ h => by cases h

theorem AllReadyT.cons {fuel : Nat} {listed : Array Bool} {a : Act} {w : World} {i : Nat} {o : Oper} {rs : List Nat} (ho : ops.toList[i]? = some o)
    (h : ∀ K' : Act → World → Prop, Shut (∀ a' w', (i ∉ T → S w → S w') → wpAnyT P md ops Q S T fuel (listed.setIfInBounds i true) a' w' → K' a' w') → if Region.wanted o (yielded ops a.tmps) = true then Oper.wp P o a w K' Q else K' (a.put o.dst undef) w)
    (hs : AllReadyT P md ops Q S T fuel listed a w rs) : AllReadyT P md ops Q S T fuel listed a w (i :: rs) := fun j hj => by
  have ho : ops[i]? = some o := by simpa using ho
  rcases List.mem_cons.1 hj with rfl | hj
  · exact wpOp_step ho (fun K' hK => h K' (fun a w hS hW => hK a w ⟨hS, hW⟩))
  · exact hs j hj

theorem wpAnyT_ready {rs : List Nat} {fuel : Nat} {listed : Array Bool} {a : Act} {w : World} (hr : Region.ready md ops listed = rs) (hne : rs ≠ [])
    (h : AllReadyT P md ops Q S T fuel listed a w rs) : wpAnyT P md ops Q S T (fuel + 1) listed a w := ⟨fun h0 => absurd (hr ▸ h0) hne, hr ▸ h⟩

theorem wpAnyT_done {listed : Array Bool} {a : Act} {w : World} (hr : Region.ready md ops listed = []) (h : Q .normal a w) :
    ∀ fuel, wpAnyT P md ops Q S T fuel listed a w
  | 0 => ⟨hr, h⟩
  | _ + 1 => ⟨fun _ => h, by rw [hr]; simp⟩

/-- The beginning. -/
theorem wp_region_late {id : Nat} {a : Act} {w : World} (hm : P.follows .mixedOrders = true) (S : World → Prop) (T : List Nat)
    (h : wpAnyT P .any ops Q S T ops.size (Array.replicate ops.size false) a w.drew) : (Code.region id ops true).wp P Q a w :=
  wp_region_any hm (wpAny_of_late _ _ _ _ h)

end

end Go.Proofs.YtglbepdjahddmaaGreat

namespace Go.Proofs.YtglbepdjahddmaaGreat
open Go.RowKit Go.Maps

theorem own_sl {w : World} {base n : Nat} {e : TypeId} {v : Value} {xs : List Value} {size : Nat} (h : w.ownsRow base e size v n xs) : ∃ A c, v = .slice A n c := by
  rcases h.2 with ⟨e, e0⟩ | ⟨g, cap, cur, e, _⟩
  · exact ⟨none, 0, by rw [e, e0]⟩
  · exact ⟨_, _, e⟩

/-- the loop of a head, as it is found -/
def lpOf (bs : List BlockM) (D L : Nat → Nat → Bool) (h : Nat) : LpM := ⟨h, blocksM bs.length L h, latchesM bs D h, exitsM bs L h, 0⟩

def AddLPost (f7 : Array Value) (gn base : Nat) (ls : List LpM) (w : World) (e : Ending) (w' : World) : Prop :=
  ∃ g cap : Nat, e = .returned (.tuple #[]) ∧ w'.heap[gn]? = some (.cells (f7.push (.slice (some ⟨g, 0, none⟩) ls.length cap)) 67 (0, 0)) ∧ LoopsR w' base (.slice (some ⟨g, 0, none⟩) ls.length cap) ls ∧ Below gn w w'

set_option maxRecDepth 100000 in
set_option maxHeartbeats 8000000 in
theorem lAddL_any (bs : List BlockM) (o : List Nat) (pl : Nat → Nat) (par : Nat → Option Nat) (D L : Nat → Nat → Bool) (lo gp gi gl h c B gn base : Nat) (vs : List Value) (p0 p1 p2 lv s : Value) (A : Option Addr) (ls : List LpM) (w : World) (K : LoopOk bs o pl par D L) (H : LfAt w lo bs o pl par gp vs gi gl) (hh : h < bs.length) (hin : EndsIn bs) (hbv : BlocksR w B (.slice A bs.length c) bs) (hB : B ≤ gn)
    (hgn : w.heap[gn]? = some (.cells #[p0, p1, p2, .slice A bs.length c, .slice (some ⟨gp, 0, none⟩) bs.length bs.length, .slice (some ⟨gi, 0, none⟩) bs.length bs.length, .slice (some ⟨gl, 0, none⟩) bs.length bs.length, lv] 67 (0, 0))) (hbase : gn < base) (hbs : base ≤ w.heap.size) (hls : LoopsR w base lv ls) (hlen : ls.length ≤ 512) (hsub : SubR w base lv s (latchesM bs D h)) :
    Calls Tryz.prog 59 #[.pointer (some ⟨gn, 0, none⟩), .int .i64 h, s] w (AddLPost #[p0, p1, p2, .slice A bs.length c, .slice (some ⟨gp, 0, none⟩) bs.length bs.length, .slice (some ⟨gi, 0, none⟩) bs.length bs.length, .slice (some ⟨gl, 0, none⟩) bs.length bs.length] gn base (ls ++ [lpOf bs D L h]) w) := by
  have HK := hideI K
  have hn5 := K.n5
  have HIN := hideI hin
  have hgl := lt_of_heap hgn
  have hBw : B ≤ w.heap.size := by omega
  have HG := hideI hgn
  have hlatl : (latchesM bs D h).length ≤ 512 := by
    unfold latchesM
    exact Nat.le_trans (List.length_filter_le _ _) (Nat.le_trans (predsTo_len _ _ _) hn5)
  have hblkl : (blocksM bs.length L h).length ≤ 512 := by
    unfold blocksM
    have := List.length_filter_le (L h) (List.range bs.length)
    rw [List.length_range] at this
    omega
  have HBV := hideI hbv
  have HLS := hideI hls
  have HSUB := hideI hsub
  have HWI := hideI (lWithin_any bs o pl par D L lo gp gi gl h c w.heap.size vs p0 p1 p2 lv s A w K H hh (hsub.ints (by omega)) (Nat.le_refl _))
  obtain ⟨As, cs, rfl⟩ := own_sl hsub.1
  obtain ⟨nl, hnl⟩ : ∃ nl, nl = (latchesM bs D h).length := ⟨_, rfl⟩
  obtain ⟨nb, hnb⟩ : ∃ nb, nb = (blocksM bs.length L h).length := ⟨_, rfl⟩
  have HNL := hideI hnl
  have HNB := hideI hnb
  rw [← hnl] at hlatl HWI HSUB ⊢
  have hx := row_cells hgn rfl
  have q0 := hx 0
  have q1 := hx 1
  have q2 := hx 2
  have q3 := hx 3
  have q4 := hx 4
  have q5 := hx 5
  have q6 := hx 6
  have q7 := hx 7
  clear K H hin hgn hbv hls hsub hx hnl hnb
  go_enter Tryz.func59, Tryz.ntmps59
  go_upto_region 2 with (first
    | (go_at_call 103; go_must (refine HWI.out.mono ?_); rintro e w1 ⟨gm, rfl, hown1, hb1⟩; have HO1 := hideI hown1; have HB1 := hideI hb1; have hgm := hown1.lt gm rfl; have HRI := hideI (lRise_any bs.length gm (L h) w1 hn5 hgm.2 (fun b hb => (by rw [World.ownsRow.cellAt hown1 b (by omega)]; exact boolsM_at hb))); clear hown1 hb1 hgm q0 q1 q2 q3 q4 q5 q6 q7)
    | (go_at_call 64; go_must (refine HRI.out.mono ?_); rintro e w2 ⟨v7, rfl, hown2, hb2⟩; (obtain ⟨A7, c7, rfl⟩ := own_sl hown2); have HO2 := hideI hown2; have HB2 := hideI (HB1.out.trans (hb2.mono HB1.out.size)); replace HO1 := hideI (own_kept_below HO1.out hb2 (fun k hk => (HO1.out.lt k hk).2)); clear hown2 hb2))
  have hO7 : w2.ownsRow w1.heap.size 3 1 (.slice A7 nb c7) (blocksM bs.length L h).length (natInts (blocksM bs.length L h)) := by rw [HNB.out]; exact HO2.out
  have HO7 := hideI (World.ownsRow.mono hO7 HB1.out.size)
  rw [show ((List.range bs.length).filter (L h)).length = nb from HNB.out.symm]
  have HX2 := hideI ((HB2.out.block gn hgl).trans HG.out)
  have hx := row_cells HX2.out rfl
  have q0 := hx 0
  have q1 := hx 1
  have q2 := hx 2
  have q3 := hx 3
  have q4 := hx 4
  have q5 := hx 5
  have q6 := hx 6
  have q7 := hx 7
  have f7 := free_rowN HX2.out rfl 7
  have hw2 : w.heap.size ≤ w2.heap.size := HB2.out.size
  have hgl2 : gn < w2.heap.size := by omega
  have hI7 : Ints w2.drew w2.drew.heap.size (.slice A7 nb c7) ((blocksM bs.length L h).map fun (x : Nat) => (x : Int)) := nat_ints hO7 (by omega)
  have HEX := hideI (lExits_any bs L h c w2.heap.size gm p0 p1 p2 (.slice (some ⟨gp, 0, none⟩) bs.length bs.length) (.slice (some ⟨gi, 0, none⟩) bs.length bs.length) (.slice (some ⟨gl, 0, none⟩) bs.length bs.length) lv (.slice A7 nb c7) A w2.drew hn5 HIN.out (((HBV.out.keeps (Keeps.of_below (HB2.out.mono hBw))).more' (Nat.le_trans hBw hw2)).keeps (fun _ _ _ => rfl)) (Nat.le_refl _) hI7 (HO1.out.lt gm rfl).2 (fun b hb => (by rw [World.ownsRow.cellAt HO1.out b (by omega)]; exact boolsM_at hb : w2.cell? ⟨gm, b, none⟩ = _)))
  clear hI7
  have HS : Hid (∀ W, Below w2.heap.size w2 W → W.cell? ⟨gn, 0, none⟩ = some (p0) ∧ W.cell? ⟨gn, 1, none⟩ = some (p1) ∧ W.cell? ⟨gn, 2, none⟩ = some (p2) ∧ W.cell? ⟨gn, 3, none⟩ = some (.slice A bs.length c) ∧ W.cell? ⟨gn, 4, none⟩ = some (.slice (some ⟨gp, 0, none⟩) bs.length bs.length) ∧ W.cell? ⟨gn, 5, none⟩ = some (.slice (some ⟨gi, 0, none⟩) bs.length bs.length) ∧ W.cell? ⟨gn, 6, none⟩ = some (.slice (some ⟨gl, 0, none⟩) bs.length bs.length) ∧ W.cell? ⟨gn, 7, none⟩ = some (lv)) := fun W hW => by
    have hx := row_cells HX2.out (hW.block gn hgl2)
    exact ⟨hx 0, hx 1, hx 2, hx 3, hx 4, hx 5, hx 6, hx 7⟩
  have hS0 := HS.out w2 (Below.refl _ _)
  clear hx hO7
  refine wp_region_late (by kernel_rfl) (fun W => W.cell? ⟨gn, 0, none⟩ = some (p0) ∧ W.cell? ⟨gn, 1, none⟩ = some (p1) ∧ W.cell? ⟨gn, 2, none⟩ = some (p2) ∧ W.cell? ⟨gn, 3, none⟩ = some (.slice A bs.length c) ∧ W.cell? ⟨gn, 4, none⟩ = some (.slice (some ⟨gp, 0, none⟩) bs.length bs.length) ∧ W.cell? ⟨gn, 5, none⟩ = some (.slice (some ⟨gi, 0, none⟩) bs.length bs.length) ∧ W.cell? ⟨gn, 6, none⟩ = some (.slice (some ⟨gl, 0, none⟩) bs.length bs.length) ∧ W.cell? ⟨gn, 7, none⟩ = some (lv)) [16, 19] ?_
  refine wpAnyT_quiet (i := 0) (v := ?_) rfl (by kernel_rfl) (by kernel_rfl) (by kernel_rfl) (fun _ _ _ h => h) (Or.inl ⟨by rfl, ?_⟩) ?_
  rotate_left
  · (intro w; go_simp; try with_reducible rfl)
  try simp only [Act.put, List.setIfInBounds_toArray, List.set_cons_zero, List.set_cons_succ]
  refine wpAnyT_quiet (i := 1) (v := ?_) rfl (by kernel_rfl) (by kernel_rfl) (by kernel_rfl) (fun _ _ _ h => h) (Or.inl ⟨by rfl, ?_⟩) ?_
  rotate_left
  · (intro w; go_simp; try with_reducible rfl)
  try simp only [Act.put, List.setIfInBounds_toArray, List.set_cons_zero, List.set_cons_succ]
  refine wpAnyT_quiet (i := 2) (v := ?_) rfl (by kernel_rfl) (by kernel_rfl) (by kernel_rfl) (fun _ _ _ h => h) (Or.inl ⟨by rfl, ?_⟩) ?_
  rotate_left
  · (intro w; go_simp; try with_reducible rfl)
  try simp only [Act.put, List.setIfInBounds_toArray, List.set_cons_zero, List.set_cons_succ]
  refine wpAnyT_quiet (i := 3) (v := ?_) rfl (by kernel_rfl) (by kernel_rfl) (by kernel_rfl) (fun _ _ _ h => h) (Or.inl ⟨by rfl, ?_⟩) ?_
  rotate_left
  · (intro w; go_simp; try with_reducible rfl)
  try simp only [Act.put, List.setIfInBounds_toArray, List.set_cons_zero, List.set_cons_succ]
  refine wpAnyT_take [16, 19] (i := 4) (v := ?_) rfl (by kernel_rfl) (by kernel_rfl) (by kernel_rfl) (by kernel_rfl) (by kernel_rfl) (by kernel_rfl) (fun _ _ _ h => h) hS0 (Or.inl ⟨by rfl, ?_⟩) ?_
  rotate_left
  · (intro w hSw; go_split_ands; go_simp; try with_reducible rfl)
  try simp only [Act.put, List.setIfInBounds_toArray, List.set_cons_zero, List.set_cons_succ]
  refine wpAnyT_quiet (i := 5) (v := ?_) rfl (by kernel_rfl) (by kernel_rfl) (by kernel_rfl) (fun _ _ _ h => h) (Or.inl ⟨by rfl, ?_⟩) ?_
  rotate_left
  · (intro w; go_simp; try with_reducible rfl)
  try simp only [Act.put, List.setIfInBounds_toArray, List.set_cons_zero, List.set_cons_succ]
  refine wpAnyT_quiet (i := 6) (v := ?_) rfl (by kernel_rfl) (by kernel_rfl) (by kernel_rfl) (fun _ _ _ h => h) (Or.inl ⟨by rfl, ?_⟩) ?_
  rotate_left
  · (intro w; go_simp; try with_reducible rfl)
  try simp only [Act.put, List.setIfInBounds_toArray, List.set_cons_zero, List.set_cons_succ]
  refine wpAnyT_quiet (i := 7) (v := ?_) rfl (by kernel_rfl) (by kernel_rfl) (by kernel_rfl) (fun _ _ _ h => h) (Or.inl ⟨by rfl, ?_⟩) ?_
  rotate_left
  · (intro w; go_simp; try with_reducible rfl)
  try simp only [Act.put, List.setIfInBounds_toArray, List.set_cons_zero, List.set_cons_succ]
  refine wpAnyT_quiet (i := 8) (v := ?_) rfl (by kernel_rfl) (by kernel_rfl) (by kernel_rfl) (fun _ _ _ h => h) (Or.inl ⟨by rfl, ?_⟩) ?_
  rotate_left
  · (intro w; go_simp; try with_reducible rfl)
  try simp only [Act.put, List.setIfInBounds_toArray, List.set_cons_zero, List.set_cons_succ]
  refine wpAnyT_quiet (i := 9) (v := ?_) rfl (by kernel_rfl) (by kernel_rfl) (by kernel_rfl) (fun _ _ _ h => h) (Or.inl ⟨by rfl, ?_⟩) ?_
  rotate_left
  · (intro w; go_simp; try with_reducible rfl)
  try simp only [Act.put, List.setIfInBounds_toArray, List.set_cons_zero, List.set_cons_succ]
  refine wpAnyT_take [13, 14, 15, 16, 19] (i := 10) (v := ?_) rfl (by kernel_rfl) (by kernel_rfl) (by kernel_rfl) (by kernel_rfl) (by kernel_rfl) (by kernel_rfl) (fun _ _ _ h => h) hS0 (Or.inl ⟨by rfl, ?_⟩) ?_
  rotate_left
  · (intro w hSw; go_split_ands; go_simp; try with_reducible rfl)
  try simp only [Act.put, List.setIfInBounds_toArray, List.set_cons_zero, List.set_cons_succ]
  refine wpAnyT_quiet (i := 11) (v := ?_) rfl (by kernel_rfl) (by kernel_rfl) (by kernel_rfl) (fun _ _ _ h => h) (Or.inl ⟨by rfl, ?_⟩) ?_
  rotate_left
  · (intro w; go_simp; try with_reducible rfl)
  try simp only [Act.put, List.setIfInBounds_toArray, List.set_cons_zero, List.set_cons_succ]
  refine wpAnyT_quiet (i := 12) (v := ?_) rfl (by kernel_rfl) (by kernel_rfl) (by kernel_rfl) (fun _ _ _ h => h) (Or.inl ⟨by rfl, ?_⟩) ?_
  rotate_left
  · (intro w; go_simp; try with_reducible rfl)
  try simp only [Act.put, List.setIfInBounds_toArray, List.set_cons_zero, List.set_cons_succ]
  refine wpAnyT_ready (rs := [13]) (by kernel_rfl) (by simp) ?_
  refine AllReadyT.cons rfl (fun K hK => ?_) ?_
  · go_simp
    refine HEX.out.mono ?_
    rintro e w3 ⟨vx, rfl, hown3, hb3d⟩
    have hb3 : Below w2.heap.size w2 w3 := ⟨hb3d.os, hb3d.tape, hb3d.output, hb3d.size, hb3d.block⟩
    obtain ⟨Ax, cx, rfl⟩ := own_sl hown3
    obtain ⟨nx, hnx⟩ : ∃ nx, nx = (exitsM bs L h).length := ⟨_, rfl⟩
    have HO3 := hideI hown3
    rw [← hnx] at HO3 ⊢
    have HNX := hideI hnx
    have HB3 := hideI hb3
    refine hK.out _ _ (fun _ _ => HS.out _ HB3.out) ?_
    clear hK K hown3 hb3d hb3 hnx
    try simp only [Act.put, List.setIfInBounds_toArray, List.set_cons_zero, List.set_cons_succ]
    refine wpAnyT_quiet (i := 14) (v := ?_) rfl (by kernel_rfl) (by kernel_rfl) (by kernel_rfl) (fun _ _ _ h => h) (Or.inl ⟨by rfl, ?_⟩) ?_
    rotate_left
    · (intro w; go_simp; try with_reducible rfl)
    try simp only [Act.put, List.setIfInBounds_toArray, List.set_cons_zero, List.set_cons_succ]
    refine wpAnyT_ready (rs := [15]) (by kernel_rfl) (by simp) ?_
    refine AllReadyT.cons rfl (fun K hK => ?_) ?_
    · go_simp
      have hs3 : w2.heap.size ≤ w3.heap.size := HB3.out.size
      refine hK.out _ _ (fun _ _ => HS.out _ (HB3.out.alloc hs3 _)) ?_
      clear hK K
      try simp only [Act.put, List.setIfInBounds_toArray, List.set_cons_zero, List.set_cons_succ]
      obtain ⟨cs0, hr1, hr2⟩ := HLS.out.ex
      have HB23 : Hid (Below w.heap.size w w3) := HB2.out.trans (HB3.out.mono hw2)
      have hrow := own_kept_below hr1 HB23.out (fun k hk => (hr1.lt k hk).2)
      have HAT : Hid (∀ (i : Nat) lp, ls[i]? = some lp → LpAt w3 base lv cs0 i lp) := fun i lp hi => (hr2 i lp hi).map fun _ _ sr => sr.kept HB23.out
      have hlt : ∀ k, lv.ownBlock = some k → k < w.heap.size := fun k hk => (hr1.lt k hk).2
      have S1 : Hid (SubR w3 base lv (.slice A7 nb c7) (blocksM bs.length L h)) := by
        have h1 : w2.ownsRow w.heap.size 3 1 (.slice A7 nb c7) (blocksM bs.length L h).length (natInts (blocksM bs.length L h)) := by rw [HNB.out]; exact World.ownsRow.mono HO2.out HB1.out.size
        refine ⟨World.ownsRow.mono (own_kept_below h1 HB3.out (fun k hk => (h1.lt k hk).2)) hbs, fun k hk e => ?_⟩
        have h2 := (h1.lt k hk).1
        have h3 := hlt k e
        omega
      have S2 : Hid (SubR w3 base lv (.slice As nl cs) (latchesM bs D h)) := HSUB.out.kept HB23.out
      have S3 : Hid (SubR w3 base lv (.slice Ax nx cx) (exitsM bs L h)) := by
        have h1 : w3.ownsRow w2.heap.size 3 1 (.slice Ax nx cx) (exitsM bs L h).length (natInts (exitsM bs L h)) := by rw [← HNX.out]; exact HO3.out
        refine ⟨World.ownsRow.mono h1 (Nat.le_trans hbs hw2), fun k hk e => ?_⟩
        have h2 := (h1.lt k hk).1
        have h3 := hlt k e
        omega
      have HROW := hideI hrow
      have hnews := World.news_of_block (heap_alloc_new w3 (.cells #[.int .i64 (h : Int), .slice A7 nb c7, .slice As nl cs, .slice Ax nx cx, .int .i64 0] 35))
      obtain ⟨i0, hix, hz0, hz1, hz2⟩ := info_parts loop_info
      clear hr1 hr2 hrow hlt
      refine wpAnyT_ready (rs := [16]) (by kernel_rfl) (by simp) ?_
      refine AllReadyT.cons rfl (fun K hK => ?_) ?_
      · refine step_append_lies _ rfl (.tmp 20) (.tmp 31) _ rfl base 35 i0 _ 5 88 Tryz.underlying32 hix hz0 hz1 hz2 rfl (by decide) lv ls.length cs0 rfl (HROW.out.alloc _) ⟨w3.heap.size, 0, none⟩ 1 1 [.int .i64 (h : Int), .slice A7 nb c7, .slice As nl cs, .slice Ax nx cx, .int .i64 0] rfl rfl hnews (by simp [Value.oneCell']) (by decide) (by unfold maxLen; omega) (by omega) (by simp; omega) _ rfl ?_
        intro g1 cap1 w5 hown5 hgrow5 hor5 _
        refine hK.out _ _ (fun h => absurd (by simp) h) ?_
        clear hK K hnews hix hz0 hz1 hz2
        try simp only [Act.put, List.setIfInBounds_toArray, List.set_cons_zero, List.set_cons_succ]
        have hX5 : w5.heap[gn]? = some (.cells #[p0, p1, p2, .slice A bs.length c, .slice (some ⟨gp, 0, none⟩) bs.length bs.length, .slice (some ⟨gi, 0, none⟩) bs.length bs.length, .slice (some ⟨gl, 0, none⟩) bs.length bs.length, lv] 67 (0, 0)) := by
          have h1 := hgrow5.block gn (by simp; omega) (fun e => by have := (HROW.out.lt gn e.symm).1; omega)
          rw [h1, Below.heap_alloc _ _ _ (by omega)]
          exact (HB3.out.block gn hgl2).trans HX2.out
        have HX5 := hideI hX5
        have HB5 : Hid (Below gn w w5) := ((HB23.out.mono (Nat.le_of_lt hgl)).alloc (by have := HB23.out.size; omega) (.cells #[.int .i64 (h : Int), .slice A7 nb c7, .slice As nl cs, .slice Ax nx cx, .int .i64 0] 35)).grown hgrow5 (by simp; omega) (fun k hk => by have := (HROW.out.lt k hk).1; omega)
        have HLP := hideI (LoopsR.push (lp := lpOf bs D L h) HROW.out HAT.out S1.out S2.out S3.out hown5 hgrow5 hor5)
        have k7 := row_cells hX5 rfl 7
        have z7 := free_rowN hX5 rfl 7
        clear hown5 hgrow5 hor5 hX5
        refine wpAnyT_quiet (i := 17) (v := ?_) rfl (by kernel_rfl) (by kernel_rfl) (by kernel_rfl) (fun _ _ _ h => h) (Or.inl ⟨by rfl, ?_⟩) ?_
        rotate_left
        · (intro w; go_simp; try with_reducible rfl)
        try simp only [Act.put, List.setIfInBounds_toArray, List.set_cons_zero, List.set_cons_succ]
        refine wpAnyT_quiet (i := 18) (v := ?_) rfl (by kernel_rfl) (by kernel_rfl) (by kernel_rfl) (fun _ _ _ h => h) (Or.inl ⟨by rfl, ?_⟩) ?_
        rotate_left
        · (intro w; go_simp; try with_reducible rfl)
        try simp only [Act.put, List.setIfInBounds_toArray, List.set_cons_zero, List.set_cons_succ]
        refine wpAnyT_ready (rs := [19]) (by kernel_rfl) (by simp) ?_
        refine AllReadyT.cons rfl (fun K hK => ?_) ?_
        · go_simp
          refine hK.out _ _ (fun h => absurd (by simp) h) ?_
          clear hK K
          try simp only [Act.put, List.setIfInBounds_toArray, List.set_cons_zero, List.set_cons_succ]
          refine wpAnyT_done (by kernel_rfl) ?_ _
          go_wp2_with fail
          refine bodyPost_ret (v := .tuple #[]) (by simp [results, Tryz.results59, go_sem]) rfl ⟨g1, cap1, rfl, ?_, ?_, ?_⟩
          · rw [List.length_append]
            rw [heap_setCell_same _ gn 7 _ _ _ HX5.out]
            rfl
          · rw [List.length_append]
            exact HLP.out.other hbase _
          · exact HB5.out.setCell (Nat.le_refl _) _
        · exact AllReadyT.nil
      · exact AllReadyT.nil
    · exact AllReadyT.nil
  · exact AllReadyT.nil

end Go.Proofs.YtglbepdjahddmaaGreat

namespace Go.Proofs.YtglbepdjahddmaaGreat
open Go.RowKit Go.Maps

/-- the reference's lists: those of blocks before t are done; of t, what comes from the first b -/
def predsRow (bs : List BlockM) (n t b : Nat) : List (List Nat) := (List.range n).map fun u => if u < t then predsTo bs n u else if u = t then predsTo bs b u else []

theorem predsRow_at {bs : List BlockM} {n t b u : Nat} (h : u < n) : (predsRow bs n t b)[u]? = some (if u < t then predsTo bs n u else if u = t then predsTo bs b u else []) := by
  unfold predsRow
  rw [List.getElem?_map, List.getElem?_eq_getElem (by simpa using h)]
  simp

theorem predsRow_zero (bs : List BlockM) (n : Nat) : predsRow bs n 0 0 = (List.range n).map fun _ => [] := by
  unfold predsRow
  apply List.map_congr_left
  intro u _
  rw [if_neg (by omega)]
  split
  · simp [predsTo]
  · rfl

theorem predsRow_skip {bs : List BlockM} {n t b : Nat} (h : t ∉ succM bs b) : predsRow bs n t (b + 1) = predsRow bs n t b := by
  unfold predsRow
  apply List.map_congr_left
  intro u _
  by_cases e : u = t
  · subst e
    rw [predsTo_succ, if_neg h, List.append_nil]
  · simp [e]

theorem predsRow_push {bs : List BlockM} {n t b : Nat} (h : t ∈ succM bs b) (_htn : t < n) : (predsRow bs n t b).set t (predsTo bs b t ++ [b]) = predsRow bs n t (b + 1) := by
  apply List.ext_getElem?
  intro u
  by_cases hu : u < n
  · rw [predsRow_at hu]
    by_cases e : t = u
    · subst e
      rw [List.getElem?_set_self (by unfold predsRow; simpa using hu), if_neg (by omega), if_pos rfl, predsTo_succ, if_pos h]
    · rw [List.getElem?_set_ne e, predsRow_at hu]
      have e' : ¬ u = t := fun x => e x.symm
      simp [e']
  · rw [List.getElem?_eq_none (by rw [List.length_set]; unfold predsRow; simp; omega), List.getElem?_eq_none (by unfold predsRow; simp; omega)]

theorem predsRow_next (bs : List BlockM) (n t : Nat) : predsRow bs n t n = predsRow bs n (t + 1) 0 := by
  unfold predsRow
  apply List.map_congr_left
  intro u _
  by_cases h1 : u < t
  · rw [if_pos h1, if_pos (by omega)]
  · rw [if_neg h1]
    by_cases h2 : u = t
    · subst h2
      rw [if_pos rfl, if_pos (by omega)]
    · rw [if_neg h2, if_neg (by omega)]
      split
      · simp [predsTo]
      · rfl

theorem predsRow_last (bs : List BlockM) (n : Nat) : predsRow bs n n 0 = predsAt bs n n 0 := by
  unfold predsRow predsAt
  apply List.map_congr_left
  intro u hu
  rw [if_pos (by simpa using hu)]
  simp

theorem mem_to {bs : List BlockM} {q : BlockM} {b t : Nat} (hin : EndsIn bs) (hq : bs[b]? = some q) : ((t : Int) ∈ q.term.to) ↔ t ∈ succM bs b := by
  unfold succM
  rw [hq]
  simp only [List.mem_map]
  constructor
  · exact fun h => ⟨(t : Int), h, by simp⟩
  · rintro ⟨x, hx, he⟩
    have := hin q (List.mem_of_getElem? hq) x hx
    have e : x = (t : Int) := by omega
    exact e ▸ hx

set_option maxRecDepth 100000 in
set_option maxHeartbeats 4000000 in
theorem refPreds_any (bs : List BlockM) (B : Nat) (pv av cv bv : Value) (w : World) (hbv : BlocksR w B bv bs) (hB : B ≤ w.heap.size) (hn5 : bs.length ≤ 512) (hin : EndsIn bs) :
    Calls Tryz.prog 32 #[.agg #[pv, av, cv, bv]] w (PredsPost bs w) := by
  have HBL := hideI hbv
  have HIN := hideI hin
  obtain ⟨A, c, rfl, hbm, _⟩ := hbv
  obtain ⟨i0, hix, hz0, hz1, hz2⟩ := info_parts ints_info
  clear hin
  go_enter Tryz.func32, Tryz.ntmps32
  go_wp2_with (first
    | (at_make; go_must (refine wpList_make_full _ rfl _ _ 39 rfl (w.heap.size + 1) 22 i0 (.slice none 0 0) 1 Tryz.underlying39 hix hz0 hz1 .i64 .i64 _ _ bs.length rfl rfl rfl rfl (by rw [hz2]; omega) (by unfold maxLen; omega) (by simp) ?_); intro w1 hown1 hg1; rw [World.size_alloc] at hown1; go_must (have HL1 := hideI (Lists.made hown1); have HGB := hideI ((hg1.block w.heap.size (by simp) (by simp)).trans (heap_alloc_new w _)); have HB0 : Hid (Below w.heap.size w w1) := ((Below.refl _ _).alloc (Nat.le_refl _) _).grown hg1 (by simp) (by simp); clear hown1 hg1)))
  clear hix hz0 hz1 hz2
  rw [← predsRow_zero bs bs.length] at HL1
  go_loopw [4] (fun u wr => ∃ (t : Nat) (vs : List Value), t ≤ bs.length ∧ u = .int .i64 t ∧ Hid (Lists wr (w.heap.size + 1) (w.heap.size + 1) bs.length vs (predsRow bs bs.length t 0)) ∧ Hid (Below w.heap.size w wr) ∧ Hid (Below (w.heap.size + 1) w1 wr)) (fun u _ => bs.length - (intOf u).toNat)
  case atStart => exact ⟨0, _, Nat.zero_le _, rfl, HL1, HB0, hideI (Below.refl _ _)⟩
  case round =>
    obtain ⟨t, vs, ht, rfl, HL, HBr, HBo⟩ := hrel
    have hxr := row_cells HGB.out (HBo.out.block w.heap.size (by omega))
    have g3 := hxr 3
    clear hxr
    by_cases hlt : t < bs.length
    · go_wp2
      clear g3
      obtain ⟨wo, rfl⟩ : ∃ wo : World, wo = wr := ⟨_, rfl⟩
      go_loopw [5] (fun u wr => ∃ (b : Nat) (vs : List Value), b ≤ bs.length ∧ u = .int .i64 b ∧ Hid (Lists wr (w.heap.size + 1) (w.heap.size + 1) bs.length vs (predsRow bs bs.length t b)) ∧ Hid (Below (w.heap.size + 1) wo wr)) (fun u _ => bs.length - (intOf u).toNat)
      case atStart => exact ⟨0, vs, Nat.zero_le _, rfl, HL, hideI (Below.refl _ _)⟩
      case round =>
        obtain ⟨b, vs2, hb, rfl, HLi, HBi⟩ := hrel
        have hxr := row_cells HGB.out ((HBo.out.trans HBi.out).block w.heap.size (by omega))
        have g3 := hxr 3
        clear hxr
        by_cases hltb : b < bs.length
        · obtain ⟨q, hq⟩ : ∃ q, bs[b]? = some q := ⟨_, List.getElem?_eq_getElem hltb⟩
          obtain ⟨A', c', e0, _, hbx⟩ := (HBL.out.more' hB).keeps (Keeps.of_below (HBr.out.trans (HBi.out.mono (Nat.le_succ _))))
          cases e0
          obtain ⟨ab, off, pq, cq, tv, rfl, hab, x0, x1, x2, x3, x4, x5, _, _, htv, _⟩ := hbx b q hq
          have HTV := hideI htv
          have HMEM := hideI (mem_to (t := t) HIN.out hq)
          obtain ⟨TA, tc, rfl, htm, _⟩ := htv
          obtain ⟨v, hv⟩ : ∃ v, vs2[t]? = some v := ⟨_, List.getElem?_eq_getElem (by rw [HLi.out.vl]; exact hlt)⟩
          obtain ⟨l, hl0⟩ : ∃ l, l = predsTo bs b t := ⟨_, rfl⟩
          have hl : (predsRow bs bs.length t b)[t]? = some l := by rw [predsRow_at hlt, if_neg (by omega), if_pos rfl, hl0]
          have hll : l.length ≤ 1000 := by have := predsTo_len bs b t; rw [hl0]; omega
          have q1 : wr.cell? ⟨w.heap.size + 1, t, none⟩ = some v := by rw [World.ownsRow.cellAt HLi.out.row t (by omega)]; exact hv
          have HOWN := hideI (HLi.out.own t v l hv hl)
          have hsz := HLi.out.lt.2
          have HV := hideI hv
          have HLL := hideI hl
          have HL0 := hideI hl0
          obtain ⟨tl, htl⟩ : ∃ tl, tl = q.term.to := ⟨_, rfl⟩
          rw [← htl] at HTV HMEM x4 htm
          clear hbx hq x0 x1 x2 x3 x5 hv hl hl0 htl
          by_cases hin2 : (t : Int) ∈ tl
          · have HC : Hid (decide ((t : Int) ∈ tl) = true) := by show _ = _; simpa using hin2
            have HIN2 := hideI (HMEM.out.1 hin2)
            obtain ⟨i1, hjx, hy0, hy1, hy2⟩ := info_parts int_info
            clear hin2
            go_wp2_with (first
              | (go_at_call 69; go_must (refine (has_any _ _ _ _ _ HTV.out).mono ?_); rw [HC.out]; rintro e w2 ⟨rfl, rfl⟩)
              | (at_builtin; go_must (refine wpList_append_lies _ rfl _ _ _ rfl (w.heap.size + 1 + 1) 3 i1 (.int .i64 0) 1 8 Tryz.underlying22 hjx hy0 hy1 hy2 rfl (by decide) _ _ _ rfl (HOWN.out.alloc _) ⟨wr.heap.size, 0, none⟩ 1 1 [.int .i64 b] rfl rfl (one_new wr _) (by simp [Value.oneCell']) (by decide) (by simp only [maxLen]; omega) (by omega) (by simp; omega) _ rfl ?_); intro g1 cap1 w3 hown1 hgrow1 hor1 _; go_must (have HP := hideI (HLi.out.push HV.out HLL.out hown1 hgrow1 hor1); have HPB := hideI (HLi.out.pushed (u := .slice (some ⟨g1, 0, none⟩) (l.length + 1) cap1) HV.out HLL.out hgrow1 HBi.out (Nat.le_refl _)); obtain ⟨hc4, hf4⟩ := HLi.out.held HV.out HLL.out hgrow1; clear hown1 hgrow1 hor1 q1)))
            go_roundw
            case rel => exact ⟨b + 1, _, by omega, by go_num, by rw [← predsRow_push HIN2.out hlt, ← HL0.out]; exact HP, HPB⟩
            case measure => simp [intOf]; omega
          · have HC : Hid (decide ((t : Int) ∈ tl) = false) := by show _ = _; simpa using hin2
            have HIN2 := hideI (fun h => hin2 (HMEM.out.2 h))
            clear hin2
            go_wp2_with (first
              | (go_at_call 69; go_must (refine (has_any _ _ _ _ _ HTV.out).mono ?_); rw [HC.out]; rintro e w2 ⟨rfl, rfl⟩))
            go_roundw
            case rel => exact ⟨b + 1, vs2, by omega, by go_num, by rw [predsRow_skip HIN2.out]; exact HLi, HBi⟩
            case measure => simp [intOf]; omega
        · have hbn : b = bs.length := by omega
          rw [hbn, predsRow_next] at HLi
          clear hbn
          go_wp2
          go_roundw
          case rel => exact ⟨t + 1, vs2, by omega, by go_num, HLi, hideI (HBr.out.trans (HBi.out.mono (Nat.le_succ _))), hideI (HBo.out.trans HBi.out)⟩
          case measure => simp [intOf]; omega
    · have hkn : t = bs.length := by omega
      rw [hkn, predsRow_last] at HL
      clear hkn
      go_wp2
      go_ret
      exact ⟨_, vs, rfl, ⟨HL.out.vl, HL.out.ll, World.ownsRow.mono HL.out.row (by omega), HL.out.own, HL.out.apart⟩, HBr.out⟩

end Go.Proofs.YtglbepdjahddmaaGreat
