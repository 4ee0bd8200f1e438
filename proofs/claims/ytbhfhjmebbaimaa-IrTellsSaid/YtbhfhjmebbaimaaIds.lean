/- Ids: all values, rising. -/
import Derived.Test.YtbhfhjmebbaimaaCount
import Derived.Test.YtbhfhjmebbaimaaShelf
import Derived.Test.YtbhfhjmebbaimaaRefArgs
namespace Go.Proofs.Ytbhfhjmebbaimaa
open Go.RowKit Go.Maps Go.Sort Go.Shelf

theorem at_some {ds : Defs} {k : Int} : (ds.at k).isSome = true ↔ k ∈ ds.map (·.1) := by
  unfold Defs.at
  rw [Option.isSome_map, List.find?_isSome]
  simp only [List.mem_map, beq_iff_eq]

theorem MapIs.keys {w : World} {M : Nat} {ds : Defs} {D : DataW Unit} (hown : w.ownsMap Try.prog 3 (plainElem Try.prog 3) M ds.length D) (hat : ∀ id z, D.atKey (.int .i64 id) z = match ds.at id with | some t => .lit (.int .i64 t) | none => z) (hn : (ds.map (·.1)).Nodup) :
    (ds.map (·.1)).Perm (intKeys D) := by
  refine CollectedI.perm (left := fun _ => false) ⟨hn, fun x => ?_⟩ hown lawInt Try.underlying3 (fun _ => rfl)
  rw [MapIs.has hat x, at_some]
  simp

theorem nodup_snoc {ds : Defs} {id t : Int} (h : (ds.map (·.1)).Nodup) (hn : ds.at id = none) : ((ds ++ [(id, t)]).map (·.1)).Nodup := by
  rw [List.map_append, List.nodup_append]
  refine ⟨h, by simp, ?_⟩
  intro a ha b hb e
  simp at hb
  subst hb e
  have := at_some.2 ha
  rw [hn] at this
  cases this

theorem addDef_nodup {np : Nat} {ds d : Defs} {id t : Int} (h : (ds.map (·.1)).Nodup) (ha : addDef np ds id t = some d) : (d.map (·.1)).Nodup := by
  unfold addDef defB at ha
  split at ha
  · rename_i hc
    injection ha with ha
    subst ha
    simp only [Bool.and_eq_true, Bool.not_eq_true', Option.isSome_eq_false_iff, Option.isNone_iff_eq_none] at hc
    exact nodup_snoc h hc.1
  · cases ha

theorem phisStep_nodup {f : FuncM} : ∀ {l : List PhiM} {ds d : Defs}, (ds.map (·.1)).Nodup → phisStep f ds l = some d → (d.map (·.1)).Nodup := by
  intro l
  induction l with
  | nil => intro ds d hn h; injection h with h; subst h; exact hn
  | cons p l ih =>
    intro ds d hn h
    unfold phisStep at h
    rw [Option.bind_eq_some_iff] at h
    obtain ⟨d1, h1, h2⟩ := h
    refine ih ?_ h2
    unfold phiStep at h1
    split at h1
    · exact addDef_nodup hn h1
    · cases h1

theorem codeStep_nodup {f : FuncM} : ∀ {l : List InstrM} {ds d : Defs}, (ds.map (·.1)).Nodup → codeStep f ds l = some d → (d.map (·.1)).Nodup := by
  intro l
  induction l with
  | nil => intro ds d hn h; injection h with h; subst h; exact hn
  | cons p l ih =>
    intro ds d hn h
    unfold codeStep at h
    rw [Option.bind_eq_some_iff] at h
    obtain ⟨d1, h1, h2⟩ := h
    refine ih ?_ h2
    unfold instrStep at h1
    split at h1
    · split at h1
      · split at h1
        · injection h1 with h1; subst h1; exact hn
        · cases h1
      · exact addDef_nodup hn h1
    · cases h1

theorem blocksStep_nodup {f : FuncM} : ∀ {l : List BlockM} {ds d : Defs}, (ds.map (·.1)).Nodup → blocksStep f ds l = some d → (d.map (·.1)).Nodup := by
  intro l
  induction l with
  | nil => intro ds d hn h; injection h with h; subst h; exact hn
  | cons p l ih =>
    intro ds d hn h
    unfold blocksStep at h
    rw [Option.bind_eq_some_iff] at h
    obtain ⟨d1, h1, h2⟩ := h
    refine ih ?_ h2
    unfold blockStep at h1
    rw [Option.bind_eq_some_iff] at h1
    obtain ⟨d2, h3, h4⟩ := h1
    rw [Option.bind_eq_some_iff] at h4
    obtain ⟨d3, h5, h6⟩ := h4
    split at h6
    · injection h6 with h6
      subst h6
      exact codeStep_nodup (phisStep_nodup hn h3) h5
    · cases h6

theorem paramDefs_ge (l : List Int) : ∀ j, ∀ d ∈ paramDefs j l, (j : Int) ≤ d.1 := by
  induction l with
  | nil => intro j d h; cases h
  | cons a l ih =>
    intro j d h
    rcases List.mem_cons.1 h with rfl | h
    · exact Int.le_refl _
    · have := ih (j + 1) d h
      omega

theorem paramDefs_nodup (l : List Int) : ∀ j, ((paramDefs j l).map (·.1)).Nodup := by
  induction l with
  | nil => intro j; exact List.nodup_nil
  | cons a l ih =>
    intro j
    show (((j : Int), a).1 :: (paramDefs (j + 1) l).map (·.1)).Nodup
    rw [List.nodup_cons]
    refine ⟨fun h => ?_, ih (j + 1)⟩
    obtain ⟨d, hd, he⟩ := List.mem_map.1 h
    have := paramDefs_ge l (j + 1) d hd
    simp only at he
    omega

theorem formed_nodup {f : FuncM} {ds : Defs} (h : formedM f = some ds) : (ds.map (·.1)).Nodup := by
  unfold formedM at h
  split at h
  · exact blocksStep_nodup (paramDefs_nodup _ _) h
  · cases h

/-- all values, rising -/
def idsS (f : FuncM) : List Int := ((lookM f).2.map (·.1)).mergeSort fun x y => decide (x ≤ y)

theorem mapsKeys (mb : Option Nat) (W : World) : Calls Try.prog 25 #[.map mb] W fun e w' => e = .returned (.func (.func 38) #[] #[.pointer (some ⟨W.heap.size, 0, none⟩)]) ∧ w' = W.alloc (.cells #[.map mb] 61) :=
  (callsIn_wide (n := 5)).1 (AnyZI.keys_in keysL Fence.wide 5 trivial rfl mb W)

theorem sortedKeys' {H : Type} (b nn : Nat) (D0 : DataW H) (R : Value → Option (DataW H × List MemPlace)) (w : World) (hown : w.ownsMap Try.prog 3 R b nn D0) (hmax : Maps.size D0 ≤ maxLen) (hbytes : Maps.size D0 * 8 ≤ 140737488355328) :
    Calls Try.prog 24 #[.func (.func 38) #[] #[.pointer (some ⟨w.heap.size, 0, none⟩)]] (w.alloc (.cells #[.map (some b)] 61)) fun e w' => ∃ (v : Value) (ss : List Int), e = .returned v ∧ ss.Perm (intKeys D0) ∧
      w'.ownsRow (w.alloc (.cells #[.map (some b)] 61)).heap.size 3 1 v ss.length ((ss.mergeSort (fun x y => decide (x ≤ y))).map encZ) ∧ (v = .slice none 0 0 ↔ ss = []) ∧ Below (w.alloc (.cells #[.map (some b)] 61)).heap.size (w.alloc (.cells #[.map (some b)] 61)) w' := by
  have hbl := hown.lt
  have hseq : SeqGives Fence.wide 2 Try.prog 38 #[.pointer (some ⟨w.heap.size, 0, none⟩)] encZ (fun ss => ss.Perm (intKeys D0)) (Maps.size D0) (w.alloc (.cells #[.map (some b)] 61)) :=
    AnyZI.keys_gives (ρ := keysL_ren) { keysL with } Fence.wide _ trivial rfl (by omega) w.heap.size b nn D0 _ (by simp) (by simp) (by
      obtain ⟨es, clock, hb, Ft, hs, hD⟩ := hown
      exact ⟨es, clock, (Below.heap_alloc _ _ b hbl).trans hb, Ft, hs, hD⟩)
  exact (callsIn_wide (n := 5)).1 (AnyZI.sorted_in sortedL Fence.wide 5 trivial trivial trivial trivial rfl (by omega) (sortsL _) (enters_of Try.func37 (by kernel_rfl) rfl) 38 #[.pointer (some ⟨w.heap.size, 0, none⟩)] trivial (enters_of Try.func38 (by kernel_rfl) rfl) _ _ hmax hbytes _ hseq)

theorem sortedKeys {H : Type} (b nn : Nat) (D0 : DataW H) (R : Value → Option (DataW H × List MemPlace)) (w : World) (n : Nat) (hn : n = w.heap.size) (hown : w.ownsMap Try.prog 3 R b nn D0) (hmax : Maps.size D0 ≤ maxLen) (hbytes : Maps.size D0 * 8 ≤ 140737488355328) :
    Calls Try.prog 24 #[.func (.func 38) #[] #[.pointer (some ⟨n, 0, none⟩)]] (w.alloc (.cells #[.map (some b)] 61)) fun e w' => ∃ (v : Value) (ss : List Int), e = .returned v ∧ ss.Perm (intKeys D0) ∧
      w'.ownsRow (n + 1) 3 1 v ss.length ((ss.mergeSort (fun x y => decide (x ≤ y))).map encZ) ∧ Below (n + 1) (w.alloc (.cells #[.map (some b)] 61)) w' := by
  subst hn
  refine (sortedKeys' b nn D0 R w hown hmax hbytes).mono ?_
  rintro e w' ⟨v, ss, rfl, hS, hrow, _, hb⟩
  exact ⟨v, ss, rfl, hS, by simpa using hrow, by simpa using hb⟩

def idsOut (f : FuncM) : List Int := if (lookM f).1 = 0 then idsS f else []

def IdsPost (f : FuncM) (w : World) (e : Ending) (w' : World) : Prop :=
  ∃ v, e = .returned (.tuple #[v, .int .i64 (lookM f).1]) ∧ NewInts w.heap.size w' v (idsOut f) ∧ Below w.heap.size w w'

theorem idsS_len (f : FuncM) : (idsS f).length = (lookM f).2.length := by
  unfold idsS
  rw [List.length_mergeSort, List.length_map]

theorem blocksStep_len {f : FuncM} : ∀ {l : List BlockM} {ds d : Defs}, blocksStep f ds l = some d → d.length ≤ ds.length + (l.map sizeB).sum := by
  intro l
  induction l with
  | nil => intro ds d h; injection h with h; subst h; simp
  | cons p l ih =>
    intro ds d h
    unfold blocksStep at h
    rw [Option.bind_eq_some_iff] at h
    obtain ⟨d1, h1, h2⟩ := h
    have := ih h2
    have := blockStep_len h1
    simp only [List.map_cons, List.sum_cons]
    unfold sizeB
    unfold sizeB at *
    omega

theorem look_len {f : FuncM} (h : (lookM f).1 = 0) : (lookM f).2.length ≤ 4112 := by
  have hf := look_formed h
  unfold formedM at hf
  split at hf
  · rename_i hl
    simp only [Bool.and_eq_true] at hl
    have h1 := limits_bd hl.1.1
    have h2 := blocksStep_len hf
    rw [paramDefs_len] at h2
    omega
  · cases hf

set_option maxHeartbeats 1000000 in
theorem ids_any (f : FuncM) (B : Nat) (pv bv : Value) (w : World) (hpv : Ints w B pv f.params) (hbv : BlocksR w B bv f.blocks) (hB : B ≤ w.heap.size) (hid : ∀ u ∈ usesM f, I64 u.1) :
    Calls Try.prog 8 #[.agg #[pv, .int .i64 f.arrays, .int .i64 f.cells, bv]] w (IdsPost f w) := by
  have HP := hideI hpv
  have HB := hideI hbv
  have HID := hideI hid
  obtain ⟨P, pc, rfl, _⟩ := hpv
  obtain ⟨A, c, rfl, _⟩ := hbv
  have hk : Keeps B w (w.alloc (.cells #[.slice P f.params.length pc, .int .i64 f.arrays, .int .i64 f.cells, .slice A f.blocks.length c] 25)) := (Keeps.refl w).alloc hB _
  have HL := hideI (lookAt_any f B _ _ _ (HP.out.keeps hk) (HB.out.keeps hk) (by simp; omega) HID.out)
  clear hid hk
  go_enter Try.func8, Try.ntmps8
  go_wp2_with fail
  refine HL.out.mono ?_
  rintro e w1 ⟨hb1, h | h⟩
  · obtain ⟨h0, M, hM, rfl, hm⟩ := h
    have HB1 := hideI (below_one (hb1.mono (by simp)))
    obtain ⟨D, hown, hD, hwd, hat⟩ := hm
    have hnd := formed_nodup (look_formed h0)
    have hpm := MapIs.keys hown hat hnd
    have hsl := hown.size_le
    have hl := look_len h0
    have HS := hideI (sortedKeys M _ D _ _ (w1.heap.size + 1) (by simp) (hown.alloc (.cells #[.slice P f.params.length pc, .int .i64 f.arrays, .int .i64 f.cells, .slice A f.blocks.length c, .map (some M)] 63)) (by unfold maxLen; omega) (by omega))
    have HPM := hideI hpm
    have HLEN := hideI hl
    have H0 := hideI h0
    clear hb1 h0 hat hwd hpm hsl hl hnd hown
    go_wp2_with (first
      | (go_at_call 25; refine (mapsKeys _ _).mono ?_; rintro e w2 ⟨rfl, rfl⟩)
      | (go_at_call 24; refine HS.out.mono ?_; rintro e w3 ⟨v, ss, rfl, hS, hrow, hb3⟩; have HR := hideI hrow; have HSS := hideI hS; have HB3 := hideI hb3; clear hS hrow hb3))
    go_ret2
    have e1 : idsOut f = ss.mergeSort fun x y => decide (x ≤ y) := by
      unfold idsOut idsS
      rw [if_pos H0.out]
      exact mergeSort_of_perm_i (HPM.out.trans HSS.out.symm)
    refine ⟨v, by rw [H0.out]; rfl, ?_, ?_⟩
    · rw [e1]
      have h1 := newInts_own HR.out (by rw [List.length_mergeSort, HSS.out.length_eq, ← HPM.out.length_eq, List.length_map]; have := HLEN.out; omega)
      obtain ⟨A2, c2, hv, hm2, hx2⟩ := h1
      exact ⟨A2, c2, hv, hm2, fun hp => by obtain ⟨g, cs, q1, q2, q3⟩ := hx2 hp; exact ⟨g, cs, q1, by have := HB1.out.size; omega, q3⟩⟩
    · exact ((HB1.out.alloc HB1.out.size _).alloc (by have := HB1.out.size; simp; omega) _).trans (HB3.out.mono (by have := HB1.out.size; simp; omega))
  · obtain ⟨h0, rfl⟩ := h
    have HB1 := hideI (below_one (hb1.mono (by simp)))
    have hb : ((lookM f).1 != 0) = true := by simpa using h0
    have H0 := hideI h0
    clear hb1 h0
    go_wp2
    go_ret2
    exact ⟨_, rfl, by unfold idsOut; rw [if_neg H0.out]; exact NewInts.nil _ _, HB1.out.alloc HB1.out.size _⟩

end Go.Proofs.Ytbhfhjmebbaimaa
