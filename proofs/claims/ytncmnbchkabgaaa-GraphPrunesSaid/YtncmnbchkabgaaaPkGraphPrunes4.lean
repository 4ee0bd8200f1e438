/- What GraphPrunes rests on, part 4: GOrder, GReach, GLists, FBlockW. -/
import Derived.Test.YtncmnbchkabgaaaPkGraphPrunes3
import Derived.OwnWalk
import Derived.RegionTactic
import Derived.ChangeAlike
import Derived.BigRegion
import Derived.Outline
import Derived.Laws.OwnMore
import Derived.Laws.EntriesVeiled
import Derived.Deep.Onto
import Derived.Deep.RegionWith
import Derived.Deep.DeepCutAuto
import Derived.Deep.CutRange

namespace Go.Proofs.Ytncmnbchkabgaaa
open Go.RowKit

/-- turned round from both ends, k elements each -/
def RevTo {α : Type} (xs ys : List α) (k : Nat) : Prop :=
  ys.length = xs.length ∧ ∀ p, p < xs.length → ys[p]? = if p < k ∨ xs.length ≤ p + k then xs[xs.length - 1 - p]? else xs[p]?

theorem RevTo.start {α : Type} (xs : List α) : RevTo xs xs 0 := ⟨rfl, fun p hp => by rw [if_neg (by omega)]⟩

theorem RevTo.step {α : Type} {xs ys : List α} {k m : Nat} {a b : α} (h : RevTo xs ys k) (hm : m + k + 1 = xs.length) (hlt : k < m) (ha : ys[k]? = some a) (hb : ys[m]? = some b) : RevTo xs ((ys.set k b).set m a) (k + 1) := by
  refine ⟨by rw [List.length_set, List.length_set, h.1], fun p hp => ?_⟩
  have h1 := h.2 k (by omega)
  have h2 := h.2 m (by omega)
  rw [if_neg (by omega)] at h1 h2
  by_cases e2 : p = m
  · subst e2
    rw [List.getElem?_set_self (by rw [List.length_set, h.1]; omega), if_pos (by omega), ← ha, h1]
    congr 1
    omega
  · rw [List.getElem?_set_ne (by omega)]
    by_cases e1 : p = k
    · subst e1
      rw [List.getElem?_set_self (by rw [h.1]; omega), if_pos (by omega), ← hb, h2]
      congr 1
      omega
    · rw [List.getElem?_set_ne (by omega), h.2 p hp]
      by_cases hc : p < k ∨ xs.length ≤ p + k
      · rw [if_pos hc, if_pos (by omega)]
      · rw [if_neg hc, if_neg (by omega)]

theorem RevTo.last {α : Type} {xs ys : List α} {k m : Nat} (h : RevTo xs ys k) (hm : m + k + 1 = xs.length) (hge : m ≤ k) : ys = xs.reverse := by
  apply List.ext_getElem?
  intro p
  by_cases hp : p < xs.length
  · rw [h.2 p hp, List.getElem?_reverse hp]
    by_cases hc : p < k ∨ xs.length ≤ p + k
    · rw [if_pos hc]
    · rw [if_neg hc]
      congr 1
      omega
  · rw [List.getElem?_eq_none (by rw [h.1]; omega), List.getElem?_eq_none (by rw [List.length_reverse]; omega)]

set_option maxRecDepth 100000 in
set_option maxHeartbeats 2000000 in
theorem reverse_any (base g cap : Nat) (xs : List Int) (w : World) (hn : 0 < xs.length) (hn2 : xs.length ≤ 1000000) (hown : w.ownsRow base 3 1 (.slice (some ⟨g, 0, none⟩) xs.length cap) xs.length (xs.map (Value.int .i64))) :
    Calls Try.prog 53 #[.slice (some ⟨g, 0, none⟩) xs.length cap] w fun e w' => e = .returned (.tuple #[]) ∧ w'.ownsRow base 3 1 (.slice (some ⟨g, 0, none⟩) xs.length cap) xs.length (xs.reverse.map (Value.int .i64)) ∧ w.grownBy w' (some g) := by
  have HOWN := hideI hown
  obtain ⟨n, hN⟩ : ∃ n, n = xs.length := ⟨_, rfl⟩
  have HN := hideI hN
  rw [← hN] at hn hn2 ⊢
  clear hown hN
  go_enter Try.func53, Try.ntmps53
  go_wp2
  go_loopw [2, 3] (fun u v wr => ∃ (k m : Nat) (ys : List Int), m + k + 1 = n ∧ u = .int .i64 k ∧ v = .int .i64 m ∧ Hid (RevTo xs ys k) ∧ Hid (wr.ownsRow base 3 1 (.slice (some ⟨g, 0, none⟩) n cap) n (ys.map (Value.int .i64))) ∧ Hid (w.grownBy wr (some g))) (fun _ v _ => (intOf v).toNat)
  case atStart => exact ⟨0, n - 1, xs, by omega, rfl, by go_num, hideI (RevTo.start xs), (by have := HOWN.out; rw [← HN.out] at this; exact hideI this), hideI (World.grownBy.refl _ _)⟩
  case round =>
    obtain ⟨k, m, ys, hm, rfl, rfl, HR, HO, HG⟩ := hrel
    have hyl : ys.length = n := by rw [HR.out.1, ← HN.out]
    have HM : Hid (m + k + 1 = xs.length) := by show _ = _; rw [← HN.out]; exact hm
    by_cases hlt : k < m
    · obtain ⟨a, ha⟩ : ∃ a, ys[k]? = some a := ⟨_, List.getElem?_eq_getElem (by omega)⟩
      obtain ⟨b, hb⟩ : ∃ b, ys[m]? = some b := ⟨_, List.getElem?_eq_getElem (by omega)⟩
      have q1 : wr.cell? ⟨g, k, none⟩ = some (.int .i64 a) := by rw [World.ownsRow.cellAt HO.out k (by omega), List.getElem?_map, ha]; rfl
      have q2 : wr.cell? ⟨g, m, none⟩ = some (.int .i64 b) := by rw [World.ownsRow.cellAt HO.out m (by omega), List.getElem?_map, hb]; rfl
      have q3 : wr.frozen? ⟨g, k, none⟩ = false := World.ownsRow.frozenAt HO.out k
      have q4 : wr.frozen? ⟨g, m, none⟩ = false := World.ownsRow.frozenAt HO.out m
      have HA := hideI ha
      have HB := hideI hb
      have hkm : k ≠ m := by omega
      have hmk : m ≠ k := by omega
      have hkn : k < n := by omega
      have hmn : m < n := by omega
      obtain ⟨m', rfl⟩ : ∃ m', m = m' + 1 := ⟨m - 1, by omega⟩
      have HM2 : Hid (m' + (k + 1) + 1 = n) := by show _ = _; omega
      clear ha hb hyl hm
      go_wp2
      go_region
      have HS : Hid (((wr.setCell ⟨g, k, none⟩ (.int .i64 b)).setCell ⟨g, m' + 1, none⟩ (.int .i64 a)).drew.ownsRow base 3 1 (.slice (some ⟨g, 0, none⟩) n cap) n (((ys.set k b).set (m' + 1) a).map (Value.int .i64))) := by
        show World.ownsRow _ _ _ _ _ _ _
        rw [List.map_set, List.map_set]
        exact ((World.ownsRow.stored (World.ownsRow.stored HO.out k _).1 (m' + 1) _).1).drew
      have HG2 : Hid (w.grownBy ((wr.setCell ⟨g, k, none⟩ (.int .i64 b)).setCell ⟨g, m' + 1, none⟩ (.int .i64 a)).drew (some g)) :=
        ((HG.out.trans_grown (World.ownsRow.stored HO.out k _).2).trans_grown (World.ownsRow.stored (World.ownsRow.stored HO.out k (.int .i64 b)).1 (m' + 1) _).2).trans_grown ⟨rfl, rfl, rfl, Nat.le_refl _, fun _ _ _ => rfl⟩
      clear q1 q2 q3 q4
      go_wp2
      go_roundw
      case rel => exact ⟨k + 1, m', (ys.set k b).set (m' + 1) a, HM2.out, by go_num, by go_num, HR.out.step HM.out (by omega) HA.out HB.out, HS, HG2⟩
      case measure => simp [intOf]
    · have hge : m ≤ k := by omega
      clear hm hyl
      go_wp2
      go_end0
      refine ⟨rfl, ?_, HG.out⟩
      rw [← HR.out.last HM.out hge]
      exact HO.out

end Go.Proofs.Ytncmnbchkabgaaa

namespace Go.Proofs.Ytncmnbchkabgaaa
open Go.RowKit Go.Maps

theorem bool_info : (Try.prog.info? 4).map (fun i => (i.zero, i.size, i.bytes)) = some (some (.bool false), 1, 1) := by kernel_rfl

/-- a right function's ends go to blocks that are there -/
theorem term_in {nb : Nat} {t : TermM} {f : FuncM} (hn : f.blocks.length = nb) (h : termB f t = true) : ∀ x ∈ t.to, 1 ≤ x ∧ x < nb := by
  unfold termB targetsB at h
  simp only [Bool.and_eq_true, List.all_eq_true] at h
  intro x hx
  have := h.1 x hx
  unfold withinB at this
  simp only [Bool.and_eq_true, decide_eq_true_eq] at this
  omega

theorem blocksStep_term {f : FuncM} : ∀ {l : List BlockM} {ds d : Defs}, blocksStep f ds l = some d → ∀ b ∈ l, termB f b.term = true := by
  intro l
  induction l with
  | nil => intro ds d _ b hb; cases hb
  | cons p l ih =>
    intro ds d h b hb
    unfold blocksStep at h
    rw [Option.bind_eq_some_iff] at h
    obtain ⟨d1, h1, h2⟩ := h
    rcases List.mem_cons.1 hb with rfl | hb
    · unfold blockStep at h1
      rw [Option.bind_eq_some_iff] at h1
      obtain ⟨d2, h3, h4⟩ := h1
      rw [Option.bind_eq_some_iff] at h4
      obtain ⟨d3, h5, h6⟩ := h4
      split at h6
      · assumption
      · cases h6
    · exact ih h2 b hb

theorem look_term {f : FuncM} (h : (lookM f).1 = 0) : ∀ b ∈ f.blocks, termB f b.term = true := by
  have hf := look_formed h
  unfold formedM at hf
  split at hf
  · exact blocksStep_term hf
  · cases hf

theorem look_ends {f : FuncM} (h : (lookM f).1 = 0) : EndsIn f.blocks := by
  intro q hq t ht
  have := term_in rfl (look_term h q hq) t ht
  omega

theorem look_some_block {f : FuncM} (h : (lookM f).1 = 0) : 0 < f.blocks.length ∧ f.blocks.length ≤ 512 := by
  have hf := look_formed h
  unfold formedM at hf
  split at hf
  · rename_i hl
    simp only [Bool.and_eq_true] at hl
    have h1 := hl.1.1
    unfold limitsB withinB at h1
    simp only [Bool.and_eq_true, decide_eq_true_eq] at h1
    omega
  · cases hf

/-- the first state: nothing begun -/
theorem marks_none (n : Nat) : marks n [] = (List.range n).map fun _ => Value.bool false := by
  unfold marks
  apply List.map_congr_left
  intro i _
  simp

theorem marks_made (n : Nat) : (madeCells (Value.bool false).cells (n * 1)).toList = marks n [] := by
  rw [show (Value.bool false).cells = #[Value.bool false] from rfl, toList_madeCells_one, Nat.mul_one, marks_none]
  apply List.ext_getElem?
  intro i
  by_cases h : i < n
  · rw [List.getElem?_replicate, if_pos h, List.getElem?_map, List.getElem?_eq_getElem (by simpa using h)]
    rfl
  · rw [List.getElem?_eq_none (by simp; omega), List.getElem?_eq_none (by simp; omega)]

theorem dfs_new {w w1 : World} {gr : Array Value} {n : Nat} (hown : w1.ownsRow (w.heap.size + 1) 4 1 (.slice (some ⟨w.heap.size + 1, 0, none⟩) n n) n (madeCells (Value.bool false).cells (n * 1)).toList)
    (hg : (w.alloc (.cells gr 37)).grownBy w1 none) :
    Dfs w.heap.size w1.heap.size n gr [] [] (((w1.alloc (.cells #[.slice (some ⟨w.heap.size + 1, 0, none⟩) n n] 39)).alloc (.cells #[.slice none 0 0] 22)).alloc
      (.cells #[.func (.func 52) #[] #[.pointer (some ⟨w1.heap.size, 0, none⟩), .pointer (some ⟨w.heap.size, 0, none⟩), .pointer (some ⟨w1.heap.size + 1 + 1, 0, none⟩), .pointer (some ⟨w1.heap.size + 1, 0, none⟩)]] 98)) := by
  have hlt : w.heap.size + 1 < w1.heap.size := (hown.lt _ rfl).2
  rw [marks_made] at hown
  refine ⟨hlt, ?_, ((hown.alloc _).alloc _).alloc _, ?_, ⟨.slice none 0 0, ?_, ?_⟩, ?_⟩
  · rw [Below.heap_alloc _ _ _ (by simp; omega), Below.heap_alloc _ _ _ (by simp; omega), Below.heap_alloc _ _ _ (by omega), hg.block _ (by simp) (by simp)]
    exact heap_alloc_new w _
  · rw [Below.heap_alloc _ _ _ (by simp; omega), Below.heap_alloc _ _ _ (by simp)]
    exact heap_alloc_new w1 _
  · rw [Below.heap_alloc _ _ _ (by simp)]
    have := heap_alloc_new (w1.alloc (.cells #[.slice (some ⟨w.heap.size + 1, 0, none⟩) n n] 39)) (.cells #[.slice none 0 0] 22)
    simpa using this
  · exact World.ownsRow_nil _ _ _ _
  · have := heap_alloc_new ((w1.alloc (.cells #[.slice (some ⟨w.heap.size + 1, 0, none⟩) n n] 39)).alloc (.cells #[.slice none 0 0] 22)) (.cells #[.func (.func 52) #[] #[.pointer (some ⟨w1.heap.size, 0, none⟩), .pointer (some ⟨w.heap.size, 0, none⟩), .pointer (some ⟨w1.heap.size + 1 + 1, 0, none⟩), .pointer (some ⟨w1.heap.size + 1, 0, none⟩)]] 98)
    simpa using this

theorem dfs_below {w w1 : World} {gr : Array Value} {t : TypeId} {o1 o2 o3 : Obj} (hg : (w.alloc (.cells gr t)).grownBy w1 none) : Below w.heap.size w (((w1.alloc o1).alloc o2).alloc o3) := by
  have h1 : Below w.heap.size w w1 := ((Below.refl _ _).alloc (Nat.le_refl _) _).grown hg (by simp) (by simp)
  have hs := h1.size
  exact ((h1.alloc hs _).alloc (by simp; omega) _).alloc (by simp; omega) _

theorem reverse_nat (base g cap : Nat) (l : List Nat) (w : World) (hn : 0 < l.length) (hn2 : l.length ≤ 1000000) (hown : w.ownsRow base 3 1 (.slice (some ⟨g, 0, none⟩) l.length cap) l.length (natInts l)) :
    Calls Try.prog 53 #[.slice (some ⟨g, 0, none⟩) l.length cap] w fun e w' => e = .returned (.tuple #[]) ∧ w'.ownsRow base 3 1 (.slice (some ⟨g, 0, none⟩) l.length cap) l.length (natInts l.reverse) ∧ w.grownBy w' (some g) := by
  have hx : natInts l = (l.map fun (x : Nat) => (x : Int)).map (Value.int .i64) := by unfold natInts; rw [List.map_map]; rfl
  have hy : natInts l.reverse = (l.map fun (x : Nat) => (x : Int)).reverse.map (Value.int .i64) := by unfold natInts; rw [← List.map_reverse, List.map_map]; rfl
  have h := reverse_any base g cap (l.map fun (x : Nat) => (x : Int)) w (by simpa using hn) (by simpa using hn2) (by rw [List.length_map, ← hx]; exact hown)
  rw [List.length_map, ← hy] at h
  exact h

theorem OrderIs.range {bs : List BlockM} {o : List Nat} (h : OrderIs bs o) (hin : EndsIn bs) (h0 : 0 < bs.length) : ∀ x ∈ o, x < bs.length := by
  obtain ⟨bg, dn, v, rfl⟩ := h
  have v2 : Visit (succM bs) [0] ([], []) (bg, dn ++ [0]) := .go (by simp) v (.nil _)
  have hr := visit_range hin.succ v2 (by simpa using h0) (by simp)
  obtain ⟨new, d⟩ := v2.did
  have hd : dn ++ [0] = new := by simpa using d.done
  intro x hx
  rw [hd] at hx
  exact hr x ((d.begun x).2 (.inr (List.mem_reverse.1 hx)))

/-- what order answers -/
def OrdPost (bs : List BlockM) (w : World) (e : Ending) (w' : World) : Prop :=
  ∃ (o : List Nat) (g cap : Nat), e = .returned (.slice (some ⟨g, 0, none⟩) o.length cap) ∧ OrderIs bs o ∧ 0 < o.length ∧ o.length ≤ bs.length ∧ w'.ownsRow w.heap.size 3 1 (.slice (some ⟨g, 0, none⟩) o.length cap) o.length (natInts o) ∧ Below w.heap.size w w'

theorem ord_len {bs : List BlockM} {dn bg l : List Nat} (hin : EndsIn bs) (h0 : 0 < bs.length) (hv : Visit (succM bs) (succM bs 0) ([0], []) (bg, dn)) (hl : l = dn ++ [0]) : 0 < l.length ∧ l.length ≤ bs.length := by
  have ho : OrderIs bs (dn ++ [0]).reverse := ⟨bg, dn, hv, rfl⟩
  have := below_len _ _ ho.facts.2.1 (ho.range hin h0)
  rw [List.length_reverse, ← hl] at this
  exact ⟨by rw [hl]; simp, this⟩

theorem ord_post {bs : List BlockM} {w w' : World} {dn bg l : List Nat} {g cap base : Nat} (hin : EndsIn bs) (h0 : 0 < bs.length) (hv : Visit (succM bs) (succM bs 0) ([0], []) (bg, dn)) (hl : l = dn ++ [0]) (hb : w.heap.size ≤ base)
    (hown : w'.ownsRow base 3 1 (.slice (some ⟨g, 0, none⟩) l.length cap) l.length (natInts l.reverse)) (hB : Below w.heap.size w w') :
    OrdPost bs w (.returned (.slice (some ⟨g, 0, none⟩) l.length cap)) w' := by
  subst hl
  have ho : OrderIs bs (dn ++ [0]).reverse := ⟨bg, dn, hv, rfl⟩
  refine ⟨(dn ++ [0]).reverse, g, cap, by rw [List.length_reverse], ho, by simp, ?_, ?_, hB⟩
  · exact below_len _ _ ho.facts.2.1 (ho.range hin h0)
  · rw [List.length_reverse]
    exact World.ownsRow.mono hown hb

set_option maxRecDepth 100000 in
set_option maxHeartbeats 2000000 in
theorem order_any (bs : List BlockM) (B : Nat) (pv av cv bv : Value) (w : World) (hbv : BlocksR w B bv bs) (hB : B ≤ w.heap.size) (h0 : 0 < bs.length) (hn5 : bs.length ≤ 512) (hin : EndsIn bs) :
    Calls Try.prog 37 #[.agg #[pv, av, cv, bv]] w (OrdPost bs w) := by
  have HBL := hideI hbv
  have HIN := hideI hin
  obtain ⟨A, c, rfl, hbm, _⟩ := hbv
  obtain ⟨i0, hix, hz0, hz1, hz2⟩ := info_parts bool_info
  clear hin
  go_enter Try.func37, Try.ntmps37
  go_wp2_with (first
    | (at_make; go_must (refine wpList_make_full _ rfl _ _ 39 rfl (w.heap.size + 1) 4 i0 (.bool false) 1 Try.underlying39 hix hz0 hz1 .i64 .i64 _ _ bs.length rfl rfl rfl rfl (by rw [hz2]; omega) (by unfold maxLen; omega) (by simp) ?_); intro w1 hown1 hg1; rw [World.size_alloc] at hown1; go_must (have HD0 := hideI (dfs_new hown1 hg1); have HB0 : Hid (∀ o1 o2 o3 : Obj, Below w.heap.size w (((w1.alloc o1).alloc o2).alloc o3)) := fun o1 o2 o3 => dfs_below hg1; clear hown1 hg1))
    | (go_at_call 52; go_must (refine (visit_any bs w.heap.size w1.heap.size pv av cv _ hn5 HIN.out bs.length [] [] 0 _ (by simp) (by simp) (by simp) (by simp) h0 (by simp) ((HBL.out.more' hB).keeps (Keeps.of_below (HB0.out _ _ _))) HD0.out).mono ?_); rintro e w2 ⟨bg, dn, rfl, hv, hd, hb⟩; obtain ⟨l, hl⟩ : ∃ l, l = dn ++ [0] := ⟨_, rfl⟩; rw [← hl] at hd; have HL := hideI hl; obtain ⟨hl0, hl1⟩ := ord_len HIN.out h0 hv hl; have HV := hideI hv; have HB2 := hideI ((HB0.out _ _ _).trans hb); have hR := hd.hR; obtain ⟨v, hdv, hown⟩ := hd.done; obtain ⟨g, cap, rfl, hg1, hg2⟩ := hown.form hl0; have hdb := cell_of_one hdv; have HDV := hideI hdv; have HO := hideI hown; clear hv hd hb hdv hown HD0 HB0 hl)
    | (go_at_call 53; go_must (refine (reverse_nat (w1.heap.size + 3) g cap l _ hl0 (by omega) HO.out).mono ?_); rintro e w3 ⟨rfl, ho3, hg3⟩; have HO3 := hideI ho3; have HG3 := hideI hg3; have hdb3 := cell_of_one ((hg3.block (w1.heap.size + 1) (lt_of_block HDV.out) (by simp; omega)).trans HDV.out); clear ho3 hg3 hdb))
  go_ret
  refine ord_post HIN.out h0 HV.out HL.out (by omega) HO3.out (HB2.out.trans ⟨HG3.out.os, HG3.out.tape, HG3.out.output, HG3.out.size, fun b hb => HG3.out.block b (Nat.lt_of_lt_of_le hb HB2.out.size) (by simp; omega)⟩)

end Go.Proofs.Ytncmnbchkabgaaa

namespace Go.Proofs.Ytncmnbchkabgaaa
open Go.RowKit Go.Maps

theorem marks_congr {n : Nat} {a b : List Nat} (h : ∀ x, x ∈ a ↔ x ∈ b) : marks n a = marks n b := by
  unfold marks
  apply List.map_congr_left
  intro i _
  simp [h]

theorem marks_take {n i x : Nat} {o : List Nat} (h : o[i]? = some x) : marks n (x :: o.take i) = marks n (o.take (i + 1)) := by
  apply marks_congr
  intro y
  rw [List.take_add_one, h]
  simp only [List.mem_cons, List.mem_append, Option.toList_some, List.not_mem_nil, or_false]
  exact or_comm

theorem nat_cell {w : World} {base g n cap i x : Nat} {o : List Nat} (h : w.ownsRow base 3 1 (.slice (some ⟨g, 0, none⟩) n cap) n (natInts o)) (hx : o[i]? = some x) : w.cell? ⟨g, i, none⟩ = some (.int .i64 (x : Int)) := by
  have hl : o.length = n := by have := h.1; unfold natInts at this; simpa using this
  have hi := (List.getElem?_eq_some_iff.1 hx).1
  rw [World.ownsRow.cellAt h i (by omega)]
  unfold natInts
  rw [List.getElem?_map, hx]
  rfl

theorem own_kept_below {base B : Nat} {e : TypeId} {size n : Nat} {v : Value} {xs : List Value} {w w' : World} (h : w.ownsRow base e size v n xs) (hb : Below B w w') (hv : ∀ k, v.ownBlock = some k → k < B) : w'.ownsRow base e size v n xs := by
  refine ⟨h.1, ?_⟩
  rcases h.2 with h2 | ⟨g, cap, cur, rfl, h3, h4, r⟩
  · exact .inl h2
  · exact .inr ⟨g, cap, cur, rfl, h3, (hb.block g (hv g rfl)).trans h4, r⟩

end Go.Proofs.Ytncmnbchkabgaaa

namespace Go.Proofs.Ytncmnbchkabgaaa
open Go.RowKit

def IdxIs (xs : List Int) (x r : Int) : Prop := (r = -1 ∧ x ∉ xs) ∨ ∃ k : Nat, r = k ∧ xs[k]? = some x ∧ x ∉ xs.take k

theorem IdxIs.mem {xs : List Int} {x r : Int} (h : IdxIs xs x r) : decide (x ∈ xs) = decide (0 ≤ r) := by
  rcases h with ⟨rfl, h⟩ | ⟨k, rfl, h, _⟩
  · simp [h]
  · simp [List.mem_of_getElem? h]

def IdxPost (xs : List Int) (x : Int) (w : World) (e : Ending) (w' : World) : Prop := ∃ r, e = .returned (.int .i64 r) ∧ IdxIs xs x r ∧ w = w'

theorem not_mem_take_succ {xs : List Int} {k : Nat} {x y : Int} (h : x ∉ xs.take k) (hy : xs[k]? = some y) (hne : y ≠ x) : x ∉ xs.take (k + 1) := by
  rw [List.take_add_one, hy]
  simp only [Option.toList_some, List.mem_append, List.mem_singleton, not_or]
  exact ⟨h, fun e => hne e.symm⟩

set_option maxRecDepth 100000 in
set_option maxHeartbeats 1000000 in
theorem index_any (xs : List Int) (B : Nat) (v : Value) (x : Int) (w : World) (hx : Ints w B v xs) :
    Calls Try.prog 54 #[v, .int .i64 x] w (IdxPost xs x w) := by
  obtain ⟨A, c, rfl, hm, hcell⟩ := hx
  have HC := hideI hcell
  clear hcell
  go_enter Try.func54, Try.ntmps54
  go_wp2
  go_loop [8] (fun u => ∃ k : Nat, k ≤ xs.length ∧ u = .int .i64 k ∧ Hid (x ∉ xs.take k)) (fun u => xs.length - (intOf u).toNat)
  case atStart => exact ⟨0, Nat.zero_le _, rfl, by exact hideI (by simp)⟩
  case round =>
    obtain ⟨k, hk, rfl, HN⟩ := hrel
    by_cases hlt : k < xs.length
    · obtain ⟨b, off, rfl, hb, hcell⟩ := HC.out k hlt
      obtain ⟨y, hy⟩ : ∃ y, xs[k]? = some y := ⟨_, List.getElem?_eq_getElem hlt⟩
      rw [hy] at hcell
      simp only [Option.getD_some] at hcell
      have HY := hideI hy
      clear hy
      cases he : x == y
      · have HE := hideI he
        go_wp2
        go_round
        case rel => exact ⟨k + 1, by omega, by go_num, hideI (not_mem_take_succ HN.out HY.out (by have := HE.out; simp at this; exact fun e => this e.symm))⟩
        case measure => simp [intOf]; omega
      · have HE := hideI he
        go_wp2
        go_ret
        exact ⟨k, rfl, .inr ⟨k, rfl, by have := HE.out; simp at this; rw [this]; exact HY.out, HN.out⟩, rfl⟩
    · have HE : Hid (xs.take k = xs) := List.take_of_length_le (by omega)
      rw [HE.out] at HN
      go_wp2
      go_ret
      exact ⟨-1, rfl, .inl ⟨rfl, HN.out⟩, rfl⟩

set_option maxHeartbeats 1000000 in
theorem contains_any (xs : List Int) (B : Nat) (v : Value) (x : Int) (w : World) (hx : Ints w B v xs) :
    Calls Try.prog 39 #[v, .int .i64 x] w fun e w' => e = .returned (.bool (decide (x ∈ xs))) ∧ w = w' := by
  have HX := hideI hx
  obtain ⟨A, c, rfl, hm, _⟩ := hx
  go_enter Try.func39, Try.ntmps39
  go_wp2_with (go_at_call 54; go_must (refine (index_any xs B _ x _ HX.out).mono ?_); rintro e w2 ⟨r, rfl, hr, rfl⟩; have HR := hideI hr; clear hr)
  go_ret
  exact ⟨by rw [HR.out.mem]; rfl, rfl⟩

set_option maxRecDepth 100000 in
set_option maxHeartbeats 1000000 in
theorem has_any (xs : List Int) (B : Nat) (v : Value) (x : Int) (w : World) (hx : Ints w B v xs) :
    Calls Try.prog 25 #[v, .int .i64 x] w fun e w' => e = .returned (.bool (decide (x ∈ xs))) ∧ w = w' := by
  obtain ⟨A, c, rfl, hm, hcell⟩ := hx
  have HC := hideI hcell
  clear hcell
  go_enter Try.func25, Try.ntmps25
  go_wp2
  go_loop [5] (fun u => ∃ k : Nat, k ≤ xs.length ∧ u = .int .i64 k ∧ Hid (x ∉ xs.take k)) (fun u => xs.length - (intOf u).toNat)
  case atStart => exact ⟨0, Nat.zero_le _, rfl, by exact hideI (by simp)⟩
  case round =>
    obtain ⟨k, hk, rfl, HN⟩ := hrel
    by_cases hlt : k < xs.length
    · obtain ⟨b, off, rfl, hb, hcell⟩ := HC.out k hlt
      obtain ⟨y, hy⟩ : ∃ y, xs[k]? = some y := ⟨_, List.getElem?_eq_getElem hlt⟩
      rw [hy] at hcell
      simp only [Option.getD_some] at hcell
      have HY := hideI hy
      clear hy
      cases he : y == x
      · have HE := hideI he
        go_wp2
        go_round
        case rel => exact ⟨k + 1, by omega, by go_num, hideI (not_mem_take_succ HN.out HY.out (by have := HE.out; simpa using this))⟩
        case measure => simp [intOf]; omega
      · have HE := hideI he
        go_wp2
        go_ret
        exact ⟨by have h1 := HE.out; simp at h1; have h2 := List.mem_of_getElem? HY.out; rw [h1] at h2; simp [h2], rfl⟩
    · have HE : Hid (xs.take k = xs) := List.take_of_length_le (by omega)
      rw [HE.out] at HN
      go_wp2
      go_ret
      exact ⟨by have := HN.out; simp [this], rfl⟩

end Go.Proofs.Ytncmnbchkabgaaa

namespace Go.Proofs.Ytncmnbchkabgaaa
open Go.RowKit Go.Maps

theorem ints_info : (Try.prog.info? 22).map (fun i => (i.zero, i.size, i.bytes)) = some (some (.slice none 0 0), 1, 24) := by kernel_rfl

structure Lists (w : World) (base gb n : Nat) (vs : List Value) (ls : List (List Nat)) : Prop where
  vl : vs.length = n
  ll : ls.length = n
  row : w.ownsRow base 22 1 (.slice (some ⟨gb, 0, none⟩) n n) n vs
  own : ∀ (t : Nat) v l, vs[t]? = some v → ls[t]? = some l → w.ownsRow (gb + 1) 3 1 v l.length (natInts l)
  apart : ∀ (t t' : Nat) v v', t ≠ t' → vs[t]? = some v → vs[t']? = some v' → v.ownBlock = none ∨ v.ownBlock ≠ v'.ownBlock

variable {w w1 : World} {base gb n : Nat} {vs : List Value} {ls : List (List Nat)}

theorem Lists.lt (h : Lists w base gb n vs ls) : base ≤ gb ∧ gb < w.heap.size := h.row.lt gb rfl

theorem Lists.made {W : World} (hown : W.ownsRow base 22 1 (.slice (some ⟨gb, 0, none⟩) n n) n (madeCells (Value.slice none 0 0).cells (n * 1)).toList) : Lists W base gb n (List.replicate n (.slice none 0 0)) ((List.range n).map fun _ => []) := by
  rw [show (Value.slice none 0 0).cells = #[Value.slice none 0 0] from rfl, toList_madeCells_one, Nat.mul_one] at hown
  refine ⟨by simp, by simp, hown, fun t v l hv hl => ?_, fun t t' v v' _ hv _ => ?_⟩
  · have e1 := List.mem_of_getElem? hv
    rw [List.mem_replicate] at e1
    obtain ⟨_, rfl⟩ := e1
    have e2 := List.mem_of_getElem? hl
    rw [List.mem_map] at e2
    obtain ⟨_, _, rfl⟩ := e2
    exact World.ownsRow_nil _ _ _ _
  · have e1 := List.mem_of_getElem? hv
    rw [List.mem_replicate] at e1
    obtain ⟨_, rfl⟩ := e1
    exact .inl rfl

theorem Lists.push {t b g' cap' : Nat} {v : Value} {l : List Nat} {o : Obj} (h : Lists w base gb n vs ls) (hv : vs[t]? = some v) (hl : ls[t]? = some l)
    (hown' : w1.ownsRow (gb + 1) 3 1 (.slice (some ⟨g', 0, none⟩) (l.length + 1) cap') (l.length + 1) (natInts l ++ [.int .i64 (b : Int)])) (hg : (w.alloc o).grownBy w1 v.ownBlock) (hor : v.ownBlock = some g' ∨ g' = (w.alloc o).heap.size) :
    Lists (w1.setCell ⟨gb, t, none⟩ (.slice (some ⟨g', 0, none⟩) (l.length + 1) cap')) base gb n (vs.set t (.slice (some ⟨g', 0, none⟩) (l.length + 1) cap')) (ls.set t (l ++ [b])) := by
  have htl : t < vs.length := (List.getElem?_eq_some_iff.1 hv).1
  have htl2 : t < ls.length := (List.getElem?_eq_some_iff.1 hl).1
  have hvo := h.own t v l hv hl
  have hgbv : ∀ k, v.ownBlock = some k → gb + 1 ≤ k := fun k hk => (hvo.lt k hk).1
  have hrow1 : w1.ownsRow base 22 1 (.slice (some ⟨gb, 0, none⟩) n n) n vs := (h.row.alloc o).kept hg (.inr (fun e => by have := hgbv gb e.symm; omega))
  refine ⟨by rw [List.length_set, h.vl], by rw [List.length_set, h.ll], (hrow1.stored t _).1, fun t' v' l' hv' hl' => ?_, fun t1 t2 v1 v2 hne h1 h2 => ?_⟩
  · by_cases e : t = t'
    · subst e
      rw [List.getElem?_set_self htl] at hv'
      rw [List.getElem?_set_self htl2] at hl'
      cases hv'
      cases hl'
      have h1 := ownsRow_setCell_other hown' (a := ⟨gb, t, none⟩) (by
        intro e
        have := (hown'.lt _ e).1
        simp only at this
        omega) (.slice (some ⟨g', 0, none⟩) (l.length + 1) cap')
      simpa [natInts] using h1
    · rw [List.getElem?_set_ne e] at hv' hl'
      have h0 := h.own t' v' l' hv' hl'
      have h1 := (h0.alloc o).kept hg (by
        rcases h.apart t' t v' v (fun x => e x.symm) hv' hv with h2 | h2
        · exact .inl h2
        · exact .inr h2)
      exact ownsRow_setCell_other h1 (by
        intro e
        have := (h1.lt _ e).1
        simp only at this
        omega) _
  · have hlt : ∀ (t : Nat) v k, vs[t]? = some v → v.ownBlock = some k → k < w.heap.size := fun t v k hv hk => by
      have ht : t < ls.length := by rw [h.ll, ← h.vl]; exact (List.getElem?_eq_some_iff.1 hv).1
      exact ((h.own t v _ hv (List.getElem?_eq_getElem ht)).lt k hk).2
    by_cases e1 : t = t1
    · subst e1
      rw [List.getElem?_set_self htl] at h1
      rw [List.getElem?_set_ne hne] at h2
      cases h1
      right
      intro e
      rcases hor with h3 | h3
      · rcases h.apart t2 t v2 v (fun x => hne x.symm) h2 hv with h4 | h4
        · rw [h4] at e; cases e
        · exact h4 (e.symm.trans (by rw [h3]; rfl))
      · have := hlt t2 v2 g' h2 e.symm
        simp at h3
        omega
    · rw [List.getElem?_set_ne e1] at h1
      by_cases e2 : t = t2
      · subst e2
        rw [List.getElem?_set_self htl] at h2
        cases h2
        rcases hor with h3 | h3
        · rcases h.apart t1 t v1 v (fun x => hne x) h1 hv with h4 | h4
          · exact .inl h4
          · exact .inr (fun e => h4 (e.trans (by rw [h3]; rfl)))
        · right
          intro e
          have := hlt t1 v1 g' h1 e
          simp at h3
          omega
      · rw [List.getElem?_set_ne e2] at h2
        exact h.apart t1 t2 v1 v2 hne h1 h2

theorem Lists.pushed {t : Nat} {v : Value} {l : List Nat} {o : Obj} {u : Value} {B : Nat} {w0 : World} (h : Lists w base gb n vs ls) (hv : vs[t]? = some v) (hl : ls[t]? = some l) (hg : (w.alloc o).grownBy w1 v.ownBlock) (hB : Below B w0 w) (hBg : B ≤ gb) :
    Below B w0 (w1.setCell ⟨gb, t, none⟩ u) := by
  have hlt := h.lt
  refine ((hB.alloc (by omega) o).grown hg (by simp; omega) (fun j hj => ?_)).setCell (by simpa using hBg) _
  have := ((h.own t v l hv hl).lt j hj).1
  omega

theorem Lists.held {t : Nat} {v : Value} {l : List Nat} {o : Obj} (h : Lists w base gb n vs ls) (hv : vs[t]? = some v) (hl : ls[t]? = some l) (hg : (w.alloc o).grownBy w1 v.ownBlock) : w1.cell? ⟨gb, t, none⟩ = some v ∧ w1.frozen? ⟨gb, t, none⟩ = false := by
  have hrow1 : w1.ownsRow base 22 1 (.slice (some ⟨gb, 0, none⟩) n n) n vs := (h.row.alloc o).kept hg (.inr (fun e => by have := ((h.own t v l hv hl).lt gb e.symm).1; omega))
  have htl : t < vs.length := (List.getElem?_eq_some_iff.1 hv).1
  have hvl := h.vl
  exact ⟨by rw [World.ownsRow.cellAt hrow1 t (by omega)]; exact hv, World.ownsRow.frozenAt hrow1 t⟩

theorem nat_ints {w : World} {B n : Nat} {v : Value} {l : List Nat} (h : w.ownsRow B 3 1 v n (natInts l)) (hl : l.length ≤ 100000) : Ints w w.heap.size v (l.map fun (x : Nat) => (x : Int)) := by
  refine ints_own (B := B) (n := n) ?_ (by rw [List.length_map]; omega)
  rw [List.map_map]
  exact h

theorem mem_nat {l : List Nat} {k : Nat} : ((k : Int) ∈ l.map fun (x : Nat) => (x : Int)) ↔ k ∈ l := by
  rw [List.mem_map]
  constructor
  · rintro ⟨x, hx, he⟩
    have : x = k := by omega
    exact this ▸ hx
  · exact fun h => ⟨k, h, rfl⟩

/-- who goes to t, of the first k blocks -/
def predsTo (bs : List BlockM) (k t : Nat) : List Nat := (List.range k).filter fun b => decide (t ∈ succM bs b)

theorem predsTo_lt {bs : List BlockM} {k t x : Nat} (h : x ∈ predsTo bs k t) : x < k := by
  unfold predsTo at h
  simpa using (List.mem_filter.1 h).1

theorem predsTo_succ (bs : List BlockM) (k t : Nat) : predsTo bs (k + 1) t = predsTo bs k t ++ if t ∈ succM bs k then [k] else [] := by
  unfold predsTo
  rw [List.range_succ, List.filter_append]
  by_cases h : t ∈ succM bs k <;> simp [h]

theorem predsTo_len (bs : List BlockM) (k t : Nat) : (predsTo bs k t).length ≤ k := by
  unfold predsTo
  have := List.length_filter_le (fun b => decide (t ∈ succM bs b)) (List.range k)
  simpa using this

/-- the lists when k blocks are done, and the first i of the next one's ends -/
def predsAt (bs : List BlockM) (n k i : Nat) : List (List Nat) := (List.range n).map fun t => predsTo bs k t ++ if t ∈ (succM bs k).take i then [k] else []

theorem predsAt_at {bs : List BlockM} {n k i t : Nat} (h : t < n) : (predsAt bs n k i)[t]? = some (predsTo bs k t ++ if t ∈ (succM bs k).take i then [k] else []) := by
  unfold predsAt
  rw [List.getElem?_map, List.getElem?_eq_getElem (by simpa using h)]
  simp

theorem predsAt_zero (bs : List BlockM) (n : Nat) : predsAt bs n 0 0 = (List.range n).map fun _ => [] := by
  unfold predsAt predsTo
  simp

theorem predsAt_next (bs : List BlockM) (n k : Nat) {i : Nat} (hi : (succM bs k).length ≤ i) : predsAt bs n k i = predsAt bs n (k + 1) 0 := by
  unfold predsAt
  apply List.map_congr_left
  intro t _
  rw [predsTo_succ, List.take_of_length_le hi]
  simp

theorem predsAt_skip {bs : List BlockM} {n k i t : Nat} (ht : (succM bs k)[i]? = some t) (hin : t ∈ (succM bs k).take i) : predsAt bs n k (i + 1) = predsAt bs n k i := by
  unfold predsAt
  apply List.map_congr_left
  intro u _
  have : u ∈ (succM bs k).take (i + 1) ↔ u ∈ (succM bs k).take i := by
    rw [List.take_add_one, ht]
    simp only [Option.toList_some, List.mem_append, List.mem_singleton]
    constructor
    · rintro (h | rfl)
      · exact h
      · exact hin
    · exact .inl
  simp only [this]

theorem predsAt_push {bs : List BlockM} {n k i t : Nat} (ht : (succM bs k)[i]? = some t) (_hn : t ∉ (succM bs k).take i) (_htn : t < n) : (predsAt bs n k i).set t (predsTo bs k t ++ [k]) = predsAt bs n k (i + 1) := by
  apply List.ext_getElem?
  intro u
  by_cases hu : u < n
  · rw [predsAt_at hu]
    have hm : u ∈ (succM bs k).take (i + 1) ↔ u ∈ (succM bs k).take i ∨ u = t := by
      rw [List.take_add_one, ht]
      simp
    by_cases e : t = u
    · subst e
      rw [List.getElem?_set_self (by unfold predsAt; simpa using hu)]
      simp [hm]
    · rw [List.getElem?_set_ne e, predsAt_at hu]
      have : u ∈ (succM bs k).take (i + 1) ↔ u ∈ (succM bs k).take i := by rw [hm]; exact ⟨fun h => h.resolve_right (fun x => e x.symm), .inl⟩
      simp only [this]
  · rw [List.getElem?_eq_none (by rw [List.length_set]; unfold predsAt; simp; omega), List.getElem?_eq_none (by unfold predsAt; simp; omega)]

theorem predsAt_mem {bs : List BlockM} {k i t : Nat} : k ∈ predsTo bs k t ++ (if t ∈ (succM bs k).take i then [k] else []) ↔ t ∈ (succM bs k).take i := by
  constructor
  · intro h
    rcases List.mem_append.1 h with h | h
    · have := predsTo_lt h; omega
    · split at h
      · assumption
      · cases h
  · intro h
    rw [if_pos h]
    simp

end Go.Proofs.Ytncmnbchkabgaaa

namespace Go.Proofs.Ytncmnbchkabgaaa
open Go.RowKit

/-- the tags of block k whose rows are copied: np phis' lists, nc instructions' lists -/
def DD (k np nc : Nat) (t : Tag) : Prop := t = .phis k ∨ t = .code k ∨ t = .ends k ∨ (∃ j, j < np ∧ (t = .fr k j ∨ t = .vals k j)) ∨ ∃ j, j < nc ∧ t = .args k j

structure BlkSt (f : FuncM) (val : Vals) (k : Nat) (b : BlockM) (N : Nat) (w0 wx : World) (val1 : Vals) (np nc : Nat) : Prop where
  same : ∀ t, ¬ DD k np nc t → val1 t = val t
  own : OwnG wx (N + 2) (rowOf f val1) val1 (DD k np nc)
  box : wx.heap[N]? = some (.cells (blockCells val1 k b).toArray 46 (0, 0))
  res : wx.heap[N + 1]? = some (.cells #[.slice none 0 0, .slice none 0 0, .int .i64 0, .int .i64 0, .slice none 0 0, .int .i64 0] 46 (0, 0))
  low : Below N w0 wx

section
variable {f : FuncM} {val val1 : Vals} {k : Nat} {b : BlockM} {N np nc : Nat} {w0 wx : World}

theorem DD.not_fr {k np nc : Nat} : ¬ DD k np nc (.fr k np) := by
  rintro (h | h | h | ⟨j, hj, h | h⟩ | ⟨j, hj, h⟩) <;> cases h
  omega
theorem DD.not_vals {k np nc : Nat} : ¬ DD k np nc (.vals k np) := by
  rintro (h | h | h | ⟨j, hj, h | h⟩ | ⟨j, hj, h⟩) <;> cases h
  omega
theorem DD.not_args {k np nc : Nat} : ¬ DD k np nc (.args k nc) := by
  rintro (h | h | h | ⟨j, hj, h | h⟩ | ⟨j, hj, h⟩) <;> cases h
  omega
theorem DD.succ {k np nc : Nat} {t : Tag} : DD k (np + 1) nc t ↔ (DD k np nc t ∨ t = .fr k np) ∨ t = .vals k np := by
  unfold DD
  constructor
  · rintro (h | h | h | ⟨j, hj, h⟩ | h)
    · exact .inl (.inl (.inl h))
    · exact .inl (.inl (.inr (.inl h)))
    · exact .inl (.inl (.inr (.inr (.inl h))))
    · by_cases e : j = np
      · subst e
        rcases h with h | h
        · exact .inl (.inr h)
        · exact .inr h
      · exact .inl (.inl (.inr (.inr (.inr (.inl ⟨j, by omega, h⟩)))))
    · exact .inl (.inl (.inr (.inr (.inr (.inr h)))))
  · rintro (((h | h | h | ⟨j, hj, h⟩ | h) | h) | h)
    · exact .inl h
    · exact .inr (.inl h)
    · exact .inr (.inr (.inl h))
    · exact .inr (.inr (.inr (.inl ⟨j, by omega, h⟩)))
    · exact .inr (.inr (.inr (.inr h)))
    · exact .inr (.inr (.inr (.inl ⟨np, by omega, .inl h⟩)))
    · exact .inr (.inr (.inr (.inl ⟨np, by omega, .inr h⟩)))
theorem DD.succ_args {k np nc : Nat} {t : Tag} : DD k np (nc + 1) t ↔ DD k np nc t ∨ t = .args k nc := by
  unfold DD
  constructor
  · rintro (h | h | h | h | ⟨j, hj, h⟩)
    · exact .inl (.inl h)
    · exact .inl (.inr (.inl h))
    · exact .inl (.inr (.inr (.inl h)))
    · exact .inl (.inr (.inr (.inr (.inl h))))
    · by_cases e : j = nc
      · subst e
        exact .inr h
      · exact .inl (.inr (.inr (.inr (.inr ⟨j, by omega, h⟩))))
  · rintro ((h | h | h | h | ⟨j, hj, h⟩) | h)
    · exact .inl h
    · exact .inr (.inl h)
    · exact .inr (.inr (.inl h))
    · exact .inr (.inr (.inr (.inl h)))
    · exact .inr (.inr (.inr (.inr ⟨j, by omega, h⟩)))
    · exact .inr (.inr (.inr (.inr ⟨nc, by omega, h⟩)))

/-- rows of a block's tags say nothing of blocks' values -/
theorem rowOf_upd_leaf {f : FuncM} {val : Vals} {t0 t : Tag} {v : Value} (h : t ≠ .blocks) (h1 : ∀ k i, t0 = .fr k i → t ≠ .phis k) (h2 : ∀ k i, t0 = .vals k i → t ≠ .phis k) (h3 : ∀ k i, t0 = .args k i → t ≠ .code k) : rowOf f (upd val t0 v) t = rowOf f val t := by
  cases t with
  | params => rfl
  | blocks => exact absurd rfl h
  | phis k =>
    simp only [rowOf]
    cases f.blocks[k]? with
    | none => rfl
    | some b =>
      simp only [Option.map_some, Option.some.injEq, RowD.mk.injEq, true_and]
      refine cellsOf_congr _ _ fun i p _ => ?_
      unfold phiCells
      rw [upd_ne _ _ (fun e => h1 k (0 + i) e.symm rfl), upd_ne _ _ (fun e => h2 k (0 + i) e.symm rfl)]
  | code k =>
    simp only [rowOf]
    cases f.blocks[k]? with
    | none => rfl
    | some b =>
      simp only [Option.map_some, Option.some.injEq, RowD.mk.injEq, true_and]
      refine cellsOf_congr _ _ fun i p _ => ?_
      unfold instrCells
      rw [upd_ne _ _ (fun e => h3 k (0 + i) e.symm rfl)]
  | ends k => rfl
  | fr k i => rfl
  | vals k i => rfl
  | args k i => rfl

theorem phis_set {f : FuncM} {val : Vals} {k i : Nat} {b : BlockM} {v u : Value} (hb : f.blocks[k]? = some b) (hi : i < b.phis.length) :
    rowOf f (upd (upd val (.fr k i) v) (.vals k i) u) (.phis k) = some ⟨49, 4, b.phis.length, ((cellsOf (phiCells val k) 0 b.phis).set (i * 4 + 2) v).set (i * 4 + 3) u⟩ := by
  simp only [rowOf, hb, Option.map_some, Option.some.injEq, RowD.mk.injEq, true_and]
  rw [cellsOf_set (g' := phiCells (upd val (.fr k i) v) k) (phiCells_len _ k) (phiCells_len _ k) hi (by omega), cellsOf_set (g' := phiCells (upd (upd val (.fr k i) v) (.vals k i) u) k) (phiCells_len _ k) (phiCells_len _ k) hi (by omega)]
  all_goals first
    | (intro j a _ hne; simp [phiCells, upd, hne]; done)
    | (intro a _; simp [phiCells, upd]; done)

theorem code_set {f : FuncM} {val : Vals} {k i : Nat} {b : BlockM} {v : Value} (hb : f.blocks[k]? = some b) (hi : i < b.code.length) :
    rowOf f (upd val (.args k i) v) (.code k) = some ⟨53, 4, b.code.length, (cellsOf (instrCells val k) 0 b.code).set (i * 4 + 2) v⟩ := by
  simp only [rowOf, hb, Option.map_some, Option.some.injEq, RowD.mk.injEq, true_and]
  rw [cellsOf_set (g' := instrCells (upd val (.args k i) v) k) (instrCells_len _ k) (instrCells_len _ k) hi (by omega)]
  all_goals first
    | (intro j a _ hne; simp [instrCells, upd, hne]; done)
    | (intro a _; simp [instrCells, upd]; done)

/-- one phi's lists are copied -/
theorem BlkSt.phi {w2 w3 : World} {p : PhiM} {i g c : Nat} {v u : Value} (h : BlkSt f val k b N w0 wx val1 i 0) (hb : f.blocks[k]? = some b) (hp : b.phis[i]? = some p) (hN : N + 2 ≤ wx.heap.size) (hg : val1 (.phis k) = .slice (some ⟨g, 0, none⟩) b.phis.length c)
    (hb2 : Below wx.heap.size wx w2) (ho2 : w2.ownsRow wx.heap.size 3 1 v p.fr.length (p.fr.map (Value.int .i64))) (hb3 : Below w2.heap.size w2 w3) (ho3 : w3.ownsRow w2.heap.size 3 1 u p.vals.length (p.vals.map (Value.int .i64))) :
    BlkSt f val k b N w0 ((w3.setCell ⟨g, i * 4 + 2, none⟩ v).setCell ⟨g, i * 4 + 3, none⟩ u) (upd (upd val1 (.fr k i) v) (.vals k i) u) (i + 1) 0 := by
  have hi : i < b.phis.length := (List.getElem?_eq_some_iff.1 hp).1
  have hp2 : (f.blocks[k]?.bind fun b => b.phis[i]?) = some p := by rw [hb]; exact hp
  have hs2 := hb2.size
  have hs3 := hb3.size
  have D0 : DD k i 0 (.phis k) := .inl rfl
  have hgl := h.own.lt D0 (by rw [hg]; rfl : (val1 (.phis k)).ownBlock = some g)
  have o1 := h.own.add (t0 := .fr k i) (d := intsRow p.fr) DD.not_fr hb2 ho2 hN
  have o2 := o1.add (t0 := .vals k i) (d := intsRow p.vals) (by
    rintro (e | e)
    · exact DD.not_vals e
    · cases e) hb3 ho3 (by omega)
  have hphi : upd (upd (rowOf f val1) (.fr k i) (some (intsRow p.fr))) (.vals k i) (some (intsRow p.vals)) (.phis k) = some ⟨49, 4, b.phis.length, cellsOf (phiCells val1 k) 0 b.phis⟩ := by
    rw [upd_ne _ _ (by simp), upd_ne _ _ (by simp)]
    simp only [rowOf, hb, Option.map_some]
  have hval : upd (upd val1 (.fr k i) v) (.vals k i) u (.phis k) = .slice (some ⟨g, 0, none⟩) b.phis.length c := by rw [upd_ne _ _ (by simp), upd_ne _ _ (by simp)]; exact hg
  have o3 := o2.set (tp := .phis k) (j := i * 4 + 2) (u := v) (.inl (.inl D0)) hphi hval rfl
  have o4 := o3.set (tp := .phis k) (j := i * 4 + 3) (u := u) (.inl (.inl D0)) (upd_same _ _ _) hval rfl
  have hne : g ≠ N ∧ g ≠ N + 1 := by omega
  refine ⟨fun t ht => ?_, ?_, ?_, ?_, ?_⟩
  · have h1 : t ≠ .vals k i := fun e => ht (DD.succ.2 (.inr e))
    have h2 : t ≠ .fr k i := fun e => ht (DD.succ.2 (.inl (.inr e)))
    rw [upd_ne _ _ h1, upd_ne _ _ h2]
    exact h.same t fun e => ht (DD.succ.2 (.inl (.inl e)))
  · refine o4.congr (fun t ht => ?_) (fun t _ => rfl) (fun t ht => DD.succ.1 ht)
    by_cases e1 : t = .phis k
    · subst e1
      rw [upd_same]
      exact phis_set hb hi
    · rw [upd_ne _ _ e1, upd_ne _ _ e1]
      by_cases e2 : t = .vals k i
      · subst e2
        rw [upd_same]
        simp only [rowOf, hp2, Option.map_some]
      · rw [upd_ne _ _ e2]
        by_cases e3 : t = .fr k i
        · subst e3
          rw [upd_same]
          simp only [rowOf, hp2, Option.map_some]
        · rw [upd_ne _ _ e3]
          have hnb : t ≠ .blocks := by rintro rfl; rcases ht with h | h | h | ⟨j, hj, h | h⟩ | ⟨j, hj, h⟩ <;> cases h
          rw [rowOf_upd_leaf hnb (by simp) (fun k' i' e => by cases e; exact e1) (by simp), rowOf_upd_leaf hnb (fun k' i' e => by cases e; exact e1) (by simp) (by simp)]
  · rw [heap_setCell_other _ _ _ _ (by simpa using hne.1.symm), heap_setCell_other _ _ _ _ (by simpa using hne.1.symm), hb3.block N (by omega), hb2.block N (by omega), h.box]
    unfold blockCells
    rw [upd_ne _ _ (by simp), upd_ne _ _ (by simp), upd_ne _ _ (by simp), upd_ne _ _ (by simp), upd_ne _ _ (by simp), upd_ne _ _ (by simp)]
  · rw [heap_setCell_other _ _ _ _ (by simpa using hne.2.symm), heap_setCell_other _ _ _ _ (by simpa using hne.2.symm), hb3.block (N + 1) (by omega), hb2.block (N + 1) (by omega)]
    exact h.res
  · exact (((h.low.trans (hb2.mono (by omega))).trans (hb3.mono (by omega))).setCell (by simp; omega) _).setCell (by simp; omega) _

/-- one instruction's list is copied -/
theorem BlkSt.arg {w2 : World} {x : InstrM} {i g c : Nat} {v : Value} (h : BlkSt f val k b N w0 wx val1 np i) (hb : f.blocks[k]? = some b) (hp : b.code[i]? = some x) (hN : N + 2 ≤ wx.heap.size) (hg : val1 (.code k) = .slice (some ⟨g, 0, none⟩) b.code.length c)
    (hb2 : Below wx.heap.size wx w2) (ho2 : w2.ownsRow wx.heap.size 3 1 v x.args.length (x.args.map (Value.int .i64))) :
    BlkSt f val k b N w0 (w2.setCell ⟨g, i * 4 + 2, none⟩ v) (upd val1 (.args k i) v) np (i + 1) := by
  have hi : i < b.code.length := (List.getElem?_eq_some_iff.1 hp).1
  have hp2 : (f.blocks[k]?.bind fun b => b.code[i]?) = some x := by rw [hb]; exact hp
  have hs2 := hb2.size
  have D0 : DD k np i (.code k) := .inr (.inl rfl)
  have hgl := h.own.lt D0 (by rw [hg]; rfl : (val1 (.code k)).ownBlock = some g)
  have o1 := h.own.add (t0 := .args k i) (d := intsRow x.args) DD.not_args hb2 ho2 hN
  have hphi : upd (rowOf f val1) (.args k i) (some (intsRow x.args)) (.code k) = some ⟨53, 4, b.code.length, cellsOf (instrCells val1 k) 0 b.code⟩ := by
    rw [upd_ne _ _ (by simp)]
    simp only [rowOf, hb, Option.map_some]
  have hval : upd val1 (.args k i) v (.code k) = .slice (some ⟨g, 0, none⟩) b.code.length c := by rw [upd_ne _ _ (by simp)]; exact hg
  have o3 := o1.set (tp := .code k) (j := i * 4 + 2) (u := v) (.inl D0) hphi hval rfl
  have hne : g ≠ N ∧ g ≠ N + 1 := by omega
  refine ⟨fun t ht => ?_, ?_, ?_, ?_, ?_⟩
  · have h1 : t ≠ .args k i := fun e => ht (DD.succ_args.2 (.inr e))
    rw [upd_ne _ _ h1]
    exact h.same t fun e => ht (DD.succ_args.2 (.inl e))
  · refine o3.congr (fun t ht => ?_) (fun t _ => rfl) (fun t ht => DD.succ_args.1 ht)
    by_cases e1 : t = .code k
    · subst e1
      rw [upd_same]
      exact code_set hb hi
    · rw [upd_ne _ _ e1]
      by_cases e2 : t = .args k i
      · subst e2
        rw [upd_same]
        simp only [rowOf, hp2, Option.map_some]
      · rw [upd_ne _ _ e2]
        have hnb : t ≠ .blocks := by rintro rfl; rcases ht with h | h | h | ⟨j, hj, h | h⟩ | ⟨j, hj, h⟩ <;> cases h
        rw [rowOf_upd_leaf hnb (by simp) (by simp) (fun k' i' e => by cases e; exact e1)]
  · rw [heap_setCell_other _ _ _ _ (by simpa using hne.1.symm), hb2.block N (by omega), h.box]
    unfold blockCells
    rw [upd_ne _ _ (by simp), upd_ne _ _ (by simp), upd_ne _ _ (by simp)]
  · rw [heap_setCell_other _ _ _ _ (by simpa using hne.2.symm), hb2.block (N + 1) (by omega)]
    exact h.res
  · exact ((h.low.trans (hb2.mono (by omega))).setCell (by simp; omega) _)
end

end Go.Proofs.Ytncmnbchkabgaaa

namespace Go.Proofs.Ytncmnbchkabgaaa
open Go.RowKit

section
variable {f : FuncM} {val val1 : Vals} {k : Nat} {b : BlockM} {N np nc : Nat} {w0 W0 wx w2 w3 w4 : World}

theorem row_phis {f : FuncM} {val : Vals} {k : Nat} {b : BlockM} (hb : f.blocks[k]? = some b) : rowOf f val (.phis k) = some ⟨49, 4, b.phis.length, cellsOf (phiCells val k) 0 b.phis⟩ := by simp only [rowOf, hb, Option.map_some]
theorem row_code {f : FuncM} {val : Vals} {k : Nat} {b : BlockM} (hb : f.blocks[k]? = some b) : rowOf f val (.code k) = some ⟨53, 4, b.code.length, cellsOf (instrCells val k) 0 b.code⟩ := by simp only [rowOf, hb, Option.map_some]
theorem row_ends {f : FuncM} {val : Vals} {k : Nat} {b : BlockM} (hb : f.blocks[k]? = some b) : rowOf f val (.ends k) = some (intsRow b.term.to) := by simp only [rowOf, hb, Option.map_some]

theorem BlkSt.start {v1 v2 v3 : Value} (hb : f.blocks[k]? = some b) (hs : W0.heap.size = N + 2) (hbox : W0.heap[N]? = some (.cells (blockCells val k b).toArray 46 (0, 0)))
    (hres : W0.heap[N + 1]? = some (.cells #[.slice none 0 0, .slice none 0 0, .int .i64 0, .int .i64 0, .slice none 0 0, .int .i64 0] 46 (0, 0))) (hlow : Below N w0 W0)
    (hb2 : Below W0.heap.size W0 w2) (ho2 : w2.ownsRow W0.heap.size 49 4 v1 b.phis.length (cellsOf (phiCells val k) 0 b.phis))
    (hb3 : Below w2.heap.size w2 w3) (ho3 : w3.ownsRow w2.heap.size 53 4 v2 b.code.length (cellsOf (instrCells val k) 0 b.code))
    (hb4 : Below w3.heap.size w3 w4) (ho4 : w4.ownsRow w3.heap.size 3 1 v3 b.term.to.length (b.term.to.map (Value.int .i64))) :
    BlkSt f val k b N w0 (((w4.setCell ⟨N, 0, none⟩ v1).setCell ⟨N, 1, none⟩ v2).setCell ⟨N, 4, none⟩ v3) (upd (upd (upd val (.phis k) v1) (.code k) v2) (.ends k) v3) 0 0 := by
  have s2 := hb2.size
  have s3 := hb3.size
  have s4 := hb4.size
  have o1 := (OwnG.nothing W0 (N + 2) (rowOf f val) val).add (t0 := .phis k) (d := ⟨49, 4, b.phis.length, cellsOf (phiCells val k) 0 b.phis⟩) (by simp) hb2 ho2 (by omega)
  have o2 := o1.add (t0 := .code k) (d := ⟨53, 4, b.code.length, cellsOf (instrCells val k) 0 b.code⟩) (by simp) hb3 ho3 (by omega)
  have o3 := o2.add (t0 := .ends k) (d := intsRow b.term.to) (by simp) hb4 ho4 (by omega)
  have hne : ∀ t, (((False ∨ t = .phis k) ∨ t = .code k) ∨ t = .ends k) → (upd (upd (upd val (.phis k) v1) (.code k) v2) (.ends k) v3 t).ownBlock ≠ some N := fun t ht e => by have := (o3.lt ht e).1; omega
  have o4 := ((o3.other (a := ⟨N, 0, none⟩) (u := v1) hne).other (a := ⟨N, 1, none⟩) (u := v2) hne).other (a := ⟨N, 4, none⟩) (u := v3) hne
  have hbx : w4.heap[N]? = some (.cells (blockCells val k b).toArray 46 (0, 0)) := by rw [hb4.block N (by omega), hb3.block N (by omega), hb2.block N (by omega)]; exact hbox
  refine ⟨fun t ht => ?_, ?_, ?_, ?_, ?_⟩
  · have h1 : t ≠ .phis k := fun e => ht (.inl e)
    have h2 : t ≠ .code k := fun e => ht (.inr (.inl e))
    have h3 : t ≠ .ends k := fun e => ht (.inr (.inr (.inl e)))
    rw [upd_ne _ _ h3, upd_ne _ _ h2, upd_ne _ _ h1]
  · refine o4.congr (fun t ht => ?_) (fun t _ => rfl) (fun t ht => ?_)
    · rcases ht with rfl | rfl | rfl | ⟨j, hj, _⟩ | ⟨j, hj, _⟩
      · have e : phiCells (upd (upd (upd val (.phis k) v1) (.code k) v2) (.ends k) v3) k = phiCells val k := by funext i p; simp [phiCells, upd]
        rw [row_phis hb, e, upd_ne _ _ (by simp), upd_ne _ _ (by simp), upd_same]
      · have e : instrCells (upd (upd (upd val (.phis k) v1) (.code k) v2) (.ends k) v3) k = instrCells val k := by funext i p; simp [instrCells, upd]
        rw [row_code hb, e, upd_ne _ _ (by simp), upd_same]
      · rw [row_ends hb, upd_same]
      · omega
      · omega
    · rcases ht with h | h | h | ⟨j, hj, _⟩ | ⟨j, hj, _⟩
      · exact .inl (.inl (.inr h))
      · exact .inl (.inr h)
      · exact .inr h
      · omega
      · omega
  · rw [heap_setCell_same _ N 4 _ _ _ (heap_setCell_same _ N 1 _ _ _ (heap_setCell_same _ N 0 _ _ _ hbx))]
    simp [blockCells, upd]
  · rw [heap_setCell_other _ _ _ _ (by simp), heap_setCell_other _ _ _ _ (by simp), heap_setCell_other _ _ _ _ (by simp), hb4.block (N + 1) (by omega), hb3.block (N + 1) (by omega), hb2.block (N + 1) (by omega)]
    exact hres
  · exact (((((hlow.trans (hb2.mono (by omega))).trans (hb3.mono (by omega))).trans (hb4.mono (by omega))).setCell (by simp) _).setCell (by simp) _).setCell (by simp) _

theorem OwnG.form {w : World} {base : Nat} {row : Rows} {val : Vals} {D : Tag → Prop} {t : Tag} {d : RowD} (h : OwnG w base row val D) (ht : D t) (hd : row t = some d) : ∃ A c, val t = .slice A d.len c := by
  rcases (h.rows t d ht hd).2 with ⟨hv, h0⟩ | ⟨g, cap, cur, hv, _⟩
  · exact ⟨none, 0, by rw [hv, h0]⟩
  · exact ⟨_, _, hv⟩
end

theorem undrew2 {w w2 : World} (h : Below w.drew.heap.size w.drew w2) : Below w.heap.size w w2 := ⟨h.os, h.tape, h.output, h.size, h.block⟩
theorem undrewO {w w2 : World} {e : TypeId} {s n : Nat} {v : Value} {xs : List Value} (h : w2.ownsRow w.drew.heap.size e s v n xs) : w2.ownsRow w.heap.size e s v n xs := h

/-- nothing is greater than it may be -/
structure Small (b : BlockM) : Prop where
  phis : b.phis.length ≤ 100000
  code : b.code.length ≤ 100000
  ends : b.term.to.length ≤ 100000
  fr : ∀ p ∈ b.phis, p.fr.length ≤ 100000 ∧ p.vals.length ≤ 100000
  args : ∀ x ∈ b.code, x.args.length ≤ 100000

def FreshBlkPost (f : FuncM) (val : Vals) (k : Nat) (b : BlockM) (w : World) (e : Ending) (w' : World) : Prop :=
  ∃ val1 : Vals, e = .returned (.agg (blockCells val1 k b).toArray) ∧ (∀ t, ¬ DD k b.phis.length b.code.length t → val1 t = val t) ∧ OwnG w' (w.heap.size + 2) (rowOf f val1) val1 (DD k b.phis.length b.code.length) ∧ Below w.heap.size w w'

theorem ints_one (xs : List Int) : ∀ u ∈ xs.map (Value.int .i64), u.oneCell' = true := by
  intro u hu
  obtain ⟨x, _, rfl⟩ := List.mem_map.1 hu
  rfl

theorem slice_one {w : World} {B : Nat} {v : Value} {d : RowD} (h : RowR w B v d) : v.oneCell' = true := by
  obtain ⟨A, c, rfl, _⟩ := h
  rfl

theorem rd_phi_one {w : World} {B : Nat} {f : FuncM} {val : Vals} {k : Nat} {b : BlockM} (h : RdF w B f val) (hb : f.blocks[k]? = some b) : ∀ u ∈ cellsOf (phiCells val k) 0 b.phis, u.oneCell' = true := by
  intro u hu
  obtain ⟨j, hj⟩ := List.getElem?_of_mem hu
  obtain ⟨i, r, p, rfl, hr, hp, hc⟩ := cellsOf_div (phiCells_len val k) hj
  have hp2 : (f.blocks[k]?.bind fun b => b.phis[i]?) = some p := by rw [hb]; exact hp
  have hm := List.mem_of_getElem? hc
  unfold phiCells at hm
  simp only [List.mem_cons, List.not_mem_nil, or_false] at hm
  rcases hm with rfl | rfl | rfl | rfl
  · rfl
  · rfl
  · exact slice_one (h (.fr k i) _ (by simp only [rowOf, hp2]; rfl))
  · exact slice_one (h (.vals k i) _ (by simp only [rowOf, hp2]; rfl))

theorem rd_code_one {w : World} {B : Nat} {f : FuncM} {val : Vals} {k : Nat} {b : BlockM} (h : RdF w B f val) (hb : f.blocks[k]? = some b) : ∀ u ∈ cellsOf (instrCells val k) 0 b.code, u.oneCell' = true := by
  intro u hu
  obtain ⟨j, hj⟩ := List.getElem?_of_mem hu
  obtain ⟨i, r, p, rfl, hr, hp, hc⟩ := cellsOf_div (instrCells_len val k) hj
  have hp2 : (f.blocks[k]?.bind fun b => b.code[i]?) = some p := by rw [hb]; exact hp
  have hm := List.mem_of_getElem? hc
  unfold instrCells at hm
  simp only [List.mem_cons, List.not_mem_nil, or_false] at hm
  rcases hm with rfl | rfl | rfl | rfl
  · rfl
  · rfl
  · exact slice_one (h (.args k i) _ (by simp only [rowOf, hp2]; rfl))
  · rfl

set_option maxRecDepth 100000 in
set_option maxHeartbeats 20000000 in
theorem freshBlock_any (f : FuncM) (B : Nat) (val : Vals) (k : Nat) (b : BlockM) (w : World) (hb : f.blocks[k]? = some b) (hrd : RdF w B f val) (hB : B ≤ w.heap.size) (hsm : Small b) :
    Calls Try.prog 29 #[.agg #[val (.phis k), val (.code k), .int .i64 b.term.op, .int .i64 b.term.val, val (.ends k), .int .i64 b.term.n]] w (FreshBlkPost f val k b w) := by
  have HRD := hideI hrd
  have HSM := hideI hsm
  have HBB := hideI hb
  have rp := hrd (.phis k) _ (row_phis hb)
  have rc := hrd (.code k) _ (row_code hb)
  have rt := hrd (.ends k) _ (row_ends hb)
  have hp1 := rd_phi_one hrd hb
  have hc1 := rd_code_one hrd hb
  obtain ⟨PA, pc, hpv, _⟩ := rp
  obtain ⟨CA, cc, hcv, _⟩ := rc
  obtain ⟨TA, tc, htv, _⟩ := rt
  have hpl : (⟨49, 4, b.phis.length, cellsOf (phiCells val k) 0 b.phis⟩ : RowD).len = b.phis.length := rfl
  have hcl : (⟨53, 4, b.code.length, cellsOf (instrCells val k) 0 b.code⟩ : RowD).len = b.code.length := rfl
  have htl : (intsRow b.term.to).len = b.term.to.length := rfl
  rw [hpl] at hpv
  rw [hcl] at hcv
  rw [htl] at htv
  have rp := hrd (.phis k) _ (row_phis hb)
  have rc := hrd (.code k) _ (row_code hb)
  have rt := hrd (.ends k) _ (row_ends hb)
  have C1 : Hid (∀ W, Keeps B w W → Calls Try.prog 43 #[val (.phis k)] W (ListPost' 49 4 ⟨49, 4, b.phis.length, cellsOf (phiCells val k) 0 b.phis⟩ W)) := fun W hW =>
    (listPhi_any _ B _ W (rp.keeps hW) (cellsOf_len (phiCells_len val k) _ _) hsm.phis hp1).mono fun _ _ h => h.form
  have C2 : Hid (∀ W, Keeps B w W → Calls Try.prog 44 #[val (.code k)] W (ListPost' 53 4 ⟨53, 4, b.code.length, cellsOf (instrCells val k) 0 b.code⟩ W)) := fun W hW =>
    (listInstr_any _ B _ W (rc.keeps hW) (cellsOf_len (instrCells_len val k) _ _) hsm.code hc1).mono fun _ _ h => h.form
  have C3 : Hid (∀ W, Keeps B w W → Calls Try.prog 27 #[val (.ends k)] W (ListPost' 3 1 (intsRow b.term.to) W)) := fun W hW =>
    (listInt_any _ B _ W (rt.keeps hW) (by simp [intsRow]) hsm.ends (ints_one _)).mono fun _ _ h => h.form
  rw [hpv] at C1
  rw [hcv] at C2
  rw [htv] at C3
  rw [hpv, hcv, htv]
  obtain ⟨W0, hW0⟩ : ∃ W0 : World, W0 = (w.alloc (.cells #[.slice PA b.phis.length pc, .slice CA b.code.length cc, .int .i64 b.term.op, .int .i64 b.term.val, .slice TA b.term.to.length tc, .int .i64 b.term.n] 46)).alloc (.cells #[.slice none 0 0, .slice none 0 0, .int .i64 0, .int .i64 0, .slice none 0 0, .int .i64 0] 46) := ⟨_, rfl⟩
  have hs0 : W0.heap.size = w.heap.size + 2 := by rw [hW0]; simp
  have hbox : W0.heap[w.heap.size]? = some (.cells #[.slice PA b.phis.length pc, .slice CA b.code.length cc, .int .i64 b.term.op, .int .i64 b.term.val, .slice TA b.term.to.length tc, .int .i64 b.term.n] 46 (0, 0)) := by
    rw [hW0, Below.heap_alloc _ _ _ (by simp)]
    exact heap_alloc_new w _
  have hres : W0.heap[w.heap.size + 1]? = some (.cells #[.slice none 0 0, .slice none 0 0, .int .i64 0, .int .i64 0, .slice none 0 0, .int .i64 0] 46 (0, 0)) := by
    rw [hW0]
    have := heap_alloc_new (w.alloc (.cells #[.slice PA b.phis.length pc, .slice CA b.code.length cc, .int .i64 b.term.op, .int .i64 b.term.val, .slice TA b.term.to.length tc, .int .i64 b.term.n] 46)) (.cells #[.slice none 0 0, .slice none 0 0, .int .i64 0, .int .i64 0, .slice none 0 0, .int .i64 0] 46)
    simpa using this
  have hlow : Below w.heap.size w W0 := by rw [hW0]; exact ((Below.refl _ w).alloc (Nat.le_refl _) _).alloc (by simp) _
  have HBOX := hideI hbox
  have HRES := hideI hres
  have HLOW := hideI hlow
  have HS0 := hideI hs0
  have HW0 := hideI hW0
  have HBC : Hid (blockCells val k b = [.slice PA b.phis.length pc, .slice CA b.code.length cc, .int .i64 b.term.op, .int .i64 b.term.val, .slice TA b.term.to.length tc, .int .i64 b.term.n]) := by show _ = _; unfold blockCells; rw [hpv, hcv, htv]
  have G0 : Hid (∀ W, Below W0.heap.size W0 W → W.cell? ⟨w.heap.size, 0, none⟩ = some (.slice PA b.phis.length pc) ∧ W.cell? ⟨w.heap.size, 1, none⟩ = some (.slice CA b.code.length cc) ∧ W.cell? ⟨w.heap.size, 4, none⟩ = some (.slice TA b.term.to.length tc) ∧ W.frozen? ⟨w.heap.size, 0, none⟩ = false ∧ W.frozen? ⟨w.heap.size, 1, none⟩ = false ∧ W.frozen? ⟨w.heap.size, 4, none⟩ = false) := fun W hW => by
    have hx := row_cells HBOX.out (hW.block _ (by have := HS0.out; omega))
    have hf := free_row' HBOX.out (hW.block _ (by have := HS0.out; omega))
    exact ⟨hx 0, hx 1, hx 4, hf 0, hf 1, hf 4⟩
  have KP : Hid (∀ W, Below W0.heap.size W0 W → Keeps B w W) := fun W hW => (Keeps.of_below (HLOW.out.mono hB)).trans (Keeps.of_below (hW.mono (by have := HS0.out; omega)))
  obtain ⟨q0, q1, q4, f0, f1, f4⟩ := G0.out W0 (Below.refl _ _)
  clear hrd hsm hb rp rc rt hp1 hc1 hpv hcv htv hpl hcl htl hbox hres hlow hW0 hs0
  go_enter Try.func29, Try.ntmps29
  go_upto_region 1 with fail
  rw [← HW0.out]
  go_cut [] (fun wx => ∃ val1, Hid (BlkSt f val k b w.heap.size w wx val1 0 0))
  case first =>
    go_region_with (first
      | (go_at_call 43; refine (C1.out _ (by exact KP.out _ ⟨rfl, rfl, rfl, Nat.le_refl _, fun _ _ => rfl⟩)).mono ?_; rintro e w2 ⟨A2, c2, rfl, hown2, hb2⟩; have hba : Below W0.heap.size W0 w2 := undrew2 hb2; obtain ⟨q0, q1, q4, f0, f1, f4⟩ := G0.out _ hba)
      | (go_at_call 44; refine (C2.out _ (by exact KP.out _ hba)).mono ?_; rintro e w3 ⟨A3, c3, rfl, hown3, hb3⟩; have hbb : Below W0.heap.size W0 w3 := hba.trans (hb3.mono hba.size); obtain ⟨q0, q1, q4, f0, f1, f4⟩ := G0.out _ hbb)
      | (go_at_call 27; refine (C3.out _ (by exact KP.out _ hbb)).mono ?_; rintro e w4 ⟨A4, c4, rfl, hown4, hb4⟩; have hbc : Below W0.heap.size W0 w4 := hbb.trans (hb4.mono hbb.size); obtain ⟨q0, q1, q4, f0, f1, f4⟩ := G0.out _ hbc))
    all_goals (go_wp2_with fail; go_meet; exact ⟨_, hideI (BlkSt.start HBB.out HS0.out (by rw [HBC.out]; exact HBOX.out) HRES.out HLOW.out hba (undrewO hown2) hb3 hown3 hb4 hown4)⟩)
  case rest =>
    obtain ⟨val1, HST⟩ := hcut
    clear q0 q1 q4 f0 f1 f4
    obtain ⟨PA1, pc1, hp1⟩ := HST.out.own.form (.inl rfl) (row_phis HBB.out)
    have b0 := (row_cells HST.out.box rfl 0).trans (show (blockCells val1 k b).toArray[0]? = some (.slice PA1 b.phis.length pc1) by simp [blockCells, hp1])
    clear hp1
    go_wp2
    clear b0
    go_loopw [24] (fun u wr => ∃ (i : Nat) (val1 : Vals), i ≤ b.phis.length ∧ u = .int .i64 i ∧ Hid (BlkSt f val k b w.heap.size w wr val1 i 0)) (fun u _ => b.phis.length - (intOf u).toNat)
    case atStart => exact ⟨0, val1, Nat.zero_le _, rfl, HST⟩
    case round =>
      obtain ⟨i, val1, hi, rfl, HST⟩ := hrel
      have hN2 : w.heap.size + 2 ≤ wr.heap.size := by
        have := (Array.getElem?_eq_some_iff.1 HST.out.res).1
        omega
      by_cases hlt : i < b.phis.length
      · obtain ⟨p, hp⟩ : ∃ p, b.phis[i]? = some p := ⟨_, List.getElem?_eq_getElem hlt⟩
        obtain ⟨g, pc1, hg, hgb, hgl⟩ := HST.out.own.slice (.inl rfl) (row_phis HBB.out) (by show 0 < b.phis.length; omega)
        have HP := hideI hp
        have HG : Hid (val1 (.phis k) = .slice (some ⟨g, 0, none⟩) b.phis.length pc1) := hg
        have hp2 : (f.blocks[k]?.bind fun b => b.phis[i]?) = some p := by rw [HBB.out]; exact hp
        have rf := HRD.out (.fr k i) (intsRow p.fr) (by simp only [rowOf, hp2, Option.map_some])
        have rv := HRD.out (.vals k i) (intsRow p.vals) (by simp only [rowOf, hp2, Option.map_some])
        have hsf := HSM.out.fr p (List.mem_of_getElem? hp)
        have C1 : Hid (∀ W, Keeps B w W → Calls Try.prog 27 #[val (.fr k i)] W (ListPost' 3 1 (intsRow p.fr) W)) := fun W hW =>
          (listInt_any _ B _ W (rf.keeps hW) (by simp [intsRow]) hsf.1 (ints_one _)).mono fun _ _ h => h.form
        have C2 : Hid (∀ W, Keeps B w W → Calls Try.prog 27 #[val (.vals k i)] W (ListPost' 3 1 (intsRow p.vals) W)) := fun W hW =>
          (listInt_any _ B _ W (rv.keeps hW) (by simp [intsRow]) hsf.2 (ints_one _)).mono fun _ _ h => h.form
        obtain ⟨FA, fc, hfv, _⟩ := rf
        obtain ⟨VA, vc, hvv, _⟩ := rv
        have e1 : (intsRow p.fr).len = p.fr.length := rfl
        have e2 : (intsRow p.vals).len = p.vals.length := rfl
        rw [e1] at hfv
        rw [e2] at hvv
        rw [hfv] at C1
        rw [hvv] at C2
        have hc2 := cellsOf_at (phiCells_len val1 k) b.phis 0 i 2 p hp (by omega)
        have hc3 := cellsOf_at (phiCells_len val1 k) b.phis 0 i 3 p hp (by omega)
        rw [Nat.zero_add] at hc2 hc3
        have hs2 : (phiCells val1 k i p)[2]? = some (.slice FA p.fr.length fc) := by rw [← hfv, ← HST.out.same _ DD.not_fr]; rfl
        have hs3 : (phiCells val1 k i p)[3]? = some (.slice VA p.vals.length vc) := by rw [← hvv, ← HST.out.same _ DD.not_vals]; rfl
        have G0 : Hid (∀ W, Below wr.heap.size wr W → W.cell? ⟨g, i * 4 + 2, none⟩ = some (.slice FA p.fr.length fc) ∧ W.cell? ⟨g, i * 4 + 3, none⟩ = some (.slice VA p.vals.length vc) ∧ W.frozen? ⟨g, i * 4 + 2, none⟩ = false ∧ W.frozen? ⟨g, i * 4 + 3, none⟩ = false) := fun W hW => by
          have o := HST.out.own.below hW
          have k2 := o.cell (j := i * 4 + 2) (.inl rfl) (row_phis HBB.out) HG.out rfl (by show _ < b.phis.length * 4; omega)
          have k3 := o.cell (j := i * 4 + 3) (.inl rfl) (row_phis HBB.out) HG.out rfl (by show _ < b.phis.length * 4; omega)
          exact ⟨k2.1.trans (hc2.trans hs2), k3.1.trans (hc3.trans hs3), k2.2, k3.2⟩
        have KP : Hid (∀ W, Below wr.heap.size wr W → Keeps B w W) := fun W hW => (Keeps.of_below (HST.out.low.mono hB)).trans (Keeps.of_below (hW.mono (by omega)))
        have b0 := (row_cells HST.out.box rfl 0).trans (show (blockCells val1 k b).toArray[0]? = some (.slice (some ⟨g, 0, none⟩) b.phis.length pc1) by simp [blockCells, hg])
        clear hp hg hp2 hfv hvv e1 e2 hc2 hc3 hs2 hs3
        go_upto_region 6 with fail
        clear b0
        obtain ⟨q2, q3, f2, f3⟩ := G0.out wr (Below.refl _ _)
        go_region_with (first
          | (go_at_call_of 27 (Value.slice FA p.fr.length fc); refine (C1.out _ (by exact KP.out _ ⟨rfl, rfl, rfl, Nat.le_refl _, fun _ _ => rfl⟩)).mono ?_; rintro e w2 ⟨A2, c2, rfl, hown2, hb2⟩; have hba : Below wr.heap.size wr w2 := undrew2 hb2; obtain ⟨q2, q3, f2, f3⟩ := G0.out _ hba)
          | (go_at_call_of 27 (Value.slice VA p.vals.length vc); refine (C2.out _ (by exact KP.out _ hba)).mono ?_; rintro e w3 ⟨A3, c3, rfl, hown3, hb3⟩; have hbb : Below wr.heap.size wr w3 := hba.trans (hb3.mono hba.size); obtain ⟨q2, q3, f2, f3⟩ := G0.out _ hbb))
        all_goals
          have HST2 := hideI (HST.out.phi HBB.out HP.out hN2 HG.out hba (undrewO hown2) hb3 hown3)
          clear q2 q3 f2 f3 hown2 hb2 hown3 hb3 hba hbb
          go_wp2
          go_roundw
          case rel => exact ⟨i + 1, _, by omega, by go_num, HST2⟩
          case measure => simp [intOf]; omega
      · have hin : i = b.phis.length := by omega
        rw [hin] at HST
        obtain ⟨CA1, cc1, hp1⟩ := HST.out.own.form (.inr (.inl rfl)) (row_code HBB.out)
        have b1 := (row_cells HST.out.box rfl 1).trans (show (blockCells val1 k b).toArray[1]? = some (.slice CA1 b.code.length cc1) by simp [blockCells, hp1])
        clear hp1 hin
        go_wp2
        clear b1
        obtain ⟨wo, rfl⟩ : ∃ wo : World, wo = wr := ⟨_, rfl⟩
        go_loopw [51] (fun u wr => ∃ (j : Nat) (val1 : Vals), j ≤ b.code.length ∧ u = .int .i64 j ∧ Hid (BlkSt f val k b w.heap.size w wr val1 b.phis.length j)) (fun u _ => b.code.length - (intOf u).toNat)
        case atStart => exact ⟨0, val1, Nat.zero_le _, rfl, HST⟩
        case round =>
          obtain ⟨j, val2, hj, rfl, HST⟩ := hrel
          have hN2 : w.heap.size + 2 ≤ wr.heap.size := by
            have := (Array.getElem?_eq_some_iff.1 HST.out.res).1
            omega
          by_cases hltj : j < b.code.length
          · obtain ⟨x, hp⟩ : ∃ x, b.code[j]? = some x := ⟨_, List.getElem?_eq_getElem hltj⟩
            obtain ⟨g, cc1, hg, hgb, hgl⟩ := HST.out.own.slice (.inr (.inl rfl)) (row_code HBB.out) (by show 0 < b.code.length; omega)
            have HP := hideI hp
            have HG : Hid (val2 (.code k) = .slice (some ⟨g, 0, none⟩) b.code.length cc1) := hg
            have hp2 : (f.blocks[k]?.bind fun b => b.code[j]?) = some x := by rw [HBB.out]; exact hp
            have rf := HRD.out (.args k j) (intsRow x.args) (by simp only [rowOf, hp2, Option.map_some])
            have hsf := HSM.out.args x (List.mem_of_getElem? hp)
            have C1 : Hid (∀ W, Keeps B w W → Calls Try.prog 27 #[val (.args k j)] W (ListPost' 3 1 (intsRow x.args) W)) := fun W hW =>
              (listInt_any _ B _ W (rf.keeps hW) (by simp [intsRow]) hsf (ints_one _)).mono fun _ _ h => h.form
            obtain ⟨FA, fc, hfv, _⟩ := rf
            have e1 : (intsRow x.args).len = x.args.length := rfl
            rw [e1] at hfv
            rw [hfv] at C1
            have hc2 := cellsOf_at (instrCells_len val2 k) b.code 0 j 2 x hp (by omega)
            rw [Nat.zero_add] at hc2
            have hs2 : (instrCells val2 k j x)[2]? = some (.slice FA x.args.length fc) := by rw [← hfv, ← HST.out.same _ DD.not_args]; rfl
            have G0 : Hid (∀ W, Below wr.heap.size wr W → W.cell? ⟨g, j * 4 + 2, none⟩ = some (.slice FA x.args.length fc) ∧ W.frozen? ⟨g, j * 4 + 2, none⟩ = false) := fun W hW => by
              have o := HST.out.own.below hW
              have k2 := o.cell (j := j * 4 + 2) (.inr (.inl rfl)) (row_code HBB.out) HG.out rfl (by show _ < b.code.length * 4; omega)
              exact ⟨k2.1.trans (hc2.trans hs2), k2.2⟩
            have KP : Hid (∀ W, Below wr.heap.size wr W → Keeps B w W) := fun W hW => (Keeps.of_below (HST.out.low.mono hB)).trans (Keeps.of_below (hW.mono (by omega)))
            have b1 := (row_cells HST.out.box rfl 1).trans (show (blockCells val2 k b).toArray[1]? = some (.slice (some ⟨g, 0, none⟩) b.code.length cc1) by simp [blockCells, hg])
            clear hp hg hp2 hfv e1 hc2 hs2
            obtain ⟨q2, f2⟩ := G0.out wr (Below.refl _ _)
            go_wp2_with (first
              | (go_at_call 27; refine (C1.out _ (by exact KP.out _ (Below.refl _ _))).mono ?_; rintro e w2 ⟨A2, c2, rfl, hown2, hb2⟩; clear q2 f2; obtain ⟨q2, f2⟩ := G0.out _ hb2; have HB2 := hideI hb2; have HO2 := hideI hown2; clear hown2 hb2))
            have HST2 := hideI (HST.out.arg HBB.out HP.out hN2 HG.out HB2.out HO2.out)
            go_roundw
            case rel => exact ⟨j + 1, _, by omega, by go_num, HST2⟩
            case measure => simp [intOf]; omega
          · have hjn : j = b.code.length := by omega
            rw [hjn] at HST
            obtain ⟨PA1, pc1, e1⟩ := HST.out.own.form (.inl rfl) (row_phis HBB.out)
            obtain ⟨CA1, cc1, e2⟩ := HST.out.own.form (.inr (.inl rfl)) (row_code HBB.out)
            obtain ⟨TA1, tc1, e3⟩ := HST.out.own.form (.inr (.inr (.inl rfl))) (row_ends HBB.out)
            have e4 : (intsRow b.term.to).len = b.term.to.length := rfl
            rw [e4] at e3
            have HE : Hid (blockCells val2 k b = [.slice PA1 b.phis.length pc1, .slice CA1 b.code.length cc1, .int .i64 b.term.op, .int .i64 b.term.val, .slice TA1 b.term.to.length tc1, .int .i64 b.term.n]) := by show _ = _; unfold blockCells; rw [e1, e2, e3]
            have hbx := HST.out.box
            rw [HE.out] at hbx
            have hx := row_cells hbx rfl
            have hr := row_cells HST.out.res rfl
            have hf := free_row' HST.out.res (rfl : wr.heap[w.heap.size + 1]? = _)
            have b0 := hx 0
            have b1 := hx 1
            have b2 := hx 2
            have b3 := hx 3
            have b4 := hx 4
            have b5 := hx 5
            have r0 := hr 0
            have r1 := hr 1
            have r2 := hr 2
            have r3 := hr 3
            have r4 := hr 4
            have r5 := hr 5
            have f0 := hf 0
            have f1 := hf 1
            have f2 := hf 2
            have f3 := hf 3
            have f4 := hf 4
            have f5 := hf 5
            clear e1 e2 e3 e4 hbx hx hr hf hjn
            go_wp2
            have hne : ∀ t, DD k b.phis.length b.code.length t → (val2 t).ownBlock ≠ some (w.heap.size + 1) := fun t ht e => by have := (HST.out.own.lt ht e).1; omega
            refine bodyPost_ret (v := .agg #[.slice PA1 b.phis.length pc1, .slice CA1 b.code.length cc1, .int .i64 b.term.op, .int .i64 b.term.val, .slice TA1 b.term.to.length tc1, .int .i64 b.term.n]) (by simp [results, Try.results29, go_sem, r0, r1, r2, r3, r4, r5]) rfl ⟨val2, by rw [HE.out], HST.out.same, ?_, ?_⟩
            · exact (((((HST.out.own.other hne).other hne).other hne).other hne).other hne).other hne
            · exact (((((HST.out.low.setCell (by simp) _).setCell (by simp) _).setCell (by simp) _).setCell (by simp) _).setCell (by simp) _).setCell (by simp) _

end Go.Proofs.Ytncmnbchkabgaaa
