/- graph.Order: what the walk answers. -/
import Derived.Test.YtclbhbnidodmdaaRefArgs
import Derived.Test.YtclbhbnidodmdaaDefine
import Derived.OwnWalk
import Derived.RegionTactic
import Derived.ChangeAlike
import Derived.BigRegion
import Derived.Outline
import Derived.Laws.OwnMore
import Derived.Test.YtclbhbnidodmdaaGVisit
import Derived.Test.YtclbhbnidodmdaaFacts
import Derived.Test.YtclbhbnidodmdaaSizes
import Derived.Laws.EntriesVeiled
import Derived.Deep.Onto
namespace Go.Proofs.Ytclbhbnidodmdaa
open Go.RowKit

/-- turned round from both ends, k elements each -/
def RevTo {α : Type} (xs ys : List α) (k : Nat) : Prop :=
  ys.length = xs.length ∧ ∀ p, p < xs.length → ys[p]? = if p < k ∨ xs.length ≤ p + k then xs[xs.length - 1 - p]? else xs[p]?

theorem RevTo.start {α : Type} (xs : List α) : RevTo xs xs 0 := ⟨rfl, fun p hp => by rw [if_neg (by omega)]⟩

theorem RevTo.step {α : Type} {xs ys : List α} {k m : Nat} {a b : α} (h : RevTo xs ys k) (hm : m + k + 1 = xs.length) (hlt : k < m) (ha : ys[k]? = some a) (hb : ys[m]? = some b) : RevTo xs ((ys.set k b).set m a) (k + 1) := by
  refine ⟨by rw [List.length_set, List.length_set, h.1], fun p hp => ?_⟩
  have h1 := h.2 k (by omega)
  have h2 := h.2 m (by omega)
  rw [if_neg (by omega)] at h1 h2
  by_cases e2 : p = m
  · subst e2
    rw [List.getElem?_set_self (by rw [List.length_set, h.1]; omega), if_pos (by omega), ← ha, h1]
    congr 1
    omega
  · rw [List.getElem?_set_ne (by omega)]
    by_cases e1 : p = k
    · subst e1
      rw [List.getElem?_set_self (by rw [h.1]; omega), if_pos (by omega), ← hb, h2]
      congr 1
      omega
    · rw [List.getElem?_set_ne (by omega), h.2 p hp]
      by_cases hc : p < k ∨ xs.length ≤ p + k
      · rw [if_pos hc, if_pos (by omega)]
      · rw [if_neg hc, if_neg (by omega)]

theorem RevTo.last {α : Type} {xs ys : List α} {k m : Nat} (h : RevTo xs ys k) (hm : m + k + 1 = xs.length) (hge : m ≤ k) : ys = xs.reverse := by
  apply List.ext_getElem?
  intro p
  by_cases hp : p < xs.length
  · rw [h.2 p hp, List.getElem?_reverse hp]
    by_cases hc : p < k ∨ xs.length ≤ p + k
    · rw [if_pos hc]
    · rw [if_neg hc]
      congr 1
      omega
  · rw [List.getElem?_eq_none (by rw [h.1]; omega), List.getElem?_eq_none (by rw [List.length_reverse]; omega)]

set_option maxRecDepth 100000 in
set_option maxHeartbeats 2000000 in
theorem reverse_any (base g cap : Nat) (xs : List Int) (w : World) (hn : 0 < xs.length) (hn2 : xs.length ≤ 1000000) (hown : w.ownsRow base 3 1 (.slice (some ⟨g, 0, none⟩) xs.length cap) xs.length (xs.map (Value.int .i64))) :
    Calls Try.prog 74 #[.slice (some ⟨g, 0, none⟩) xs.length cap] w fun e w' => e = .returned (.tuple #[]) ∧ w'.ownsRow base 3 1 (.slice (some ⟨g, 0, none⟩) xs.length cap) xs.length (xs.reverse.map (Value.int .i64)) ∧ w.grownBy w' (some g) := by
  have HOWN := hideI hown
  obtain ⟨n, hN⟩ : ∃ n, n = xs.length := ⟨_, rfl⟩
  have HN := hideI hN
  rw [← hN] at hn hn2 ⊢
  clear hown hN
  go_enter Try.func74, Try.ntmps74
  go_wp2
  go_loopw [2, 3] (fun u v wr => ∃ (k m : Nat) (ys : List Int), m + k + 1 = n ∧ u = .int .i64 k ∧ v = .int .i64 m ∧ Hid (RevTo xs ys k) ∧ Hid (wr.ownsRow base 3 1 (.slice (some ⟨g, 0, none⟩) n cap) n (ys.map (Value.int .i64))) ∧ Hid (w.grownBy wr (some g))) (fun _ v _ => (intOf v).toNat)
  case atStart => exact ⟨0, n - 1, xs, by omega, rfl, by go_num, hideI (RevTo.start xs), (by have := HOWN.out; rw [← HN.out] at this; exact hideI this), hideI (World.grownBy.refl _ _)⟩
  case round =>
    obtain ⟨k, m, ys, hm, rfl, rfl, HR, HO, HG⟩ := hrel
    have hyl : ys.length = n := by rw [HR.out.1, ← HN.out]
    have HM : Hid (m + k + 1 = xs.length) := by show _ = _; rw [← HN.out]; exact hm
    by_cases hlt : k < m
    · obtain ⟨a, ha⟩ : ∃ a, ys[k]? = some a := ⟨_, List.getElem?_eq_getElem (by omega)⟩
      obtain ⟨b, hb⟩ : ∃ b, ys[m]? = some b := ⟨_, List.getElem?_eq_getElem (by omega)⟩
      have q1 : wr.cell? ⟨g, k, none⟩ = some (.int .i64 a) := by rw [World.ownsRow.cellAt HO.out k (by omega), List.getElem?_map, ha]; rfl
      have q2 : wr.cell? ⟨g, m, none⟩ = some (.int .i64 b) := by rw [World.ownsRow.cellAt HO.out m (by omega), List.getElem?_map, hb]; rfl
      have q3 : wr.frozen? ⟨g, k, none⟩ = false := World.ownsRow.frozenAt HO.out k
      have q4 : wr.frozen? ⟨g, m, none⟩ = false := World.ownsRow.frozenAt HO.out m
      have HA := hideI ha
      have HB := hideI hb
      have hkm : k ≠ m := by omega
      have hmk : m ≠ k := by omega
      have hkn : k < n := by omega
      have hmn : m < n := by omega
      obtain ⟨m', rfl⟩ : ∃ m', m = m' + 1 := ⟨m - 1, by omega⟩
      have HM2 : Hid (m' + (k + 1) + 1 = n) := by show _ = _; omega
      clear ha hb hyl hm
      go_wp2
      go_region
      have HS : Hid (((wr.setCell ⟨g, k, none⟩ (.int .i64 b)).setCell ⟨g, m' + 1, none⟩ (.int .i64 a)).drew.ownsRow base 3 1 (.slice (some ⟨g, 0, none⟩) n cap) n (((ys.set k b).set (m' + 1) a).map (Value.int .i64))) := by
        show World.ownsRow _ _ _ _ _ _ _
        rw [List.map_set, List.map_set]
        exact ((World.ownsRow.stored (World.ownsRow.stored HO.out k _).1 (m' + 1) _).1).drew
      have HG2 : Hid (w.grownBy ((wr.setCell ⟨g, k, none⟩ (.int .i64 b)).setCell ⟨g, m' + 1, none⟩ (.int .i64 a)).drew (some g)) :=
        ((HG.out.trans_grown (World.ownsRow.stored HO.out k _).2).trans_grown (World.ownsRow.stored (World.ownsRow.stored HO.out k (.int .i64 b)).1 (m' + 1) _).2).trans_grown ⟨rfl, rfl, rfl, Nat.le_refl _, fun _ _ _ => rfl⟩
      clear q1 q2 q3 q4
      go_wp2
      go_roundw
      case rel => exact ⟨k + 1, m', (ys.set k b).set (m' + 1) a, HM2.out, by go_num, by go_num, HR.out.step HM.out (by omega) HA.out HB.out, HS, HG2⟩
      case measure => simp [intOf]
    · have hge : m ≤ k := by omega
      clear hm hyl
      go_wp2
      go_end0
      refine ⟨rfl, ?_, HG.out⟩
      rw [← HR.out.last HM.out hge]
      exact HO.out

end Go.Proofs.Ytclbhbnidodmdaa

namespace Go.Proofs.Ytclbhbnidodmdaa
open Go.RowKit Go.Maps

theorem bool_info : (Try.prog.info? 4).map (fun i => (i.zero, i.size, i.bytes)) = some (some (.bool false), 1, 1) := by kernel_rfl

/-- a right function's ends go to blocks that are there -/
theorem term_in {nb : Nat} {t : TermM} {f : FuncM} (hn : f.blocks.length = nb) (h : termB f t = true) : ∀ x ∈ t.to, 1 ≤ x ∧ x < nb := by
  unfold termB targetsB at h
  simp only [Bool.and_eq_true, List.all_eq_true] at h
  intro x hx
  have := h.1 x hx
  unfold withinB at this
  simp only [Bool.and_eq_true, decide_eq_true_eq] at this
  omega

theorem blocksStep_term {f : FuncM} : ∀ {l : List BlockM} {ds d : Defs}, blocksStep f ds l = some d → ∀ b ∈ l, termB f b.term = true := by
  intro l
  induction l with
  | nil => intro ds d _ b hb; cases hb
  | cons p l ih =>
    intro ds d h b hb
    unfold blocksStep at h
    rw [Option.bind_eq_some_iff] at h
    obtain ⟨d1, h1, h2⟩ := h
    rcases List.mem_cons.1 hb with rfl | hb
    · unfold blockStep at h1
      rw [Option.bind_eq_some_iff] at h1
      obtain ⟨d2, h3, h4⟩ := h1
      rw [Option.bind_eq_some_iff] at h4
      obtain ⟨d3, h5, h6⟩ := h4
      split at h6
      · assumption
      · cases h6
    · exact ih h2 b hb

theorem look_term {f : FuncM} (h : (lookM f).1 = 0) : ∀ b ∈ f.blocks, termB f b.term = true := by
  have hf := look_formed h
  unfold formedM at hf
  split at hf
  · exact blocksStep_term hf
  · cases hf

theorem look_ends {f : FuncM} (h : (lookM f).1 = 0) : EndsIn f.blocks := by
  intro q hq t ht
  have := term_in rfl (look_term h q hq) t ht
  omega

theorem look_some_block {f : FuncM} (h : (lookM f).1 = 0) : 0 < f.blocks.length ∧ f.blocks.length ≤ 512 := by
  have hf := look_formed h
  unfold formedM at hf
  split at hf
  · rename_i hl
    simp only [Bool.and_eq_true] at hl
    have h1 := hl.1.1
    unfold limitsB withinB at h1
    simp only [Bool.and_eq_true, decide_eq_true_eq] at h1
    omega
  · cases hf

/-- the first state: nothing begun -/
theorem marks_none (n : Nat) : marks n [] = (List.range n).map fun _ => Value.bool false := by
  unfold marks
  apply List.map_congr_left
  intro i _
  simp

theorem marks_made (n : Nat) : (madeCells (Value.bool false).cells (n * 1)).toList = marks n [] := by
  rw [show (Value.bool false).cells = #[Value.bool false] from rfl, toList_madeCells_one, Nat.mul_one, marks_none]
  apply List.ext_getElem?
  intro i
  by_cases h : i < n
  · rw [List.getElem?_replicate, if_pos h, List.getElem?_map, List.getElem?_eq_getElem (by simpa using h)]
    rfl
  · rw [List.getElem?_eq_none (by simp; omega), List.getElem?_eq_none (by simp; omega)]

theorem dfs_new {w w1 : World} {gr : Array Value} {n : Nat} (hown : w1.ownsRow (w.heap.size + 1) 4 1 (.slice (some ⟨w.heap.size + 1, 0, none⟩) n n) n (madeCells (Value.bool false).cells (n * 1)).toList)
    (hg : (w.alloc (.cells gr 81)).grownBy w1 none) :
    Dfs w.heap.size w1.heap.size n gr [] [] (((w1.alloc (.cells #[.slice (some ⟨w.heap.size + 1, 0, none⟩) n n] 31)).alloc (.cells #[.slice none 0 0] 22)).alloc
      (.cells #[.func (.func 73) #[] #[.pointer (some ⟨w1.heap.size, 0, none⟩), .pointer (some ⟨w.heap.size, 0, none⟩), .pointer (some ⟨w1.heap.size + 1 + 1, 0, none⟩), .pointer (some ⟨w1.heap.size + 1, 0, none⟩)]] 119)) := by
  have hlt : w.heap.size + 1 < w1.heap.size := (hown.lt _ rfl).2
  rw [marks_made] at hown
  refine ⟨hlt, ?_, ((hown.alloc _).alloc _).alloc _, ?_, ⟨.slice none 0 0, ?_, ?_⟩, ?_⟩
  · rw [Below.heap_alloc _ _ _ (by simp; omega), Below.heap_alloc _ _ _ (by simp; omega), Below.heap_alloc _ _ _ (by omega), hg.block _ (by simp) (by simp)]
    exact heap_alloc_new w _
  · rw [Below.heap_alloc _ _ _ (by simp; omega), Below.heap_alloc _ _ _ (by simp)]
    exact heap_alloc_new w1 _
  · rw [Below.heap_alloc _ _ _ (by simp)]
    have := heap_alloc_new (w1.alloc (.cells #[.slice (some ⟨w.heap.size + 1, 0, none⟩) n n] 31)) (.cells #[.slice none 0 0] 22)
    simpa using this
  · exact World.ownsRow_nil _ _ _ _
  · have := heap_alloc_new ((w1.alloc (.cells #[.slice (some ⟨w.heap.size + 1, 0, none⟩) n n] 31)).alloc (.cells #[.slice none 0 0] 22)) (.cells #[.func (.func 73) #[] #[.pointer (some ⟨w1.heap.size, 0, none⟩), .pointer (some ⟨w.heap.size, 0, none⟩), .pointer (some ⟨w1.heap.size + 1 + 1, 0, none⟩), .pointer (some ⟨w1.heap.size + 1, 0, none⟩)]] 119)
    simpa using this

theorem dfs_below {w w1 : World} {gr : Array Value} {t : TypeId} {o1 o2 o3 : Obj} (hg : (w.alloc (.cells gr t)).grownBy w1 none) : Below w.heap.size w (((w1.alloc o1).alloc o2).alloc o3) := by
  have h1 : Below w.heap.size w w1 := ((Below.refl _ _).alloc (Nat.le_refl _) _).grown hg (by simp) (by simp)
  have hs := h1.size
  exact ((h1.alloc hs _).alloc (by simp; omega) _).alloc (by simp; omega) _

theorem reverse_nat (base g cap : Nat) (l : List Nat) (w : World) (hn : 0 < l.length) (hn2 : l.length ≤ 1000000) (hown : w.ownsRow base 3 1 (.slice (some ⟨g, 0, none⟩) l.length cap) l.length (natInts l)) :
    Calls Try.prog 74 #[.slice (some ⟨g, 0, none⟩) l.length cap] w fun e w' => e = .returned (.tuple #[]) ∧ w'.ownsRow base 3 1 (.slice (some ⟨g, 0, none⟩) l.length cap) l.length (natInts l.reverse) ∧ w.grownBy w' (some g) := by
  have hx : natInts l = (l.map fun (x : Nat) => (x : Int)).map (Value.int .i64) := by unfold natInts; rw [List.map_map]; rfl
  have hy : natInts l.reverse = (l.map fun (x : Nat) => (x : Int)).reverse.map (Value.int .i64) := by unfold natInts; rw [← List.map_reverse, List.map_map]; rfl
  have h := reverse_any base g cap (l.map fun (x : Nat) => (x : Int)) w (by simpa using hn) (by simpa using hn2) (by rw [List.length_map, ← hx]; exact hown)
  rw [List.length_map, ← hy] at h
  exact h

theorem OrderIs.range {bs : List BlockM} {o : List Nat} (h : OrderIs bs o) (hin : EndsIn bs) (h0 : 0 < bs.length) : ∀ x ∈ o, x < bs.length := by
  obtain ⟨bg, dn, v, rfl⟩ := h
  have v2 : Visit (succM bs) [0] ([], []) (bg, dn ++ [0]) := .go (by simp) v (.nil _)
  have hr := visit_range hin.succ v2 (by simpa using h0) (by simp)
  obtain ⟨new, d⟩ := v2.did
  have hd : dn ++ [0] = new := by simpa using d.done
  intro x hx
  rw [hd] at hx
  exact hr x ((d.begun x).2 (.inr (List.mem_reverse.1 hx)))

/-- what order answers -/
def OrdPost (bs : List BlockM) (w : World) (e : Ending) (w' : World) : Prop :=
  ∃ (o : List Nat) (g cap : Nat), e = .returned (.slice (some ⟨g, 0, none⟩) o.length cap) ∧ OrderIs bs o ∧ 0 < o.length ∧ o.length ≤ bs.length ∧ w'.ownsRow w.heap.size 3 1 (.slice (some ⟨g, 0, none⟩) o.length cap) o.length (natInts o) ∧ Below w.heap.size w w'

theorem ord_len {bs : List BlockM} {dn bg l : List Nat} (hin : EndsIn bs) (h0 : 0 < bs.length) (hv : Visit (succM bs) (succM bs 0) ([0], []) (bg, dn)) (hl : l = dn ++ [0]) : 0 < l.length ∧ l.length ≤ bs.length := by
  have ho : OrderIs bs (dn ++ [0]).reverse := ⟨bg, dn, hv, rfl⟩
  have := below_len _ _ ho.facts.2.1 (ho.range hin h0)
  rw [List.length_reverse, ← hl] at this
  exact ⟨by rw [hl]; simp, this⟩

theorem ord_post {bs : List BlockM} {w w' : World} {dn bg l : List Nat} {g cap base : Nat} (hin : EndsIn bs) (h0 : 0 < bs.length) (hv : Visit (succM bs) (succM bs 0) ([0], []) (bg, dn)) (hl : l = dn ++ [0]) (hb : w.heap.size ≤ base)
    (hown : w'.ownsRow base 3 1 (.slice (some ⟨g, 0, none⟩) l.length cap) l.length (natInts l.reverse)) (hB : Below w.heap.size w w') :
    OrdPost bs w (.returned (.slice (some ⟨g, 0, none⟩) l.length cap)) w' := by
  subst hl
  have ho : OrderIs bs (dn ++ [0]).reverse := ⟨bg, dn, hv, rfl⟩
  refine ⟨(dn ++ [0]).reverse, g, cap, by rw [List.length_reverse], ho, by simp, ?_, ?_, hB⟩
  · exact below_len _ _ ho.facts.2.1 (ho.range hin h0)
  · rw [List.length_reverse]
    exact World.ownsRow.mono hown hb

set_option maxRecDepth 100000 in
set_option maxHeartbeats 2000000 in
theorem order_any (bs : List BlockM) (B : Nat) (pv av cv bv : Value) (w : World) (hbv : BlocksR w B bv bs) (hB : B ≤ w.heap.size) (h0 : 0 < bs.length) (hn5 : bs.length ≤ 512) (hin : EndsIn bs) :
    Calls Try.prog 48 #[.agg #[pv, av, cv, bv]] w (OrdPost bs w) := by
  have HBL := hideI hbv
  have HIN := hideI hin
  obtain ⟨A, c, rfl, hbm, _⟩ := hbv
  obtain ⟨i0, hix, hz0, hz1, hz2⟩ := info_parts bool_info
  clear hin
  go_enter Try.func48, Try.ntmps48
  go_wp2_with (first
    | (at_make; go_must (refine wpList_make_full _ rfl _ _ 31 rfl (w.heap.size + 1) 4 i0 (.bool false) 1 Try.underlying31 hix hz0 hz1 .i64 .i64 _ _ bs.length rfl rfl rfl rfl (by rw [hz2]; omega) (by unfold maxLen; omega) (by simp) ?_); intro w1 hown1 hg1; rw [World.size_alloc] at hown1; go_must (have HD0 := hideI (dfs_new hown1 hg1); have HB0 : Hid (∀ o1 o2 o3 : Obj, Below w.heap.size w (((w1.alloc o1).alloc o2).alloc o3)) := fun o1 o2 o3 => dfs_below hg1; clear hown1 hg1))
    | (go_at_call 73; go_must (refine (visit_any bs w.heap.size w1.heap.size pv av cv _ hn5 HIN.out bs.length [] [] 0 _ (by simp) (by simp) (by simp) (by simp) h0 (by simp) ((HBL.out.more' hB).keeps (Keeps.of_below (HB0.out _ _ _))) HD0.out).mono ?_); rintro e w2 ⟨bg, dn, rfl, hv, hd, hb⟩; obtain ⟨l, hl⟩ : ∃ l, l = dn ++ [0] := ⟨_, rfl⟩; rw [← hl] at hd; have HL := hideI hl; obtain ⟨hl0, hl1⟩ := ord_len HIN.out h0 hv hl; have HV := hideI hv; have HB2 := hideI ((HB0.out _ _ _).trans hb); have hR := hd.hR; obtain ⟨v, hdv, hown⟩ := hd.done; obtain ⟨g, cap, rfl, hg1, hg2⟩ := hown.form hl0; have hdb := cell_of_one hdv; have HDV := hideI hdv; have HO := hideI hown; clear hv hd hb hdv hown HD0 HB0 hl)
    | (go_at_call 74; go_must (refine (reverse_nat (w1.heap.size + 3) g cap l _ hl0 (by omega) HO.out).mono ?_); rintro e w3 ⟨rfl, ho3, hg3⟩; have HO3 := hideI ho3; have HG3 := hideI hg3; have hdb3 := cell_of_one ((hg3.block (w1.heap.size + 1) (lt_of_block HDV.out) (by simp; omega)).trans HDV.out); clear ho3 hg3 hdb))
  go_ret
  refine ord_post HIN.out h0 HV.out HL.out (by omega) HO3.out (HB2.out.trans ⟨HG3.out.os, HG3.out.tape, HG3.out.output, HG3.out.size, fun b hb => HG3.out.block b (Nat.lt_of_lt_of_le hb HB2.out.size) (by simp; omega)⟩)

end Go.Proofs.Ytclbhbnidodmdaa
