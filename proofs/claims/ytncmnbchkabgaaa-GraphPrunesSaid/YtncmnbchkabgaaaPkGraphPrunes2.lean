/- What GraphPrunes rests on, part 2: FList, Own, RCopyI, Ways, GVisit, Once, Phi, Instr, Term, Block, Size. -/
import Derived.Test.YtncmnbchkabgaaaPkGraphPrunes1
import Derived.OneCell
import Derived.Laws.OwnMore
import Derived.OwnWalk
import Derived.Outline
import Derived.Deep.AppendLies

namespace Go.Proofs.Ytncmnbchkabgaaa
open Go.RowKit

theorem phi_info : (Try.prog.info? 49).map (fun i => (i.zero, i.size, i.bytes)) = some (some (.agg #[.int .i64 0, .int .i64 0, .slice none 0 0, .slice none 0 0]), 4, 64) := by kernel_rfl
theorem instr_info : (Try.prog.info? 53).map (fun i => (i.zero, i.size, i.bytes)) = some (some (.agg #[.int .i64 0, .int .i64 0, .slice none 0 0, .int .i64 0]), 4, 48) := by kernel_rfl
theorem block_info : (Try.prog.info? 46).map (fun i => (i.zero, i.size, i.bytes)) = some (some (.agg #[.slice none 0 0, .slice none 0 0, .int .i64 0, .int .i64 0, .slice none 0 0, .int .i64 0]), 6, 96) := by kernel_rfl

def ListPost (e0 : TypeId) (s : Nat) (d : RowD) (w : World) (e : Ending) (w' : World) : Prop :=
  ∃ v', e = .returned v' ∧ w'.ownsRow w.heap.size e0 s v' d.len d.cells ∧ Below w.heap.size w w'

set_option maxRecDepth 100000 in
set_option maxHeartbeats 1000000 in
theorem listInt_any (d : RowD) (B : Nat) (v : Value) (w : World) (hx : RowR w B v d) (hl : d.cells.length = d.len * 1) (hn : d.len ≤ 100000) (h1 : ∀ u ∈ d.cells, u.oneCell' = true) :
    Calls Try.prog 27 #[v] w (ListPost 3 1 d w) := by
  obtain ⟨A, c, rfl, hm, hcell⟩ := hx
  have HC := hideI hcell
  have HL := hideI hl
  have H1 := hideI h1
  obtain ⟨n, hN⟩ : ∃ n, n = d.len := ⟨_, rfl⟩
  have HN := hideI hN
  rw [← hN] at hn hl ⊢
  obtain ⟨i0, hix, hz0, hz1, hz2⟩ := info_parts int_info
  clear hcell h1
  rcases Nat.eq_zero_or_pos n with rfl | hpos
  · have hnil : d.cells = [] := List.eq_nil_of_length_eq_zero (by omega)
    have HNIL := hideI hnil
    have hpure : Sem.run Try.prog (pure (#[] : Array Value)) w = .ok #[] w := rfl
    clear hl hN hnil
    cases A
    all_goals
      go_enter Try.func27, Try.ntmps27
      go_wp2
      go_ret
      exact ⟨.slice none 0 0, rfl, by rw [HNIL.out, ← HN.out]; exact World.ownsRow_nil _ _ _ _, Below.refl _ _⟩
  · obtain ⟨u, hu⟩ : ∃ u, d.cells[0]? = some u := ⟨_, List.getElem?_eq_getElem (by omega)⟩
    obtain ⟨b, off, rfl, hb, _⟩ := HC.out 0 u hu
    have HR : Hid (∀ j u, d.cells[j]? = some u → w.cell? ((⟨b, off, none⟩ : Addr).add j) = some u) := fun j u hu => by
      obtain ⟨b', off', e, _, h⟩ := HC.out j u hu
      cases e
      rw [Go.WideShapes.add_plain]
      exact h
    have HLN : Hid (d.cells.length = n * 1) := hl
    clear hu hl hN
    go_enter Try.func27, Try.ntmps27
    go_wp2_with (at_builtin; go_must (refine wpList_append_own _ rfl _ _ _ rfl w.heap.size 3 i0 _ 1 8 Try.underlying22 hix hz0 hz1 hz2 rfl (by decide) _ 0 [] rfl (World.ownsRow_nil _ _ _ _) ⟨b, off, none⟩ n c d.cells rfl HLN.out HR.out H1.out (by unfold maxLen; omega) (by omega) (Nat.le_refl _) ?_); intro v1 w1 hown1 hg1 _; have HO1 := hideI hown1; have HG1 := hideI hg1; clear hown1 hg1)
    go_ret
    refine ⟨v1, rfl, ?_, ⟨HG1.out.os, HG1.out.tape, HG1.out.output, HG1.out.size, fun k hk => HG1.out.block k hk (fun e => by simp [Value.ownBlock, Act.eval] at e)⟩⟩
    have := HO1.out
    rw [Nat.zero_add, List.nil_append] at this
    rw [← HN.out]
    exact this

set_option maxRecDepth 100000 in
set_option maxHeartbeats 1000000 in
theorem listPhi_any (d : RowD) (B : Nat) (v : Value) (w : World) (hx : RowR w B v d) (hl : d.cells.length = d.len * 4) (hn : d.len ≤ 100000) (h1 : ∀ u ∈ d.cells, u.oneCell' = true) :
    Calls Try.prog 43 #[v] w (ListPost 49 4 d w) := by
  obtain ⟨A, c, rfl, hm, hcell⟩ := hx
  have HC := hideI hcell
  have HL := hideI hl
  have H1 := hideI h1
  obtain ⟨n, hN⟩ : ∃ n, n = d.len := ⟨_, rfl⟩
  have HN := hideI hN
  rw [← hN] at hn hl ⊢
  obtain ⟨i0, hix, hz0, hz1, hz2⟩ := info_parts phi_info
  clear hcell h1
  rcases Nat.eq_zero_or_pos n with rfl | hpos
  · have hnil : d.cells = [] := List.eq_nil_of_length_eq_zero (by omega)
    have HNIL := hideI hnil
    have hpure : Sem.run Try.prog (pure (#[] : Array Value)) w = .ok #[] w := rfl
    clear hl hN hnil
    cases A
    all_goals
      go_enter Try.func43, Try.ntmps43
      go_wp2
      go_ret
      exact ⟨.slice none 0 0, rfl, by rw [HNIL.out, ← HN.out]; exact World.ownsRow_nil _ _ _ _, Below.refl _ _⟩
  · obtain ⟨u, hu⟩ : ∃ u, d.cells[0]? = some u := ⟨_, List.getElem?_eq_getElem (by omega)⟩
    obtain ⟨b, off, rfl, hb, _⟩ := HC.out 0 u hu
    have HR : Hid (∀ j u, d.cells[j]? = some u → w.cell? ((⟨b, off, none⟩ : Addr).add j) = some u) := fun j u hu => by
      obtain ⟨b', off', e, _, h⟩ := HC.out j u hu
      cases e
      rw [Go.WideShapes.add_plain]
      exact h
    have HLN : Hid (d.cells.length = n * 4) := hl
    clear hu hl hN
    go_enter Try.func43, Try.ntmps43
    go_wp2_with (at_builtin; go_must (refine wpList_append_own _ rfl _ _ _ rfl w.heap.size 49 i0 _ 4 64 Try.underlying41 hix hz0 hz1 hz2 rfl (by decide) _ 0 [] rfl (World.ownsRow_nil _ _ _ _) ⟨b, off, none⟩ n c d.cells rfl HLN.out HR.out H1.out (by unfold maxLen; omega) (by omega) (Nat.le_refl _) ?_); intro v1 w1 hown1 hg1 _; have HO1 := hideI hown1; have HG1 := hideI hg1; clear hown1 hg1)
    go_ret
    refine ⟨v1, rfl, ?_, ⟨HG1.out.os, HG1.out.tape, HG1.out.output, HG1.out.size, fun k hk => HG1.out.block k hk (fun e => by simp [Value.ownBlock, Act.eval] at e)⟩⟩
    have := HO1.out
    rw [Nat.zero_add, List.nil_append] at this
    rw [← HN.out]
    exact this

set_option maxRecDepth 100000 in
set_option maxHeartbeats 1000000 in
theorem listInstr_any (d : RowD) (B : Nat) (v : Value) (w : World) (hx : RowR w B v d) (hl : d.cells.length = d.len * 4) (hn : d.len ≤ 100000) (h1 : ∀ u ∈ d.cells, u.oneCell' = true) :
    Calls Try.prog 44 #[v] w (ListPost 53 4 d w) := by
  obtain ⟨A, c, rfl, hm, hcell⟩ := hx
  have HC := hideI hcell
  have HL := hideI hl
  have H1 := hideI h1
  obtain ⟨n, hN⟩ : ∃ n, n = d.len := ⟨_, rfl⟩
  have HN := hideI hN
  rw [← hN] at hn hl ⊢
  obtain ⟨i0, hix, hz0, hz1, hz2⟩ := info_parts instr_info
  clear hcell h1
  rcases Nat.eq_zero_or_pos n with rfl | hpos
  · have hnil : d.cells = [] := List.eq_nil_of_length_eq_zero (by omega)
    have HNIL := hideI hnil
    have hpure : Sem.run Try.prog (pure (#[] : Array Value)) w = .ok #[] w := rfl
    clear hl hN hnil
    cases A
    all_goals
      go_enter Try.func44, Try.ntmps44
      go_wp2
      go_ret
      exact ⟨.slice none 0 0, rfl, by rw [HNIL.out, ← HN.out]; exact World.ownsRow_nil _ _ _ _, Below.refl _ _⟩
  · obtain ⟨u, hu⟩ : ∃ u, d.cells[0]? = some u := ⟨_, List.getElem?_eq_getElem (by omega)⟩
    obtain ⟨b, off, rfl, hb, _⟩ := HC.out 0 u hu
    have HR : Hid (∀ j u, d.cells[j]? = some u → w.cell? ((⟨b, off, none⟩ : Addr).add j) = some u) := fun j u hu => by
      obtain ⟨b', off', e, _, h⟩ := HC.out j u hu
      cases e
      rw [Go.WideShapes.add_plain]
      exact h
    have HLN : Hid (d.cells.length = n * 4) := hl
    clear hu hl hN
    go_enter Try.func44, Try.ntmps44
    go_wp2_with (at_builtin; go_must (refine wpList_append_own _ rfl _ _ _ rfl w.heap.size 53 i0 _ 4 48 Try.underlying42 hix hz0 hz1 hz2 rfl (by decide) _ 0 [] rfl (World.ownsRow_nil _ _ _ _) ⟨b, off, none⟩ n c d.cells rfl HLN.out HR.out H1.out (by unfold maxLen; omega) (by omega) (Nat.le_refl _) ?_); intro v1 w1 hown1 hg1 _; have HO1 := hideI hown1; have HG1 := hideI hg1; clear hown1 hg1)
    go_ret
    refine ⟨v1, rfl, ?_, ⟨HG1.out.os, HG1.out.tape, HG1.out.output, HG1.out.size, fun k hk => HG1.out.block k hk (fun e => by simp [Value.ownBlock, Act.eval] at e)⟩⟩
    have := HO1.out
    rw [Nat.zero_add, List.nil_append] at this
    rw [← HN.out]
    exact this

set_option maxRecDepth 100000 in
set_option maxHeartbeats 1000000 in
theorem listBlock_any (d : RowD) (B : Nat) (v : Value) (w : World) (hx : RowR w B v d) (hl : d.cells.length = d.len * 6) (hn : d.len ≤ 100000) (h1 : ∀ u ∈ d.cells, u.oneCell' = true) :
    Calls Try.prog 28 #[v] w (ListPost 46 6 d w) := by
  obtain ⟨A, c, rfl, hm, hcell⟩ := hx
  have HC := hideI hcell
  have HL := hideI hl
  have H1 := hideI h1
  obtain ⟨n, hN⟩ : ∃ n, n = d.len := ⟨_, rfl⟩
  have HN := hideI hN
  rw [← hN] at hn hl ⊢
  obtain ⟨i0, hix, hz0, hz1, hz2⟩ := info_parts block_info
  clear hcell h1
  rcases Nat.eq_zero_or_pos n with rfl | hpos
  · have hnil : d.cells = [] := List.eq_nil_of_length_eq_zero (by omega)
    have HNIL := hideI hnil
    have hpure : Sem.run Try.prog (pure (#[] : Array Value)) w = .ok #[] w := rfl
    clear hl hN hnil
    cases A
    all_goals
      go_enter Try.func28, Try.ntmps28
      go_wp2
      go_ret
      exact ⟨.slice none 0 0, rfl, by rw [HNIL.out, ← HN.out]; exact World.ownsRow_nil _ _ _ _, Below.refl _ _⟩
  · obtain ⟨u, hu⟩ : ∃ u, d.cells[0]? = some u := ⟨_, List.getElem?_eq_getElem (by omega)⟩
    obtain ⟨b, off, rfl, hb, _⟩ := HC.out 0 u hu
    have HR : Hid (∀ j u, d.cells[j]? = some u → w.cell? ((⟨b, off, none⟩ : Addr).add j) = some u) := fun j u hu => by
      obtain ⟨b', off', e, _, h⟩ := HC.out j u hu
      cases e
      rw [Go.WideShapes.add_plain]
      exact h
    have HLN : Hid (d.cells.length = n * 6) := hl
    clear hu hl hN
    go_enter Try.func28, Try.ntmps28
    go_wp2_with (at_builtin; go_must (refine wpList_append_own _ rfl _ _ _ rfl w.heap.size 46 i0 _ 6 96 Try.underlying23 hix hz0 hz1 hz2 rfl (by decide) _ 0 [] rfl (World.ownsRow_nil _ _ _ _) ⟨b, off, none⟩ n c d.cells rfl HLN.out HR.out H1.out (by unfold maxLen; omega) (by omega) (Nat.le_refl _) ?_); intro v1 w1 hown1 hg1 _; have HO1 := hideI hown1; have HG1 := hideI hg1; clear hown1 hg1)
    go_ret
    refine ⟨v1, rfl, ?_, ⟨HG1.out.os, HG1.out.tape, HG1.out.output, HG1.out.size, fun k hk => HG1.out.block k hk (fun e => by simp [Value.ownBlock, Act.eval] at e)⟩⟩
    have := HO1.out
    rw [Nat.zero_add, List.nil_append] at this
    rw [← HN.out]
    exact this

end Go.Proofs.Ytncmnbchkabgaaa

namespace Go.Proofs.Ytncmnbchkabgaaa
open Go.RowKit

def ListPost' (e0 : TypeId) (s : Nat) (d : RowD) (w : World) (e : Ending) (w' : World) : Prop :=
  ∃ A c, e = .returned (.slice A d.len c) ∧ w'.ownsRow w.heap.size e0 s (.slice A d.len c) d.len d.cells ∧ Below w.heap.size w w'

theorem ListPost.form {e0 : TypeId} {s : Nat} {d : RowD} {w w' : World} {e : Ending} (h : ListPost e0 s d w e w') : ListPost' e0 s d w e w' := by
  obtain ⟨v, rfl, hown, hb⟩ := h
  rcases hown.2 with ⟨hv, h0⟩ | ⟨g, cap, cur, hv, _⟩
  · exact ⟨none, 0, by rw [hv, h0], by rw [h0] at hown ⊢; rw [← hv]; exact hown, hb⟩
  · exact ⟨_, _, by rw [hv], by rw [← hv]; exact hown, hb⟩

theorem free_row' {w w' : World} {g : Nat} {cs : Array Value} {t : TypeId} (h : w.heap[g]? = some (.cells cs t (0, 0))) (hk : w'.heap[g]? = w.heap[g]?) : ∀ o, w'.frozen? ⟨g, o, none⟩ = false := by
  intro o
  simp [World.frozen?, hk, h]

def upd {α : Type} (g : Tag → α) (t0 : Tag) (a : α) : Tag → α := fun t => if t = t0 then a else g t

theorem upd_same {α : Type} (g : Tag → α) (t0 : Tag) (a : α) : upd g t0 a t0 = a := by unfold upd; rw [if_pos rfl]
theorem upd_ne {α : Type} (g : Tag → α) {t0 t : Tag} (a : α) (h : t ≠ t0) : upd g t0 a t = g t := by unfold upd; rw [if_neg h]

abbrev Rows := Tag → Option RowD

structure OwnG (w : World) (base : Nat) (row : Rows) (val : Vals) (D : Tag → Prop) : Prop where
  has : ∀ t, D t → (row t).isSome = true
  rows : ∀ t d, D t → row t = some d → w.ownsRow base d.elem d.size (val t) d.len d.cells
  apart : ∀ t t' g, D t → D t' → (val t).ownBlock = some g → (val t').ownBlock = some g → t = t'

variable {w w1 : World} {base : Nat} {row : Rows} {val : Vals} {D : Tag → Prop}

theorem OwnG.nothing (w : World) (base : Nat) (row : Rows) (val : Vals) : OwnG w base row val (fun _ => False) := ⟨fun _ h => h.elim, fun _ _ h => h.elim, fun _ _ _ h => h.elim⟩

theorem OwnG.lt (h : OwnG w base row val D) {t : Tag} {g : Nat} (ht : D t) (hg : (val t).ownBlock = some g) : base ≤ g ∧ g < w.heap.size := by
  obtain ⟨d, hd⟩ := Option.isSome_iff_exists.1 (h.has t ht)
  exact (h.rows t d ht hd).lt g hg

theorem OwnG.kept (h : OwnG w base row val D) (hk : ∀ b, base ≤ b → b < w.heap.size → w1.heap[b]? = w.heap[b]?) : OwnG w1 base row val D := by
  refine ⟨h.has, fun t d ht hd => ?_, h.apart⟩
  have h0 := h.rows t d ht hd
  refine ⟨h0.1, ?_⟩
  rcases h0.2 with h2 | ⟨g, cap, cur, hv, hb, hg, r⟩
  · exact .inl h2
  · exact .inr ⟨g, cap, cur, hv, hb, (hk g hb (Array.getElem?_eq_some_iff.1 hg).1).trans hg, r⟩

theorem OwnG.below (h : OwnG w base row val D) (hb : Below w.heap.size w w1) : OwnG w1 base row val D := h.kept fun b _ hl => hb.block b hl

theorem OwnG.other (h : OwnG w base row val D) {a : Addr} {u : Value} (ha : ∀ t, D t → (val t).ownBlock ≠ some a.block) : OwnG (w.setCell a u) base row val D :=
  ⟨h.has, fun t d ht hd => ownsRow_setCell_other (h.rows t d ht hd) (ha t ht) u, h.apart⟩

theorem OwnG.congr {row' : Rows} {val' : Vals} {D' : Tag → Prop} (h : OwnG w base row val D) (hr : ∀ t, D' t → row' t = row t) (hv : ∀ t, D' t → val' t = val t) (hD : ∀ t, D' t → D t) : OwnG w base row' val' D' :=
  ⟨fun t ht => by rw [hr t ht]; exact h.has t (hD t ht), fun t d ht hd => by rw [hv t ht]; exact h.rows t d (hD t ht) (by rw [← hr t ht]; exact hd),
    fun t t' g ht ht' h1 h2 => h.apart t t' g (hD t ht) (hD t' ht') (by rw [← hv t ht]; exact h1) (by rw [← hv t' ht']; exact h2)⟩

theorem OwnG.add {t0 : Tag} {d : RowD} {v : Value} (h : OwnG w base row val D) (hn : ¬ D t0) (hb : Below w.heap.size w w1) (hown : w1.ownsRow w.heap.size d.elem d.size v d.len d.cells) (hbase : base ≤ w.heap.size) :
    OwnG w1 base (upd row t0 (some d)) (upd val t0 v) (fun t => D t ∨ t = t0) := by
  have h1 := h.below hb
  refine ⟨fun t ht => ?_, fun t d' ht hd => ?_, fun t t' g ht ht' e1 e2 => ?_⟩
  · by_cases e : t = t0
    · subst e; rw [upd_same]; rfl
    · rw [upd_ne _ _ e]; exact h.has t (ht.resolve_right e)
  · by_cases e : t = t0
    · subst e
      rw [upd_same] at hd ⊢
      cases hd
      exact World.ownsRow.mono hown hbase
    · rw [upd_ne _ _ e] at hd ⊢
      exact h1.rows t d' (ht.resolve_right e) hd
  · by_cases e : t = t0
    · by_cases e' : t' = t0
      · rw [e, e']
      · subst e
        rw [upd_same] at e1
        rw [upd_ne _ _ e'] at e2
        have := (hown.lt g e1).1
        have := (h.lt (ht'.resolve_right e') e2).2
        omega
    · by_cases e' : t' = t0
      · subst e'
        rw [upd_same] at e2
        rw [upd_ne _ _ e] at e1
        have := (hown.lt g e2).1
        have := (h.lt (ht.resolve_right e) e1).2
        omega
      · rw [upd_ne _ _ e] at e1
        rw [upd_ne _ _ e'] at e2
        exact h.apart t t' g (ht.resolve_right e) (ht'.resolve_right e') e1 e2

theorem OwnG.set {tp : Tag} {d : RowD} {g n cap j : Nat} {u : Value} (h : OwnG w base row val D) (hp : D tp) (hd : row tp = some d) (hv : val tp = .slice (some ⟨g, 0, none⟩) n cap) (hn : d.len = n) :
    OwnG (w.setCell ⟨g, j, none⟩ u) base (upd row tp (some { d with cells := d.cells.set j u })) val D := by
  have h0 := h.rows tp d hp hd
  rw [hv, hn] at h0
  have hs := h0.stored j u
  have hg : (val tp).ownBlock = some g := by rw [hv]; rfl
  refine ⟨fun t ht => ?_, fun t d' ht hd' => ?_, h.apart⟩
  · by_cases e : t = tp
    · subst e; rw [upd_same]; rfl
    · rw [upd_ne _ _ e]; exact h.has t ht
  · by_cases e : t = tp
    · subst e
      rw [upd_same] at hd'
      cases hd'
      rw [hv, hn]
      exact hs.1
    · rw [upd_ne _ _ e] at hd'
      refine (h.rows t d' ht hd').kept hs.2 (.inr fun e2 => e (h.apart t tp g ht hp e2 hg))

/-- a cell of an owned row -/
theorem OwnG.cell {tp : Tag} {d : RowD} {g n cap j : Nat} (h : OwnG w base row val D) (hp : D tp) (hd : row tp = some d) (hv : val tp = .slice (some ⟨g, 0, none⟩) n cap) (hn : d.len = n) (hj : j < n * d.size) :
    w.cell? ⟨g, j, none⟩ = d.cells[j]? ∧ w.frozen? ⟨g, j, none⟩ = false := by
  have h0 := h.rows tp d hp hd
  rw [hv, hn] at h0
  exact ⟨World.ownsRow.cellAt h0 j hj, World.ownsRow.frozenAt h0 j⟩

theorem OwnG.slice {tp : Tag} {d : RowD} (h : OwnG w base row val D) (hp : D tp) (hd : row tp = some d) (h0 : 0 < d.len) : ∃ g cap, val tp = .slice (some ⟨g, 0, none⟩) d.len cap ∧ base ≤ g ∧ g < w.heap.size :=
  (h.rows tp d hp hd).form h0

/-- which block a tag's row is of -/
def blkOf : Tag → Option Nat
  | .params => none
  | .blocks => none
  | .phis k => some k
  | .code k => some k
  | .ends k => some k
  | .fr k _ => some k
  | .vals k _ => some k
  | .args k _ => some k

theorem rowOf_some (f : FuncM) (val val' : Vals) (t : Tag) : (rowOf f val t).isSome = (rowOf f val' t).isSome := by
  cases t <;> simp [rowOf]

section
variable {α : Type} {g g' : Nat → α → List Value} {s : Nat}

theorem cellsOf_set (hs : ∀ i a, (g i a).length = s) (hs' : ∀ i a, (g' i a).length = s) {l : List α} {i r : Nat} {u : Value} (_hi : i < l.length) (hr : r < s) (h1 : ∀ k a, l[k]? = some a → k ≠ i → g' k a = g k a) (h2 : ∀ a, l[i]? = some a → g' i a = (g i a).set r u) :
    (cellsOf g 0 l).set (i * s + r) u = cellsOf g' 0 l := by
  apply List.ext_getElem?
  intro j
  by_cases hj : j < l.length * s
  · have hs0 : 0 < s := by omega
    have hk : j / s < l.length := (Nat.div_lt_iff_lt_mul hs0).2 hj
    have hm := Nat.mod_lt j hs0
    have e : j = j / s * s + j % s := by rw [Nat.mul_comm]; exact (Nat.div_add_mod j s).symm
    obtain ⟨a, ha⟩ : ∃ a, l[j / s]? = some a := ⟨_, List.getElem?_eq_getElem hk⟩
    have c1 := cellsOf_at hs l 0 (j / s) (j % s) _ ha hm
    have c2 := cellsOf_at hs' l 0 (j / s) (j % s) _ ha hm
    rw [← e, Nat.zero_add] at c1 c2
    rw [c2]
    by_cases ek : j / s = i
    · rw [ek] at ha c1 ⊢
      rw [h2 _ ha]
      by_cases er : j % s = r
      · have ej : j = i * s + r := by rw [← ek, ← er]; exact e
        rw [ej, List.getElem?_set_self (by rw [cellsOf_len hs]; rw [← ej]; exact hj), ← ej, er, List.getElem?_set_self (by rw [hs]; exact hr)]
      · have hne : i * s + r ≠ j := fun e2 => er (by rw [← e2, Nat.add_comm, Nat.add_mul_mod_self_right]; exact Nat.mod_eq_of_lt hr)
        rw [List.getElem?_set_ne hne, List.getElem?_set_ne (fun e2 => er e2.symm)]
        exact c1
    · have hne : i * s + r ≠ j := fun e2 => ek (by rw [← e2, Nat.add_comm, Nat.add_mul_div_right _ _ hs0, Nat.div_eq_of_lt hr, Nat.zero_add])
      rw [List.getElem?_set_ne hne, c1, h1 _ _ ha ek]
  · rw [List.getElem?_eq_none (by rw [List.length_set, cellsOf_len hs]; omega), List.getElem?_eq_none (by rw [cellsOf_len hs']; omega)]
end

end Go.Proofs.Ytncmnbchkabgaaa

namespace Go.Proofs.Ytncmnbchkabgaaa
open Go.RowKit

theorem append_none (w : World) (g c ty : Nat) (_hpure : Sem.run Try.prog (pure (#[] : Array Value)) w = .ok #[] w) : (Builtin.append_ #[22, 22] ty #[.slice (some ⟨g, 0, none⟩) 0 0, .slice none 0 c]).run Try.prog w = .ok (.slice (some ⟨g, 0, none⟩) 0 0) w := by
  go_simp

set_option maxRecDepth 100000 in
/-- the law of the copy -/
theorem run_copy (w : World) (B g ty : Nat) (v : Value) (xs : List Int) (hi : Ints w B v xs) (hg : w.heap[g]? = some (.cells #[] 3 (0, 0))) (hn : xs.length ≤ 100000) (base : Nat) (hb : base ≤ g) :
    ∃ A' c' w', (Builtin.append_ #[22, 22] ty #[.slice (some ⟨g, 0, none⟩) 0 0, v]).run Try.prog w = .ok (.slice A' xs.length c') w' ∧ w'.ownsRow base 3 1 (.slice A' xs.length c') xs.length (xs.map (Value.int .i64)) ∧ w.grownBy w' (some g) ∧
      (∀ k, (Value.slice A' xs.length c').ownBlock = some k → k = g ∨ k = w.heap.size) := by
  have hgl : g < w.heap.size := (Array.getElem?_eq_some_iff.1 hg).1
  have hown0 : w.ownsRow base 3 1 (.slice (some ⟨g, 0, none⟩) 0 0) 0 [] := ⟨rfl, .inr ⟨g, 0, #[], rfl, hb, hg, Nat.le_refl _, by unfold maxLen; omega, rfl, rfl⟩⟩
  obtain ⟨A, c, rfl, _, hat⟩ := hi
  cases A with
  | none =>
    have h0 : xs.length = 0 := by
      rcases Nat.eq_zero_or_pos xs.length with h | h
      · exact h
      · obtain ⟨_, _, e, _⟩ := hat 0 h
        cases e
    have hx : xs = [] := List.eq_nil_of_length_eq_zero h0
    subst hx
    exact ⟨_, _, w, append_none w g c ty rfl, hown0, World.grownBy.refl w (some g), fun k hk => .inl (by simpa [Value.ownBlock] using hk.symm)⟩
  | some ad =>
    obtain ⟨i0, hix, hz0, hz1, hz2⟩ := info_parts int_info
    have hnews : ∀ j u, (xs.map (Value.int .i64))[j]? = some u → w.cell? (ad.add j) = some u := fun j u hu => by
      rw [List.getElem?_map] at hu
      cases hj : xs[j]? with
      | none => rw [hj] at hu; cases hu
      | some y =>
        rw [hj] at hu
        injection hu with hu
        obtain ⟨b, off, e, _, hc⟩ := hat j (List.getElem?_eq_some_iff.1 hj).1
        injection e with e
        subst e
        rw [Go.WideShapes.add_plain, hc, hj, ← hu]
        rfl
    obtain ⟨v', w', hr, h2, h3, _, h5⟩ := run_append_own_at (P := Try.prog) w base 22 ty 3 i0 _ 1 8 Try.underlying22 hix hz0 hz1 hz2 rfl (by decide) _ 0 [] hown0 ad xs.length c (xs.map (Value.int .i64)) (by simp) hnews (fun u hu => by
      obtain ⟨y, _, rfl⟩ := List.mem_map.1 hu
      rfl) (by unfold maxLen; omega) (by omega) (by omega)
    rw [Nat.zero_add, List.nil_append] at h2
    obtain ⟨A', c', rfl⟩ : ∃ A' c', v' = .slice A' xs.length c' := by
      rcases h2.2 with ⟨e, e0⟩ | ⟨g2, cap, cur, e, _⟩
      · exact ⟨none, 0, by rw [e, e0]⟩
      · exact ⟨_, _, e⟩
    refine ⟨A', c', w', hr, h2, h3, fun k hk => ?_⟩
    rcases h5 with h5 | h5
    · rw [h5] at hk
      exact .inl (by simpa [Value.ownBlock] using hk.symm)
    · rw [h5] at hk
      exact .inr (by simpa using hk.symm)

/-- at a plain region's list -/
theorem wpList_copy {ops : Array Oper} {rest : List Oper} {o : Oper} {a : Act} {Q : Exit → Act → World → Prop} {w : World} (hgd : o.guard = none) (s x : Operand) (ho : o.op = .call { callee := .builtin .append, args := #[s, x], argTypes := #[22, 22] })
    (B g : Nat) (v : Value) (xs : List Int) (hs : a.eval s = .slice (some ⟨g, 0, none⟩) 0 0) (hx : a.eval x = v) (hi : Ints w B v xs) (hg : w.heap[g]? = some (.cells #[] 3 (0, 0))) (hn : xs.length ≤ 100000) (base : Nat) (hb : base ≤ g)
    (h : ∀ A' c' w', w'.ownsRow base 3 1 (.slice A' xs.length c') xs.length (xs.map (Value.int .i64)) → w.grownBy w' (some g) → (∀ k, (Value.slice A' xs.length c').ownBlock = some k → k = g ∨ k = w.heap.size) → wpList Try.prog ops Q rest (a.put o.dst (.slice A' xs.length c')) w') : wpList Try.prog ops Q (o :: rest) a w :=
  wpList_plain hgd fun _ hK => by
    obtain ⟨A', c', w', hr, h1, h2, h3⟩ := run_copy w B g o.type v xs hi hg hn base hb
    unfold Oper.wp execOp
    simp only [ho, resolve, invoke, builtin, Sem.run_bind, Sem.run_pure, Result.andThen_ok, List.map_toArray, List.map_cons, List.map_nil, hs, hx, hr]
    exact hK _ _ (h A' c' w' h1 h2 h3)
end Go.Proofs.Ytncmnbchkabgaaa

namespace Go.Proofs.Ytncmnbchkabgaaa

/-- where a block goes to -/
def succM (bs : List BlockM) (b : Nat) : List Nat := match bs[b]? with | some q => q.term.to.map Int.toNat | none => []

/-- visits of a list of blocks: what was begun and done ahead, and behind -/
inductive Visit (succ : Nat → List Nat) : List Nat → List Nat × List Nat → List Nat × List Nat → Prop
  | nil (s : List Nat × List Nat) : Visit succ [] s s
  | skip {t : Nat} {r bg dn : List Nat} {s : List Nat × List Nat} (h : t ∈ bg) (k : Visit succ r (bg, dn) s) : Visit succ (t :: r) (bg, dn) s
  | go {t : Nat} {r bg dn bg1 dn1 : List Nat} {s : List Nat × List Nat} (h : t ∉ bg) (k : Visit succ (succ t) (t :: bg, dn) (bg1, dn1)) (l : Visit succ r (bg1, dn1 ++ [t]) s) : Visit succ (t :: r) (bg, dn) s

theorem Visit.append {succ : Nat → List Nat} {l1 l2 : List Nat} {s s1 s2 : List Nat × List Nat} (h : Visit succ l1 s s1) (k : Visit succ l2 s1 s2) : Visit succ (l1 ++ l2) s s2 := by
  induction h with
  | nil => exact k
  | skip h _ ih => exact .skip h (ih k)
  | go h k1 _ _ ih => exact .go h k1 (ih k)

theorem Visit.det {succ : Nat → List Nat} {l : List Nat} {s s1 s2 : List Nat × List Nat} (h : Visit succ l s s1) (k : Visit succ l s s2) : s1 = s2 := by
  induction h generalizing s2 with
  | nil => cases k; rfl
  | skip h _ ih =>
    cases k with
    | skip _ k => exact ih k
    | go h2 _ _ => exact absurd h h2
  | go h _ _ ih1 ih2 =>
    cases k with
    | skip h2 _ => exact absurd h2 h
    | go _ k1 k2 =>
      cases ih1 k1
      exact ih2 k2

/-- what a visit does: the new ones, in the order in which they were done -/
structure Did (succ : Nat → List Nat) (work bg dn bg' dn' new : List Nat) : Prop where
  done : dn' = dn ++ new
  nodup : new.Nodup
  fresh : ∀ x ∈ new, x ∉ bg
  begun : ∀ x, x ∈ bg' ↔ x ∈ bg ∨ x ∈ new
  len : bg'.length = bg.length + new.length
  all : ∀ x ∈ work, x ∈ bg'
  next : ∀ x ∈ new, ∀ y ∈ succ x, y ∈ bg'
  from_ : ∀ (i : Nat) x, new[i]? = some x → x ∈ work ∨ ∃ j y, i < j ∧ new[j]? = some y ∧ x ∈ succ y
  keepsNodup : bg.Nodup → bg'.Nodup

theorem Visit.did {succ : Nat → List Nat} {l : List Nat} {s s' : List Nat × List Nat} (h : Visit succ l s s') : ∃ new, Did succ l s.1 s.2 s'.1 s'.2 new := by
  induction h with
  | nil s => exact ⟨[], by simp, by simp, by simp, by simp, by simp, by simp, by simp, by simp, id⟩
  | @skip t r bg dn s h _ ih =>
    obtain ⟨new, d⟩ := ih
    refine ⟨new, d.done, d.nodup, d.fresh, d.begun, d.len, ?_, d.next, fun i x hx => ?_, d.keepsNodup⟩
    · intro x hx
      rcases List.mem_cons.1 hx with rfl | hx
      · exact (d.begun _).2 (.inl h)
      · exact d.all x hx
    · rcases d.from_ i x hx with h1 | h1
      · exact .inl (List.mem_cons_of_mem _ h1)
      · exact .inr h1
  | @go t r bg dn bg1 dn1 s h _ _ ih1 ih2 =>
    obtain ⟨n1, d1⟩ := ih1
    obtain ⟨n2, d2⟩ := ih2
    have hb1 : ∀ x, x ∈ bg1 ↔ (x = t ∨ x ∈ bg) ∨ x ∈ n1 := fun x => by have := d1.begun x; simpa using this
    have hf1 : ∀ x ∈ n1, x ≠ t ∧ x ∉ bg := fun x hx => by have := d1.fresh x hx; simpa using this
    have hf2 : ∀ x ∈ n2, x ≠ t ∧ x ∉ bg ∧ x ∉ n1 := fun x hx => by
      have := d2.fresh x hx
      rw [show ((bg1, dn1 ++ [t]) : List Nat × List Nat).1 = bg1 from rfl, hb1] at this
      exact ⟨fun e => this (.inl (.inl e)), fun e => this (.inl (.inr e)), fun e => this (.inr e)⟩
    refine ⟨n1 ++ t :: n2, ?_, ?_, ?_, ?_, ?_, ?_, ?_, ?_, fun hn => d2.keepsNodup (d1.keepsNodup (List.nodup_cons.2 ⟨h, hn⟩))⟩
    · rw [d2.done]
      have := d1.done
      simp only at this
      rw [this]
      simp
    · rw [List.nodup_append]
      refine ⟨d1.nodup, List.nodup_cons.2 ⟨fun hm => (hf2 t hm).1 rfl, d2.nodup⟩, fun a ha b hb e => ?_⟩
      subst e
      rcases List.mem_cons.1 hb with rfl | hb
      · exact (hf1 _ ha).1 rfl
      · exact (hf2 _ hb).2.2 ha
    · intro x hx
      rcases List.mem_append.1 hx with hx | hx
      · exact (hf1 x hx).2
      · rcases List.mem_cons.1 hx with rfl | hx
        · exact h
        · exact (hf2 x hx).2.1
    · intro x
      rw [d2.begun, show ((bg1, dn1 ++ [t]) : List Nat × List Nat).1 = bg1 from rfl, hb1]
      simp only [List.mem_append, List.mem_cons]
      constructor
      · rintro (((h1 | h1) | h1) | h1) <;> simp [h1]
      · rintro (h1 | h1 | h1 | h1) <;> simp [h1]
    · have e1 := d1.len
      have e2 := d2.len
      simp at e1 e2 ⊢
      omega
    · intro x hx
      rcases List.mem_cons.1 hx with rfl | hx
      · exact (d2.begun _).2 (.inl ((hb1 _).2 (.inl (.inl rfl))))
      · exact d2.all x hx
    · intro x hx y hy
      rcases List.mem_append.1 hx with hx | hx
      · exact (d2.begun _).2 (.inl (d1.next x hx y hy))
      · rcases List.mem_cons.1 hx with rfl | hx
        · exact (d2.begun _).2 (.inl (d1.all y hy))
        · exact d2.next x hx y hy
    · intro i x hx
      by_cases h1 : i < n1.length
      · rw [List.getElem?_append_left h1] at hx
        rcases d1.from_ i x hx with hw | ⟨j, y, hj, hy, hs⟩
        · exact .inr ⟨n1.length, t, h1, by simp, hw⟩
        · have hj1 : j < n1.length := (List.getElem?_eq_some_iff.1 hy).1
          exact .inr ⟨j, y, hj, by rw [List.getElem?_append_left hj1]; exact hy, hs⟩
      · rw [List.getElem?_append_right (by omega)] at hx
        obtain ⟨m, hm⟩ : ∃ m, i - n1.length = m := ⟨_, rfl⟩
        rw [hm] at hx
        cases m with
        | zero =>
          simp at hx
          subst hx
          exact .inl (List.mem_cons_self ..)
        | succ m =>
          simp at hx
          rcases d2.from_ m x hx with hw | ⟨j, y, hj, hy, hs⟩
          · exact .inl (List.mem_cons_of_mem _ hw)
          · refine .inr ⟨n1.length + 1 + j, y, by omega, ?_, hs⟩
            rw [List.getElem?_append_right (by omega), show n1.length + 1 + j - n1.length = j + 1 by omega]
            simpa using hy

/-- a list without doubles, all below n, and one below n that is not in it: shorter than n -/
theorem below_len : ∀ (n : Nat) (l : List Nat), l.Nodup → (∀ x ∈ l, x < n) → l.length ≤ n := by
  intro n
  induction n with
  | zero => intro l _ h; cases l with | nil => simp | cons a l => exact absurd (h a (List.mem_cons_self ..)) (by omega)
  | succ n ih =>
    intro l hn h
    have h1 := ih (l.erase n) (hn.erase n) (fun x hx => by
      have h2 := (List.Nodup.mem_erase_iff hn).1 hx
      have := h x h2.2
      omega)
    by_cases hm : n ∈ l
    · rw [List.length_erase_of_mem hm] at h1; omega
    · rw [List.erase_of_not_mem hm] at h1; omega

theorem fresh_len {n b : Nat} {l : List Nat} (hn : l.Nodup) (h : ∀ x ∈ l, x < n) (hb : b < n) (hf : b ∉ l) : l.length < n := by
  have := below_len n (b :: l) (List.nodup_cons.2 ⟨hf, hn⟩) (fun x hx => by rcases List.mem_cons.1 hx with rfl | hx; exact hb; exact h x hx)
  simp at this
  omega

theorem nodup_rev {α : Type} {l : List α} (h : l.Nodup) : l.reverse.Nodup := List.pairwise_reverse.2 (h.imp fun h e => h e.symm)

/-- the order of a function: a visit of block 0, the last one done first -/
def OrderIs (bs : List BlockM) (o : List Nat) : Prop := ∃ bg dn, Visit (succM bs) (succM bs 0) ([0], []) (bg, dn) ∧ o = (dn ++ [0]).reverse

theorem OrderIs.one {bs : List BlockM} {o o' : List Nat} (h : OrderIs bs o) (k : OrderIs bs o') : o = o' := by
  obtain ⟨bg, dn, v, rfl⟩ := h
  obtain ⟨bg', dn', v', rfl⟩ := k
  cases v.det v'
  rfl

/-- what an order is like -/
theorem OrderIs.facts {bs : List BlockM} {o : List Nat} (h : OrderIs bs o) :
    o[0]? = some 0 ∧ o.Nodup ∧ (∀ x ∈ o, ∀ y ∈ succM bs x, y ∈ o) ∧ ∀ (i : Nat) x, 0 < i → o[i]? = some x → ∃ j y, j < i ∧ o[j]? = some y ∧ x ∈ succM bs y := by
  obtain ⟨bg, dn, v, rfl⟩ := h
  have v2 : Visit (succM bs) [0] ([], []) (bg, dn ++ [0]) := .go (by simp) v (.nil _)
  obtain ⟨new, d⟩ := v2.did
  have hd : dn ++ [0] = new := by simpa using d.done
  rw [hd]
  have h0 : new.reverse[0]? = some 0 := by rw [← hd]; simp
  refine ⟨h0, nodup_rev d.nodup, fun x hx y hy => ?_, fun i x hi hx => ?_⟩
  · have hx' : x ∈ new := List.mem_reverse.1 hx
    have := (d.begun y).1 (d.next x hx' y hy)
    simpa using this
  · have hlt : i < new.length := by have := (List.getElem?_eq_some_iff.1 hx).1; simpa using this
    have hx1 : new[new.length - 1 - i]? = some x := by rw [← hx, List.getElem?_reverse hlt]
    rcases d.from_ _ x hx1 with hw | ⟨j, y, hj, hy, hs⟩
    · have e : x = 0 := by simpa using hw
      subst e
      exfalso
      have hn := nodup_rev d.nodup
      have := (List.getElem?_inj (by have := hlt; simp; omega) hn).1 (h0.trans hx.symm)
      omega
    · have hjl : j < new.length := (List.getElem?_eq_some_iff.1 hy).1
      refine ⟨new.length - 1 - j, y, by omega, ?_, hs⟩
      rw [List.getElem?_reverse (by omega), show new.length - 1 - (new.length - 1 - j) = j by omega]
      exact hy

end Go.Proofs.Ytncmnbchkabgaaa

namespace Go.Proofs.Ytncmnbchkabgaaa
open Go.RowKit Go.Maps

theorem PhisR.more' {w : World} {B B' : Nat} {v : Value} {ps : List PhiM} (h : PhisR w B v ps) (hB : B ≤ B') : PhisR w B' v ps := by
  obtain ⟨A, c, rfl, hm, h⟩ := h
  refine ⟨A, c, rfl, hm, fun k p hp => ?_⟩
  obtain ⟨b, off, fv, vv, rfl, hb, h0, h1, h2, h3, hf, hv, r⟩ := h k p hp
  exact ⟨b, off, fv, vv, rfl, by omega, h0, h1, h2, h3, hf.more hB, hv.more hB, r⟩

theorem CodeR.more' {w : World} {B B' : Nat} {v : Value} {xs : List InstrM} (h : CodeR w B v xs) (hB : B ≤ B') : CodeR w B' v xs := by
  obtain ⟨A, c, rfl, hm, h⟩ := h
  refine ⟨A, c, rfl, hm, fun k p hp => ?_⟩
  obtain ⟨b, off, av, rfl, hb, h0, h1, h2, h3, hf, r⟩ := h k p hp
  exact ⟨b, off, av, rfl, by omega, h0, h1, h2, h3, hf.more hB, r⟩

theorem BlocksR.more' {w : World} {B B' : Nat} {v : Value} {bs : List BlockM} (h : BlocksR w B v bs) (hB : B ≤ B') : BlocksR w B' v bs := by
  obtain ⟨A, c, rfl, hm, h⟩ := h
  refine ⟨A, c, rfl, hm, fun k q hq => ?_⟩
  obtain ⟨b, off, pv, cv, tv, rfl, hb, h0, h1, h2, h3, h4, h5, hp, hc, ht, r⟩ := h k q hq
  exact ⟨b, off, pv, cv, tv, rfl, by omega, h0, h1, h2, h3, h4, h5, hp.more' hB, hc.more' hB, ht.more hB, r⟩

/-- a bool for each block: was it begun? -/
def marks (n : Nat) (bg : List Nat) : List Value := (List.range n).map fun i => .bool (decide (i ∈ bg))
def natInts (l : List Nat) : List Value := l.map fun (x : Nat) => Value.int .i64 (x : Int)

theorem marks_at {n b : Nat} {bg : List Nat} (h : b < n) : (marks n bg)[b]? = some (.bool (decide (b ∈ bg))) := by
  unfold marks
  rw [List.getElem?_map, List.getElem?_eq_getElem (by simpa using h)]
  simp

theorem marks_set {n b : Nat} {bg : List Nat} : (marks n bg).set b (.bool true) = marks n (b :: bg) := by
  unfold marks
  apply List.ext_getElem?
  intro i
  by_cases hi : i < n
  · by_cases e : b = i
    · subst e
      rw [List.getElem?_set_self (by simpa using hi), List.getElem?_eq_getElem (by simpa using hi)]
      simp
    · rw [List.getElem?_set_ne e, List.getElem?_map, List.getElem?_map, List.getElem?_range hi]
      have e' : ¬ i = b := fun h => e h.symm
      simp [e']
  · rw [List.getElem?_eq_none (by simp; omega), List.getElem?_eq_none (by simp; omega)]

/-- what lies in memory between two visits -/
structure Dfs (N R n : Nat) (gr : Array Value) (bg dn : List Nat) (w : World) : Prop where
  hR : N + 1 < R
  gb : w.heap[N]? = some (.cells gr 37 (0, 0))
  row : w.ownsRow (N + 1) 4 1 (.slice (some ⟨N + 1, 0, none⟩) n n) n (marks n bg)
  bb : w.heap[R]? = some (.cells #[.slice (some ⟨N + 1, 0, none⟩) n n] 39 (0, 0))
  done : ∃ v, w.heap[R + 1]? = some (.cells #[v] 22 (0, 0)) ∧ w.ownsRow (R + 3) 3 1 v dn.length (natInts dn)
  vb : w.heap[R + 2]? = some (.cells #[.func (.func 52) #[] #[.pointer (some ⟨R, 0, none⟩), .pointer (some ⟨N, 0, none⟩), .pointer (some ⟨R + 2, 0, none⟩), .pointer (some ⟨R + 1, 0, none⟩)]] 98 (0, 0))

theorem Dfs.size {N R n : Nat} {gr : Array Value} {bg dn : List Nat} {w : World} (h : Dfs N R n gr bg dn w) : R + 2 < w.heap.size := lt_of_block h.vb

theorem Dfs.mark {N R n b : Nat} {gr : Array Value} {bg dn : List Nat} {w : World} (h : Dfs N R n gr bg dn w) : Dfs N R n gr (b :: bg) dn (w.setCell ⟨N + 1, b, none⟩ (.bool true)) := by
  have hs := h.row.stored b (.bool true)
  have ho : ∀ k, k ≠ N + 1 → (w.setCell ⟨N + 1, b, none⟩ (.bool true)).heap[k]? = w.heap[k]? := fun k hk => heap_setCell_other w ⟨N + 1, b, none⟩ k _ hk
  obtain ⟨v, hv, hown⟩ := h.done
  have hR := h.hR
  refine ⟨hR, (ho _ (by omega)).trans h.gb, ?_, (ho _ (by omega)).trans h.bb, ⟨v, (ho _ (by omega)).trans hv, ?_⟩, (ho _ (by omega)).trans h.vb⟩
  · have := hs.1
    rwa [marks_set] at this
  · refine hown.kept hs.2 ?_
    cases e : v.ownBlock with
    | none => exact .inl rfl
    | some k =>
      have := (hown.lt k e).1
      exact .inr (by simp; omega)

theorem Dfs.push {N R n b : Nat} {gr : Array Value} {bg dn : List Nat} {w w3 : World} {o : Obj} {v v' : Value} (h : Dfs N R n gr bg dn w) (hd : w.ownsRow (R + 3) 3 1 v dn.length (natInts dn))
    (hown' : w3.ownsRow (R + 3) 3 1 v' (dn.length + 1) (natInts dn ++ [.int .i64 (b : Int)])) (hg : (w.alloc o).grownBy w3 v.ownBlock) (hd3 : w3.heap[R + 1]? = some (.cells #[v] 22 (0, 0))) :
    Dfs N R n gr bg (dn ++ [b]) (w3.setCell ⟨R + 1, 0, none⟩ v') ∧ Below N w (w3.setCell ⟨R + 1, 0, none⟩ v') := by
  have hsz := h.size
  have hne : ∀ k, k < R + 3 → some k ≠ v.ownBlock := fun k hk e => by have := (hd.lt k e.symm).1; omega
  have hk : ∀ k, k < R + 3 → w3.heap[k]? = w.heap[k]? := fun k hk => by
    rw [hg.block k (by simp; omega) (hne k hk), Below.heap_alloc _ _ _ (by omega)]
  have ho : ∀ k, k < R + 3 → k ≠ R + 1 → (w3.setCell ⟨R + 1, 0, none⟩ v').heap[k]? = w.heap[k]? := fun k h1 h2 =>
    (heap_setCell_other w3 ⟨R + 1, 0, none⟩ k _ h2).trans (hk k h1)
  have hR := h.hR
  refine ⟨⟨hR, (ho _ (by omega) (by omega)).trans h.gb, ?_, (ho _ (by omega) (by omega)).trans h.bb, ⟨v', by simpa using one_setCell hd3, ?_⟩, (ho _ (by omega) (by omega)).trans h.vb⟩, ?_⟩
  · have h1 := (h.row.alloc o).kept hg (.inr (hne (N + 1) (by omega)))
    exact ownsRow_setCell_other h1 (by simp [Value.ownBlock]; omega) _
  · have h1 := ownsRow_setCell_other hown' (a := ⟨R + 1, 0, none⟩) (by
      intro e
      have := (hown'.lt _ e).1
      simp at this) v'
    simpa [natInts] using h1
  · refine (Below.grown ((Below.refl _ _).alloc (by omega) _) hg (by simp; omega) (fun j hj => ?_)).setCell (by simp; omega) _
    have := (hd.lt j hj).1
    omega

theorem done_block {R k : Nat} {w w1 : World} {o : Obj} {v : Value} {xs : List Value} (hd : w.heap[R + 1]? = some (.cells #[v] 22 (0, 0))) (ho : w.ownsRow (R + 3) 3 1 v k xs) (hg : (w.alloc o).grownBy w1 v.ownBlock) :
    w1.heap[R + 1]? = some (.cells #[v] 22 (0, 0)) := by
  have hl := lt_of_block hd
  rw [hg.block (R + 1) (by simp; omega) (fun e => by have := (ho.lt _ e.symm).1; omega), Below.heap_alloc _ _ _ hl]
  exact hd

theorem visit_range {succ : Nat → List Nat} {n : Nat} (hs : ∀ b, ∀ y ∈ succ b, y < n) {l : List Nat} {s s' : List Nat × List Nat} (h : Visit succ l s s') : (∀ x ∈ l, x < n) → (∀ x ∈ s.1, x < n) → ∀ x ∈ s'.1, x < n := by
  induction h with
  | nil => exact fun _ h => h
  | skip _ _ ih => exact fun hl h => ih (fun x hx => hl x (List.mem_cons_of_mem _ hx)) h
  | @go t r bg dn bg1 dn1 s h _ _ ih1 ih2 =>
    intro hl hb
    refine ih2 (fun x hx => hl x (List.mem_cons_of_mem _ hx)) (ih1 (hs t) fun x hx => ?_)
    rcases List.mem_cons.1 hx with rfl | hx
    · exact hl _ (List.mem_cons_self ..)
    · exact hb x hx

/-- all ends go to blocks that are there -/
def EndsIn (bs : List BlockM) : Prop := ∀ q ∈ bs, ∀ t ∈ q.term.to, 0 ≤ t ∧ t < bs.length

theorem EndsIn.succ {bs : List BlockM} (h : EndsIn bs) : ∀ b, ∀ y ∈ succM bs b, y < bs.length := by
  intro b y hy
  unfold succM at hy
  split at hy
  · rename_i q hq
    obtain ⟨t, ht, rfl⟩ := List.mem_map.1 hy
    have := h q (List.mem_of_getElem? hq) t ht
    omega
  · cases hy

def VisitPost (bs : List BlockM) (N R n : Nat) (gr : Array Value) (bg dn : List Nat) (b : Nat) (w : World) (e : Ending) (w' : World) : Prop :=
  ∃ bg' dn', e = .returned (.tuple #[]) ∧ Visit (succM bs) (succM bs b) (b :: bg, dn) (bg', dn') ∧ Dfs N R n gr bg' (dn' ++ [b]) w' ∧ Below N w w'

set_option maxRecDepth 100000 in
set_option maxHeartbeats 2000000 in
theorem visit_any (bs : List BlockM) (N R : Nat) (pv av cv bv : Value) (hn5 : bs.length ≤ 512) (hin : EndsIn bs) :
    ∀ (k : Nat) (bg dn : List Nat) (b : Nat) (w : World), bs.length ≤ bg.length + k → bg.Nodup → (∀ x ∈ bg, x < bs.length) → dn.length ≤ bg.length → b < bs.length → b ∉ bg → BlocksR w N bv bs → Dfs N R bs.length #[pv, av, cv, bv] bg dn w →
    Calls Try.prog 52 #[.int .i64 b, .pointer (some ⟨R, 0, none⟩), .pointer (some ⟨N, 0, none⟩), .pointer (some ⟨R + 2, 0, none⟩), .pointer (some ⟨R + 1, 0, none⟩)] w (VisitPost bs N R bs.length #[pv, av, cv, bv] bg dn b w) := by
  intro k
  induction k with
  | zero =>
    intro bg dn b w hk hnd hlt _ hb hf
    have := fresh_len hnd hlt hb hf
    omega
  | succ k ih =>
    intro bg dn b w hk hnd hlt hdl hb hf hbl hD
    have HIH := hideI ih
    have HIN := hideI hin
    have HND := hideI hnd
    have HLT := hideI hlt
    have HF := hideI hf
    have HBL := hideI hbl
    have HD := hideI hD
    obtain ⟨q, hq⟩ : ∃ q, bs[b]? = some q := ⟨_, List.getElem?_eq_getElem hb⟩
    obtain ⟨A, c, rfl, hbm, hbx⟩ := hbl
    obtain ⟨ab, off, pq, cq, tv, rfl, hab, x0, x1, x2, x3, x4, x5, _, _, htv, _⟩ := hbx b q hq
    have HTV := hideI htv
    have HQ := hideI hq
    have HSU : Hid (succM bs b = q.term.to.map Int.toNat) := by show _ = _; unfold succM; rw [hq]
    have hgb := row_cells hD.gb rfl
    have g3 := hgb 3
    have hbb := cell_of_one hD.bb
    have hmk : w.cell? ⟨N + 1, b, none⟩ = some (.bool false) := by
      rw [World.ownsRow.cellAt hD.row b (by omega), marks_at hb]
      simp [hf]
    have hmf : w.frozen? ⟨N + 1, b, none⟩ = false := World.ownsRow.frozenAt hD.row b
    have hne1 : ab ≠ N + 1 := by omega
    obtain ⟨TA, tc, rfl, htm, _⟩ := htv
    obtain ⟨m, hm⟩ : ∃ m, m = q.term.to.length := ⟨_, rfl⟩
    have HW1 := hideI (hD.mark (b := b))
    have HM := hideI hm
    rw [← hm] at x4 htm
    clear ih hin hnd hlt hf hD hbx hq hgb x0 x1 x2 x3 x5 hm
    go_enter Try.func52, Try.ntmps52
    go_wp2
    obtain ⟨wm, hwm⟩ : ∃ wm : World, wm = w.setCell ⟨N + 1, b, none⟩ (.bool true) := ⟨_, rfl⟩
    have HBM : Hid (Below N w wm) := by rw [hwm]; exact (Below.refl N w).setCell (by simp) _
    rw [← hwm] at HW1 ⊢
    clear hwm g3 hbb hmk hmf x4
    go_loopw [20] (fun u wr => ∃ (i : Nat) (bgi dni : List Nat), i ≤ m ∧ u = .int .i64 i ∧ Hid (Visit (succM bs) ((q.term.to.map Int.toNat).take i) (b :: bg, dn) (bgi, dni)) ∧ Hid (Dfs N R bs.length #[pv, av, cv, .slice (some ⟨ab, off, none⟩) bs.length c] bgi dni wr) ∧ Hid (Below N w wr)) (fun u _ => m - (intOf u).toNat)
    case atStart => exact ⟨0, b :: bg, dn, Nat.zero_le _, rfl, by exact hideI (.nil _), HW1, HBM⟩
    case round =>
      obtain ⟨i, bgi, dni, hi, rfl, HV, HDr, HBr⟩ := hrel
      obtain ⟨new, hdid⟩ := HV.out.did
      have hndi : bgi.Nodup := hdid.keepsNodup (List.nodup_cons.2 ⟨HF.out, HND.out⟩)
      have hleni : bgi.length = bg.length + 1 + new.length := hdid.len
      have hdni : dni.length = dn.length + new.length := by have := hdid.done; simp only at this; rw [this, List.length_append]
      have hlti : ∀ x ∈ bgi, x < bs.length := visit_range HIN.out.succ HV.out (fun x hx => HIN.out.succ b x (by rw [HSU.out]; exact List.mem_of_mem_take hx)) (fun x hx => by
        rcases List.mem_cons.1 hx with rfl | hx
        · exact hb
        · exact HLT.out x hx)
      have hlb : bg.length + 1 ≤ bgi.length := by omega
      have hdb0 : dni.length ≤ bgi.length := by omega
      have HNDI := hideI hndi
      have HLTI := hideI hlti
      have hbgl := below_len _ _ hndi hlti
      have hbb := cell_of_one HDr.out.bb
      clear hdid hndi hlti hleni hdni
      by_cases hlt : i < m
      · obtain ⟨t, ht⟩ : ∃ t, q.term.to[i]? = some t := ⟨_, List.getElem?_eq_getElem (by rw [HM.out] at hlt; exact hlt)⟩
        have htn := HIN.out q (List.mem_of_getElem? HQ.out) t (List.mem_of_getElem? ht)
        obtain ⟨tn, rfl⟩ : ∃ tn : Nat, t = (tn : Int) := ⟨t.toNat, by omega⟩
        have htl : tn < bs.length := by omega
        have htk : Hid ((q.term.to.map Int.toNat).take (i + 1) = (q.term.to.map Int.toNat).take i ++ [tn]) := by
          show _ = _
          rw [List.take_add_one, List.getElem?_map, ht]
          rfl
        obtain ⟨TA', tc', e0, _, hxx⟩ := HTV.out.keep HBr.out
        cases e0
        obtain ⟨tb, toff, rfl, htb, hcell⟩ := hxx i (by rw [← HM.out]; exact hlt)
        rw [ht] at hcell
        simp only [Option.getD_some] at hcell
        have hmk : wr.cell? ⟨N + 1, tn, none⟩ = some (.bool (decide (tn ∈ bgi))) := by rw [World.ownsRow.cellAt HDr.out.row tn (by omega), marks_at htl]
        clear hxx ht htn
        by_cases hin2 : tn ∈ bgi
        · have HIN2 := hideI hin2
          rw [show decide (tn ∈ bgi) = true from by simpa using hin2] at hmk
          clear hin2
          go_wp2
          go_roundw
          case rel => exact ⟨i + 1, bgi, dni, by omega, by go_num, by rw [htk.out]; exact hideI (HV.out.append (.skip HIN2.out (.nil _))), HDr, HBr⟩
          case measure => simp [intOf]; omega
        · have HIN2 := hideI hin2
          rw [show decide (tn ∈ bgi) = false from by simpa using hin2] at hmk
          have hvb := cell_of_one HDr.out.vb
          have HC := hideI (HIH.out bgi dni tn wr (by omega) HNDI.out HLTI.out (by omega) htl HIN2.out (HBL.out.keeps (Keeps.of_below HBr.out)) HDr.out)
          clear hin2
          go_wp2_with (go_at_call 52; refine HC.out.mono ?_; rintro e w2 ⟨bg2, dn2, rfl, hv2, hd2, hb2⟩; have HV2 := hideI hv2; have HD2 := hideI hd2; have HB2 := hideI hb2; clear hv2 hd2 hb2)
          go_roundw
          case rel => exact ⟨i + 1, bg2, dn2 ++ [tn], by omega, by go_num, by rw [htk.out]; exact hideI (HV.out.append (.go HIN2.out HV2.out (.nil _))), HD2, hideI (HBr.out.trans HB2.out)⟩
          case measure => simp [intOf]; omega
      · obtain ⟨v, hdv, hown⟩ := HDr.out.done
        have hdb := cell_of_one hdv
        have HDV := hideI hdv
        have HOWN := hideI hown
        have hsz := HDr.out.size
        obtain ⟨i0, hix, hz0, hz1, hz2⟩ := info_parts int_info
        have hall : (q.term.to.map Int.toNat).take i = succM bs b := by rw [HSU.out, List.take_of_length_le (by rw [List.length_map, ← HM.out]; omega)]
        rw [hall] at HV
        clear hdv hall
        go_wp2_with (at_builtin; go_must (refine wpList_append_lies _ rfl _ _ _ rfl (R + 3) 3 i0 (.int .i64 0) 1 8 Try.underlying22 hix hz0 hz1 hz2 rfl (by decide) _ _ _ rfl (HOWN.out.alloc _) ⟨wr.heap.size, 0, none⟩ 1 1 [.int .i64 b] rfl rfl (one_new wr _) (by simp [Value.oneCell']) (by decide) (by simp only [maxLen]; omega) (by omega) (by simp; omega) _ rfl ?_); intro g1 cap1 w1 hown1 hgrow1 _ _; have HO1 := hideI hown1; have HG1 := hideI hgrow1; have HD1 := hideI (done_block HDV.out HOWN.out hgrow1); clear hown1 hgrow1; have hdb1 := free_of_one HD1.out; have hdc1 := cell_of_one HD1.out)

        go_end0
        have hp := HDr.out.push HOWN.out HO1.out HG1.out HD1.out
        exact ⟨bgi, dni, rfl, HV.out, hp.1, HBr.out.trans hp.2⟩

end Go.Proofs.Ytncmnbchkabgaaa

namespace Go.Proofs.Ytncmnbchkabgaaa
open Go.RowKit

theorem zero111 : Try.zeroCells110 = Array.replicate 512 (Value.bool false) := by kernel_rfl

/-- block S says of each number below 512 whether it was seen -/
def SeenIs (w : World) (S : Nat) (seen : List Int) : Prop :=
  ∃ cs : Array Value, w.heap[S]? = some (.cells cs 110 (0, 0)) ∧ cs.size = 512 ∧ ∀ i : Nat, i < 512 → cs[i]? = some (.bool (seen.contains (i : Int)))

theorem SeenIs.cell {w : World} {S : Nat} {seen : List Int} (h : SeenIs w S seen) (m : Nat) (hm : m < 512) : w.cell? ⟨S, m, none⟩ = some (.bool (seen.contains (m : Int))) := by
  obtain ⟨cs, hc, hs, h⟩ := h
  rw [cell_of_row w S m cs 110 (0, 0) hc]
  exact h m hm

theorem SeenIs.free {w : World} {S : Nat} {seen : List Int} (h : SeenIs w S seen) (m : Nat) : w.frozen? ⟨S, m, none⟩ = false := by
  obtain ⟨cs, hc, hs, h⟩ := h
  simp [World.frozen?, hc]

theorem SeenIs.set_ {w : World} {S : Nat} {seen : List Int} (h : SeenIs w S seen) (m : Nat) (hm : m < 512) : SeenIs (w.setCell ⟨S, m, none⟩ (.bool true)) S ((m : Int) :: seen) := by
  obtain ⟨cs, hc, hs, h⟩ := h
  refine ⟨cs.setIfInBounds m (.bool true), ?_, by simp [hs], fun i hi => ?_⟩
  · simp [World.setCell, Array.getElem?_modify, hc]
  · rw [Array.getElem?_setIfInBounds]
    by_cases e : m = i
    · subst e; simp [hs, hm]
    · have e' : ((i : Int) == (m : Int)) = false := by simp; omega
      rw [if_neg e, h i hi, List.contains_cons, e', Bool.false_or]

theorem seen_new (w : World) : SeenIs (w.alloc (.cells Try.zeroCells110 110)) w.heap.size [] := by
  refine ⟨_, heap_alloc_new w _, by rw [zero111]; simp, fun i hi => ?_⟩
  rw [zero111]
  simp [hi]

/-- what is left to be asked, k behind the start -/
theorem once_step (nb : Nat) (seen : List Int) (to : List Int) (k : Nat) (h : k < to.length) (x : Int) (hx : to[k]?.getD 0 = x) :
    onceB nb seen (to.drop k) = (withinB x 0 (nb - 1) && !(seen.contains x) && onceB nb (x :: seen) (to.drop (k + 1))) := by
  rw [List.drop_eq_getElem_cons h]
  rw [getD_of h] at hx
  rw [hx]
  rfl

theorem once_no (nb : Nat) (seen to : List Int) (k : Nat) (h : k < to.length) (x : Int) (hx : to[k]?.getD 0 = x) (hf : withinB x 0 (nb - 1) = false ∨ seen.contains x = true) :
    onceB nb seen (to.drop k) = false := by
  rw [once_step nb seen to k h x hx]
  rcases hf with e | e <;> rw [e] <;> simp

theorem once_yes (nb : Nat) (seen to : List Int) (k : Nat) (h : k < to.length) (x : Int) (hx : to[k]?.getD 0 = x) (h1 : withinB x 0 (nb - 1) = true) (h2 : seen.contains x = false) :
    onceB nb seen (to.drop k) = onceB nb (x :: seen) (to.drop (k + 1)) := by
  rw [once_step nb seen to k h x hx, h1, h2]
  simp

theorem within_bd {x a b : Int} (h : withinB x a b = true) : a ≤ x ∧ x ≤ b := by
  unfold withinB at h
  simpa using h

theorem says_below {b b' : Bool} {w wr : World} {o : Obj} (h : b = b') (hb : Below (w.heap.size + 1) (w.alloc o) wr) : Says b' w (.returned (.bool b)) wr := by
  subst h
  exact ⟨rfl, ((Below.refl _ _).alloc (Nat.le_refl _) _).trans (hb.mono (by omega))⟩

set_option maxHeartbeats 400000 in
theorem once_any (pv mv av cv : Value) (A : Option Addr) (nb c : Nat) (tv : Value) (to : List Int) (w : World) (hI : Ints w w.heap.size tv to) (h1 : 1 ≤ nb) (h2 : nb ≤ 512) :
    Calls Try.prog 66 #[.agg #[pv, av, cv, .slice A nb c, mv], tv] w (Says (onceB nb [] to) w) := by
  obtain ⟨T, ct, rfl, hm, hx⟩ := hI
  have Hx := hideI hx
  clear hx
  go_enter Try.func66, Try.ntmps66
  go_wp2
  go_loopw [10] (fun i wr => ∃ (k : Nat) (seen : List Int), k ≤ to.length ∧ i = .int .i64 k ∧ onceB nb [] to = onceB nb seen (to.drop k) ∧ SeenIs wr (w.heap.size + 1) seen ∧ Below (w.heap.size + 1) (w.alloc (.cells #[pv, av, cv, .slice A nb c, mv] 64)) wr) (fun i _ => to.length - (intOf i).toNat)
  case atStart =>
    refine ⟨0, [], Nat.zero_le _, rfl, rfl, ?_, (Below.refl _ _).alloc (by simp) _⟩
    have h := seen_new (w.alloc (.cells #[pv, av, cv, .slice A nb c, mv] 64))
    simpa using h
  case round =>
    obtain ⟨k, seen, hk, rfl, ht, hS, hB⟩ := hrel
    have HT := hideI ht
    have HB := hideI hB
    have HS := hideI hS
    have hbx : wr.cell? ⟨w.heap.size, 3, none⟩ = some (.slice A nb c) := by
      rw [hB.cell (p := ⟨w.heap.size, 3, none⟩) (by simp), cell_of_row _ _ _ _ _ _ (heap_alloc_new w _)]
      rfl
    clear ht hB hS
    by_cases hlt : k < to.length
    · obtain ⟨b, off, rfl, hb, hc0⟩ := Hx.out k hlt
      have hc : wr.cell? ⟨b, off + k, none⟩ = some (.int .i64 (to[k]?.getD 0)) := by
        rw [HB.out.cell (p := ⟨b, off + k, none⟩) (by simp; omega), World.cell?_alloc_lt _ _ _ (by simpa using hb), hc0]
      obtain ⟨x, hxk⟩ : ∃ x, to[k]?.getD 0 = x := ⟨_, rfl⟩
      rw [hxk] at hc
      have HX := hideI hxk
      clear hxk hc0
      have hsz : wr.heap.size = wr.heap.size := rfl
      cases hw : withinB x 0 (nb - 1)
      · go_wp2_with (go_at_call 60; refine (within_any _ _ _ _).mono ?_; rintro e w' ⟨rfl, rfl⟩)
        go_ret
        exact says_below (by rw [HT.out]; exact (once_no nb seen to k hlt x HX.out (.inl hw)).symm) HB.out
      · obtain ⟨m, rfl⟩ : ∃ m : Nat, x = m := ⟨x.toNat, by have := within_bd hw; omega⟩
        have hm5 : m < 512 := by have := within_bd hw; omega
        have hcs := HS.out.cell m hm5
        have hfs := HS.out.free m
        cases hsn : seen.contains (m : Int)
        · rw [hsn] at hcs
          go_wp2_with (go_at_call 60; refine (within_any _ _ _ _).mono ?_; rintro e w' ⟨rfl, rfl⟩)
          go_roundw
          case rel => exact ⟨k + 1, (m : Int) :: seen, by omega, by go_num, by rw [HT.out]; exact once_yes nb seen to k hlt _ HX.out hw hsn, HS.out.set_ m hm5, HB.out.setCell (by simp) _⟩
          case measure => simp [intOf]; omega
        · rw [hsn] at hcs
          go_wp2_with (go_at_call 60; refine (within_any _ _ _ _).mono ?_; rintro e w' ⟨rfl, rfl⟩)
          go_ret
          exact says_below (by rw [HT.out]; exact (once_no nb seen to k hlt _ HX.out (.inr hsn)).symm) HB.out
    · go_wp2
      go_ret
      exact says_below (by rw [HT.out, List.drop_of_length_le (by omega)]; rfl) HB.out

end Go.Proofs.Ytncmnbchkabgaaa

namespace Go.Proofs.Ytncmnbchkabgaaa
open Go.RowKit Go.Maps

theorem bcell {B : Nat} {W w1 : World} (hb : Below B W w1) : (∀ b o, b < B → w1.cell? ⟨b, o, none⟩ = W.cell? ⟨b, o, none⟩) ∧ (∀ b o, b < B → w1.frozen? ⟨b, o, none⟩ = W.frozen? ⟨b, o, none⟩) :=
  ⟨fun b o h => hb.cell (p := ⟨b, o, none⟩) h, fun b o h => hb.frozen (p := ⟨b, o, none⟩) h⟩

theorem below_grown {B : Nat} {w w' : World} {M : Nat} (h : Below B w w') (hB : B = w.heap.size) : w.grownBy w' (some M) :=
  ⟨h.os, h.tape, h.output, h.size, fun k hk _ => h.block k (by omega)⟩

theorem MapIs.below {w w' : World} {M B : Nat} {ds : Defs} (h : MapIs w M ds) (hb : Below B w w') (hM : M < B) : MapIs w' M ds := by
  obtain ⟨D, ⟨es, clock, hg, r⟩, q⟩ := h
  exact ⟨D, ⟨es, clock, (hb.block M hM).trans hg, r⟩, q⟩

theorem MapIs.alloc {w : World} {M : Nat} {ds : Defs} (h : MapIs w M ds) (o : Obj) : MapIs (w.alloc o) M ds := h.below ((Below.refl w.heap.size w).alloc (Nat.le_refl _) o) h.lt

theorem Ints.alloc {w : World} {B : Nat} {v : Value} {xs : List Int} (h : Ints w B v xs) (hB : B ≤ w.heap.size) (o : Obj) : Ints (w.alloc o) B v xs := h.keep ((Below.refl B w).alloc hB o)

theorem phiStep_no {f : FuncM} {ds : Defs} {p : PhiM} (h : phiB f p = false) : phiStep f ds p = none := by
  unfold phiStep
  rw [h]
  rfl

theorem phiStep_ok {f : FuncM} {ds : Defs} {p : PhiM} (h : phiB f p = true) : phiStep f ds p = addDef f.params.length ds p.id p.typ := by
  unfold phiStep
  rw [h]
  rfl

theorem defines_box2 {M : Nat} {w : World} {r : Option Defs} {o o2 : Obj} (h : r = none) : Defines r M w (.returned (.bool false)) ((w.alloc o).alloc o2) := by
  subst h
  exact ⟨rfl, (World.grownBy_alloc _ _ _).trans_grown (World.grownBy_alloc _ _ _), by simp⟩

theorem defines_after {M : Nat} {w w1 : World} {r : Option Defs} {o o2 : Obj} (h : r = none) (hb : Below ((w.alloc o).alloc o2).heap.size ((w.alloc o).alloc o2) w1) : Defines r M w (.returned (.bool false)) w1 := by
  subst h
  exact ⟨rfl, ((World.grownBy_alloc _ _ _).trans_grown (World.grownBy_alloc _ _ _)).trans_grown (below_grown hb rfl), by simp⟩

theorem len_ne {a b : Nat} (h : ((a : Int) == b) = false) : (a == b) = false := beq_eq_false_iff_ne.2 fun e => by rw [e] at h; simp at h
theorem len_eq {a b : Nat} (h : ((a : Int) == b) = true) : (a == b) = true := beq_iff_eq.2 (by have := beq_iff_eq.1 h; omega)

set_option maxHeartbeats 1000000 in
theorem phi_any (f : FuncM) (p : PhiM) (ds : Defs) (P A : Option Addr) (pc c M B : Nat) (frv vav : Value) (w : World) (hfr : Ints w B frv p.fr) (hva : Ints w B vav p.vals) (hBM : B ≤ M) (hM : MapIs w M ds)
    (hn : ds.length < 100000) (hi : I64 p.id) (ht : I64 p.typ) (h1 : 1 ≤ f.blocks.length) (h2 : f.blocks.length ≤ 512) :
    Calls Try.prog 62 #[.agg #[.slice P f.params.length pc, .int .i64 f.arrays, .int .i64 f.cells, .slice A f.blocks.length c, .map (some M)], .agg #[.int .i64 p.id, .int .i64 p.typ, frv, vav]] w (Defines (phiStep f ds p) M w) := by
  have hMl := hM.lt
  have HM := hideI hM
  have HF := hideI hfr
  have HI := hideI hi
  have HT := hideI ht
  obtain ⟨FA, fc, hfv, hfm, _⟩ := hfr
  obtain ⟨VA, vc, hvv, hvm, _⟩ := hva
  subst hfv hvv
  clear hM hi ht
  cases c1 : isTypeB p.typ
  · have HC := hideI c1
    go_enter Try.func62, Try.ntmps62
    go_wp2_with (go_at_call 61; refine (isType_any _ _).mono ?_; rintro e w' ⟨rfl, rfl⟩)
    go_ret
    exact defines_box2 (phiStep_no (by unfold phiB; rw [HC.out]; rfl))
  have HC := hideI c1
  cases c2 : ((p.vals.length : Int) == p.fr.length)
  · have HC2 := hideI c2
    go_enter Try.func62, Try.ntmps62
    go_wp2_with (go_at_call 61; refine (isType_any _ _).mono ?_; rintro e w' ⟨rfl, rfl⟩)
    go_ret
    exact defines_box2 (phiStep_no (by unfold phiB; rw [len_ne HC2.out]; simp))
  have HC2 := hideI c2
  cases c3 : onceB f.blocks.length [] p.fr
  · have HC3 := hideI c3
    go_enter Try.func62, Try.ntmps62
    go_wp2_with (first
      | (go_at_call 61; refine (isType_any _ _).mono ?_; rintro e w' ⟨rfl, rfl⟩)
      | (go_at_call 66; refine (once_any _ _ _ _ _ _ _ _ _ _ (((HF.out.alloc (by omega) _).alloc (by simp; omega) _).more (by simp; omega)) h1 h2).mono ?_; rintro e w1 ⟨rfl, hb1⟩))
    go_ret
    exact defines_after (phiStep_no (by unfold phiB; rw [HC3.out]; simp)) hb1
  · have HC3 := hideI c3
    go_enter Try.func62, Try.ntmps62
    go_wp2_with (first
      | (go_at_call 61; refine (isType_any _ _).mono ?_; rintro e w' ⟨rfl, rfl⟩)
      | (go_at_call 66; refine (once_any _ _ _ _ _ _ _ _ _ _ (((HF.out.alloc (by omega) _).alloc (by simp; omega) _).more (by simp; omega)) h1 h2).mono ?_; rintro e w1 ⟨rfl, hb1⟩; obtain ⟨hcl, hfl⟩ := bcell hb1; have HB1 := hideI hb1; clear hb1)
      | (go_at_call 67; refine (define_any _ _ _ _ _ _ M ds _ _ _ (((HM.out.alloc _).alloc _).below HB1.out (by simp; omega)) hn HI.out HT.out).mono ?_; rintro e w2 ⟨rfl, hg2, hm2⟩))
    go_ret
    rw [phiStep_ok (by unfold phiB; rw [HC.out, len_eq HC2.out, HC3.out]; rfl)]
    exact ⟨rfl, (((World.grownBy_alloc _ _ _).trans_grown (World.grownBy_alloc _ _ _)).trans_grown (below_grown HB1.out rfl)).trans_grown hg2, hm2⟩

end Go.Proofs.Ytncmnbchkabgaaa

namespace Go.Proofs.Ytncmnbchkabgaaa
open Go.RowKit Go.Maps

theorem instrStep_no {f : FuncM} {ds : Defs} {x : InstrM} (h : instrB f x = false) : instrStep f ds x = none := by
  unfold instrStep
  rw [h]
  rfl

theorem instrStep_none {f : FuncM} {ds : Defs} {x : InstrM} (h : instrB f x = true) (hm : makesS x.op = 0) : instrStep f ds x = if x.id = -1 then some ds else none := by
  unfold instrStep
  rw [h, if_pos rfl, if_pos hm]

theorem instrStep_ok {f : FuncM} {ds : Defs} {x : InstrM} (h : instrB f x = true) (hm : makesS x.op ≠ 0) : instrStep f ds x = addDef f.params.length ds x.id (makesS x.op) := by
  unfold instrStep
  rw [h, if_pos rfl, if_neg hm]

theorem makesS_wf (op : Int) : I64 (makesS op) := by
  rcases op_cases op with h | h | h
  · rcases h with rfl | rfl | rfl | rfl | rfl | rfl | rfl | rfl | rfl | rfl | rfl | rfl | rfl <;> (unfold I64; decide)
  · rcases h with rfl | rfl | rfl | rfl | rfl | rfl | rfl | rfl | rfl | rfl | rfl | rfl <;> (unfold I64; decide)
  · unfold makesS; rw [shapeS_none h]; unfold I64; decide

theorem len_ne' {a b : Nat} (h : ((a : Int) != b) = true) : (a == b) = false := beq_eq_false_iff_ne.2 fun e => by rw [e] at h; simp at h
theorem len_eq' {a b : Nat} (h : ((a : Int) != b) = false) : (a == b) = true := beq_iff_eq.2 (by have := bne_eq_false_iff_eq.1 h; omega)

theorem two_lt {w w1 : World} {o o2 : Obj} {B : Nat} (hb : Below B ((w.alloc o).alloc o2) w1) : w.heap.size + 1 < w1.heap.size := by
  have := hb.size
  simp at this
  omega

theorem defines_end {M : Nat} {w w1 : World} {r : Option Defs} {b : Bool} (hb : b = r.isSome) (hg : w.grownBy w1 (some M)) (h : ∀ ds, r = some ds → MapIs w1 M ds) : Defines r M w (.returned (.bool b)) w1 := by
  subst hb
  exact ⟨rfl, hg, h⟩

set_option maxHeartbeats 1000000 in
theorem instr_any (f : FuncM) (x : InstrM) (ds : Defs) (P A : Option Addr) (pc c M B : Nat) (av : Value) (w : World) (hav : Ints w B av x.args) (_hBM : B ≤ M) (hM : MapIs w M ds)
    (hn : ds.length < 100000) (hi : I64 x.id) (ha : 0 ≤ f.arrays) (ha' : f.arrays ≤ 8) (hc : 0 ≤ f.cells) (hc' : f.cells ≤ 64) :
    Calls Try.prog 63 #[.agg #[.slice P f.params.length pc, .int .i64 f.arrays, .int .i64 f.cells, .slice A f.blocks.length c, .map (some M)], .agg #[.int .i64 x.op, .int .i64 x.id, av, .int .i64 x.n]] w (Defines (instrStep f ds x) M w) := by
  have hMl := hM.lt
  have HM := hideI hM
  have HI := hideI hi
  obtain ⟨AA, ac, hvv, hvm, _⟩ := hav
  subst hvv
  clear hM hi
  -- the call of Args, ahead of all
  cases c1 : isOp x.op
  · have HC := hideI c1
    go_enter Try.func63, Try.ntmps63
    go_wp2_with (go_at_call 65; refine (irArgs_any _ _).mono ?_; rintro e w1 ⟨v, rfl, hv1, hb1⟩; obtain ⟨TA, tc, rfl, _⟩ := hv1; obtain ⟨hcl, hfl⟩ := bcell hb1; have hz1 := two_lt hb1; have hz0 := Nat.lt_of_succ_lt hz1; have HB1 := hideI hb1; clear hb1)
    go_ret
    exact defines_after (instrStep_no (by unfold instrB; rw [HC.out]; rfl)) HB1.out
  have HC := hideI c1
  cases c2 : !((x.args.length : Int) != (takesS x.op).length)
  · simp only [Bool.not_eq_false'] at c2
    have HC2 := hideI c2
    go_enter Try.func63, Try.ntmps63
    go_wp2_with (go_at_call 65; refine (irArgs_any _ _).mono ?_; rintro e w1 ⟨v, rfl, hv1, hb1⟩; obtain ⟨TA, tc, rfl, _⟩ := hv1; obtain ⟨hcl, hfl⟩ := bcell hb1; have hz1 := two_lt hb1; have hz0 := Nat.lt_of_succ_lt hz1; have HB1 := hideI hb1; clear hb1)
    go_ret
    exact defines_after (instrStep_no (by unfold instrB; rw [len_ne' HC2.out]; simp)) HB1.out
  simp only [Bool.not_eq_true'] at c2
  have HC2 := hideI c2
  cases c3 : fitsB f x.op x.n
  · have HC3 := hideI c3
    go_enter Try.func63, Try.ntmps63
    go_wp2_with (first
      | (go_at_call 65; refine (irArgs_any _ _).mono ?_; rintro e w1 ⟨v, rfl, hv1, hb1⟩; obtain ⟨TA, tc, rfl, _⟩ := hv1; obtain ⟨hcl, hfl⟩ := bcell hb1; have hz1 := two_lt hb1; have hz0 := Nat.lt_of_succ_lt hz1; have HB1 := hideI hb1; clear hb1)
      | (go_at_call 68; refine (fitsN_any f _ _ _ _ _ _ ha ha' hc hc' HC.out).mono ?_; rintro e w2 ⟨rfl, hb2⟩; obtain ⟨hcl2, hfl2⟩ := bcell hb2; have HB2 := hideI hb2; clear hb2))
    go_ret
    exact defines_end (by rw [instrStep_no (by unfold instrB; rw [HC3.out]; simp)]; rfl) ((((World.grownBy_alloc _ _ _).trans_grown (World.grownBy_alloc _ _ _)).trans_grown (below_grown HB1.out rfl)).trans_grown (below_grown HB2.out rfl)) (by rw [instrStep_no (by unfold instrB; rw [HC3.out]; simp)]; simp)
  have HC3 := hideI c3
  have hB : instrB f x = true := by unfold instrB; rw [HC.out, len_eq' HC2.out, HC3.out]; rfl
  have HBB := hideI hB
  clear hB
  cases c4 : (makesS x.op == 0)
  · have HC4 := hideI c4
    go_enter Try.func63, Try.ntmps63
    go_wp2_with (first
      | (go_at_call 65; refine (irArgs_any _ _).mono ?_; rintro e w1 ⟨v, rfl, hv1, hb1⟩; obtain ⟨TA, tc, rfl, _⟩ := hv1; obtain ⟨hcl, hfl⟩ := bcell hb1; have hz1 := two_lt hb1; have hz0 := Nat.lt_of_succ_lt hz1; have HB1 := hideI hb1; clear hb1)
      | (go_at_call 68; refine (fitsN_any f _ _ _ _ _ _ ha ha' hc hc' HC.out).mono ?_; rintro e w2 ⟨rfl, hb2⟩; obtain ⟨hcl2, hfl2⟩ := bcell hb2; have HB2 := hideI hb2; clear hb2)
      | (go_at_call 67; refine (define_any _ _ _ _ _ _ M ds _ _ _ ((((HM.out.alloc _).alloc _).below HB1.out (by simp; omega)).below HB2.out (by have := HB1.out.size; simp at this; omega)) hn HI.out (makesS_wf _)).mono ?_; rintro e w3 ⟨rfl, hg3, hm3⟩))
    go_ret
    have hne : makesS x.op ≠ 0 := by simpa using HC4.out
    rw [instrStep_ok HBB.out hne]
    exact ⟨rfl, ((((World.grownBy_alloc _ _ _).trans_grown (World.grownBy_alloc _ _ _)).trans_grown (below_grown HB1.out rfl)).trans_grown (below_grown HB2.out rfl)).trans_grown hg3, hm3⟩
  · have HC4 := hideI c4
    go_enter Try.func63, Try.ntmps63
    go_wp2_with (first
      | (go_at_call 65; refine (irArgs_any _ _).mono ?_; rintro e w1 ⟨v, rfl, hv1, hb1⟩; obtain ⟨TA, tc, rfl, _⟩ := hv1; obtain ⟨hcl, hfl⟩ := bcell hb1; have hz1 := two_lt hb1; have hz0 := Nat.lt_of_succ_lt hz1; have HB1 := hideI hb1; clear hb1)
      | (go_at_call 68; refine (fitsN_any f _ _ _ _ _ _ ha ha' hc hc' HC.out).mono ?_; rintro e w2 ⟨rfl, hb2⟩; obtain ⟨hcl2, hfl2⟩ := bcell hb2; have HB2 := hideI hb2; clear hb2))
    go_ret
    have hz : makesS x.op = 0 := by simpa using HC4.out
    have hm2 := (((HM.out.alloc (.cells #[.slice P f.params.length pc, .int .i64 f.arrays, .int .i64 f.cells, .slice A f.blocks.length c, .map (some M)] 64)).alloc (.cells #[.int .i64 x.op, .int .i64 x.id, .slice AA x.args.length ac, .int .i64 x.n] 53)).below HB1.out (by simp; omega)).below HB2.out (by omega)
    rw [instrStep_none HBB.out hz]
    refine defines_end ?_ ((((World.grownBy_alloc _ _ _).trans_grown (World.grownBy_alloc _ _ _)).trans_grown (below_grown HB1.out rfl)).trans_grown (below_grown HB2.out rfl)) ?_
    · by_cases e : x.id = -1 <;> simp [e]
    · intro ds' h
      by_cases e : x.id = -1
      · rw [if_pos e] at h
        injection h with h
        subst h
        exact hm2
      · rw [if_neg e] at h
        cases h

end Go.Proofs.Ytncmnbchkabgaaa

namespace Go.Proofs.Ytncmnbchkabgaaa
open Go.RowKit Go.Maps

theorem says_box2 {b b' : Bool} {w w1 : World} {o o2 : Obj} (h : b = b') (hb : Below ((w.alloc o).alloc o2).heap.size ((w.alloc o).alloc o2) w1) : Says b' w (.returned (.bool b)) w1 := by
  subst h
  exact ⟨rfl, ((((Below.refl _ _).alloc (Nat.le_refl _) _).alloc (by simp) _)).trans (hb.mono (by simp; omega))⟩

theorem termB_no {f : FuncM} {t : TermM} (h : targetsB f.blocks.length t.to = false) : termB f t = false := by
  unfold termB
  rw [h]
  rfl

def endB (t : TermM) : Bool :=
  if t.op = 1 then t.to.length == 1 && (t.val == -1 && t.n == 0) else
  if t.op = 2 then t.to.length == 2 && t.n == 0 else
  if t.op = 3 then t.to.length == 0 && t.n == 0 else
  if t.op = 4 then t.to.length == 0 && (t.val == -1 && decide (0 ≤ t.n)) else false

theorem termB_yes {f : FuncM} {t : TermM} (h : targetsB f.blocks.length t.to = true) : termB f t = endB t := by
  unfold termB
  rw [h]
  rfl

theorem len_is {l : List Int} {k : Nat} : ((l.length : Int) == (k : Int)) = (l.length == k) := by
  rw [Bool.eq_iff_iff]
  simp
  omega

set_option maxHeartbeats 1000000 in
theorem term_any (f : FuncM) (t : TermM) (P A : Option Addr) (pc c : Nat) (mv tv : Value) (w : World) (htv : Ints w w.heap.size tv t.to) (h1 : 1 ≤ f.blocks.length) (h2 : f.blocks.length ≤ 512) :
    Calls Try.prog 64 #[.agg #[.slice P f.params.length pc, .int .i64 f.arrays, .int .i64 f.cells, .slice A f.blocks.length c, mv], .agg #[.int .i64 t.op, .int .i64 t.val, tv, .int .i64 t.n]] w (Says (termB f t) w) := by
  have HV := hideI htv
  obtain ⟨TA, tc, hvv, hvm, _⟩ := htv
  subst hvv
  cases c1 : targetsB f.blocks.length t.to
  · have HC := hideI c1
    go_enter Try.func64, Try.ntmps64
    go_wp2_with (go_at_call 69; refine (areTargets_any _ _ _ _ _ _ _ _ _ _ (((HV.out.alloc (Nat.le_refl _) _).alloc (by simp) _).more (by simp; omega)) h1 h2).mono ?_; rintro e w1 ⟨rfl, hb1⟩; have HB1 := hideI hb1; obtain ⟨hcl, hfl⟩ := bcell hb1; clear hb1)
    go_ret
    exact says_box2 (termB_no HC.out).symm HB1.out
  have HC := hideI c1
  rw [termB_yes c1]
  have hop : t.op = 1 ∨ t.op = 2 ∨ t.op = 3 ∨ t.op = 4 ∨ (t.op ≠ 1 ∧ t.op ≠ 2 ∧ t.op ≠ 3 ∧ t.op ≠ 4) := by omega
  obtain ⟨op, val, to, n⟩ := t
  simp only at *
  rcases hop with rfl | rfl | rfl | rfl | ⟨g1, g2, g3, g4⟩
  all_goals
    go_enter Try.func64, Try.ntmps64
    go_wp2_with (go_at_call 69; refine (areTargets_any _ _ _ _ _ _ _ _ _ _ (((HV.out.alloc (Nat.le_refl _) _).alloc (by simp) _).more (by simp; omega)) h1 h2).mono ?_; rintro e w1 ⟨rfl, hb1⟩; have HB1 := hideI hb1; obtain ⟨hcl, hfl⟩ := bcell hb1; clear hb1)
    all_goals
      go_ret
      refine says_box2 ?_ HB1.out
      rw [Bool.eq_iff_iff]
      simp [endB, *]
      try omega

end Go.Proofs.Ytncmnbchkabgaaa

namespace Go.Proofs.Ytncmnbchkabgaaa
open Go.RowKit Go.Maps

theorem phis_drop (f : FuncM) (d : Defs) (l : List PhiM) (k : Nat) (p : PhiM) (h : l[k]? = some p) : phisStep f d (l.drop k) = (phiStep f d p).bind fun d' => phisStep f d' (l.drop (k + 1)) := by
  obtain ⟨hk, rfl⟩ := List.getElem?_eq_some_iff.1 h
  rw [List.drop_eq_getElem_cons hk]
  rfl

theorem code_drop (f : FuncM) (d : Defs) (l : List InstrM) (k : Nat) (p : InstrM) (h : l[k]? = some p) : codeStep f d (l.drop k) = (instrStep f d p).bind fun d' => codeStep f d' (l.drop (k + 1)) := by
  obtain ⟨hk, rfl⟩ := List.getElem?_eq_some_iff.1 h
  rw [List.drop_eq_getElem_cons hk]
  rfl

theorem addDef_len {np : Nat} {ds d : Defs} {id typ : Int} (h : addDef np ds id typ = some d) : d.length = ds.length + 1 := by
  unfold addDef at h
  split at h
  · injection h with h; subst h; simp
  · cases h

theorem phiStep_len {f : FuncM} {ds d : Defs} {p : PhiM} (h : phiStep f ds p = some d) : d.length = ds.length + 1 := by
  unfold phiStep at h
  split at h
  · exact addDef_len h
  · cases h

theorem instrStep_len {f : FuncM} {ds d : Defs} {p : InstrM} (h : instrStep f ds p = some d) : d.length ≤ ds.length + 1 := by
  unfold instrStep at h
  split at h
  · split at h
    · split at h
      · injection h with h; subst h; omega
      · cases h
    · have := addDef_len h; omega
  · cases h

theorem block_grown {w W0 wr w1 : World} {o1 o2 o3 : Obj} {M : Nat} (h0 : W0 = (w.alloc o1).alloc o2) (h : W0.grownBy wr (some M)) (h1 : (wr.alloc o3).grownBy w1 (some M)) : w.grownBy w1 (some M) := by
  subst h0
  exact ((((World.grownBy_alloc _ _ _).trans_grown (World.grownBy_alloc _ _ _)).trans_grown h).trans_grown (World.grownBy_alloc _ _ _)).trans_grown h1

set_option maxHeartbeats 1000000 in
theorem block_any (f : FuncM) (q : BlockM) (ds : Defs) (P A : Option Addr) (pc c M B : Nat) (pv cv tv : Value) (w : World) (hpv : PhisR w B pv q.phis) (hcv : CodeR w B cv q.code) (htv : Ints w B tv q.term.to)
    (hBM : B ≤ M) (hM : MapIs w M ds) (hn : ds.length + q.phis.length + q.code.length < 50000)
    (h1 : 1 ≤ f.blocks.length) (h2 : f.blocks.length ≤ 512) (ha : 0 ≤ f.arrays) (ha' : f.arrays ≤ 8) (hc : 0 ≤ f.cells) (hc' : f.cells ≤ 64) :
    Calls Try.prog 57 #[.agg #[.slice P f.params.length pc, .int .i64 f.arrays, .int .i64 f.cells, .slice A f.blocks.length c, .map (some M)], .agg #[pv, cv, .int .i64 q.term.op, .int .i64 q.term.val, tv, .int .i64 q.term.n]] w (Defines (blockStep f ds q) M w) := by
  have hMl := hM.lt
  have HM := hideI hM
  have HP := hideI hpv
  have HC := hideI hcv
  have HT := hideI htv
  obtain ⟨PA, pc2, hpe, hpm, hpx⟩ := hpv
  obtain ⟨CA, cc2, hce, hcm, hcx⟩ := hcv
  subst hpe hce
  have HPX := hideI hpx
  have HCX := hideI hcx
  clear hpx hcx hM htv
  go_enter Try.func57, Try.ntmps57
  go_wp2
  obtain ⟨W0, hW0⟩ : ∃ W0 : World, W0 = (w.alloc (.cells #[.slice P f.params.length pc, .int .i64 f.arrays, .int .i64 f.cells, .slice A f.blocks.length c, .map (some M)] 64)).alloc (.cells #[.slice PA q.phis.length pc2, .slice CA q.code.length cc2, .int .i64 q.term.op, .int .i64 q.term.val, tv, .int .i64 q.term.n] 46) := ⟨_, rfl⟩
  rw [← hW0]
  have HW0 := hideI hW0
  clear hW0
  go_loopw [12] (fun i wr => ∃ (k : Nat) (d : Defs), k ≤ q.phis.length ∧ i = .int .i64 k ∧ phisStep f ds q.phis = phisStep f d (q.phis.drop k) ∧ d.length ≤ ds.length + k ∧ MapIs wr M d ∧ W0.grownBy wr (some M)) (fun i _ => q.phis.length - (intOf i).toNat)
  case atStart => exact ⟨0, ds, Nat.zero_le _, rfl, rfl, Nat.le_refl _, by rw [HW0.out]; exact (HM.out.alloc _).alloc _, World.grownBy.refl W0 _⟩
  case round =>
    obtain ⟨k, d, hk, rfl, ht, hdl, hMd, hg⟩ := hrel
    have hg' := hg
    rw [HW0.out] at hg'
    obtain ⟨hx1, hx2, hz1⟩ := two_cells hg' hMl
    have hz0 := Nat.lt_of_succ_lt hz1
    have hks : Keeps B w wr := (((Keeps.refl w).alloc (by omega) _).alloc (by simp; omega) _).trans (Keeps.of_grown hg' hBM (by simp; omega))
    have HK := hideI hks
    have HG := hideI hg
    have HD := hideI hMd
    have HT' := hideI ht
    clear hg' hks hg hMd ht
    by_cases hlt : k < q.phis.length
    · obtain ⟨p, hp⟩ : ∃ p, q.phis[k]? = some p := ⟨_, List.getElem?_eq_getElem hlt⟩
      obtain ⟨b, off, fv, vv, rfl, hb, e0, e1, e2, e3, hf, hv, hi, htt⟩ := HPX.out k p hp
      have c0 := (HK.out b (off + k * 4) hb).trans e0
      have c1 := (HK.out b (off + k * 4 + 1) hb).trans e1
      have c2 := (HK.out b (off + k * 4 + 2) hb).trans e2
      have c3 := (HK.out b (off + k * 4 + 3) hb).trans e3
      have HF := hideI (hf.keeps HK.out)
      have HV := hideI (hv.keeps HK.out)
      have HI := hideI hi
      have HTY := hideI htt
      have HPP := hideI hp
      obtain ⟨FA, fc, hfe, _⟩ := hf
      obtain ⟨VA, vc, hve, _⟩ := hv
      subst hfe hve
      clear e0 e1 e2 e3 hp hi htt
      cases hs : phiStep f d p with
      | none =>
        have HS := hideI hs
        go_wp2_with (go_at_call 62; refine (phi_any f p d _ _ _ _ M B _ _ _ (HF.out.alloc (by omega) _) (HV.out.alloc (by omega) _) hBM (HD.out.alloc _) (by omega) HI.out HTY.out h1 h2).mono ?_; rintro e w1 ⟨rfl, hg1, hm1⟩; rw [HS.out]; have HG1 := hideI hg1; clear hg1 hm1)
        go_ret
        have hno : blockStep f ds q = none := by
          unfold blockStep
          rw [HT'.out, phis_drop f d q.phis k p HPP.out, HS.out]
          rfl
        exact defines_end (by rw [hno]; rfl) (block_grown HW0.out HG.out HG1.out) (by rw [hno]; simp)
      | some d' =>
        have HS := hideI hs
        go_wp2_with (go_at_call 62; refine (phi_any f p d _ _ _ _ M B _ _ _ (HF.out.alloc (by omega) _) (HV.out.alloc (by omega) _) hBM (HD.out.alloc _) (by omega) HI.out HTY.out h1 h2).mono ?_; rintro e w1 ⟨rfl, hg1, hm1⟩; rw [HS.out]; have HG1 := hideI hg1; have HM1 := hideI hm1; clear hg1 hm1)
        go_roundw
        case rel => exact ⟨k + 1, d', by omega, by go_num, by rw [HT'.out, phis_drop f d q.phis k p HPP.out, HS.out]; rfl, by have := phiStep_len HS.out; omega, HM1.out d' HS.out, (HG.out.trans_grown (World.grownBy_alloc _ _ _)).trans_grown HG1.out⟩
        case measure => simp [intOf]; omega
    · have hke : phisStep f ds q.phis = some d := by rw [HT'.out, List.drop_of_length_le (by omega)]; rfl
      have HKE := hideI hke
      have hdl2 : d.length ≤ ds.length + q.phis.length := by omega
      clear hke HPX
      go_wp2
      obtain ⟨wo, rfl⟩ : ∃ wo : World, wo = wr := ⟨_, rfl⟩
      clear hx1 hx2 hz0 hz1 HK HT'
      go_loopw [24] (fun i wr => ∃ (k : Nat) (d2 : Defs), k ≤ q.code.length ∧ i = .int .i64 k ∧ codeStep f d q.code = codeStep f d2 (q.code.drop k) ∧ d2.length ≤ ds.length + q.phis.length + k ∧ MapIs wr M d2 ∧ W0.grownBy wr (some M)) (fun i _ => q.code.length - (intOf i).toNat)
      case atStart => exact ⟨0, d, Nat.zero_le _, rfl, rfl, by omega, HD.out, HG.out⟩
      case round =>
        obtain ⟨k2, d2, hk2, rfl, ht2, hdl3, hMd2, hg2⟩ := hrel
        have hg' := hg2
        rw [HW0.out] at hg'
        obtain ⟨hx1, hx2, hz1⟩ := two_cells hg' hMl
        have hz0 := Nat.lt_of_succ_lt hz1
        have hks : Keeps B w wr := (((Keeps.refl w).alloc (by omega) _).alloc (by simp; omega) _).trans (Keeps.of_grown hg' hBM (by simp; omega))
        have HK := hideI hks
        have HG2 := hideI hg2
        have HD2 := hideI hMd2
        have HT2 := hideI ht2
        clear hg' hks hg2 hMd2 ht2
        by_cases hlt : k2 < q.code.length
        · obtain ⟨x, hp⟩ : ∃ x, q.code[k2]? = some x := ⟨_, List.getElem?_eq_getElem hlt⟩
          obtain ⟨b, off, av, rfl, hb, e0, e1, e2, e3, hf, _, hi, _⟩ := HCX.out k2 x hp
          have c0 := (HK.out b (off + k2 * 4) hb).trans e0
          have c1 := (HK.out b (off + k2 * 4 + 1) hb).trans e1
          have c2 := (HK.out b (off + k2 * 4 + 2) hb).trans e2
          have c3 := (HK.out b (off + k2 * 4 + 3) hb).trans e3
          have HF := hideI (hf.keeps HK.out)
          have HI := hideI hi
          have HPP := hideI hp
          obtain ⟨FA, fc, hfe, _⟩ := hf
          subst hfe
          clear e0 e1 e2 e3 hp hi
          cases hs : instrStep f d2 x with
          | none =>
            have HS := hideI hs
            go_wp2_with (go_at_call 63; refine (instr_any f x d2 _ _ _ _ M B _ _ (HF.out.alloc (by omega) _) hBM (HD2.out.alloc _) (by omega) HI.out ha ha' hc hc').mono ?_; rintro e w1 ⟨rfl, hg1, hm1⟩; rw [HS.out]; have HG1 := hideI hg1; clear hg1 hm1)
            go_ret
            have hno : blockStep f ds q = none := by
              unfold blockStep
              rw [HKE.out, Option.bind_some, HT2.out, code_drop f d2 q.code k2 x HPP.out, HS.out]
              rfl
            exact defines_end (by rw [hno]; rfl) (block_grown HW0.out HG2.out HG1.out) (by rw [hno]; simp)
          | some d' =>
            have HS := hideI hs
            go_wp2_with (go_at_call 63; refine (instr_any f x d2 _ _ _ _ M B _ _ (HF.out.alloc (by omega) _) hBM (HD2.out.alloc _) (by omega) HI.out ha ha' hc hc').mono ?_; rintro e w1 ⟨rfl, hg1, hm1⟩; rw [HS.out]; have HG1 := hideI hg1; have HM1 := hideI hm1; clear hg1 hm1)
            go_roundw
            case rel => exact ⟨k2 + 1, d', by omega, by go_num, by rw [HT2.out, code_drop f d2 q.code k2 x HPP.out, HS.out]; rfl, by have := instrStep_len HS.out; omega, HM1.out d' HS.out, (HG2.out.trans_grown (World.grownBy_alloc _ _ _)).trans_grown HG1.out⟩
            case measure => simp [intOf]; omega
        · have hce : blockStep f ds q = if termB f q.term then some d2 else none := by
            unfold blockStep
            rw [HKE.out, Option.bind_some, HT2.out, List.drop_of_length_le (by omega)]
            rfl
          have HCE := hideI hce
          clear hce HCX HT2
          obtain ⟨TA, tc, hte, _⟩ := HT.out
          subst hte
          have HTT := hideI ((HT.out.keeps HK.out).more (B' := wr.heap.size) (by omega))
          go_wp2_with (go_at_call 64; refine (term_any f q.term _ _ _ _ _ _ _ HTT.out h1 h2).mono ?_; rintro e w1 ⟨rfl, hb1⟩; have HB1 := hideI hb1; clear hb1)
          go_ret
          have hm1 := HD2.out.below HB1.out (by omega)
          have hgg : w.grownBy w1 (some M) := ((((World.grownBy_alloc _ _ _).trans_grown (World.grownBy_alloc _ _ _)).trans_grown (HW0.out ▸ HG2.out)).trans_grown (below_grown HB1.out rfl))
          refine defines_end ?_ hgg ?_
          · rw [HCE.out]
            cases termB f q.term <;> rfl
          · intro ds' h
            rw [HCE.out] at h
            split at h
            · injection h with h
              subst h
              exact hm1
            · cases h

end Go.Proofs.Ytncmnbchkabgaaa

namespace Go.Proofs.Ytncmnbchkabgaaa
open Go.RowKit Go.Maps

theorem size_take (bs : List BlockM) (k : Nat) (q : BlockM) (h : bs[k]? = some q) : ((bs.take (k + 1)).map sizeB).sum = ((bs.take k).map sizeB).sum + (q.phis.length + q.code.length + 1) := by
  obtain ⟨hk, rfl⟩ := List.getElem?_eq_some_iff.1 h
  rw [List.take_succ_eq_append_getElem hk, List.map_append, List.sum_append]
  rfl

set_option maxHeartbeats 1000000 in
theorem lookSize_any (bs : List BlockM) (B : Nat) (pv av cv bv mv : Value) (w : World) (hbv : BlocksR w B bv bs) (hB : B ≤ w.heap.size) (h2 : bs.length ≤ 512) :
    Calls Try.prog 38 #[.agg #[pv, av, cv, bv, mv]] w fun e w' => e = .returned (.int .i64 ((bs.map sizeB).sum : Nat)) ∧ Below w.heap.size w w' := by
  have HB := hideI hbv
  obtain ⟨A, c, rfl, hbm, hbx⟩ := hbv
  have HX := hideI hbx
  clear hbx
  go_enter Try.func38, Try.ntmps38
  go_wp2
  go_loopw [3, 10] (fun n i wr => ∃ k S : Nat, k ≤ bs.length ∧ i = .int .i64 k ∧ n = .int .i64 S ∧ S = ((bs.take k).map sizeB).sum ∧ S ≤ k * 281474976702465 ∧ Below (w.heap.size + 1) (w.alloc (.cells #[pv, av, cv, .slice A bs.length c, mv] 64)) wr) (fun _ i _ => bs.length - (intOf i).toNat)
  case atStart => exact ⟨0, 0, Nat.zero_le _, rfl, rfl, rfl, Nat.le_refl _, Below.refl _ _⟩
  case round =>
    obtain ⟨k, S, hk, rfl, rfl, hS, hSb, hBe⟩ := hrel
    obtain ⟨hx1, hz1⟩ := one_cells hBe
    have hks := hideI (keeps_one hBe hB)
    have HBe := hideI hBe
    have HS := hideI hS
    clear hBe hS
    by_cases hlt : k < bs.length
    · obtain ⟨q, hq⟩ : ∃ q, bs[k]? = some q := ⟨_, List.getElem?_eq_getElem hlt⟩
      obtain ⟨b, off, pv, cv, tv, rfl, hb, e0, e1, e2, e3, e4, e5, hpv, hcv, htv, _⟩ := HX.out k q hq
      have c0 := (hks.out b (off + k * 6) hb).trans e0
      have c1 := (hks.out b (off + k * 6 + 1) hb).trans e1
      have c2 := (hks.out b (off + k * 6 + 2) hb).trans e2
      have c3 := (hks.out b (off + k * 6 + 3) hb).trans e3
      have c4 := (hks.out b (off + k * 6 + 4) hb).trans e4
      have c5 := (hks.out b (off + k * 6 + 5) hb).trans e5
      obtain ⟨PA, pc, hpe, hpm, _⟩ := hpv
      obtain ⟨CA, cc, hce, hcm, _⟩ := hcv
      obtain ⟨TA, tc, hte, htm, _⟩ := htv
      subst hpe hce hte
      have HQ := hideI hq
      clear e0 e1 e2 e3 e4 e5 hq
      go_wp2
      go_roundw
      case rel => exact ⟨k + 1, S + (q.phis.length + q.code.length + 1), by omega, by go_num, by go_num, by rw [size_take _ _ _ HQ.out, ← HS.out], by omega, HBe.out.alloc (by omega) _⟩
      case measure => simp [intOf]; omega
    · go_wp2
      go_ret
      refine ⟨?_, below_one HBe.out⟩
      rw [HS.out, List.take_of_length_le (by omega)]
      rfl

set_option maxHeartbeats 1000000 in
theorem limits_any (f : FuncM) (B : Nat) (P : Option Addr) (pc : Nat) (bv mv : Value) (w : World) (hbv : BlocksR w B bv f.blocks) (hB : B ≤ w.heap.size) :
    Calls Try.prog 55 #[.agg #[.slice P f.params.length pc, .int .i64 f.arrays, .int .i64 f.cells, bv, mv]] w (Says (limitsB f) w) := by
  have HB := hideI hbv
  obtain ⟨A, c, rfl, hbm, hbx⟩ := hbv
  clear hbx
  have W1 := hideI ((HB.out.keeps ((Keeps.refl w).alloc hB (.cells #[.slice P f.params.length pc, .int .i64 f.arrays, .int .i64 f.cells, .slice A f.blocks.length c, mv] 64))))
  unfold limitsB
  by_cases c1 : f.params.length ≤ 16
  · cases c2 : withinB f.arrays 0 8
    · go_enter Try.func55, Try.ntmps55
      go_wp2_with (go_at_call 60; refine (within_any _ _ _ _).mono ?_; rintro e w' ⟨rfl, rfl⟩)
      go_ret
      exact says_new (by simp)
    cases c3 : withinB f.cells 0 64
    · go_enter Try.func55, Try.ntmps55
      go_wp2_with (go_at_call 60; refine (within_any _ _ _ _).mono ?_; rintro e w' ⟨rfl, rfl⟩)
      go_ret
      exact says_new (by simp)
    cases c4 : withinB f.blocks.length 1 512
    · go_enter Try.func55, Try.ntmps55
      go_wp2_with (go_at_call 60; refine (within_any _ _ _ _).mono ?_; rintro e w' ⟨rfl, rfl⟩)
      go_ret
      exact says_new (by simp)
    have hb5 : f.blocks.length ≤ 512 := by have := within_bd c4; omega
    have HL := hideI (lookSize_any f.blocks B (.slice P f.params.length pc) (.int .i64 f.arrays) (.int .i64 f.cells) (.slice A f.blocks.length c) mv _ W1.out (by simp; omega) hb5)
    go_enter Try.func55, Try.ntmps55
    go_wp2_with (first
      | (go_at_call 60; refine (within_any _ _ _ _).mono ?_; rintro e w' ⟨rfl, rfl⟩)
      | (go_at_call 38; refine HL.out.mono ?_; rintro e w1 ⟨rfl, hb1⟩; have HB1 := hideI hb1; clear hb1))
    go_ret
    refine ⟨?_, ((Below.refl _ _).alloc (Nat.le_refl _) _).trans (HB1.out.mono (by simp))⟩
    have h : decide ((((f.blocks.map sizeB).sum : Nat) : Int) ≤ 4096) = decide (sizeM f ≤ 4096) := by
      unfold sizeM
      rw [decide_eq_decide]
      omega
    simp only [Array.getD_eq_getD_getElem?]
    simp [c1, h]
  · go_enter Try.func55, Try.ntmps55
    go_wp2_with (go_at_call 60; refine (within_any _ _ _ _).mono ?_; rintro e w' ⟨rfl, rfl⟩)
    go_ret
    exact says_new (by simp)

end Go.Proofs.Ytncmnbchkabgaaa
