/- fresh.list: a list of its own memory, at each type. -/
import Derived.Test.YtclbhbnidodmdaaTags
import Derived.Test.YtclbhbnidodmdaaRefArgs
namespace Go.Proofs.Ytclbhbnidodmdaa
open Go.RowKit

theorem phi_info : (Try.prog.info? 92).map (fun i => (i.zero, i.size, i.bytes)) = some (some (.agg #[.int .i64 0, .int .i64 0, .slice none 0 0, .slice none 0 0]), 4, 64) := by kernel_rfl
theorem instr_info : (Try.prog.info? 86).map (fun i => (i.zero, i.size, i.bytes)) = some (some (.agg #[.int .i64 0, .int .i64 0, .slice none 0 0, .int .i64 0]), 4, 48) := by kernel_rfl
theorem block_info : (Try.prog.info? 54).map (fun i => (i.zero, i.size, i.bytes)) = some (some (.agg #[.slice none 0 0, .slice none 0 0, .int .i64 0, .int .i64 0, .slice none 0 0, .int .i64 0]), 6, 96) := by kernel_rfl

def ListPost (e0 : TypeId) (s : Nat) (d : RowD) (w : World) (e : Ending) (w' : World) : Prop :=
  ∃ v', e = .returned v' ∧ w'.ownsRow w.heap.size e0 s v' d.len d.cells ∧ Below w.heap.size w w'

set_option maxRecDepth 100000 in
set_option maxHeartbeats 1000000 in
theorem listInt_any (d : RowD) (B : Nat) (v : Value) (w : World) (hx : RowR w B v d) (hl : d.cells.length = d.len * 1) (hn : d.len ≤ 100000) (h1 : ∀ u ∈ d.cells, u.oneCell' = true) :
    Calls Try.prog 75 #[v] w (ListPost 3 1 d w) := by
  obtain ⟨A, c, rfl, hm, hcell⟩ := hx
  have HC := hideI hcell
  have HL := hideI hl
  have H1 := hideI h1
  obtain ⟨n, hN⟩ : ∃ n, n = d.len := ⟨_, rfl⟩
  have HN := hideI hN
  rw [← hN] at hn hl ⊢
  obtain ⟨i0, hix, hz0, hz1, hz2⟩ := info_parts int_info
  clear hcell h1
  rcases Nat.eq_zero_or_pos n with rfl | hpos
  · have hnil : d.cells = [] := List.eq_nil_of_length_eq_zero (by omega)
    have HNIL := hideI hnil
    have hpure : Sem.run Try.prog (pure (#[] : Array Value)) w = .ok #[] w := rfl
    clear hl hN hnil
    cases A
    all_goals
      go_enter Try.func75, Try.ntmps75
      go_wp2
      go_ret
      exact ⟨.slice none 0 0, rfl, by rw [HNIL.out, ← HN.out]; exact World.ownsRow_nil _ _ _ _, Below.refl _ _⟩
  · obtain ⟨u, hu⟩ : ∃ u, d.cells[0]? = some u := ⟨_, List.getElem?_eq_getElem (by omega)⟩
    obtain ⟨b, off, rfl, hb, _⟩ := HC.out 0 u hu
    have HR : Hid (∀ j u, d.cells[j]? = some u → w.cell? ((⟨b, off, none⟩ : Addr).add j) = some u) := fun j u hu => by
      obtain ⟨b', off', e, _, h⟩ := HC.out j u hu
      cases e
      rw [Go.WideShapes.add_plain]
      exact h
    have HLN : Hid (d.cells.length = n * 1) := hl
    clear hu hl hN
    go_enter Try.func75, Try.ntmps75
    go_wp2_with (at_builtin; go_must (refine wpList_append_own _ rfl _ _ _ rfl w.heap.size 3 i0 _ 1 8 Try.underlying22 hix hz0 hz1 hz2 rfl (by decide) _ 0 [] rfl (World.ownsRow_nil _ _ _ _) ⟨b, off, none⟩ n c d.cells rfl HLN.out HR.out H1.out (by unfold maxLen; omega) (by omega) (Nat.le_refl _) ?_); intro v1 w1 hown1 hg1 _; have HO1 := hideI hown1; have HG1 := hideI hg1; clear hown1 hg1)
    go_ret
    refine ⟨v1, rfl, ?_, ⟨HG1.out.os, HG1.out.tape, HG1.out.output, HG1.out.size, fun k hk => HG1.out.block k hk (fun e => by simp [Value.ownBlock, Act.eval] at e)⟩⟩
    have := HO1.out
    rw [Nat.zero_add, List.nil_append] at this
    rw [← HN.out]
    exact this

set_option maxRecDepth 100000 in
set_option maxHeartbeats 1000000 in
theorem listPhi_any (d : RowD) (B : Nat) (v : Value) (w : World) (hx : RowR w B v d) (hl : d.cells.length = d.len * 4) (hn : d.len ≤ 100000) (h1 : ∀ u ∈ d.cells, u.oneCell' = true) :
    Calls Try.prog 89 #[v] w (ListPost 92 4 d w) := by
  obtain ⟨A, c, rfl, hm, hcell⟩ := hx
  have HC := hideI hcell
  have HL := hideI hl
  have H1 := hideI h1
  obtain ⟨n, hN⟩ : ∃ n, n = d.len := ⟨_, rfl⟩
  have HN := hideI hN
  rw [← hN] at hn hl ⊢
  obtain ⟨i0, hix, hz0, hz1, hz2⟩ := info_parts phi_info
  clear hcell h1
  rcases Nat.eq_zero_or_pos n with rfl | hpos
  · have hnil : d.cells = [] := List.eq_nil_of_length_eq_zero (by omega)
    have HNIL := hideI hnil
    have hpure : Sem.run Try.prog (pure (#[] : Array Value)) w = .ok #[] w := rfl
    clear hl hN hnil
    cases A
    all_goals
      go_enter Try.func89, Try.ntmps89
      go_wp2
      go_ret
      exact ⟨.slice none 0 0, rfl, by rw [HNIL.out, ← HN.out]; exact World.ownsRow_nil _ _ _ _, Below.refl _ _⟩
  · obtain ⟨u, hu⟩ : ∃ u, d.cells[0]? = some u := ⟨_, List.getElem?_eq_getElem (by omega)⟩
    obtain ⟨b, off, rfl, hb, _⟩ := HC.out 0 u hu
    have HR : Hid (∀ j u, d.cells[j]? = some u → w.cell? ((⟨b, off, none⟩ : Addr).add j) = some u) := fun j u hu => by
      obtain ⟨b', off', e, _, h⟩ := HC.out j u hu
      cases e
      rw [Go.WideShapes.add_plain]
      exact h
    have HLN : Hid (d.cells.length = n * 4) := hl
    clear hu hl hN
    go_enter Try.func89, Try.ntmps89
    go_wp2_with (at_builtin; go_must (refine wpList_append_own _ rfl _ _ _ rfl w.heap.size 92 i0 _ 4 64 Try.underlying51 hix hz0 hz1 hz2 rfl (by decide) _ 0 [] rfl (World.ownsRow_nil _ _ _ _) ⟨b, off, none⟩ n c d.cells rfl HLN.out HR.out H1.out (by unfold maxLen; omega) (by omega) (Nat.le_refl _) ?_); intro v1 w1 hown1 hg1 _; have HO1 := hideI hown1; have HG1 := hideI hg1; clear hown1 hg1)
    go_ret
    refine ⟨v1, rfl, ?_, ⟨HG1.out.os, HG1.out.tape, HG1.out.output, HG1.out.size, fun k hk => HG1.out.block k hk (fun e => by simp [Value.ownBlock, Act.eval] at e)⟩⟩
    have := HO1.out
    rw [Nat.zero_add, List.nil_append] at this
    rw [← HN.out]
    exact this

set_option maxRecDepth 100000 in
set_option maxHeartbeats 1000000 in
theorem listInstr_any (d : RowD) (B : Nat) (v : Value) (w : World) (hx : RowR w B v d) (hl : d.cells.length = d.len * 4) (hn : d.len ≤ 100000) (h1 : ∀ u ∈ d.cells, u.oneCell' = true) :
    Calls Try.prog 90 #[v] w (ListPost 86 4 d w) := by
  obtain ⟨A, c, rfl, hm, hcell⟩ := hx
  have HC := hideI hcell
  have HL := hideI hl
  have H1 := hideI h1
  obtain ⟨n, hN⟩ : ∃ n, n = d.len := ⟨_, rfl⟩
  have HN := hideI hN
  rw [← hN] at hn hl ⊢
  obtain ⟨i0, hix, hz0, hz1, hz2⟩ := info_parts instr_info
  clear hcell h1
  rcases Nat.eq_zero_or_pos n with rfl | hpos
  · have hnil : d.cells = [] := List.eq_nil_of_length_eq_zero (by omega)
    have HNIL := hideI hnil
    have hpure : Sem.run Try.prog (pure (#[] : Array Value)) w = .ok #[] w := rfl
    clear hl hN hnil
    cases A
    all_goals
      go_enter Try.func90, Try.ntmps90
      go_wp2
      go_ret
      exact ⟨.slice none 0 0, rfl, by rw [HNIL.out, ← HN.out]; exact World.ownsRow_nil _ _ _ _, Below.refl _ _⟩
  · obtain ⟨u, hu⟩ : ∃ u, d.cells[0]? = some u := ⟨_, List.getElem?_eq_getElem (by omega)⟩
    obtain ⟨b, off, rfl, hb, _⟩ := HC.out 0 u hu
    have HR : Hid (∀ j u, d.cells[j]? = some u → w.cell? ((⟨b, off, none⟩ : Addr).add j) = some u) := fun j u hu => by
      obtain ⟨b', off', e, _, h⟩ := HC.out j u hu
      cases e
      rw [Go.WideShapes.add_plain]
      exact h
    have HLN : Hid (d.cells.length = n * 4) := hl
    clear hu hl hN
    go_enter Try.func90, Try.ntmps90
    go_wp2_with (at_builtin; go_must (refine wpList_append_own _ rfl _ _ _ rfl w.heap.size 86 i0 _ 4 48 Try.underlying52 hix hz0 hz1 hz2 rfl (by decide) _ 0 [] rfl (World.ownsRow_nil _ _ _ _) ⟨b, off, none⟩ n c d.cells rfl HLN.out HR.out H1.out (by unfold maxLen; omega) (by omega) (Nat.le_refl _) ?_); intro v1 w1 hown1 hg1 _; have HO1 := hideI hown1; have HG1 := hideI hg1; clear hown1 hg1)
    go_ret
    refine ⟨v1, rfl, ?_, ⟨HG1.out.os, HG1.out.tape, HG1.out.output, HG1.out.size, fun k hk => HG1.out.block k hk (fun e => by simp [Value.ownBlock, Act.eval] at e)⟩⟩
    have := HO1.out
    rw [Nat.zero_add, List.nil_append] at this
    rw [← HN.out]
    exact this

set_option maxRecDepth 100000 in
set_option maxHeartbeats 1000000 in
theorem listBlock_any (d : RowD) (B : Nat) (v : Value) (w : World) (hx : RowR w B v d) (hl : d.cells.length = d.len * 6) (hn : d.len ≤ 100000) (h1 : ∀ u ∈ d.cells, u.oneCell' = true) :
    Calls Try.prog 76 #[v] w (ListPost 54 6 d w) := by
  obtain ⟨A, c, rfl, hm, hcell⟩ := hx
  have HC := hideI hcell
  have HL := hideI hl
  have H1 := hideI h1
  obtain ⟨n, hN⟩ : ∃ n, n = d.len := ⟨_, rfl⟩
  have HN := hideI hN
  rw [← hN] at hn hl ⊢
  obtain ⟨i0, hix, hz0, hz1, hz2⟩ := info_parts block_info
  clear hcell h1
  rcases Nat.eq_zero_or_pos n with rfl | hpos
  · have hnil : d.cells = [] := List.eq_nil_of_length_eq_zero (by omega)
    have HNIL := hideI hnil
    have hpure : Sem.run Try.prog (pure (#[] : Array Value)) w = .ok #[] w := rfl
    clear hl hN hnil
    cases A
    all_goals
      go_enter Try.func76, Try.ntmps76
      go_wp2
      go_ret
      exact ⟨.slice none 0 0, rfl, by rw [HNIL.out, ← HN.out]; exact World.ownsRow_nil _ _ _ _, Below.refl _ _⟩
  · obtain ⟨u, hu⟩ : ∃ u, d.cells[0]? = some u := ⟨_, List.getElem?_eq_getElem (by omega)⟩
    obtain ⟨b, off, rfl, hb, _⟩ := HC.out 0 u hu
    have HR : Hid (∀ j u, d.cells[j]? = some u → w.cell? ((⟨b, off, none⟩ : Addr).add j) = some u) := fun j u hu => by
      obtain ⟨b', off', e, _, h⟩ := HC.out j u hu
      cases e
      rw [Go.WideShapes.add_plain]
      exact h
    have HLN : Hid (d.cells.length = n * 6) := hl
    clear hu hl hN
    go_enter Try.func76, Try.ntmps76
    go_wp2_with (at_builtin; go_must (refine wpList_append_own _ rfl _ _ _ rfl w.heap.size 54 i0 _ 6 96 Try.underlying23 hix hz0 hz1 hz2 rfl (by decide) _ 0 [] rfl (World.ownsRow_nil _ _ _ _) ⟨b, off, none⟩ n c d.cells rfl HLN.out HR.out H1.out (by unfold maxLen; omega) (by omega) (Nat.le_refl _) ?_); intro v1 w1 hown1 hg1 _; have HO1 := hideI hown1; have HG1 := hideI hg1; clear hown1 hg1)
    go_ret
    refine ⟨v1, rfl, ?_, ⟨HG1.out.os, HG1.out.tape, HG1.out.output, HG1.out.size, fun k hk => HG1.out.block k hk (fun e => by simp [Value.ownBlock, Act.eval] at e)⟩⟩
    have := HO1.out
    rw [Nat.zero_add, List.nil_append] at this
    rw [← HN.out]
    exact this

end Go.Proofs.Ytclbhbnidodmdaa
