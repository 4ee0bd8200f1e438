/- The closure that visits blocks in depth. -/
import Derived.Test.YtclbhbnidodmdaaWays
import Derived.Test.YtclbhbnidodmdaaReads
import Derived.Test.YtclbhbnidodmdaaRefArgs
import Derived.OwnWalk
import Derived.OneCell
import Derived.Outline
import Derived.Laws.OwnMore
import Derived.Deep.AppendLies
namespace Go.Proofs.Ytclbhbnidodmdaa
open Go.RowKit Go.Maps

theorem PhisR.more' {w : World} {B B' : Nat} {v : Value} {ps : List PhiM} (h : PhisR w B v ps) (hB : B ≤ B') : PhisR w B' v ps := by
  obtain ⟨A, c, rfl, hm, h⟩ := h
  refine ⟨A, c, rfl, hm, fun k p hp => ?_⟩
  obtain ⟨b, off, fv, vv, rfl, hb, h0, h1, h2, h3, hf, hv, r⟩ := h k p hp
  exact ⟨b, off, fv, vv, rfl, by omega, h0, h1, h2, h3, hf.more hB, hv.more hB, r⟩

theorem CodeR.more' {w : World} {B B' : Nat} {v : Value} {xs : List InstrM} (h : CodeR w B v xs) (hB : B ≤ B') : CodeR w B' v xs := by
  obtain ⟨A, c, rfl, hm, h⟩ := h
  refine ⟨A, c, rfl, hm, fun k p hp => ?_⟩
  obtain ⟨b, off, av, rfl, hb, h0, h1, h2, h3, hf, r⟩ := h k p hp
  exact ⟨b, off, av, rfl, by omega, h0, h1, h2, h3, hf.more hB, r⟩

theorem BlocksR.more' {w : World} {B B' : Nat} {v : Value} {bs : List BlockM} (h : BlocksR w B v bs) (hB : B ≤ B') : BlocksR w B' v bs := by
  obtain ⟨A, c, rfl, hm, h⟩ := h
  refine ⟨A, c, rfl, hm, fun k q hq => ?_⟩
  obtain ⟨b, off, pv, cv, tv, rfl, hb, h0, h1, h2, h3, h4, h5, hp, hc, ht, r⟩ := h k q hq
  exact ⟨b, off, pv, cv, tv, rfl, by omega, h0, h1, h2, h3, h4, h5, hp.more' hB, hc.more' hB, ht.more hB, r⟩

/-- a bool for each block: was it begun? -/
def marks (n : Nat) (bg : List Nat) : List Value := (List.range n).map fun i => .bool (decide (i ∈ bg))
def natInts (l : List Nat) : List Value := l.map fun (x : Nat) => Value.int .i64 (x : Int)

theorem marks_at {n b : Nat} {bg : List Nat} (h : b < n) : (marks n bg)[b]? = some (.bool (decide (b ∈ bg))) := by
  unfold marks
  rw [List.getElem?_map, List.getElem?_eq_getElem (by simpa using h)]
  simp

theorem marks_set {n b : Nat} {bg : List Nat} : (marks n bg).set b (.bool true) = marks n (b :: bg) := by
  unfold marks
  apply List.ext_getElem?
  intro i
  by_cases hi : i < n
  · by_cases e : b = i
    · subst e
      rw [List.getElem?_set_self (by simpa using hi), List.getElem?_eq_getElem (by simpa using hi)]
      simp
    · rw [List.getElem?_set_ne e, List.getElem?_map, List.getElem?_map, List.getElem?_range hi]
      have e' : ¬ i = b := fun h => e h.symm
      simp [e']
  · rw [List.getElem?_eq_none (by simp; omega), List.getElem?_eq_none (by simp; omega)]

/-- what lies in memory between two visits -/
structure Dfs (N R n : Nat) (gr : Array Value) (bg dn : List Nat) (w : World) : Prop where
  hR : N + 1 < R
  gb : w.heap[N]? = some (.cells gr 81 (0, 0))
  row : w.ownsRow (N + 1) 4 1 (.slice (some ⟨N + 1, 0, none⟩) n n) n (marks n bg)
  bb : w.heap[R]? = some (.cells #[.slice (some ⟨N + 1, 0, none⟩) n n] 31 (0, 0))
  done : ∃ v, w.heap[R + 1]? = some (.cells #[v] 22 (0, 0)) ∧ w.ownsRow (R + 3) 3 1 v dn.length (natInts dn)
  vb : w.heap[R + 2]? = some (.cells #[.func (.func 73) #[] #[.pointer (some ⟨R, 0, none⟩), .pointer (some ⟨N, 0, none⟩), .pointer (some ⟨R + 2, 0, none⟩), .pointer (some ⟨R + 1, 0, none⟩)]] 119 (0, 0))

theorem Dfs.size {N R n : Nat} {gr : Array Value} {bg dn : List Nat} {w : World} (h : Dfs N R n gr bg dn w) : R + 2 < w.heap.size := lt_of_block h.vb

theorem Dfs.mark {N R n b : Nat} {gr : Array Value} {bg dn : List Nat} {w : World} (h : Dfs N R n gr bg dn w) : Dfs N R n gr (b :: bg) dn (w.setCell ⟨N + 1, b, none⟩ (.bool true)) := by
  have hs := h.row.stored b (.bool true)
  have ho : ∀ k, k ≠ N + 1 → (w.setCell ⟨N + 1, b, none⟩ (.bool true)).heap[k]? = w.heap[k]? := fun k hk => heap_setCell_other w ⟨N + 1, b, none⟩ k _ hk
  obtain ⟨v, hv, hown⟩ := h.done
  have hR := h.hR
  refine ⟨hR, (ho _ (by omega)).trans h.gb, ?_, (ho _ (by omega)).trans h.bb, ⟨v, (ho _ (by omega)).trans hv, ?_⟩, (ho _ (by omega)).trans h.vb⟩
  · have := hs.1
    rwa [marks_set] at this
  · refine hown.kept hs.2 ?_
    cases e : v.ownBlock with
    | none => exact .inl rfl
    | some k =>
      have := (hown.lt k e).1
      exact .inr (by simp; omega)

theorem Dfs.push {N R n b : Nat} {gr : Array Value} {bg dn : List Nat} {w w3 : World} {o : Obj} {v v' : Value} (h : Dfs N R n gr bg dn w) (hd : w.ownsRow (R + 3) 3 1 v dn.length (natInts dn))
    (hown' : w3.ownsRow (R + 3) 3 1 v' (dn.length + 1) (natInts dn ++ [.int .i64 (b : Int)])) (hg : (w.alloc o).grownBy w3 v.ownBlock) (hd3 : w3.heap[R + 1]? = some (.cells #[v] 22 (0, 0))) :
    Dfs N R n gr bg (dn ++ [b]) (w3.setCell ⟨R + 1, 0, none⟩ v') ∧ Below N w (w3.setCell ⟨R + 1, 0, none⟩ v') := by
  have hsz := h.size
  have hne : ∀ k, k < R + 3 → some k ≠ v.ownBlock := fun k hk e => by have := (hd.lt k e.symm).1; omega
  have hk : ∀ k, k < R + 3 → w3.heap[k]? = w.heap[k]? := fun k hk => by
    rw [hg.block k (by simp; omega) (hne k hk), Below.heap_alloc _ _ _ (by omega)]
  have ho : ∀ k, k < R + 3 → k ≠ R + 1 → (w3.setCell ⟨R + 1, 0, none⟩ v').heap[k]? = w.heap[k]? := fun k h1 h2 =>
    (heap_setCell_other w3 ⟨R + 1, 0, none⟩ k _ h2).trans (hk k h1)
  have hR := h.hR
  refine ⟨⟨hR, (ho _ (by omega) (by omega)).trans h.gb, ?_, (ho _ (by omega) (by omega)).trans h.bb, ⟨v', by simpa using one_setCell hd3, ?_⟩, (ho _ (by omega) (by omega)).trans h.vb⟩, ?_⟩
  · have h1 := (h.row.alloc o).kept hg (.inr (hne (N + 1) (by omega)))
    exact ownsRow_setCell_other h1 (by simp [Value.ownBlock]; omega) _
  · have h1 := ownsRow_setCell_other hown' (a := ⟨R + 1, 0, none⟩) (by
      intro e
      have := (hown'.lt _ e).1
      simp at this) v'
    simpa [natInts] using h1
  · refine (Below.grown ((Below.refl _ _).alloc (by omega) _) hg (by simp; omega) (fun j hj => ?_)).setCell (by simp; omega) _
    have := (hd.lt j hj).1
    omega

theorem done_block {R k : Nat} {w w1 : World} {o : Obj} {v : Value} {xs : List Value} (hd : w.heap[R + 1]? = some (.cells #[v] 22 (0, 0))) (ho : w.ownsRow (R + 3) 3 1 v k xs) (hg : (w.alloc o).grownBy w1 v.ownBlock) :
    w1.heap[R + 1]? = some (.cells #[v] 22 (0, 0)) := by
  have hl := lt_of_block hd
  rw [hg.block (R + 1) (by simp; omega) (fun e => by have := (ho.lt _ e.symm).1; omega), Below.heap_alloc _ _ _ hl]
  exact hd

theorem visit_range {succ : Nat → List Nat} {n : Nat} (hs : ∀ b, ∀ y ∈ succ b, y < n) {l : List Nat} {s s' : List Nat × List Nat} (h : Visit succ l s s') : (∀ x ∈ l, x < n) → (∀ x ∈ s.1, x < n) → ∀ x ∈ s'.1, x < n := by
  induction h with
  | nil => exact fun _ h => h
  | skip _ _ ih => exact fun hl h => ih (fun x hx => hl x (List.mem_cons_of_mem _ hx)) h
  | @go t r bg dn bg1 dn1 s h _ _ ih1 ih2 =>
    intro hl hb
    refine ih2 (fun x hx => hl x (List.mem_cons_of_mem _ hx)) (ih1 (hs t) fun x hx => ?_)
    rcases List.mem_cons.1 hx with rfl | hx
    · exact hl _ (List.mem_cons_self ..)
    · exact hb x hx

/-- all ends go to blocks that are there -/
def EndsIn (bs : List BlockM) : Prop := ∀ q ∈ bs, ∀ t ∈ q.term.to, 0 ≤ t ∧ t < bs.length

theorem EndsIn.succ {bs : List BlockM} (h : EndsIn bs) : ∀ b, ∀ y ∈ succM bs b, y < bs.length := by
  intro b y hy
  unfold succM at hy
  split at hy
  · rename_i q hq
    obtain ⟨t, ht, rfl⟩ := List.mem_map.1 hy
    have := h q (List.mem_of_getElem? hq) t ht
    omega
  · cases hy

def VisitPost (bs : List BlockM) (N R n : Nat) (gr : Array Value) (bg dn : List Nat) (b : Nat) (w : World) (e : Ending) (w' : World) : Prop :=
  ∃ bg' dn', e = .returned (.tuple #[]) ∧ Visit (succM bs) (succM bs b) (b :: bg, dn) (bg', dn') ∧ Dfs N R n gr bg' (dn' ++ [b]) w' ∧ Below N w w'

set_option maxRecDepth 100000 in
set_option maxHeartbeats 2000000 in
theorem visit_any (bs : List BlockM) (N R : Nat) (pv av cv bv : Value) (hn5 : bs.length ≤ 512) (hin : EndsIn bs) :
    ∀ (k : Nat) (bg dn : List Nat) (b : Nat) (w : World), bs.length ≤ bg.length + k → bg.Nodup → (∀ x ∈ bg, x < bs.length) → dn.length ≤ bg.length → b < bs.length → b ∉ bg → BlocksR w N bv bs → Dfs N R bs.length #[pv, av, cv, bv] bg dn w →
    Calls Try.prog 73 #[.int .i64 b, .pointer (some ⟨R, 0, none⟩), .pointer (some ⟨N, 0, none⟩), .pointer (some ⟨R + 2, 0, none⟩), .pointer (some ⟨R + 1, 0, none⟩)] w (VisitPost bs N R bs.length #[pv, av, cv, bv] bg dn b w) := by
  intro k
  induction k with
  | zero =>
    intro bg dn b w hk hnd hlt _ hb hf
    have := fresh_len hnd hlt hb hf
    omega
  | succ k ih =>
    intro bg dn b w hk hnd hlt hdl hb hf hbl hD
    have HIH := hideI ih
    have HIN := hideI hin
    have HND := hideI hnd
    have HLT := hideI hlt
    have HF := hideI hf
    have HBL := hideI hbl
    have HD := hideI hD
    obtain ⟨q, hq⟩ : ∃ q, bs[b]? = some q := ⟨_, List.getElem?_eq_getElem hb⟩
    obtain ⟨A, c, rfl, hbm, hbx⟩ := hbl
    obtain ⟨ab, off, pq, cq, tv, rfl, hab, x0, x1, x2, x3, x4, x5, _, _, htv, _⟩ := hbx b q hq
    have HTV := hideI htv
    have HQ := hideI hq
    have HSU : Hid (succM bs b = q.term.to.map Int.toNat) := by show _ = _; unfold succM; rw [hq]
    have hgb := row_cells hD.gb rfl
    have g3 := hgb 3
    have hbb := cell_of_one hD.bb
    have hmk : w.cell? ⟨N + 1, b, none⟩ = some (.bool false) := by
      rw [World.ownsRow.cellAt hD.row b (by omega), marks_at hb]
      simp [hf]
    have hmf : w.frozen? ⟨N + 1, b, none⟩ = false := World.ownsRow.frozenAt hD.row b
    have hne1 : ab ≠ N + 1 := by omega
    obtain ⟨TA, tc, rfl, htm, _⟩ := htv
    obtain ⟨m, hm⟩ : ∃ m, m = q.term.to.length := ⟨_, rfl⟩
    have HW1 := hideI (hD.mark (b := b))
    have HM := hideI hm
    rw [← hm] at x4 htm
    clear ih hin hnd hlt hf hD hbx hq hgb x0 x1 x2 x3 x5 hm
    go_enter Try.func73, Try.ntmps73
    go_wp2
    obtain ⟨wm, hwm⟩ : ∃ wm : World, wm = w.setCell ⟨N + 1, b, none⟩ (.bool true) := ⟨_, rfl⟩
    have HBM : Hid (Below N w wm) := by rw [hwm]; exact (Below.refl N w).setCell (by simp) _
    rw [← hwm] at HW1 ⊢
    clear hwm g3 hbb hmk hmf x4
    go_loopw [20] (fun u wr => ∃ (i : Nat) (bgi dni : List Nat), i ≤ m ∧ u = .int .i64 i ∧ Hid (Visit (succM bs) ((q.term.to.map Int.toNat).take i) (b :: bg, dn) (bgi, dni)) ∧ Hid (Dfs N R bs.length #[pv, av, cv, .slice (some ⟨ab, off, none⟩) bs.length c] bgi dni wr) ∧ Hid (Below N w wr)) (fun u _ => m - (intOf u).toNat)
    case atStart => exact ⟨0, b :: bg, dn, Nat.zero_le _, rfl, by exact hideI (.nil _), HW1, HBM⟩
    case round =>
      obtain ⟨i, bgi, dni, hi, rfl, HV, HDr, HBr⟩ := hrel
      obtain ⟨new, hdid⟩ := HV.out.did
      have hndi : bgi.Nodup := hdid.keepsNodup (List.nodup_cons.2 ⟨HF.out, HND.out⟩)
      have hleni : bgi.length = bg.length + 1 + new.length := hdid.len
      have hdni : dni.length = dn.length + new.length := by have := hdid.done; simp only at this; rw [this, List.length_append]
      have hlti : ∀ x ∈ bgi, x < bs.length := visit_range HIN.out.succ HV.out (fun x hx => HIN.out.succ b x (by rw [HSU.out]; exact List.mem_of_mem_take hx)) (fun x hx => by
        rcases List.mem_cons.1 hx with rfl | hx
        · exact hb
        · exact HLT.out x hx)
      have hlb : bg.length + 1 ≤ bgi.length := by omega
      have hdb0 : dni.length ≤ bgi.length := by omega
      have HNDI := hideI hndi
      have HLTI := hideI hlti
      have hbgl := below_len _ _ hndi hlti
      have hbb := cell_of_one HDr.out.bb
      clear hdid hndi hlti hleni hdni
      by_cases hlt : i < m
      · obtain ⟨t, ht⟩ : ∃ t, q.term.to[i]? = some t := ⟨_, List.getElem?_eq_getElem (by rw [HM.out] at hlt; exact hlt)⟩
        have htn := HIN.out q (List.mem_of_getElem? HQ.out) t (List.mem_of_getElem? ht)
        obtain ⟨tn, rfl⟩ : ∃ tn : Nat, t = (tn : Int) := ⟨t.toNat, by omega⟩
        have htl : tn < bs.length := by omega
        have htk : Hid ((q.term.to.map Int.toNat).take (i + 1) = (q.term.to.map Int.toNat).take i ++ [tn]) := by
          show _ = _
          rw [List.take_add_one, List.getElem?_map, ht]
          rfl
        obtain ⟨TA', tc', e0, _, hxx⟩ := HTV.out.keep HBr.out
        cases e0
        obtain ⟨tb, toff, rfl, htb, hcell⟩ := hxx i (by rw [← HM.out]; exact hlt)
        rw [ht] at hcell
        simp only [Option.getD_some] at hcell
        have hmk : wr.cell? ⟨N + 1, tn, none⟩ = some (.bool (decide (tn ∈ bgi))) := by rw [World.ownsRow.cellAt HDr.out.row tn (by omega), marks_at htl]
        clear hxx ht htn
        by_cases hin2 : tn ∈ bgi
        · have HIN2 := hideI hin2
          rw [show decide (tn ∈ bgi) = true from by simpa using hin2] at hmk
          clear hin2
          go_wp2
          go_roundw
          case rel => exact ⟨i + 1, bgi, dni, by omega, by go_num, by rw [htk.out]; exact hideI (HV.out.append (.skip HIN2.out (.nil _))), HDr, HBr⟩
          case measure => simp [intOf]; omega
        · have HIN2 := hideI hin2
          rw [show decide (tn ∈ bgi) = false from by simpa using hin2] at hmk
          have hvb := cell_of_one HDr.out.vb
          have HC := hideI (HIH.out bgi dni tn wr (by omega) HNDI.out HLTI.out (by omega) htl HIN2.out (HBL.out.keeps (Keeps.of_below HBr.out)) HDr.out)
          clear hin2
          go_wp2_with (go_at_call 73; refine HC.out.mono ?_; rintro e w2 ⟨bg2, dn2, rfl, hv2, hd2, hb2⟩; have HV2 := hideI hv2; have HD2 := hideI hd2; have HB2 := hideI hb2; clear hv2 hd2 hb2)
          go_roundw
          case rel => exact ⟨i + 1, bg2, dn2 ++ [tn], by omega, by go_num, by rw [htk.out]; exact hideI (HV.out.append (.go HIN2.out HV2.out (.nil _))), HD2, hideI (HBr.out.trans HB2.out)⟩
          case measure => simp [intOf]; omega
      · obtain ⟨v, hdv, hown⟩ := HDr.out.done
        have hdb := cell_of_one hdv
        have HDV := hideI hdv
        have HOWN := hideI hown
        have hsz := HDr.out.size
        obtain ⟨i0, hix, hz0, hz1, hz2⟩ := info_parts int_info
        have hall : (q.term.to.map Int.toNat).take i = succM bs b := by rw [HSU.out, List.take_of_length_le (by rw [List.length_map, ← HM.out]; omega)]
        rw [hall] at HV
        clear hdv hall
        go_wp2_with (at_builtin; go_must (refine wpList_append_lies _ rfl _ _ _ rfl (R + 3) 3 i0 (.int .i64 0) 1 8 Try.underlying22 hix hz0 hz1 hz2 rfl (by decide) _ _ _ rfl (HOWN.out.alloc _) ⟨wr.heap.size, 0, none⟩ 1 1 [.int .i64 b] rfl rfl (one_new wr _) (by simp [Value.oneCell']) (by decide) (by simp only [maxLen]; omega) (by omega) (by simp; omega) _ rfl ?_); intro g1 cap1 w1 hown1 hgrow1 _ _; have HO1 := hideI hown1; have HG1 := hideI hgrow1; have HD1 := hideI (done_block HDV.out HOWN.out hgrow1); clear hown1 hgrow1; have hdb1 := free_of_one HD1.out; have hdc1 := cell_of_one HD1.out)

        go_end0
        have hp := HDr.out.push HOWN.out HO1.out HG1.out HD1.out
        exact ⟨bgi, dni, rfl, HV.out, hp.1, HBr.out.trans hp.2⟩

end Go.Proofs.Ytclbhbnidodmdaa
