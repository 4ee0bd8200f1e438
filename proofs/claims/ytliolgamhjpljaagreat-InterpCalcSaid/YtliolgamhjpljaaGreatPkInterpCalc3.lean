/- What InterpCalc rests on, part 3: Define, Ways, GVisit, Once, Phi, Instr, Term, Block, Size, Params. -/
import Derived.Test.YtliolgamhjpljaaGreatPkInterpCalc2
import Derived.OwnWalk
import Derived.OneCell
import Derived.Outline
import Derived.Laws.OwnMore
import Derived.Deep.AppendLies

namespace Go
theorem World.grownBy.trans_grown {a b c : World} {row : Option Nat} (h : a.grownBy b row) (k : b.grownBy c row) : a.grownBy c row :=
  ⟨k.os.trans h.os, k.tape.trans h.tape, k.output.trans h.output, Nat.le_trans h.size k.size, fun i hi hne => (k.block i (Nat.lt_of_lt_of_le hi h.size) hne).trans (h.block i hi hne)⟩
end Go

namespace Go.Proofs.YtliolgamhjpljaaGreat
open Go.RowKit Go.Maps

/-- a call that writes into block M alone (and new ones), answers whether there is something, and leaves it in the map -/
def Defines (o : Option Defs) (M : Nat) (w : World) (e : Ending) (w' : World) : Prop :=
  e = .returned (.bool o.isSome) ∧ w.grownBy w' (some M) ∧ ∀ ds, o = some ds → MapIs w' M ds

theorem MapIs.put {w' : World} {M : Nat} {ds : Defs} {D : DataW Unit} {id typ : Int} (h2 : w'.ownsMap Tryz.prog 3 (plainElem Tryz.prog 3) M (ds.length + 1) (D.put (.int .i64 id) (.lit (.int .i64 typ))))
    (hD : IsMap D) (hw : ∀ d ∈ ds, I64 d.1 ∧ I64 d.2) (hi : I64 id) (ht : I64 typ) (hn : ds.at id = none) (h : ∀ id z, D.atKey (.int .i64 id) z = match ds.at id with | some t => .lit (.int .i64 t) | none => z) : MapIs w' M (ds ++ [(id, typ)]) := by
  refine ⟨_, by simpa using h2, IsMap.put hD _ _, ?_, ?_⟩
  · intro d hd
    rw [List.mem_append] at hd
    rcases hd with hd | hd
    · exact hw d hd
    · simp at hd
      subst hd
      exact ⟨hi, ht⟩
  · intro k z
    rw [Defs.at_snoc]
    by_cases hk : k = id
    · subst hk
      rw [atKey_put_same hD (by trivial), hn]
      simp
    · rw [atKey_put_other (by simpa using hk), h]
      cases ds.at k <;> simp [hk]

theorem addDef_some {np : Nat} {ds : Defs} {id typ t : Int} (h : ds.at id = some t) : addDef np ds id typ = none := by
  unfold addDef defB
  rw [h]
  rfl

theorem addDef_out {np : Nat} {ds : Defs} {id typ : Int} (h : withinB id np 1048575 = false) : addDef np ds id typ = none := by
  unfold addDef defB
  rw [h]
  simp

theorem addDef_ok {np : Nat} {ds : Defs} {id typ : Int} (h : ds.at id = none) (hw : withinB id np 1048575 = true) : addDef np ds id typ = some (ds ++ [(id, typ)]) := by
  unfold addDef defB
  rw [h, hw]
  rfl

theorem defines_no {M : Nat} {w : World} {r : Option Defs} {o : Obj} (h : r = none) : Defines r M w (.returned (.bool false)) (w.alloc o) := by
  subst h
  exact ⟨rfl, World.grownBy_alloc _ _ _, by simp⟩

set_option maxHeartbeats 400000 in
theorem define_any (av cv bv : Value) (P : Option Addr) (np c M : Nat) (ds : Defs) (id typ : Int) (w : World) (hM : MapIs w M ds) (hn : ds.length < 100000) (hi : I64 id) (ht : I64 typ) :
    Calls Tryz.prog 148 #[.agg #[.slice P np c, av, cv, bv, .map (some M)], .int .i64 id, .int .i64 typ] w (Defines (addDef np ds id typ) M w) := by
  obtain ⟨D, hown, hD, hwd, hat⟩ := hM
  have hh := MapIs.has hat id
  have HAT := hideI hat
  have HWD := hideI hwd
  have HI := hideI hi
  have HT := hideI ht
  clear hat hwd
  cases hd : ds.at id with
  | some t =>
    have HD := hideI hd
    rw [hd] at hh
    clear hd
    go_enter Tryz.func148, Tryz.ntmps148
    go_wp2_with (first
      | (at_lookup; refine wpList_lookup_own_ok_int _ rfl _ _ 122 rfl 3 3 .i64 lawInt Tryz.underlying122 Tryz.underlying3 (zeroInt _) M ds.length D rfl (hown.alloc _) _ _ rfl (keyOf_int_mk Tryz.underlying3 HI.out) ?_; intro c1 hat1 hwc1)
      | (go_at_call 133; refine (within_any _ _ _ _).mono ?_; rintro e w' ⟨rfl, rfl⟩))
    go_ret
    exact defines_no (addDef_some HD.out)
  | none =>
    rw [hd] at hh
    have HD := hideI hd
    clear hd
    cases hw : withinB id np 1048575
    · go_enter Tryz.func148, Tryz.ntmps148
      go_wp2_with (first
        | (at_lookup; refine wpList_lookup_own_ok_int _ rfl _ _ 122 rfl 3 3 .i64 lawInt Tryz.underlying122 Tryz.underlying3 (zeroInt _) M ds.length D rfl (hown.alloc _) _ _ rfl (keyOf_int_mk Tryz.underlying3 HI.out) ?_; intro c1 hat1 hwc1)
        | (go_at_call 133; refine (within_any _ _ _ _).mono ?_; rintro e w' ⟨rfl, rfl⟩))
      go_ret
      exact defines_no (addDef_out hw)
    · go_enter Tryz.func148, Tryz.ntmps148
      go_wp2_with (first
        | (at_lookup; refine wpList_lookup_own_ok_int _ rfl _ _ 122 rfl 3 3 .i64 lawInt Tryz.underlying122 Tryz.underlying3 (zeroInt _) M ds.length D rfl (hown.alloc _) _ _ rfl (keyOf_int_mk Tryz.underlying3 HI.out) ?_; intro c1 hat1 hwc1)
        | (go_at_call 133; refine (within_any _ _ _ _).mono ?_; rintro e w' ⟨rfl, rfl⟩)
        | (at_mapUpdate; refine wpList_mapUpdate_own _ rfl _ _ _ 122 rfl 3 3 lawInt Tryz.underlying122 _ M ds.length _ rfl (hown.alloc _) (by unfold maxLen; omega) _ _ _ rfl rfl (keyOf_int_mk Tryz.underlying3 HI.out) _ [] (plainElem_int Tryz.underlying3 HT.out) ?_; intro w1 hown1 hgrow1))
      go_ret
      refine ⟨by rw [addDef_ok HD.out hw]; rfl, (World.grownBy_alloc _ _ _).trans_grown hgrow1, fun ds' h => ?_⟩
      rw [addDef_ok HD.out hw] at h
      injection h with h
      subst h
      exact MapIs.put hown1 hD HWD.out hi ht HD.out HAT.out

end Go.Proofs.YtliolgamhjpljaaGreat

namespace Go.Proofs.YtliolgamhjpljaaGreat

/-- where a block goes to -/
def succM (bs : List BlockM) (b : Nat) : List Nat := match bs[b]? with | some q => q.term.to.map Int.toNat | none => []

/-- visits of a list of blocks: what was begun and done ahead, and behind -/
inductive Visit (succ : Nat → List Nat) : List Nat → List Nat × List Nat → List Nat × List Nat → Prop
  | nil (s : List Nat × List Nat) : Visit succ [] s s
  | skip {t : Nat} {r bg dn : List Nat} {s : List Nat × List Nat} (h : t ∈ bg) (k : Visit succ r (bg, dn) s) : Visit succ (t :: r) (bg, dn) s
  | go {t : Nat} {r bg dn bg1 dn1 : List Nat} {s : List Nat × List Nat} (h : t ∉ bg) (k : Visit succ (succ t) (t :: bg, dn) (bg1, dn1)) (l : Visit succ r (bg1, dn1 ++ [t]) s) : Visit succ (t :: r) (bg, dn) s

theorem Visit.append {succ : Nat → List Nat} {l1 l2 : List Nat} {s s1 s2 : List Nat × List Nat} (h : Visit succ l1 s s1) (k : Visit succ l2 s1 s2) : Visit succ (l1 ++ l2) s s2 := by
  induction h with
  | nil => exact k
  | skip h _ ih => exact .skip h (ih k)
  | go h k1 _ _ ih => exact .go h k1 (ih k)

theorem Visit.det {succ : Nat → List Nat} {l : List Nat} {s s1 s2 : List Nat × List Nat} (h : Visit succ l s s1) (k : Visit succ l s s2) : s1 = s2 := by
  induction h generalizing s2 with
  | nil => cases k; rfl
  | skip h _ ih =>
    cases k with
    | skip _ k => exact ih k
    | go h2 _ _ => exact absurd h h2
  | go h _ _ ih1 ih2 =>
    cases k with
    | skip h2 _ => exact absurd h2 h
    | go _ k1 k2 =>
      cases ih1 k1
      exact ih2 k2

/-- what a visit does: the new ones, in the order in which they were done -/
structure Did (succ : Nat → List Nat) (work bg dn bg' dn' new : List Nat) : Prop where
  done : dn' = dn ++ new
  nodup : new.Nodup
  fresh : ∀ x ∈ new, x ∉ bg
  begun : ∀ x, x ∈ bg' ↔ x ∈ bg ∨ x ∈ new
  len : bg'.length = bg.length + new.length
  all : ∀ x ∈ work, x ∈ bg'
  next : ∀ x ∈ new, ∀ y ∈ succ x, y ∈ bg'
  from_ : ∀ (i : Nat) x, new[i]? = some x → x ∈ work ∨ ∃ j y, i < j ∧ new[j]? = some y ∧ x ∈ succ y
  keepsNodup : bg.Nodup → bg'.Nodup

theorem Visit.did {succ : Nat → List Nat} {l : List Nat} {s s' : List Nat × List Nat} (h : Visit succ l s s') : ∃ new, Did succ l s.1 s.2 s'.1 s'.2 new := by
  induction h with
  | nil s => exact ⟨[], by simp, by simp, by simp, by simp, by simp, by simp, by simp, by simp, id⟩
  | @skip t r bg dn s h _ ih =>
    obtain ⟨new, d⟩ := ih
    refine ⟨new, d.done, d.nodup, d.fresh, d.begun, d.len, ?_, d.next, fun i x hx => ?_, d.keepsNodup⟩
    · intro x hx
      rcases List.mem_cons.1 hx with rfl | hx
      · exact (d.begun _).2 (.inl h)
      · exact d.all x hx
    · rcases d.from_ i x hx with h1 | h1
      · exact .inl (List.mem_cons_of_mem _ h1)
      · exact .inr h1
  | @go t r bg dn bg1 dn1 s h _ _ ih1 ih2 =>
    obtain ⟨n1, d1⟩ := ih1
    obtain ⟨n2, d2⟩ := ih2
    have hb1 : ∀ x, x ∈ bg1 ↔ (x = t ∨ x ∈ bg) ∨ x ∈ n1 := fun x => by have := d1.begun x; simpa using this
    have hf1 : ∀ x ∈ n1, x ≠ t ∧ x ∉ bg := fun x hx => by have := d1.fresh x hx; simpa using this
    have hf2 : ∀ x ∈ n2, x ≠ t ∧ x ∉ bg ∧ x ∉ n1 := fun x hx => by
      have := d2.fresh x hx
      rw [show ((bg1, dn1 ++ [t]) : List Nat × List Nat).1 = bg1 from rfl, hb1] at this
      exact ⟨fun e => this (.inl (.inl e)), fun e => this (.inl (.inr e)), fun e => this (.inr e)⟩
    refine ⟨n1 ++ t :: n2, ?_, ?_, ?_, ?_, ?_, ?_, ?_, ?_, fun hn => d2.keepsNodup (d1.keepsNodup (List.nodup_cons.2 ⟨h, hn⟩))⟩
    · rw [d2.done]
      have := d1.done
      simp only at this
      rw [this]
      simp
    · rw [List.nodup_append]
      refine ⟨d1.nodup, List.nodup_cons.2 ⟨fun hm => (hf2 t hm).1 rfl, d2.nodup⟩, fun a ha b hb e => ?_⟩
      subst e
      rcases List.mem_cons.1 hb with rfl | hb
      · exact (hf1 _ ha).1 rfl
      · exact (hf2 _ hb).2.2 ha
    · intro x hx
      rcases List.mem_append.1 hx with hx | hx
      · exact (hf1 x hx).2
      · rcases List.mem_cons.1 hx with rfl | hx
        · exact h
        · exact (hf2 x hx).2.1
    · intro x
      rw [d2.begun, show ((bg1, dn1 ++ [t]) : List Nat × List Nat).1 = bg1 from rfl, hb1]
      simp only [List.mem_append, List.mem_cons]
      constructor
      · rintro (((h1 | h1) | h1) | h1) <;> simp [h1]
      · rintro (h1 | h1 | h1 | h1) <;> simp [h1]
    · have e1 := d1.len
      have e2 := d2.len
      simp at e1 e2 ⊢
      omega
    · intro x hx
      rcases List.mem_cons.1 hx with rfl | hx
      · exact (d2.begun _).2 (.inl ((hb1 _).2 (.inl (.inl rfl))))
      · exact d2.all x hx
    · intro x hx y hy
      rcases List.mem_append.1 hx with hx | hx
      · exact (d2.begun _).2 (.inl (d1.next x hx y hy))
      · rcases List.mem_cons.1 hx with rfl | hx
        · exact (d2.begun _).2 (.inl (d1.all y hy))
        · exact d2.next x hx y hy
    · intro i x hx
      by_cases h1 : i < n1.length
      · rw [List.getElem?_append_left h1] at hx
        rcases d1.from_ i x hx with hw | ⟨j, y, hj, hy, hs⟩
        · exact .inr ⟨n1.length, t, h1, by simp, hw⟩
        · have hj1 : j < n1.length := (List.getElem?_eq_some_iff.1 hy).1
          exact .inr ⟨j, y, hj, by rw [List.getElem?_append_left hj1]; exact hy, hs⟩
      · rw [List.getElem?_append_right (by omega)] at hx
        obtain ⟨m, hm⟩ : ∃ m, i - n1.length = m := ⟨_, rfl⟩
        rw [hm] at hx
        cases m with
        | zero =>
          simp at hx
          subst hx
          exact .inl (List.mem_cons_self ..)
        | succ m =>
          simp at hx
          rcases d2.from_ m x hx with hw | ⟨j, y, hj, hy, hs⟩
          · exact .inl (List.mem_cons_of_mem _ hw)
          · refine .inr ⟨n1.length + 1 + j, y, by omega, ?_, hs⟩
            rw [List.getElem?_append_right (by omega), show n1.length + 1 + j - n1.length = j + 1 by omega]
            simpa using hy

/-- a list without doubles, all below n, and one below n that is not in it: shorter than n -/
theorem below_len : ∀ (n : Nat) (l : List Nat), l.Nodup → (∀ x ∈ l, x < n) → l.length ≤ n := by
  intro n
  induction n with
  | zero => intro l _ h; cases l with | nil => simp | cons a l => exact absurd (h a (List.mem_cons_self ..)) (by omega)
  | succ n ih =>
    intro l hn h
    have h1 := ih (l.erase n) (hn.erase n) (fun x hx => by
      have h2 := (List.Nodup.mem_erase_iff hn).1 hx
      have := h x h2.2
      omega)
    by_cases hm : n ∈ l
    · rw [List.length_erase_of_mem hm] at h1; omega
    · rw [List.erase_of_not_mem hm] at h1; omega

theorem fresh_len {n b : Nat} {l : List Nat} (hn : l.Nodup) (h : ∀ x ∈ l, x < n) (hb : b < n) (hf : b ∉ l) : l.length < n := by
  have := below_len n (b :: l) (List.nodup_cons.2 ⟨hf, hn⟩) (fun x hx => by rcases List.mem_cons.1 hx with rfl | hx; exact hb; exact h x hx)
  simp at this
  omega

theorem nodup_rev {α : Type} {l : List α} (h : l.Nodup) : l.reverse.Nodup := List.pairwise_reverse.2 (h.imp fun h e => h e.symm)

/-- the order of a function: a visit of block 0, the last one done first -/
def OrderIs (bs : List BlockM) (o : List Nat) : Prop := ∃ bg dn, Visit (succM bs) (succM bs 0) ([0], []) (bg, dn) ∧ o = (dn ++ [0]).reverse

theorem OrderIs.one {bs : List BlockM} {o o' : List Nat} (h : OrderIs bs o) (k : OrderIs bs o') : o = o' := by
  obtain ⟨bg, dn, v, rfl⟩ := h
  obtain ⟨bg', dn', v', rfl⟩ := k
  cases v.det v'
  rfl

/-- what an order is like -/
theorem OrderIs.facts {bs : List BlockM} {o : List Nat} (h : OrderIs bs o) :
    o[0]? = some 0 ∧ o.Nodup ∧ (∀ x ∈ o, ∀ y ∈ succM bs x, y ∈ o) ∧ ∀ (i : Nat) x, 0 < i → o[i]? = some x → ∃ j y, j < i ∧ o[j]? = some y ∧ x ∈ succM bs y := by
  obtain ⟨bg, dn, v, rfl⟩ := h
  have v2 : Visit (succM bs) [0] ([], []) (bg, dn ++ [0]) := .go (by simp) v (.nil _)
  obtain ⟨new, d⟩ := v2.did
  have hd : dn ++ [0] = new := by simpa using d.done
  rw [hd]
  have h0 : new.reverse[0]? = some 0 := by rw [← hd]; simp
  refine ⟨h0, nodup_rev d.nodup, fun x hx y hy => ?_, fun i x hi hx => ?_⟩
  · have hx' : x ∈ new := List.mem_reverse.1 hx
    have := (d.begun y).1 (d.next x hx' y hy)
    simpa using this
  · have hlt : i < new.length := by have := (List.getElem?_eq_some_iff.1 hx).1; simpa using this
    have hx1 : new[new.length - 1 - i]? = some x := by rw [← hx, List.getElem?_reverse hlt]
    rcases d.from_ _ x hx1 with hw | ⟨j, y, hj, hy, hs⟩
    · have e : x = 0 := by simpa using hw
      subst e
      exfalso
      have hn := nodup_rev d.nodup
      have := (List.getElem?_inj (by have := hlt; simp; omega) hn).1 (h0.trans hx.symm)
      omega
    · have hjl : j < new.length := (List.getElem?_eq_some_iff.1 hy).1
      refine ⟨new.length - 1 - j, y, by omega, ?_, hs⟩
      rw [List.getElem?_reverse (by omega), show new.length - 1 - (new.length - 1 - j) = j by omega]
      exact hy

end Go.Proofs.YtliolgamhjpljaaGreat

namespace Go.Proofs.YtliolgamhjpljaaGreat
open Go.RowKit Go.Maps

theorem PhisR.more' {w : World} {B B' : Nat} {v : Value} {ps : List PhiM} (h : PhisR w B v ps) (hB : B ≤ B') : PhisR w B' v ps := by
  obtain ⟨A, c, rfl, hm, h⟩ := h
  refine ⟨A, c, rfl, hm, fun k p hp => ?_⟩
  obtain ⟨b, off, fv, vv, rfl, hb, h0, h1, h2, h3, hf, hv, r⟩ := h k p hp
  exact ⟨b, off, fv, vv, rfl, by omega, h0, h1, h2, h3, hf.more hB, hv.more hB, r⟩

theorem CodeR.more' {w : World} {B B' : Nat} {v : Value} {xs : List InstrM} (h : CodeR w B v xs) (hB : B ≤ B') : CodeR w B' v xs := by
  obtain ⟨A, c, rfl, hm, h⟩ := h
  refine ⟨A, c, rfl, hm, fun k p hp => ?_⟩
  obtain ⟨b, off, av, rfl, hb, h0, h1, h2, h3, hf, r⟩ := h k p hp
  exact ⟨b, off, av, rfl, by omega, h0, h1, h2, h3, hf.more hB, r⟩

theorem BlocksR.more' {w : World} {B B' : Nat} {v : Value} {bs : List BlockM} (h : BlocksR w B v bs) (hB : B ≤ B') : BlocksR w B' v bs := by
  obtain ⟨A, c, rfl, hm, h⟩ := h
  refine ⟨A, c, rfl, hm, fun k q hq => ?_⟩
  obtain ⟨b, off, pv, cv, tv, rfl, hb, h0, h1, h2, h3, h4, h5, hp, hc, ht, r⟩ := h k q hq
  exact ⟨b, off, pv, cv, tv, rfl, by omega, h0, h1, h2, h3, h4, h5, hp.more' hB, hc.more' hB, ht.more hB, r⟩

/-- a bool for each block: was it begun? -/
def marks (n : Nat) (bg : List Nat) : List Value := (List.range n).map fun i => .bool (decide (i ∈ bg))
def natInts (l : List Nat) : List Value := l.map fun (x : Nat) => Value.int .i64 (x : Int)

theorem marks_at {n b : Nat} {bg : List Nat} (h : b < n) : (marks n bg)[b]? = some (.bool (decide (b ∈ bg))) := by
  unfold marks
  rw [List.getElem?_map, List.getElem?_eq_getElem (by simpa using h)]
  simp

theorem marks_set {n b : Nat} {bg : List Nat} : (marks n bg).set b (.bool true) = marks n (b :: bg) := by
  unfold marks
  apply List.ext_getElem?
  intro i
  by_cases hi : i < n
  · by_cases e : b = i
    · subst e
      rw [List.getElem?_set_self (by simpa using hi), List.getElem?_eq_getElem (by simpa using hi)]
      simp
    · rw [List.getElem?_set_ne e, List.getElem?_map, List.getElem?_map, List.getElem?_range hi]
      have e' : ¬ i = b := fun h => e h.symm
      simp [e']
  · rw [List.getElem?_eq_none (by simp; omega), List.getElem?_eq_none (by simp; omega)]

/-- what lies in memory between two visits -/
structure Dfs (N R n : Nat) (gr : Array Value) (bg dn : List Nat) (w : World) : Prop where
  hR : N + 1 < R
  gb : w.heap[N]? = some (.cells gr 86 (0, 0))
  row : w.ownsRow (N + 1) 4 1 (.slice (some ⟨N + 1, 0, none⟩) n n) n (marks n bg)
  bb : w.heap[R]? = some (.cells #[.slice (some ⟨N + 1, 0, none⟩) n n] 128 (0, 0))
  done : ∃ v, w.heap[R + 1]? = some (.cells #[v] 22 (0, 0)) ∧ w.ownsRow (R + 3) 3 1 v dn.length (natInts dn)
  vb : w.heap[R + 2]? = some (.cells #[.func (.func 165) #[] #[.pointer (some ⟨R, 0, none⟩), .pointer (some ⟨N, 0, none⟩), .pointer (some ⟨R + 2, 0, none⟩), .pointer (some ⟨R + 1, 0, none⟩)]] 154 (0, 0))

theorem Dfs.size {N R n : Nat} {gr : Array Value} {bg dn : List Nat} {w : World} (h : Dfs N R n gr bg dn w) : R + 2 < w.heap.size := lt_of_block h.vb

theorem Dfs.mark {N R n b : Nat} {gr : Array Value} {bg dn : List Nat} {w : World} (h : Dfs N R n gr bg dn w) : Dfs N R n gr (b :: bg) dn (w.setCell ⟨N + 1, b, none⟩ (.bool true)) := by
  have hs := h.row.stored b (.bool true)
  have ho : ∀ k, k ≠ N + 1 → (w.setCell ⟨N + 1, b, none⟩ (.bool true)).heap[k]? = w.heap[k]? := fun k hk => heap_setCell_other w ⟨N + 1, b, none⟩ k _ hk
  obtain ⟨v, hv, hown⟩ := h.done
  have hR := h.hR
  refine ⟨hR, (ho _ (by omega)).trans h.gb, ?_, (ho _ (by omega)).trans h.bb, ⟨v, (ho _ (by omega)).trans hv, ?_⟩, (ho _ (by omega)).trans h.vb⟩
  · have := hs.1
    rwa [marks_set] at this
  · refine hown.kept hs.2 ?_
    cases e : v.ownBlock with
    | none => exact .inl rfl
    | some k =>
      have := (hown.lt k e).1
      exact .inr (by simp; omega)

theorem Dfs.push {N R n b : Nat} {gr : Array Value} {bg dn : List Nat} {w w3 : World} {o : Obj} {v v' : Value} (h : Dfs N R n gr bg dn w) (hd : w.ownsRow (R + 3) 3 1 v dn.length (natInts dn))
    (hown' : w3.ownsRow (R + 3) 3 1 v' (dn.length + 1) (natInts dn ++ [.int .i64 (b : Int)])) (hg : (w.alloc o).grownBy w3 v.ownBlock) (hd3 : w3.heap[R + 1]? = some (.cells #[v] 22 (0, 0))) :
    Dfs N R n gr bg (dn ++ [b]) (w3.setCell ⟨R + 1, 0, none⟩ v') ∧ Below N w (w3.setCell ⟨R + 1, 0, none⟩ v') := by
  have hsz := h.size
  have hne : ∀ k, k < R + 3 → some k ≠ v.ownBlock := fun k hk e => by have := (hd.lt k e.symm).1; omega
  have hk : ∀ k, k < R + 3 → w3.heap[k]? = w.heap[k]? := fun k hk => by
    rw [hg.block k (by simp; omega) (hne k hk), Below.heap_alloc _ _ _ (by omega)]
  have ho : ∀ k, k < R + 3 → k ≠ R + 1 → (w3.setCell ⟨R + 1, 0, none⟩ v').heap[k]? = w.heap[k]? := fun k h1 h2 =>
    (heap_setCell_other w3 ⟨R + 1, 0, none⟩ k _ h2).trans (hk k h1)
  have hR := h.hR
  refine ⟨⟨hR, (ho _ (by omega) (by omega)).trans h.gb, ?_, (ho _ (by omega) (by omega)).trans h.bb, ⟨v', by simpa using one_setCell hd3, ?_⟩, (ho _ (by omega) (by omega)).trans h.vb⟩, ?_⟩
  · have h1 := (h.row.alloc o).kept hg (.inr (hne (N + 1) (by omega)))
    exact ownsRow_setCell_other h1 (by simp [Value.ownBlock]; omega) _
  · have h1 := ownsRow_setCell_other hown' (a := ⟨R + 1, 0, none⟩) (by
      intro e
      have := (hown'.lt _ e).1
      simp at this) v'
    simpa [natInts] using h1
  · refine (Below.grown ((Below.refl _ _).alloc (by omega) _) hg (by simp; omega) (fun j hj => ?_)).setCell (by simp; omega) _
    have := (hd.lt j hj).1
    omega

theorem done_block {R k : Nat} {w w1 : World} {o : Obj} {v : Value} {xs : List Value} (hd : w.heap[R + 1]? = some (.cells #[v] 22 (0, 0))) (ho : w.ownsRow (R + 3) 3 1 v k xs) (hg : (w.alloc o).grownBy w1 v.ownBlock) :
    w1.heap[R + 1]? = some (.cells #[v] 22 (0, 0)) := by
  have hl := lt_of_block hd
  rw [hg.block (R + 1) (by simp; omega) (fun e => by have := (ho.lt _ e.symm).1; omega), Below.heap_alloc _ _ _ hl]
  exact hd

theorem visit_range {succ : Nat → List Nat} {n : Nat} (hs : ∀ b, ∀ y ∈ succ b, y < n) {l : List Nat} {s s' : List Nat × List Nat} (h : Visit succ l s s') : (∀ x ∈ l, x < n) → (∀ x ∈ s.1, x < n) → ∀ x ∈ s'.1, x < n := by
  induction h with
  | nil => exact fun _ h => h
  | skip _ _ ih => exact fun hl h => ih (fun x hx => hl x (List.mem_cons_of_mem _ hx)) h
  | @go t r bg dn bg1 dn1 s h _ _ ih1 ih2 =>
    intro hl hb
    refine ih2 (fun x hx => hl x (List.mem_cons_of_mem _ hx)) (ih1 (hs t) fun x hx => ?_)
    rcases List.mem_cons.1 hx with rfl | hx
    · exact hl _ (List.mem_cons_self ..)
    · exact hb x hx

/-- all ends go to blocks that are there -/
def EndsIn (bs : List BlockM) : Prop := ∀ q ∈ bs, ∀ t ∈ q.term.to, 0 ≤ t ∧ t < bs.length

theorem EndsIn.succ {bs : List BlockM} (h : EndsIn bs) : ∀ b, ∀ y ∈ succM bs b, y < bs.length := by
  intro b y hy
  unfold succM at hy
  split at hy
  · rename_i q hq
    obtain ⟨t, ht, rfl⟩ := List.mem_map.1 hy
    have := h q (List.mem_of_getElem? hq) t ht
    omega
  · cases hy

def VisitPost (bs : List BlockM) (N R n : Nat) (gr : Array Value) (bg dn : List Nat) (b : Nat) (w : World) (e : Ending) (w' : World) : Prop :=
  ∃ bg' dn', e = .returned (.tuple #[]) ∧ Visit (succM bs) (succM bs b) (b :: bg, dn) (bg', dn') ∧ Dfs N R n gr bg' (dn' ++ [b]) w' ∧ Below N w w'

set_option maxRecDepth 100000 in
set_option maxHeartbeats 2000000 in
theorem visit_any (bs : List BlockM) (N R : Nat) (pv av cv bv : Value) (hn5 : bs.length ≤ 512) (hin : EndsIn bs) :
    ∀ (k : Nat) (bg dn : List Nat) (b : Nat) (w : World), bs.length ≤ bg.length + k → bg.Nodup → (∀ x ∈ bg, x < bs.length) → dn.length ≤ bg.length → b < bs.length → b ∉ bg → BlocksR w N bv bs → Dfs N R bs.length #[pv, av, cv, bv] bg dn w →
    Calls Tryz.prog 165 #[.int .i64 b, .pointer (some ⟨R, 0, none⟩), .pointer (some ⟨N, 0, none⟩), .pointer (some ⟨R + 2, 0, none⟩), .pointer (some ⟨R + 1, 0, none⟩)] w (VisitPost bs N R bs.length #[pv, av, cv, bv] bg dn b w) := by
  intro k
  induction k with
  | zero =>
    intro bg dn b w hk hnd hlt _ hb hf
    have := fresh_len hnd hlt hb hf
    omega
  | succ k ih =>
    intro bg dn b w hk hnd hlt hdl hb hf hbl hD
    have HIH := hideI ih
    have HIN := hideI hin
    have HND := hideI hnd
    have HLT := hideI hlt
    have HF := hideI hf
    have HBL := hideI hbl
    have HD := hideI hD
    obtain ⟨q, hq⟩ : ∃ q, bs[b]? = some q := ⟨_, List.getElem?_eq_getElem hb⟩
    obtain ⟨A, c, rfl, hbm, hbx⟩ := hbl
    obtain ⟨ab, off, pq, cq, tv, rfl, hab, x0, x1, x2, x3, x4, x5, _, _, htv, _⟩ := hbx b q hq
    have HTV := hideI htv
    have HQ := hideI hq
    have HSU : Hid (succM bs b = q.term.to.map Int.toNat) := by show _ = _; unfold succM; rw [hq]
    have hgb := row_cells hD.gb rfl
    have g3 := hgb 3
    have hbb := cell_of_one hD.bb
    have hmk : w.cell? ⟨N + 1, b, none⟩ = some (.bool false) := by
      rw [World.ownsRow.cellAt hD.row b (by omega), marks_at hb]
      simp [hf]
    have hmf : w.frozen? ⟨N + 1, b, none⟩ = false := World.ownsRow.frozenAt hD.row b
    have hne1 : ab ≠ N + 1 := by omega
    obtain ⟨TA, tc, rfl, htm, _⟩ := htv
    obtain ⟨m, hm⟩ : ∃ m, m = q.term.to.length := ⟨_, rfl⟩
    have HW1 := hideI (hD.mark (b := b))
    have HM := hideI hm
    rw [← hm] at x4 htm
    clear ih hin hnd hlt hf hD hbx hq hgb x0 x1 x2 x3 x5 hm
    go_enter Tryz.func165, Tryz.ntmps165
    go_wp2
    obtain ⟨wm, hwm⟩ : ∃ wm : World, wm = w.setCell ⟨N + 1, b, none⟩ (.bool true) := ⟨_, rfl⟩
    have HBM : Hid (Below N w wm) := by rw [hwm]; exact (Below.refl N w).setCell (by simp) _
    rw [← hwm] at HW1 ⊢
    clear hwm g3 hbb hmk hmf x4
    go_loopw [20] (fun u wr => ∃ (i : Nat) (bgi dni : List Nat), i ≤ m ∧ u = .int .i64 i ∧ Hid (Visit (succM bs) ((q.term.to.map Int.toNat).take i) (b :: bg, dn) (bgi, dni)) ∧ Hid (Dfs N R bs.length #[pv, av, cv, .slice (some ⟨ab, off, none⟩) bs.length c] bgi dni wr) ∧ Hid (Below N w wr)) (fun u _ => m - (intOf u).toNat)
    case atStart => exact ⟨0, b :: bg, dn, Nat.zero_le _, rfl, by exact hideI (.nil _), HW1, HBM⟩
    case round =>
      obtain ⟨i, bgi, dni, hi, rfl, HV, HDr, HBr⟩ := hrel
      obtain ⟨new, hdid⟩ := HV.out.did
      have hndi : bgi.Nodup := hdid.keepsNodup (List.nodup_cons.2 ⟨HF.out, HND.out⟩)
      have hleni : bgi.length = bg.length + 1 + new.length := hdid.len
      have hdni : dni.length = dn.length + new.length := by have := hdid.done; simp only at this; rw [this, List.length_append]
      have hlti : ∀ x ∈ bgi, x < bs.length := visit_range HIN.out.succ HV.out (fun x hx => HIN.out.succ b x (by rw [HSU.out]; exact List.mem_of_mem_take hx)) (fun x hx => by
        rcases List.mem_cons.1 hx with rfl | hx
        · exact hb
        · exact HLT.out x hx)
      have hlb : bg.length + 1 ≤ bgi.length := by omega
      have hdb0 : dni.length ≤ bgi.length := by omega
      have HNDI := hideI hndi
      have HLTI := hideI hlti
      have hbgl := below_len _ _ hndi hlti
      have hbb := cell_of_one HDr.out.bb
      clear hdid hndi hlti hleni hdni
      by_cases hlt : i < m
      · obtain ⟨t, ht⟩ : ∃ t, q.term.to[i]? = some t := ⟨_, List.getElem?_eq_getElem (by rw [HM.out] at hlt; exact hlt)⟩
        have htn := HIN.out q (List.mem_of_getElem? HQ.out) t (List.mem_of_getElem? ht)
        obtain ⟨tn, rfl⟩ : ∃ tn : Nat, t = (tn : Int) := ⟨t.toNat, by omega⟩
        have htl : tn < bs.length := by omega
        have htk : Hid ((q.term.to.map Int.toNat).take (i + 1) = (q.term.to.map Int.toNat).take i ++ [tn]) := by
          show _ = _
          rw [List.take_add_one, List.getElem?_map, ht]
          rfl
        obtain ⟨TA', tc', e0, _, hxx⟩ := HTV.out.keep HBr.out
        cases e0
        obtain ⟨tb, toff, rfl, htb, hcell⟩ := hxx i (by rw [← HM.out]; exact hlt)
        rw [ht] at hcell
        simp only [Option.getD_some] at hcell
        have hmk : wr.cell? ⟨N + 1, tn, none⟩ = some (.bool (decide (tn ∈ bgi))) := by rw [World.ownsRow.cellAt HDr.out.row tn (by omega), marks_at htl]
        clear hxx ht htn
        by_cases hin2 : tn ∈ bgi
        · have HIN2 := hideI hin2
          rw [show decide (tn ∈ bgi) = true from by simpa using hin2] at hmk
          clear hin2
          go_wp2
          go_roundw
          case rel => exact ⟨i + 1, bgi, dni, by omega, by go_num, by rw [htk.out]; exact hideI (HV.out.append (.skip HIN2.out (.nil _))), HDr, HBr⟩
          case measure => simp [intOf]; omega
        · have HIN2 := hideI hin2
          rw [show decide (tn ∈ bgi) = false from by simpa using hin2] at hmk
          have hvb := cell_of_one HDr.out.vb
          have HC := hideI (HIH.out bgi dni tn wr (by omega) HNDI.out HLTI.out (by omega) htl HIN2.out (HBL.out.keeps (Keeps.of_below HBr.out)) HDr.out)
          clear hin2
          go_wp2_with (go_at_call 165; refine HC.out.mono ?_; rintro e w2 ⟨bg2, dn2, rfl, hv2, hd2, hb2⟩; have HV2 := hideI hv2; have HD2 := hideI hd2; have HB2 := hideI hb2; clear hv2 hd2 hb2)
          go_roundw
          case rel => exact ⟨i + 1, bg2, dn2 ++ [tn], by omega, by go_num, by rw [htk.out]; exact hideI (HV.out.append (.go HIN2.out HV2.out (.nil _))), HD2, hideI (HBr.out.trans HB2.out)⟩
          case measure => simp [intOf]; omega
      · obtain ⟨v, hdv, hown⟩ := HDr.out.done
        have hdb := cell_of_one hdv
        have HDV := hideI hdv
        have HOWN := hideI hown
        have hsz := HDr.out.size
        obtain ⟨i0, hix, hz0, hz1, hz2⟩ := info_parts int_info
        have hall : (q.term.to.map Int.toNat).take i = succM bs b := by rw [HSU.out, List.take_of_length_le (by rw [List.length_map, ← HM.out]; omega)]
        rw [hall] at HV
        clear hdv hall
        go_wp2_with (at_builtin; go_must (refine wpList_append_lies _ rfl _ _ _ rfl (R + 3) 3 i0 (.int .i64 0) 1 8 Tryz.underlying22 hix hz0 hz1 hz2 rfl (by decide) _ _ _ rfl (HOWN.out.alloc _) ⟨wr.heap.size, 0, none⟩ 1 1 [.int .i64 b] rfl rfl (one_new wr _) (by simp [Value.oneCell']) (by decide) (by simp only [maxLen]; omega) (by omega) (by simp; omega) _ rfl ?_); intro g1 cap1 w1 hown1 hgrow1 _ _; have HO1 := hideI hown1; have HG1 := hideI hgrow1; have HD1 := hideI (done_block HDV.out HOWN.out hgrow1); clear hown1 hgrow1; have hdb1 := free_of_one HD1.out; have hdc1 := cell_of_one HD1.out)

        go_end0
        have hp := HDr.out.push HOWN.out HO1.out HG1.out HD1.out
        exact ⟨bgi, dni, rfl, HV.out, hp.1, HBr.out.trans hp.2⟩

end Go.Proofs.YtliolgamhjpljaaGreat

namespace Go.Proofs.YtliolgamhjpljaaGreat
open Go.RowKit

theorem zero111 : Tryz.zeroCells210 = Array.replicate 512 (Value.bool false) := by kernel_rfl

/-- block S says of each number below 512 whether it was seen -/
def SeenIs (w : World) (S : Nat) (seen : List Int) : Prop :=
  ∃ cs : Array Value, w.heap[S]? = some (.cells cs 210 (0, 0)) ∧ cs.size = 512 ∧ ∀ i : Nat, i < 512 → cs[i]? = some (.bool (seen.contains (i : Int)))

theorem SeenIs.cell {w : World} {S : Nat} {seen : List Int} (h : SeenIs w S seen) (m : Nat) (hm : m < 512) : w.cell? ⟨S, m, none⟩ = some (.bool (seen.contains (m : Int))) := by
  obtain ⟨cs, hc, hs, h⟩ := h
  rw [cell_of_row w S m cs 210 (0, 0) hc]
  exact h m hm

theorem SeenIs.free {w : World} {S : Nat} {seen : List Int} (h : SeenIs w S seen) (m : Nat) : w.frozen? ⟨S, m, none⟩ = false := by
  obtain ⟨cs, hc, hs, h⟩ := h
  simp [World.frozen?, hc]

theorem SeenIs.set_ {w : World} {S : Nat} {seen : List Int} (h : SeenIs w S seen) (m : Nat) (hm : m < 512) : SeenIs (w.setCell ⟨S, m, none⟩ (.bool true)) S ((m : Int) :: seen) := by
  obtain ⟨cs, hc, hs, h⟩ := h
  refine ⟨cs.setIfInBounds m (.bool true), ?_, by simp [hs], fun i hi => ?_⟩
  · simp [World.setCell, Array.getElem?_modify, hc]
  · rw [Array.getElem?_setIfInBounds]
    by_cases e : m = i
    · subst e; simp [hs, hm]
    · have e' : ((i : Int) == (m : Int)) = false := by simp; omega
      rw [if_neg e, h i hi, List.contains_cons, e', Bool.false_or]

theorem seen_new (w : World) : SeenIs (w.alloc (.cells Tryz.zeroCells210 210)) w.heap.size [] := by
  refine ⟨_, heap_alloc_new w _, by rw [zero111]; simp, fun i hi => ?_⟩
  rw [zero111]
  simp [hi]

/-- what is left to be asked, k behind the start -/
theorem once_step (nb : Nat) (seen : List Int) (to : List Int) (k : Nat) (h : k < to.length) (x : Int) (hx : to[k]?.getD 0 = x) :
    onceB nb seen (to.drop k) = (withinB x 0 (nb - 1) && !(seen.contains x) && onceB nb (x :: seen) (to.drop (k + 1))) := by
  rw [List.drop_eq_getElem_cons h]
  rw [getD_of h] at hx
  rw [hx]
  rfl

theorem once_no (nb : Nat) (seen to : List Int) (k : Nat) (h : k < to.length) (x : Int) (hx : to[k]?.getD 0 = x) (hf : withinB x 0 (nb - 1) = false ∨ seen.contains x = true) :
    onceB nb seen (to.drop k) = false := by
  rw [once_step nb seen to k h x hx]
  rcases hf with e | e <;> rw [e] <;> simp

theorem once_yes (nb : Nat) (seen to : List Int) (k : Nat) (h : k < to.length) (x : Int) (hx : to[k]?.getD 0 = x) (h1 : withinB x 0 (nb - 1) = true) (h2 : seen.contains x = false) :
    onceB nb seen (to.drop k) = onceB nb (x :: seen) (to.drop (k + 1)) := by
  rw [once_step nb seen to k h x hx, h1, h2]
  simp

theorem within_bd {x a b : Int} (h : withinB x a b = true) : a ≤ x ∧ x ≤ b := by
  unfold withinB at h
  simpa using h

theorem says_below {b b' : Bool} {w wr : World} {o : Obj} (h : b = b') (hb : Below (w.heap.size + 1) (w.alloc o) wr) : Says b' w (.returned (.bool b)) wr := by
  subst h
  exact ⟨rfl, ((Below.refl _ _).alloc (Nat.le_refl _) _).trans (hb.mono (by omega))⟩

set_option maxHeartbeats 400000 in
theorem once_any (pv mv av cv : Value) (A : Option Addr) (nb c : Nat) (tv : Value) (to : List Int) (w : World) (hI : Ints w w.heap.size tv to) (h1 : 1 ≤ nb) (h2 : nb ≤ 512) :
    Calls Tryz.prog 147 #[.agg #[pv, av, cv, .slice A nb c, mv], tv] w (Says (onceB nb [] to) w) := by
  obtain ⟨T, ct, rfl, hm, hx⟩ := hI
  have Hx := hideI hx
  clear hx
  go_enter Tryz.func147, Tryz.ntmps147
  go_wp2
  go_loopw [10] (fun i wr => ∃ (k : Nat) (seen : List Int), k ≤ to.length ∧ i = .int .i64 k ∧ onceB nb [] to = onceB nb seen (to.drop k) ∧ SeenIs wr (w.heap.size + 1) seen ∧ Below (w.heap.size + 1) (w.alloc (.cells #[pv, av, cv, .slice A nb c, mv] 124)) wr) (fun i _ => to.length - (intOf i).toNat)
  case atStart =>
    refine ⟨0, [], Nat.zero_le _, rfl, rfl, ?_, (Below.refl _ _).alloc (by simp) _⟩
    have h := seen_new (w.alloc (.cells #[pv, av, cv, .slice A nb c, mv] 124))
    simpa using h
  case round =>
    obtain ⟨k, seen, hk, rfl, ht, hS, hB⟩ := hrel
    have HT := hideI ht
    have HB := hideI hB
    have HS := hideI hS
    have hbx : wr.cell? ⟨w.heap.size, 3, none⟩ = some (.slice A nb c) := by
      rw [hB.cell (p := ⟨w.heap.size, 3, none⟩) (by simp), cell_of_row _ _ _ _ _ _ (heap_alloc_new w _)]
      rfl
    clear ht hB hS
    by_cases hlt : k < to.length
    · obtain ⟨b, off, rfl, hb, hc0⟩ := Hx.out k hlt
      have hc : wr.cell? ⟨b, off + k, none⟩ = some (.int .i64 (to[k]?.getD 0)) := by
        rw [HB.out.cell (p := ⟨b, off + k, none⟩) (by simp; omega), World.cell?_alloc_lt _ _ _ (by simpa using hb), hc0]
      obtain ⟨x, hxk⟩ : ∃ x, to[k]?.getD 0 = x := ⟨_, rfl⟩
      rw [hxk] at hc
      have HX := hideI hxk
      clear hxk hc0
      have hsz : wr.heap.size = wr.heap.size := rfl
      cases hw : withinB x 0 (nb - 1)
      · go_wp2_with (go_at_call 133; refine (within_any _ _ _ _).mono ?_; rintro e w' ⟨rfl, rfl⟩)
        go_ret
        exact says_below (by rw [HT.out]; exact (once_no nb seen to k hlt x HX.out (.inl hw)).symm) HB.out
      · obtain ⟨m, rfl⟩ : ∃ m : Nat, x = m := ⟨x.toNat, by have := within_bd hw; omega⟩
        have hm5 : m < 512 := by have := within_bd hw; omega
        have hcs := HS.out.cell m hm5
        have hfs := HS.out.free m
        cases hsn : seen.contains (m : Int)
        · rw [hsn] at hcs
          go_wp2_with (go_at_call 133; refine (within_any _ _ _ _).mono ?_; rintro e w' ⟨rfl, rfl⟩)
          go_roundw
          case rel => exact ⟨k + 1, (m : Int) :: seen, by omega, by go_num, by rw [HT.out]; exact once_yes nb seen to k hlt _ HX.out hw hsn, HS.out.set_ m hm5, HB.out.setCell (by simp) _⟩
          case measure => simp [intOf]; omega
        · rw [hsn] at hcs
          go_wp2_with (go_at_call 133; refine (within_any _ _ _ _).mono ?_; rintro e w' ⟨rfl, rfl⟩)
          go_ret
          exact says_below (by rw [HT.out]; exact (once_no nb seen to k hlt _ HX.out (.inr hsn)).symm) HB.out
    · go_wp2
      go_ret
      exact says_below (by rw [HT.out, List.drop_of_length_le (by omega)]; rfl) HB.out

end Go.Proofs.YtliolgamhjpljaaGreat

namespace Go.Proofs.YtliolgamhjpljaaGreat
open Go.RowKit Go.Maps

theorem bcell {B : Nat} {W w1 : World} (hb : Below B W w1) : (∀ b o, b < B → w1.cell? ⟨b, o, none⟩ = W.cell? ⟨b, o, none⟩) ∧ (∀ b o, b < B → w1.frozen? ⟨b, o, none⟩ = W.frozen? ⟨b, o, none⟩) :=
  ⟨fun b o h => hb.cell (p := ⟨b, o, none⟩) h, fun b o h => hb.frozen (p := ⟨b, o, none⟩) h⟩

theorem below_grown {B : Nat} {w w' : World} {M : Nat} (h : Below B w w') (hB : B = w.heap.size) : w.grownBy w' (some M) :=
  ⟨h.os, h.tape, h.output, h.size, fun k hk _ => h.block k (by omega)⟩

theorem MapIs.below {w w' : World} {M B : Nat} {ds : Defs} (h : MapIs w M ds) (hb : Below B w w') (hM : M < B) : MapIs w' M ds := by
  obtain ⟨D, ⟨es, clock, hg, r⟩, q⟩ := h
  exact ⟨D, ⟨es, clock, (hb.block M hM).trans hg, r⟩, q⟩

theorem MapIs.alloc {w : World} {M : Nat} {ds : Defs} (h : MapIs w M ds) (o : Obj) : MapIs (w.alloc o) M ds := h.below ((Below.refl w.heap.size w).alloc (Nat.le_refl _) o) h.lt

theorem Ints.alloc {w : World} {B : Nat} {v : Value} {xs : List Int} (h : Ints w B v xs) (hB : B ≤ w.heap.size) (o : Obj) : Ints (w.alloc o) B v xs := h.keep ((Below.refl B w).alloc hB o)

theorem phiStep_no {f : FuncM} {ds : Defs} {p : PhiM} (h : phiB f p = false) : phiStep f ds p = none := by
  unfold phiStep
  rw [h]
  rfl

theorem phiStep_ok {f : FuncM} {ds : Defs} {p : PhiM} (h : phiB f p = true) : phiStep f ds p = addDef f.params.length ds p.id p.typ := by
  unfold phiStep
  rw [h]
  rfl

theorem defines_box2 {M : Nat} {w : World} {r : Option Defs} {o o2 : Obj} (h : r = none) : Defines r M w (.returned (.bool false)) ((w.alloc o).alloc o2) := by
  subst h
  exact ⟨rfl, (World.grownBy_alloc _ _ _).trans_grown (World.grownBy_alloc _ _ _), by simp⟩

theorem defines_after {M : Nat} {w w1 : World} {r : Option Defs} {o o2 : Obj} (h : r = none) (hb : Below ((w.alloc o).alloc o2).heap.size ((w.alloc o).alloc o2) w1) : Defines r M w (.returned (.bool false)) w1 := by
  subst h
  exact ⟨rfl, ((World.grownBy_alloc _ _ _).trans_grown (World.grownBy_alloc _ _ _)).trans_grown (below_grown hb rfl), by simp⟩

theorem len_ne {a b : Nat} (h : ((a : Int) == b) = false) : (a == b) = false := beq_eq_false_iff_ne.2 fun e => by rw [e] at h; simp at h
theorem len_eq {a b : Nat} (h : ((a : Int) == b) = true) : (a == b) = true := beq_iff_eq.2 (by have := beq_iff_eq.1 h; omega)

set_option maxHeartbeats 1000000 in
theorem phi_any (f : FuncM) (p : PhiM) (ds : Defs) (P A : Option Addr) (pc c M B : Nat) (frv vav : Value) (w : World) (hfr : Ints w B frv p.fr) (hva : Ints w B vav p.vals) (hBM : B ≤ M) (hM : MapIs w M ds)
    (hn : ds.length < 100000) (hi : I64 p.id) (ht : I64 p.typ) (h1 : 1 ≤ f.blocks.length) (h2 : f.blocks.length ≤ 512) :
    Calls Tryz.prog 135 #[.agg #[.slice P f.params.length pc, .int .i64 f.arrays, .int .i64 f.cells, .slice A f.blocks.length c, .map (some M)], .agg #[.int .i64 p.id, .int .i64 p.typ, frv, vav]] w (Defines (phiStep f ds p) M w) := by
  have hMl := hM.lt
  have HM := hideI hM
  have HF := hideI hfr
  have HI := hideI hi
  have HT := hideI ht
  obtain ⟨FA, fc, hfv, hfm, _⟩ := hfr
  obtain ⟨VA, vc, hvv, hvm, _⟩ := hva
  subst hfv hvv
  clear hM hi ht
  cases c1 : isTypeB p.typ
  · have HC := hideI c1
    go_enter Tryz.func135, Tryz.ntmps135
    go_wp2_with (go_at_call 134; refine (isType_any _ _).mono ?_; rintro e w' ⟨rfl, rfl⟩)
    go_ret
    exact defines_box2 (phiStep_no (by unfold phiB; rw [HC.out]; rfl))
  have HC := hideI c1
  cases c2 : ((p.vals.length : Int) == p.fr.length)
  · have HC2 := hideI c2
    go_enter Tryz.func135, Tryz.ntmps135
    go_wp2_with (go_at_call 134; refine (isType_any _ _).mono ?_; rintro e w' ⟨rfl, rfl⟩)
    go_ret
    exact defines_box2 (phiStep_no (by unfold phiB; rw [len_ne HC2.out]; simp))
  have HC2 := hideI c2
  cases c3 : onceB f.blocks.length [] p.fr
  · have HC3 := hideI c3
    go_enter Tryz.func135, Tryz.ntmps135
    go_wp2_with (first
      | (go_at_call 134; refine (isType_any _ _).mono ?_; rintro e w' ⟨rfl, rfl⟩)
      | (go_at_call 147; refine (once_any _ _ _ _ _ _ _ _ _ _ (((HF.out.alloc (by omega) _).alloc (by simp; omega) _).more (by simp; omega)) h1 h2).mono ?_; rintro e w1 ⟨rfl, hb1⟩))
    go_ret
    exact defines_after (phiStep_no (by unfold phiB; rw [HC3.out]; simp)) hb1
  · have HC3 := hideI c3
    go_enter Tryz.func135, Tryz.ntmps135
    go_wp2_with (first
      | (go_at_call 134; refine (isType_any _ _).mono ?_; rintro e w' ⟨rfl, rfl⟩)
      | (go_at_call 147; refine (once_any _ _ _ _ _ _ _ _ _ _ (((HF.out.alloc (by omega) _).alloc (by simp; omega) _).more (by simp; omega)) h1 h2).mono ?_; rintro e w1 ⟨rfl, hb1⟩; obtain ⟨hcl, hfl⟩ := bcell hb1; have HB1 := hideI hb1; clear hb1)
      | (go_at_call 148; refine (define_any _ _ _ _ _ _ M ds _ _ _ (((HM.out.alloc _).alloc _).below HB1.out (by simp; omega)) hn HI.out HT.out).mono ?_; rintro e w2 ⟨rfl, hg2, hm2⟩))
    go_ret
    rw [phiStep_ok (by unfold phiB; rw [HC.out, len_eq HC2.out, HC3.out]; rfl)]
    exact ⟨rfl, (((World.grownBy_alloc _ _ _).trans_grown (World.grownBy_alloc _ _ _)).trans_grown (below_grown HB1.out rfl)).trans_grown hg2, hm2⟩

end Go.Proofs.YtliolgamhjpljaaGreat

namespace Go.Proofs.YtliolgamhjpljaaGreat
open Go.RowKit Go.Maps

theorem instrStep_no {f : FuncM} {ds : Defs} {x : InstrM} (h : instrB f x = false) : instrStep f ds x = none := by
  unfold instrStep
  rw [h]
  rfl

theorem instrStep_none {f : FuncM} {ds : Defs} {x : InstrM} (h : instrB f x = true) (hm : makesS x.op = 0) : instrStep f ds x = if x.id = -1 then some ds else none := by
  unfold instrStep
  rw [h, if_pos rfl, if_pos hm]

theorem instrStep_ok {f : FuncM} {ds : Defs} {x : InstrM} (h : instrB f x = true) (hm : makesS x.op ≠ 0) : instrStep f ds x = addDef f.params.length ds x.id (makesS x.op) := by
  unfold instrStep
  rw [h, if_pos rfl, if_neg hm]

theorem makesS_wf (op : Int) : I64 (makesS op) := by
  rcases op_cases op with h | h | h
  · rcases h with rfl | rfl | rfl | rfl | rfl | rfl | rfl | rfl | rfl | rfl | rfl | rfl | rfl <;> (unfold I64; decide)
  · rcases h with rfl | rfl | rfl | rfl | rfl | rfl | rfl | rfl | rfl | rfl | rfl | rfl <;> (unfold I64; decide)
  · unfold makesS; rw [shapeS_none h]; unfold I64; decide

theorem len_ne' {a b : Nat} (h : ((a : Int) != b) = true) : (a == b) = false := beq_eq_false_iff_ne.2 fun e => by rw [e] at h; simp at h
theorem len_eq' {a b : Nat} (h : ((a : Int) != b) = false) : (a == b) = true := beq_iff_eq.2 (by have := bne_eq_false_iff_eq.1 h; omega)

theorem two_lt {w w1 : World} {o o2 : Obj} {B : Nat} (hb : Below B ((w.alloc o).alloc o2) w1) : w.heap.size + 1 < w1.heap.size := by
  have := hb.size
  simp at this
  omega

theorem defines_end {M : Nat} {w w1 : World} {r : Option Defs} {b : Bool} (hb : b = r.isSome) (hg : w.grownBy w1 (some M)) (h : ∀ ds, r = some ds → MapIs w1 M ds) : Defines r M w (.returned (.bool b)) w1 := by
  subst hb
  exact ⟨rfl, hg, h⟩

set_option maxHeartbeats 1000000 in
theorem instr_any (f : FuncM) (x : InstrM) (ds : Defs) (P A : Option Addr) (pc c M B : Nat) (av : Value) (w : World) (hav : Ints w B av x.args) (_hBM : B ≤ M) (hM : MapIs w M ds)
    (hn : ds.length < 100000) (hi : I64 x.id) (ha : 0 ≤ f.arrays) (ha' : f.arrays ≤ 8) (hc : 0 ≤ f.cells) (hc' : f.cells ≤ 64) :
    Calls Tryz.prog 136 #[.agg #[.slice P f.params.length pc, .int .i64 f.arrays, .int .i64 f.cells, .slice A f.blocks.length c, .map (some M)], .agg #[.int .i64 x.op, .int .i64 x.id, av, .int .i64 x.n]] w (Defines (instrStep f ds x) M w) := by
  have hMl := hM.lt
  have HM := hideI hM
  have HI := hideI hi
  obtain ⟨AA, ac, hvv, hvm, _⟩ := hav
  subst hvv
  clear hM hi
  -- the call of Args, ahead of all
  cases c1 : isOp x.op
  · have HC := hideI c1
    go_enter Tryz.func136, Tryz.ntmps136
    go_wp2_with (go_at_call 28; refine (irArgs_any _ _).mono ?_; rintro e w1 ⟨v, rfl, hv1, hb1⟩; obtain ⟨TA, tc, rfl, _⟩ := hv1; obtain ⟨hcl, hfl⟩ := bcell hb1; have hz1 := two_lt hb1; have hz0 := Nat.lt_of_succ_lt hz1; have HB1 := hideI hb1; clear hb1)
    go_ret
    exact defines_after (instrStep_no (by unfold instrB; rw [HC.out]; rfl)) HB1.out
  have HC := hideI c1
  cases c2 : !((x.args.length : Int) != (takesS x.op).length)
  · simp only [Bool.not_eq_false'] at c2
    have HC2 := hideI c2
    go_enter Tryz.func136, Tryz.ntmps136
    go_wp2_with (go_at_call 28; refine (irArgs_any _ _).mono ?_; rintro e w1 ⟨v, rfl, hv1, hb1⟩; obtain ⟨TA, tc, rfl, _⟩ := hv1; obtain ⟨hcl, hfl⟩ := bcell hb1; have hz1 := two_lt hb1; have hz0 := Nat.lt_of_succ_lt hz1; have HB1 := hideI hb1; clear hb1)
    go_ret
    exact defines_after (instrStep_no (by unfold instrB; rw [len_ne' HC2.out]; simp)) HB1.out
  simp only [Bool.not_eq_true'] at c2
  have HC2 := hideI c2
  cases c3 : fitsB f x.op x.n
  · have HC3 := hideI c3
    go_enter Tryz.func136, Tryz.ntmps136
    go_wp2_with (first
      | (go_at_call 28; refine (irArgs_any _ _).mono ?_; rintro e w1 ⟨v, rfl, hv1, hb1⟩; obtain ⟨TA, tc, rfl, _⟩ := hv1; obtain ⟨hcl, hfl⟩ := bcell hb1; have hz1 := two_lt hb1; have hz0 := Nat.lt_of_succ_lt hz1; have HB1 := hideI hb1; clear hb1)
      | (go_at_call 149; refine (fitsN_any f _ _ _ _ _ _ ha ha' hc hc' HC.out).mono ?_; rintro e w2 ⟨rfl, hb2⟩; obtain ⟨hcl2, hfl2⟩ := bcell hb2; have HB2 := hideI hb2; clear hb2))
    go_ret
    exact defines_end (by rw [instrStep_no (by unfold instrB; rw [HC3.out]; simp)]; rfl) ((((World.grownBy_alloc _ _ _).trans_grown (World.grownBy_alloc _ _ _)).trans_grown (below_grown HB1.out rfl)).trans_grown (below_grown HB2.out rfl)) (by rw [instrStep_no (by unfold instrB; rw [HC3.out]; simp)]; simp)
  have HC3 := hideI c3
  have hB : instrB f x = true := by unfold instrB; rw [HC.out, len_eq' HC2.out, HC3.out]; rfl
  have HBB := hideI hB
  clear hB
  cases c4 : (makesS x.op == 0)
  · have HC4 := hideI c4
    go_enter Tryz.func136, Tryz.ntmps136
    go_wp2_with (first
      | (go_at_call 28; refine (irArgs_any _ _).mono ?_; rintro e w1 ⟨v, rfl, hv1, hb1⟩; obtain ⟨TA, tc, rfl, _⟩ := hv1; obtain ⟨hcl, hfl⟩ := bcell hb1; have hz1 := two_lt hb1; have hz0 := Nat.lt_of_succ_lt hz1; have HB1 := hideI hb1; clear hb1)
      | (go_at_call 149; refine (fitsN_any f _ _ _ _ _ _ ha ha' hc hc' HC.out).mono ?_; rintro e w2 ⟨rfl, hb2⟩; obtain ⟨hcl2, hfl2⟩ := bcell hb2; have HB2 := hideI hb2; clear hb2)
      | (go_at_call 148; refine (define_any _ _ _ _ _ _ M ds _ _ _ ((((HM.out.alloc _).alloc _).below HB1.out (by simp; omega)).below HB2.out (by have := HB1.out.size; simp at this; omega)) hn HI.out (makesS_wf _)).mono ?_; rintro e w3 ⟨rfl, hg3, hm3⟩))
    go_ret
    have hne : makesS x.op ≠ 0 := by simpa using HC4.out
    rw [instrStep_ok HBB.out hne]
    exact ⟨rfl, ((((World.grownBy_alloc _ _ _).trans_grown (World.grownBy_alloc _ _ _)).trans_grown (below_grown HB1.out rfl)).trans_grown (below_grown HB2.out rfl)).trans_grown hg3, hm3⟩
  · have HC4 := hideI c4
    go_enter Tryz.func136, Tryz.ntmps136
    go_wp2_with (first
      | (go_at_call 28; refine (irArgs_any _ _).mono ?_; rintro e w1 ⟨v, rfl, hv1, hb1⟩; obtain ⟨TA, tc, rfl, _⟩ := hv1; obtain ⟨hcl, hfl⟩ := bcell hb1; have hz1 := two_lt hb1; have hz0 := Nat.lt_of_succ_lt hz1; have HB1 := hideI hb1; clear hb1)
      | (go_at_call 149; refine (fitsN_any f _ _ _ _ _ _ ha ha' hc hc' HC.out).mono ?_; rintro e w2 ⟨rfl, hb2⟩; obtain ⟨hcl2, hfl2⟩ := bcell hb2; have HB2 := hideI hb2; clear hb2))
    go_ret
    have hz : makesS x.op = 0 := by simpa using HC4.out
    have hm2 := (((HM.out.alloc (.cells #[.slice P f.params.length pc, .int .i64 f.arrays, .int .i64 f.cells, .slice A f.blocks.length c, .map (some M)] 124)).alloc (.cells #[.int .i64 x.op, .int .i64 x.id, .slice AA x.args.length ac, .int .i64 x.n] 59)).below HB1.out (by simp; omega)).below HB2.out (by omega)
    rw [instrStep_none HBB.out hz]
    refine defines_end ?_ ((((World.grownBy_alloc _ _ _).trans_grown (World.grownBy_alloc _ _ _)).trans_grown (below_grown HB1.out rfl)).trans_grown (below_grown HB2.out rfl)) ?_
    · by_cases e : x.id = -1 <;> simp [e]
    · intro ds' h
      by_cases e : x.id = -1
      · rw [if_pos e] at h
        injection h with h
        subst h
        exact hm2
      · rw [if_neg e] at h
        cases h

end Go.Proofs.YtliolgamhjpljaaGreat

namespace Go.Proofs.YtliolgamhjpljaaGreat
open Go.RowKit Go.Maps

theorem says_box2 {b b' : Bool} {w w1 : World} {o o2 : Obj} (h : b = b') (hb : Below ((w.alloc o).alloc o2).heap.size ((w.alloc o).alloc o2) w1) : Says b' w (.returned (.bool b)) w1 := by
  subst h
  exact ⟨rfl, ((((Below.refl _ _).alloc (Nat.le_refl _) _).alloc (by simp) _)).trans (hb.mono (by simp; omega))⟩

theorem termB_no {f : FuncM} {t : TermM} (h : targetsB f.blocks.length t.to = false) : termB f t = false := by
  unfold termB
  rw [h]
  rfl

def endB (t : TermM) : Bool :=
  if t.op = 1 then t.to.length == 1 && (t.val == -1 && t.n == 0) else
  if t.op = 2 then t.to.length == 2 && t.n == 0 else
  if t.op = 3 then t.to.length == 0 && t.n == 0 else
  if t.op = 4 then t.to.length == 0 && (t.val == -1 && decide (0 ≤ t.n)) else false

theorem termB_yes {f : FuncM} {t : TermM} (h : targetsB f.blocks.length t.to = true) : termB f t = endB t := by
  unfold termB
  rw [h]
  rfl

theorem len_is {l : List Int} {k : Nat} : ((l.length : Int) == (k : Int)) = (l.length == k) := by
  rw [Bool.eq_iff_iff]
  simp
  omega

set_option maxHeartbeats 1000000 in
theorem term_any (f : FuncM) (t : TermM) (P A : Option Addr) (pc c : Nat) (mv tv : Value) (w : World) (htv : Ints w w.heap.size tv t.to) (h1 : 1 ≤ f.blocks.length) (h2 : f.blocks.length ≤ 512) :
    Calls Tryz.prog 137 #[.agg #[.slice P f.params.length pc, .int .i64 f.arrays, .int .i64 f.cells, .slice A f.blocks.length c, mv], .agg #[.int .i64 t.op, .int .i64 t.val, tv, .int .i64 t.n]] w (Says (termB f t) w) := by
  have HV := hideI htv
  obtain ⟨TA, tc, hvv, hvm, _⟩ := htv
  subst hvv
  cases c1 : targetsB f.blocks.length t.to
  · have HC := hideI c1
    go_enter Tryz.func137, Tryz.ntmps137
    go_wp2_with (go_at_call 150; refine (areTargets_any _ _ _ _ _ _ _ _ _ _ (((HV.out.alloc (Nat.le_refl _) _).alloc (by simp) _).more (by simp; omega)) h1 h2).mono ?_; rintro e w1 ⟨rfl, hb1⟩; have HB1 := hideI hb1; obtain ⟨hcl, hfl⟩ := bcell hb1; clear hb1)
    go_ret
    exact says_box2 (termB_no HC.out).symm HB1.out
  have HC := hideI c1
  rw [termB_yes c1]
  have hop : t.op = 1 ∨ t.op = 2 ∨ t.op = 3 ∨ t.op = 4 ∨ (t.op ≠ 1 ∧ t.op ≠ 2 ∧ t.op ≠ 3 ∧ t.op ≠ 4) := by omega
  obtain ⟨op, val, to, n⟩ := t
  simp only at *
  rcases hop with rfl | rfl | rfl | rfl | ⟨g1, g2, g3, g4⟩
  all_goals
    go_enter Tryz.func137, Tryz.ntmps137
    go_wp2_with (go_at_call 150; refine (areTargets_any _ _ _ _ _ _ _ _ _ _ (((HV.out.alloc (Nat.le_refl _) _).alloc (by simp) _).more (by simp; omega)) h1 h2).mono ?_; rintro e w1 ⟨rfl, hb1⟩; have HB1 := hideI hb1; obtain ⟨hcl, hfl⟩ := bcell hb1; clear hb1)
    all_goals
      go_ret
      refine says_box2 ?_ HB1.out
      rw [Bool.eq_iff_iff]
      simp [endB, *]
      try omega

end Go.Proofs.YtliolgamhjpljaaGreat

namespace Go.Proofs.YtliolgamhjpljaaGreat
open Go.RowKit Go.Maps

theorem phis_drop (f : FuncM) (d : Defs) (l : List PhiM) (k : Nat) (p : PhiM) (h : l[k]? = some p) : phisStep f d (l.drop k) = (phiStep f d p).bind fun d' => phisStep f d' (l.drop (k + 1)) := by
  obtain ⟨hk, rfl⟩ := List.getElem?_eq_some_iff.1 h
  rw [List.drop_eq_getElem_cons hk]
  rfl

theorem code_drop (f : FuncM) (d : Defs) (l : List InstrM) (k : Nat) (p : InstrM) (h : l[k]? = some p) : codeStep f d (l.drop k) = (instrStep f d p).bind fun d' => codeStep f d' (l.drop (k + 1)) := by
  obtain ⟨hk, rfl⟩ := List.getElem?_eq_some_iff.1 h
  rw [List.drop_eq_getElem_cons hk]
  rfl

theorem addDef_len {np : Nat} {ds d : Defs} {id typ : Int} (h : addDef np ds id typ = some d) : d.length = ds.length + 1 := by
  unfold addDef at h
  split at h
  · injection h with h; subst h; simp
  · cases h

theorem phiStep_len {f : FuncM} {ds d : Defs} {p : PhiM} (h : phiStep f ds p = some d) : d.length = ds.length + 1 := by
  unfold phiStep at h
  split at h
  · exact addDef_len h
  · cases h

theorem instrStep_len {f : FuncM} {ds d : Defs} {p : InstrM} (h : instrStep f ds p = some d) : d.length ≤ ds.length + 1 := by
  unfold instrStep at h
  split at h
  · split at h
    · split at h
      · injection h with h; subst h; omega
      · cases h
    · have := addDef_len h; omega
  · cases h

theorem block_grown {w W0 wr w1 : World} {o1 o2 o3 : Obj} {M : Nat} (h0 : W0 = (w.alloc o1).alloc o2) (h : W0.grownBy wr (some M)) (h1 : (wr.alloc o3).grownBy w1 (some M)) : w.grownBy w1 (some M) := by
  subst h0
  exact ((((World.grownBy_alloc _ _ _).trans_grown (World.grownBy_alloc _ _ _)).trans_grown h).trans_grown (World.grownBy_alloc _ _ _)).trans_grown h1

set_option maxHeartbeats 1000000 in
theorem block_any (f : FuncM) (q : BlockM) (ds : Defs) (P A : Option Addr) (pc c M B : Nat) (pv cv tv : Value) (w : World) (hpv : PhisR w B pv q.phis) (hcv : CodeR w B cv q.code) (htv : Ints w B tv q.term.to)
    (hBM : B ≤ M) (hM : MapIs w M ds) (hn : ds.length + q.phis.length + q.code.length < 50000)
    (h1 : 1 ≤ f.blocks.length) (h2 : f.blocks.length ≤ 512) (ha : 0 ≤ f.arrays) (ha' : f.arrays ≤ 8) (hc : 0 ≤ f.cells) (hc' : f.cells ≤ 64) :
    Calls Tryz.prog 118 #[.agg #[.slice P f.params.length pc, .int .i64 f.arrays, .int .i64 f.cells, .slice A f.blocks.length c, .map (some M)], .agg #[pv, cv, .int .i64 q.term.op, .int .i64 q.term.val, tv, .int .i64 q.term.n]] w (Defines (blockStep f ds q) M w) := by
  have hMl := hM.lt
  have HM := hideI hM
  have HP := hideI hpv
  have HC := hideI hcv
  have HT := hideI htv
  obtain ⟨PA, pc2, hpe, hpm, hpx⟩ := hpv
  obtain ⟨CA, cc2, hce, hcm, hcx⟩ := hcv
  subst hpe hce
  have HPX := hideI hpx
  have HCX := hideI hcx
  clear hpx hcx hM htv
  go_enter Tryz.func118, Tryz.ntmps118
  go_wp2
  obtain ⟨W0, hW0⟩ : ∃ W0 : World, W0 = (w.alloc (.cells #[.slice P f.params.length pc, .int .i64 f.arrays, .int .i64 f.cells, .slice A f.blocks.length c, .map (some M)] 124)).alloc (.cells #[.slice PA q.phis.length pc2, .slice CA q.code.length cc2, .int .i64 q.term.op, .int .i64 q.term.val, tv, .int .i64 q.term.n] 51) := ⟨_, rfl⟩
  rw [← hW0]
  have HW0 := hideI hW0
  clear hW0
  go_loopw [12] (fun i wr => ∃ (k : Nat) (d : Defs), k ≤ q.phis.length ∧ i = .int .i64 k ∧ phisStep f ds q.phis = phisStep f d (q.phis.drop k) ∧ d.length ≤ ds.length + k ∧ MapIs wr M d ∧ W0.grownBy wr (some M)) (fun i _ => q.phis.length - (intOf i).toNat)
  case atStart => exact ⟨0, ds, Nat.zero_le _, rfl, rfl, Nat.le_refl _, by rw [HW0.out]; exact (HM.out.alloc _).alloc _, World.grownBy.refl W0 _⟩
  case round =>
    obtain ⟨k, d, hk, rfl, ht, hdl, hMd, hg⟩ := hrel
    have hg' := hg
    rw [HW0.out] at hg'
    obtain ⟨hx1, hx2, hz1⟩ := two_cells hg' hMl
    have hz0 := Nat.lt_of_succ_lt hz1
    have hks : Keeps B w wr := (((Keeps.refl w).alloc (by omega) _).alloc (by simp; omega) _).trans (Keeps.of_grown hg' hBM (by simp; omega))
    have HK := hideI hks
    have HG := hideI hg
    have HD := hideI hMd
    have HT' := hideI ht
    clear hg' hks hg hMd ht
    by_cases hlt : k < q.phis.length
    · obtain ⟨p, hp⟩ : ∃ p, q.phis[k]? = some p := ⟨_, List.getElem?_eq_getElem hlt⟩
      obtain ⟨b, off, fv, vv, rfl, hb, e0, e1, e2, e3, hf, hv, hi, htt⟩ := HPX.out k p hp
      have c0 := (HK.out b (off + k * 4) hb).trans e0
      have c1 := (HK.out b (off + k * 4 + 1) hb).trans e1
      have c2 := (HK.out b (off + k * 4 + 2) hb).trans e2
      have c3 := (HK.out b (off + k * 4 + 3) hb).trans e3
      have HF := hideI (hf.keeps HK.out)
      have HV := hideI (hv.keeps HK.out)
      have HI := hideI hi
      have HTY := hideI htt
      have HPP := hideI hp
      obtain ⟨FA, fc, hfe, _⟩ := hf
      obtain ⟨VA, vc, hve, _⟩ := hv
      subst hfe hve
      clear e0 e1 e2 e3 hp hi htt
      cases hs : phiStep f d p with
      | none =>
        have HS := hideI hs
        go_wp2_with (go_at_call 135; refine (phi_any f p d _ _ _ _ M B _ _ _ (HF.out.alloc (by omega) _) (HV.out.alloc (by omega) _) hBM (HD.out.alloc _) (by omega) HI.out HTY.out h1 h2).mono ?_; rintro e w1 ⟨rfl, hg1, hm1⟩; rw [HS.out]; have HG1 := hideI hg1; clear hg1 hm1)
        go_ret
        have hno : blockStep f ds q = none := by
          unfold blockStep
          rw [HT'.out, phis_drop f d q.phis k p HPP.out, HS.out]
          rfl
        exact defines_end (by rw [hno]; rfl) (block_grown HW0.out HG.out HG1.out) (by rw [hno]; simp)
      | some d' =>
        have HS := hideI hs
        go_wp2_with (go_at_call 135; refine (phi_any f p d _ _ _ _ M B _ _ _ (HF.out.alloc (by omega) _) (HV.out.alloc (by omega) _) hBM (HD.out.alloc _) (by omega) HI.out HTY.out h1 h2).mono ?_; rintro e w1 ⟨rfl, hg1, hm1⟩; rw [HS.out]; have HG1 := hideI hg1; have HM1 := hideI hm1; clear hg1 hm1)
        go_roundw
        case rel => exact ⟨k + 1, d', by omega, by go_num, by rw [HT'.out, phis_drop f d q.phis k p HPP.out, HS.out]; rfl, by have := phiStep_len HS.out; omega, HM1.out d' HS.out, (HG.out.trans_grown (World.grownBy_alloc _ _ _)).trans_grown HG1.out⟩
        case measure => simp [intOf]; omega
    · have hke : phisStep f ds q.phis = some d := by rw [HT'.out, List.drop_of_length_le (by omega)]; rfl
      have HKE := hideI hke
      have hdl2 : d.length ≤ ds.length + q.phis.length := by omega
      clear hke HPX
      go_wp2
      obtain ⟨wo, rfl⟩ : ∃ wo : World, wo = wr := ⟨_, rfl⟩
      clear hx1 hx2 hz0 hz1 HK HT'
      go_loopw [24] (fun i wr => ∃ (k : Nat) (d2 : Defs), k ≤ q.code.length ∧ i = .int .i64 k ∧ codeStep f d q.code = codeStep f d2 (q.code.drop k) ∧ d2.length ≤ ds.length + q.phis.length + k ∧ MapIs wr M d2 ∧ W0.grownBy wr (some M)) (fun i _ => q.code.length - (intOf i).toNat)
      case atStart => exact ⟨0, d, Nat.zero_le _, rfl, rfl, by omega, HD.out, HG.out⟩
      case round =>
        obtain ⟨k2, d2, hk2, rfl, ht2, hdl3, hMd2, hg2⟩ := hrel
        have hg' := hg2
        rw [HW0.out] at hg'
        obtain ⟨hx1, hx2, hz1⟩ := two_cells hg' hMl
        have hz0 := Nat.lt_of_succ_lt hz1
        have hks : Keeps B w wr := (((Keeps.refl w).alloc (by omega) _).alloc (by simp; omega) _).trans (Keeps.of_grown hg' hBM (by simp; omega))
        have HK := hideI hks
        have HG2 := hideI hg2
        have HD2 := hideI hMd2
        have HT2 := hideI ht2
        clear hg' hks hg2 hMd2 ht2
        by_cases hlt : k2 < q.code.length
        · obtain ⟨x, hp⟩ : ∃ x, q.code[k2]? = some x := ⟨_, List.getElem?_eq_getElem hlt⟩
          obtain ⟨b, off, av, rfl, hb, e0, e1, e2, e3, hf, _, hi, _⟩ := HCX.out k2 x hp
          have c0 := (HK.out b (off + k2 * 4) hb).trans e0
          have c1 := (HK.out b (off + k2 * 4 + 1) hb).trans e1
          have c2 := (HK.out b (off + k2 * 4 + 2) hb).trans e2
          have c3 := (HK.out b (off + k2 * 4 + 3) hb).trans e3
          have HF := hideI (hf.keeps HK.out)
          have HI := hideI hi
          have HPP := hideI hp
          obtain ⟨FA, fc, hfe, _⟩ := hf
          subst hfe
          clear e0 e1 e2 e3 hp hi
          cases hs : instrStep f d2 x with
          | none =>
            have HS := hideI hs
            go_wp2_with (go_at_call 136; refine (instr_any f x d2 _ _ _ _ M B _ _ (HF.out.alloc (by omega) _) hBM (HD2.out.alloc _) (by omega) HI.out ha ha' hc hc').mono ?_; rintro e w1 ⟨rfl, hg1, hm1⟩; rw [HS.out]; have HG1 := hideI hg1; clear hg1 hm1)
            go_ret
            have hno : blockStep f ds q = none := by
              unfold blockStep
              rw [HKE.out, Option.bind_some, HT2.out, code_drop f d2 q.code k2 x HPP.out, HS.out]
              rfl
            exact defines_end (by rw [hno]; rfl) (block_grown HW0.out HG2.out HG1.out) (by rw [hno]; simp)
          | some d' =>
            have HS := hideI hs
            go_wp2_with (go_at_call 136; refine (instr_any f x d2 _ _ _ _ M B _ _ (HF.out.alloc (by omega) _) hBM (HD2.out.alloc _) (by omega) HI.out ha ha' hc hc').mono ?_; rintro e w1 ⟨rfl, hg1, hm1⟩; rw [HS.out]; have HG1 := hideI hg1; have HM1 := hideI hm1; clear hg1 hm1)
            go_roundw
            case rel => exact ⟨k2 + 1, d', by omega, by go_num, by rw [HT2.out, code_drop f d2 q.code k2 x HPP.out, HS.out]; rfl, by have := instrStep_len HS.out; omega, HM1.out d' HS.out, (HG2.out.trans_grown (World.grownBy_alloc _ _ _)).trans_grown HG1.out⟩
            case measure => simp [intOf]; omega
        · have hce : blockStep f ds q = if termB f q.term then some d2 else none := by
            unfold blockStep
            rw [HKE.out, Option.bind_some, HT2.out, List.drop_of_length_le (by omega)]
            rfl
          have HCE := hideI hce
          clear hce HCX HT2
          obtain ⟨TA, tc, hte, _⟩ := HT.out
          subst hte
          have HTT := hideI ((HT.out.keeps HK.out).more (B' := wr.heap.size) (by omega))
          go_wp2_with (go_at_call 137; refine (term_any f q.term _ _ _ _ _ _ _ HTT.out h1 h2).mono ?_; rintro e w1 ⟨rfl, hb1⟩; have HB1 := hideI hb1; clear hb1)
          go_ret
          have hm1 := HD2.out.below HB1.out (by omega)
          have hgg : w.grownBy w1 (some M) := ((((World.grownBy_alloc _ _ _).trans_grown (World.grownBy_alloc _ _ _)).trans_grown (HW0.out ▸ HG2.out)).trans_grown (below_grown HB1.out rfl))
          refine defines_end ?_ hgg ?_
          · rw [HCE.out]
            cases termB f q.term <;> rfl
          · intro ds' h
            rw [HCE.out] at h
            split at h
            · injection h with h
              subst h
              exact hm1
            · cases h

end Go.Proofs.YtliolgamhjpljaaGreat

namespace Go.Proofs.YtliolgamhjpljaaGreat
open Go.RowKit Go.Maps

theorem size_take (bs : List BlockM) (k : Nat) (q : BlockM) (h : bs[k]? = some q) : ((bs.take (k + 1)).map sizeB).sum = ((bs.take k).map sizeB).sum + (q.phis.length + q.code.length + 1) := by
  obtain ⟨hk, rfl⟩ := List.getElem?_eq_some_iff.1 h
  rw [List.take_succ_eq_append_getElem hk, List.map_append, List.sum_append]
  rfl

set_option maxHeartbeats 1000000 in
theorem lookSize_any (bs : List BlockM) (B : Nat) (pv av cv bv mv : Value) (w : World) (hbv : BlocksR w B bv bs) (hB : B ≤ w.heap.size) (h2 : bs.length ≤ 512) :
    Calls Tryz.prog 81 #[.agg #[pv, av, cv, bv, mv]] w fun e w' => e = .returned (.int .i64 ((bs.map sizeB).sum : Nat)) ∧ Below w.heap.size w w' := by
  have HB := hideI hbv
  obtain ⟨A, c, rfl, hbm, hbx⟩ := hbv
  have HX := hideI hbx
  clear hbx
  go_enter Tryz.func81, Tryz.ntmps81
  go_wp2
  go_loopw [3, 10] (fun n i wr => ∃ k S : Nat, k ≤ bs.length ∧ i = .int .i64 k ∧ n = .int .i64 S ∧ S = ((bs.take k).map sizeB).sum ∧ S ≤ k * 281474976702465 ∧ Below (w.heap.size + 1) (w.alloc (.cells #[pv, av, cv, .slice A bs.length c, mv] 124)) wr) (fun _ i _ => bs.length - (intOf i).toNat)
  case atStart => exact ⟨0, 0, Nat.zero_le _, rfl, rfl, rfl, Nat.le_refl _, Below.refl _ _⟩
  case round =>
    obtain ⟨k, S, hk, rfl, rfl, hS, hSb, hBe⟩ := hrel
    obtain ⟨hx1, hz1⟩ := one_cells hBe
    have hks := hideI (keeps_one hBe hB)
    have HBe := hideI hBe
    have HS := hideI hS
    clear hBe hS
    by_cases hlt : k < bs.length
    · obtain ⟨q, hq⟩ : ∃ q, bs[k]? = some q := ⟨_, List.getElem?_eq_getElem hlt⟩
      obtain ⟨b, off, pv, cv, tv, rfl, hb, e0, e1, e2, e3, e4, e5, hpv, hcv, htv, _⟩ := HX.out k q hq
      have c0 := (hks.out b (off + k * 6) hb).trans e0
      have c1 := (hks.out b (off + k * 6 + 1) hb).trans e1
      have c2 := (hks.out b (off + k * 6 + 2) hb).trans e2
      have c3 := (hks.out b (off + k * 6 + 3) hb).trans e3
      have c4 := (hks.out b (off + k * 6 + 4) hb).trans e4
      have c5 := (hks.out b (off + k * 6 + 5) hb).trans e5
      obtain ⟨PA, pc, hpe, hpm, _⟩ := hpv
      obtain ⟨CA, cc, hce, hcm, _⟩ := hcv
      obtain ⟨TA, tc, hte, htm, _⟩ := htv
      subst hpe hce hte
      have HQ := hideI hq
      clear e0 e1 e2 e3 e4 e5 hq
      go_wp2
      go_roundw
      case rel => exact ⟨k + 1, S + (q.phis.length + q.code.length + 1), by omega, by go_num, by go_num, by rw [size_take _ _ _ HQ.out, ← HS.out], by omega, HBe.out.alloc (by omega) _⟩
      case measure => simp [intOf]; omega
    · go_wp2
      go_ret
      refine ⟨?_, below_one HBe.out⟩
      rw [HS.out, List.take_of_length_le (by omega)]
      rfl

set_option maxHeartbeats 1000000 in
theorem limits_any (f : FuncM) (B : Nat) (P : Option Addr) (pc : Nat) (bv mv : Value) (w : World) (hbv : BlocksR w B bv f.blocks) (hB : B ≤ w.heap.size) :
    Calls Tryz.prog 116 #[.agg #[.slice P f.params.length pc, .int .i64 f.arrays, .int .i64 f.cells, bv, mv]] w (Says (limitsB f) w) := by
  have HB := hideI hbv
  obtain ⟨A, c, rfl, hbm, hbx⟩ := hbv
  clear hbx
  have W1 := hideI ((HB.out.keeps ((Keeps.refl w).alloc hB (.cells #[.slice P f.params.length pc, .int .i64 f.arrays, .int .i64 f.cells, .slice A f.blocks.length c, mv] 124))))
  unfold limitsB
  by_cases c1 : f.params.length ≤ 16
  · cases c2 : withinB f.arrays 0 8
    · go_enter Tryz.func116, Tryz.ntmps116
      go_wp2_with (go_at_call 133; refine (within_any _ _ _ _).mono ?_; rintro e w' ⟨rfl, rfl⟩)
      go_ret
      exact says_new (by simp)
    cases c3 : withinB f.cells 0 64
    · go_enter Tryz.func116, Tryz.ntmps116
      go_wp2_with (go_at_call 133; refine (within_any _ _ _ _).mono ?_; rintro e w' ⟨rfl, rfl⟩)
      go_ret
      exact says_new (by simp)
    cases c4 : withinB f.blocks.length 1 512
    · go_enter Tryz.func116, Tryz.ntmps116
      go_wp2_with (go_at_call 133; refine (within_any _ _ _ _).mono ?_; rintro e w' ⟨rfl, rfl⟩)
      go_ret
      exact says_new (by simp)
    have hb5 : f.blocks.length ≤ 512 := by have := within_bd c4; omega
    have HL := hideI (lookSize_any f.blocks B (.slice P f.params.length pc) (.int .i64 f.arrays) (.int .i64 f.cells) (.slice A f.blocks.length c) mv _ W1.out (by simp; omega) hb5)
    go_enter Tryz.func116, Tryz.ntmps116
    go_wp2_with (first
      | (go_at_call 133; refine (within_any _ _ _ _).mono ?_; rintro e w' ⟨rfl, rfl⟩)
      | (go_at_call 81; refine HL.out.mono ?_; rintro e w1 ⟨rfl, hb1⟩; have HB1 := hideI hb1; clear hb1))
    go_ret
    refine ⟨?_, ((Below.refl _ _).alloc (Nat.le_refl _) _).trans (HB1.out.mono (by simp))⟩
    have h : decide ((((f.blocks.map sizeB).sum : Nat) : Int) ≤ 4096) = decide (sizeM f ≤ 4096) := by
      unfold sizeM
      rw [decide_eq_decide]
      omega
    simp only [Array.getD_eq_getD_getElem?]
    simp [c1, h]
  · go_enter Tryz.func116, Tryz.ntmps116
    go_wp2_with (go_at_call 133; refine (within_any _ _ _ _).mono ?_; rintro e w' ⟨rfl, rfl⟩)
    go_ret
    exact says_new (by simp)

end Go.Proofs.YtliolgamhjpljaaGreat

namespace Go.Proofs.YtliolgamhjpljaaGreat
open Go.RowKit Go.Maps

theorem paramDefs_snoc (l : List Int) (t : Int) : ∀ j, paramDefs j (l ++ [t]) = paramDefs j l ++ [(((j + l.length : Nat) : Int), t)] := by
  induction l with
  | nil => intro j; rfl
  | cons a l ih =>
    intro j
    show _ :: paramDefs (j + 1) (l ++ [t]) = _ :: (paramDefs (j + 1) l ++ _)
    rw [ih (j + 1)]
    simp only [List.length_cons]
    rw [show j + 1 + l.length = j + (l.length + 1) from by omega]

theorem paramDefs_len (l : List Int) : ∀ j, (paramDefs j l).length = l.length := by
  induction l with
  | nil => intro j; rfl
  | cons a l ih => intro j; simp [paramDefs, ih]

theorem paramDefs_at (l : List Int) : ∀ (j : Nat) (k : Int), (j + l.length : Nat) ≤ k → (paramDefs j l).at k = none := by
  induction l with
  | nil => intro j k _; rfl
  | cons a l ih =>
    intro j k h
    simp only [List.length_cons] at h
    have := ih (j + 1) k (by omega)
    unfold Defs.at at this ⊢
    rw [paramDefs, List.find?_cons]
    rw [show ((j : Int) == k) = false from by simp; omega]
    exact this

def paramsStep (f : FuncM) : Option Defs := if f.params.all isTypeB then some (paramDefs 0 f.params) else none

theorem isType_cases {t : Int} (h : isTypeB t = true) : t = 1 ∨ t = 2 := by
  unfold isTypeB at h
  simpa using h

set_option maxHeartbeats 1000000 in
theorem params_any (f : FuncM) (B M : Nat) (pv av cv bv : Value) (w : World) (hpv : Ints w B pv f.params) (hBM : B ≤ M) (hM : MapIs w M []) (hp : f.params.length ≤ 16) :
    Calls Tryz.prog 117 #[.agg #[pv, av, cv, bv, .map (some M)]] w (Defines (paramsStep f) M w) := by
  have hMl := hM.lt
  have HM := hideI hM
  obtain ⟨P, c, rfl, hbm, hbx⟩ := hpv
  have HX := hideI hbx
  clear hbx hM
  go_enter Tryz.func117, Tryz.ntmps117
  go_wp2
  obtain ⟨W0, hW0⟩ : ∃ W0 : World, W0 = w.alloc (.cells #[.slice P f.params.length c, av, cv, bv, .map (some M)] 124) := ⟨_, rfl⟩
  rw [← hW0]
  have HW0 := hideI hW0
  clear hW0
  go_loopw [9] (fun i wr => ∃ k : Nat, k ≤ f.params.length ∧ i = .int .i64 k ∧ (f.params.take k).all isTypeB = true ∧ MapIs wr M (paramDefs 0 (f.params.take k)) ∧ W0.grownBy wr (some M)) (fun i _ => f.params.length - (intOf i).toNat)
  case atStart => exact ⟨0, Nat.zero_le _, rfl, rfl, by rw [HW0.out]; exact HM.out.alloc _, World.grownBy.refl W0 _⟩
  case round =>
    obtain ⟨k, hk, rfl, ht, hMd, hg⟩ := hrel
    have hg' := hg
    rw [HW0.out] at hg'
    have hx : ∀ o, wr.cell? ⟨w.heap.size, o, none⟩ = (#[.slice P f.params.length c, av, cv, bv, .map (some M)] : Array Value)[o]? := row_cells (heap_alloc_new w _) (hg'.block _ (by simp) (by simp; omega))
    have hks : Keeps B w wr := ((Keeps.refl w).alloc (by omega) _).trans (Keeps.of_grown hg' hBM (by simp; omega))
    have HK := hideI hks
    have HG := hideI hg
    have HT' := hideI ht
    obtain ⟨D, hown, hD, hwd, hat⟩ := hMd
    have HAT := hideI hat
    have HWD := hideI hwd
    clear hg' hks hg ht hat hwd
    by_cases hlt : k < f.params.length
    · obtain ⟨b, off, rfl, hb, hc0⟩ := HX.out k hlt
      obtain ⟨t, ht⟩ : ∃ t, f.params[k] = t := ⟨_, rfl⟩
      have hc := (HK.out b (off + k) hb).trans hc0
      rw [getD_of hlt, ht] at hc
      have HTT := hideI ht
      clear hc0 ht
      cases c1 : isTypeB t
      · have HC := hideI c1
        go_wp2_with (go_at_call 134; refine (isType_any _ _).mono ?_; rintro e w' ⟨rfl, rfl⟩)
        go_ret
        have hno : paramsStep f = none := by
          unfold paramsStep
          rw [if_neg]
          intro h
          have := List.all_eq_true.1 h _ (List.getElem_mem hlt)
          rw [HTT.out, HC.out] at this
          cases this
        exact defines_end (by rw [hno]; rfl) (by have := HG.out; rw [HW0.out] at this; exact (World.grownBy_alloc _ _ _).trans_grown this) (by rw [hno]; simp)
      · have HC := hideI c1
        have hI : I64 t := by rcases isType_cases c1 with rfl | rfl <;> (unfold I64; decide)
        have hIk : I64 k := by unfold I64; exact WalkArith.wf_i64 (by omega)
        go_wp2_with (first
          | (go_at_call 134; refine (isType_any _ _).mono ?_; rintro e w' ⟨rfl, rfl⟩)
          | (at_mapUpdate; refine wpList_mapUpdate_own _ rfl _ _ _ 122 rfl 3 3 lawInt Tryz.underlying122 _ M _ _ rfl hown (by unfold maxLen; rw [paramDefs_len, List.length_take]; omega) _ _ _ rfl rfl (keyOf_int_mk Tryz.underlying3 hIk) _ [] (plainElem_int Tryz.underlying3 hI) ?_; intro w1 hown1 hgrow1))
        go_roundw
        case rel =>
          refine ⟨k + 1, by omega, by go_num, by rw [all_take_succ _ _ _ hlt, HT'.out, HTT.out, HC.out]; rfl, ?_, HG.out.trans_grown hgrow1⟩
          rw [List.take_succ_eq_append_getElem hlt, HTT.out, paramDefs_snoc, List.length_take, Nat.min_eq_left (by omega), Nat.zero_add]
          exact MapIs.put hown1 hD HWD.out hIk hI (paramDefs_at _ _ _ (by rw [List.length_take]; omega)) HAT.out
        case measure => simp [intOf]; omega
    · go_wp2
      go_ret
      have hall : f.params.all isTypeB = true := by have := HT'.out; rwa [List.take_of_length_le (by omega)] at this
      have hyes : paramsStep f = some (paramDefs 0 f.params) := by unfold paramsStep; rw [if_pos hall]
      refine defines_end (by rw [hyes]; rfl) (by have := HG.out; rw [HW0.out] at this; exact (World.grownBy_alloc _ _ _).trans_grown this) ?_
      intro ds h
      rw [hyes] at h
      injection h with h
      subst h
      rw [List.take_of_length_le (by omega)] at hown
      have h1 := HWD.out
      have h2 := HAT.out
      rw [List.take_of_length_le (by omega)] at h1 h2
      exact ⟨D, hown, hD, h1, h2⟩

end Go.Proofs.YtliolgamhjpljaaGreat
