/- What GraphPrunes rests on, part 9: RCopyF, GOut, ApartM, RSplitM, GReachR. -/
import Derived.Test.YtncmnbchkabgaaaPkGraphPrunes8

namespace Go.Proofs.Ytncmnbchkabgaaa
open Go.RowKit

/-- a function, so far as its blocks were copied -/
def cutB (f : FuncM) (k : Nat) : FuncM := { f with blocks := f.blocks.take k }

/-- a block's tags, as those of a block alone -/
def sh : Tag → Tag
  | .phis _ => .phis 0
  | .code _ => .code 0
  | .ends _ => .ends 0
  | .fr _ a => .fr 0 a
  | .vals _ a => .vals 0 a
  | .args _ a => .args 0 a
  | .params => .params
  | .blocks => .blocks

theorem OwnG.turn {w : World} {base : Nat} {row : Rows} {val : Vals} {D D' : Tag → Prop} (σ : Tag → Tag) (h : OwnG w base row val D) (hD : ∀ t, D' t → D (σ t)) (hi : ∀ t t', D' t → D' t' → σ t = σ t' → t = t') : OwnG w base (fun t => row (σ t)) (fun t => val (σ t)) D' :=
  ⟨fun t ht => h.has _ (hD t ht), fun t d ht hd => h.rows _ d (hD t ht) hd, fun t t' g ht ht' h1 h2 => hi t t' ht ht' (h.apart _ _ g (hD t ht) (hD t' ht') h1 h2)⟩

theorem DD.sh {k np nc : Nat} {t : Tag} (h : DD k np nc t) : CbD np nc (sh t) := by
  rcases h with rfl | rfl | rfl | ⟨j, hj, rfl | rfl⟩ | ⟨j, hj, rfl⟩
  · rfl
  · rfl
  · rfl
  · exact ⟨rfl, hj⟩
  · exact ⟨rfl, hj⟩
  · exact ⟨rfl, hj⟩

theorem DD.inj {k np nc : Nat} {t t' : Tag} (h : DD k np nc t) (h' : DD k np nc t') (e : Go.Proofs.Ytncmnbchkabgaaa.sh t = Go.Proofs.Ytncmnbchkabgaaa.sh t') : t = t' := by
  rcases h with rfl | rfl | rfl | ⟨j, hj, rfl | rfl⟩ | ⟨j, hj, rfl⟩ <;> rcases h' with rfl | rfl | rfl | ⟨j', hj', rfl | rfl⟩ | ⟨j', hj', rfl⟩ <;> simp_all [Go.Proofs.Ytncmnbchkabgaaa.sh]

/-- the rows of a callee join -/
theorem OwnC.join {w0 w w1 : World} {row r2 r3 : Rows} {val v2 v3 : Vals} {D D2 : Tag → Prop} {bl : List VarD} (h : OwnC w0 w row val D bl) (hb : Below w.heap.size w w1) (h2 : OwnG w1 w.heap.size r2 v2 D2)
    (e1 : ∀ t, D t → r3 t = row t ∧ v3 t = val t) (e2 : ∀ t, D2 t → r3 t = r2 t ∧ v3 t = v2 t) : OwnC w0 w1 r3 v3 (fun t => D t ∨ D2 t) bl := by
  have hg := h.grows hb
  refine ⟨OwnG.join h.own hb h2 (Nat.le_refl _) h.below.size e1 e2, hg.cells, fun x hx t ht e => ?_, h.dis, hg.below⟩
  rcases ht with ht | ht
  · rw [(e1 t ht).2] at e
    exact h.off x hx t ht e
  · rw [(e2 t ht).2] at e
    have := (h2.lt ht e).1
    have := h.lt hx
    omega

/-- one block more -/
theorem cp_next {f : FuncM} {w0 wx : World} {bl : List VarD} {val val1 : Vals} {k : Nat} {b : BlockM} {v : Value} {V : Vals} {r : Rows} (hb : f.blocks[k]? = some b)
    (hV : V = upd (fun t => if blkOf t = some k then val1 (sh t) else val t) .blocks v)
    (hr : r = upd (fun t => if blkOf t = some k then rowOf (oneF b b.phis.length b.code.length) val1 (sh t) else rowOf (cutB f k) val t) .blocks (some ⟨46, 6, k + 1, cellsOf (blockCells val) 0 (f.blocks.take k) ++ [val1 (.phis 0), val1 (.code 0), .int .i64 b.term.op, .int .i64 b.term.val, val1 (.ends 0), .int .i64 b.term.n]⟩))
    (h : OwnC w0 wx r V (fun t => EE (cutB f k) k t ∨ DD k b.phis.length b.code.length t) bl) : OwnC w0 wx (rowOf (cutB f (k + 1)) V) V (EE (cutB f (k + 1)) (k + 1)) bl := by
  have hk := (List.getElem?_eq_some_iff.1 hb).1
  have hlast : f.blocks.take (k + 1) = f.blocks.take k ++ [b] := by rw [List.take_add_one, hb]; rfl
  have hcut : ∀ k', k' < k + 1 → (cutB f (k + 1)).blocks[k']? = f.blocks[k']? := fun k' h => by simp [cutB, h]
  have hcut0 : ∀ k', k' < k → (cutB f k).blocks[k']? = f.blocks[k']? := fun k' h => by simp [cutB, h]
  have hD : ∀ t, EE (cutB f (k + 1)) (k + 1) t → EE (cutB f k) k t ∨ DD k b.phis.length b.code.length t := fun t ht => by
    rcases ht with rfl | rfl | ⟨k', q, hk', hq, hd⟩
    · exact .inl (.inl rfl)
    · exact .inl (.inr (.inl rfl))
    · rw [hcut k' hk'] at hq
      by_cases e : k' = k
      · subst e
        rw [hb] at hq
        cases hq
        exact .inr hd
      · exact .inl (.inr (.inr ⟨k', q, by omega, by rw [hcut0 k' (by omega)]; exact hq, hd⟩))
  subst hV hr
  refine h.congr (fun t ht => ?_) (fun _ _ => rfl) hD
  rcases ht with rfl | rfl | ⟨k', q, hk', hq, hd⟩
  · rfl
  · rw [upd_same]
    show some (RowD.mk _ 6 (f.blocks.take (k + 1)).length (cellsOf _ 0 (f.blocks.take (k + 1)))) = _
    rw [hlast]
    congr 2
    · simp; omega
    · rw [cellsOf_push (g' := blockCells val)]
      · congr 1
        have hl : 0 + (f.blocks.take k).length = k := by simp; omega
        rw [hl]
        unfold blockCells
        simp [upd, blkOf, sh]
      · intro k2 b2 hk2
        have hki : k2 < k := by
          have := (List.getElem?_eq_some_iff.1 hk2).1
          simp at this
          omega
        unfold blockCells
        have : k2 ≠ k := by omega
        simp [upd, blkOf, this]
  · rw [hcut k' hk'] at hq
    have hblk := hd.blk
    by_cases e : k' = k
    · subst e
      rw [hb] at hq
      cases hq
      rw [upd_ne _ _ (by rintro rfl; cases hblk), if_pos hblk]
      have hq1 : (cutB f (k' + 1)).blocks[k']? = some b := by rw [hcut k' hk', hb]
      rcases hd with rfl | rfl | rfl | ⟨j, hj, rfl | rfl⟩ | ⟨j, hj, rfl⟩
      · simp only [rowOf, hq1, Option.map_some, sh, oneF, List.getElem?_cons_zero, List.take_length]
        congr 2
        exact cellsOf_congr _ _ fun i a _ => by unfold phiCells; simp [upd, blkOf]
      · simp only [rowOf, hq1, Option.map_some, sh, oneF, List.getElem?_cons_zero, List.take_length]
        congr 2
        exact cellsOf_congr _ _ fun i a _ => by unfold instrCells; simp [upd, blkOf]
      · simp only [rowOf, hq1, Option.map_some, sh, oneF, List.getElem?_cons_zero]
      · simp only [rowOf, hq1, Option.bind_some, sh, oneF, List.getElem?_cons_zero, List.take_length]
      · simp only [rowOf, hq1, Option.bind_some, sh, oneF, List.getElem?_cons_zero, List.take_length]
      · simp only [rowOf, hq1, Option.bind_some, sh, oneF, List.getElem?_cons_zero, List.take_length]
    · rw [upd_ne _ _ (by rintro rfl; cases hblk), if_neg (by rw [hblk]; simpa using e)]
      have hq1 : (cutB f (k + 1)).blocks[k']? = some q := by rw [hcut k' hk', hq]
      have hq0 : (cutB f k).blocks[k']? = some q := by rw [hcut0 k' (by omega), hq]
      rcases hd with rfl | rfl | rfl | ⟨j, hj, rfl | rfl⟩ | ⟨j, hj, rfl⟩
      · simp only [rowOf, hq1, hq0, Option.map_some]
        congr 2
        exact cellsOf_congr _ _ fun i a _ => by unfold phiCells; simp [upd, blkOf, e]
      · simp only [rowOf, hq1, hq0, Option.map_some]
        congr 2
        exact cellsOf_congr _ _ fun i a _ => by unfold instrCells; simp [upd, blkOf, e]
      · simp only [rowOf, hq1, hq0, Option.map_some]
      · simp only [rowOf, hq1, hq0, Option.bind_some]
      · simp only [rowOf, hq1, hq0, Option.bind_some]
      · simp only [rowOf, hq1, hq0, Option.bind_some]
theorem cp_first {f : FuncM} {w wx : World} {bl : List VarD} {val : Vals} {r : Rows} {v : Value} (h : OwnC w wx (upd r .params (some (intsRow f.params))) (upd val .params v) (fun t => False ∨ t = .params) bl) :
    ∃ val', val' .params = v ∧ val' .blocks = .slice none 0 0 ∧ OwnC w wx (rowOf (cutB f 0) val') val' (EE (cutB f 0) 0) bl := by
  refine ⟨fun t => if t = .params then v else .slice none 0 0, rfl, rfl, ?_⟩
  obtain ⟨⟨h1, h2, h3⟩, h4, h5, h6, h7⟩ := h
  have hv : ∀ t, EE (cutB f 0) 0 t → t = .params ∨ t = .blocks := fun t ht => by
    rcases ht with h | h | ⟨k, _, hk, _⟩
    · exact .inl h
    · exact .inr h
    · omega
  refine ⟨⟨fun t ht => ?_, fun t d ht hd => ?_, fun t t' g ht ht' e1 e2 => ?_⟩, h4, fun x hx t ht => ?_, h6, h7⟩
  · rcases hv t ht with rfl | rfl <;> rfl
  · rcases hv t ht with rfl | rfl
    · have := h2 .params (intsRow f.params) (.inr rfl) (upd_same _ _ _)
      rw [upd_same] at this
      cases hd
      exact this
    · cases hd
      exact World.ownsRow_nil _ _ _ _
  · rcases hv t ht with rfl | rfl
    · rcases hv t' ht' with rfl | rfl
      · rfl
      · cases e2
    · cases e1
  · rcases hv t ht with rfl | rfl
    · have := h5 x hx .params (.inr rfl)
      rw [upd_same] at this
      exact this
    · exact fun e => by cases e

structure SmallFn (f : FuncM) : Prop where
  params : f.params.length ≤ 100000
  blocks : f.blocks.length ≤ 100000
  each : ∀ b ∈ f.blocks, SmallB b

/-- what Copy answers -/
def CopyFPost (f : FuncM) (w : World) (e : Ending) (w' : World) : Prop :=
  ∃ val : Vals, e = .returned (.agg #[val .params, .int .i64 f.arrays, .int .i64 f.cells, val .blocks]) ∧ OwnG w' w.heap.size (rowOf f val) val (EE f f.blocks.length) ∧ Below w.heap.size w w'

def outF (f : FuncM) (val : Vals) : Array Value := #[val .params, .int .i64 f.arrays, .int .i64 f.cells, val .blocks]

def CpSt (f : FuncM) (w wx : World) (g3 gr gb : Nat) (bx rs : Array Value) (k : Nat) (val : Vals) : Prop :=
  OwnC w wx (rowOf (cutB f k) val) val (EE (cutB f k) k) [(g3, outF f val, 25), (gr, rs, 25), (gb, bx, 25)]

set_option maxRecDepth 100000 in
set_option maxHeartbeats 4000000 in
theorem copy_any (f : FuncM) (B : Nat) (pv bv : Value) (w : World) (hB : B ≤ w.heap.size) (hpv : Ints w B pv f.params) (hbv : BlocksR w B bv f.blocks) (hs : SmallFn f) :
    Calls Try.prog 16 #[.agg #[pv, .int .i64 f.arrays, .int .i64 f.cells, bv]] w (CopyFPost f w) := by
  have HP := hideI hpv
  have HBL := hideI hbv
  have HSM := hideI hs
  obtain ⟨P, pc, rfl, _, _⟩ := hpv
  obtain ⟨A, ac, rfl, _, _⟩ := hbv
  obtain ⟨np, hnp⟩ : ∃ n, n = f.params.length := ⟨_, rfl⟩
  obtain ⟨nb, hnb⟩ : ∃ n, n = f.blocks.length := ⟨_, rfl⟩
  rw [← hnp] at HP
  rw [← hnb] at HBL
  rw [← hnp, ← hnb]
  have HNN := hideI (And.intro hnp hnb)
  obtain ⟨W3, hW3⟩ : ∃ W3, W3 = ((w.alloc (.cells #[.slice P np pc, .int .i64 f.arrays, .int .i64 f.cells, .slice A nb ac] 25)).alloc (.cells #[.slice none 0 0, .int .i64 0, .int .i64 0, .slice none 0 0] 25)).alloc (.cells #[.slice P np pc, .int .i64 f.arrays, .int .i64 f.cells, .slice A nb ac] 25) := ⟨_, rfl⟩
  have hst := (((OwnC.nothing w (fun _ => none) (fun _ => .slice none 0 0)).make #[.slice P np pc, .int .i64 f.arrays, .int .i64 f.cells, .slice A nb ac] 25).make #[.slice none 0 0, .int .i64 0, .int .i64 0, .slice none 0 0] 25).make #[.slice P np pc, .int .i64 f.arrays, .int .i64 f.cells, .slice A nb ac] 25
  rw [← hW3] at hst
  simp only [World.size_alloc] at hst
  have HST := hideI hst
  have HW3 := hideI hW3
  have hkB : Hid (∀ W, Below w.heap.size w W → Keeps B w W) := hideI fun W hW => Keeps.of_below (hW.mono hB)
  clear hnp hnb hst hs hW3
  go_enter Try.func16, Try.ntmps16
  go_upto_region 2 with fail
  rw [← HW3.out]
  have hxb := row_cells (HST.out.cells _ (List.mem_cons_of_mem _ (List.mem_cons_of_mem _ (List.mem_cons_self ..)))).1 rfl
  have x0 := hxb 0
  have HS4 := hideI (HST.out.make #[] 3)
  have hge := (HS4.out.cells _ (List.mem_cons_self ..)).1
  have hT : Ints (W3.alloc (.cells #[] 3)) B (.slice P np pc) f.params := HP.out.keeps (hkB.out _ HS4.out.below)
  have hnt5 : f.params.length ≤ 100000 := HSM.out.params
  have hbs : w.heap.size ≤ W3.heap.size := HST.out.below.size
  have hlt0 : w.heap.size < W3.heap.size := HST.out.lt (List.mem_cons_of_mem _ (List.mem_cons_of_mem _ (List.mem_cons_self ..)))
  have hlt2 : w.heap.size + 1 + 1 < W3.heap.size := HST.out.lt (List.mem_cons_self ..)
  clear hxb
  go_upto_region 4 with (first
    | (at_builtin; go_must (refine wpList_copy rfl _ _ rfl B W3.heap.size (.slice P np pc) f.params rfl rfl hT hge hnt5 w.heap.size hbs ?_); intro A1 c1 w4 hown hg hv; have HS5 := hideI (OwnC.comes (t0 := .params) (d := intsRow f.params) HS4.out (fun h => h) hg hown hv); have hxo := row_cells (HS5.out.cells _ (List.mem_cons_self ..)).1 rfl; have hzo := fun o => frozen_of_row w4 (w.heap.size + 1 + 1) o _ _ (HS5.out.cells _ (List.mem_cons_self ..)).1; have y0 := hxo 0; have z0 := hzo 0; have y3 := hxo 3; have z3 := hzo 3; clear hxo hzo hown hg hv hT hge x0))
  have hs6 := OwnC.store (j := 3) (OwnC.store (j := 0) HS5.out (.slice A1 f.params.length c1)) (.slice none 0 0)
  simp only [List.setIfInBounds_toArray, List.set_cons_zero, List.set_cons_succ] at hs6
  obtain ⟨val, hv1, hv2, hst⟩ := cp_first hs6
  obtain ⟨W6, hW6⟩ : ∃ W6, W6 = (w4.setCell ⟨w.heap.size + 1 + 1, 0, none⟩ (.slice A1 f.params.length c1)).setCell ⟨w.heap.size + 1 + 1, 3, none⟩ (.slice none 0 0) := ⟨_, rfl⟩
  rw [← hW6] at hst ⊢
  have hst : CpSt f w W6 (w.heap.size + 1 + 1) (w.heap.size + 1) w.heap.size #[.slice P np pc, .int .i64 f.arrays, .int .i64 f.cells, .slice A nb ac] #[.slice none 0 0, .int .i64 0, .int .i64 0, .slice none 0 0] 0 val := by
    unfold CpSt outF
    rw [hv1, hv2]
    exact hst
  obtain ⟨g3, hg3⟩ : ∃ g, g = w.heap.size + 1 + 1 := ⟨_, rfl⟩
  rw [← hg3] at hst ⊢
  obtain ⟨bx, hbx⟩ : ∃ bx : Array Value, bx = #[.slice P np pc, .int .i64 f.arrays, .int .i64 f.cells, .slice A nb ac] := ⟨_, rfl⟩
  obtain ⟨rs, hrs⟩ : ∃ rs : Array Value, rs = #[.slice none 0 0, .int .i64 0, .int .i64 0, .slice none 0 0] := ⟨_, rfl⟩
  rw [← hbx, ← hrs] at hst
  have HCB := hideI hst
  have HBOX : Hid (∀ (wx : World) (k : Nat) (val : Vals), CpSt f w wx g3 (w.heap.size + 1) w.heap.size bx rs k val → wx.cell? ⟨w.heap.size, 3, none⟩ = some (.slice A nb ac) ∧ w.heap.size < wx.heap.size ∧ g3 < wx.heap.size ∧ (∀ o, wx.cell? ⟨g3, o, none⟩ = (outF f val)[o]?) ∧ ∀ o, wx.frozen? ⟨g3, o, none⟩ = false) := hideI fun wx k val h => by
    have hm := List.mem_cons_of_mem (g3, outF f val, 25) (List.mem_cons_of_mem (w.heap.size + 1, rs, 25) (List.mem_cons_self (a := (w.heap.size, bx, 25)) (l := [])))
    have hx := row_cells (h.cells _ hm).1 rfl
    rw [hbx] at hx
    exact ⟨hx 3, h.lt hm, h.lt (List.mem_cons_self ..), row_cells (h.cells _ (List.mem_cons_self ..)).1 rfl, fun o => frozen_of_row wx g3 o _ _ (h.cells _ (List.mem_cons_self ..)).1⟩
  have HBX := hideI (And.intro hbx hrs)
  clear hst hv1 hv2 hW6 y0 z0 y3 z3 HS4 HS5 HST HW3 hg3 hbs hnt5 hlt0 hlt2 hs6 hbx hrs
  go_upto_region 5 with fail
  go_loopw [4] (fun u wr => ∃ (k : Nat) (val : Vals), k ≤ nb ∧ u = .int .i64 k ∧ Hid (CpSt f w wr g3 (w.heap.size + 1) w.heap.size bx rs k val)) (fun u _ => nb - (intOf u).toNat)
  case atStart => exact ⟨0, val, Nat.zero_le _, by go_num, HCB⟩
  case round =>
    obtain ⟨k, val, hk, rfl, HC1⟩ := hrel
    obtain ⟨x3, hlb, hl3, hx3, hz3⟩ := HBOX.out _ _ _ HC1.out
    have hn2 := HNN.out.2
    have hnb5 : nb ≤ 100000 := by rw [hn2]; exact HSM.out.blocks
    clear hn2
    by_cases hlt : k < nb
    · obtain ⟨b, hb⟩ : ∃ b, f.blocks[k]? = some b := ⟨_, List.getElem?_eq_getElem (by have := HNN.out.2; omega)⟩
      have hbl := HBL.out.keeps (hkB.out _ HC1.out.below)
      obtain ⟨A', c', e', _, hblk⟩ := hbl
      injection e' with e1 e2 e3
      subst e1 e3
      obtain ⟨b0, off, pv, cv, tv, rfl, hb0, c0, c1, c2, c3, c4, c5, hph, hco, hen, _⟩ := hblk k b hb
      obtain ⟨Ph, phc, rfl, _⟩ := id hph
      obtain ⟨Co, coc, rfl, _⟩ := id hco
      obtain ⟨En, enc, rfl, _⟩ := id hen
      have hlen : (f.blocks.take k).length = k := by have := (List.getElem?_eq_some_iff.1 hb).1; simp; omega
      obtain ⟨Ab, cab, hvb⟩ := own_form (HC1.out.own.rows .blocks _ (.inr (.inl rfl)) rfl)
      have hvb : val .blocks = .slice Ab k cab := by
        have h : val .blocks = .slice Ab (f.blocks.take k).length cab := hvb
        rw [hlen] at h
        exact h
      have h33 : wr.cell? ⟨g3, 3, none⟩ = some (.slice Ab k cab) := by rw [hx3 3, ← hvb]; rfl
      have i1 : (0 : Int) ≤ (k : Int) := by omega
      have i2 : (k : Int) < (nb : Int) := by omega
      have HVB := hideI hvb
      have HBK := hideI hb
      have HLEN := hideI hlen
      have HIN := hideI (And.intro hph (And.intro hco hen))
      have HSB := hideI (HSM.out.each b (List.mem_of_getElem? hb))
      have HZ3 := hideI hz3
      clear hvb hb hlen hph hco hen hz3 hx3 hblk e2
      go_upto_region 7 with fail
      have hS0 : wr.drew.cell? ⟨g3, 3, none⟩ = some (.slice Ab k cab) ∧ wr.drew.cell? ⟨w.heap.size, 3, none⟩ = some (.slice (some ⟨b0, off, none⟩) nb ac) ∧ wr.drew.cell? ⟨b0, off + k * 6, none⟩ = some (.slice Ph b.phis.length phc) ∧ wr.drew.cell? ⟨b0, off + k * 6 + 1, none⟩ = some (.slice Co b.code.length coc) ∧ wr.drew.cell? ⟨b0, off + k * 6 + 2, none⟩ = some (.int .i64 b.term.op) ∧ wr.drew.cell? ⟨b0, off + k * 6 + 3, none⟩ = some (.int .i64 b.term.val) ∧ wr.drew.cell? ⟨b0, off + k * 6 + 4, none⟩ = some (.slice En b.term.to.length enc) ∧ wr.drew.cell? ⟨b0, off + k * 6 + 5, none⟩ = some (.int .i64 b.term.n) := ⟨h33, x3, c0, c1, c2, c3, c4, c5⟩
      have HIC : Hid (∀ W, Keeps B wr W → (W.cell? ⟨b0, off + k * 6, none⟩ = some (.slice Ph b.phis.length phc) ∧ W.cell? ⟨b0, off + k * 6 + 1, none⟩ = some (.slice Co b.code.length coc) ∧ W.cell? ⟨b0, off + k * 6 + 2, none⟩ = some (.int .i64 b.term.op) ∧ W.cell? ⟨b0, off + k * 6 + 3, none⟩ = some (.int .i64 b.term.val) ∧ W.cell? ⟨b0, off + k * 6 + 4, none⟩ = some (.slice En b.term.to.length enc) ∧ W.cell? ⟨b0, off + k * 6 + 5, none⟩ = some (.int .i64 b.term.n))) := hideI fun W h => ⟨(h _ _ hb0).trans c0, (h _ _ hb0).trans c1, (h _ _ hb0).trans c2, (h _ _ hb0).trans c3, (h _ _ hb0).trans c4, (h _ _ hb0).trans c5⟩
      have HSX : Hid (∀ (W : World) (row : Rows) (vv : Vals) (D : Tag → Prop), OwnC w W row vv D [(g3, outF f val, 25), (w.heap.size + 1, rs, 25), (w.heap.size, bx, 25)] → Keeps B wr W → (W.cell? ⟨g3, 3, none⟩ = some (.slice Ab k cab) ∧ W.cell? ⟨w.heap.size, 3, none⟩ = some (.slice (some ⟨b0, off, none⟩) nb ac) ∧ W.cell? ⟨b0, off + k * 6, none⟩ = some (.slice Ph b.phis.length phc) ∧ W.cell? ⟨b0, off + k * 6 + 1, none⟩ = some (.slice Co b.code.length coc) ∧ W.cell? ⟨b0, off + k * 6 + 2, none⟩ = some (.int .i64 b.term.op) ∧ W.cell? ⟨b0, off + k * 6 + 3, none⟩ = some (.int .i64 b.term.val) ∧ W.cell? ⟨b0, off + k * 6 + 4, none⟩ = some (.slice En b.term.to.length enc) ∧ W.cell? ⟨b0, off + k * 6 + 5, none⟩ = some (.int .i64 b.term.n))) := hideI fun W row vv D h hkp => by
        have hx := row_cells (h.cells _ (List.mem_cons_self ..)).1 rfl
        have hxb := row_cells (h.cells _ (List.mem_cons_of_mem _ (List.mem_cons_of_mem _ (List.mem_cons_self ..)))).1 rfl
        rw [HBX.out.1] at hxb
        refine ⟨?_, hxb 3, HIC.out W hkp⟩
        rw [← HVB.out]
        exact hx 3
      refine wp_region_late (by kernel_rfl) (fun W => W.cell? ⟨g3, 3, none⟩ = some (.slice Ab k cab) ∧ W.cell? ⟨w.heap.size, 3, none⟩ = some (.slice (some ⟨b0, off, none⟩) nb ac) ∧ W.cell? ⟨b0, off + k * 6, none⟩ = some (.slice Ph b.phis.length phc) ∧ W.cell? ⟨b0, off + k * 6 + 1, none⟩ = some (.slice Co b.code.length coc) ∧ W.cell? ⟨b0, off + k * 6 + 2, none⟩ = some (.int .i64 b.term.op) ∧ W.cell? ⟨b0, off + k * 6 + 3, none⟩ = some (.int .i64 b.term.val) ∧ W.cell? ⟨b0, off + k * 6 + 4, none⟩ = some (.slice En b.term.to.length enc) ∧ W.cell? ⟨b0, off + k * 6 + 5, none⟩ = some (.int .i64 b.term.n)) [11] ?_
      refine wpAnyT_quiet (i := 0) (v := ?_) rfl (by kernel_rfl) (by kernel_rfl) (by kernel_rfl) (fun _ _ _ h => h) (Or.inl ⟨by rfl, ?_⟩) ?_
      rotate_left
      · (intro w; go_simp; try with_reducible rfl)
      simp only [Act.put, List.setIfInBounds_toArray, List.set_cons_zero, List.set_cons_succ]
      refine wpAnyT_take [9, 11] (i := 1) (v := ?_) rfl (by kernel_rfl) (by kernel_rfl) (by kernel_rfl) (by kernel_rfl) (by kernel_rfl) (by kernel_rfl) (fun _ _ _ h => h) hS0 (Or.inl ⟨by rfl, ?_⟩) ?_
      rotate_left
      · (intro w hSw; go_split_ands; go_simp; try with_reducible rfl)
      simp only [Act.put, List.setIfInBounds_toArray, List.set_cons_zero, List.set_cons_succ]
      refine wpAnyT_quiet (i := 2) (v := ?_) rfl (by kernel_rfl) (by kernel_rfl) (by kernel_rfl) (fun _ _ _ h => h) (Or.inl ⟨by rfl, ?_⟩) ?_
      rotate_left
      · (intro w; go_simp; try with_reducible rfl)
      simp only [Act.put, List.setIfInBounds_toArray, List.set_cons_zero, List.set_cons_succ]
      refine wpAnyT_take [5, 6, 7, 8, 9, 11] (i := 3) (v := ?_) rfl (by kernel_rfl) (by kernel_rfl) (by kernel_rfl) (by kernel_rfl) (by kernel_rfl) (by kernel_rfl) (fun _ _ _ h => h) hS0 (Or.inl ⟨by rfl, ?_⟩) ?_
      rotate_left
      · (intro w hSw; go_split_ands; go_simp; try with_reducible rfl)
      simp only [Act.put, List.setIfInBounds_toArray, List.set_cons_zero, List.set_cons_succ]
      refine wpAnyT_quiet (i := 4) (v := ?_) rfl (by kernel_rfl) (by kernel_rfl) (by kernel_rfl) (fun _ _ _ h => h) (Or.inl ⟨by rfl, ?_⟩) ?_
      rotate_left
      · (intro w; go_simp; try with_reducible rfl)
      simp only [Act.put, List.setIfInBounds_toArray, List.set_cons_zero, List.set_cons_succ]
      refine wpAnyT_quiet (i := 5) (v := ?_) rfl (by kernel_rfl) (by kernel_rfl) (by kernel_rfl) (fun _ _ _ h => h) (Or.inl ⟨by rfl, ?_⟩) ?_
      rotate_left
      · (intro w; go_simp; try with_reducible rfl)
      simp only [Act.put, List.setIfInBounds_toArray, List.set_cons_zero, List.set_cons_succ]
      refine wpAnyT_take [7, 8, 9, 11] (i := 6) (v := ?_) rfl (by kernel_rfl) (by kernel_rfl) (by kernel_rfl) (by kernel_rfl) (by kernel_rfl) (by kernel_rfl) (fun _ _ _ h => h) hS0 (Or.inl ⟨by rfl, ?_⟩) ?_
      rotate_left
      · (intro w hSw; go_split_ands; go_simp; try with_reducible rfl)
      simp only [Act.put, List.setIfInBounds_toArray, List.set_cons_zero, List.set_cons_succ]
      refine wpAnyT_ready (rs := [7]) (by kernel_rfl) (by simp) ?_
      refine AllReadyT.cons rfl (fun K hK => ?_) ?_
      · go_simp
        refine (copyBlock_any b B _ _ _ wr.drew (Nat.le_trans hB (HC1.out.below).size) (HIN.out.1.keeps (fun _ _ _ => rfl)) (HIN.out.2.1.keeps (fun _ _ _ => rfl)) (HIN.out.2.2.keeps (fun _ _ _ => rfl)) HSB.out).mono ?_
        rintro e w2 ⟨val1, rfl, hown1, hb1⟩
        have hS1 := (OwnC.grows HC1.out (Below.refl _ _).drew).join hb1 (r3 := fun t => if blkOf t = some k then rowOf (oneF b b.phis.length b.code.length) val1 (sh t) else rowOf (cutB f k) val t) (v3 := fun t => if blkOf t = some k then val1 (sh t) else val t) (hown1.turn (D' := DD k b.phis.length b.code.length) sh (fun t ht => ht.sh) (fun t t' h h' e => h.inj h' e)) (fun t ht => ⟨if_neg fun e => EE.not e ht, if_neg fun e => EE.not e ht⟩) (fun t ht => ⟨if_pos ht.blk, if_pos ht.blk⟩)
        obtain ⟨Aph, cph, hv1⟩ := own_form (hown1.rows (.phis 0) _ rfl rfl)
        obtain ⟨Aco, cco, hv2⟩ := own_form (hown1.rows (.code 0) _ rfl rfl)
        obtain ⟨Aen, cen, hv3⟩ := own_form (hown1.rows (.ends 0) _ rfl rfl)
        obtain ⟨nph, hnph⟩ : ∃ n, val1 (.phis 0) = .slice Aph n cph := ⟨_, hv1⟩
        obtain ⟨nco, hnco⟩ : ∃ n, val1 (.code 0) = .slice Aco n cco := ⟨_, hv2⟩
        obtain ⟨nen, hnen⟩ : ∃ n, val1 (.ends 0) = .slice Aen n cen := ⟨_, hv3⟩
        clear hv1 hv2 hv3 hown1
        dsimp only
        rw [hnph, hnco, hnen]
        have hkp : Keeps B wr w2 := Keeps.trans (fun _ _ _ => rfl : Keeps B wr wr.drew) (Keeps.of_below (hb1.mono (Nat.le_trans hB HC1.out.below.size)))
        refine hK.out _ _ (fun _ _ => HSX.out _ _ _ _ hS1 hkp) ?_
        clear hK K
        try simp only [Act.put, List.setIfInBounds_toArray, List.set_cons_zero, List.set_cons_succ]
        have HS1 := hideI hS1
        clear hS1
        refine wpAnyT_ready (rs := [8]) (by kernel_rfl) (by simp) ?_
        refine AllReadyT.cons rfl (fun K hK => ?_) ?_
        · go_simp
          have HS2 := hideI (HS1.out.make #[.slice Aph nph cph, .slice Aco nco cco, .int .i64 b.term.op, .int .i64 b.term.val, .slice Aen nen cen, .int .i64 b.term.n] 46)
          have hkp2 : Keeps B wr (w2.alloc (.cells #[.slice Aph nph cph, .slice Aco nco cco, .int .i64 b.term.op, .int .i64 b.term.val, .slice Aen nen cen, .int .i64 b.term.n] 46)) := hkp.alloc (Nat.le_trans hB HS1.out.below.size) _
          refine hK.out _ _ (fun _ _ => HSX.out _ _ _ _ (HS2.out.drop (List.sublist_cons_self _ _)) hkp2) ?_
          clear hK K
          try simp only [Act.put, List.setIfInBounds_toArray, List.set_cons_zero, List.set_cons_succ]
          obtain ⟨wb, hwb⟩ : ∃ wb, wb = w2.alloc (.cells #[.slice Aph nph cph, .slice Aco nco cco, .int .i64 b.term.op, .int .i64 b.term.val, .slice Aen nen cen, .int .i64 b.term.n] 46) := ⟨_, rfl⟩
          have hown0 := HS2.out.own.rows .blocks ⟨46, 6, (f.blocks.take k).length, cellsOf (blockCells val) 0 (f.blocks.take k)⟩ (.inl (.inr (.inl rfl))) (if_neg (by simp [blkOf]))
          rw [show (if blkOf Tag.blocks = some k then val1 (sh Tag.blocks) else val Tag.blocks) = val .blocks from if_neg (by simp [blkOf]), HVB.out] at hown0
          simp only [HLEN.out] at hown0
          have hnews := World.news_of_block (HS2.out.cells _ (List.mem_cons_self ..)).1
          obtain ⟨i0, hix, hz0, hz1, hz2⟩ := info_parts block_info
          have hb7 := HS2.out.below.size
          refine wpAnyT_ready (rs := [9]) (by kernel_rfl) (by simp) ?_
          refine AllReadyT.cons rfl (fun K hK => ?_) ?_
          · refine step_append_lies _ rfl (.tmp 20) (.tmp 27) _ rfl w.heap.size 46 i0 _ 6 96 Try.underlying23 hix hz0 hz1 hz2 rfl (by decide) (.slice Ab k cab) k _ rfl hown0 ⟨w2.heap.size, 0, none⟩ 1 1 [.slice Aph nph cph, .slice Aco nco cco, .int .i64 b.term.op, .int .i64 b.term.val, .slice Aen nen cen, .int .i64 b.term.n] rfl rfl hnews (by simp [Value.oneCell']) (by decide) (by unfold maxLen; omega) (by omega) hb7 _ rfl ?_
            intro g1 cap1 w5 hown5 hgrow5 hor5 _
            have HS3 := hideI (OwnC.drop (OwnC.grow (t0 := .blocks) (d := ⟨46, 6, k + 1, cellsOf (blockCells val) 0 (f.blocks.take k) ++ [.slice Aph nph cph, .slice Aco nco cco, .int .i64 b.term.op, .int .i64 b.term.val, .slice Aen nen cen, .int .i64 b.term.n]⟩) HS2.out (.inl (.inr (.inl rfl))) hown5 (by rw [show (if blkOf Tag.blocks = some k then val1 (sh Tag.blocks) else val Tag.blocks) = val .blocks from if_neg (by simp [blkOf]), HVB.out]; exact hgrow5) rfl (by rw [show (if blkOf Tag.blocks = some k then val1 (sh Tag.blocks) else val Tag.blocks) = val .blocks from if_neg (by simp [blkOf]), HVB.out]; exact hor5)) (List.sublist_cons_self _ _))
            have hkp5 : Keeps B wr w5 := fun b' o hb' => by
              have hbw : b' < w.heap.size := Nat.lt_of_lt_of_le hb' hB
              exact (hkB.out _ HS3.out.below b' o hb').trans ((hkB.out _ HC1.out.below b' o hb').symm)
            refine hK.out _ _ (fun _ _ => HSX.out _ _ _ _ HS3.out hkp5) ?_
            clear hK K hown5 hgrow5 hor5
            try simp only [Act.put, List.setIfInBounds_toArray, List.set_cons_zero, List.set_cons_succ]
            refine wpAnyT_quiet (i := 10) (v := ?_) rfl (by kernel_rfl) (by kernel_rfl) (by kernel_rfl) (fun _ _ _ h => h) (Or.inl ⟨by rfl, ?_⟩) ?_
            rotate_left
            · (intro w; go_simp; try with_reducible rfl)
            try simp only [Act.put, List.setIfInBounds_toArray, List.set_cons_zero, List.set_cons_succ]
            have y3 : w5.cell? ⟨g3, 3, none⟩ = some (.slice Ab k cab) := (HSX.out _ _ _ _ HS3.out hkp5).1
            have z3 : w5.frozen? ⟨g3, 3, none⟩ = false := frozen_of_row w5 g3 3 _ _ (HS3.out.cells _ (List.mem_cons_self ..)).1
            refine wpAnyT_ready (rs := [11]) (by kernel_rfl) (by simp) ?_
            refine AllReadyT.cons rfl (fun K hK => ?_) ?_
            · go_simp
              refine hK.out _ _ (fun h => absurd (by simp) h) ?_
              clear hK K
              try simp only [Act.put, List.setIfInBounds_toArray, List.set_cons_zero, List.set_cons_succ]
              refine wpAnyT_done (by kernel_rfl) ?_ _
              have hs4 := OwnC.store (j := 3) HS3.out (.slice (some ⟨g1, 0, none⟩) (k + 1) cap1)
              have HS5 := hideI (cp_next HBK.out rfl (by rw [hnph, hnco, hnen]) hs4)
              clear hs4 hown0 hnews hS0 y3 z3 h33
              go_wp2
              refine ⟨⟨k + 1, upd (fun t => if blkOf t = some k then val1 (sh t) else val t) .blocks (.slice (some ⟨g1, 0, none⟩) (k + 1) cap1), by omega, by go_num, hideI ?_⟩, by simp [intOf]; omega⟩
              have e : outF f (upd (fun t => if blkOf t = some k then val1 (sh t) else val t) .blocks (.slice (some ⟨g1, 0, none⟩) (k + 1) cap1)) = (outF f val).setIfInBounds 3 (.slice (some ⟨g1, 0, none⟩) (k + 1) cap1) := by
                unfold outF
                simp [upd, blkOf]
              unfold CpSt
              rw [e]
              exact HS5.out
            · exact AllReadyT.nil
          · exact AllReadyT.nil
        · exact AllReadyT.nil
      · exact AllReadyT.nil
    · have hke : k = nb := by omega
      have HKE := hideI hke
      clear hke hx3 hz3
      obtain ⟨Apa, cpa, hv1⟩ := own_form (HC1.out.own.rows .params _ (.inl rfl) rfl)
      obtain ⟨Abl, cbl, hv2⟩ := own_form (HC1.out.own.rows .blocks _ (.inr (.inl rfl)) rfl)
      obtain ⟨npa, hnpa⟩ : ∃ n, val .params = .slice Apa n cpa := ⟨_, hv1⟩
      obtain ⟨nbl, hnbl⟩ : ∃ n, val .blocks = .slice Abl n cbl := ⟨_, hv2⟩
      have hxo := row_cells (HC1.out.cells _ (List.mem_cons_self ..)).1 rfl
      have hxr := row_cells (HC1.out.cells _ (List.mem_cons_of_mem _ (List.mem_cons_self ..))).1 rfl
      have hzr := fun o => frozen_of_row wr (w.heap.size + 1) o _ _ (HC1.out.cells _ (List.mem_cons_of_mem _ (List.mem_cons_self ..))).1
      have hcr : ∀ o, wr.cell? ⟨w.heap.size + 1, o, none⟩ = (#[.slice none 0 0, .int .i64 0, .int .i64 0, .slice none 0 0] : Array Value)[o]? := fun o => by rw [← HBX.out.2]; exact hxr o
      have hc3 : ∀ o, wr.cell? ⟨g3, o, none⟩ = (#[.slice Apa npa cpa, .int .i64 f.arrays, .int .i64 f.cells, .slice Abl nbl cbl] : Array Value)[o]? := fun o => by rw [← hnpa, ← hnbl]; exact hxo o
      have a0 := hc3 0
      have a1 := hc3 1
      have a2 := hc3 2
      have a3 := hc3 3
      have b0 := hcr 0
      have b1 := hcr 1
      have b2 := hcr 2
      have b3 := hcr 3
      have z0 := hzr 0
      have z1 := hzr 1
      have z2 := hzr 2
      have z3 := hzr 3
      have hp := OwnC.perm HC1.out (List.Perm.swap _ _ _)
      rw [HBX.out.2] at hp
      have h6 := (((hp.store (j := 0) (.slice Apa npa cpa)).store (j := 1) (.int .i64 f.arrays)).store (j := 2) (.int .i64 f.cells)).store (j := 3) (.slice Abl nbl cbl)
      simp only [List.setIfInBounds_toArray, List.set_cons_zero, List.set_cons_succ] at h6
      have H6 := hideI h6
      clear hxo hxr hzr hcr hc3 hv1 hv2 hp h6
      go_wp2
      obtain ⟨W8, hW8⟩ : ∃ W8, W8 = (((wr.setCell ⟨w.heap.size + 1, 0, none⟩ (.slice Apa npa cpa)).setCell ⟨w.heap.size + 1, 1, none⟩ (.int .i64 f.arrays)).setCell ⟨w.heap.size + 1, 2, none⟩ (.int .i64 f.cells)).setCell ⟨w.heap.size + 1, 3, none⟩ (.slice Abl nbl cbl) := ⟨_, rfl⟩
      rw [← hW8] at H6 ⊢
      have hx := row_cells (H6.out.cells _ (List.mem_cons_self ..)).1 rfl
      have s0 := hx 0
      have s1 := hx 1
      have s2 := hx 2
      have s3 := hx 3
      clear hx hW8 a0 a1 a2 a3 b0 b1 b2 b3 z0 z1 z2 z3
      refine bodyPost_ret (v := .agg #[.slice Apa npa cpa, .int .i64 f.arrays, .int .i64 f.cells, .slice Abl nbl cbl]) (by simp [results, Try.results16, go_sem, s0, s1, s2, s3]) rfl ?_
      refine ⟨val, by rw [hnpa, hnbl], ?_, H6.out.below⟩
      have hown := H6.out.own
      rw [HKE.out, HNN.out.2, show cutB f f.blocks.length = f by simp [cutB]] at hown
      exact hown
end Go.Proofs.Ytncmnbchkabgaaa

namespace Go.Proofs.Ytncmnbchkabgaaa
open Go.RowKit Go.Maps

def GOrderPost (f : FuncM) (w : World) (e : Ending) (w' : World) : Prop :=
  ((lookM f).1 ≠ 0 ∧ e = .returned (.tuple #[.slice none 0 0, .int .i64 (lookM f).1]) ∧ Below w.heap.size w w') ∨
  ((lookM f).1 = 0 ∧ ∃ (o : List Nat) (g cap : Nat), e = .returned (.tuple #[.slice (some ⟨g, 0, none⟩) o.length cap, .int .i64 0]) ∧ OrderIs f.blocks o ∧ 0 < o.length ∧ o.length ≤ f.blocks.length ∧ w'.ownsRow w.heap.size 3 1 (.slice (some ⟨g, 0, none⟩) o.length cap) o.length (natInts o) ∧ Below w.heap.size w w')

set_option maxRecDepth 100000 in
set_option maxHeartbeats 1000000 in
theorem gOrder_any (f : FuncM) (B : Nat) (pv bv : Value) (w : World) (hpv : Ints w B pv f.params) (hbv : BlocksR w B bv f.blocks) (hB : B ≤ w.heap.size) (hid : ∀ u ∈ usesM f, I64 u.1) :
    Calls Try.prog 18 #[.agg #[pv, .int .i64 f.arrays, .int .i64 f.cells, bv]] w (GOrderPost f w) := by
  have HP := hideI hpv
  have HBL := hideI hbv
  have HID := hideI hid
  obtain ⟨P, pc, rfl, _⟩ := hpv
  obtain ⟨A, c, rfl, hbm, _⟩ := hbv
  have HX := hideI (heap_alloc_new w (.cells #[.slice P f.params.length pc, .int .i64 f.arrays, .int .i64 f.cells, .slice A f.blocks.length c] 25))
  have HK : Hid (Keeps B w (w.alloc (.cells #[.slice P f.params.length pc, .int .i64 f.arrays, .int .i64 f.cells, .slice A f.blocks.length c] 25))) := (Keeps.refl w).alloc hB _
  have HB0 : Hid (Below w.heap.size w (w.alloc (.cells #[.slice P f.params.length pc, .int .i64 f.arrays, .int .i64 f.cells, .slice A f.blocks.length c] 25))) := (Below.refl _ w).alloc (Nat.le_refl _) _
  clear hid
  by_cases h0 : (lookM f).1 = 0
  · have H0 := hideI h0
    have hnb := look_some_block h0
    clear h0
    go_enter Try.func18, Try.ntmps18
    go_wp2_with (first
      | (go_at_call 11; go_must (refine (check_any f B _ _ _ (HP.out.keeps HK.out) (HBL.out.keeps HK.out) (by simp; omega) HID.out).mono ?_); rw [H0.out]; rintro e w1 ⟨rfl, hb⟩; have HB1 := hideI (HB0.out.trans (hb.mono (by simp))); have hxx := row_cells ((hb.block _ (lt_of_heap HX.out)).trans HX.out) rfl; have q0 := hxx 0; have q1 := hxx 1; have q2 := hxx 2; have q3 := hxx 3; have hl1 : w.heap.size < w1.heap.size := (by have := hb.size; simp at this; omega); clear hb hxx)
      | (go_at_call 37; go_must (refine (order_any f.blocks w.heap.size _ _ _ _ _ ((HBL.out.more' hB).keeps (Keeps.of_below HB1.out)) (by omega) hnb.1 hnb.2 (look_ends H0.out)).mono ?_); rintro e w2 ⟨o, g, cap, rfl, ho, ho0, ho1, hown, hb2⟩; have HO := hideI ho; have HW := hideI hown; have HB2 := hideI hb2; clear ho hown hb2))
    go_ret2
    exact .inr ⟨H0.out, o, g, cap, rfl, HO.out, ho0, ho1, World.ownsRow.mono HW.out (by omega), HB1.out.trans (HB2.out.mono (by omega))⟩
  · have H0 := hideI h0
    have hb : ((lookM f).1 != 0) = true := by simpa using h0
    clear h0
    go_enter Try.func18, Try.ntmps18
    go_wp2_with (first
      | (go_at_call 11; go_must (refine (check_any f B _ _ _ (HP.out.keeps HK.out) (HBL.out.keeps HK.out) (by simp; omega) HID.out).mono ?_); rintro e w1 ⟨rfl, hb1⟩; have HB1 := hideI (HB0.out.trans (hb1.mono (by simp))); clear hb1))
    go_ret2
    exact .inl ⟨H0.out, rfl, HB1.out⟩

end Go.Proofs.Ytncmnbchkabgaaa

namespace Go.Proofs.Ytncmnbchkabgaaa
open Go.RowKit Go.Maps

/-- is there a k-th way out of block from -/
def hasM (bs : List BlockM) (from_ k : Int) : Bool :=
  decide (0 ≤ from_) && decide (from_ < bs.length) && decide (0 ≤ k) && (match bs[from_.toNat]? with | some b => decide (k < b.term.to.length) | none => false)

theorem hasM_yes {bs : List BlockM} {from_ k : Int} (h : hasM bs from_ k = true) : ∃ (i j : Nat) (b : BlockM), from_ = i ∧ k = j ∧ bs[i]? = some b ∧ j < b.term.to.length := by
  unfold hasM at h
  simp only [Bool.and_eq_true, decide_eq_true_eq] at h
  obtain ⟨⟨⟨h1, h2⟩, h3⟩, h4⟩ := h
  obtain ⟨i, rfl⟩ := Int.eq_ofNat_of_zero_le h1
  obtain ⟨j, rfl⟩ := Int.eq_ofNat_of_zero_le h3
  rw [Int.toNat_natCast] at h4
  cases hb : bs[i]? with
  | none => rw [hb] at h4; cases h4
  | some b =>
    rw [hb] at h4
    simp only [decide_eq_true_eq] at h4
    exact ⟨i, j, b, rfl, rfl, hb, by omega⟩

def HasPost (bs : List BlockM) (from_ k : Int) (w : World) (e : Ending) (w' : World) : Prop := e = .returned (.bool (hasM bs from_ k)) ∧ Below w.heap.size w w'

set_option maxRecDepth 100000 in
set_option maxHeartbeats 2000000 in
theorem hasEdge_any (bs : List BlockM) (from_ k : Int) (B : Nat) (pv av cv bv : Value) (w : World) (hbv : BlocksR w B bv bs) (hB : B ≤ w.heap.size) :
    Calls Try.prog 22 #[.agg #[pv, av, cv, bv], .int .i64 from_, .int .i64 k] w (HasPost bs from_ k w) := by
  have HBL := hideI hbv
  obtain ⟨A, c, rfl, _, hbm⟩ := hbv
  have HBM := hideI hbm
  have HX := hideI (heap_alloc_new w (.cells #[pv, av, cv, .slice A bs.length c] 37))
  have HB0 : Hid (Below w.heap.size w (w.alloc (.cells #[pv, av, cv, .slice A bs.length c] 37))) := (Below.refl _ w).alloc (Nat.le_refl _) _
  clear hbm
  by_cases h1 : 0 ≤ from_
  · by_cases h2 : from_ < bs.length
    · by_cases h3 : 0 ≤ k
      · obtain ⟨i, rfl⟩ := Int.eq_ofNat_of_zero_le h1
        have hi : i < bs.length := by omega
        obtain ⟨b, hb⟩ : ∃ b, bs[i]? = some b := ⟨_, List.getElem?_eq_getElem hi⟩
        obtain ⟨g, off, _, _, tv, rfl, hg, _, _, _, _, q4, _, _, _, hto, _⟩ := HBM.out i b hb
        obtain ⟨T, tc, rfl, _⟩ := hto
        have HB := hideI hb
        have Q4 : Hid (∀ W, Below w.heap.size w W → W.cell? ⟨g, off + i * 6 + 4, none⟩ = some (.slice T b.term.to.length tc)) := fun W hW => (World.cell?_of_block (a := ⟨g, off + i * 6 + 4, none⟩) (hW.block g (by omega))).trans q4
        have q5 := Q4.out _ HB0.out
        clear hb q4
        by_cases h4 : k < b.term.to.length
        · have hd : decide (k < (b.term.to.length : Int)) = true := by simpa using h4
          go_enter Try.func22, Try.ntmps22
          go_wp2
          go_ret
          exact ⟨by simp [hasM, HB.out, h1, h2, h3, h4], HB0.out⟩
        · have hd : decide (k < (b.term.to.length : Int)) = false := by simpa using h4
          go_enter Try.func22, Try.ntmps22
          go_wp2
          go_ret
          exact ⟨by simp [hasM, HB.out, h1, h2, h3, h4], HB0.out⟩
      · go_enter Try.func22, Try.ntmps22
        go_wp2
        go_ret
        exact ⟨congrArg (fun b => Ending.returned (.bool b)) (show false = hasM bs from_ k by unfold hasM; rw [decide_eq_false (show ¬ (0 : Int) ≤ k by omega)]; simp), HB0.out⟩
    · go_enter Try.func22, Try.ntmps22
      go_wp2
      go_ret
      exact ⟨congrArg (fun b => Ending.returned (.bool b)) (show false = hasM bs from_ k by unfold hasM; rw [decide_eq_false (show ¬ from_ < (bs.length : Int) by omega)]; simp), HB0.out⟩
  · go_enter Try.func22, Try.ntmps22
    go_wp2
    go_ret
    exact ⟨congrArg (fun b => Ending.returned (.bool b)) (show false = hasM bs from_ k by unfold hasM; rw [decide_eq_false (show ¬ (0 : Int) ≤ from_ by omega)]; simp), HB0.out⟩

end Go.Proofs.Ytncmnbchkabgaaa

namespace Go.Proofs.Ytncmnbchkabgaaa
open Go.RowKit

theorem Owned.params {w : World} {base : Nat} {f : FuncM} {val : Vals} (h : Owned w base f val) (hl : f.params.length ≤ 100000) : ∃ A c, val .params = .slice A f.params.length c := by
  obtain ⟨A, c, h, _⟩ := row_read (h.rows .params _ rfl rfl) hl
  exact ⟨A, c, h⟩

theorem Owned.blocks {w : World} {base : Nat} {f : FuncM} {val : Vals} (h : Owned w base f val) (hl : f.blocks.length ≤ 100000) : ∃ A c, val .blocks = .slice A f.blocks.length c := by
  obtain ⟨A, c, h, _⟩ := row_read (h.rows .blocks _ rfl rfl) hl
  exact ⟨A, c, h⟩

/-- what is owned whole, with its two slices written out -/
def OwnedPost (f : FuncM) (w : World) (e : Ending) (w' : World) : Prop :=
  ∃ (v1 : Vals) (base : Nat) (A : Option Addr) (c : Nat) (A' : Option Addr) (c' : Nat), e = .returned (.agg #[.slice A f.params.length c, .int .i64 f.arrays, .int .i64 f.cells, .slice A' f.blocks.length c']) ∧
    v1 .params = .slice A f.params.length c ∧ v1 .blocks = .slice A' f.blocks.length c' ∧ Owned w' base f v1 ∧ w.heap.size ≤ base ∧ base ≤ w'.heap.size ∧ Below w.heap.size w w'

theorem fresh_own (f : FuncM) (B : Nat) (pv bv : Value) (w : World) (hpv : Ints w B pv f.params) (hbv : BlocksR w B bv f.blocks) (hB : B ≤ w.heap.size) (h0 : (lookM f).1 = 0) :
    Calls Try.prog 12 #[.agg #[pv, .int .i64 f.arrays, .int .i64 f.cells, bv]] w (OwnedPost f w) := by
  refine (fresh_any f B pv bv w hpv hbv hB h0).mono ?_
  rintro e w' ⟨v1, rfl, ho, hb⟩
  have hs := look_small h0
  have ho' := Owned.of ho
  obtain ⟨A, c, e1⟩ := ho'.params hs.params
  obtain ⟨A', c', e2⟩ := ho'.blocks hs.blocks
  obtain ⟨g, _, _, h1, h2⟩ := ho'.slice (tp := .blocks) rfl rfl (by have := look_some_block h0; show 0 < f.blocks.length; omega)
  exact ⟨v1, w.heap.size + 2, A, c, A', c', by rw [e1, e2], e1, e2, ho', by omega, by omega, hb⟩

theorem splitM_len (f : FuncM) (i j : Nat) : (splitM f i j).blocks.length = f.blocks.length + 1 := by
  unfold splitM
  simp

theorem split_own {f : FuncM} {w w1 : World} {base : Nat} {v1 : Vals} {q0 : BlockM} {A A' : Option Addr} {c c' : Nat} (i j : Nat) (ho : Owned w1 base f v1) (e1 : v1 .params = .slice A f.params.length c) (e2 : v1 .blocks = .slice A' f.blocks.length c') (h0 : (lookM f).1 = 0) (hq0 : f.blocks[i]? = some q0) (hj : j < q0.term.to.length) (hb : base ≤ w1.heap.size) (hw : w.heap.size ≤ base) (hlow : Below w.heap.size w w1) :
    Calls Try.prog 23 #[.agg #[.slice A f.params.length c, .int .i64 f.arrays, .int .i64 f.cells, .slice A' f.blocks.length c'], .int .i64 i, .int .i64 j] w1 (OwnedPost (splitM f i j) w) := by
  have h := split_any i j ho h0 hq0 hj hb
  rw [e1, e2] at h
  refine h.mono ?_
  rintro e w' ⟨v2, rfl, ho2, hb2⟩
  have hs := look_small h0
  have hl := look_some_block h0
  obtain ⟨B, d, k1⟩ := ho2.params hs.params
  obtain ⟨B', d', k2⟩ := ho2.blocks (by rw [splitM_len]; omega)
  exact ⟨v2, base, B, d, B', d', by rw [k1, k2]; rfl, k1, k2, ho2, hw, Nat.le_trans hb hb2.size, hlow.trans (hb2.mono hw)⟩

/-- the error of a split -/
def splitErr (f : FuncM) (from_ k : Int) : Int :=
  if (lookM f).1 ≠ 0 then (lookM f).1 else if hasM f.blocks from_ k = false then 9 else if 512 ≤ f.blocks.length ∨ 4096 ≤ sizeM f then 2 else 0

def GSplitPost (f : FuncM) (from_ k : Int) (w : World) (e : Ending) (w' : World) : Prop :=
  (∃ c, c ≠ 0 ∧ splitErr f from_ k = c ∧ e = .returned (.tuple #[.agg #[.slice none 0 0, .int .i64 0, .int .i64 0, .slice none 0 0], .int .i64 c]) ∧ Below w.heap.size w w') ∨
  (splitErr f from_ k = 0 ∧ ∃ (i j : Nat) (v1 : Vals) (base : Nat) (A : Option Addr) (c : Nat) (A' : Option Addr) (c' : Nat), from_ = i ∧ k = j ∧ e = .returned (.tuple #[.agg #[.slice A f.params.length c, .int .i64 f.arrays, .int .i64 f.cells, .slice A' (f.blocks.length + 1) c'], .int .i64 0]) ∧
    v1 .params = .slice A f.params.length c ∧ v1 .blocks = .slice A' (f.blocks.length + 1) c' ∧ Owned w' base (splitM f i j) v1 ∧ w.heap.size ≤ base ∧ base ≤ w'.heap.size ∧ Below w.heap.size w w')

set_option maxRecDepth 100000 in
set_option maxHeartbeats 2000000 in
theorem gSplit_any (f : FuncM) (from_ k : Int) (B : Nat) (pv bv : Value) (w : World) (hpv : Ints w B pv f.params) (hbv : BlocksR w B bv f.blocks) (hB : B ≤ w.heap.size) (hid : ∀ u ∈ usesM f, I64 u.1) :
    Calls Try.prog 9 #[.agg #[pv, .int .i64 f.arrays, .int .i64 f.cells, bv], .int .i64 from_, .int .i64 k] w (GSplitPost f from_ k w) := by
  have HP := hideI hpv
  have HBL := hideI hbv
  have HID := hideI hid
  obtain ⟨P, pc, rfl, _⟩ := hpv
  obtain ⟨A, c, rfl, hbm, _⟩ := hbv
  obtain ⟨W0, hW0⟩ : ∃ W0, W0 = (w.alloc (.cells #[.slice P f.params.length pc, .int .i64 f.arrays, .int .i64 f.cells, .slice A f.blocks.length c] 25)).alloc (.cells #[.slice none 0 0, .int .i64 0, .int .i64 0, .slice none 0 0] 25) := ⟨_, rfl⟩
  have hB0 : Below w.heap.size w W0 := by rw [hW0]; exact ((Below.refl _ w).alloc (Nat.le_refl _) _).alloc (by simp) _
  have hs0 : W0.heap.size = w.heap.size + 2 := by rw [hW0]; simp
  have hbox : W0.heap[w.heap.size]? = some (.cells #[.slice P f.params.length pc, .int .i64 f.arrays, .int .i64 f.cells, .slice A f.blocks.length c] 25 (0, 0)) := by
    rw [hW0, Below.heap_alloc _ _ _ (by simp)]
    exact heap_alloc_new w _
  have hres : W0.heap[w.heap.size + 1]? = some (.cells #[.slice none 0 0, .int .i64 0, .int .i64 0, .slice none 0 0] 25 (0, 0)) := by
    rw [hW0]
    have := heap_alloc_new (w.alloc (.cells #[.slice P f.params.length pc, .int .i64 f.arrays, .int .i64 f.cells, .slice A f.blocks.length c] 25)) (.cells #[.slice none 0 0, .int .i64 0, .int .i64 0, .slice none 0 0] 25)
    simpa using this
  have HW0 := hideI hW0
  have HB0 := hideI hB0
  have HS0 := hideI hs0
  have G0 : Hid (∀ W, Below W0.heap.size W0 W → (∀ o, W.cell? ⟨w.heap.size, o, none⟩ = (#[.slice P f.params.length pc, .int .i64 f.arrays, .int .i64 f.cells, .slice A f.blocks.length c] : Array Value)[o]?) ∧ (∀ o, W.cell? ⟨w.heap.size + 1, o, none⟩ = (#[.slice none 0 0, .int .i64 0, .int .i64 0, .slice none 0 0] : Array Value)[o]?) ∧ (∀ o, W.frozen? ⟨w.heap.size + 1, o, none⟩ = false)) := fun W hW => by
    have h1 := hW.block w.heap.size (by omega)
    have h2 := hW.block (w.heap.size + 1) (by omega)
    exact ⟨row_cells hbox h1, row_cells hres h2, free_row' hres h2⟩
  have HPW : Hid (∀ W, Below W0.heap.size W0 W → Ints W B (.slice P f.params.length pc) f.params ∧ BlocksR W B (.slice A f.blocks.length c) f.blocks ∧ Below w.heap.size w W) := fun W hW => by
    have h1 : Below w.heap.size w W := HB0.out.trans (hW.mono (by omega))
    exact ⟨HP.out.keeps (Keeps.of_below (h1.mono hB)), HBL.out.keeps (Keeps.of_below (h1.mono hB)), h1⟩
  obtain ⟨q1, q2, q3⟩ := G0.out W0 (Below.refl _ _)
  have b0 := q1 0
  have b1 := q1 1
  have b2 := q1 2
  have b3 := q1 3
  have s0 := q2 0
  have s1 := q2 1
  have s2 := q2 2
  have s3 := q2 3
  have g0 := q3 0
  have g1 := q3 1
  have g2 := q3 2
  have g3 := q3 3
  clear hid hW0 hB0 hs0 hbox hres q1 q2 q3
  by_cases h0 : (lookM f).1 = 0
  · have H0 := hideI h0
    have hso : sizeOut f = (sizeM f : Int) := by unfold sizeOut; rw [if_pos h0]
    have HSO := hideI hso
    have hnb := look_512 h0
    have hsz : sizeM f ≤ 4096 := look_size h0
    cases hh : hasM f.blocks from_ k
    · have HH := hideI hh
      clear h0 hso hh
      go_enter Try.func9, Try.ntmps9
      go_upto_region 1 with fail
      rw [← HW0.out]
      go_wp2_with (first
        | (go_at_call 21; go_must (refine (size_any f B _ _ _ (HPW.out _ (Below.refl _ _)).1 (HPW.out _ (Below.refl _ _)).2.1 (by have := HS0.out; omega) HID.out).mono ?_); rw [H0.out]; rintro e w1 ⟨rfl, hb⟩; have HB1 := hideI hb; obtain ⟨q1, q2, q3⟩ := G0.out _ hb; have b0 := q1 0; have b1 := q1 1; have b2 := q1 2; have b3 := q1 3; have s0 := q2 0; have s1 := q2 1; have s2 := q2 2; have s3 := q2 3; have g0 := q3 0; have g1 := q3 1; have g2 := q3 2; have g3 := q3 3; clear q1 q2 q3 hb)
        | (go_at_call 22; go_must (refine (hasEdge_any f.blocks _ _ B _ _ _ _ _ (HPW.out _ (by exact HB1.out.alloc HB1.out.size _)).2.1 (by have := HS0.out; have := HB1.out.size; simp; omega)).mono ?_); rintro e w2 ⟨he, hb⟩; rw [HH.out] at he; subst he; have HB2 := hideI ((HB1.out.alloc HB1.out.size _).trans (hb.mono (by have := HB1.out.size; simp; omega))); obtain ⟨q1, q2, q3⟩ := G0.out _ HB2.out; have b0 := q1 0; have b1 := q1 1; have b2 := q1 2; have b3 := q1 3; have s0 := q2 0; have s1 := q2 1; have s2 := q2 2; have s3 := q2 3; have g0 := q3 0; have g1 := q3 1; have g2 := q3 2; have g3 := q3 3; clear q1 q2 q3 hb))
      refine bodyPost_ret (v := .tuple #[.agg #[.slice none 0 0, .int .i64 0, .int .i64 0, .slice none 0 0], .int .i64 9]) (by simp [results, Try.results9, go_sem, s0, s1, s2, s3]) rfl (.inl ⟨9, by decide, by unfold splitErr; rw [if_neg (by simpa using H0.out), if_pos HH.out], rfl, ?_⟩)
      exact ((((HPW.out _ HB2.out).2.2.setCell (by simp) _).setCell (by simp) _).setCell (by simp) _).setCell (by simp) _
    · have HH := hideI hh
      obtain ⟨i, j, q, rfl, rfl, hq, hj⟩ := hasM_yes hh
      have HQ := hideI hq
      clear h0 hso hh hq
      by_cases hl1 : 512 ≤ f.blocks.length
      · have hd1 : decide ((512 : Int) ≤ (f.blocks.length : Int)) = true := by simp; omega
        go_enter Try.func9, Try.ntmps9
        go_upto_region 1 with fail
        rw [← HW0.out]
        go_wp2_with (first
          | (go_at_call 21; go_must (refine (size_any f B _ _ _ (HPW.out _ (Below.refl _ _)).1 (HPW.out _ (Below.refl _ _)).2.1 (by have := HS0.out; omega) HID.out).mono ?_); rw [H0.out, HSO.out]; rintro e w1 ⟨rfl, hb⟩; have HB1 := hideI hb; obtain ⟨q1, q2, q3⟩ := G0.out _ hb; have b0 := q1 0; have b1 := q1 1; have b2 := q1 2; have b3 := q1 3; have s0 := q2 0; have s1 := q2 1; have s2 := q2 2; have s3 := q2 3; have g0 := q3 0; have g1 := q3 1; have g2 := q3 2; have g3 := q3 3; clear q1 q2 q3 hb)
          | (go_at_call 22; go_must (refine (hasEdge_any f.blocks _ _ B _ _ _ _ _ (HPW.out _ (by exact HB1.out.alloc HB1.out.size _)).2.1 (by have := HS0.out; have := HB1.out.size; simp; omega)).mono ?_); rintro e w2 ⟨he, hb⟩; rw [HH.out] at he; subst he; have HB2 := hideI ((HB1.out.alloc HB1.out.size _).trans (hb.mono (by have := HB1.out.size; simp; omega))); obtain ⟨q1, q2, q3⟩ := G0.out _ HB2.out; have b0 := q1 0; have b1 := q1 1; have b2 := q1 2; have b3 := q1 3; have s0 := q2 0; have s1 := q2 1; have s2 := q2 2; have s3 := q2 3; have g0 := q3 0; have g1 := q3 1; have g2 := q3 2; have g3 := q3 3; clear q1 q2 q3 hb))
        refine bodyPost_ret (v := .tuple #[.agg #[.slice none 0 0, .int .i64 0, .int .i64 0, .slice none 0 0], .int .i64 2]) (by simp [results, Try.results9, go_sem, s0, s1, s2, s3]) rfl (.inl ⟨2, by decide, by unfold splitErr; rw [if_neg (by simpa using H0.out), if_neg (by rw [HH.out]; simp), if_pos (.inl hl1)], rfl, ?_⟩)
        exact ((((HPW.out _ HB2.out).2.2.setCell (by simp) _).setCell (by simp) _).setCell (by simp) _).setCell (by simp) _
      · by_cases hl2 : 4096 ≤ sizeM f
        · have hd1 : decide ((512 : Int) ≤ (f.blocks.length : Int)) = false := by simp; omega
          have hd2 : decide ((4096 : Int) ≤ ((sizeM f : Nat) : Int)) = true := by simp; omega
          go_enter Try.func9, Try.ntmps9
          go_upto_region 1 with fail
          rw [← HW0.out]
          go_wp2_with (first
            | (go_at_call 21; go_must (refine (size_any f B _ _ _ (HPW.out _ (Below.refl _ _)).1 (HPW.out _ (Below.refl _ _)).2.1 (by have := HS0.out; omega) HID.out).mono ?_); rw [H0.out, HSO.out]; rintro e w1 ⟨rfl, hb⟩; have HB1 := hideI hb; obtain ⟨q1, q2, q3⟩ := G0.out _ hb; have b0 := q1 0; have b1 := q1 1; have b2 := q1 2; have b3 := q1 3; have s0 := q2 0; have s1 := q2 1; have s2 := q2 2; have s3 := q2 3; have g0 := q3 0; have g1 := q3 1; have g2 := q3 2; have g3 := q3 3; clear q1 q2 q3 hb)
            | (go_at_call 22; go_must (refine (hasEdge_any f.blocks _ _ B _ _ _ _ _ (HPW.out _ (by exact HB1.out.alloc HB1.out.size _)).2.1 (by have := HS0.out; have := HB1.out.size; simp; omega)).mono ?_); rintro e w2 ⟨he, hb⟩; rw [HH.out] at he; subst he; have HB2 := hideI ((HB1.out.alloc HB1.out.size _).trans (hb.mono (by have := HB1.out.size; simp; omega))); obtain ⟨q1, q2, q3⟩ := G0.out _ HB2.out; have b0 := q1 0; have b1 := q1 1; have b2 := q1 2; have b3 := q1 3; have s0 := q2 0; have s1 := q2 1; have s2 := q2 2; have s3 := q2 3; have g0 := q3 0; have g1 := q3 1; have g2 := q3 2; have g3 := q3 3; clear q1 q2 q3 hb))
          refine bodyPost_ret (v := .tuple #[.agg #[.slice none 0 0, .int .i64 0, .int .i64 0, .slice none 0 0], .int .i64 2]) (by simp [results, Try.results9, go_sem, s0, s1, s2, s3]) rfl (.inl ⟨2, by decide, by unfold splitErr; rw [if_neg (by simpa using H0.out), if_neg (by rw [HH.out]; simp), if_pos (.inr hl2)], rfl, ?_⟩)
          exact ((((HPW.out _ HB2.out).2.2.setCell (by simp) _).setCell (by simp) _).setCell (by simp) _).setCell (by simp) _
        · have hd1 : decide ((512 : Int) ≤ (f.blocks.length : Int)) = false := by simp; omega
          have hd2 : decide ((4096 : Int) ≤ ((sizeM f : Nat) : Int)) = false := by simp; omega
          go_enter Try.func9, Try.ntmps9
          go_upto_region 1 with fail
          rw [← HW0.out]
          go_wp2_with (first
            | (go_at_call 21; go_must (refine (size_any f B _ _ _ (HPW.out _ (Below.refl _ _)).1 (HPW.out _ (Below.refl _ _)).2.1 (by have := HS0.out; omega) HID.out).mono ?_); rw [H0.out, HSO.out]; rintro e w1 ⟨rfl, hb⟩; have HB1 := hideI hb; obtain ⟨q1, q2, q3⟩ := G0.out _ hb; have b0 := q1 0; have b1 := q1 1; have b2 := q1 2; have b3 := q1 3; have s0 := q2 0; have s1 := q2 1; have s2 := q2 2; have s3 := q2 3; have g0 := q3 0; have g1 := q3 1; have g2 := q3 2; have g3 := q3 3; clear q1 q2 q3 hb)
            | (go_at_call 22; go_must (refine (hasEdge_any f.blocks _ _ B _ _ _ _ _ (HPW.out _ (by exact HB1.out.alloc HB1.out.size _)).2.1 (by have := HS0.out; have := HB1.out.size; simp; omega)).mono ?_); rintro e w2 ⟨he, hb⟩; rw [HH.out] at he; subst he; have HB2 := hideI ((HB1.out.alloc HB1.out.size _).trans (hb.mono (by have := HB1.out.size; simp; omega))); obtain ⟨q1, q2, q3⟩ := G0.out _ HB2.out; have b0 := q1 0; have b1 := q1 1; have b2 := q1 2; have b3 := q1 3; have s0 := q2 0; have s1 := q2 1; have s2 := q2 2; have s3 := q2 3; have g0 := q3 0; have g1 := q3 1; have g2 := q3 2; have g3 := q3 3; clear q1 q2 q3 hb)
            | (go_at_call 12; go_must (refine (fresh_own f B _ _ _ (HPW.out _ HB2.out).1 (HPW.out _ HB2.out).2.1 (by have := HS0.out; have := HB2.out.size; omega) H0.out).mono ?_); rintro e w3 ⟨v1, base, A1, c1, A2, c2, rfl, e1, e2, hown, hw1, hw2, hb⟩; have HE1 := hideI e1; have HE2 := hideI e2; have HOW := hideI hown; have HB3 := hideI hb; clear e1 e2 hown hb)
            | (go_at_call 23; go_must (refine (split_own (w := w2) i j HOW.out HE1.out HE2.out H0.out HQ.out hj hw2 hw1 HB3.out).mono ?_); rintro e w4 ⟨v3, base2, A3, c3, A4, c4, rfl, e3, e4, hown2, hw3, hw4, hb⟩; have HE3 := hideI e3; have HE4 := hideI e4; have HOW2 := hideI hown2; have HB4 := hideI (HB2.out.trans (hb.mono HB2.out.size)); obtain ⟨q1, q2, q3⟩ := G0.out _ HB4.out; have s0 := q2 0; have s1 := q2 1; have s2 := q2 2; have s3 := q2 3; have g0 := q3 0; have g1 := q3 1; have g2 := q3 2; have g3 := q3 3; clear q1 q2 q3 hb e3 e4 hown2))
          have h2s := HB2.out.size
          have hs0 := HS0.out
          have hno : ∀ t, TI (splitM f i j) t → (v3 t).ownBlock ≠ some (w.heap.size + 1) := fun t ht e => by
            have := (HOW2.out.lt ht e).1
            omega
          have hL := splitM_len f i j
          have hE4 := HE4.out
          have hE3 := HE3.out
          rw [hL] at hE4
          refine bodyPost_ret (v := .tuple #[.agg #[.slice A3 f.params.length c3, .int .i64 f.arrays, .int .i64 f.cells, .slice A4 (f.blocks.length + 1) c4], .int .i64 0]) (by simp [results, Try.results9, go_sem, s0, s1, s2, s3, splitM]) rfl (.inr ⟨?_, i, j, v3, base2, A3, c3, A4, c4, rfl, rfl, rfl, hE3, hE4, ?_, ?_, ?_, ?_⟩)
          · unfold splitErr
            rw [if_neg (by simpa using H0.out), if_neg (by rw [HH.out]; simp), if_neg (by omega)]
          · exact (((OwnG.other HOW2.out hno).other hno).other hno).other hno
          · omega
          · simpa using hw4
          · exact ((((HPW.out _ HB4.out).2.2.setCell (by simp) _).setCell (by simp) _).setCell (by simp) _).setCell (by simp) _
  · have H0 := hideI h0
    have hb0 : ((lookM f).1 != 0) = true := by simpa using h0
    clear h0
    go_enter Try.func9, Try.ntmps9
    go_upto_region 1 with fail
    rw [← HW0.out]
    go_wp2_with (first
      | (go_at_call 21; go_must (refine (size_any f B _ _ _ (HPW.out _ (Below.refl _ _)).1 (HPW.out _ (Below.refl _ _)).2.1 (by have := HS0.out; omega) HID.out).mono ?_); rintro e w1 ⟨rfl, hb⟩; have HB1 := hideI hb; obtain ⟨q1, q2, q3⟩ := G0.out _ hb; have b0 := q1 0; have b1 := q1 1; have b2 := q1 2; have b3 := q1 3; have s0 := q2 0; have s1 := q2 1; have s2 := q2 2; have s3 := q2 3; have g0 := q3 0; have g1 := q3 1; have g2 := q3 2; have g3 := q3 3; clear q1 q2 q3 hb))
    refine bodyPost_ret (v := .tuple #[.agg #[.slice none 0 0, .int .i64 0, .int .i64 0, .slice none 0 0], .int .i64 (lookM f).1]) (by simp [results, Try.results9, go_sem, s0, s1, s2, s3]) rfl (.inl ⟨(lookM f).1, H0.out, by unfold splitErr; rw [if_pos H0.out], rfl, ?_⟩)
    exact ((((HPW.out _ HB1.out).2.2.setCell (by simp) _).setCell (by simp) _).setCell (by simp) _).setCell (by simp) _

end Go.Proofs.Ytncmnbchkabgaaa

namespace Go.Proofs.Ytncmnbchkabgaaa
open Go.RowKit

theorem splitM_at (f : FuncM) (i j k : Nat) : (splitM f i j).blocks[k]? =
    if k = f.blocks.length then some ⟨[], [], ⟨1, -1, [toOf f i j], 0⟩⟩
    else (f.blocks[k]?.map fun b => if k = i then endM j f.blocks.length b else b).map fun b => if k = (toOf f i j).toNat then phisM i f.blocks.length (staysM f i j) b else b := by
  show (_ ++ _)[k]? = _
  by_cases h : k < f.blocks.length
  · rw [List.getElem?_append_left (by simpa using h), if_neg (by omega), modify_at, modify_at]
    cases f.blocks[k]? with
    | none => simp
    | some b =>
      simp only [Option.map_some]
      split <;> split <;> rfl
  · rw [List.getElem?_append_right (by simp; omega)]
    by_cases e : k = f.blocks.length
    · subst e; simp
    · rw [if_neg e, List.getElem?_eq_none (by simp; omega), List.getElem?_eq_none (by omega)]
      rfl

/-- the end of a block of the split function -/
theorem splitM_term {f : FuncM} {i j k : Nat} {q : BlockM} (hk : f.blocks[k]? = some q) : ∃ q1, (splitM f i j).blocks[k]? = some q1 ∧ q1.term.to = (if k = i then q.term.to.set j (f.blocks.length : Int) else q.term.to) := by
  have hl := (List.getElem?_eq_some_iff.1 hk).1
  rw [splitM_at, if_neg (by omega), hk]
  refine ⟨_, rfl, ?_⟩
  split <;> split <;> rfl

/-- the block in the middle -/
theorem splitM_new (f : FuncM) (i j : Nat) : (splitM f i j).blocks[f.blocks.length]? = some ⟨[], [], ⟨1, -1, [toOf f i j], 0⟩⟩ := by rw [splitM_at, if_pos rfl]

structure Apart (f h : FuncM) (b : Nat) (t0 t1 : Int) : Prop where
  len : h.blocks.length = f.blocks.length + 2
  now : ∃ q, h.blocks[b]? = some q ∧ q.term.to = [(f.blocks.length : Int), (f.blocks.length : Int) + 1]
  one : h.blocks[f.blocks.length]? = some ⟨[], [], ⟨1, -1, [t0], 0⟩⟩
  two : h.blocks[f.blocks.length + 1]? = some ⟨[], [], ⟨1, -1, [t1], 0⟩⟩

theorem apart_of {f : FuncM} {b : Nat} {q : BlockM} {t0 t1 : Int} (hq : f.blocks[b]? = some q) (ht : q.term.to = [t0, t1]) (hr : t1 < (f.blocks.length : Int)) (h0 : 0 ≤ t1) : Apart f (splitM (splitM f b 0) b 1) b t0 t1 := by
  have hb := (List.getElem?_eq_some_iff.1 hq).1
  have hl1 := splitM_len f b 0
  have hl2 := splitM_len (splitM f b 0) b 1
  obtain ⟨q1, hq1, ht1⟩ := splitM_term (i := b) (j := 0) hq
  rw [if_pos rfl, ht, List.set_cons_zero] at ht1
  obtain ⟨q2, hq2, ht2⟩ := splitM_term (f := splitM f b 0) (i := b) (j := 1) hq1
  rw [if_pos rfl, ht1, List.set_cons_succ, List.set_cons_zero, hl1] at ht2
  have e0 : toOf f b 0 = t0 := by unfold toOf; rw [hq]; simp only; rw [ht]; rfl
  have e1 : toOf (splitM f b 0) b 1 = t1 := by unfold toOf; rw [hq1]; simp only; rw [ht1]; rfl
  refine ⟨by omega, ⟨q2, hq2, by rw [ht2]; simp⟩, ?_, ?_⟩
  · rw [splitM_at, if_neg (by omega), splitM_new, e0, e1]
    simp only [Option.map_some]
    rw [if_neg (show ¬ f.blocks.length = b by omega), if_neg (show ¬ f.blocks.length = t1.toNat by omega)]
  · have := splitM_new (splitM f b 0) b 1
    rw [hl1, e1] at this
    exact this

theorem split_uses {f : FuncM} {i j : Nat} (h : (lookM f).1 = 0) : ∀ u ∈ usesM (splitM f i j), u ∈ usesM f := by
  have hr : ∀ b ∈ f.blocks, ∀ p ∈ b.phis, phiB f p = true := fun b hb => ((formed_all (look_formed h)).1 b hb).1
  have hv := split_variant (split_wider f i j) (look_some_block h).1 hr
  intro u hu
  unfold usesM at hu ⊢
  rw [List.mem_flatMap] at hu
  obtain ⟨c, hc, hu⟩ := hu
  rcases List.mem_append.1 hc with hc | hc
  · obtain ⟨k, hk⟩ := List.getElem?_of_mem hc
    have hil : k < f.blocks.length := by have := (List.getElem?_eq_some_iff.1 hk).1; simpa using this
    exact List.mem_flatMap.2 ⟨_, List.getElem_mem hil, (hv k _ c (List.getElem?_eq_getElem hil) hk).uses u hu⟩
  · rw [List.mem_singleton] at hc
    subst hc
    simp [usesBlock, usesTerm] at hu

theorem come_same (from_ mid : Int) (s : Bool) (p : PhiM) : (comeM from_ mid s p).id = p.id ∧ (comeM from_ mid s p).typ = p.typ := by
  unfold comeM
  split
  · split <;> exact ⟨rfl, rfl⟩
  · exact ⟨rfl, rfl⟩

theorem split_fits {f : FuncM} {i j : Nat} (h : FnFits f) : FnFits (splitM f i j) := by
  have key : ∀ c ∈ (splitM f i j).blocks, c = ⟨[], [], ⟨1, -1, [toOf f i j], 0⟩⟩ ∨ ∃ b ∈ f.blocks, (∀ p ∈ c.phis, ∃ p' ∈ b.phis, p.id = p'.id ∧ p.typ = p'.typ) ∧ c.code = b.code ∧ c.term.op = b.term.op ∧ c.term.val = b.term.val ∧ c.term.n = b.term.n := by
    intro c hc
    obtain ⟨k, hk⟩ := List.getElem?_of_mem hc
    rw [splitM_at] at hk
    split at hk
    · cases hk; exact .inl rfl
    · right
      cases hb : f.blocks[k]? with
      | none => rw [hb] at hk; cases hk
      | some b =>
        rw [hb] at hk
        simp only [Option.map_some, Option.some.injEq] at hk
        refine ⟨b, List.mem_of_getElem? hb, ?_⟩
        have h1 : ∀ b', (b' = if k = i then endM j f.blocks.length b else b) → b'.phis = b.phis ∧ b'.code = b.code ∧ b'.term.op = b.term.op ∧ b'.term.val = b.term.val ∧ b'.term.n = b.term.n := by
          intro b' e
          subst e
          split <;> exact ⟨rfl, rfl, rfl, rfl, rfl⟩
        obtain ⟨e1, e2, e3, e4, e5⟩ := h1 _ rfl
        subst hk
        split
        · refine ⟨fun p hp => ?_, e2, e3, e4, e5⟩
          unfold phisM at hp
          simp only at hp
          rw [e1] at hp
          obtain ⟨p', hp', rfl⟩ := List.mem_map.1 hp
          exact ⟨p', hp', come_same _ _ _ _⟩
        · refine ⟨fun p hp => ⟨p, by rw [← e1]; exact hp, rfl, rfl⟩, e2, e3, e4, e5⟩
  refine ⟨fun c hc p hp => ?_, fun c hc x hx => ?_, fun c hc => ?_⟩
  · rcases key c hc with rfl | ⟨b, hb, h1, _⟩
    · cases hp
    · obtain ⟨p', hp', e1, e2⟩ := h1 p hp
      rw [e1, e2]
      exact h.phi b hb p' hp'
  · rcases key c hc with rfl | ⟨b, hb, _, e2, _⟩
    · cases hx
    · rw [e2] at hx; exact h.code b hb x hx
  · rcases key c hc with rfl | ⟨b, hb, _, _, e3, e4, e5⟩
    · exact ⟨(by unfold I64; decide : I64 1), (by unfold I64; decide : I64 (-1)), (by unfold I64; decide : I64 0)⟩
    · rw [e3, e4, e5]; exact h.term b hb

theorem Owned.reads {w : World} {base : Nat} {f : FuncM} {val : Vals} (h : Owned w base f val) (h0 : (lookM f).1 = 0) (hf : FnFits f) : Ints w w.heap.size (val .params) f.params ∧ BlocksR w w.heap.size (val .blocks) f.blocks := by
  have hr := OwnG.rd (h.ee fun t ht => ht.ti) (look_small h0)
  exact ⟨hr.params, hr.blocks hf⟩

theorem splitErr_zero {f : FuncM} {a k : Int} (h : splitErr f a k = 0) : (lookM f).1 = 0 ∧ hasM f.blocks a k = true ∧ f.blocks.length < 512 ∧ sizeM f < 4096 := by
  unfold splitErr at h
  split at h
  · rename_i h1; exact absurd h h1
  · rename_i h1
    split at h
    · cases h
    · rename_i h2
      split at h
      · cases h
      · rename_i h3
        exact ⟨by simpa using h1, by simpa using h2, by omega, by omega⟩

end Go.Proofs.Ytncmnbchkabgaaa

namespace Go.Proofs.Ytncmnbchkabgaaa
open Go.RowKit

theorem small_copy {f : FuncM} (h : SmallF f) : SmallFn f :=
  ⟨h.params, h.blocks, fun b hb => ⟨(h.each b hb).phis, (h.each b hb).code, (h.each b hb).ends, (h.each b hb).fr, (h.each b hb).args⟩⟩

/-- a phi, so far as its places were looked at -/
def stepM (from_ mid : Int) (st : Bool) (j : Nat) (p : PhiM) : PhiM := if from_ ∈ p.fr.take j then comeM from_ mid st p else p

section
variable {from_ mid x : Int} {st : Bool} {j : Nat} {p : PhiM}

theorem stepM_zero : stepM from_ mid st 0 p = p := by
  unfold stepM
  simp

theorem stepM_all (h : p.fr.length ≤ j) : stepM from_ mid st j p = comeM from_ mid st p := by
  unfold stepM
  rw [List.take_of_length_le h]
  by_cases hm : from_ ∈ p.fr
  · rw [if_pos hm]
  · rw [if_neg hm]
    unfold comeM
    rw [if_neg hm]

theorem mem_take_succ {l : List Int} (h : l[j]? = some x) (y : Int) : y ∈ l.take (j + 1) ↔ y ∈ l.take j ∨ y = x := by
  rw [List.take_add_one, h]
  simp

theorem stepM_skip (h : p.fr[j]? = some x) (hne : x ≠ from_) : stepM from_ mid st (j + 1) p = stepM from_ mid st j p := by
  unfold stepM
  have : from_ ∈ p.fr.take (j + 1) ↔ from_ ∈ p.fr.take j := by
    rw [mem_take_succ h]
    exact ⟨fun h => h.resolve_right (Ne.symm hne), .inl⟩
  simp only [this]

theorem not_ahead (hn : p.fr.Nodup) (h : p.fr[j]? = some from_) : from_ ∉ p.fr.take j := by
  intro hm
  obtain ⟨i, hi⟩ := List.getElem?_of_mem hm
  have hil := (List.getElem?_eq_some_iff.1 hi).1
  rw [List.length_take] at hil
  rw [List.getElem?_take_of_lt (by omega)] at hi
  have hj := (List.getElem?_eq_some_iff.1 h).1
  have := (List.getElem?_inj (l := p.fr) (i := i) (j := j) (by omega) hn).1 (hi.trans h.symm)
  omega

theorem stepM_at_hit (hn : p.fr.Nodup) (h : p.fr[j]? = some from_) : stepM from_ mid st j p = p := by
  unfold stepM
  rw [if_neg (not_ahead hn h)]

theorem idx_hit (hn : p.fr.Nodup) (h : p.fr[j]? = some from_) : p.fr.idxOf from_ = j := idx_first (.inr ⟨j, rfl, h, not_ahead hn h⟩)

theorem stepM_hit (h : p.fr[j]? = some from_) : stepM from_ mid st (j + 1) p = comeM from_ mid st p := by
  unfold stepM
  rw [if_pos ((mem_take_succ h _).2 (.inr rfl))]

theorem comeM_at (hn : p.fr.Nodup) (h : p.fr[j]? = some x) (hm : from_ ∈ p.fr.take j) : (comeM from_ mid st p).fr[j]? = some x := by
  have hj := (List.getElem?_eq_some_iff.1 h).1
  unfold comeM
  rw [if_pos (List.mem_of_mem_take hm)]
  split
  · show (p.fr ++ [mid])[j]? = _
    rw [List.getElem?_append_left hj]
    exact h
  · show (p.fr.set _ mid)[j]? = _
    rw [List.getElem?_set_ne _, h]
    intro e
    have h2 : p.fr[p.fr.idxOf from_]? = some from_ := by
      have hl := List.idxOf_lt_length_iff.2 (List.mem_of_mem_take hm)
      rw [List.getElem?_eq_getElem hl, List.getElem_idxOf]
    rw [e] at h2
    exact not_ahead hn h2 hm

/-- what a phi's places are at j -/
theorem stepM_at (hn : p.fr.Nodup) (h : p.fr[j]? = some x) : (stepM from_ mid st j p).fr[j]? = some x := by
  unfold stepM
  split
  · rename_i hm
    exact comeM_at hn h hm
  · exact h

theorem stepM_ids : (stepM from_ mid st j p).id = p.id ∧ (stepM from_ mid st j p).typ = p.typ := by
  unfold stepM
  split
  · exact come_same _ _ _ _
  · exact ⟨rfl, rfl⟩
end

section
variable {w0 w w1 : World} {row row' : Rows} {val val' : Vals} {D D' : Tag → Prop} {bl : List VarD}

/-- a cell of an owned row is written -/
theorem OwnC.put {tp : Tag} {d : RowD} {g n cap j : Nat} {u : Value} (h : OwnC w0 w row val D bl) (hp : D tp) (hd : row tp = some d) (hv : val tp = .slice (some ⟨g, 0, none⟩) n cap) (hn : d.len = n) :
    OwnC w0 (w.setCell ⟨g, j, none⟩ u) (upd row tp (some { d with cells := d.cells.set j u })) val D bl := by
  have hg : (val tp).ownBlock = some g := by rw [hv]; rfl
  refine ⟨h.own.set hp hd hv hn, fun x hx => ⟨?_, (h.cells x hx).2⟩, h.off, h.dis, h.below.setCell (p := ⟨g, j, none⟩) (h.own.lt hp hg).1 u⟩
  have hne : x.1 ≠ g := fun e => h.off x hx tp hp (by rw [hg, e])
  exact (Below.heap_setCell _ _ _ _ hne).trans (h.cells x hx).1

/-- all rows are others, the variables are as they were -/
theorem OwnC.of (h : OwnC w0 w row val D bl) (own : OwnG w1 w0.heap.size row' val' D') (hk : ∀ x ∈ bl, w1.heap[x.1]? = w.heap[x.1]?) (hoff : ∀ t g, D' t → (val' t).ownBlock = some g → (∃ t', D t' ∧ (val t').ownBlock = some g) ∨ w.heap.size ≤ g) (hb : Below w0.heap.size w w1) : OwnC w0 w1 row' val' D' bl := by
  refine ⟨own, fun x hx => ⟨(hk x hx).trans (h.cells x hx).1, (h.cells x hx).2⟩, fun x hx t ht e => ?_, h.dis, h.below.trans hb⟩
  rcases hoff t _ ht e with ⟨t', ht', e'⟩ | h2
  · exact h.off x hx t' ht' e'
  · have := h.lt hx
    omega

/-- a cell of an owned row -/
theorem OwnC.cell {tp : Tag} {d : RowD} {g n cap j : Nat} (h : OwnC w0 w row val D bl) (hp : D tp) (hd : row tp = some d) (hv : val tp = .slice (some ⟨g, 0, none⟩) n cap) (hn : d.len = n) (hj : j < n * d.size) :
    w.cell? ⟨g, j, none⟩ = d.cells[j]? ∧ w.frozen? ⟨g, j, none⟩ = false := h.own.cell hp hd hv hn hj
end

section
variable {f : FuncM} {val : Vals} {t i : Nat} {q : BlockM} {p : PhiM} {w0 w : World} {bl : List VarD}

/-- a phi's place is written -/
theorem OwnC.putFr {gf fc k : Nat} {mid : Int} (h : OwnC w0 w (rowOf f val) val (TI f) bl) (hq : f.blocks[t]? = some q) (hp : q.phis[i]? = some p) (hv : val (.fr t i) = .slice (some ⟨gf, 0, none⟩) p.fr.length fc) :
    OwnC w0 (w.setCell ⟨gf, k, none⟩ (.int .i64 mid)) (rowOf (setPhi f t i { p with fr := p.fr.set k mid }) val) val (TI (setPhi f t i { p with fr := p.fr.set k mid })) bl := by
  have tiF : TI f (.fr t i) := TI.of (row_fr (val := val) hq hp)
  obtain ⟨p1, hp1⟩ : ∃ p1 : PhiM, p1 = { p with fr := p.fr.set k mid } := ⟨_, rfl⟩
  rw [← hp1]
  have hid : p1.id = p.id := by rw [hp1]
  have htyp : p1.typ = p.typ := by rw [hp1]
  have hfr : p1.fr = p.fr.set k mid := by rw [hp1]
  have hva : p1.vals = p.vals := by rw [hp1]
  refine (h.put (j := k) (u := .int .i64 mid) tiF (row_fr hq hp) hv rfl).congr (fun tag htag => ?_) (fun _ _ => rfl) (fun tag htag => (setPhi_ti hq hp hid htyp tag).1 htag)
  by_cases h1 : tag = .fr t i
  · subst h1
    rw [upd_same, setPhi_fr hq hp, hfr]
    unfold intsRow
    simp only [List.length_set, List.map_set]
  · rw [upd_ne _ _ h1]
    by_cases h2 : tag = .vals t i
    · subst h2; rw [setPhi_vals hq hp, hva, row_vals hq hp]
    · by_cases h3 : tag = .phis t
      · subst h3; rw [setPhi_phis hq, phis_same hp hid htyp, row_phis hq]
      · exact setPhi_row hq hp hid htyp (fun _ _ _ => rfl) tag h1 h2 h3

/-- both lists of a phi have grown, and its cells tell so -/
theorem OwnC.putBoth {F V : Value} {mid y : Int} {row2 : Rows} (hq : f.blocks[t]? = some q) (hp : q.phis[i]? = some p)
    (hr : row2 = upd (upd (upd (upd (rowOf f val) (.fr t i) (some (intsRow (p.fr ++ [mid])))) (.phis t) (some ⟨49, 4, q.phis.length, (cellsOf (phiCells val t) 0 q.phis).set (i * 4 + 2) F⟩)) (.vals t i) (some (intsRow (p.vals ++ [y])))) (.phis t) (some ⟨49, 4, q.phis.length, ((cellsOf (phiCells val t) 0 q.phis).set (i * 4 + 2) F).set (i * 4 + 3) V⟩))
    (h : OwnC w0 w row2 (upd (upd val (.fr t i) F) (.vals t i) V) (TI f) bl) :
    OwnC w0 w (rowOf (setPhi f t i { p with fr := p.fr ++ [mid], vals := p.vals ++ [y] }) (upd (upd val (.fr t i) F) (.vals t i) V)) (upd (upd val (.fr t i) F) (.vals t i) V) (TI (setPhi f t i { p with fr := p.fr ++ [mid], vals := p.vals ++ [y] })) bl := by
  subst hr
  have hi := (List.getElem?_eq_some_iff.1 hp).1
  obtain ⟨p1, hp1⟩ : ∃ p1 : PhiM, p1 = { p with fr := p.fr ++ [mid], vals := p.vals ++ [y] } := ⟨_, rfl⟩
  rw [← hp1]
  have hid : p1.id = p.id := by rw [hp1]
  have htyp : p1.typ = p.typ := by rw [hp1]
  have hfr : p1.fr = p.fr ++ [mid] := by rw [hp1]
  have hva : p1.vals = p.vals ++ [y] := by rw [hp1]
  have hval : ∀ tag, tag ≠ .fr t i → tag ≠ .vals t i → upd (upd val (.fr t i) F) (.vals t i) V tag = val tag := fun tag h1 h2 => by rw [upd_ne _ _ h2, upd_ne _ _ h1]
  refine h.congr (fun tag htag => ?_) (fun _ _ => rfl) (fun tag htag => (setPhi_ti hq hp hid htyp tag).1 htag)
  by_cases h3 : tag = .phis t
  · subst h3
    rw [upd_same, setPhi_phis hq, phis_same hp hid htyp, phis_grown hi]
  · rw [upd_ne _ _ h3]
    by_cases h2 : tag = .vals t i
    · subst h2; rw [upd_same, setPhi_vals hq hp, hva]
    · rw [upd_ne _ _ h2, upd_ne _ _ h3]
      by_cases h1 : tag = .fr t i
      · subst h1; rw [upd_same, setPhi_fr hq hp, hfr]
      · rw [upd_ne _ _ h1]
        exact setPhi_row hq hp hid htyp hval tag h1 h2 h3

/-- an end goes elsewhere -/
theorem OwnC.putEnd {k j ge cap : Nat} {mid : Int} (h : OwnC w0 w (rowOf f val) val (TI f) bl) (hq : f.blocks[k]? = some q) (hv : val (.ends k) = .slice (some ⟨ge, 0, none⟩) q.term.to.length cap) :
    OwnC w0 (w.setCell ⟨ge, j, none⟩ (.int .i64 mid)) (rowOf (setEnds f k j mid) val) val (TI (setEnds f k j mid)) bl := by
  have tiE : TI f (.ends k) := TI.of (val := val) (row_ends hq)
  refine (h.put (j := j) (u := .int .i64 mid) tiE (row_ends hq) hv rfl).congr (fun tag _ => ?_) (fun _ _ => rfl) (fun tag ht => (setEnds_ti hq tag).1 ht)
  by_cases h : tag = .ends k
  · subst h
    rw [upd_same, setEnds_ends hq]
    unfold intsRow
    simp only [List.length_set, List.map_set]
  · rw [upd_ne _ _ h, setEnds_row tag h]

/-- one more block -/
theorem OwnC.addBlock {W1 W2 W3 : World} {g1 d1 ga : Nat} {tt : Int} (h : OwnC w0 w (rowOf f val) val (TI f) bl) (hb1 : Below w.heap.size w W1) (hga : W1.ownsRow w.heap.size 3 1 (.slice (some ⟨ga, 0, none⟩) 1 1) 1 [.int .i64 tt])
    (hb2 : Below W1.heap.size W1 W2) (hown : W3.ownsRow w0.heap.size 46 6 (.slice (some ⟨g1, 0, none⟩) (f.blocks.length + 1) d1) (f.blocks.length + 1) (cellsOf (blockCells val) 0 f.blocks ++ [.slice none 0 0, .slice none 0 0, .int .i64 1, .int .i64 (-1), .slice (some ⟨ga, 0, none⟩) 1 1, .int .i64 0]))
    (hg : W2.grownBy W3 (val .blocks).ownBlock) (hor : (val .blocks).ownBlock = some g1 ∨ g1 = W2.heap.size) (v2 : Vals)
    (hv2 : v2 = upd (upd (upd (upd val (.ends f.blocks.length) (.slice (some ⟨ga, 0, none⟩) 1 1)) (.phis f.blocks.length) (.slice none 0 0)) (.code f.blocks.length) (.slice none 0 0)) .blocks (.slice (some ⟨g1, 0, none⟩) (f.blocks.length + 1) d1)) :
    OwnC w0 W3 (rowOf (Go.Proofs.Ytncmnbchkabgaaa.addBlock f tt) v2) v2 (TI (Go.Proofs.Ytncmnbchkabgaaa.addBlock f tt)) bl := by
  have hbs := h.below.size
  have hs1 := hb1.size
  have hs2 := hb2.size
  have tiB : TI f .blocks := rfl
  have ho := Owned.addBlock (W := w) (W1 := W1) (W2 := W2) (W3 := W3) (tt := tt) h.own hbs hb1 hga hb2 hown hg hor
  rw [← hv2] at ho
  have hlow : ∀ b, (val .blocks).ownBlock = some b → w0.heap.size ≤ b ∧ b < w.heap.size := fun b hb => h.own.lt tiB hb
  refine h.of ho (fun x hx => ?_) (fun tag g ht e => ?_) ?_
  · have hl := h.lt hx
    rw [hg.block x.1 (by omega) (fun e => h.off x hx .blocks tiB e.symm), hb2.block x.1 (by omega), hb1.block x.1 hl]
  · rw [hv2] at e
    by_cases e1 : tag = .blocks
    · subst e1
      rw [upd_same] at e
      have eg : g1 = g := Option.some.inj e
      rcases hor with h2 | h2
      · exact .inl ⟨.blocks, tiB, by rw [h2, eg]⟩
      · exact .inr (by omega)
    · rw [upd_ne _ _ e1] at e
      by_cases e2 : tag = .code f.blocks.length
      · subst e2; rw [upd_same] at e; cases e
      · rw [upd_ne _ _ e2] at e
        by_cases e3 : tag = .phis f.blocks.length
        · subst e3; rw [upd_same] at e; cases e
        · rw [upd_ne _ _ e3] at e
          by_cases e4 : tag = .ends f.blocks.length
          · subst e4
            rw [upd_same] at e
            exact .inr (hga.lt g e).1
          · rw [upd_ne _ _ e4] at e
            rcases addBlock_ti ht with h5 | h5 | h5 | h5
            · exact .inl ⟨tag, h5, e⟩
            · exact absurd h5 e3
            · exact absurd h5 e2
            · exact absurd h5 e4
  · refine ⟨hg.os.trans (hb2.os.trans hb1.os), hg.tape.trans (hb2.tape.trans hb1.tape), hg.output.trans (hb2.output.trans hb1.output), by have := hg.size; omega, fun b hb => ?_⟩
    rw [hg.block b (by omega) (fun e => by have := (hlow b e.symm).1; omega), hb2.block b (by omega), hb1.block b (by omega)]
end

/-- the reference adds the block ahead of the phis -/
theorem comeTo_split {f : FuncM} {i j : Nat} {q : BlockM} (ht : (toOf f i j).toNat < f.blocks.length) (hq : (addBlock (setEnds f i j f.blocks.length) (toOf f i j)).blocks[(toOf f i j).toNat]? = some q) :
    comeTo (addBlock (setEnds f i j f.blocks.length) (toOf f i j)) (toOf f i j).toNat q.phis.length i f.blocks.length (staysM f i j) = splitM f i j := by
  have h := comeTo_all (from_ := (i : Int)) (mid := (f.blocks.length : Int)) (stays := staysM f i j) hq
  unfold splitM
  have hl : (toOf f i j).toNat < (f.blocks.modify i (endM j f.blocks.length)).length := by rw [List.length_modify]; exact ht
  have e : (comeTo (addBlock (setEnds f i j f.blocks.length) (toOf f i j)) (toOf f i j).toNat q.phis.length i f.blocks.length (staysM f i j)).blocks = ((f.blocks.modify i (endM j f.blocks.length)).modify (toOf f i j).toNat (phisM i f.blocks.length (staysM f i j))) ++ [⟨[], [], ⟨1, -1, [toOf f i j], 0⟩⟩] := by
    rw [h]
    show (f.blocks.modify i (endM j f.blocks.length) ++ _).modify _ _ = _
    apply List.ext_getElem?
    intro k
    rw [modify_at]
    by_cases hk : k < (f.blocks.modify i (endM j f.blocks.length)).length
    · rw [List.getElem?_append_left hk, List.getElem?_append_left (by rw [List.length_modify]; exact hk)]
      exact (modify_at _ _ _ _).symm
    · rw [if_neg (by omega), List.getElem?_append_right (by omega), List.getElem?_append_right (by rw [List.length_modify]; omega), List.length_modify]
      simp
  exact (FuncM.mk.injEq ..).mpr ⟨rfl, rfl, rfl, e⟩
section
variable {f : FuncM} {val : Vals} {k : Nat} {q : BlockM} {w0 w : World} {bl : List VarD}

theorem OwnC.blockCell {gb n bc r : Nat} {u : Value} (h : OwnC w0 w (rowOf f val) val (TI f) bl) (hq : f.blocks[k]? = some q) (hv : val .blocks = .slice (some ⟨gb, 0, none⟩) n bc) (hn : f.blocks.length = n) (hr : r < 6) (hu : (blockCells val k q)[r]? = some u) : w.cell? ⟨gb, k * 6 + r, none⟩ = some u := by
  have hkl := (List.getElem?_eq_some_iff.1 hq).1
  have := (h.own.cell (tp := .blocks) rfl rfl hv hn (j := k * 6 + r) (by show _ < n * 6; omega)).1
  have h2 := cellsOf_at (blockCells_len val) f.blocks 0 k r q hq hr
  rw [Nat.zero_add] at h2
  exact this.trans (h2.trans hu)

theorem OwnC.phiCell {gp n pc r i : Nat} {u : Value} {p : PhiM} (h : OwnC w0 w (rowOf f val) val (TI f) bl) (hq : f.blocks[k]? = some q) (hp : q.phis[i]? = some p) (hv : val (.phis k) = .slice (some ⟨gp, 0, none⟩) n pc) (hn : q.phis.length = n) (hr : r < 4) (hu : (phiCells val k i p)[r]? = some u) : w.cell? ⟨gp, i * 4 + r, none⟩ = some u ∧ w.frozen? ⟨gp, i * 4 + r, none⟩ = false := by
  have hil := (List.getElem?_eq_some_iff.1 hp).1
  have := h.own.cell (tp := .phis k) (TI.of (val := val) (row_phis hq)) (row_phis hq) hv hn (j := i * 4 + r) (by show _ < n * 4; omega)
  rw [phi_cell hp hr, hu] at this
  exact this

theorem OwnC.box {g : Nat} {cs : Array Value} {T : TypeId} {row : Rows} {D : Tag → Prop} (h : OwnC w0 w row val D bl) (hm : (g, cs, T) ∈ bl) : ∀ o, w.cell? ⟨g, o, none⟩ = cs[o]? ∧ w.frozen? ⟨g, o, none⟩ = false := fun o =>
  ⟨row_cells (h.cells _ hm).1 rfl o, frozen_of_row w g o _ _ (h.cells _ hm).1⟩
end
end Go.Proofs.Ytncmnbchkabgaaa

namespace Go.Proofs.Ytncmnbchkabgaaa
open Go.RowKit Go.Maps

def ReachPost (bs : List BlockM) (w : World) (e : Ending) (w' : World) : Prop :=
  ∃ (o : List Nat) (g : Nat), e = .returned (.slice (some ⟨g, 0, none⟩) bs.length bs.length) ∧ OrderIs bs o ∧ w'.ownsRow w.heap.size 4 1 (.slice (some ⟨g, 0, none⟩) bs.length bs.length) bs.length (marks bs.length o) ∧ Below w.heap.size w w'

set_option maxRecDepth 100000 in
set_option maxHeartbeats 2000000 in
theorem reach_any (bs : List BlockM) (B : Nat) (pv av cv bv : Value) (w : World) (hbv : BlocksR w B bv bs) (hB : B ≤ w.heap.size) (h0 : 0 < bs.length) (hn5 : bs.length ≤ 512) (hin : EndsIn bs) :
    Calls Try.prog 45 #[.agg #[pv, av, cv, bv]] w (ReachPost bs w) := by
  have HBL := hideI hbv
  have HIN := hideI hin
  obtain ⟨A, c, rfl, hbm, _⟩ := hbv
  obtain ⟨i0, hix, hz0, hz1, hz2⟩ := info_parts bool_info
  clear hin
  go_enter Try.func45, Try.ntmps45
  go_wp2_with (first
    | (at_make; go_must (refine wpList_make_full _ rfl _ _ 39 rfl (w.heap.size + 1) 4 i0 (.bool false) 1 Try.underlying39 hix hz0 hz1 .i64 .i64 _ _ bs.length rfl rfl rfl rfl (by rw [hz2]; omega) (by unfold maxLen; omega) (by simp) ?_); intro w1 hown1 hg1; rw [World.size_alloc] at hown1; go_must (rw [marks_made] at hown1; have hgb := row_cells ((hg1.block w.heap.size (by simp) (by simp)).trans (heap_alloc_new w _)) rfl; have HB0 : Hid (Below w.heap.size w w1) := ((Below.refl _ _).alloc (Nat.le_refl _) _).grown hg1 (by simp) (by simp); have hlt1 : w.heap.size + 1 < w1.heap.size := (hown1.lt _ rfl).2; have HO1 := hideI hown1; clear hown1 hg1; have g0 := hgb 0; have g1 := hgb 1; have g2 := hgb 2; have g3 := hgb 3; clear hgb))
    | (go_at_call 37; go_must (refine (order_any bs w.heap.size pv av cv _ _ ((HBL.out.more' hB).keeps (Keeps.of_below HB0.out)) HB0.out.size h0 hn5 HIN.out).mono ?_); rintro e w2 ⟨o, g, cap, rfl, ho, ho0, ho1, hown2, hb2⟩; go_must (have HORD := hideI ho; have HX := hideI hown2; have hg0 := hown2.lt g rfl; have HO2 := hideI (own_kept_below HO1.out hb2 (fun k hk => by cases hk; exact hlt1)); have HB2 := hideI (HB0.out.trans (hb2.mono HB0.out.size)); have hlt2 := hb2.size; clear ho hown2 hb2)))
  go_loopw [14] (fun u wr => ∃ i : Nat, i ≤ o.length ∧ u = .int .i64 i ∧ Hid (wr.ownsRow (w.heap.size + 1) 4 1 (.slice (some ⟨w.heap.size + 1, 0, none⟩) bs.length bs.length) bs.length (marks bs.length (o.take i))) ∧ Hid (w2.grownBy wr (some (w.heap.size + 1)))) (fun u _ => o.length - (intOf u).toNat)
  case atStart => exact ⟨0, Nat.zero_le _, rfl, HO2, hideI (World.grownBy.refl _ _)⟩
  case round =>
    obtain ⟨i, hi, rfl, HR, HG⟩ := hrel
    by_cases hlt : i < o.length
    · obtain ⟨x, hx⟩ : ∃ x, o[i]? = some x := ⟨_, List.getElem?_eq_getElem hlt⟩
      have hxl := HORD.out.range HIN.out h0 x (List.mem_of_getElem? hx)
      have c1 : wr.cell? ⟨g, i, none⟩ = some (.int .i64 (x : Int)) := (World.cell?_of_block (a := ⟨g, i, none⟩) (HG.out.block g hg0.2 (by simp; omega))).trans (nat_cell HX.out hx)
      have c2 : wr.cell? ⟨w.heap.size + 1, x, none⟩ = some (.bool (decide (x ∈ o.take i))) := by rw [World.ownsRow.cellAt HR.out x (by omega), marks_at hxl]
      have c3 : wr.frozen? ⟨w.heap.size + 1, x, none⟩ = false := World.ownsRow.frozenAt HR.out x
      have HS := World.ownsRow.stored HR.out x (.bool true)
      rw [marks_set, marks_take hx] at HS
      have HS := hideI HS
      clear hx
      go_wp2
      go_roundw
      case rel => exact ⟨i + 1, by omega, by go_num, hideI HS.out.1, hideI (HG.out.trans_grown HS.out.2)⟩
      case measure => simp [intOf]; omega
    · have HE : Hid (o.take i = o) := List.take_of_length_le (by omega)
      rw [HE.out] at HR
      go_wp2
      go_ret
      exact ⟨o, _, rfl, HORD.out, World.ownsRow.mono HR.out (by omega), HB2.out.trans ⟨HG.out.os, HG.out.tape, HG.out.output, HG.out.size, fun b hb => HG.out.block b (Nat.lt_of_lt_of_le hb HB2.out.size) (by simp; omega)⟩⟩

end Go.Proofs.Ytncmnbchkabgaaa
