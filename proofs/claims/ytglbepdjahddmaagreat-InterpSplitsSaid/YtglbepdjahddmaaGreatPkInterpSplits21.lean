/- What InterpSplits rests on, part 21: SplitW, ApartM. -/
import Derived.Test.YtglbepdjahddmaaGreatPkInterpSplits20
import Derived.Deep.QuietTactic

namespace Go.Proofs.YtglbepdjahddmaaGreat
open Go.RowKit
def setEnds (f:FuncM) (k j:Nat) (mid:Int):FuncM:={ f with blocks:=f.blocks.modify k (endM j mid) }
theorem modify_at {α:Type} (l:List α) (t k:Nat) (h:α → α):(l.modify t h)[k]?=if k=t then l[k]?.map h else l[k]?:=by
 rw [List.getElem?_modify]
 by_cases e:t=k
 ·rw [if_pos e.symm];simp [e]
 ·rw [if_neg (fun h => e h.symm)];simp [e]
section
variable {f:FuncM} {val:Vals} {k j:Nat} {q:BlockM} {mid:Int}
theorem setEnds_row (tag:Tag) (h1:tag ≠ .ends k):rowOf (setEnds f k j mid) val tag=rowOf f val tag:=by
 have hb:∀ n,(setEnds f k j mid).blocks[n]?=if n=k then f.blocks[n]?.map (endM j mid) else f.blocks[n]?:=fun n => modify_at _ _ _ _
 cases tag with
 | params => rfl
 | blocks =>
  show some _=some _
  congr 2
  ·show (f.blocks.modify k _).length=_
   rw [List.length_modify]
  ·refine cellsOf_zip _ _ 0 (by show (f.blocks.modify k _).length=_;rw [List.length_modify]) fun n a a' ha ha' => ?_
   rw [hb,ha'] at ha
   split at ha
   ·simp only [Option.map_some,Option.some.injEq] at ha;subst ha;rfl
   ·cases ha;rfl
 | phis n => simp only [rowOf];rw [hb];split <;> (cases f.blocks[n]? <;> rfl)
 | code n => simp only [rowOf];rw [hb];split <;> (cases f.blocks[n]? <;> rfl)
 | ends n =>
  simp only [rowOf]
  rw [hb,if_neg (fun e => h1 (by rw [e]))]
 | args n m => simp only [rowOf];rw [hb];split <;> (cases f.blocks[n]? <;> rfl)
 | fr n m => simp only [rowOf];rw [hb];split <;> (cases f.blocks[n]? <;> rfl)
 | vals n m => simp only [rowOf];rw [hb];split <;> (cases f.blocks[n]? <;> rfl)
theorem setEnds_ends (hq:f.blocks[k]?=some q):rowOf (setEnds f k j mid) val (.ends k)=some (intsRow (q.term.to.set j mid)):=by
 simp only [rowOf]
 rw [show (setEnds f k j mid).blocks[k]?=_ from modify_at _ _ _ _,if_pos rfl,hq]
 rfl
theorem setEnds_ti (hq:f.blocks[k]?=some q) (tag:Tag):TI (setEnds f k j mid) tag ↔ TI f tag:=by
 by_cases h:tag=.ends k
 ·subst h
  exact ⟨fun _ => TI.of (val:=fun _ => .bool false) (row_ends hq),fun _ => TI.of (val:=fun _ => .bool false) (setEnds_ends hq)⟩
 ·unfold TI
  rw [setEnds_row tag h]
theorem Owned.setEnds {w:World} {base g cap:Nat} (ho:Owned w base f val) (hq:f.blocks[k]?=some q) (hv:val (.ends k)=.slice (some ⟨g,0,none⟩) q.term.to.length cap) :
  Owned (w.setCell ⟨g,j,none⟩ (.int .i64 mid)) base (setEnds f k j mid) val:=by
 have tiE:TI f (.ends k):=TI.of (val:=val) (row_ends hq)
 have o:=OwnG.set (j:=j) (u:=.int .i64 mid) ho tiE (row_ends hq) hv rfl
 refine o.congr (fun tag _ => ?_) (fun _ _ => rfl) (fun tag ht => (setEnds_ti hq tag).1 ht)
 by_cases h:tag=.ends k
 ·subst h
  rw [upd_same,setEnds_ends hq]
  unfold intsRow
  simp only [List.length_set,List.map_set]
 ·rw [upd_ne _ _ h,setEnds_row tag h]
end
def phisTo (j:Nat) (from_ mid:Int) (stays:Bool) (b:BlockM):BlockM:={ b with phis:=(b.phis.take j).map (comeM from_ mid stays) ++ b.phis.drop j }
def comeTo (f:FuncM) (t j:Nat) (from_ mid:Int) (stays:Bool):FuncM:={ f with blocks:=f.blocks.modify t (phisTo j from_ mid stays) }
section
variable {f:FuncM} {t j:Nat} {from_ mid:Int} {stays:Bool} {q:BlockM} {p:PhiM}
theorem modify_id {α:Type} {l:List α} {t:Nat} {h:α → α} (e:∀ a,l[t]?=some a → h a=a):l.modify t h=l:=by
 apply List.ext_getElem?
 intro k
 rw [modify_at]
 split
 ·rename_i e2
  subst e2
  cases hk:l[k]? with
  | none => rfl
  | some a => rw [Option.map_some,e a hk]
 ·rfl
theorem comeTo_zero:comeTo f t 0 from_ mid stays=f:=by
 unfold comeTo
 rw [modify_id]
 intro a _
 unfold phisTo
 simp
theorem comeTo_block (hq:f.blocks[t]?=some q):(comeTo f t j from_ mid stays).blocks[t]?=some (phisTo j from_ mid stays q):=by
 rw [show (comeTo f t j from_ mid stays).blocks[t]?=_ from modify_at _ _ _ _,if_pos rfl,hq]
 rfl
theorem phisTo_len:(phisTo j from_ mid stays q).phis.length=q.phis.length:=by
 unfold phisTo
 simp
 omega
theorem phisTo_at (hp:q.phis[j]?=some p):(phisTo j from_ mid stays q).phis[j]?=some p:=by
 unfold phisTo
 have hj:=(List.getElem?_eq_some_iff.1 hp).1
 rw [List.getElem?_append_right (by simp;omega)]
 simp only [List.length_map,List.length_take,List.getElem?_drop]
 rw [show j + (j - min j q.phis.length)=j by omega]
 exact hp
theorem comeTo_next (hq:f.blocks[t]?=some q) (hp:q.phis[j]?=some p):setPhi (comeTo f t j from_ mid stays) t j (comeM from_ mid stays p)=comeTo f t (j + 1) from_ mid stays:=by
 have hj:=(List.getElem?_eq_some_iff.1 hp).1
 unfold setPhi comeTo
 congr 1
 apply List.ext_getElem?
 intro k
 rw [modify_at,modify_at,modify_at]
 by_cases e:k=t
 ·rw [if_pos e,if_pos e,if_pos e]
  subst e
  rw [hq]
  simp only [Option.map_some,Option.some.injEq]
  unfold putPhi phisTo
  simp only
  congr 1
  rw [List.set_append_right _ _ (by simp;omega)]
  simp only [List.length_map,List.length_take]
  rw [show j - min j q.phis.length=0 by omega,List.take_add_one,hp,List.drop_eq_getElem_cons hj]
  simp [(List.getElem?_eq_some_iff.1 hp).2]
 ·rw [if_neg e,if_neg e,if_neg e]
theorem comeTo_all (hq:f.blocks[t]?=some q):(comeTo f t q.phis.length from_ mid stays).blocks=f.blocks.modify t (phisM from_ mid stays):=by
 apply List.ext_getElem?
 intro k
 rw [show (comeTo f t q.phis.length from_ mid stays).blocks[k]?=_ from modify_at _ _ _ _,modify_at]
 split
 ·rename_i e
  subst e
  rw [hq]
  simp only [Option.map_some,Option.some.injEq]
  unfold phisTo phisM
  simp
 ·rfl
end
def addBlock (f:FuncM) (tt:Int):FuncM:={ f with blocks:=f.blocks ++ [⟨[],[],⟨1,-1,[tt],0⟩⟩] }
section
variable {f:FuncM} {val:Vals} {tt:Int}
theorem addBlock_at (k:Nat):(addBlock f tt).blocks[k]?=if k=f.blocks.length then some ⟨[],[],⟨1,-1,[tt],0⟩⟩ else f.blocks[k]?:=by
 show (f.blocks ++ _)[k]?=_
 by_cases h:k < f.blocks.length
 ·rw [List.getElem?_append_left h,if_neg (by omega)]
 ·rw [List.getElem?_append_right (by omega)]
  by_cases e:k=f.blocks.length
  ·subst e;simp
  ·rw [if_neg e,List.getElem?_eq_none (by simp;omega),List.getElem?_eq_none (by omega)]
theorem addBlock_row {val2:Vals} {tag:Tag} (ht:TI f tag) (hb:tag ≠ .blocks) (hv:∀ t,t ≠ .blocks → t ≠ .phis f.blocks.length → t ≠ .code f.blocks.length → t ≠ .ends f.blocks.length → val2 t=val t):rowOf (addBlock f tt) val2 tag=rowOf f val tag:=by
 have key:∀ k,f.blocks[k]?.isSome=true → (addBlock f tt).blocks[k]?=f.blocks[k]?:=fun k hk => by
  rw [addBlock_at,if_neg]
  intro e
  rw [e,List.getElem?_eq_none (Nat.le_refl _)] at hk
  cases hk
 have hs:∀ k,blkOf tag=some k → f.blocks[k]?.isSome=true:=fun k hk => by
  unfold TI at ht
  cases hf:f.blocks[k]? with
  | some b => rfl
  | none => cases tag <;> simp [blkOf] at hk <;> subst hk <;> simp [rowOf,hf] at ht
 cases tag with
 | params => rfl
 | blocks => exact absurd rfl hb
 | phis k =>
  simp only [rowOf]
  rw [key k (hs k rfl)]
  refine congrArg (fun F => Option.map F f.blocks[k]?) (funext fun b => ?_)
  congr 1
  refine cellsOf_congr _ 0 fun i a _ => ?_
  unfold phiCells
  rw [hv _ (by simp) (by simp) (by simp) (by simp),hv _ (by simp) (by simp) (by simp) (by simp)]
 | code k =>
  simp only [rowOf]
  rw [key k (hs k rfl)]
  refine congrArg (fun F => Option.map F f.blocks[k]?) (funext fun b => ?_)
  congr 1
  refine cellsOf_congr _ 0 fun i a _ => ?_
  unfold instrCells
  rw [hv _ (by simp) (by simp) (by simp) (by simp)]
 | ends k => simp only [rowOf];rw [key k (hs k rfl)]
 | fr k i => simp only [rowOf];rw [key k (hs k rfl)]
 | vals k i => simp only [rowOf];rw [key k (hs k rfl)]
 | args k i => simp only [rowOf];rw [key k (hs k rfl)]
theorem addBlock_ti {tag:Tag} (h:TI (addBlock f tt) tag):TI f tag ∨ tag=.phis f.blocks.length ∨ tag=.code f.blocks.length ∨ tag=.ends f.blocks.length:=by
 unfold TI at *
 cases tag with
 | params => exact .inl rfl
 | blocks => exact .inl rfl
 | phis k =>
  by_cases e:k=f.blocks.length
  ·exact .inr (.inl (by rw [e]))
  ·simp only [rowOf] at h ⊢;rw [addBlock_at,if_neg e] at h;exact .inl h
 | code k =>
  by_cases e:k=f.blocks.length
  ·exact .inr (.inr (.inl (by rw [e])))
  ·simp only [rowOf] at h ⊢;rw [addBlock_at,if_neg e] at h;exact .inl h
 | ends k =>
  by_cases e:k=f.blocks.length
  ·exact .inr (.inr (.inr (by rw [e])))
  ·simp only [rowOf] at h ⊢;rw [addBlock_at,if_neg e] at h;exact .inl h
 | fr k i =>
  by_cases e:k=f.blocks.length
  ·simp only [rowOf] at h;rw [addBlock_at,if_pos e] at h;simp at h
  ·simp only [rowOf] at h ⊢;rw [addBlock_at,if_neg e] at h;exact .inl h
 | vals k i =>
  by_cases e:k=f.blocks.length
  ·simp only [rowOf] at h;rw [addBlock_at,if_pos e] at h;simp at h
  ·simp only [rowOf] at h ⊢;rw [addBlock_at,if_neg e] at h;exact .inl h
 | args k i =>
  by_cases e:k=f.blocks.length
  ·simp only [rowOf] at h;rw [addBlock_at,if_pos e] at h;simp at h
  ·simp only [rowOf] at h ⊢;rw [addBlock_at,if_neg e] at h;exact .inl h
end
theorem Owned.addBlock {W W1 W2 W3:World} {base g1 d1 ga:Nat} {f:FuncM} {val:Vals} {tt:Int} (ho:Owned W base f val) (hb:base ≤ W.heap.size) (hb1:Below W.heap.size W W1) (hga:W1.ownsRow W.heap.size 3 1 (.slice (some ⟨ga,0,none⟩) 1 1) 1 [.int .i64 tt])
  (hb2:Below W1.heap.size W1 W2) (hown:W3.ownsRow base 59 6 (.slice (some ⟨g1,0,none⟩) (f.blocks.length + 1) d1) (f.blocks.length + 1) (cellsOf (blockCells val) 0 f.blocks ++ [.slice none 0 0,.slice none 0 0,.int .i64 1,.int .i64 (-1),.slice (some ⟨ga,0,none⟩) 1 1,.int .i64 0]))
  (hg:W2.grownBy W3 (val .blocks).ownBlock) (hor:(val .blocks).ownBlock=some g1 ∨ g1=W2.heap.size) :
  Owned W3 base (addBlock f tt) (upd (upd (upd (upd val (.ends f.blocks.length) (.slice (some ⟨ga,0,none⟩) 1 1)) (.phis f.blocks.length) (.slice none 0 0)) (.code f.blocks.length) (.slice none 0 0)) .blocks (.slice (some ⟨g1,0,none⟩) (f.blocks.length + 1) d1)):=by
 have nE:¬ TI f (.ends f.blocks.length):=by unfold TI;simp [rowOf]
 have nP:¬ TI f (.phis f.blocks.length):=by unfold TI;simp [rowOf]
 have nC:¬ TI f (.code f.blocks.length):=by unfold TI;simp [rowOf]
 have tB:TI f .blocks:=rfl
 have o1:=OwnG.add (t0:=.ends f.blocks.length) (d:=intsRow [tt]) (v:=.slice (some ⟨ga,0,none⟩) 1 1) ho nE hb1 hga hb
 have hb1':=hb1.size
 have o2:=OwnG.add (t0:=.phis f.blocks.length) (d:=⟨128,4,0,[]⟩) (v:=.slice none 0 0) o1 (by simp [nP]) (Below.refl _ _) (World.ownsRow_nil _ _ _ _) (by omega)
 have o3:=OwnG.add (t0:=.code f.blocks.length) (d:=⟨89,4,0,[]⟩) (v:=.slice none 0 0) o2 (by simp [nC]) (Below.refl _ _) (World.ownsRow_nil _ _ _ _) (by omega)
 have o4:=o3.below hb2
 have hvb:upd (upd (upd val (.ends f.blocks.length) (.slice (some ⟨ga,0,none⟩) 1 1)) (.phis f.blocks.length) (.slice none 0 0)) (.code f.blocks.length) (.slice none 0 0) .blocks=val .blocks:=by
  rw [upd_ne _ _ (by simp),upd_ne _ _ (by simp),upd_ne _ _ (by simp)]
 have o5:=o4.grow (t0:=.blocks) (d:=⟨59,6,f.blocks.length + 1,cellsOf (blockCells val) 0 f.blocks ++ [.slice none 0 0,.slice none 0 0,.int .i64 1,.int .i64 (-1),.slice (some ⟨ga,0,none⟩) 1 1,.int .i64 0]⟩)
  (.inl (.inl (.inl tB))) hown (by rw [hvb];exact hg) (g1:=g1) rfl (by rw [hvb];exact hor)
 have hval:∀ t,t ≠ .blocks → t ≠ .phis f.blocks.length → t ≠ .code f.blocks.length → t ≠ .ends f.blocks.length → upd (upd (upd (upd val (.ends f.blocks.length) (.slice (some ⟨ga,0,none⟩) 1 1)) (.phis f.blocks.length) (.slice none 0 0)) (.code f.blocks.length) (.slice none 0 0)) .blocks (.slice (some ⟨g1,0,none⟩) (f.blocks.length + 1) d1) t=val t:=fun t h1 h2 h3 h4 => by
  rw [upd_ne _ _ h1,upd_ne _ _ h3,upd_ne _ _ h2,upd_ne _ _ h4]
 refine o5.congr (fun tag ht => ?_) (fun _ _ => rfl) (fun tag ht => ?_)
 ·by_cases hB:tag=.blocks
  ·subst hB
   rw [upd_same]
   show some _=some _
   congr 2
   ·show (f.blocks ++ _).length=_
    simp
   ·show cellsOf _ 0 (f.blocks ++ _)=_
    rw [cellsOf_push (g':=blockCells val) _ _ _ (fun k b hk => ?_)]
    ·rw [Nat.zero_add]
     congr 1
     unfold blockCells
     rw [upd_ne _ _ (by simp),upd_ne _ _ (by simp),upd_same,upd_ne _ _ (by simp),upd_same,upd_ne _ _ (by simp),upd_ne _ _ (by simp),upd_ne _ _ (by simp),upd_same]
    ·have hk:=(List.getElem?_eq_some_iff.1 hk).1
     rw [Nat.zero_add]
     unfold blockCells
     rw [hval _ (by simp) (by simp;omega) (by simp) (by simp),hval _ (by simp) (by simp) (by simp;omega) (by simp),hval _ (by simp) (by simp) (by simp) (by simp;omega)]
  ·rw [upd_ne _ _ hB]
   rcases addBlock_ti ht with h | h | h | h
   ·rw [addBlock_row h hB hval]
    rw [upd_ne _ _ (show tag ≠ .code f.blocks.length from fun e => nC (e ▸ h)),upd_ne _ _ (show tag ≠ .phis f.blocks.length from fun e => nP (e ▸ h)),upd_ne _ _ (show tag ≠ .ends f.blocks.length from fun e => nE (e ▸ h))]
   ·subst h
    rw [upd_ne _ _ (by simp),upd_same]
    simp [rowOf,addBlock_at,cellsOf]
   ·subst h
    rw [upd_same]
    simp [rowOf,addBlock_at,cellsOf]
   ·subst h
    rw [upd_ne _ _ (by simp),upd_ne _ _ (by simp),upd_same]
    simp [rowOf,addBlock_at]
 ·rcases addBlock_ti ht with h | h | h | h
  ·exact .inl (.inl (.inl h))
  ·exact .inl (.inr h)
  ·exact .inr h
  ·exact .inl (.inl (.inr h))
end Go.Proofs.YtglbepdjahddmaaGreat
namespace Go.Proofs.YtglbepdjahddmaaGreat
open Go.RowKit
structure SplSt (fE:FuncM) (val:Vals) (base N t:Nat) (from_ mid:Int) (stays:Bool) (w:World) (n:Nat) (wr:World) (v:Vals):Prop where
 own:Owned wr base (comeTo fE t n from_ mid stays) v
 par:v .params=val .params
 blk:v .blocks=val .blocks
 phs:v (.phis t)=val (.phis t)
 apart:∀ tag,TI fE tag → (v tag).ownBlock ≠ some N
 box:wr.heap[N]?=some (.cells #[val .params,.int .i64 fE.arrays,.int .i64 fE.cells,val .blocks] 109 (0,0))
 apart2:∀ tag,TI fE tag → (v tag).ownBlock ≠ some (N + 1)
 res:wr.heap[N + 1]?=some (.cells #[.slice none 0 0,.int .i64 0,.int .i64 0,.slice none 0 0] 25 (0,0))
 low:Below base w wr
theorem comeTo_ti {f:FuncM} {t j:Nat} {from_ mid:Int} {stays:Bool} (tag:Tag):TI (comeTo f t j from_ mid stays) tag ↔ TI f tag:=by
 have hb:∀ k,(comeTo f t j from_ mid stays).blocks[k]?=if k=t then f.blocks[k]?.map (phisTo j from_ mid stays) else f.blocks[k]?:=fun k => modify_at _ _ _ _
 have hl:∀ b:BlockM,∀ i,((phisTo j from_ mid stays b).phis[i]?).isSome=(b.phis[i]?).isSome:=fun b i => by
  have:=phisTo_len (j:=j) (from_:=from_) (mid:=mid) (stays:=stays) (q:=b)
  by_cases hi:i < b.phis.length
  ·rw [List.getElem?_eq_getElem hi,List.getElem?_eq_getElem (by omega)];rfl
  ·rw [List.getElem?_eq_none (by omega),List.getElem?_eq_none (by omega)]
 unfold TI
 cases tag with
 | params => rfl
 | blocks => rfl
 | phis k => simp only [rowOf];rw [hb];split <;> simp
 | code k => simp only [rowOf];rw [hb];split <;> simp
 | ends k => simp only [rowOf];rw [hb];split <;> simp
 | fr k i =>
  simp only [rowOf]
  rw [hb]
  split
  ·cases f.blocks[k]? with
   | none => rfl
   | some b => simp only [Option.map_some,Option.bind_some,Option.isSome_map];rw [hl]
  ·rfl
 | vals k i =>
  simp only [rowOf]
  rw [hb]
  split
  ·cases f.blocks[k]? with
   | none => rfl
   | some b => simp only [Option.map_some,Option.bind_some,Option.isSome_map];rw [hl]
  ·rfl
 | args k i =>
  simp only [rowOf]
  rw [hb]
  split
  ·cases f.blocks[k]? with
   | none => rfl
   | some b => rfl
  ·rfl
section
variable {fE:FuncM} {val:Vals} {base N t:Nat} {from_ mid:Int} {stays:Bool} {w wr:World} {n:Nat} {v:Vals} {qE:BlockM} {p:PhiM}
theorem SplSt.reads {gb bc:Nat} (h:SplSt fE val base N t from_ mid stays w n wr v) (hq:fE.blocks[t]?=some qE) (hvB:val .blocks=.slice (some ⟨gb,0,none⟩) fE.blocks.length bc) :
  wr.cell? ⟨gb,t * 6,none⟩=some (val (.phis t)) ∧ wr.cell? ⟨N,3,none⟩=some (val .blocks):=by
 have htl:=(List.getElem?_eq_some_iff.1 hq).1
 have hl:(comeTo fE t n from_ mid stays).blocks.length=fE.blocks.length:=by show (fE.blocks.modify _ _).length=_;rw [List.length_modify]
 have tiB:TI (comeTo fE t n from_ mid stays) .blocks:=rfl
 have hc:=(h.own.cell (tp:=.blocks) (j:=t * 6 + 0) tiB rfl (h.blk.trans hvB) hl (by show _ < fE.blocks.length * 6;omega)).1
 have h2:=cellsOf_at (blockCells_len v) (comeTo fE t n from_ mid stays).blocks 0 t 0 _ (comeTo_block hq) (by omega)
 rw [Nat.zero_add] at h2
 refine ⟨hc.trans (h2.trans (by show some (v (.phis t))=_;rw [h.phs])),?_⟩
 exact (row_cells h.box rfl 3).trans rfl
theorem SplSt.next {w':World} {e:Ending} (h:SplSt fE val base N t from_ mid stays w n wr v) (hq:fE.blocks[t]?=some qE) (hp:qE.phis[n]?=some p) (hN:N + 1 < wr.heap.size) (_hb:base ≤ N)
  (hc:ComePost (comeTo fE t n from_ mid stays) v t n (comeM from_ mid stays p) base wr e w'):e=.returned (.tuple #[]) ∧ ∃ v',SplSt fE val base N t from_ mid stays w (n + 1) w' v':=by
 obtain ⟨v',rfl,hown,hsame,hap,hkeep,hlow⟩:=hc
 rw [comeTo_next hq hp] at hown
 refine ⟨rfl,v',hown,(hsame _ (by simp) (by simp)).trans h.par,(hsame _ (by simp) (by simp)).trans h.blk,(hsame _ (by simp) (by simp)).trans h.phs,fun tag ht e => ?_,?_,fun tag ht e => ?_,?_,h.low.trans hlow⟩
 ·rcases hap tag N ((comeTo_ti tag).2 ht) e with h2 | h2
  ·exact h.apart tag ht h2
  ·omega
 ·rw [hkeep N (by omega) fun tag ht => h.apart tag ((comeTo_ti tag).1 ht)]
  exact h.box
 ·rcases hap tag (N + 1) ((comeTo_ti tag).2 ht) e with h2 | h2
  ·exact h.apart2 tag ht h2
  ·omega
 ·rw [hkeep (N + 1) hN fun tag ht => h.apart2 tag ((comeTo_ti tag).1 ht)]
  exact h.res
end
theorem look_512 {f:FuncM} (h:(lookM f).1=0):f.blocks.length ≤ 512:=by
 have hf:=look_formed h
 unfold formedM at hf
 split at hf
 ·rename_i hl
  simp only [Bool.and_eq_true] at hl
  have h1:=hl.1.1
  unfold limitsB withinB at h1
  simp only [Bool.and_eq_true,decide_eq_true_eq] at h1
  omega
 ·cases hf
theorem block_new' (w:World) (o:Obj) (cs:List Value) (t:TypeId):∀ (j:Nat) (u:Value),cs[j]?=some u → ((w.alloc o).alloc (.cells cs.toArray t)).cell? ((⟨w.heap.size + 1,0,none⟩:Addr).add j)=some u:=by
 intro j u hu
 have h:=heap_alloc_new (w.alloc o) (.cells cs.toArray t)
 simp only [World.size_alloc] at h
 rw [Go.WideShapes.add_plain,cell_of_row _ _ _ _ _ _ h,Nat.zero_add]
 simpa using hu
def KeepBut (w w':World) (g:Nat):Prop:=w.heap.size ≤ w'.heap.size ∧ ∀ b,b < w.heap.size → b ≠ g → w'.heap[b]?=w.heap[b]?
theorem keepBut_of {w w3:World} {o1 o2:Obj} {g n c:Nat} (h:((w.alloc o1).alloc o2).grownBy w3 (Value.slice (some ⟨g,0,none⟩) n c).ownBlock):KeepBut w w3 g:=by
 have hs:=h.size
 simp only [World.size_alloc] at hs
 refine ⟨by omega,fun b hb hne => ?_⟩
 rw [h.block b (by simp;omega) (fun e => hne (Option.some.inj e)),Below.heap_alloc _ _ _ (by simp;omega),Below.heap_alloc _ _ _ hb]
def SplitPost (f:FuncM) (i j base:Nat) (w:World) (e:Ending) (w':World):Prop :=
 ∃ v1:Vals,e=.returned (.agg #[v1 .params,.int .i64 f.arrays,.int .i64 f.cells,v1 .blocks]) ∧ Owned w' base (splitM f i j) v1 ∧ Below base w w'
set_option maxRecDepth 100000 in
set_option maxHeartbeats 4000000 in
theorem split_any {f:FuncM} {val:Vals} {base:Nat} {w:World} {q0:BlockM} (i j:Nat) (ho:Owned w base f val) (h0:(lookM f).1=0) (hq0:f.blocks[i]?=some q0) (hj:j < q0.term.to.length) (hb:base ≤ w.heap.size) :
  Calls Tryz.prog 56 #[.agg #[val .params,.int .i64 f.arrays,.int .i64 f.cells,val .blocks],.int .i64 i,.int .i64 j] w (SplitPost f i j base w):=by
 have hs:=look_small h0
 have hi:=(List.getElem?_eq_some_iff.1 hq0).1
 have hnb:f.blocks.length ≤ 100000:=hs.blocks
 obtain ⟨tz,htz⟩:∃ tz,q0.term.to[j]?=some tz:=⟨_,List.getElem?_eq_getElem hj⟩
 have hto:toOf f i j=tz:=by unfold toOf;rw [hq0];show (q0.term.to[j]?).getD 0=tz;rw [htz];rfl
 have hst:staysM f i j=decide (tz ∈ q0.term.to.set j (f.blocks.length:Int)):=by unfold staysM;rw [hq0,hto]
 obtain ⟨tn,htn,htl⟩:∃ tn:Nat,tz=tn ∧ tn < f.blocks.length:=by
  have h1:=look_term h0 q0 (List.mem_of_getElem? hq0)
  unfold termB targetsB withinB at h1
  simp only [Bool.and_eq_true,List.all_eq_true,decide_eq_true_eq] at h1
  have h2:=h1.1 tz (List.mem_of_getElem? htz)
  exact ⟨tz.toNat,by omega,by omega⟩
 subst htn
 have tiB:TI f .blocks:=rfl
 have tiE:TI f (.ends i):=TI.of (val:=val) (row_ends hq0)
 obtain ⟨gb,bc,hvB,hgb1,hgb2⟩:=ho.slice (tp:=.blocks) tiB rfl (by show 0 < f.blocks.length;omega)
 obtain ⟨ge,ec,hvE,hge1,hge2⟩:=ho.slice tiE (row_ends hq0) (by show 0 < q0.term.to.length;omega)
 have hvB':val .blocks=.slice (some ⟨gb,0,none⟩) f.blocks.length bc:=hvB
 have hvE':val (.ends i)=.slice (some ⟨ge,0,none⟩) q0.term.to.length ec:=hvE
 obtain ⟨PA,pc,hvP⟩:∃ PA pc,val .params=.slice PA f.params.length pc:=by
  obtain ⟨A,c,h,_⟩:=row_read (ho.rows .params _ rfl rfl) hs.params
  exact ⟨A,c,h⟩
 have hbe:gb ≠ ge:=fun e => by have:=ho.apart .blocks (.ends i) gb tiB tiE (by rw [hvB];rfl) (by rw [hvE,e];rfl);cases this
 have hcB:∀ k b r u,f.blocks[k]?=some b → r < 6 → (blockCells val k b)[r]?=some u → w.cell? ⟨gb,k * 6 + r,none⟩=some u:=fun k b r u hk hr hu => by
  have hkl:=(List.getElem?_eq_some_iff.1 hk).1
  have:=(ho.cell (tp:=.blocks) tiB rfl hvB rfl (j:=k * 6 + r) (by show _ < f.blocks.length * 6;omega)).1
  have h2:=cellsOf_at (blockCells_len val) f.blocks 0 k r b hk hr
  rw [Nat.zero_add] at h2
  exact this.trans (h2.trans hu)
 have hcE:=ho.cell tiE (row_ends hq0) hvE rfl (j:=j) (by show _ < q0.term.to.length * 1;omega)
 obtain ⟨W1,hW1⟩:∃ W1,W1=(w.alloc (.cells #[.slice PA f.params.length pc,.int .i64 f.arrays,.int .i64 f.cells,.slice (some ⟨gb,0,none⟩) f.blocks.length bc] 109)).alloc (.cells #[.slice none 0 0,.int .i64 0,.int .i64 0,.slice none 0 0] 25):=⟨_,rfl⟩
 have hB1:Below w.heap.size w W1:=by rw [hW1];exact ((Below.refl _ w).alloc (Nat.le_refl _) _).alloc (by simp) _
 have hs1:W1.heap.size=w.heap.size + 2:=by rw [hW1];simp
 have hbox1:W1.heap[w.heap.size]?=some (.cells #[.slice PA f.params.length pc,.int .i64 f.arrays,.int .i64 f.cells,.slice (some ⟨gb,0,none⟩) f.blocks.length bc] 109 (0,0)):=by
  rw [hW1,Below.heap_alloc _ _ _ (by simp)]
  exact heap_alloc_new w _
 have hres1:W1.heap[w.heap.size + 1]?=some (.cells #[.slice none 0 0,.int .i64 0,.int .i64 0,.slice none 0 0] 25 (0,0)):=by
  rw [hW1]
  have:=heap_alloc_new (w.alloc (.cells #[.slice PA f.params.length pc,.int .i64 f.arrays,.int .i64 f.cells,.slice (some ⟨gb,0,none⟩) f.blocks.length bc] 109)) (.cells #[.slice none 0 0,.int .i64 0,.int .i64 0,.slice none 0 0] 25)
  simpa using this
 have c4:W1.cell? ⟨gb,i * 6 + 4,none⟩=some (.slice (some ⟨ge,0,none⟩) q0.term.to.length ec):=(World.cell?_of_block (a:=⟨gb,i * 6 + 4,none⟩) (hB1.block gb hgb2)).trans (hcB i q0 4 _ hq0 (by omega) (by show some (val (.ends i))=_;rw [hvE']))
 have cE:W1.cell? ⟨ge,j,none⟩=some (.int .i64 (tn:Int)):=(World.cell?_of_block (a:=⟨ge,j,none⟩) (hB1.block ge hge2)).trans (hcE.1.trans (by show (q0.term.to.map (Value.int .i64))[j]?=_;rw [List.getElem?_map,htz];rfl))
 have fE0:W1.frozen? ⟨ge,j,none⟩=false:=(World.frozen?_of_block (a:=⟨ge,j,none⟩) (hB1.block ge hge2)).trans hcE.2
 have hx1:=row_cells hbox1 rfl
 have b3:=hx1 3
 have HO:=hideI ho
 have H0:=hideI h0
 have HQ0:=hideI hq0
 have HTZ:=hideI htz
 have HTO:=hideI hto
 have HST:=hideI hst
 have HB1:=hideI hB1
 have HBOX1:=hideI hbox1
 have HS1:=hideI hs1
 have HRES1:=hideI hres1
 have HW1:=hideI hW1
 have HVP:=hideI hvP
 have HVB:=hideI hvB'
 have HVE:=hideI hvE'
 have HCB:=hideI hcB
 rw [hvP,hvB']
 clear ho h0 hq0 htz hto hst hB1 hbox1 hs1 hres1 hvP hvB hvB' hvE hvE' hcB hcE hx1 tiB tiE hs hW1
 go_enter Tryz.func56,Tryz.ntmps56
 go_upto_region 1 with fail
 rw [← HW1.out]
 go_wp2
 go_quiet (fail)
 have hEN:ge ≠ w.heap.size:=by omega
 have HO2:Hid (Owned ((W1.drewN nq).setCell ⟨ge,j,none⟩ (.int .i64 (f.blocks.length:Int))) base (setEnds f i j (f.blocks.length:Int)) val):=by
  have o1:Owned W1 base f val:=HO.out.below HB1.out
  have o2:Owned (W1.drewN nq) base f val:=o1.kept fun _ _ _ => rfl
  exact o2.setEnds HQ0.out HVE.out
 have HI2:Hid (Ints ((W1.drewN nq).setCell ⟨ge,j,none⟩ (.int .i64 (f.blocks.length:Int))) (W1.drewN nq).heap.size (.slice (some ⟨ge,0,none⟩) q0.term.to.length ec) (q0.term.to.set j (f.blocks.length:Int))):=by
  have h1:=HO2.out.rows (.ends i) _ ((setEnds_ti HQ0.out _).2 (TI.of (val:=val) (row_ends HQ0.out))) (setEnds_ends HQ0.out)
  have h2:=(row_read h1 (by show (q0.term.to.set j _).length ≤ _;rw [List.length_set];have:=(look_small H0.out).each q0 (List.mem_of_getElem? HQ0.out);have:=this.ends;omega)).ints
  rw [HVE.out] at h2
  exact hideI (by simpa using h2)
 have HBOX2:Hid (((W1.drewN nq).setCell ⟨ge,j,none⟩ (.int .i64 (f.blocks.length:Int))).heap[w.heap.size]?=some (.cells #[.slice PA f.params.length pc,.int .i64 f.arrays,.int .i64 f.cells,.slice (some ⟨gb,0,none⟩) f.blocks.length bc] 109 (0,0))):=by
  rw [heap_setCell_other _ _ _ _ (by simpa using hEN.symm)]
  exact HBOX1.out
 have HRES2:Hid (((W1.drewN nq).setCell ⟨ge,j,none⟩ (.int .i64 (f.blocks.length:Int))).heap[w.heap.size + 1]?=some (.cells #[.slice none 0 0,.int .i64 0,.int .i64 0,.slice none 0 0] 25 (0,0))):=by
  rw [heap_setCell_other _ _ _ _ (by simp;omega)]
  exact HRES1.out
 have HL2:Hid (Below base w ((W1.drewN nq).setCell ⟨ge,j,none⟩ (.int .i64 (f.blocks.length:Int)))):=by
  have h1:Below base w (W1.drewN nq):=⟨HB1.out.os,HB1.out.tape,HB1.out.output,HB1.out.size,fun b hb1 => HB1.out.block b (by omega)⟩
  exact h1.setCell hge1 _
 obtain ⟨W2,hW2⟩:∃ W2,W2=(W1.drewN nq).setCell ⟨ge,j,none⟩ (.int .i64 (f.blocks.length:Int)):=⟨_,rfl⟩
 rw [← hW2] at HO2 HI2 HBOX2 HRES2 HL2
 go_upto_region 4 with fail
 rw [← hW2]
 clear hW2
 have htlE:tn < (setEnds f i j (f.blocks.length:Int)).blocks.length:=by show _ < (f.blocks.modify _ _).length;rw [List.length_modify];exact htl
 have hphi:∀ qE,(setEnds f i j (f.blocks.length:Int)).blocks[tn]?=some qE → ∀ p ∈ qE.phis,p.vals.length=p.fr.length ∧ p.fr.length ≤ 512:=by
  intro qE hqE p hp
  obtain ⟨q,hq⟩:∃ q,f.blocks[tn]?=some q:=⟨_,List.getElem?_eq_getElem htl⟩
  have hph:qE.phis=q.phis:=by
   rw [show (setEnds f i j (f.blocks.length:Int)).blocks[tn]?=_ from modify_at _ _ _ _,hq] at hqE
   split at hqE
   ·cases hqE;rfl
   ·cases hqE;rfl
  rw [hph] at hp
  have h1:=(formed_all (look_formed H0.out)).1 q (List.mem_of_getElem? hq)
  have h2:=h1.1 p hp
  unfold phiB at h2
  simp only [Bool.and_eq_true,beq_iff_eq] at h2
  have h3:=once_len h2.2.2
  have h4:=look_512 H0.out
  omega
 obtain ⟨fE,hfE⟩:∃ fE,fE=setEnds f i j (f.blocks.length:Int):=⟨_,rfl⟩
 rw [← hfE] at HO2 htlE hphi
 have hEl:fE.blocks.length=f.blocks.length:=by rw [hfE];show (f.blocks.modify _ _).length=_;rw [List.length_modify]
 have hEa:fE.arrays=f.arrays:=by rw [hfE];rfl
 have hEc:fE.cells=f.cells:=by rw [hfE];rfl
 obtain ⟨qE,hqE⟩:∃ qE,fE.blocks[tn]?=some qE:=⟨_,List.getElem?_eq_getElem htlE⟩
 have HPHI:=hideI (hphi qE hqE)
 obtain ⟨st,hstE⟩:∃ st,st=decide ((tn:Int) ∈ q0.term.to.set j (f.blocks.length:Int)):=⟨_,rfl⟩
 have HSTE:=hideI hstE
 have HFE:=hideI hfE
 have HQE:=hideI hqE
 have HEL:=hideI hEl
 have S0:SplSt fE val base w.heap.size tn (i:Int) (f.blocks.length:Int) st w 0 W2 val:=by
  refine ⟨by rw [comeTo_zero];exact HO2.out,rfl,rfl,rfl,fun tag ht e => ?_,?_,fun tag ht e => ?_,HRES2.out,HL2.out⟩
  ·rw [hfE] at ht
   have:=(HO.out.lt ((setEnds_ti HQ0.out tag).1 ht) e).2
   omega
  ·rw [HVP.out,HVB.out,hEa,hEc];exact HBOX2.out
  ·rw [hfE] at ht
   have:=(HO.out.lt ((setEnds_ti HQ0.out tag).1 ht) e).2
   omega
 have HS0:=hideI S0
 obtain ⟨L,hL⟩:∃ L,L=qE.phis.length:=⟨_,rfl⟩
 have HL:=hideI hL
 have hLl:L ≤ 100000:=by
   rw [hL]
   obtain ⟨q,hq⟩:∃ q,f.blocks[tn]?=some q:=⟨_,List.getElem?_eq_getElem htl⟩
   have hph:qE.phis=q.phis:=by
    rw [hfE,show (setEnds f i j (f.blocks.length:Int)).blocks[tn]?=_ from modify_at _ _ _ _,hq] at hqE
    split at hqE
    ·cases hqE;rfl
    ·cases hqE;rfl
   rw [hph]
   exact ((look_small H0.out).each q (List.mem_of_getElem? hq)).phis
 obtain ⟨PH,phc,hvH⟩:∃ PH phc,val (.phis tn)=.slice PH L phc:=by
  obtain ⟨A,c,h,_⟩:=row_read (HO2.out.rows (.phis tn) _ (TI.of (val:=val) (row_phis hqE)) (row_phis hqE)) (by show qE.phis.length ≤ 100000;omega)
  exact ⟨A,c,by rw [hL];exact h⟩
 have HVH:=hideI hvH
 have CC:Hid (Calls Tryz.prog 97 #[.slice (some ⟨ge,0,none⟩) q0.term.to.length ec,.int .i64 (tn:Int)] W2 fun e w' => e=.returned (.bool st) ∧ W2=w'):=by
  have:=contains_any _ _ _ (tn:Int) W2 HI2.out
  rw [← hstE] at this
  exact this
 obtain ⟨r1,r2⟩:=S0.reads hqE (by rw [HVB.out,hEl])
 rw [hvH] at r1
 rw [HVB.out] at r2
 clear hphi hstE hfE hqE hEl hEa hEc hL hvH S0 c4 cE fE0 b3 htlE
 go_wp2_with (go_at_call 97;go_must (refine CC.out.mono ?_);rintro e w2 ⟨rfl,rfl⟩)
 clear r1 r2
 go_loopw [43] (fun u wr => ∃ (n:Nat) (v:Vals),n ≤ L ∧ u=.int .i64 n ∧ Hid (SplSt fE val base w.heap.size tn (i:Int) (f.blocks.length:Int) st w n wr v)) (fun u _ => L - (intOf u).toNat)
 case atStart => exact ⟨0,val,Nat.zero_le _,rfl,HS0⟩
 case round =>
  obtain ⟨n,v,hn,rfl,HST1⟩:=hrel
  have hN:w.heap.size + 1 < wr.heap.size:=(Array.getElem?_eq_some_iff.1 HST1.out.res).1
  obtain ⟨r1,r2⟩:=HST1.out.reads HQE.out (by rw [HVB.out,HEL.out])
  rw [HVB.out] at r2
  by_cases hlt:n < L
  ·obtain ⟨p,hp⟩:∃ p,qE.phis[n]?=some p:=⟨_,List.getElem?_eq_getElem (by rw [← HL.out];exact hlt)⟩
   obtain ⟨gp,cp,hvp,_,_⟩:=HST1.out.own.slice (tp:=.phis tn) (TI.of (val:=v) (row_phis (comeTo_block HQE.out))) (row_phis (comeTo_block HQE.out)) (by show 0 < (phisTo _ _ _ _ qE).phis.length;rw [phisTo_len,← HL.out];omega)
   have hvp':v (.phis tn)=.slice (some ⟨gp,0,none⟩) (phisTo n (i:Int) (f.blocks.length:Int) st qE).phis.length cp:=hvp
   have hvp2:val (.phis tn)=.slice (some ⟨gp,0,none⟩) L cp:=by rw [← HST1.out.phs,hvp',phisTo_len,← HL.out]
   have CT:=hideI (come_any (i:Int) (f.blocks.length:Int) st wr HST1.out.own (comeTo_block HQE.out) (phisTo_at hp) hvp' (HPHI.out p (List.mem_of_getElem? hp)).1 (HPHI.out p (List.mem_of_getElem? hp)).2 (by omega))
   have HP:=hideI hp
   rw [hvp2] at r1
   clear hp hvp hvp' hvp2
   go_wp2_with (go_at_call 102;go_must (refine CT.out.mono ?_);rintro e w2 hc;obtain ⟨rfl,v',hs'⟩:=HST1.out.next HQE.out HP.out hN hb hc;have HS':=hideI hs';clear hc hs')
   go_roundw
   case rel => exact ⟨n + 1,v',by omega,by go_num,HS'⟩
   case measure => simp [intOf];omega
  ·have hnL:n=L:=by omega
   rw [hnL] at HST1
   clear hnL
   obtain ⟨i0,hix,hz0,hz1,hz2⟩:=info_parts block_info
   have hlC:(comeTo fE tn L (i:Int) (f.blocks.length:Int) st).blocks.length=f.blocks.length:=by rw [← HEL.out];show (fE.blocks.modify _ _).length=_;rw [List.length_modify]
   have HLC:=hideI hlC
   have HOWNB:Hid (wr.ownsRow base 59 6 (.slice (some ⟨gb,0,none⟩) f.blocks.length bc) f.blocks.length (cellsOf (blockCells v) 0 (comeTo fE tn L (i:Int) (f.blocks.length:Int) st).blocks)):=by
    have:=HST1.out.own.rows .blocks _ rfl rfl
    rw [HST1.out.blk,HVB.out] at this
    have h2:wr.ownsRow base 59 6 (.slice (some ⟨gb,0,none⟩) f.blocks.length bc) (comeTo fE tn L (i:Int) (f.blocks.length:Int) st).blocks.length (cellsOf (blockCells v) 0 (comeTo fE tn L (i:Int) (f.blocks.length:Int) st).blocks):=this
    rw [hlC] at h2
    exact h2
   have hNb:w.heap.size ≠ gb:=by omega
   have hNb2:w.heap.size + 1 ≠ gb:=by omega
   have HBX:Hid (∀ W3,KeepBut wr W3 gb → (∀ o,W3.cell? ⟨w.heap.size,o,none⟩=(#[.slice PA f.params.length pc,.int .i64 f.arrays,.int .i64 f.cells,.slice (some ⟨gb,0,none⟩) f.blocks.length bc]:Array Value)[o]?) ∧ (∀ o,W3.frozen? ⟨w.heap.size,o,none⟩=false) ∧ (∀ o,W3.cell? ⟨w.heap.size + 1,o,none⟩=(#[.slice none 0 0,.int .i64 0,.int .i64 0,.slice none 0 0]:Array Value)[o]?) ∧ (∀ o,W3.frozen? ⟨w.heap.size + 1,o,none⟩=false)):=fun W3 h => by
    have h1:W3.heap[w.heap.size]?=wr.heap[w.heap.size]?:=h.2 _ (by omega) hNb
    have h2:W3.heap[w.heap.size + 1]?=wr.heap[w.heap.size + 1]?:=h.2 _ hN hNb2
    have hbx:=HST1.out.box
    have hEa:fE.arrays=f.arrays:=by rw [HFE.out];rfl
    have hEc:fE.cells=f.cells:=by rw [HFE.out];rfl
    rw [HVP.out,HVB.out,hEa,hEc] at hbx
    exact ⟨row_cells hbx h1,free_row' hbx h1,row_cells HST1.out.res h2,free_row' HST1.out.res h2⟩
   clear hlC r1
   go_wp2_with (at_builtin;go_must (refine wpList_append_lies _ rfl _ _ _ rfl base 59 i0 _ 6 96 Tryz.underlying23 hix hz0 hz1 hz2 rfl (by decide) _ _ _ rfl ((HOWNB.out.alloc _).alloc _) ⟨wr.heap.size + 1,0,none⟩ 1 1 [.slice none 0 0,.slice none 0 0,.int .i64 1,.int .i64 (-1),.slice (some ⟨wr.heap.size,0,none⟩) 1 1,.int .i64 0] rfl rfl (block_new' wr _ _ _) (by simp [Value.oneCell']) (by decide) (by unfold maxLen;omega) (by omega) (by simp;omega) _ rfl ?_);intro g1 cap1 w3 hown3 hgrow3 hor3 _;have HKB:=hideI (keepBut_of hgrow3);obtain ⟨q1,q2,q3,q4⟩:=HBX.out _ HKB.out;have b0:=q1 0;have b1:=q1 1;have b2:=q1 2;have f3:=q2 3;have s0:=q3 0;have s1:=q3 1;have s2:=q3 2;have s3:=q3 3;have g0:=q4 0;have g1':=q4 1;have g2:=q4 2;have g3:=q4 3;have b3:=q1 3;clear q1 q2 q3 q4 r2;have HG3:=hideI hgrow3;have HO3:=hideI hown3;clear hgrow3 hown3)
   have hC:=HLC.out
   have hga:(wr.alloc (.cells #[.int .i64 (tn:Int)] 3)).ownsRow wr.heap.size 3 1 (.slice (some ⟨wr.heap.size,0,none⟩) 1 1) 1 [.int .i64 (tn:Int)] :=
    ⟨rfl,.inr ⟨wr.heap.size,1,#[.int .i64 (tn:Int)],rfl,Nat.le_refl _,heap_alloc_new wr _,Nat.le_refl _,by decide,rfl,rfl⟩⟩
   have HO4:=Owned.addBlock (W:=wr) (W1:=wr.alloc (.cells #[.int .i64 (tn:Int)] 3)) (W2:=(wr.alloc (.cells #[.int .i64 (tn:Int)] 3)).alloc (.cells #[.slice none 0 0,.slice none 0 0,.int .i64 1,.int .i64 (-1),.slice (some ⟨wr.heap.size,0,none⟩) 1 1,.int .i64 0] 59)) (W3:=w3) (tt:=(tn:Int)) (ga:=wr.heap.size) (g1:=g1) (d1:=cap1) HST1.out.own (by omega) ((Below.refl _ _).alloc (Nat.le_refl _) _) hga ((Below.refl _ _).alloc (Nat.le_refl _) _) (by rw [hC];exact HO3.out) (by rw [HST1.out.blk,HVB.out];exact HG3.out) (by rw [HST1.out.blk,HVB.out];exact hor3)
   rw [hC] at HO4
   have hspl:addBlock (comeTo fE tn L (i:Int) (f.blocks.length:Int) st) (tn:Int)=splitM f i j:=by
    have hb:=comeTo_all (from_:=(i:Int)) (mid:=(f.blocks.length:Int)) (stays:=st) HQE.out
    unfold splitM addBlock
    rw [HL.out,hb,HTO.out,HST.out,← HSTE.out,HFE.out]
    rfl
   rw [hspl] at HO4
   have hgN:g1 ≠ w.heap.size ∧ g1 ≠ w.heap.size + 1:=by
    rcases hor3 with h | h
    ·have:gb=g1:=Option.some.inj h
     omega
    ·simp only [World.size_alloc] at h
     omega
   have hno:∀ X,X=w.heap.size ∨ X=w.heap.size + 1 → ∀ tag,TI (splitM f i j) tag → (upd (upd (upd (upd v (.ends f.blocks.length) (.slice (some ⟨wr.heap.size,0,none⟩) 1 1)) (.phis f.blocks.length) (.slice none 0 0)) (.code f.blocks.length) (.slice none 0 0)) .blocks (.slice (some ⟨g1,0,none⟩) (f.blocks.length + 1) cap1) tag).ownBlock ≠ some X:=by
    intro X hX tag ht
    rw [← hspl] at ht
    by_cases h1:tag=.blocks
    ·subst h1
     rw [upd_same]
     intro e
     have:g1=X:=Option.some.inj e
     omega
    ·rw [upd_ne _ _ h1]
     by_cases h2:tag=.code f.blocks.length
     ·subst h2;rw [upd_same];intro e;cases e
     ·rw [upd_ne _ _ h2]
      by_cases h3:tag=.phis f.blocks.length
      ·subst h3;rw [upd_same];intro e;cases e
      ·rw [upd_ne _ _ h3]
       by_cases h4:tag=.ends f.blocks.length
       ·subst h4;rw [upd_same];intro e;have:wr.heap.size=X:=Option.some.inj e;omega
       ·rw [upd_ne _ _ h4]
        rcases addBlock_ti ht with h | h | h | h
        ·rcases hX with rfl | rfl
         ·exact HST1.out.apart tag ((comeTo_ti tag).1 h)
         ·exact HST1.out.apart2 tag ((comeTo_ti tag).1 h)
        ·rw [hC] at h;exact absurd h h3
        ·rw [hC] at h;exact absurd h h2
        ·rw [hC] at h;exact absurd h h4
   have hlow:Below base w w3:=HST1.out.low.trans ⟨HG3.out.os,HG3.out.tape,HG3.out.output,HKB.out.1,fun b hb1 => HKB.out.2 b (by omega) (by omega)⟩
   refine bodyPost_ret (v:=.agg #[.slice PA f.params.length pc,.int .i64 f.arrays,.int .i64 f.cells,.slice (some ⟨g1,0,none⟩) (f.blocks.length + 1) cap1]) (by simp [results,Tryz.results56,go_sem,s0,s1,s2,s3]) rfl ⟨upd (upd (upd (upd v (.ends f.blocks.length) (.slice (some ⟨wr.heap.size,0,none⟩) 1 1)) (.phis f.blocks.length) (.slice none 0 0)) (.code f.blocks.length) (.slice none 0 0)) .blocks (.slice (some ⟨g1,0,none⟩) (f.blocks.length + 1) cap1),?_,?_,?_⟩
   ·rw [upd_same,upd_ne _ _ (by simp),upd_ne _ _ (by simp),upd_ne _ _ (by simp),upd_ne _ _ (by simp),HST1.out.par,HVP.out]
   ·exact ((((OwnG.other HO4 (hno _ (.inl rfl))).other (hno _ (.inr rfl))).other (hno _ (.inr rfl))).other (hno _ (.inr rfl))).other (hno _ (.inr rfl))
   ·exact ((((hlow.setCell (by simpa using hb) _).setCell (by simp;omega) _).setCell (by simp;omega) _).setCell (by simp;omega) _).setCell (by simp;omega) _
end Go.Proofs.YtglbepdjahddmaaGreat

namespace Go.Proofs.YtglbepdjahddmaaGreat
open Go.RowKit Go.Maps
def hasM (bs:List BlockM) (from_ k:Int):Bool :=
 decide (0 ≤ from_) && decide (from_ < bs.length) && decide (0 ≤ k) && (match bs[from_.toNat]? with | some b => decide (k < b.term.to.length) | none => false)
theorem hasM_yes {bs:List BlockM} {from_ k:Int} (h:hasM bs from_ k=true):∃ (i j:Nat) (b:BlockM),from_=i ∧ k=j ∧ bs[i]?=some b ∧ j < b.term.to.length:=by
 unfold hasM at h
 simp only [Bool.and_eq_true,decide_eq_true_eq] at h
 obtain ⟨⟨⟨h1,h2⟩,h3⟩,h4⟩:=h
 obtain ⟨i,rfl⟩:=Int.eq_ofNat_of_zero_le h1
 obtain ⟨j,rfl⟩:=Int.eq_ofNat_of_zero_le h3
 rw [Int.toNat_natCast] at h4
 cases hb:bs[i]? with
 | none => rw [hb] at h4;cases h4
 | some b =>
  rw [hb] at h4
  simp only [decide_eq_true_eq] at h4
  exact ⟨i,j,b,rfl,rfl,hb,by omega⟩
def HasPost (bs:List BlockM) (from_ k:Int) (w:World) (e:Ending) (w':World):Prop:=e=.returned (.bool (hasM bs from_ k)) ∧ Below w.heap.size w w'
set_option maxRecDepth 100000 in
set_option maxHeartbeats 2000000 in
theorem hasEdge_any (bs:List BlockM) (from_ k:Int) (B:Nat) (pv av cv bv:Value) (w:World) (hbv:BlocksR w B bv bs) (hB:B ≤ w.heap.size) :
  Calls Tryz.prog 54 #[.agg #[pv,av,cv,bv],.int .i64 from_,.int .i64 k] w (HasPost bs from_ k w):=by
 have HBL:=hideI hbv
 obtain ⟨A,c,rfl,_,hbm⟩:=hbv
 have HBM:=hideI hbm
 have HX:=hideI (heap_alloc_new w (.cells #[pv,av,cv,.slice A bs.length c] 109))
 have HB0:Hid (Below w.heap.size w (w.alloc (.cells #[pv,av,cv,.slice A bs.length c] 109))):=(Below.refl _ w).alloc (Nat.le_refl _) _
 clear hbm
 by_cases h1:0 ≤ from_
 ·by_cases h2:from_ < bs.length
  ·by_cases h3:0 ≤ k
   ·obtain ⟨i,rfl⟩:=Int.eq_ofNat_of_zero_le h1
    have hi:i < bs.length:=by omega
    obtain ⟨b,hb⟩:∃ b,bs[i]?=some b:=⟨_,List.getElem?_eq_getElem hi⟩
    obtain ⟨g,off,_,_,tv,rfl,hg,_,_,_,_,q4,_,_,_,hto,_⟩:=HBM.out i b hb
    obtain ⟨T,tc,rfl,_⟩:=hto
    have HB:=hideI hb
    have Q4:Hid (∀ W,Below w.heap.size w W → W.cell? ⟨g,off + i * 6 + 4,none⟩=some (.slice T b.term.to.length tc)):=fun W hW => (World.cell?_of_block (a:=⟨g,off + i * 6 + 4,none⟩) (hW.block g (by omega))).trans q4
    have q5:=Q4.out _ HB0.out
    clear hb q4
    by_cases h4:k < b.term.to.length
    ·have hd:decide (k < (b.term.to.length:Int))=true:=by simpa using h4
     go_enter Tryz.func54,Tryz.ntmps54
     go_wp2
     go_ret
     exact ⟨by simp [hasM,HB.out,h1,h2,h3,h4],HB0.out⟩
    ·have hd:decide (k < (b.term.to.length:Int))=false:=by simpa using h4
     go_enter Tryz.func54,Tryz.ntmps54
     go_wp2
     go_ret
     exact ⟨by simp [hasM,HB.out,h1,h2,h3,h4],HB0.out⟩
   ·go_enter Tryz.func54,Tryz.ntmps54
    go_wp2
    go_ret
    exact ⟨congrArg (fun b => Ending.returned (.bool b)) (show false=hasM bs from_ k by unfold hasM;rw [decide_eq_false (show ¬ (0:Int) ≤ k by omega)];simp),HB0.out⟩
  ·go_enter Tryz.func54,Tryz.ntmps54
   go_wp2
   go_ret
   exact ⟨congrArg (fun b => Ending.returned (.bool b)) (show false=hasM bs from_ k by unfold hasM;rw [decide_eq_false (show ¬ from_ < (bs.length:Int) by omega)];simp),HB0.out⟩
 ·go_enter Tryz.func54,Tryz.ntmps54
  go_wp2
  go_ret
  exact ⟨congrArg (fun b => Ending.returned (.bool b)) (show false=hasM bs from_ k by unfold hasM;rw [decide_eq_false (show ¬ (0:Int) ≤ from_ by omega)];simp),HB0.out⟩
end Go.Proofs.YtglbepdjahddmaaGreat
namespace Go.Proofs.YtglbepdjahddmaaGreat
open Go.RowKit
theorem Owned.params {w:World} {base:Nat} {f:FuncM} {val:Vals} (h:Owned w base f val) (hl:f.params.length ≤ 100000):∃ A c,val .params=.slice A f.params.length c:=by
 obtain ⟨A,c,h,_⟩:=row_read (h.rows .params _ rfl rfl) hl
 exact ⟨A,c,h⟩
theorem Owned.blocks {w:World} {base:Nat} {f:FuncM} {val:Vals} (h:Owned w base f val) (hl:f.blocks.length ≤ 100000):∃ A c,val .blocks=.slice A f.blocks.length c:=by
 obtain ⟨A,c,h,_⟩:=row_read (h.rows .blocks _ rfl rfl) hl
 exact ⟨A,c,h⟩
def OwnedPost (f:FuncM) (w:World) (e:Ending) (w':World):Prop :=
 ∃ (v1:Vals) (base:Nat) (A:Option Addr) (c:Nat) (A':Option Addr) (c':Nat),e=.returned (.agg #[.slice A f.params.length c,.int .i64 f.arrays,.int .i64 f.cells,.slice A' f.blocks.length c']) ∧
  v1 .params=.slice A f.params.length c ∧ v1 .blocks=.slice A' f.blocks.length c' ∧ Owned w' base f v1 ∧ w.heap.size ≤ base ∧ base ≤ w'.heap.size ∧ Below w.heap.size w w'
theorem fresh_own (f:FuncM) (B:Nat) (pv bv:Value) (w:World) (hpv:Ints w B pv f.params) (hbv:BlocksR w B bv f.blocks) (hB:B ≤ w.heap.size) (h0:(lookM f).1=0) :
  Calls Tryz.prog 55 #[.agg #[pv,.int .i64 f.arrays,.int .i64 f.cells,bv]] w (OwnedPost f w):=by
 refine (fresh_any f B pv bv w hpv hbv hB h0).mono ?_
 rintro e w' ⟨v1,rfl,ho,hb⟩
 have hs:=look_small h0
 have ho':=Owned.of ho
 obtain ⟨A,c,e1⟩:=ho'.params hs.params
 obtain ⟨A',c',e2⟩:=ho'.blocks hs.blocks
 obtain ⟨g,_,_,h1,h2⟩:=ho'.slice (tp:=.blocks) rfl rfl (by have:=look_some_block h0;show 0 < f.blocks.length;omega)
 exact ⟨v1,w.heap.size + 2,A,c,A',c',by rw [e1,e2],e1,e2,ho',by omega,by omega,hb⟩
theorem splitM_len (f:FuncM) (i j:Nat):(splitM f i j).blocks.length=f.blocks.length + 1:=by
 unfold splitM
 simp
theorem split_own {f:FuncM} {w w1:World} {base:Nat} {v1:Vals} {q0:BlockM} {A A':Option Addr} {c c':Nat} (i j:Nat) (ho:Owned w1 base f v1) (e1:v1 .params=.slice A f.params.length c) (e2:v1 .blocks=.slice A' f.blocks.length c') (h0:(lookM f).1=0) (hq0:f.blocks[i]?=some q0) (hj:j < q0.term.to.length) (hb:base ≤ w1.heap.size) (hw:w.heap.size ≤ base) (hlow:Below w.heap.size w w1) :
  Calls Tryz.prog 56 #[.agg #[.slice A f.params.length c,.int .i64 f.arrays,.int .i64 f.cells,.slice A' f.blocks.length c'],.int .i64 i,.int .i64 j] w1 (OwnedPost (splitM f i j) w):=by
 have h:=split_any i j ho h0 hq0 hj hb
 rw [e1,e2] at h
 refine h.mono ?_
 rintro e w' ⟨v2,rfl,ho2,hb2⟩
 have hs:=look_small h0
 have hl:=look_some_block h0
 obtain ⟨B,d,k1⟩:=ho2.params hs.params
 obtain ⟨B',d',k2⟩:=ho2.blocks (by rw [splitM_len];omega)
 exact ⟨v2,base,B,d,B',d',by rw [k1,k2];rfl,k1,k2,ho2,hw,Nat.le_trans hb hb2.size,hlow.trans (hb2.mono hw)⟩
def splitErr (f:FuncM) (from_ k:Int):Int :=
 if (lookM f).1 ≠ 0 then (lookM f).1 else if hasM f.blocks from_ k=false then 9 else if 512 ≤ f.blocks.length ∨ 4096 ≤ sizeM f then 2 else 0
def GSplitPost (f:FuncM) (from_ k:Int) (w:World) (e:Ending) (w':World):Prop :=
 (∃ c,c ≠ 0 ∧ splitErr f from_ k=c ∧ e=.returned (.tuple #[.agg #[.slice none 0 0,.int .i64 0,.int .i64 0,.slice none 0 0],.int .i64 c]) ∧ Below w.heap.size w w') ∨
 (splitErr f from_ k=0 ∧ ∃ (i j:Nat) (v1:Vals) (base:Nat) (A:Option Addr) (c:Nat) (A':Option Addr) (c':Nat),from_=i ∧ k=j ∧ e=.returned (.tuple #[.agg #[.slice A f.params.length c,.int .i64 f.arrays,.int .i64 f.cells,.slice A' (f.blocks.length + 1) c'],.int .i64 0]) ∧
  v1 .params=.slice A f.params.length c ∧ v1 .blocks=.slice A' (f.blocks.length + 1) c' ∧ Owned w' base (splitM f i j) v1 ∧ w.heap.size ≤ base ∧ base ≤ w'.heap.size ∧ Below w.heap.size w w')
set_option maxRecDepth 100000 in
set_option maxHeartbeats 2000000 in
theorem gSplit_any (f:FuncM) (from_ k:Int) (B:Nat) (pv bv:Value) (w:World) (hpv:Ints w B pv f.params) (hbv:BlocksR w B bv f.blocks) (hB:B ≤ w.heap.size) (hid:∀ u ∈ usesM f,I64 u.1) :
  Calls Tryz.prog 24 #[.agg #[pv,.int .i64 f.arrays,.int .i64 f.cells,bv],.int .i64 from_,.int .i64 k] w (GSplitPost f from_ k w):=by
 have HP:=hideI hpv
 have HBL:=hideI hbv
 have HID:=hideI hid
 obtain ⟨P,pc,rfl,_⟩:=hpv
 obtain ⟨A,c,rfl,hbm,_⟩:=hbv
 obtain ⟨W0,hW0⟩:∃ W0,W0=(w.alloc (.cells #[.slice P f.params.length pc,.int .i64 f.arrays,.int .i64 f.cells,.slice A f.blocks.length c] 25)).alloc (.cells #[.slice none 0 0,.int .i64 0,.int .i64 0,.slice none 0 0] 25):=⟨_,rfl⟩
 have hB0:Below w.heap.size w W0:=by rw [hW0];exact ((Below.refl _ w).alloc (Nat.le_refl _) _).alloc (by simp) _
 have hs0:W0.heap.size=w.heap.size + 2:=by rw [hW0];simp
 have hbox:W0.heap[w.heap.size]?=some (.cells #[.slice P f.params.length pc,.int .i64 f.arrays,.int .i64 f.cells,.slice A f.blocks.length c] 25 (0,0)):=by
  rw [hW0,Below.heap_alloc _ _ _ (by simp)]
  exact heap_alloc_new w _
 have hres:W0.heap[w.heap.size + 1]?=some (.cells #[.slice none 0 0,.int .i64 0,.int .i64 0,.slice none 0 0] 25 (0,0)):=by
  rw [hW0]
  have:=heap_alloc_new (w.alloc (.cells #[.slice P f.params.length pc,.int .i64 f.arrays,.int .i64 f.cells,.slice A f.blocks.length c] 25)) (.cells #[.slice none 0 0,.int .i64 0,.int .i64 0,.slice none 0 0] 25)
  simpa using this
 have HW0:=hideI hW0
 have HB0:=hideI hB0
 have HS0:=hideI hs0
 have G0:Hid (∀ W,Below W0.heap.size W0 W → (∀ o,W.cell? ⟨w.heap.size,o,none⟩=(#[.slice P f.params.length pc,.int .i64 f.arrays,.int .i64 f.cells,.slice A f.blocks.length c]:Array Value)[o]?) ∧ (∀ o,W.cell? ⟨w.heap.size + 1,o,none⟩=(#[.slice none 0 0,.int .i64 0,.int .i64 0,.slice none 0 0]:Array Value)[o]?) ∧ (∀ o,W.frozen? ⟨w.heap.size + 1,o,none⟩=false)):=fun W hW => by
  have h1:=hW.block w.heap.size (by omega)
  have h2:=hW.block (w.heap.size + 1) (by omega)
  exact ⟨row_cells hbox h1,row_cells hres h2,free_row' hres h2⟩
 have HPW:Hid (∀ W,Below W0.heap.size W0 W → Ints W B (.slice P f.params.length pc) f.params ∧ BlocksR W B (.slice A f.blocks.length c) f.blocks ∧ Below w.heap.size w W):=fun W hW => by
  have h1:Below w.heap.size w W:=HB0.out.trans (hW.mono (by omega))
  exact ⟨HP.out.keeps (Keeps.of_below (h1.mono hB)),HBL.out.keeps (Keeps.of_below (h1.mono hB)),h1⟩
 obtain ⟨q1,q2,q3⟩:=G0.out W0 (Below.refl _ _)
 have b0:=q1 0
 have b1:=q1 1
 have b2:=q1 2
 have b3:=q1 3
 have s0:=q2 0
 have s1:=q2 1
 have s2:=q2 2
 have s3:=q2 3
 have g0:=q3 0
 have g1:=q3 1
 have g2:=q3 2
 have g3:=q3 3
 clear hid hW0 hB0 hs0 hbox hres q1 q2 q3
 by_cases h0:(lookM f).1=0
 ·have H0:=hideI h0
  have hso:sizeOut f=(sizeM f:Int):=by unfold sizeOut;rw [if_pos h0]
  have HSO:=hideI hso
  have hnb:=look_512 h0
  have hsz:sizeM f ≤ 4096:=look_size h0
  cases hh:hasM f.blocks from_ k
  ·have HH:=hideI hh
   clear h0 hso hh
   go_enter Tryz.func24,Tryz.ntmps24
   go_upto_region 1 with fail
   rw [← HW0.out]
   go_wp2_with (first
    | (go_at_call 53;go_must (refine (size_any f B _ _ _ (HPW.out _ (Below.refl _ _)).1 (HPW.out _ (Below.refl _ _)).2.1 (by have:=HS0.out;omega) HID.out).mono ?_);rw [H0.out];rintro e w1 ⟨rfl,hb⟩;have HB1:=hideI hb;obtain ⟨q1,q2,q3⟩:=G0.out _ hb;have b0:=q1 0;have b1:=q1 1;have b2:=q1 2;have b3:=q1 3;have s0:=q2 0;have s1:=q2 1;have s2:=q2 2;have s3:=q2 3;have g0:=q3 0;have g1:=q3 1;have g2:=q3 2;have g3:=q3 3;clear q1 q2 q3 hb)
    | (go_at_call 54;go_must (refine (hasEdge_any f.blocks _ _ B _ _ _ _ _ (HPW.out _ (by exact HB1.out.alloc HB1.out.size _)).2.1 (by have:=HS0.out;have:=HB1.out.size;simp;omega)).mono ?_);rintro e w2 ⟨he,hb⟩;rw [HH.out] at he;subst he;have HB2:=hideI ((HB1.out.alloc HB1.out.size _).trans (hb.mono (by have:=HB1.out.size;simp;omega)));obtain ⟨q1,q2,q3⟩:=G0.out _ HB2.out;have b0:=q1 0;have b1:=q1 1;have b2:=q1 2;have b3:=q1 3;have s0:=q2 0;have s1:=q2 1;have s2:=q2 2;have s3:=q2 3;have g0:=q3 0;have g1:=q3 1;have g2:=q3 2;have g3:=q3 3;clear q1 q2 q3 hb))
   refine bodyPost_ret (v:=.tuple #[.agg #[.slice none 0 0,.int .i64 0,.int .i64 0,.slice none 0 0],.int .i64 9]) (by simp [results,Tryz.results24,go_sem,s0,s1,s2,s3]) rfl (.inl ⟨9,by decide,by unfold splitErr;rw [if_neg (by simpa using H0.out),if_pos HH.out],rfl,?_⟩)
   exact ((((HPW.out _ HB2.out).2.2.setCell (by simp) _).setCell (by simp) _).setCell (by simp) _).setCell (by simp) _
  ·have HH:=hideI hh
   obtain ⟨i,j,q,rfl,rfl,hq,hj⟩:=hasM_yes hh
   have HQ:=hideI hq
   clear h0 hso hh hq
   by_cases hl1:512 ≤ f.blocks.length
   ·have hd1:decide ((512:Int) ≤ (f.blocks.length:Int))=true:=by simp;omega
    go_enter Tryz.func24,Tryz.ntmps24
    go_upto_region 1 with fail
    rw [← HW0.out]
    go_wp2_with (first
     | (go_at_call 53;go_must (refine (size_any f B _ _ _ (HPW.out _ (Below.refl _ _)).1 (HPW.out _ (Below.refl _ _)).2.1 (by have:=HS0.out;omega) HID.out).mono ?_);rw [H0.out,HSO.out];rintro e w1 ⟨rfl,hb⟩;have HB1:=hideI hb;obtain ⟨q1,q2,q3⟩:=G0.out _ hb;have b0:=q1 0;have b1:=q1 1;have b2:=q1 2;have b3:=q1 3;have s0:=q2 0;have s1:=q2 1;have s2:=q2 2;have s3:=q2 3;have g0:=q3 0;have g1:=q3 1;have g2:=q3 2;have g3:=q3 3;clear q1 q2 q3 hb)
     | (go_at_call 54;go_must (refine (hasEdge_any f.blocks _ _ B _ _ _ _ _ (HPW.out _ (by exact HB1.out.alloc HB1.out.size _)).2.1 (by have:=HS0.out;have:=HB1.out.size;simp;omega)).mono ?_);rintro e w2 ⟨he,hb⟩;rw [HH.out] at he;subst he;have HB2:=hideI ((HB1.out.alloc HB1.out.size _).trans (hb.mono (by have:=HB1.out.size;simp;omega)));obtain ⟨q1,q2,q3⟩:=G0.out _ HB2.out;have b0:=q1 0;have b1:=q1 1;have b2:=q1 2;have b3:=q1 3;have s0:=q2 0;have s1:=q2 1;have s2:=q2 2;have s3:=q2 3;have g0:=q3 0;have g1:=q3 1;have g2:=q3 2;have g3:=q3 3;clear q1 q2 q3 hb))
    refine bodyPost_ret (v:=.tuple #[.agg #[.slice none 0 0,.int .i64 0,.int .i64 0,.slice none 0 0],.int .i64 2]) (by simp [results,Tryz.results24,go_sem,s0,s1,s2,s3]) rfl (.inl ⟨2,by decide,by unfold splitErr;rw [if_neg (by simpa using H0.out),if_neg (by rw [HH.out];simp),if_pos (.inl hl1)],rfl,?_⟩)
    exact ((((HPW.out _ HB2.out).2.2.setCell (by simp) _).setCell (by simp) _).setCell (by simp) _).setCell (by simp) _
   ·by_cases hl2:4096 ≤ sizeM f
    ·have hd1:decide ((512:Int) ≤ (f.blocks.length:Int))=false:=by simp;omega
     have hd2:decide ((4096:Int) ≤ ((sizeM f:Nat):Int))=true:=by simp;omega
     go_enter Tryz.func24,Tryz.ntmps24
     go_upto_region 1 with fail
     rw [← HW0.out]
     go_wp2_with (first
      | (go_at_call 53;go_must (refine (size_any f B _ _ _ (HPW.out _ (Below.refl _ _)).1 (HPW.out _ (Below.refl _ _)).2.1 (by have:=HS0.out;omega) HID.out).mono ?_);rw [H0.out,HSO.out];rintro e w1 ⟨rfl,hb⟩;have HB1:=hideI hb;obtain ⟨q1,q2,q3⟩:=G0.out _ hb;have b0:=q1 0;have b1:=q1 1;have b2:=q1 2;have b3:=q1 3;have s0:=q2 0;have s1:=q2 1;have s2:=q2 2;have s3:=q2 3;have g0:=q3 0;have g1:=q3 1;have g2:=q3 2;have g3:=q3 3;clear q1 q2 q3 hb)
      | (go_at_call 54;go_must (refine (hasEdge_any f.blocks _ _ B _ _ _ _ _ (HPW.out _ (by exact HB1.out.alloc HB1.out.size _)).2.1 (by have:=HS0.out;have:=HB1.out.size;simp;omega)).mono ?_);rintro e w2 ⟨he,hb⟩;rw [HH.out] at he;subst he;have HB2:=hideI ((HB1.out.alloc HB1.out.size _).trans (hb.mono (by have:=HB1.out.size;simp;omega)));obtain ⟨q1,q2,q3⟩:=G0.out _ HB2.out;have b0:=q1 0;have b1:=q1 1;have b2:=q1 2;have b3:=q1 3;have s0:=q2 0;have s1:=q2 1;have s2:=q2 2;have s3:=q2 3;have g0:=q3 0;have g1:=q3 1;have g2:=q3 2;have g3:=q3 3;clear q1 q2 q3 hb))
     refine bodyPost_ret (v:=.tuple #[.agg #[.slice none 0 0,.int .i64 0,.int .i64 0,.slice none 0 0],.int .i64 2]) (by simp [results,Tryz.results24,go_sem,s0,s1,s2,s3]) rfl (.inl ⟨2,by decide,by unfold splitErr;rw [if_neg (by simpa using H0.out),if_neg (by rw [HH.out];simp),if_pos (.inr hl2)],rfl,?_⟩)
     exact ((((HPW.out _ HB2.out).2.2.setCell (by simp) _).setCell (by simp) _).setCell (by simp) _).setCell (by simp) _
    ·have hd1:decide ((512:Int) ≤ (f.blocks.length:Int))=false:=by simp;omega
     have hd2:decide ((4096:Int) ≤ ((sizeM f:Nat):Int))=false:=by simp;omega
     go_enter Tryz.func24,Tryz.ntmps24
     go_upto_region 1 with fail
     rw [← HW0.out]
     go_wp2_with (first
      | (go_at_call 53;go_must (refine (size_any f B _ _ _ (HPW.out _ (Below.refl _ _)).1 (HPW.out _ (Below.refl _ _)).2.1 (by have:=HS0.out;omega) HID.out).mono ?_);rw [H0.out,HSO.out];rintro e w1 ⟨rfl,hb⟩;have HB1:=hideI hb;obtain ⟨q1,q2,q3⟩:=G0.out _ hb;have b0:=q1 0;have b1:=q1 1;have b2:=q1 2;have b3:=q1 3;have s0:=q2 0;have s1:=q2 1;have s2:=q2 2;have s3:=q2 3;have g0:=q3 0;have g1:=q3 1;have g2:=q3 2;have g3:=q3 3;clear q1 q2 q3 hb)
      | (go_at_call 54;go_must (refine (hasEdge_any f.blocks _ _ B _ _ _ _ _ (HPW.out _ (by exact HB1.out.alloc HB1.out.size _)).2.1 (by have:=HS0.out;have:=HB1.out.size;simp;omega)).mono ?_);rintro e w2 ⟨he,hb⟩;rw [HH.out] at he;subst he;have HB2:=hideI ((HB1.out.alloc HB1.out.size _).trans (hb.mono (by have:=HB1.out.size;simp;omega)));obtain ⟨q1,q2,q3⟩:=G0.out _ HB2.out;have b0:=q1 0;have b1:=q1 1;have b2:=q1 2;have b3:=q1 3;have s0:=q2 0;have s1:=q2 1;have s2:=q2 2;have s3:=q2 3;have g0:=q3 0;have g1:=q3 1;have g2:=q3 2;have g3:=q3 3;clear q1 q2 q3 hb)
      | (go_at_call 55;go_must (refine (fresh_own f B _ _ _ (HPW.out _ HB2.out).1 (HPW.out _ HB2.out).2.1 (by have:=HS0.out;have:=HB2.out.size;omega) H0.out).mono ?_);rintro e w3 ⟨v1,base,A1,c1,A2,c2,rfl,e1,e2,hown,hw1,hw2,hb⟩;have HE1:=hideI e1;have HE2:=hideI e2;have HOW:=hideI hown;have HB3:=hideI hb;clear e1 e2 hown hb)
      | (go_at_call 56;go_must (refine (split_own (w:=w2) i j HOW.out HE1.out HE2.out H0.out HQ.out hj hw2 hw1 HB3.out).mono ?_);rintro e w4 ⟨v3,base2,A3,c3,A4,c4,rfl,e3,e4,hown2,hw3,hw4,hb⟩;have HE3:=hideI e3;have HE4:=hideI e4;have HOW2:=hideI hown2;have HB4:=hideI (HB2.out.trans (hb.mono HB2.out.size));obtain ⟨q1,q2,q3⟩:=G0.out _ HB4.out;have s0:=q2 0;have s1:=q2 1;have s2:=q2 2;have s3:=q2 3;have g0:=q3 0;have g1:=q3 1;have g2:=q3 2;have g3:=q3 3;clear q1 q2 q3 hb e3 e4 hown2))
     have h2s:=HB2.out.size
     have hs0:=HS0.out
     have hno:∀ t,TI (splitM f i j) t → (v3 t).ownBlock ≠ some (w.heap.size + 1):=fun t ht e => by
      have:=(HOW2.out.lt ht e).1
      omega
     have hL:=splitM_len f i j
     have hE4:=HE4.out
     have hE3:=HE3.out
     rw [hL] at hE4
     refine bodyPost_ret (v:=.tuple #[.agg #[.slice A3 f.params.length c3,.int .i64 f.arrays,.int .i64 f.cells,.slice A4 (f.blocks.length + 1) c4],.int .i64 0]) (by simp [results,Tryz.results24,go_sem,s0,s1,s2,s3,splitM]) rfl (.inr ⟨?_,i,j,v3,base2,A3,c3,A4,c4,rfl,rfl,rfl,hE3,hE4,?_,?_,?_,?_⟩)
     ·unfold splitErr
      rw [if_neg (by simpa using H0.out),if_neg (by rw [HH.out];simp),if_neg (by omega)]
     ·exact (((OwnG.other HOW2.out hno).other hno).other hno).other hno
     ·omega
     ·simpa using hw4
     ·exact ((((HPW.out _ HB4.out).2.2.setCell (by simp) _).setCell (by simp) _).setCell (by simp) _).setCell (by simp) _
 ·have H0:=hideI h0
  have hb0:((lookM f).1 != 0)=true:=by simpa using h0
  clear h0
  go_enter Tryz.func24,Tryz.ntmps24
  go_upto_region 1 with fail
  rw [← HW0.out]
  go_wp2_with (first
   | (go_at_call 53;go_must (refine (size_any f B _ _ _ (HPW.out _ (Below.refl _ _)).1 (HPW.out _ (Below.refl _ _)).2.1 (by have:=HS0.out;omega) HID.out).mono ?_);rintro e w1 ⟨rfl,hb⟩;have HB1:=hideI hb;obtain ⟨q1,q2,q3⟩:=G0.out _ hb;have b0:=q1 0;have b1:=q1 1;have b2:=q1 2;have b3:=q1 3;have s0:=q2 0;have s1:=q2 1;have s2:=q2 2;have s3:=q2 3;have g0:=q3 0;have g1:=q3 1;have g2:=q3 2;have g3:=q3 3;clear q1 q2 q3 hb))
  refine bodyPost_ret (v:=.tuple #[.agg #[.slice none 0 0,.int .i64 0,.int .i64 0,.slice none 0 0],.int .i64 (lookM f).1]) (by simp [results,Tryz.results24,go_sem,s0,s1,s2,s3]) rfl (.inl ⟨(lookM f).1,H0.out,by unfold splitErr;rw [if_pos H0.out],rfl,?_⟩)
  exact ((((HPW.out _ HB1.out).2.2.setCell (by simp) _).setCell (by simp) _).setCell (by simp) _).setCell (by simp) _
end Go.Proofs.YtglbepdjahddmaaGreat
namespace Go.Proofs.YtglbepdjahddmaaGreat
open Go.RowKit
theorem splitM_at (f:FuncM) (i j k:Nat):(splitM f i j).blocks[k]? =
  if k=f.blocks.length then some ⟨[],[],⟨1,-1,[toOf f i j],0⟩⟩
  else (f.blocks[k]?.map fun b => if k=i then endM j f.blocks.length b else b).map fun b => if k=(toOf f i j).toNat then phisM i f.blocks.length (staysM f i j) b else b:=by
 show (_ ++ _)[k]?=_
 by_cases h:k < f.blocks.length
 ·rw [List.getElem?_append_left (by simpa using h),if_neg (by omega),modify_at,modify_at]
  cases f.blocks[k]? with
  | none => simp
  | some b =>
   simp only [Option.map_some]
   split <;> split <;> rfl
 ·rw [List.getElem?_append_right (by simp;omega)]
  by_cases e:k=f.blocks.length
  ·subst e;simp
  ·rw [if_neg e,List.getElem?_eq_none (by simp;omega),List.getElem?_eq_none (by omega)]
   rfl
theorem splitM_term {f:FuncM} {i j k:Nat} {q:BlockM} (hk:f.blocks[k]?=some q):∃ q1,(splitM f i j).blocks[k]?=some q1 ∧ q1.term.to=(if k=i then q.term.to.set j (f.blocks.length:Int) else q.term.to):=by
 have hl:=(List.getElem?_eq_some_iff.1 hk).1
 rw [splitM_at,if_neg (by omega),hk]
 refine ⟨_,rfl,?_⟩
 split <;> split <;> rfl
theorem splitM_new (f:FuncM) (i j:Nat):(splitM f i j).blocks[f.blocks.length]?=some ⟨[],[],⟨1,-1,[toOf f i j],0⟩⟩:=by rw [splitM_at,if_pos rfl]
structure Apart (f h:FuncM) (b:Nat) (t0 t1:Int):Prop where
 len:h.blocks.length=f.blocks.length + 2
 now:∃ q,h.blocks[b]?=some q ∧ q.term.to=[(f.blocks.length:Int),(f.blocks.length:Int) + 1]
 one:h.blocks[f.blocks.length]?=some ⟨[],[],⟨1,-1,[t0],0⟩⟩
 two:h.blocks[f.blocks.length + 1]?=some ⟨[],[],⟨1,-1,[t1],0⟩⟩
theorem split_uses {f:FuncM} {i j:Nat} (h:(lookM f).1=0):∀ u ∈ usesM (splitM f i j),u ∈ usesM f:=by
 have hr:∀ b ∈ f.blocks,∀ p ∈ b.phis,phiB f p=true:=fun b hb => ((formed_all (look_formed h)).1 b hb).1
 have hv:=split_variant (split_wider f i j) (look_some_block h).1 hr
 intro u hu
 unfold usesM at hu ⊢
 rw [List.mem_flatMap] at hu
 obtain ⟨c,hc,hu⟩:=hu
 rcases List.mem_append.1 hc with hc | hc
 ·obtain ⟨k,hk⟩:=List.getElem?_of_mem hc
  have hil:k < f.blocks.length:=by have:=(List.getElem?_eq_some_iff.1 hk).1;simpa using this
  exact List.mem_flatMap.2 ⟨_,List.getElem_mem hil,(hv k _ c (List.getElem?_eq_getElem hil) hk).uses u hu⟩
 ·rw [List.mem_singleton] at hc
  subst hc
  simp [usesBlock,usesTerm] at hu
theorem come_same (from_ mid:Int) (s:Bool) (p:PhiM):(comeM from_ mid s p).id=p.id ∧ (comeM from_ mid s p).typ=p.typ:=by
 unfold comeM
 split
 ·split <;> exact ⟨rfl,rfl⟩
 ·exact ⟨rfl,rfl⟩
theorem split_fits {f:FuncM} {i j:Nat} (h:FnFits f):FnFits (splitM f i j):=by
 have key:∀ c ∈ (splitM f i j).blocks,c=⟨[],[],⟨1,-1,[toOf f i j],0⟩⟩ ∨ ∃ b ∈ f.blocks,(∀ p ∈ c.phis,∃ p' ∈ b.phis,p.id=p'.id ∧ p.typ=p'.typ) ∧ c.code=b.code ∧ c.term.op=b.term.op ∧ c.term.val=b.term.val ∧ c.term.n=b.term.n:=by
  intro c hc
  obtain ⟨k,hk⟩:=List.getElem?_of_mem hc
  rw [splitM_at] at hk
  split at hk
  ·cases hk;exact .inl rfl
  ·right
   cases hb:f.blocks[k]? with
   | none => rw [hb] at hk;cases hk
   | some b =>
    rw [hb] at hk
    simp only [Option.map_some,Option.some.injEq] at hk
    refine ⟨b,List.mem_of_getElem? hb,?_⟩
    have h1:∀ b',(b'=if k=i then endM j f.blocks.length b else b) → b'.phis=b.phis ∧ b'.code=b.code ∧ b'.term.op=b.term.op ∧ b'.term.val=b.term.val ∧ b'.term.n=b.term.n:=by
     intro b' e
     subst e
     split <;> exact ⟨rfl,rfl,rfl,rfl,rfl⟩
    obtain ⟨e1,e2,e3,e4,e5⟩:=h1 _ rfl
    subst hk
    split
    ·refine ⟨fun p hp => ?_,e2,e3,e4,e5⟩
     unfold phisM at hp
     simp only at hp
     rw [e1] at hp
     obtain ⟨p',hp',rfl⟩:=List.mem_map.1 hp
     exact ⟨p',hp',come_same _ _ _ _⟩
    ·refine ⟨fun p hp => ⟨p,by rw [← e1];exact hp,rfl,rfl⟩,e2,e3,e4,e5⟩
 refine ⟨fun c hc p hp => ?_,fun c hc x hx => ?_,fun c hc => ?_⟩
 ·rcases key c hc with rfl | ⟨b,hb,h1,_⟩
  ·cases hp
  ·obtain ⟨p',hp',e1,e2⟩:=h1 p hp
   rw [e1,e2]
   exact h.phi b hb p' hp'
 ·rcases key c hc with rfl | ⟨b,hb,_,e2,_⟩
  ·cases hx
  ·rw [e2] at hx;exact h.code b hb x hx
 ·rcases key c hc with rfl | ⟨b,hb,_,_,e3,e4,e5⟩
  ·exact ⟨(by unfold I64;decide:I64 1),(by unfold I64;decide:I64 (-1)),(by unfold I64;decide:I64 0)⟩
  ·rw [e3,e4,e5];exact h.term b hb
theorem Owned.reads {w:World} {base:Nat} {f:FuncM} {val:Vals} (h:Owned w base f val) (h0:(lookM f).1=0) (hf:FnFits f):Ints w w.heap.size (val .params) f.params ∧ BlocksR w w.heap.size (val .blocks) f.blocks:=by
 have hr:=OwnG.rd (h.ee fun t ht => ht.ti) (look_small h0)
 exact ⟨hr.params,hr.blocks hf⟩
theorem splitErr_zero {f:FuncM} {a k:Int} (h:splitErr f a k=0):(lookM f).1=0 ∧ hasM f.blocks a k=true ∧ f.blocks.length < 512 ∧ sizeM f < 4096:=by
 unfold splitErr at h
 split at h
 ·rename_i h1;exact absurd h h1
 ·rename_i h1
  split at h
  ·cases h
  ·rename_i h2
   split at h
   ·cases h
   ·rename_i h3
    exact ⟨by simpa using h1,by simpa using h2,by omega,by omega⟩
end Go.Proofs.YtglbepdjahddmaaGreat
