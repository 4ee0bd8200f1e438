/- What EditBackUpto rests on, part 12: FBlockW, FFunc, FDone. -/
import Derived.Test.YtaehbgppfahdeaaGreatPkEditBackUpto11
import Derived.Deep.RegionWith
import Derived.Deep.DeepCutAuto
import Derived.Deep.CutRange
import Derived.Outline

namespace Go.Proofs.YtaehbgppfahdeaaGreat
open Go.RowKit
def DD (k np nc:Nat) (t:Tag):Prop:=t=.phis k ∨ t=.code k ∨ t=.ends k ∨ (∃ j,j < np ∧ (t=.fr k j ∨ t=.vals k j)) ∨ ∃ j,j < nc ∧ t=.args k j
structure BlkSt (f:FuncM) (val:Vals) (k:Nat) (b:BlockM) (N:Nat) (w0 wx:World) (val1:Vals) (np nc:Nat):Prop where
 same:∀ t,¬ DD k np nc t → val1 t=val t
 own:OwnG wx (N + 2) (rowOf f val1) val1 (DD k np nc)
 box:wx.heap[N]?=some (.cells (blockCells val1 k b).toArray 62 (0,0))
 res:wx.heap[N + 1]?=some (.cells #[.slice none 0 0,.slice none 0 0,.int .i64 0,.int .i64 0,.slice none 0 0,.int .i64 0] 62 (0,0))
 low:Below N w0 wx
section
variable {f:FuncM} {val val1:Vals} {k:Nat} {b:BlockM} {N np nc:Nat} {w0 wx:World}
theorem DD.not_fr {k np nc:Nat}:¬ DD k np nc (.fr k np):=by
 rintro (h | h | h | ⟨j,hj,h | h⟩ | ⟨j,hj,h⟩) <;> cases h
 omega
theorem DD.not_vals {k np nc:Nat}:¬ DD k np nc (.vals k np):=by
 rintro (h | h | h | ⟨j,hj,h | h⟩ | ⟨j,hj,h⟩) <;> cases h
 omega
theorem DD.not_args {k np nc:Nat}:¬ DD k np nc (.args k nc):=by
 rintro (h | h | h | ⟨j,hj,h | h⟩ | ⟨j,hj,h⟩) <;> cases h
 omega
theorem DD.succ {k np nc:Nat} {t:Tag}:DD k (np + 1) nc t ↔ (DD k np nc t ∨ t=.fr k np) ∨ t=.vals k np:=by
 unfold DD
 constructor
 ·rintro (h | h | h | ⟨j,hj,h⟩ | h)
  ·exact .inl (.inl (.inl h))
  ·exact .inl (.inl (.inr (.inl h)))
  ·exact .inl (.inl (.inr (.inr (.inl h))))
  ·by_cases e:j=np
   ·subst e
    rcases h with h | h
    ·exact .inl (.inr h)
    ·exact .inr h
   ·exact .inl (.inl (.inr (.inr (.inr (.inl ⟨j,by omega,h⟩)))))
  ·exact .inl (.inl (.inr (.inr (.inr (.inr h)))))
 ·rintro (((h | h | h | ⟨j,hj,h⟩ | h) | h) | h)
  ·exact .inl h
  ·exact .inr (.inl h)
  ·exact .inr (.inr (.inl h))
  ·exact .inr (.inr (.inr (.inl ⟨j,by omega,h⟩)))
  ·exact .inr (.inr (.inr (.inr h)))
  ·exact .inr (.inr (.inr (.inl ⟨np,by omega,.inl h⟩)))
  ·exact .inr (.inr (.inr (.inl ⟨np,by omega,.inr h⟩)))
theorem DD.succ_args {k np nc:Nat} {t:Tag}:DD k np (nc + 1) t ↔ DD k np nc t ∨ t=.args k nc:=by
 unfold DD
 constructor
 ·rintro (h | h | h | h | ⟨j,hj,h⟩)
  ·exact .inl (.inl h)
  ·exact .inl (.inr (.inl h))
  ·exact .inl (.inr (.inr (.inl h)))
  ·exact .inl (.inr (.inr (.inr (.inl h))))
  ·by_cases e:j=nc
   ·subst e
    exact .inr h
   ·exact .inl (.inr (.inr (.inr (.inr ⟨j,by omega,h⟩))))
 ·rintro ((h | h | h | h | ⟨j,hj,h⟩) | h)
  ·exact .inl h
  ·exact .inr (.inl h)
  ·exact .inr (.inr (.inl h))
  ·exact .inr (.inr (.inr (.inl h)))
  ·exact .inr (.inr (.inr (.inr ⟨j,by omega,h⟩)))
  ·exact .inr (.inr (.inr (.inr ⟨nc,by omega,h⟩)))
theorem rowOf_upd_leaf {f:FuncM} {val:Vals} {t0 t:Tag} {v:Value} (h:t ≠ .blocks) (h1:∀ k i,t0=.fr k i → t ≠ .phis k) (h2:∀ k i,t0=.vals k i → t ≠ .phis k) (h3:∀ k i,t0=.args k i → t ≠ .code k):rowOf f (upd val t0 v) t=rowOf f val t:=by
 cases t with
 | params => rfl
 | blocks => exact absurd rfl h
 | phis k =>
  simp only [rowOf]
  cases f.blocks[k]? with
  | none => rfl
  | some b =>
   simp only [Option.map_some,Option.some.injEq,RowD.mk.injEq,true_and]
   refine cellsOf_congr _ _ fun i p _ => ?_
   unfold phiCells
   rw [upd_ne _ _ (fun e => h1 k (0 + i) e.symm rfl),upd_ne _ _ (fun e => h2 k (0 + i) e.symm rfl)]
 | code k =>
  simp only [rowOf]
  cases f.blocks[k]? with
  | none => rfl
  | some b =>
   simp only [Option.map_some,Option.some.injEq,RowD.mk.injEq,true_and]
   refine cellsOf_congr _ _ fun i p _ => ?_
   unfold instrCells
   rw [upd_ne _ _ (fun e => h3 k (0 + i) e.symm rfl)]
 | ends k => rfl
 | fr k i => rfl
 | vals k i => rfl
 | args k i => rfl
theorem phis_set {f:FuncM} {val:Vals} {k i:Nat} {b:BlockM} {v u:Value} (hb:f.blocks[k]?=some b) (hi:i < b.phis.length) :
  rowOf f (upd (upd val (.fr k i) v) (.vals k i) u) (.phis k)=some ⟨76,4,b.phis.length,((cellsOf (phiCells val k) 0 b.phis).set (i * 4 + 2) v).set (i * 4 + 3) u⟩:=by
 simp only [rowOf,hb,Option.map_some,Option.some.injEq,RowD.mk.injEq,true_and]
 rw [cellsOf_set (g':=phiCells (upd val (.fr k i) v) k) (phiCells_len _ k) (phiCells_len _ k) hi (by omega),cellsOf_set (g':=phiCells (upd (upd val (.fr k i) v) (.vals k i) u) k) (phiCells_len _ k) (phiCells_len _ k) hi (by omega)]
 all_goals first
  | (intro j a _ hne;simp [phiCells,upd,hne];done)
  | (intro a _;simp [phiCells,upd];done)
theorem code_set {f:FuncM} {val:Vals} {k i:Nat} {b:BlockM} {v:Value} (hb:f.blocks[k]?=some b) (hi:i < b.code.length) :
  rowOf f (upd val (.args k i) v) (.code k)=some ⟨68,4,b.code.length,(cellsOf (instrCells val k) 0 b.code).set (i * 4 + 2) v⟩:=by
 simp only [rowOf,hb,Option.map_some,Option.some.injEq,RowD.mk.injEq,true_and]
 rw [cellsOf_set (g':=instrCells (upd val (.args k i) v) k) (instrCells_len _ k) (instrCells_len _ k) hi (by omega)]
 all_goals first
  | (intro j a _ hne;simp [instrCells,upd,hne];done)
  | (intro a _;simp [instrCells,upd];done)
theorem BlkSt.phi {w2 w3:World} {p:PhiM} {i g c:Nat} {v u:Value} (h:BlkSt f val k b N w0 wx val1 i 0) (hb:f.blocks[k]?=some b) (hp:b.phis[i]?=some p) (hN:N + 2 ≤ wx.heap.size) (hg:val1 (.phis k)=.slice (some ⟨g,0,none⟩) b.phis.length c)
  (hb2:Below wx.heap.size wx w2) (ho2:w2.ownsRow wx.heap.size 3 1 v p.fr.length (p.fr.map (Value.int .i64))) (hb3:Below w2.heap.size w2 w3) (ho3:w3.ownsRow w2.heap.size 3 1 u p.vals.length (p.vals.map (Value.int .i64))) :
  BlkSt f val k b N w0 ((w3.setCell ⟨g,i * 4 + 2,none⟩ v).setCell ⟨g,i * 4 + 3,none⟩ u) (upd (upd val1 (.fr k i) v) (.vals k i) u) (i + 1) 0:=by
 have hi:i < b.phis.length:=(List.getElem?_eq_some_iff.1 hp).1
 have hp2:(f.blocks[k]?.bind fun b => b.phis[i]?)=some p:=by rw [hb];exact hp
 have hs2:=hb2.size
 have hs3:=hb3.size
 have D0:DD k i 0 (.phis k):=.inl rfl
 have hgl:=h.own.lt D0 (by rw [hg];rfl:(val1 (.phis k)).ownBlock=some g)
 have o1:=h.own.add (t0:=.fr k i) (d:=intsRow p.fr) DD.not_fr hb2 ho2 hN
 have o2:=o1.add (t0:=.vals k i) (d:=intsRow p.vals) (by
  rintro (e | e)
  ·exact DD.not_vals e
  ·cases e) hb3 ho3 (by omega)
 have hphi:upd (upd (rowOf f val1) (.fr k i) (some (intsRow p.fr))) (.vals k i) (some (intsRow p.vals)) (.phis k)=some ⟨76,4,b.phis.length,cellsOf (phiCells val1 k) 0 b.phis⟩:=by
  rw [upd_ne _ _ (by simp),upd_ne _ _ (by simp)]
  simp only [rowOf,hb,Option.map_some]
 have hval:upd (upd val1 (.fr k i) v) (.vals k i) u (.phis k)=.slice (some ⟨g,0,none⟩) b.phis.length c:=by rw [upd_ne _ _ (by simp),upd_ne _ _ (by simp)];exact hg
 have o3:=o2.set (tp:=.phis k) (j:=i * 4 + 2) (u:=v) (.inl (.inl D0)) hphi hval rfl
 have o4:=o3.set (tp:=.phis k) (j:=i * 4 + 3) (u:=u) (.inl (.inl D0)) (upd_same _ _ _) hval rfl
 have hne:g ≠ N ∧ g ≠ N + 1:=by omega
 refine ⟨fun t ht => ?_,?_,?_,?_,?_⟩
 ·have h1:t ≠ .vals k i:=fun e => ht (DD.succ.2 (.inr e))
  have h2:t ≠ .fr k i:=fun e => ht (DD.succ.2 (.inl (.inr e)))
  rw [upd_ne _ _ h1,upd_ne _ _ h2]
  exact h.same t fun e => ht (DD.succ.2 (.inl (.inl e)))
 ·refine o4.congr (fun t ht => ?_) (fun t _ => rfl) (fun t ht => DD.succ.1 ht)
  by_cases e1:t=.phis k
  ·subst e1
   rw [upd_same]
   exact phis_set hb hi
  ·rw [upd_ne _ _ e1,upd_ne _ _ e1]
   by_cases e2:t=.vals k i
   ·subst e2
    rw [upd_same]
    simp only [rowOf,hp2,Option.map_some]
   ·rw [upd_ne _ _ e2]
    by_cases e3:t=.fr k i
    ·subst e3
     rw [upd_same]
     simp only [rowOf,hp2,Option.map_some]
    ·rw [upd_ne _ _ e3]
     have hnb:t ≠ .blocks:=by rintro rfl;rcases ht with h | h | h | ⟨j,hj,h | h⟩ | ⟨j,hj,h⟩ <;> cases h
     rw [rowOf_upd_leaf hnb (by simp) (fun k' i' e => by cases e;exact e1) (by simp),rowOf_upd_leaf hnb (fun k' i' e => by cases e;exact e1) (by simp) (by simp)]
 ·rw [heap_setCell_other _ _ _ _ (by simpa using hne.1.symm),heap_setCell_other _ _ _ _ (by simpa using hne.1.symm),hb3.block N (by omega),hb2.block N (by omega),h.box]
  unfold blockCells
  rw [upd_ne _ _ (by simp),upd_ne _ _ (by simp),upd_ne _ _ (by simp),upd_ne _ _ (by simp),upd_ne _ _ (by simp),upd_ne _ _ (by simp)]
 ·rw [heap_setCell_other _ _ _ _ (by simpa using hne.2.symm),heap_setCell_other _ _ _ _ (by simpa using hne.2.symm),hb3.block (N + 1) (by omega),hb2.block (N + 1) (by omega)]
  exact h.res
 ·exact (((h.low.trans (hb2.mono (by omega))).trans (hb3.mono (by omega))).setCell (by simp;omega) _).setCell (by simp;omega) _
theorem BlkSt.arg {w2:World} {x:InstrM} {i g c:Nat} {v:Value} (h:BlkSt f val k b N w0 wx val1 np i) (hb:f.blocks[k]?=some b) (hp:b.code[i]?=some x) (hN:N + 2 ≤ wx.heap.size) (hg:val1 (.code k)=.slice (some ⟨g,0,none⟩) b.code.length c)
  (hb2:Below wx.heap.size wx w2) (ho2:w2.ownsRow wx.heap.size 3 1 v x.args.length (x.args.map (Value.int .i64))) :
  BlkSt f val k b N w0 (w2.setCell ⟨g,i * 4 + 2,none⟩ v) (upd val1 (.args k i) v) np (i + 1):=by
 have hi:i < b.code.length:=(List.getElem?_eq_some_iff.1 hp).1
 have hp2:(f.blocks[k]?.bind fun b => b.code[i]?)=some x:=by rw [hb];exact hp
 have hs2:=hb2.size
 have D0:DD k np i (.code k):=.inr (.inl rfl)
 have hgl:=h.own.lt D0 (by rw [hg];rfl:(val1 (.code k)).ownBlock=some g)
 have o1:=h.own.add (t0:=.args k i) (d:=intsRow x.args) DD.not_args hb2 ho2 hN
 have hphi:upd (rowOf f val1) (.args k i) (some (intsRow x.args)) (.code k)=some ⟨68,4,b.code.length,cellsOf (instrCells val1 k) 0 b.code⟩:=by
  rw [upd_ne _ _ (by simp)]
  simp only [rowOf,hb,Option.map_some]
 have hval:upd val1 (.args k i) v (.code k)=.slice (some ⟨g,0,none⟩) b.code.length c:=by rw [upd_ne _ _ (by simp)];exact hg
 have o3:=o1.set (tp:=.code k) (j:=i * 4 + 2) (u:=v) (.inl D0) hphi hval rfl
 have hne:g ≠ N ∧ g ≠ N + 1:=by omega
 refine ⟨fun t ht => ?_,?_,?_,?_,?_⟩
 ·have h1:t ≠ .args k i:=fun e => ht (DD.succ_args.2 (.inr e))
  rw [upd_ne _ _ h1]
  exact h.same t fun e => ht (DD.succ_args.2 (.inl e))
 ·refine o3.congr (fun t ht => ?_) (fun t _ => rfl) (fun t ht => DD.succ_args.1 ht)
  by_cases e1:t=.code k
  ·subst e1
   rw [upd_same]
   exact code_set hb hi
  ·rw [upd_ne _ _ e1]
   by_cases e2:t=.args k i
   ·subst e2
    rw [upd_same]
    simp only [rowOf,hp2,Option.map_some]
   ·rw [upd_ne _ _ e2]
    have hnb:t ≠ .blocks:=by rintro rfl;rcases ht with h | h | h | ⟨j,hj,h | h⟩ | ⟨j,hj,h⟩ <;> cases h
    rw [rowOf_upd_leaf hnb (by simp) (by simp) (fun k' i' e => by cases e;exact e1)]
 ·rw [heap_setCell_other _ _ _ _ (by simpa using hne.1.symm),hb2.block N (by omega),h.box]
  unfold blockCells
  rw [upd_ne _ _ (by simp),upd_ne _ _ (by simp),upd_ne _ _ (by simp)]
 ·rw [heap_setCell_other _ _ _ _ (by simpa using hne.2.symm),hb2.block (N + 1) (by omega)]
  exact h.res
 ·exact ((h.low.trans (hb2.mono (by omega))).setCell (by simp;omega) _)
end
end Go.Proofs.YtaehbgppfahdeaaGreat
namespace Go.Proofs.YtaehbgppfahdeaaGreat
open Go.RowKit
section
variable {f:FuncM} {val val1:Vals} {k:Nat} {b:BlockM} {N np nc:Nat} {w0 W0 wx w2 w3 w4:World}
theorem row_phis {f:FuncM} {val:Vals} {k:Nat} {b:BlockM} (hb:f.blocks[k]?=some b):rowOf f val (.phis k)=some ⟨76,4,b.phis.length,cellsOf (phiCells val k) 0 b.phis⟩:=by simp only [rowOf,hb,Option.map_some]
theorem row_code {f:FuncM} {val:Vals} {k:Nat} {b:BlockM} (hb:f.blocks[k]?=some b):rowOf f val (.code k)=some ⟨68,4,b.code.length,cellsOf (instrCells val k) 0 b.code⟩:=by simp only [rowOf,hb,Option.map_some]
theorem row_ends {f:FuncM} {val:Vals} {k:Nat} {b:BlockM} (hb:f.blocks[k]?=some b):rowOf f val (.ends k)=some (intsRow b.term.to):=by simp only [rowOf,hb,Option.map_some]
theorem BlkSt.start {v1 v2 v3:Value} (hb:f.blocks[k]?=some b) (hs:W0.heap.size=N + 2) (hbox:W0.heap[N]?=some (.cells (blockCells val k b).toArray 62 (0,0)))
  (hres:W0.heap[N + 1]?=some (.cells #[.slice none 0 0,.slice none 0 0,.int .i64 0,.int .i64 0,.slice none 0 0,.int .i64 0] 62 (0,0))) (hlow:Below N w0 W0)
  (hb2:Below W0.heap.size W0 w2) (ho2:w2.ownsRow W0.heap.size 76 4 v1 b.phis.length (cellsOf (phiCells val k) 0 b.phis))
  (hb3:Below w2.heap.size w2 w3) (ho3:w3.ownsRow w2.heap.size 68 4 v2 b.code.length (cellsOf (instrCells val k) 0 b.code))
  (hb4:Below w3.heap.size w3 w4) (ho4:w4.ownsRow w3.heap.size 3 1 v3 b.term.to.length (b.term.to.map (Value.int .i64))) :
  BlkSt f val k b N w0 (((w4.setCell ⟨N,0,none⟩ v1).setCell ⟨N,1,none⟩ v2).setCell ⟨N,4,none⟩ v3) (upd (upd (upd val (.phis k) v1) (.code k) v2) (.ends k) v3) 0 0:=by
 have s2:=hb2.size
 have s3:=hb3.size
 have s4:=hb4.size
 have o1:=(OwnG.nothing W0 (N + 2) (rowOf f val) val).add (t0:=.phis k) (d:=⟨76,4,b.phis.length,cellsOf (phiCells val k) 0 b.phis⟩) (by simp) hb2 ho2 (by omega)
 have o2:=o1.add (t0:=.code k) (d:=⟨68,4,b.code.length,cellsOf (instrCells val k) 0 b.code⟩) (by simp) hb3 ho3 (by omega)
 have o3:=o2.add (t0:=.ends k) (d:=intsRow b.term.to) (by simp) hb4 ho4 (by omega)
 have hne:∀ t,(((False ∨ t=.phis k) ∨ t=.code k) ∨ t=.ends k) → (upd (upd (upd val (.phis k) v1) (.code k) v2) (.ends k) v3 t).ownBlock ≠ some N:=fun t ht e => by have:=(o3.lt ht e).1;omega
 have o4:=((o3.other (a:=⟨N,0,none⟩) (u:=v1) hne).other (a:=⟨N,1,none⟩) (u:=v2) hne).other (a:=⟨N,4,none⟩) (u:=v3) hne
 have hbx:w4.heap[N]?=some (.cells (blockCells val k b).toArray 62 (0,0)):=by rw [hb4.block N (by omega),hb3.block N (by omega),hb2.block N (by omega)];exact hbox
 refine ⟨fun t ht => ?_,?_,?_,?_,?_⟩
 ·have h1:t ≠ .phis k:=fun e => ht (.inl e)
  have h2:t ≠ .code k:=fun e => ht (.inr (.inl e))
  have h3:t ≠ .ends k:=fun e => ht (.inr (.inr (.inl e)))
  rw [upd_ne _ _ h3,upd_ne _ _ h2,upd_ne _ _ h1]
 ·refine o4.congr (fun t ht => ?_) (fun t _ => rfl) (fun t ht => ?_)
  ·rcases ht with rfl | rfl | rfl | ⟨j,hj,_⟩ | ⟨j,hj,_⟩
   ·have e:phiCells (upd (upd (upd val (.phis k) v1) (.code k) v2) (.ends k) v3) k=phiCells val k:=by funext i p;simp [phiCells,upd]
    rw [row_phis hb,e,upd_ne _ _ (by simp),upd_ne _ _ (by simp),upd_same]
   ·have e:instrCells (upd (upd (upd val (.phis k) v1) (.code k) v2) (.ends k) v3) k=instrCells val k:=by funext i p;simp [instrCells,upd]
    rw [row_code hb,e,upd_ne _ _ (by simp),upd_same]
   ·rw [row_ends hb,upd_same]
   ·omega
   ·omega
  ·rcases ht with h | h | h | ⟨j,hj,_⟩ | ⟨j,hj,_⟩
   ·exact .inl (.inl (.inr h))
   ·exact .inl (.inr h)
   ·exact .inr h
   ·omega
   ·omega
 ·rw [heap_setCell_same _ N 4 _ _ _ (heap_setCell_same _ N 1 _ _ _ (heap_setCell_same _ N 0 _ _ _ hbx))]
  simp [blockCells,upd]
 ·rw [heap_setCell_other _ _ _ _ (by simp),heap_setCell_other _ _ _ _ (by simp),heap_setCell_other _ _ _ _ (by simp),hb4.block (N + 1) (by omega),hb3.block (N + 1) (by omega),hb2.block (N + 1) (by omega)]
  exact hres
 ·exact (((((hlow.trans (hb2.mono (by omega))).trans (hb3.mono (by omega))).trans (hb4.mono (by omega))).setCell (by simp) _).setCell (by simp) _).setCell (by simp) _
theorem OwnG.form {w:World} {base:Nat} {row:Rows} {val:Vals} {D:Tag → Prop} {t:Tag} {d:RowD} (h:OwnG w base row val D) (ht:D t) (hd:row t=some d):∃ A c,val t=.slice A d.len c:=by
 rcases (h.rows t d ht hd).2 with ⟨hv,h0⟩ | ⟨g,cap,cur,hv,_⟩
 ·exact ⟨none,0,by rw [hv,h0]⟩
 ·exact ⟨_,_,hv⟩
end
theorem undrew2 {w w2:World} (h:Below w.drew.heap.size w.drew w2):Below w.heap.size w w2:=⟨h.os,h.tape,h.output,h.size,h.block⟩
theorem undrewO {w w2:World} {e:TypeId} {s n:Nat} {v:Value} {xs:List Value} (h:w2.ownsRow w.drew.heap.size e s v n xs):w2.ownsRow w.heap.size e s v n xs:=h
structure Small (b:BlockM):Prop where
 phis:b.phis.length ≤ 100000
 code:b.code.length ≤ 100000
 ends:b.term.to.length ≤ 100000
 fr:∀ p ∈ b.phis,p.fr.length ≤ 100000 ∧ p.vals.length ≤ 100000
 args:∀ x ∈ b.code,x.args.length ≤ 100000
def FreshBlkPost (f:FuncM) (val:Vals) (k:Nat) (b:BlockM) (w:World) (e:Ending) (w':World):Prop :=
 ∃ val1:Vals,e=.returned (.agg (blockCells val1 k b).toArray) ∧ (∀ t,¬ DD k b.phis.length b.code.length t → val1 t=val t) ∧ OwnG w' (w.heap.size + 2) (rowOf f val1) val1 (DD k b.phis.length b.code.length) ∧ Below w.heap.size w w'
theorem ints_one (xs:List Int):∀ u ∈ xs.map (Value.int .i64),u.oneCell'=true:=by
 intro u hu
 obtain ⟨x,_,rfl⟩:=List.mem_map.1 hu
 rfl
theorem slice_one {w:World} {B:Nat} {v:Value} {d:RowD} (h:RowR w B v d):v.oneCell'=true:=by
 obtain ⟨A,c,rfl,_⟩:=h
 rfl
theorem rd_phi_one {w:World} {B:Nat} {f:FuncM} {val:Vals} {k:Nat} {b:BlockM} (h:RdF w B f val) (hb:f.blocks[k]?=some b):∀ u ∈ cellsOf (phiCells val k) 0 b.phis,u.oneCell'=true:=by
 intro u hu
 obtain ⟨j,hj⟩:=List.getElem?_of_mem hu
 obtain ⟨i,r,p,rfl,hr,hp,hc⟩:=cellsOf_div (phiCells_len val k) hj
 have hp2:(f.blocks[k]?.bind fun b => b.phis[i]?)=some p:=by rw [hb];exact hp
 have hm:=List.mem_of_getElem? hc
 unfold phiCells at hm
 simp only [List.mem_cons,List.not_mem_nil,or_false] at hm
 rcases hm with rfl | rfl | rfl | rfl
 ·rfl
 ·rfl
 ·exact slice_one (h (.fr k i) _ (by simp only [rowOf,hp2];rfl))
 ·exact slice_one (h (.vals k i) _ (by simp only [rowOf,hp2];rfl))
theorem rd_code_one {w:World} {B:Nat} {f:FuncM} {val:Vals} {k:Nat} {b:BlockM} (h:RdF w B f val) (hb:f.blocks[k]?=some b):∀ u ∈ cellsOf (instrCells val k) 0 b.code,u.oneCell'=true:=by
 intro u hu
 obtain ⟨j,hj⟩:=List.getElem?_of_mem hu
 obtain ⟨i,r,p,rfl,hr,hp,hc⟩:=cellsOf_div (instrCells_len val k) hj
 have hp2:(f.blocks[k]?.bind fun b => b.code[i]?)=some p:=by rw [hb];exact hp
 have hm:=List.mem_of_getElem? hc
 unfold instrCells at hm
 simp only [List.mem_cons,List.not_mem_nil,or_false] at hm
 rcases hm with rfl | rfl | rfl | rfl
 ·rfl
 ·rfl
 ·exact slice_one (h (.args k i) _ (by simp only [rowOf,hp2];rfl))
 ·rfl
set_option maxRecDepth 100000 in
set_option maxHeartbeats 20000000 in
theorem freshBlock_any (f:FuncM) (B:Nat) (val:Vals) (k:Nat) (b:BlockM) (w:World) (hb:f.blocks[k]?=some b) (hrd:RdF w B f val) (hB:B ≤ w.heap.size) (hsm:Small b) :
  Calls Tryz.prog 113 #[.agg #[val (.phis k),val (.code k),.int .i64 b.term.op,.int .i64 b.term.val,val (.ends k),.int .i64 b.term.n]] w (FreshBlkPost f val k b w):=by
 have HRD:=hideI hrd
 have HSM:=hideI hsm
 have HBB:=hideI hb
 have rp:=hrd (.phis k) _ (row_phis hb)
 have rc:=hrd (.code k) _ (row_code hb)
 have rt:=hrd (.ends k) _ (row_ends hb)
 have hp1:=rd_phi_one hrd hb
 have hc1:=rd_code_one hrd hb
 obtain ⟨PA,pc,hpv,_⟩:=rp
 obtain ⟨CA,cc,hcv,_⟩:=rc
 obtain ⟨TA,tc,htv,_⟩:=rt
 have hpl:(⟨76,4,b.phis.length,cellsOf (phiCells val k) 0 b.phis⟩:RowD).len=b.phis.length:=rfl
 have hcl:(⟨68,4,b.code.length,cellsOf (instrCells val k) 0 b.code⟩:RowD).len=b.code.length:=rfl
 have htl:(intsRow b.term.to).len=b.term.to.length:=rfl
 rw [hpl] at hpv
 rw [hcl] at hcv
 rw [htl] at htv
 have rp:=hrd (.phis k) _ (row_phis hb)
 have rc:=hrd (.code k) _ (row_code hb)
 have rt:=hrd (.ends k) _ (row_ends hb)
 have C1:Hid (∀ W,Keeps B w W → Calls Tryz.prog 163 #[val (.phis k)] W (ListPost' 76 4 ⟨76,4,b.phis.length,cellsOf (phiCells val k) 0 b.phis⟩ W)):=fun W hW =>
  (listPhi_any _ B _ W (rp.keeps hW) (cellsOf_len (phiCells_len val k) _ _) hsm.phis hp1).mono fun _ _ h => h.form
 have C2:Hid (∀ W,Keeps B w W → Calls Tryz.prog 164 #[val (.code k)] W (ListPost' 68 4 ⟨68,4,b.code.length,cellsOf (instrCells val k) 0 b.code⟩ W)):=fun W hW =>
  (listInstr_any _ B _ W (rc.keeps hW) (cellsOf_len (instrCells_len val k) _ _) hsm.code hc1).mono fun _ _ h => h.form
 have C3:Hid (∀ W,Keeps B w W → Calls Tryz.prog 111 #[val (.ends k)] W (ListPost' 3 1 (intsRow b.term.to) W)):=fun W hW =>
  (listInt_any _ B _ W (rt.keeps hW) (by simp [intsRow]) hsm.ends (ints_one _)).mono fun _ _ h => h.form
 rw [hpv] at C1
 rw [hcv] at C2
 rw [htv] at C3
 rw [hpv,hcv,htv]
 obtain ⟨W0,hW0⟩:∃ W0:World,W0=(w.alloc (.cells #[.slice PA b.phis.length pc,.slice CA b.code.length cc,.int .i64 b.term.op,.int .i64 b.term.val,.slice TA b.term.to.length tc,.int .i64 b.term.n] 62)).alloc (.cells #[.slice none 0 0,.slice none 0 0,.int .i64 0,.int .i64 0,.slice none 0 0,.int .i64 0] 62):=⟨_,rfl⟩
 have hs0:W0.heap.size=w.heap.size + 2:=by rw [hW0];simp
 have hbox:W0.heap[w.heap.size]?=some (.cells #[.slice PA b.phis.length pc,.slice CA b.code.length cc,.int .i64 b.term.op,.int .i64 b.term.val,.slice TA b.term.to.length tc,.int .i64 b.term.n] 62 (0,0)):=by
  rw [hW0,Below.heap_alloc _ _ _ (by simp)]
  exact heap_alloc_new w _
 have hres:W0.heap[w.heap.size + 1]?=some (.cells #[.slice none 0 0,.slice none 0 0,.int .i64 0,.int .i64 0,.slice none 0 0,.int .i64 0] 62 (0,0)):=by
  rw [hW0]
  have:=heap_alloc_new (w.alloc (.cells #[.slice PA b.phis.length pc,.slice CA b.code.length cc,.int .i64 b.term.op,.int .i64 b.term.val,.slice TA b.term.to.length tc,.int .i64 b.term.n] 62)) (.cells #[.slice none 0 0,.slice none 0 0,.int .i64 0,.int .i64 0,.slice none 0 0,.int .i64 0] 62)
  simpa using this
 have hlow:Below w.heap.size w W0:=by rw [hW0];exact ((Below.refl _ w).alloc (Nat.le_refl _) _).alloc (by simp) _
 have HBOX:=hideI hbox
 have HRES:=hideI hres
 have HLOW:=hideI hlow
 have HS0:=hideI hs0
 have HW0:=hideI hW0
 have HBC:Hid (blockCells val k b=[.slice PA b.phis.length pc,.slice CA b.code.length cc,.int .i64 b.term.op,.int .i64 b.term.val,.slice TA b.term.to.length tc,.int .i64 b.term.n]):=by show _=_;unfold blockCells;rw [hpv,hcv,htv]
 have G0:Hid (∀ W,Below W0.heap.size W0 W → W.cell? ⟨w.heap.size,0,none⟩=some (.slice PA b.phis.length pc) ∧ W.cell? ⟨w.heap.size,1,none⟩=some (.slice CA b.code.length cc) ∧ W.cell? ⟨w.heap.size,4,none⟩=some (.slice TA b.term.to.length tc) ∧ W.frozen? ⟨w.heap.size,0,none⟩=false ∧ W.frozen? ⟨w.heap.size,1,none⟩=false ∧ W.frozen? ⟨w.heap.size,4,none⟩=false):=fun W hW => by
  have hx:=row_cells HBOX.out (hW.block _ (by have:=HS0.out;omega))
  have hf:=free_row' HBOX.out (hW.block _ (by have:=HS0.out;omega))
  exact ⟨hx 0,hx 1,hx 4,hf 0,hf 1,hf 4⟩
 have KP:Hid (∀ W,Below W0.heap.size W0 W → Keeps B w W):=fun W hW => (Keeps.of_below (HLOW.out.mono hB)).trans (Keeps.of_below (hW.mono (by have:=HS0.out;omega)))
 obtain ⟨q0,q1,q4,f0,f1,f4⟩:=G0.out W0 (Below.refl _ _)
 clear hrd hsm hb rp rc rt hp1 hc1 hpv hcv htv hpl hcl htl hbox hres hlow hW0 hs0
 go_enter Tryz.func113,Tryz.ntmps113
 go_upto_region 1 with fail
 rw [← HW0.out]
 go_cut [] (fun wx => ∃ val1,Hid (BlkSt f val k b w.heap.size w wx val1 0 0))
 case first =>
  go_region_with (first
   | (go_at_call 163;refine (C1.out _ (by exact KP.out _ ⟨rfl,rfl,rfl,Nat.le_refl _,fun _ _ => rfl⟩)).mono ?_;rintro e w2 ⟨A2,c2,rfl,hown2,hb2⟩;have hba:Below W0.heap.size W0 w2:=undrew2 hb2;obtain ⟨q0,q1,q4,f0,f1,f4⟩:=G0.out _ hba)
   | (go_at_call 164;refine (C2.out _ (by exact KP.out _ hba)).mono ?_;rintro e w3 ⟨A3,c3,rfl,hown3,hb3⟩;have hbb:Below W0.heap.size W0 w3:=hba.trans (hb3.mono hba.size);obtain ⟨q0,q1,q4,f0,f1,f4⟩:=G0.out _ hbb)
   | (go_at_call 111;refine (C3.out _ (by exact KP.out _ hbb)).mono ?_;rintro e w4 ⟨A4,c4,rfl,hown4,hb4⟩;have hbc:Below W0.heap.size W0 w4:=hbb.trans (hb4.mono hbb.size);obtain ⟨q0,q1,q4,f0,f1,f4⟩:=G0.out _ hbc))
  all_goals (go_wp2_with fail;go_meet;exact ⟨_,hideI (BlkSt.start HBB.out HS0.out (by rw [HBC.out];exact HBOX.out) HRES.out HLOW.out hba (undrewO hown2) hb3 hown3 hb4 hown4)⟩)
 case rest =>
  obtain ⟨val1,HST⟩:=hcut
  clear q0 q1 q4 f0 f1 f4
  obtain ⟨PA1,pc1,hp1⟩:=HST.out.own.form (.inl rfl) (row_phis HBB.out)
  have b0:=(row_cells HST.out.box rfl 0).trans (show (blockCells val1 k b).toArray[0]?=some (.slice PA1 b.phis.length pc1) by simp [blockCells,hp1])
  clear hp1
  go_wp2
  clear b0
  go_loopw [24] (fun u wr => ∃ (i:Nat) (val1:Vals),i ≤ b.phis.length ∧ u=.int .i64 i ∧ Hid (BlkSt f val k b w.heap.size w wr val1 i 0)) (fun u _ => b.phis.length - (intOf u).toNat)
  case atStart => exact ⟨0,val1,Nat.zero_le _,rfl,HST⟩
  case round =>
   obtain ⟨i,val1,hi,rfl,HST⟩:=hrel
   have hN2:w.heap.size + 2 ≤ wr.heap.size:=by
    have:=(Array.getElem?_eq_some_iff.1 HST.out.res).1
    omega
   by_cases hlt:i < b.phis.length
   ·obtain ⟨p,hp⟩:∃ p,b.phis[i]?=some p:=⟨_,List.getElem?_eq_getElem hlt⟩
    obtain ⟨g,pc1,hg,hgb,hgl⟩:=HST.out.own.slice (.inl rfl) (row_phis HBB.out) (by show 0 < b.phis.length;omega)
    have HP:=hideI hp
    have HG:Hid (val1 (.phis k)=.slice (some ⟨g,0,none⟩) b.phis.length pc1):=hg
    have hp2:(f.blocks[k]?.bind fun b => b.phis[i]?)=some p:=by rw [HBB.out];exact hp
    have rf:=HRD.out (.fr k i) (intsRow p.fr) (by simp only [rowOf,hp2,Option.map_some])
    have rv:=HRD.out (.vals k i) (intsRow p.vals) (by simp only [rowOf,hp2,Option.map_some])
    have hsf:=HSM.out.fr p (List.mem_of_getElem? hp)
    have C1:Hid (∀ W,Keeps B w W → Calls Tryz.prog 111 #[val (.fr k i)] W (ListPost' 3 1 (intsRow p.fr) W)):=fun W hW =>
     (listInt_any _ B _ W (rf.keeps hW) (by simp [intsRow]) hsf.1 (ints_one _)).mono fun _ _ h => h.form
    have C2:Hid (∀ W,Keeps B w W → Calls Tryz.prog 111 #[val (.vals k i)] W (ListPost' 3 1 (intsRow p.vals) W)):=fun W hW =>
     (listInt_any _ B _ W (rv.keeps hW) (by simp [intsRow]) hsf.2 (ints_one _)).mono fun _ _ h => h.form
    obtain ⟨FA,fc,hfv,_⟩:=rf
    obtain ⟨VA,vc,hvv,_⟩:=rv
    have e1:(intsRow p.fr).len=p.fr.length:=rfl
    have e2:(intsRow p.vals).len=p.vals.length:=rfl
    rw [e1] at hfv
    rw [e2] at hvv
    rw [hfv] at C1
    rw [hvv] at C2
    have hc2:=cellsOf_at (phiCells_len val1 k) b.phis 0 i 2 p hp (by omega)
    have hc3:=cellsOf_at (phiCells_len val1 k) b.phis 0 i 3 p hp (by omega)
    rw [Nat.zero_add] at hc2 hc3
    have hs2:(phiCells val1 k i p)[2]?=some (.slice FA p.fr.length fc):=by rw [← hfv,← HST.out.same _ DD.not_fr];rfl
    have hs3:(phiCells val1 k i p)[3]?=some (.slice VA p.vals.length vc):=by rw [← hvv,← HST.out.same _ DD.not_vals];rfl
    have G0:Hid (∀ W,Below wr.heap.size wr W → W.cell? ⟨g,i * 4 + 2,none⟩=some (.slice FA p.fr.length fc) ∧ W.cell? ⟨g,i * 4 + 3,none⟩=some (.slice VA p.vals.length vc) ∧ W.frozen? ⟨g,i * 4 + 2,none⟩=false ∧ W.frozen? ⟨g,i * 4 + 3,none⟩=false):=fun W hW => by
     have o:=HST.out.own.below hW
     have k2:=o.cell (j:=i * 4 + 2) (.inl rfl) (row_phis HBB.out) HG.out rfl (by show _ < b.phis.length * 4;omega)
     have k3:=o.cell (j:=i * 4 + 3) (.inl rfl) (row_phis HBB.out) HG.out rfl (by show _ < b.phis.length * 4;omega)
     exact ⟨k2.1.trans (hc2.trans hs2),k3.1.trans (hc3.trans hs3),k2.2,k3.2⟩
    have KP:Hid (∀ W,Below wr.heap.size wr W → Keeps B w W):=fun W hW => (Keeps.of_below (HST.out.low.mono hB)).trans (Keeps.of_below (hW.mono (by omega)))
    have b0:=(row_cells HST.out.box rfl 0).trans (show (blockCells val1 k b).toArray[0]?=some (.slice (some ⟨g,0,none⟩) b.phis.length pc1) by simp [blockCells,hg])
    clear hp hg hp2 hfv hvv e1 e2 hc2 hc3 hs2 hs3
    go_upto_region 6 with fail
    clear b0
    obtain ⟨q2,q3,f2,f3⟩:=G0.out wr (Below.refl _ _)
    go_region_with (first
     | (go_at_call_of 111 (Value.slice FA p.fr.length fc);refine (C1.out _ (by exact KP.out _ ⟨rfl,rfl,rfl,Nat.le_refl _,fun _ _ => rfl⟩)).mono ?_;rintro e w2 ⟨A2,c2,rfl,hown2,hb2⟩;have hba:Below wr.heap.size wr w2:=undrew2 hb2;obtain ⟨q2,q3,f2,f3⟩:=G0.out _ hba)
     | (go_at_call_of 111 (Value.slice VA p.vals.length vc);refine (C2.out _ (by exact KP.out _ hba)).mono ?_;rintro e w3 ⟨A3,c3,rfl,hown3,hb3⟩;have hbb:Below wr.heap.size wr w3:=hba.trans (hb3.mono hba.size);obtain ⟨q2,q3,f2,f3⟩:=G0.out _ hbb))
    all_goals
     have HST2:=hideI (HST.out.phi HBB.out HP.out hN2 HG.out hba (undrewO hown2) hb3 hown3)
     clear q2 q3 f2 f3 hown2 hb2 hown3 hb3 hba hbb
     go_wp2
     go_roundw
     case rel => exact ⟨i + 1,_,by omega,by go_num,HST2⟩
     case measure => simp [intOf];omega
   ·have hin:i=b.phis.length:=by omega
    rw [hin] at HST
    obtain ⟨CA1,cc1,hp1⟩:=HST.out.own.form (.inr (.inl rfl)) (row_code HBB.out)
    have b1:=(row_cells HST.out.box rfl 1).trans (show (blockCells val1 k b).toArray[1]?=some (.slice CA1 b.code.length cc1) by simp [blockCells,hp1])
    clear hp1 hin
    go_wp2
    clear b1
    obtain ⟨wo,rfl⟩:∃ wo:World,wo=wr:=⟨_,rfl⟩
    go_loopw [51] (fun u wr => ∃ (j:Nat) (val1:Vals),j ≤ b.code.length ∧ u=.int .i64 j ∧ Hid (BlkSt f val k b w.heap.size w wr val1 b.phis.length j)) (fun u _ => b.code.length - (intOf u).toNat)
    case atStart => exact ⟨0,val1,Nat.zero_le _,rfl,HST⟩
    case round =>
     obtain ⟨j,val2,hj,rfl,HST⟩:=hrel
     have hN2:w.heap.size + 2 ≤ wr.heap.size:=by
      have:=(Array.getElem?_eq_some_iff.1 HST.out.res).1
      omega
     by_cases hltj:j < b.code.length
     ·obtain ⟨x,hp⟩:∃ x,b.code[j]?=some x:=⟨_,List.getElem?_eq_getElem hltj⟩
      obtain ⟨g,cc1,hg,hgb,hgl⟩:=HST.out.own.slice (.inr (.inl rfl)) (row_code HBB.out) (by show 0 < b.code.length;omega)
      have HP:=hideI hp
      have HG:Hid (val2 (.code k)=.slice (some ⟨g,0,none⟩) b.code.length cc1):=hg
      have hp2:(f.blocks[k]?.bind fun b => b.code[j]?)=some x:=by rw [HBB.out];exact hp
      have rf:=HRD.out (.args k j) (intsRow x.args) (by simp only [rowOf,hp2,Option.map_some])
      have hsf:=HSM.out.args x (List.mem_of_getElem? hp)
      have C1:Hid (∀ W,Keeps B w W → Calls Tryz.prog 111 #[val (.args k j)] W (ListPost' 3 1 (intsRow x.args) W)):=fun W hW =>
       (listInt_any _ B _ W (rf.keeps hW) (by simp [intsRow]) hsf (ints_one _)).mono fun _ _ h => h.form
      obtain ⟨FA,fc,hfv,_⟩:=rf
      have e1:(intsRow x.args).len=x.args.length:=rfl
      rw [e1] at hfv
      rw [hfv] at C1
      have hc2:=cellsOf_at (instrCells_len val2 k) b.code 0 j 2 x hp (by omega)
      rw [Nat.zero_add] at hc2
      have hs2:(instrCells val2 k j x)[2]?=some (.slice FA x.args.length fc):=by rw [← hfv,← HST.out.same _ DD.not_args];rfl
      have G0:Hid (∀ W,Below wr.heap.size wr W → W.cell? ⟨g,j * 4 + 2,none⟩=some (.slice FA x.args.length fc) ∧ W.frozen? ⟨g,j * 4 + 2,none⟩=false):=fun W hW => by
       have o:=HST.out.own.below hW
       have k2:=o.cell (j:=j * 4 + 2) (.inr (.inl rfl)) (row_code HBB.out) HG.out rfl (by show _ < b.code.length * 4;omega)
       exact ⟨k2.1.trans (hc2.trans hs2),k2.2⟩
      have KP:Hid (∀ W,Below wr.heap.size wr W → Keeps B w W):=fun W hW => (Keeps.of_below (HST.out.low.mono hB)).trans (Keeps.of_below (hW.mono (by omega)))
      have b1:=(row_cells HST.out.box rfl 1).trans (show (blockCells val2 k b).toArray[1]?=some (.slice (some ⟨g,0,none⟩) b.code.length cc1) by simp [blockCells,hg])
      clear hp hg hp2 hfv e1 hc2 hs2
      obtain ⟨q2,f2⟩:=G0.out wr (Below.refl _ _)
      go_wp2_with (first
       | (go_at_call 111;refine (C1.out _ (by exact KP.out _ (Below.refl _ _))).mono ?_;rintro e w2 ⟨A2,c2,rfl,hown2,hb2⟩;clear q2 f2;obtain ⟨q2,f2⟩:=G0.out _ hb2;have HB2:=hideI hb2;have HO2:=hideI hown2;clear hown2 hb2))
      have HST2:=hideI (HST.out.arg HBB.out HP.out hN2 HG.out HB2.out HO2.out)
      go_roundw
      case rel => exact ⟨j + 1,_,by omega,by go_num,HST2⟩
      case measure => simp [intOf];omega
     ·have hjn:j=b.code.length:=by omega
      rw [hjn] at HST
      obtain ⟨PA1,pc1,e1⟩:=HST.out.own.form (.inl rfl) (row_phis HBB.out)
      obtain ⟨CA1,cc1,e2⟩:=HST.out.own.form (.inr (.inl rfl)) (row_code HBB.out)
      obtain ⟨TA1,tc1,e3⟩:=HST.out.own.form (.inr (.inr (.inl rfl))) (row_ends HBB.out)
      have e4:(intsRow b.term.to).len=b.term.to.length:=rfl
      rw [e4] at e3
      have HE:Hid (blockCells val2 k b=[.slice PA1 b.phis.length pc1,.slice CA1 b.code.length cc1,.int .i64 b.term.op,.int .i64 b.term.val,.slice TA1 b.term.to.length tc1,.int .i64 b.term.n]):=by show _=_;unfold blockCells;rw [e1,e2,e3]
      have hbx:=HST.out.box
      rw [HE.out] at hbx
      have hx:=row_cells hbx rfl
      have hr:=row_cells HST.out.res rfl
      have hf:=free_row' HST.out.res (rfl:wr.heap[w.heap.size + 1]?=_)
      have b0:=hx 0
      have b1:=hx 1
      have b2:=hx 2
      have b3:=hx 3
      have b4:=hx 4
      have b5:=hx 5
      have r0:=hr 0
      have r1:=hr 1
      have r2:=hr 2
      have r3:=hr 3
      have r4:=hr 4
      have r5:=hr 5
      have f0:=hf 0
      have f1:=hf 1
      have f2:=hf 2
      have f3:=hf 3
      have f4:=hf 4
      have f5:=hf 5
      clear e1 e2 e3 e4 hbx hx hr hf hjn
      go_wp2
      have hne:∀ t,DD k b.phis.length b.code.length t → (val2 t).ownBlock ≠ some (w.heap.size + 1):=fun t ht e => by have:=(HST.out.own.lt ht e).1;omega
      refine bodyPost_ret (v:=.agg #[.slice PA1 b.phis.length pc1,.slice CA1 b.code.length cc1,.int .i64 b.term.op,.int .i64 b.term.val,.slice TA1 b.term.to.length tc1,.int .i64 b.term.n]) (by simp [results,Tryz.results113,go_sem,r0,r1,r2,r3,r4,r5]) rfl ⟨val2,by rw [HE.out],HST.out.same,?_,?_⟩
      ·exact (((((HST.out.own.other hne).other hne).other hne).other hne).other hne).other hne
      ·exact (((((HST.out.low.setCell (by simp) _).setCell (by simp) _).setCell (by simp) _).setCell (by simp) _).setCell (by simp) _).setCell (by simp) _
end Go.Proofs.YtaehbgppfahdeaaGreat

namespace Go.Proofs.YtaehbgppfahdeaaGreat
open Go.RowKit
def EE (f:FuncM) (i:Nat) (t:Tag):Prop:=t=.params ∨ t=.blocks ∨ ∃ k b,k < i ∧ f.blocks[k]?=some b ∧ DD k b.phis.length b.code.length t
structure FnSt (f:FuncM) (val:Vals) (N:Nat) (w0 wx:World) (val1:Vals) (i:Nat):Prop where
 same:∀ t,¬ EE f i t → val1 t=val t
 own:OwnG wx (N + 2) (rowOf f val1) val1 (EE f i)
 box:wx.heap[N]?=some (.cells #[val1 .params,.int .i64 f.arrays,.int .i64 f.cells,val1 .blocks] 25 (0,0))
 res:wx.heap[N + 1]?=some (.cells #[.slice none 0 0,.int .i64 0,.int .i64 0,.slice none 0 0] 25 (0,0))
 low:Below N w0 wx
theorem DD.blk {k np nc:Nat} {t:Tag} (h:DD k np nc t):blkOf t=some k:=by
 rcases h with rfl | rfl | rfl | ⟨j,_,rfl | rfl⟩ | ⟨j,_,rfl⟩ <;> rfl
theorem EE.not {f:FuncM} {i:Nat} {t:Tag} (h:blkOf t=some i):¬ EE f i t:=by
 rintro (rfl | rfl | ⟨k,b,hk,_,hd⟩)
 ·cases h
 ·cases h
 ·rw [hd.blk] at h
  cases h
  omega
theorem EE.succ {f:FuncM} {i:Nat} {b:BlockM} (hb:f.blocks[i]?=some b) {t:Tag}:EE f (i + 1) t ↔ EE f i t ∨ DD i b.phis.length b.code.length t:=by
 unfold EE
 constructor
 ·rintro (h | h | ⟨k,q,hk,hq,hd⟩)
  ·exact .inl (.inl h)
  ·exact .inl (.inr (.inl h))
  ·by_cases e:k=i
   ·subst e
    rw [hb] at hq
    cases hq
    exact .inr hd
   ·exact .inl (.inr (.inr ⟨k,q,by omega,hq,hd⟩))
 ·rintro ((h | h | ⟨k,q,hk,hq,hd⟩) | h)
  ·exact .inl h
  ·exact .inr (.inl h)
  ·exact .inr (.inr ⟨k,q,by omega,hq,hd⟩)
  ·exact .inr (.inr ⟨i,b,by omega,hb,h⟩)
theorem OwnG.join {w1 w2:World} {base:Nat} {r1 r2 r3:Rows} {v1 v2 v3:Vals} {D1 D2:Tag → Prop} {b2:Nat} (h1:OwnG w1 base r1 v1 D1) (hb:Below w1.heap.size w1 w2) (h2:OwnG w2 b2 r2 v2 D2) (hb2:w1.heap.size ≤ b2) (hbase:base ≤ w1.heap.size)
  (e1:∀ t,D1 t → r3 t=r1 t ∧ v3 t=v1 t) (e2:∀ t,D2 t → r3 t=r2 t ∧ v3 t=v2 t):OwnG w2 base r3 v3 (fun t => D1 t ∨ D2 t):=by
 have k1:=h1.below hb
 refine ⟨fun t ht => ?_,fun t d ht hd => ?_,fun t t' g ht ht' hg hg' => ?_⟩
 ·rcases ht with ht | ht
  ·rw [(e1 t ht).1];exact h1.has t ht
  ·rw [(e2 t ht).1];exact h2.has t ht
 ·rcases ht with ht | ht
  ·rw [(e1 t ht).2]
   exact k1.rows t d ht (by rw [← (e1 t ht).1];exact hd)
  ·rw [(e2 t ht).2]
   exact World.ownsRow.mono (h2.rows t d ht (by rw [← (e2 t ht).1];exact hd)) (by omega)
 ·rcases ht with ht | ht <;> rcases ht' with ht' | ht'
  ·rw [(e1 t ht).2] at hg
   rw [(e1 t' ht').2] at hg'
   exact h1.apart t t' g ht ht' hg hg'
  ·rw [(e1 t ht).2] at hg
   rw [(e2 t' ht').2] at hg'
   have:=(h1.lt ht hg).2
   have:=(h2.lt ht' hg').1
   omega
  ·rw [(e2 t ht).2] at hg
   rw [(e1 t' ht').2] at hg'
   have:=(h2.lt ht hg).1
   have:=(h1.lt ht' hg').2
   omega
  ·rw [(e2 t ht).2] at hg
   rw [(e2 t' ht').2] at hg'
   exact h2.apart t t' g ht ht' hg hg'
theorem set_same {l:List Value} {j:Nat} {u:Value} (h:l[j]?=some u):l.set j u=l:=by
 apply List.ext_getElem?
 intro i
 by_cases e:j=i
 ·subst e
  rw [List.getElem?_set_self (List.getElem?_eq_some_iff.1 h).1,h]
 ·rw [List.getElem?_set_ne e]
theorem blocks_set {val:Vals} {l:List BlockM} {i:Nat} {b:BlockM} {c0 c1 c4:Value} (hb:l[i]?=some b) :
  ((((((cellsOf (blockCells val) 0 l).set (i * 6 + 0) c0).set (i * 6 + 1) c1).set (i * 6 + 2) (.int .i64 b.term.op)).set (i * 6 + 3) (.int .i64 b.term.val)).set (i * 6 + 4) c4).set (i * 6 + 5) (.int .i64 b.term.n) =
   cellsOf (blockCells (upd (upd (upd val (.phis i) c0) (.code i) c1) (.ends i) c4)) 0 l:=by
 have hi:=(List.getElem?_eq_some_iff.1 hb).1
 have e0:(cellsOf (blockCells val) 0 l).set (i * 6 + 0) c0=cellsOf (blockCells (upd val (.phis i) c0)) 0 l:=by
  refine cellsOf_set (blockCells_len _) (blockCells_len _) hi (by omega) ?_ ?_
  ·intro j a _ hne;simp [blockCells,upd,hne]
  ·intro a _;simp [blockCells,upd]
 have e1:(cellsOf (blockCells (upd val (.phis i) c0)) 0 l).set (i * 6 + 1) c1=cellsOf (blockCells (upd (upd val (.phis i) c0) (.code i) c1)) 0 l:=by
  refine cellsOf_set (blockCells_len _) (blockCells_len _) hi (by omega) ?_ ?_
  ·intro j a _ hne;simp [blockCells,upd,hne]
  ·intro a _;simp [blockCells,upd]
 have e4:(cellsOf (blockCells (upd (upd val (.phis i) c0) (.code i) c1)) 0 l).set (i * 6 + 4) c4=cellsOf (blockCells (upd (upd (upd val (.phis i) c0) (.code i) c1) (.ends i) c4)) 0 l:=by
  refine cellsOf_set (blockCells_len _) (blockCells_len _) hi (by omega) ?_ ?_
  ·intro j a _ hne;simp [blockCells,upd,hne]
  ·intro a _;simp [blockCells,upd]
 have hat:∀ (v:Vals) r u,r < 6 → (blockCells v i b)[r]?=some u → (cellsOf (blockCells v) 0 l)[i * 6 + r]?=some u:=fun v r u hr hu => by
  have:=cellsOf_at (blockCells_len v) l 0 i r b hb hr
  rw [Nat.zero_add] at this
  exact this.trans hu
 rw [e0,e1,set_same (hat _ 2 _ (by omega) rfl),set_same (hat _ 3 _ (by omega) rfl),e4,set_same (hat _ 5 _ (by omega) rfl)]
theorem FnSt.step {f:FuncM} {val val1 val2:Vals} {N i g c:Nat} {b:BlockM} {w0 wx w2:World} (h:FnSt f val N w0 wx val1 i) (hb:f.blocks[i]?=some b) (hN:N + 2 ≤ wx.heap.size) (hg:val1 .blocks=.slice (some ⟨g,0,none⟩) f.blocks.length c)
  (hb2:Below wx.heap.size wx w2) (hsame:∀ t,¬ DD i b.phis.length b.code.length t → val2 t=val t) (ho2:OwnG w2 (wx.heap.size + 2) (rowOf f val2) val2 (DD i b.phis.length b.code.length)) :
  FnSt f val N w0 ((((((w2.setCell ⟨g,i * 6,none⟩ (val2 (.phis i))).setCell ⟨g,i * 6 + 1,none⟩ (val2 (.code i))).setCell ⟨g,i * 6 + 2,none⟩ (.int .i64 b.term.op)).setCell ⟨g,i * 6 + 3,none⟩ (.int .i64 b.term.val)).setCell ⟨g,i * 6 + 4,none⟩ (val2 (.ends i))).setCell ⟨g,i * 6 + 5,none⟩ (.int .i64 b.term.n))
   (fun t => if blkOf t=some i then val2 t else val1 t) (i + 1):=by
 have hs2:=hb2.size
 have DB:EE f i .blocks:=.inr (.inl rfl)
 have hgl:=h.own.lt DB (by rw [hg];rfl:(val1 .blocks).ownBlock=some g)
 have hne:g ≠ N ∧ g ≠ N + 1:=by omega
 have e1:∀ t,EE f i t → blkOf t ≠ some i:=fun t ht e => EE.not e ht
 have o1:=OwnG.join (r3:=fun t => if blkOf t=some i then rowOf f val2 t else rowOf f val1 t) (v3:=fun t => if blkOf t=some i then val2 t else val1 t) h.own hb2 ho2 (by omega) hN
  (fun t ht => ⟨if_neg (e1 t ht),if_neg (e1 t ht)⟩) (fun t ht => ⟨if_pos ht.blk,if_pos ht.blk⟩)
 have hv:(fun t => if blkOf t=some i then val2 t else val1 t) Tag.blocks=.slice (some ⟨g,0,none⟩) f.blocks.length c:=hg
 have hr0:(fun t => if blkOf t=some i then rowOf f val2 t else rowOf f val1 t) Tag.blocks=some ⟨62,6,f.blocks.length,cellsOf (blockCells val1) 0 f.blocks⟩:=rfl
 have s0:=o1.set (tp:=.blocks) (j:=i * 6 + 0) (u:=val2 (.phis i)) (.inl DB) hr0 hv rfl
 have s1:=s0.set (tp:=.blocks) (j:=i * 6 + 1) (u:=val2 (.code i)) (.inl DB) (upd_same _ _ _) hv rfl
 have s2:=s1.set (tp:=.blocks) (j:=i * 6 + 2) (u:=.int .i64 b.term.op) (.inl DB) (upd_same _ _ _) hv rfl
 have s3:=s2.set (tp:=.blocks) (j:=i * 6 + 3) (u:=.int .i64 b.term.val) (.inl DB) (upd_same _ _ _) hv rfl
 have s4:=s3.set (tp:=.blocks) (j:=i * 6 + 4) (u:=val2 (.ends i)) (.inl DB) (upd_same _ _ _) hv rfl
 have s5:=s4.set (tp:=.blocks) (j:=i * 6 + 5) (u:=.int .i64 b.term.n) (.inl DB) (upd_same _ _ _) hv rfl
 refine ⟨fun t ht => ?_,?_,?_,?_,?_⟩
 ·have h1:¬ EE f i t:=fun e => ht ((EE.succ hb).2 (.inl e))
  have h2:¬ DD i b.phis.length b.code.length t:=fun e => ht ((EE.succ hb).2 (.inr e))
  by_cases e:blkOf t=some i
  ·simp only [if_pos e]
   exact hsame t h2
  ·simp only [if_neg e]
   exact h.same t h1
 ·refine s5.congr (fun t ht => ?_) (fun t _ => rfl) (fun t ht => (EE.succ hb).1 ht)
  by_cases eb:t=.blocks
  ·subst eb
   rw [upd_same,blocks_set hb]
   show some _=some _
   congr 2
   refine cellsOf_congr _ _ fun k q hq => ?_
   rw [Nat.zero_add]
   by_cases ek:k=i
   ·subst ek
    simp [blockCells,upd,blkOf]
   ·simp [blockCells,upd,blkOf,ek]
  ·rw [upd_ne _ _ eb,upd_ne _ _ eb,upd_ne _ _ eb,upd_ne _ _ eb,upd_ne _ _ eb,upd_ne _ _ eb]
   cases t with
   | params => rfl
   | blocks => exact absurd rfl eb
   | phis k =>
    by_cases ek:k=i
    ·subst ek
     have e:phiCells (fun t => if blkOf t=some k then val2 t else val1 t) k=phiCells val2 k:=by funext j p;simp [phiCells,blkOf]
     have h1:(fun t => if blkOf t=some k then rowOf f val2 t else rowOf f val1 t) (Tag.phis k)=rowOf f val2 (.phis k):=if_pos rfl
     refine Eq.trans ?_ h1.symm
     simp only [rowOf]
     rw [e]
    ·have e:phiCells (fun t => if blkOf t=some i then val2 t else val1 t) k=phiCells val1 k:=by funext j p;simp [phiCells,blkOf,ek]
     have h1:(fun t => if blkOf t=some i then rowOf f val2 t else rowOf f val1 t) (Tag.phis k)=rowOf f val1 (.phis k):=if_neg (by simp [blkOf,ek])
     refine Eq.trans ?_ h1.symm
     simp only [rowOf]
     rw [e]
   | code k =>
    by_cases ek:k=i
    ·subst ek
     have e:instrCells (fun t => if blkOf t=some k then val2 t else val1 t) k=instrCells val2 k:=by funext j p;simp [instrCells,blkOf]
     have h1:(fun t => if blkOf t=some k then rowOf f val2 t else rowOf f val1 t) (Tag.code k)=rowOf f val2 (.code k):=if_pos rfl
     refine Eq.trans ?_ h1.symm
     simp only [rowOf]
     rw [e]
    ·have e:instrCells (fun t => if blkOf t=some i then val2 t else val1 t) k=instrCells val1 k:=by funext j p;simp [instrCells,blkOf,ek]
     have h1:(fun t => if blkOf t=some i then rowOf f val2 t else rowOf f val1 t) (Tag.code k)=rowOf f val1 (.code k):=if_neg (by simp [blkOf,ek])
     refine Eq.trans ?_ h1.symm
     simp only [rowOf]
     rw [e]
   | ends k => by_cases ek:k=i <;> simp [rowOf,blkOf,ek]
   | fr k j => by_cases ek:k=i <;> simp [rowOf,blkOf,ek]
   | vals k j => by_cases ek:k=i <;> simp [rowOf,blkOf,ek]
   | args k j => by_cases ek:k=i <;> simp [rowOf,blkOf,ek]
 ·rw [heap_setCell_other _ _ _ _ (by simpa using hne.1.symm),heap_setCell_other _ _ _ _ (by simpa using hne.1.symm),heap_setCell_other _ _ _ _ (by simpa using hne.1.symm),heap_setCell_other _ _ _ _ (by simpa using hne.1.symm),heap_setCell_other _ _ _ _ (by simpa using hne.1.symm),heap_setCell_other _ _ _ _ (by simpa using hne.1.symm),hb2.block N (by omega)]
  exact h.box
 ·rw [heap_setCell_other _ _ _ _ (by simpa using hne.2.symm),heap_setCell_other _ _ _ _ (by simpa using hne.2.symm),heap_setCell_other _ _ _ _ (by simpa using hne.2.symm),heap_setCell_other _ _ _ _ (by simpa using hne.2.symm),heap_setCell_other _ _ _ _ (by simpa using hne.2.symm),heap_setCell_other _ _ _ _ (by simpa using hne.2.symm),hb2.block (N + 1) (by omega)]
  exact h.res
 ·exact ((((((h.low.trans (hb2.mono (by omega))).setCell (by simp;omega) _).setCell (by simp;omega) _).setCell (by simp;omega) _).setCell (by simp;omega) _).setCell (by simp;omega) _).setCell (by simp;omega) _
end Go.Proofs.YtaehbgppfahdeaaGreat
namespace Go.Proofs.YtaehbgppfahdeaaGreat
open Go.RowKit
theorem FnSt.start {f:FuncM} {val:Vals} {N:Nat} {w0 W0 w2 w3:World} {v1 v3:Value} (hs:W0.heap.size=N + 2) (hbox:W0.heap[N]?=some (.cells #[val .params,.int .i64 f.arrays,.int .i64 f.cells,val .blocks] 25 (0,0)))
  (hres:W0.heap[N + 1]?=some (.cells #[.slice none 0 0,.int .i64 0,.int .i64 0,.slice none 0 0] 25 (0,0))) (hlow:Below N w0 W0)
  (hb2:Below W0.heap.size W0 w2) (ho2:w2.ownsRow W0.heap.size 3 1 v1 f.params.length (f.params.map (Value.int .i64)))
  (hb3:Below w2.heap.size w2 w3) (ho3:w3.ownsRow w2.heap.size 62 6 v3 f.blocks.length (cellsOf (blockCells val) 0 f.blocks)) :
  FnSt f val N w0 ((w3.setCell ⟨N,0,none⟩ v1).setCell ⟨N,3,none⟩ v3) (upd (upd val .params v1) .blocks v3) 0:=by
 have s2:=hb2.size
 have s3:=hb3.size
 have o1:=(OwnG.nothing W0 (N + 2) (rowOf f val) val).add (t0:=.params) (d:=intsRow f.params) (by simp) hb2 ho2 (by omega)
 have o2:=o1.add (t0:=.blocks) (d:=⟨62,6,f.blocks.length,cellsOf (blockCells val) 0 f.blocks⟩) (by simp) hb3 ho3 (by omega)
 have hne:∀ t,((False ∨ t=.params) ∨ t=.blocks) → (upd (upd val .params v1) .blocks v3 t).ownBlock ≠ some N:=fun t ht e => by have:=(o2.lt ht e).1;omega
 have o4:=(o2.other (a:=⟨N,0,none⟩) (u:=v1) hne).other (a:=⟨N,3,none⟩) (u:=v3) hne
 have hbx:w3.heap[N]?=some (.cells #[val .params,.int .i64 f.arrays,.int .i64 f.cells,val .blocks] 25 (0,0)):=by rw [hb3.block N (by omega),hb2.block N (by omega)];exact hbox
 have hEE:∀ t,EE f 0 t → (False ∨ t=.params) ∨ t=.blocks:=by
  rintro t (h | h | ⟨k,b,hk,_⟩)
  ·exact .inl (.inr h)
  ·exact .inr h
  ·omega
 refine ⟨fun t ht => ?_,?_,?_,?_,?_⟩
 ·have h1:t ≠ .params:=fun e => ht (.inl e)
  have h2:t ≠ .blocks:=fun e => ht (.inr (.inl e))
  rw [upd_ne _ _ h2,upd_ne _ _ h1]
 ·refine o4.congr (fun t ht => ?_) (fun t _ => rfl) hEE
  rcases hEE t ht with (h | rfl) | rfl
  ·exact h.elim
  ·simp [rowOf,upd]
  ·rw [upd_same]
   show some _=some _
   congr 2
 ·rw [heap_setCell_same _ N 3 _ _ _ (heap_setCell_same _ N 0 _ _ _ hbx)]
  simp [upd]
 ·rw [heap_setCell_other _ _ _ _ (by simp),heap_setCell_other _ _ _ _ (by simp),hb3.block (N + 1) (by omega),hb2.block (N + 1) (by omega)]
  exact hres
 ·exact (((hlow.trans (hb2.mono (by omega))).trans (hb3.mono (by omega))).setCell (by simp) _).setCell (by simp) _
theorem rd_block_one {w:World} {B:Nat} {f:FuncM} {val:Vals} (h:RdF w B f val):∀ u ∈ cellsOf (blockCells val) 0 f.blocks,u.oneCell'=true:=by
 intro u hu
 obtain ⟨j,hj⟩:=List.getElem?_of_mem hu
 obtain ⟨i,r,q,rfl,hr,hq,hc⟩:=cellsOf_div (blockCells_len val) hj
 have hm:=List.mem_of_getElem? hc
 unfold blockCells at hm
 simp only [List.mem_cons,List.not_mem_nil,or_false] at hm
 rcases hm with rfl | rfl | rfl | rfl | rfl | rfl
 ·exact slice_one (h (.phis i) _ (row_phis hq))
 ·exact slice_one (h (.code i) _ (row_code hq))
 ·rfl
 ·rfl
 ·exact slice_one (h (.ends i) _ (row_ends hq))
 ·rfl
def FreshBlkPost' (f:FuncM) (val:Vals) (k:Nat) (b:BlockM) (w:World) (e:Ending) (w':World):Prop :=
 ∃ (val1:Vals) (A:Option Addr) (c:Nat) (A':Option Addr) (c':Nat) (A'':Option Addr) (c'':Nat),e=.returned (.agg #[.slice A b.phis.length c,.slice A' b.code.length c',.int .i64 b.term.op,.int .i64 b.term.val,.slice A'' b.term.to.length c'',.int .i64 b.term.n]) ∧
  (val1 (.phis k)=.slice A b.phis.length c ∧ val1 (.code k)=.slice A' b.code.length c' ∧ val1 (.ends k)=.slice A'' b.term.to.length c'') ∧
  (∀ t,¬ DD k b.phis.length b.code.length t → val1 t=val t) ∧ OwnG w' (w.heap.size + 2) (rowOf f val1) val1 (DD k b.phis.length b.code.length) ∧ Below w.heap.size w w'
theorem FreshBlkPost.form {f:FuncM} {val:Vals} {k:Nat} {b:BlockM} {w w':World} {e:Ending} (hb:f.blocks[k]?=some b) (h:FreshBlkPost f val k b w e w'):FreshBlkPost' f val k b w e w':=by
 obtain ⟨val1,rfl,hs,ho,hbl⟩:=h
 obtain ⟨A,c,e1⟩:=ho.form (.inl rfl) (row_phis hb)
 obtain ⟨A',c',e2⟩:=ho.form (.inr (.inl rfl)) (row_code hb)
 obtain ⟨A'',c'',e3⟩:=ho.form (.inr (.inr (.inl rfl))) (row_ends hb)
 have e1':val1 (.phis k)=.slice A b.phis.length c:=e1
 have e2':val1 (.code k)=.slice A' b.code.length c':=e2
 have e3':val1 (.ends k)=.slice A'' b.term.to.length c'':=e3
 exact ⟨val1,A,c,A',c',A'',c'',by unfold blockCells;rw [e1',e2',e3'],⟨e1',e2',e3'⟩,hs,ho,hbl⟩
def FreshPost (f:FuncM) (w:World) (e:Ending) (w':World):Prop :=
 ∃ val1:Vals,e=.returned (.agg #[val1 .params,.int .i64 f.arrays,.int .i64 f.cells,val1 .blocks]) ∧ OwnG w' (w.heap.size + 2) (rowOf f val1) val1 (EE f f.blocks.length) ∧ Below w.heap.size w w'
set_option maxRecDepth 100000 in
set_option maxHeartbeats 8000000 in
theorem freshFunc_any (f:FuncM) (B:Nat) (val:Vals) (w:World) (hrd:RdF w B f val) (hB:B ≤ w.heap.size) (h1:f.params.length ≤ 100000) (h2:f.blocks.length ≤ 100000) (hsm:∀ b ∈ f.blocks,Small b) :
  Calls Tryz.prog 64 #[.agg #[val .params,.int .i64 f.arrays,.int .i64 f.cells,val .blocks]] w (FreshPost f w):=by
 have HRD:=hideI hrd
 have HSM:=hideI hsm
 have rp:=hrd .params (intsRow f.params) rfl
 have rb:=hrd .blocks ⟨62,6,f.blocks.length,cellsOf (blockCells val) 0 f.blocks⟩ rfl
 have C1:Hid (∀ W,Keeps B w W → Calls Tryz.prog 111 #[val .params] W (ListPost' 3 1 (intsRow f.params) W)):=fun W hW =>
  (listInt_any _ B _ W (rp.keeps hW) (by simp [intsRow]) h1 (ints_one _)).mono fun _ _ h => h.form
 have C2:Hid (∀ W,Keeps B w W → Calls Tryz.prog 112 #[val .blocks] W (ListPost' 62 6 ⟨62,6,f.blocks.length,cellsOf (blockCells val) 0 f.blocks⟩ W)):=fun W hW =>
  (listBlock_any _ B _ W (rb.keeps hW) (cellsOf_len (blockCells_len val) _ _) h2 (rd_block_one hrd)).mono fun _ _ h => h.form
 obtain ⟨P,pc,hpv,_⟩:=rp
 obtain ⟨A,c,hbv,_⟩:=rb
 have e1:(intsRow f.params).len=f.params.length:=rfl
 rw [e1] at hpv
 have HPV:=hideI hpv
 have HBV:Hid (val .blocks=.slice A f.blocks.length c):=hbv
 rw [hpv] at C1 ⊢
 rw [HBV.out] at C2 ⊢
 obtain ⟨W0,hW0⟩:∃ W0:World,W0=(w.alloc (.cells #[.slice P f.params.length pc,.int .i64 f.arrays,.int .i64 f.cells,.slice A f.blocks.length c] 25)).alloc (.cells #[.slice none 0 0,.int .i64 0,.int .i64 0,.slice none 0 0] 25):=⟨_,rfl⟩
 have hs0:W0.heap.size=w.heap.size + 2:=by rw [hW0];simp
 have hbox:W0.heap[w.heap.size]?=some (.cells #[.slice P f.params.length pc,.int .i64 f.arrays,.int .i64 f.cells,.slice A f.blocks.length c] 25 (0,0)):=by
  rw [hW0,Below.heap_alloc _ _ _ (by simp)]
  exact heap_alloc_new w _
 have hres:W0.heap[w.heap.size + 1]?=some (.cells #[.slice none 0 0,.int .i64 0,.int .i64 0,.slice none 0 0] 25 (0,0)):=by
  rw [hW0]
  have:=heap_alloc_new (w.alloc (.cells #[.slice P f.params.length pc,.int .i64 f.arrays,.int .i64 f.cells,.slice A f.blocks.length c] 25)) (.cells #[.slice none 0 0,.int .i64 0,.int .i64 0,.slice none 0 0] 25)
  simpa using this
 have hlow:Below w.heap.size w W0:=by rw [hW0];exact ((Below.refl _ w).alloc (Nat.le_refl _) _).alloc (by simp) _
 have HBOX:=hideI hbox
 have HRES:=hideI hres
 have HLOW:=hideI hlow
 have HS0:=hideI hs0
 have HW0:=hideI hW0
 have G0:Hid (∀ W,Below W0.heap.size W0 W → W.cell? ⟨w.heap.size,0,none⟩=some (.slice P f.params.length pc) ∧ W.cell? ⟨w.heap.size,3,none⟩=some (.slice A f.blocks.length c) ∧ W.frozen? ⟨w.heap.size,0,none⟩=false ∧ W.frozen? ⟨w.heap.size,3,none⟩=false):=fun W hW => by
  have hx:=row_cells HBOX.out (hW.block _ (by have:=HS0.out;omega))
  have hf:=free_row' HBOX.out (hW.block _ (by have:=HS0.out;omega))
  exact ⟨hx 0,hx 3,hf 0,hf 3⟩
 have KP:Hid (∀ W,Below W0.heap.size W0 W → Keeps B w W):=fun W hW => (Keeps.of_below (HLOW.out.mono hB)).trans (Keeps.of_below (hW.mono (by have:=HS0.out;omega)))
 obtain ⟨q0,q3,f0,f3⟩:=G0.out W0 (Below.refl _ _)
 clear hrd hsm hpv hbv e1 hbox hres hlow hW0 hs0
 go_enter Tryz.func64,Tryz.ntmps64
 go_upto_region 1 with fail
 rw [← HW0.out]
 go_cut [] (fun wx => ∃ val1,Hid (FnSt f val w.heap.size w wx val1 0))
 case first =>
  go_region_with (first
   | (go_at_call 111;refine (C1.out _ (by exact KP.out _ ⟨rfl,rfl,rfl,Nat.le_refl _,fun _ _ => rfl⟩)).mono ?_;rintro e w2 ⟨A2,c2,rfl,hown2,hb2⟩;have hba:Below W0.heap.size W0 w2:=undrew2 hb2;obtain ⟨q0,q3,f0,f3⟩:=G0.out _ hba)
   | (go_at_call 112;refine (C2.out _ (by exact KP.out _ hba)).mono ?_;rintro e w3 ⟨A3,c3,rfl,hown3,hb3⟩;have hbb:Below W0.heap.size W0 w3:=hba.trans (hb3.mono hba.size);obtain ⟨q0,q3,f0,f3⟩:=G0.out _ hbb))
  all_goals (go_wp2_with fail;go_meet;exact ⟨_,hideI (FnSt.start HS0.out (by rw [HPV.out,HBV.out];exact HBOX.out) HRES.out HLOW.out hba (undrewO hown2) hb3 hown3)⟩)
 case rest =>
  obtain ⟨val1,HST⟩:=hcut
  clear q0 q3 f0 f3
  obtain ⟨A1,c1,hp1⟩:=HST.out.own.form (t:=.blocks) (.inr (.inl rfl)) rfl
  have hp1':val1 .blocks=.slice A1 f.blocks.length c1:=hp1
  have b3:=(row_cells HST.out.box rfl 3).trans (show (#[val1 .params,.int .i64 f.arrays,.int .i64 f.cells,val1 .blocks]:Array Value)[3]?=some (.slice A1 f.blocks.length c1) by simp [hp1'])
  clear hp1 hp1'
  go_wp2
  clear b3
  go_loopw [15] (fun u wr => ∃ (i:Nat) (val1:Vals),i ≤ f.blocks.length ∧ u=.int .i64 i ∧ Hid (FnSt f val w.heap.size w wr val1 i)) (fun u _ => f.blocks.length - (intOf u).toNat)
  case atStart => exact ⟨0,val1,Nat.zero_le _,rfl,HST⟩
  case round =>
   obtain ⟨i,val1,hi,rfl,HST⟩:=hrel
   have hN2:w.heap.size + 2 ≤ wr.heap.size:=by
    have:=(Array.getElem?_eq_some_iff.1 HST.out.res).1
    omega
   by_cases hlt:i < f.blocks.length
   ·obtain ⟨b,hb⟩:∃ b,f.blocks[i]?=some b:=⟨_,List.getElem?_eq_getElem hlt⟩
    obtain ⟨g,bc,hg,hgb,hgl⟩:=HST.out.own.slice (tp:=.blocks) (.inr (.inl rfl)) rfl (by show 0 < f.blocks.length;omega)
    have HBI:=hideI hb
    have HG:Hid (val1 .blocks=.slice (some ⟨g,0,none⟩) f.blocks.length bc):=hg
    have hsb:=HSM.out b (List.mem_of_getElem? hb)
    have KP:Hid (∀ W,Below wr.heap.size wr W → Keeps B w W):=fun W hW => (Keeps.of_below (HST.out.low.mono hB)).trans (Keeps.of_below (hW.mono (by omega)))
    have CB:Hid (∀ W,Below wr.heap.size wr W → Calls Tryz.prog 113 #[.agg #[val (.phis i),val (.code i),.int .i64 b.term.op,.int .i64 b.term.val,val (.ends i),.int .i64 b.term.n]] W (FreshBlkPost' f val i b W)):=fun W hW =>
     (freshBlock_any f B val i b W hb (HRD.out.keeps (KP.out W hW)) (by have:=hW.size;omega) hsb).mono fun _ _ h => h.form hb
    have e1:val1 (.phis i)=val (.phis i):=HST.out.same _ (EE.not rfl)
    have e2:val1 (.code i)=val (.code i):=HST.out.same _ (EE.not rfl)
    have e3:val1 (.ends i)=val (.ends i):=HST.out.same _ (EE.not rfl)
    obtain ⟨PA,pc2,d1,_⟩:=HRD.out (.phis i) _ (row_phis hb)
    obtain ⟨CA,cc2,d2,_⟩:=HRD.out (.code i) _ (row_code hb)
    obtain ⟨TA,tc2,d3,_⟩:=HRD.out (.ends i) _ (row_ends hb)
    have d3':val (.ends i)=.slice TA b.term.to.length tc2:=d3
    have d1':val (.phis i)=.slice PA b.phis.length pc2:=d1
    have d2':val (.code i)=.slice CA b.code.length cc2:=d2
    have G0:Hid (∀ W,Below wr.heap.size wr W → (∀ r u,r < 6 → (blockCells val1 i b)[r]?=some u → W.cell? ⟨g,i * 6 + r,none⟩=some u ∧ W.frozen? ⟨g,i * 6 + r,none⟩=false) ∧ W.cell? ⟨w.heap.size,3,none⟩=some (.slice (some ⟨g,0,none⟩) f.blocks.length bc)):=fun W hW => by
     have o:=HST.out.own.below hW
     refine ⟨fun r u hr hu => ?_,?_⟩
     ·have k2:=o.cell (tp:=.blocks) (j:=i * 6 + r) (.inr (.inl rfl)) rfl HG.out rfl (by show _ < f.blocks.length * 6;omega)
      have hc:=cellsOf_at (blockCells_len val1) f.blocks 0 i r b HBI.out hr
      rw [Nat.zero_add] at hc
      exact ⟨k2.1.trans (hc.trans hu),k2.2⟩
     ·exact (row_cells HST.out.box (hW.block _ (by omega)) 3).trans (by show some (val1 .blocks)=_;rw [HG.out])
    have H6:Hid (∀ W,Below wr.heap.size wr W → (W.cell? ⟨g,i * 6,none⟩=some (.slice PA b.phis.length pc2) ∧ W.cell? ⟨g,i * 6 + 1,none⟩=some (.slice CA b.code.length cc2) ∧ W.cell? ⟨g,i * 6 + 2,none⟩=some (.int .i64 b.term.op) ∧ W.cell? ⟨g,i * 6 + 3,none⟩=some (.int .i64 b.term.val) ∧ W.cell? ⟨g,i * 6 + 4,none⟩=some (.slice TA b.term.to.length tc2) ∧ W.cell? ⟨g,i * 6 + 5,none⟩=some (.int .i64 b.term.n)) ∧
      (W.frozen? ⟨g,i * 6,none⟩=false ∧ W.frozen? ⟨g,i * 6 + 1,none⟩=false ∧ W.frozen? ⟨g,i * 6 + 2,none⟩=false ∧ W.frozen? ⟨g,i * 6 + 3,none⟩=false ∧ W.frozen? ⟨g,i * 6 + 4,none⟩=false ∧ W.frozen? ⟨g,i * 6 + 5,none⟩=false) ∧ W.cell? ⟨w.heap.size,3,none⟩=some (.slice (some ⟨g,0,none⟩) f.blocks.length bc)):=fun W hW => by
     obtain ⟨k,kb⟩:=G0.out W hW
     have k0:=k 0 (.slice PA b.phis.length pc2) (by omega) (by show some (val1 _)=_;rw [e1,d1'])
     have k1:=k 1 (.slice CA b.code.length cc2) (by omega) (by show some (val1 _)=_;rw [e2,d2'])
     have k2:=k 2 _ (by omega) rfl
     have k3:=k 3 _ (by omega) rfl
     have k4:=k 4 (.slice TA b.term.to.length tc2) (by omega) (by show some (val1 _)=_;rw [e3,d3'])
     have k5:=k 5 _ (by omega) rfl
     exact ⟨⟨k0.1,k1.1,k2.1,k3.1,k4.1,k5.1⟩,⟨k0.2,k1.2,k2.2,k3.2,k4.2,k5.2⟩,kb⟩
    rw [d1',d2',d3'] at CB
    obtain ⟨⟨c0,c1,c2,c3,c4,c5⟩,⟨f0,f1,f2,f3,f4,f5⟩,b3⟩:=H6.out wr (Below.refl _ _)
    clear hb hg e1 e2 e3 d1 d2 d3 d1' d2' d3'
    go_wp2
    go_region_with (first
     | (go_at_call 113;refine (CB.out _ (by exact ⟨rfl,rfl,rfl,Nat.le_refl _,fun _ _ => rfl⟩)).mono ?_;rintro e w2 ⟨val2,A2,c2,A3,c3,A4,c4,rfl,hval2,hsame2,hown2,hb2⟩;have hba:Below wr.heap.size wr w2:=undrew2 hb2;obtain ⟨⟨c0,c1,c2,c3,c4,c5⟩,⟨f0,f1,f2,f3,f4,f5⟩,b3⟩:=H6.out _ hba))
    all_goals
     have HST2:=hideI (HST.out.step HBI.out hN2 HG.out hba hsame2 hown2)
     rw [hval2.1,hval2.2.1,hval2.2.2] at HST2
     clear c0 c1 c2 c3 c4 c5 f0 f1 f2 f3 f4 f5 b3 hval2 hsame2 hown2 hb2 hba
     go_wp2
     go_roundw
     case rel => exact ⟨i + 1,_,by omega,by go_num,HST2⟩
     case measure => simp [intOf];omega
   ·have hin:i=f.blocks.length:=by omega
    rw [hin] at HST
    obtain ⟨PA1,pc1,e1⟩:=HST.out.own.form (t:=.params) (.inl rfl) rfl
    obtain ⟨BA1,bc1,e2⟩:=HST.out.own.form (t:=.blocks) (.inr (.inl rfl)) rfl
    have e1':val1 .params=.slice PA1 f.params.length pc1:=e1
    have e2':val1 .blocks=.slice BA1 f.blocks.length bc1:=e2
    have E1:=hideI e1'
    have E2:=hideI e2'
    have hbx:=HST.out.box
    rw [e1',e2'] at hbx
    have hx:=row_cells hbx rfl
    have hr:=row_cells HST.out.res rfl
    have hf:=free_row' HST.out.res (rfl:wr.heap[w.heap.size + 1]?=_)
    have b0:=hx 0
    have b1:=hx 1
    have b2:=hx 2
    have b3:=hx 3
    have r0:=hr 0
    have r1:=hr 1
    have r2:=hr 2
    have r3:=hr 3
    have f0:=hf 0
    have f1:=hf 1
    have f2:=hf 2
    have f3:=hf 3
    clear e1 e2 e1' e2' hbx hx hr hf hin
    go_wp2
    have hne:∀ t,EE f f.blocks.length t → (val1 t).ownBlock ≠ some (w.heap.size + 1):=fun t ht e => by have:=(HST.out.own.lt ht e).1;omega
    refine bodyPost_ret (v:=.agg #[.slice PA1 f.params.length pc1,.int .i64 f.arrays,.int .i64 f.cells,.slice BA1 f.blocks.length bc1]) (by simp [results,Tryz.results64,go_sem,r0,r1,r2,r3]) rfl ⟨val1,by rw [E1.out,E2.out],?_,?_⟩
    ·exact (((HST.out.own.other hne).other hne).other hne).other hne
    ·exact (((HST.out.low.setCell (by simp) _).setCell (by simp) _).setCell (by simp) _).setCell (by simp) _
end Go.Proofs.YtaehbgppfahdeaaGreat

namespace Go.Proofs.YtaehbgppfahdeaaGreat
open Go.RowKit
def cellAt (w:World) (v:Value) (j:Nat):Value:=match v with
 | .slice (some a) _ _ => (w.cell? ⟨a.block,a.off + j,none⟩).getD (.slice none 0 0)
 | _ => .slice none 0 0
def readVals (w:World) (pv bv:Value):Vals
 | .params => pv
 | .blocks => bv
 | .phis k => cellAt w bv (k * 6)
 | .code k => cellAt w bv (k * 6 + 1)
 | .ends k => cellAt w bv (k * 6 + 4)
 | .fr k i => cellAt w (cellAt w bv (k * 6)) (i * 4 + 2)
 | .vals k i => cellAt w (cellAt w bv (k * 6)) (i * 4 + 3)
 | .args k i => cellAt w (cellAt w bv (k * 6 + 1)) (i * 4 + 2)
section
variable {w:World} {B:Nat} {pv bv:Value} {f:FuncM}
theorem cellAt_of {b off n c j:Nat} {u:Value} (h:w.cell? ⟨b,off + j,none⟩=some u):cellAt w (.slice (some ⟨b,off,none⟩) n c) j=u:=by
 unfold cellAt
 simp only [h,Option.getD_some]
theorem read_block (hb:BlocksR w B bv f.blocks) {k:Nat} {q:BlockM} (hq:f.blocks[k]?=some q) :
  ∃ b off n c,bv=.slice (some ⟨b,off,none⟩) n c ∧ b < B ∧ w.cell? ⟨b,off + k * 6,none⟩=some (readVals w pv bv (.phis k)) ∧ w.cell? ⟨b,off + k * 6 + 1,none⟩=some (readVals w pv bv (.code k)) ∧ w.cell? ⟨b,off + k * 6 + 2,none⟩=some (.int .i64 q.term.op) ∧ w.cell? ⟨b,off + k * 6 + 3,none⟩=some (.int .i64 q.term.val) ∧
   w.cell? ⟨b,off + k * 6 + 4,none⟩=some (readVals w pv bv (.ends k)) ∧ w.cell? ⟨b,off + k * 6 + 5,none⟩=some (.int .i64 q.term.n) ∧
   PhisR w B (readVals w pv bv (.phis k)) q.phis ∧ CodeR w B (readVals w pv bv (.code k)) q.code ∧ Ints w B (readVals w pv bv (.ends k)) q.term.to:=by
 obtain ⟨A,c,rfl,hm,hx⟩:=hb
 obtain ⟨b,off,p,cv,tv,rfl,hbB,e0,e1,e2,e3,e4,e5,hp,hc,ht,_⟩:=hx k q hq
 have h0:readVals w pv (.slice (some ⟨b,off,none⟩) f.blocks.length c) (.phis k)=p:=by show cellAt w (.slice (some ⟨b,off,none⟩) f.blocks.length c) (k * 6)=p;exact cellAt_of e0
 have h1:readVals w pv (.slice (some ⟨b,off,none⟩) f.blocks.length c) (.code k)=cv:=by show cellAt w (.slice (some ⟨b,off,none⟩) f.blocks.length c) (k * 6 + 1)=cv;exact cellAt_of (by rw [← Nat.add_assoc];exact e1)
 have h4:readVals w pv (.slice (some ⟨b,off,none⟩) f.blocks.length c) (.ends k)=tv:=by show cellAt w (.slice (some ⟨b,off,none⟩) f.blocks.length c) (k * 6 + 4)=tv;exact cellAt_of (by rw [← Nat.add_assoc];exact e4)
 rw [h0,h1,h4]
 exact ⟨b,off,_,_,rfl,hbB,e0,e1,e2,e3,e4,e5,hp,hc,ht⟩
theorem read_phi {v:Value} {ps:List PhiM} (hp:PhisR w B v ps) {i:Nat} {p:PhiM} (hi:ps[i]?=some p) :
  ∃ b off n c,v=.slice (some ⟨b,off,none⟩) n c ∧ b < B ∧ w.cell? ⟨b,off + i * 4,none⟩=some (.int .i64 p.id) ∧ w.cell? ⟨b,off + i * 4 + 1,none⟩=some (.int .i64 p.typ) ∧ w.cell? ⟨b,off + i * 4 + 2,none⟩=some (cellAt w v (i * 4 + 2)) ∧ w.cell? ⟨b,off + i * 4 + 3,none⟩=some (cellAt w v (i * 4 + 3)) ∧
   Ints w B (cellAt w v (i * 4 + 2)) p.fr ∧ Ints w B (cellAt w v (i * 4 + 3)) p.vals:=by
 obtain ⟨A,c,rfl,hm,hx⟩:=hp
 obtain ⟨b,off,fv,vv,rfl,hbB,e0,e1,e2,e3,hf,hv,_⟩:=hx i p hi
 have h2:cellAt w (.slice (some ⟨b,off,none⟩) ps.length c) (i * 4 + 2)=fv:=cellAt_of (by rw [← Nat.add_assoc];exact e2)
 have h3:cellAt w (.slice (some ⟨b,off,none⟩) ps.length c) (i * 4 + 3)=vv:=cellAt_of (by rw [← Nat.add_assoc];exact e3)
 rw [h2,h3]
 exact ⟨b,off,_,_,rfl,hbB,e0,e1,e2,e3,hf,hv⟩
theorem read_instr {v:Value} {ps:List InstrM} (hp:CodeR w B v ps) {i:Nat} {p:InstrM} (hi:ps[i]?=some p) :
  ∃ b off n c,v=.slice (some ⟨b,off,none⟩) n c ∧ b < B ∧ w.cell? ⟨b,off + i * 4,none⟩=some (.int .i64 p.op) ∧ w.cell? ⟨b,off + i * 4 + 1,none⟩=some (.int .i64 p.id) ∧ w.cell? ⟨b,off + i * 4 + 2,none⟩=some (cellAt w v (i * 4 + 2)) ∧ w.cell? ⟨b,off + i * 4 + 3,none⟩=some (.int .i64 p.n) ∧
   Ints w B (cellAt w v (i * 4 + 2)) p.args:=by
 obtain ⟨A,c,rfl,hm,hx⟩:=hp
 obtain ⟨b,off,fv,rfl,hbB,e0,e1,e2,e3,hf,_⟩:=hx i p hi
 have h2:cellAt w (.slice (some ⟨b,off,none⟩) ps.length c) (i * 4 + 2)=fv:=cellAt_of (by rw [← Nat.add_assoc];exact e2)
 rw [h2]
 exact ⟨b,off,_,_,rfl,hbB,e0,e1,e2,e3,hf⟩
theorem read_all (hp:Ints w B pv f.params) (hb:BlocksR w B bv f.blocks):RdF w B f (readVals w pv bv):=by
 intro t d hd
 cases t with
 | params =>
  cases hd
  exact hp.row
 | blocks =>
  cases hd
  obtain ⟨A,c,hv,hm,_⟩:=id hb
  refine ⟨A,c,hv,hm,fun j u hu => ?_⟩
  obtain ⟨k,r,q,rfl,hr,hq,hc⟩:=cellsOf_div (blockCells_len _) hu
  obtain ⟨b,off,n,c',hv',hbB,e0,e1,e2,e3,e4,e5,_⟩:=read_block (pv:=pv) hb hq
  have hA:A=some ⟨b,off,none⟩:=by rw [hv] at hv';cases hv';rfl
  refine ⟨b,off,hA,hbB,?_⟩
  obtain rfl | rfl | rfl | rfl | rfl | rfl:r=0 ∨ r=1 ∨ r=2 ∨ r=3 ∨ r=4 ∨ r=5:=by omega
  all_goals (cases hc;rw [← Nat.add_assoc];assumption)
 | phis k =>
  cases hq:f.blocks[k]? with
  | none => simp only [rowOf,hq] at hd;cases hd
  | some q =>
   simp only [rowOf,hq,Option.map_some,Option.some.injEq] at hd
   subst hd
   obtain ⟨_,_,_,_,_,_,_,_,_,_,_,_,hph,_⟩:=read_block (pv:=pv) hb hq
   obtain ⟨A,c,hv,hm,_⟩:=id hph
   refine ⟨A,c,hv,hm,fun j u hu => ?_⟩
   obtain ⟨i,r,p,rfl,hr,hp,hc⟩:=cellsOf_div (phiCells_len _ k) hu
   obtain ⟨b,off,n,c',hv',hbB,e0,e1,e2,e3,_⟩:=read_phi hph hp
   have hA:A=some ⟨b,off,none⟩:=by rw [hv] at hv';cases hv';rfl
   refine ⟨b,off,hA,hbB,?_⟩
   obtain rfl | rfl | rfl | rfl:r=0 ∨ r=1 ∨ r=2 ∨ r=3:=by omega
   all_goals (cases hc;rw [← Nat.add_assoc];assumption)
 | code k =>
  cases hq:f.blocks[k]? with
  | none => simp only [rowOf,hq] at hd;cases hd
  | some q =>
   simp only [rowOf,hq,Option.map_some,Option.some.injEq] at hd
   subst hd
   obtain ⟨_,_,_,_,_,_,_,_,_,_,_,_,_,hco,_⟩:=read_block (pv:=pv) hb hq
   obtain ⟨A,c,hv,hm,_⟩:=id hco
   refine ⟨A,c,hv,hm,fun j u hu => ?_⟩
   obtain ⟨i,r,p,rfl,hr,hp,hc⟩:=cellsOf_div (instrCells_len _ k) hu
   obtain ⟨b,off,n,c',hv',hbB,e0,e1,e2,e3,_⟩:=read_instr hco hp
   have hA:A=some ⟨b,off,none⟩:=by rw [hv] at hv';cases hv';rfl
   refine ⟨b,off,hA,hbB,?_⟩
   obtain rfl | rfl | rfl | rfl:r=0 ∨ r=1 ∨ r=2 ∨ r=3:=by omega
   all_goals (cases hc;rw [← Nat.add_assoc];assumption)
 | ends k =>
  cases hq:f.blocks[k]? with
  | none => simp only [rowOf,hq] at hd;cases hd
  | some q =>
   simp only [rowOf,hq,Option.map_some,Option.some.injEq] at hd
   subst hd
   obtain ⟨_,_,_,_,_,_,_,_,_,_,_,_,_,_,ht⟩:=read_block (pv:=pv) hb hq
   exact ht.row
 | fr k i =>
  cases hq:f.blocks[k]? with
  | none => simp only [rowOf,hq] at hd;cases hd
  | some q =>
   cases hp:q.phis[i]? with
   | none => simp only [rowOf,hq,Option.bind_some,hp] at hd;cases hd
   | some p =>
    simp only [rowOf,hq,Option.bind_some,hp,Option.map_some,Option.some.injEq] at hd
    subst hd
    obtain ⟨_,_,_,_,_,_,_,_,_,_,_,_,hph,_⟩:=read_block (pv:=pv) hb hq
    obtain ⟨_,_,_,_,_,_,_,_,_,_,hf,_⟩:=read_phi hph hp
    exact hf.row
 | vals k i =>
  cases hq:f.blocks[k]? with
  | none => simp only [rowOf,hq] at hd;cases hd
  | some q =>
   cases hp:q.phis[i]? with
   | none => simp only [rowOf,hq,Option.bind_some,hp] at hd;cases hd
   | some p =>
    simp only [rowOf,hq,Option.bind_some,hp,Option.map_some,Option.some.injEq] at hd
    subst hd
    obtain ⟨_,_,_,_,_,_,_,_,_,_,_,_,hph,_⟩:=read_block (pv:=pv) hb hq
    obtain ⟨_,_,_,_,_,_,_,_,_,_,_,hf⟩:=read_phi hph hp
    exact hf.row
 | args k i =>
  cases hq:f.blocks[k]? with
  | none => simp only [rowOf,hq] at hd;cases hd
  | some q =>
   cases hp:q.code[i]? with
   | none => simp only [rowOf,hq,Option.bind_some,hp] at hd;cases hd
   | some p =>
    simp only [rowOf,hq,Option.bind_some,hp,Option.map_some,Option.some.injEq] at hd
    subst hd
    obtain ⟨_,_,_,_,_,_,_,_,_,_,_,_,_,hco,_⟩:=read_block (pv:=pv) hb hq
    obtain ⟨_,_,_,_,_,_,_,_,_,_,hf⟩:=read_instr hco hp
    exact hf.row
end
end Go.Proofs.YtaehbgppfahdeaaGreat
namespace Go.Proofs.YtaehbgppfahdeaaGreat
open Go.RowKit
structure SmallF (f:FuncM):Prop where
 params:f.params.length ≤ 100000
 blocks:f.blocks.length ≤ 100000
 each:∀ b ∈ f.blocks,Small b
theorem EE.all {f:FuncM} {val:Vals} {t:Tag} {d:RowD} (h:rowOf f val t=some d):EE f f.blocks.length t:=by
 cases t with
 | params => exact .inl rfl
 | blocks => exact .inr (.inl rfl)
 | phis k =>
  cases hq:f.blocks[k]? with
  | none => simp only [rowOf,hq] at h;cases h
  | some q => exact .inr (.inr ⟨k,q,(List.getElem?_eq_some_iff.1 hq).1,hq,.inl rfl⟩)
 | code k =>
  cases hq:f.blocks[k]? with
  | none => simp only [rowOf,hq] at h;cases h
  | some q => exact .inr (.inr ⟨k,q,(List.getElem?_eq_some_iff.1 hq).1,hq,.inr (.inl rfl)⟩)
 | ends k =>
  cases hq:f.blocks[k]? with
  | none => simp only [rowOf,hq] at h;cases h
  | some q => exact .inr (.inr ⟨k,q,(List.getElem?_eq_some_iff.1 hq).1,hq,.inr (.inr (.inl rfl))⟩)
 | fr k i =>
  cases hq:f.blocks[k]? with
  | none => simp only [rowOf,hq] at h;cases h
  | some q =>
   cases hp:q.phis[i]? with
   | none => simp only [rowOf,hq,Option.bind_some,hp] at h;cases h
   | some p => exact .inr (.inr ⟨k,q,(List.getElem?_eq_some_iff.1 hq).1,hq,.inr (.inr (.inr (.inl ⟨i,(List.getElem?_eq_some_iff.1 hp).1,.inl rfl⟩)))⟩)
 | vals k i =>
  cases hq:f.blocks[k]? with
  | none => simp only [rowOf,hq] at h;cases h
  | some q =>
   cases hp:q.phis[i]? with
   | none => simp only [rowOf,hq,Option.bind_some,hp] at h;cases h
   | some p => exact .inr (.inr ⟨k,q,(List.getElem?_eq_some_iff.1 hq).1,hq,.inr (.inr (.inr (.inl ⟨i,(List.getElem?_eq_some_iff.1 hp).1,.inr rfl⟩)))⟩)
 | args k i =>
  cases hq:f.blocks[k]? with
  | none => simp only [rowOf,hq] at h;cases h
  | some q =>
   cases hp:q.code[i]? with
   | none => simp only [rowOf,hq,Option.bind_some,hp] at h;cases h
   | some p => exact .inr (.inr ⟨k,q,(List.getElem?_eq_some_iff.1 hq).1,hq,.inr (.inr (.inr (.inr ⟨i,(List.getElem?_eq_some_iff.1 hp).1,rfl⟩)))⟩)
theorem SmallF.len {f:FuncM} {val:Vals} {t:Tag} {d:RowD} (hs:SmallF f) (h:rowOf f val t=some d):d.len ≤ 100000:=by
 cases t with
 | params => cases h;exact hs.params
 | blocks => cases h;exact hs.blocks
 | phis k =>
  cases hq:f.blocks[k]? with
  | none => simp only [rowOf,hq] at h;cases h
  | some q => rw [row_phis hq] at h;cases h;exact (hs.each q (List.mem_of_getElem? hq)).phis
 | code k =>
  cases hq:f.blocks[k]? with
  | none => simp only [rowOf,hq] at h;cases h
  | some q => rw [row_code hq] at h;cases h;exact (hs.each q (List.mem_of_getElem? hq)).code
 | ends k =>
  cases hq:f.blocks[k]? with
  | none => simp only [rowOf,hq] at h;cases h
  | some q => rw [row_ends hq] at h;cases h;exact (hs.each q (List.mem_of_getElem? hq)).ends
 | fr k i =>
  cases hq:f.blocks[k]? with
  | none => simp only [rowOf,hq] at h;cases h
  | some q =>
   cases hp:q.phis[i]? with
   | none => simp only [rowOf,hq,Option.bind_some,hp] at h;cases h
   | some p => simp only [rowOf,hq,Option.bind_some,hp,Option.map_some,Option.some.injEq] at h;subst h;exact ((hs.each q (List.mem_of_getElem? hq)).fr p (List.mem_of_getElem? hp)).1
 | vals k i =>
  cases hq:f.blocks[k]? with
  | none => simp only [rowOf,hq] at h;cases h
  | some q =>
   cases hp:q.phis[i]? with
   | none => simp only [rowOf,hq,Option.bind_some,hp] at h;cases h
   | some p => simp only [rowOf,hq,Option.bind_some,hp,Option.map_some,Option.some.injEq] at h;subst h;exact ((hs.each q (List.mem_of_getElem? hq)).fr p (List.mem_of_getElem? hp)).2
 | args k i =>
  cases hq:f.blocks[k]? with
  | none => simp only [rowOf,hq] at h;cases h
  | some q =>
   cases hp:q.code[i]? with
   | none => simp only [rowOf,hq,Option.bind_some,hp] at h;cases h
   | some p => simp only [rowOf,hq,Option.bind_some,hp,Option.map_some,Option.some.injEq] at h;subst h;exact (hs.each q (List.mem_of_getElem? hq)).args p (List.mem_of_getElem? hp)
theorem OwnG.rd {w:World} {base:Nat} {f:FuncM} {val:Vals} (h:OwnG w base (rowOf f val) val (EE f f.blocks.length)) (hs:SmallF f):RdF w w.heap.size f val:=by
 intro t d hd
 have hown:=h.rows t d (EE.all hd) hd
 have hl:=hs.len hd
 rcases hown.2 with ⟨hv,h0⟩ | ⟨g,cap,cur,hv,hb,hg,r⟩
 ·refine ⟨none,0,by rw [hv,h0],by omega,fun j u hu => ?_⟩
  have h1:=hown.1
  have h2:=(List.getElem?_eq_some_iff.1 hu).1
  rw [h1,h0] at h2
  omega
 ·refine ⟨some ⟨g,0,none⟩,cap,hv,by omega,fun j u hu => ⟨g,0,rfl,(Array.getElem?_eq_some_iff.1 hg).1,?_⟩⟩
  rw [hv] at hown
  have hj:=(List.getElem?_eq_some_iff.1 hu).1
  rw [hown.1] at hj
  rw [Nat.zero_add,World.ownsRow.cellAt hown j hj,hu]
theorem mem_sum {l:List BlockM} {b:BlockM} (h:b ∈ l):sizeB b ≤ (l.map sizeB).sum:=by
 induction l with
 | nil => cases h
 | cons a l ih =>
  rw [List.map_cons,List.sum_cons]
  rcases List.mem_cons.1 h with rfl | h
  ·omega
  ·have:=ih h;omega
theorem takes_three (op:Int):(takesS op).length ≤ 3:=by
 unfold takesS
 rw [List.length_map]
 rcases op_cases op with h | h | h
 ·rcases h with rfl | rfl | rfl | rfl | rfl | rfl | rfl | rfl | rfl | rfl | rfl | rfl | rfl <;> decide
 ·rcases h with rfl | rfl | rfl | rfl | rfl | rfl | rfl | rfl | rfl | rfl | rfl | rfl <;> decide
 ·rw [shapeS_none h];decide
theorem term_few {f:FuncM} {t:TermM} (h:termB f t=true):t.to.length ≤ 2:=by
 unfold termB at h
 simp only [Bool.and_eq_true] at h
 have h2:=h.2
 split at h2
 ·simp only [Bool.and_eq_true,beq_iff_eq] at h2;omega
 ·split at h2
  ·simp only [Bool.and_eq_true,beq_iff_eq] at h2;omega
  ·split at h2
   ·simp only [Bool.and_eq_true,beq_iff_eq] at h2;omega
   ·split at h2
    ·simp only [Bool.and_eq_true,beq_iff_eq] at h2;omega
    ·cases h2
theorem look_small {f:FuncM} (h:(lookM f).1=0):SmallF f:=by
 have hsz:=look_size h
 have hall:=(formed_all (look_formed h)).1
 have hterm:=look_term h
 have hnb:=look_some_block h
 have hpar:f.params.length ≤ 16:=by
  have hf:=look_formed h
  unfold formedM at hf
  split at hf
  ·rename_i hl
   simp only [Bool.and_eq_true] at hl
   have h1:=hl.1.1
   unfold limitsB at h1
   simp only [Bool.and_eq_true,decide_eq_true_eq] at h1
   exact h1.1
  ·cases hf
 refine ⟨by omega,by omega,fun b hb => ?_⟩
 have hs:=mem_sum hb
 unfold sizeM at hsz
 unfold sizeB at hs hsz
 have hr:=hall b hb
 refine ⟨by omega,by omega,by have:=term_few (hterm b hb);omega,fun p hp => ?_,fun x hx => ?_⟩
 ·have h2:=hr.1 p hp
  unfold phiB at h2
  simp only [Bool.and_eq_true,beq_iff_eq] at h2
  have h3:=once_len h2.2.2
  omega
 ·have h2:=hr.2 x hx
  unfold instrB at h2
  simp only [Bool.and_eq_true,beq_iff_eq] at h2
  have:=takes_three x.op
  omega
theorem fresh_any (f:FuncM) (B:Nat) (pv bv:Value) (w:World) (hpv:Ints w B pv f.params) (hbv:BlocksR w B bv f.blocks) (hB:B ≤ w.heap.size) (h0:(lookM f).1=0) :
  Calls Tryz.prog 64 #[.agg #[pv,.int .i64 f.arrays,.int .i64 f.cells,bv]] w (FreshPost f w):=by
 have hs:=look_small h0
 exact freshFunc_any f B (readVals w pv bv) w (read_all hpv hbv) hB hs.params hs.blocks hs.each
end Go.Proofs.YtaehbgppfahdeaaGreat
