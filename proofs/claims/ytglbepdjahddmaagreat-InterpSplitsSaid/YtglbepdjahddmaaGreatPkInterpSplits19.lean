/- What InterpSplits rests on, part 19: FDone, SplitM. -/
import Derived.Test.YtglbepdjahddmaaGreatPkInterpSplits18

namespace Go.Proofs.YtglbepdjahddmaaGreat
open Go.RowKit
def cellAt (w:World) (v:Value) (j:Nat):Value:=match v with
 | .slice (some a) _ _ => (w.cell? ⟨a.block,a.off + j,none⟩).getD (.slice none 0 0)
 | _ => .slice none 0 0
def readVals (w:World) (pv bv:Value):Vals
 | .params => pv
 | .blocks => bv
 | .phis k => cellAt w bv (k * 6)
 | .code k => cellAt w bv (k * 6 + 1)
 | .ends k => cellAt w bv (k * 6 + 4)
 | .fr k i => cellAt w (cellAt w bv (k * 6)) (i * 4 + 2)
 | .vals k i => cellAt w (cellAt w bv (k * 6)) (i * 4 + 3)
 | .args k i => cellAt w (cellAt w bv (k * 6 + 1)) (i * 4 + 2)
section
variable {w:World} {B:Nat} {pv bv:Value} {f:FuncM}
theorem cellAt_of {b off n c j:Nat} {u:Value} (h:w.cell? ⟨b,off + j,none⟩=some u):cellAt w (.slice (some ⟨b,off,none⟩) n c) j=u:=by
 unfold cellAt
 simp only [h,Option.getD_some]
theorem read_block (hb:BlocksR w B bv f.blocks) {k:Nat} {q:BlockM} (hq:f.blocks[k]?=some q) :
  ∃ b off n c,bv=.slice (some ⟨b,off,none⟩) n c ∧ b < B ∧ w.cell? ⟨b,off + k * 6,none⟩=some (readVals w pv bv (.phis k)) ∧ w.cell? ⟨b,off + k * 6 + 1,none⟩=some (readVals w pv bv (.code k)) ∧ w.cell? ⟨b,off + k * 6 + 2,none⟩=some (.int .i64 q.term.op) ∧ w.cell? ⟨b,off + k * 6 + 3,none⟩=some (.int .i64 q.term.val) ∧
   w.cell? ⟨b,off + k * 6 + 4,none⟩=some (readVals w pv bv (.ends k)) ∧ w.cell? ⟨b,off + k * 6 + 5,none⟩=some (.int .i64 q.term.n) ∧
   PhisR w B (readVals w pv bv (.phis k)) q.phis ∧ CodeR w B (readVals w pv bv (.code k)) q.code ∧ Ints w B (readVals w pv bv (.ends k)) q.term.to:=by
 obtain ⟨A,c,rfl,hm,hx⟩:=hb
 obtain ⟨b,off,p,cv,tv,rfl,hbB,e0,e1,e2,e3,e4,e5,hp,hc,ht,_⟩:=hx k q hq
 have h0:readVals w pv (.slice (some ⟨b,off,none⟩) f.blocks.length c) (.phis k)=p:=by show cellAt w (.slice (some ⟨b,off,none⟩) f.blocks.length c) (k * 6)=p;exact cellAt_of e0
 have h1:readVals w pv (.slice (some ⟨b,off,none⟩) f.blocks.length c) (.code k)=cv:=by show cellAt w (.slice (some ⟨b,off,none⟩) f.blocks.length c) (k * 6 + 1)=cv;exact cellAt_of (by rw [← Nat.add_assoc];exact e1)
 have h4:readVals w pv (.slice (some ⟨b,off,none⟩) f.blocks.length c) (.ends k)=tv:=by show cellAt w (.slice (some ⟨b,off,none⟩) f.blocks.length c) (k * 6 + 4)=tv;exact cellAt_of (by rw [← Nat.add_assoc];exact e4)
 rw [h0,h1,h4]
 exact ⟨b,off,_,_,rfl,hbB,e0,e1,e2,e3,e4,e5,hp,hc,ht⟩
theorem read_phi {v:Value} {ps:List PhiM} (hp:PhisR w B v ps) {i:Nat} {p:PhiM} (hi:ps[i]?=some p) :
  ∃ b off n c,v=.slice (some ⟨b,off,none⟩) n c ∧ b < B ∧ w.cell? ⟨b,off + i * 4,none⟩=some (.int .i64 p.id) ∧ w.cell? ⟨b,off + i * 4 + 1,none⟩=some (.int .i64 p.typ) ∧ w.cell? ⟨b,off + i * 4 + 2,none⟩=some (cellAt w v (i * 4 + 2)) ∧ w.cell? ⟨b,off + i * 4 + 3,none⟩=some (cellAt w v (i * 4 + 3)) ∧
   Ints w B (cellAt w v (i * 4 + 2)) p.fr ∧ Ints w B (cellAt w v (i * 4 + 3)) p.vals:=by
 obtain ⟨A,c,rfl,hm,hx⟩:=hp
 obtain ⟨b,off,fv,vv,rfl,hbB,e0,e1,e2,e3,hf,hv,_⟩:=hx i p hi
 have h2:cellAt w (.slice (some ⟨b,off,none⟩) ps.length c) (i * 4 + 2)=fv:=cellAt_of (by rw [← Nat.add_assoc];exact e2)
 have h3:cellAt w (.slice (some ⟨b,off,none⟩) ps.length c) (i * 4 + 3)=vv:=cellAt_of (by rw [← Nat.add_assoc];exact e3)
 rw [h2,h3]
 exact ⟨b,off,_,_,rfl,hbB,e0,e1,e2,e3,hf,hv⟩
theorem read_instr {v:Value} {ps:List InstrM} (hp:CodeR w B v ps) {i:Nat} {p:InstrM} (hi:ps[i]?=some p) :
  ∃ b off n c,v=.slice (some ⟨b,off,none⟩) n c ∧ b < B ∧ w.cell? ⟨b,off + i * 4,none⟩=some (.int .i64 p.op) ∧ w.cell? ⟨b,off + i * 4 + 1,none⟩=some (.int .i64 p.id) ∧ w.cell? ⟨b,off + i * 4 + 2,none⟩=some (cellAt w v (i * 4 + 2)) ∧ w.cell? ⟨b,off + i * 4 + 3,none⟩=some (.int .i64 p.n) ∧
   Ints w B (cellAt w v (i * 4 + 2)) p.args:=by
 obtain ⟨A,c,rfl,hm,hx⟩:=hp
 obtain ⟨b,off,fv,rfl,hbB,e0,e1,e2,e3,hf,_⟩:=hx i p hi
 have h2:cellAt w (.slice (some ⟨b,off,none⟩) ps.length c) (i * 4 + 2)=fv:=cellAt_of (by rw [← Nat.add_assoc];exact e2)
 rw [h2]
 exact ⟨b,off,_,_,rfl,hbB,e0,e1,e2,e3,hf⟩
theorem read_all (hp:Ints w B pv f.params) (hb:BlocksR w B bv f.blocks):RdF w B f (readVals w pv bv):=by
 intro t d hd
 cases t with
 | params =>
  cases hd
  exact hp.row
 | blocks =>
  cases hd
  obtain ⟨A,c,hv,hm,_⟩:=id hb
  refine ⟨A,c,hv,hm,fun j u hu => ?_⟩
  obtain ⟨k,r,q,rfl,hr,hq,hc⟩:=cellsOf_div (blockCells_len _) hu
  obtain ⟨b,off,n,c',hv',hbB,e0,e1,e2,e3,e4,e5,_⟩:=read_block (pv:=pv) hb hq
  have hA:A=some ⟨b,off,none⟩:=by rw [hv] at hv';cases hv';rfl
  refine ⟨b,off,hA,hbB,?_⟩
  obtain rfl | rfl | rfl | rfl | rfl | rfl:r=0 ∨ r=1 ∨ r=2 ∨ r=3 ∨ r=4 ∨ r=5:=by omega
  all_goals (cases hc;rw [← Nat.add_assoc];assumption)
 | phis k =>
  cases hq:f.blocks[k]? with
  | none => simp only [rowOf,hq] at hd;cases hd
  | some q =>
   simp only [rowOf,hq,Option.map_some,Option.some.injEq] at hd
   subst hd
   obtain ⟨_,_,_,_,_,_,_,_,_,_,_,_,hph,_⟩:=read_block (pv:=pv) hb hq
   obtain ⟨A,c,hv,hm,_⟩:=id hph
   refine ⟨A,c,hv,hm,fun j u hu => ?_⟩
   obtain ⟨i,r,p,rfl,hr,hp,hc⟩:=cellsOf_div (phiCells_len _ k) hu
   obtain ⟨b,off,n,c',hv',hbB,e0,e1,e2,e3,_⟩:=read_phi hph hp
   have hA:A=some ⟨b,off,none⟩:=by rw [hv] at hv';cases hv';rfl
   refine ⟨b,off,hA,hbB,?_⟩
   obtain rfl | rfl | rfl | rfl:r=0 ∨ r=1 ∨ r=2 ∨ r=3:=by omega
   all_goals (cases hc;rw [← Nat.add_assoc];assumption)
 | code k =>
  cases hq:f.blocks[k]? with
  | none => simp only [rowOf,hq] at hd;cases hd
  | some q =>
   simp only [rowOf,hq,Option.map_some,Option.some.injEq] at hd
   subst hd
   obtain ⟨_,_,_,_,_,_,_,_,_,_,_,_,_,hco,_⟩:=read_block (pv:=pv) hb hq
   obtain ⟨A,c,hv,hm,_⟩:=id hco
   refine ⟨A,c,hv,hm,fun j u hu => ?_⟩
   obtain ⟨i,r,p,rfl,hr,hp,hc⟩:=cellsOf_div (instrCells_len _ k) hu
   obtain ⟨b,off,n,c',hv',hbB,e0,e1,e2,e3,_⟩:=read_instr hco hp
   have hA:A=some ⟨b,off,none⟩:=by rw [hv] at hv';cases hv';rfl
   refine ⟨b,off,hA,hbB,?_⟩
   obtain rfl | rfl | rfl | rfl:r=0 ∨ r=1 ∨ r=2 ∨ r=3:=by omega
   all_goals (cases hc;rw [← Nat.add_assoc];assumption)
 | ends k =>
  cases hq:f.blocks[k]? with
  | none => simp only [rowOf,hq] at hd;cases hd
  | some q =>
   simp only [rowOf,hq,Option.map_some,Option.some.injEq] at hd
   subst hd
   obtain ⟨_,_,_,_,_,_,_,_,_,_,_,_,_,_,ht⟩:=read_block (pv:=pv) hb hq
   exact ht.row
 | fr k i =>
  cases hq:f.blocks[k]? with
  | none => simp only [rowOf,hq] at hd;cases hd
  | some q =>
   cases hp:q.phis[i]? with
   | none => simp only [rowOf,hq,Option.bind_some,hp] at hd;cases hd
   | some p =>
    simp only [rowOf,hq,Option.bind_some,hp,Option.map_some,Option.some.injEq] at hd
    subst hd
    obtain ⟨_,_,_,_,_,_,_,_,_,_,_,_,hph,_⟩:=read_block (pv:=pv) hb hq
    obtain ⟨_,_,_,_,_,_,_,_,_,_,hf,_⟩:=read_phi hph hp
    exact hf.row
 | vals k i =>
  cases hq:f.blocks[k]? with
  | none => simp only [rowOf,hq] at hd;cases hd
  | some q =>
   cases hp:q.phis[i]? with
   | none => simp only [rowOf,hq,Option.bind_some,hp] at hd;cases hd
   | some p =>
    simp only [rowOf,hq,Option.bind_some,hp,Option.map_some,Option.some.injEq] at hd
    subst hd
    obtain ⟨_,_,_,_,_,_,_,_,_,_,_,_,hph,_⟩:=read_block (pv:=pv) hb hq
    obtain ⟨_,_,_,_,_,_,_,_,_,_,_,hf⟩:=read_phi hph hp
    exact hf.row
 | args k i =>
  cases hq:f.blocks[k]? with
  | none => simp only [rowOf,hq] at hd;cases hd
  | some q =>
   cases hp:q.code[i]? with
   | none => simp only [rowOf,hq,Option.bind_some,hp] at hd;cases hd
   | some p =>
    simp only [rowOf,hq,Option.bind_some,hp,Option.map_some,Option.some.injEq] at hd
    subst hd
    obtain ⟨_,_,_,_,_,_,_,_,_,_,_,_,_,hco,_⟩:=read_block (pv:=pv) hb hq
    obtain ⟨_,_,_,_,_,_,_,_,_,_,hf⟩:=read_instr hco hp
    exact hf.row
end
end Go.Proofs.YtglbepdjahddmaaGreat
namespace Go.Proofs.YtglbepdjahddmaaGreat
open Go.RowKit
structure SmallF (f:FuncM):Prop where
 params:f.params.length ≤ 100000
 blocks:f.blocks.length ≤ 100000
 each:∀ b ∈ f.blocks,Small b
theorem EE.all {f:FuncM} {val:Vals} {t:Tag} {d:RowD} (h:rowOf f val t=some d):EE f f.blocks.length t:=by
 cases t with
 | params => exact .inl rfl
 | blocks => exact .inr (.inl rfl)
 | phis k =>
  cases hq:f.blocks[k]? with
  | none => simp only [rowOf,hq] at h;cases h
  | some q => exact .inr (.inr ⟨k,q,(List.getElem?_eq_some_iff.1 hq).1,hq,.inl rfl⟩)
 | code k =>
  cases hq:f.blocks[k]? with
  | none => simp only [rowOf,hq] at h;cases h
  | some q => exact .inr (.inr ⟨k,q,(List.getElem?_eq_some_iff.1 hq).1,hq,.inr (.inl rfl)⟩)
 | ends k =>
  cases hq:f.blocks[k]? with
  | none => simp only [rowOf,hq] at h;cases h
  | some q => exact .inr (.inr ⟨k,q,(List.getElem?_eq_some_iff.1 hq).1,hq,.inr (.inr (.inl rfl))⟩)
 | fr k i =>
  cases hq:f.blocks[k]? with
  | none => simp only [rowOf,hq] at h;cases h
  | some q =>
   cases hp:q.phis[i]? with
   | none => simp only [rowOf,hq,Option.bind_some,hp] at h;cases h
   | some p => exact .inr (.inr ⟨k,q,(List.getElem?_eq_some_iff.1 hq).1,hq,.inr (.inr (.inr (.inl ⟨i,(List.getElem?_eq_some_iff.1 hp).1,.inl rfl⟩)))⟩)
 | vals k i =>
  cases hq:f.blocks[k]? with
  | none => simp only [rowOf,hq] at h;cases h
  | some q =>
   cases hp:q.phis[i]? with
   | none => simp only [rowOf,hq,Option.bind_some,hp] at h;cases h
   | some p => exact .inr (.inr ⟨k,q,(List.getElem?_eq_some_iff.1 hq).1,hq,.inr (.inr (.inr (.inl ⟨i,(List.getElem?_eq_some_iff.1 hp).1,.inr rfl⟩)))⟩)
 | args k i =>
  cases hq:f.blocks[k]? with
  | none => simp only [rowOf,hq] at h;cases h
  | some q =>
   cases hp:q.code[i]? with
   | none => simp only [rowOf,hq,Option.bind_some,hp] at h;cases h
   | some p => exact .inr (.inr ⟨k,q,(List.getElem?_eq_some_iff.1 hq).1,hq,.inr (.inr (.inr (.inr ⟨i,(List.getElem?_eq_some_iff.1 hp).1,rfl⟩)))⟩)
theorem SmallF.len {f:FuncM} {val:Vals} {t:Tag} {d:RowD} (hs:SmallF f) (h:rowOf f val t=some d):d.len ≤ 100000:=by
 cases t with
 | params => cases h;exact hs.params
 | blocks => cases h;exact hs.blocks
 | phis k =>
  cases hq:f.blocks[k]? with
  | none => simp only [rowOf,hq] at h;cases h
  | some q => rw [row_phis hq] at h;cases h;exact (hs.each q (List.mem_of_getElem? hq)).phis
 | code k =>
  cases hq:f.blocks[k]? with
  | none => simp only [rowOf,hq] at h;cases h
  | some q => rw [row_code hq] at h;cases h;exact (hs.each q (List.mem_of_getElem? hq)).code
 | ends k =>
  cases hq:f.blocks[k]? with
  | none => simp only [rowOf,hq] at h;cases h
  | some q => rw [row_ends hq] at h;cases h;exact (hs.each q (List.mem_of_getElem? hq)).ends
 | fr k i =>
  cases hq:f.blocks[k]? with
  | none => simp only [rowOf,hq] at h;cases h
  | some q =>
   cases hp:q.phis[i]? with
   | none => simp only [rowOf,hq,Option.bind_some,hp] at h;cases h
   | some p => simp only [rowOf,hq,Option.bind_some,hp,Option.map_some,Option.some.injEq] at h;subst h;exact ((hs.each q (List.mem_of_getElem? hq)).fr p (List.mem_of_getElem? hp)).1
 | vals k i =>
  cases hq:f.blocks[k]? with
  | none => simp only [rowOf,hq] at h;cases h
  | some q =>
   cases hp:q.phis[i]? with
   | none => simp only [rowOf,hq,Option.bind_some,hp] at h;cases h
   | some p => simp only [rowOf,hq,Option.bind_some,hp,Option.map_some,Option.some.injEq] at h;subst h;exact ((hs.each q (List.mem_of_getElem? hq)).fr p (List.mem_of_getElem? hp)).2
 | args k i =>
  cases hq:f.blocks[k]? with
  | none => simp only [rowOf,hq] at h;cases h
  | some q =>
   cases hp:q.code[i]? with
   | none => simp only [rowOf,hq,Option.bind_some,hp] at h;cases h
   | some p => simp only [rowOf,hq,Option.bind_some,hp,Option.map_some,Option.some.injEq] at h;subst h;exact (hs.each q (List.mem_of_getElem? hq)).args p (List.mem_of_getElem? hp)
theorem OwnG.rd {w:World} {base:Nat} {f:FuncM} {val:Vals} (h:OwnG w base (rowOf f val) val (EE f f.blocks.length)) (hs:SmallF f):RdF w w.heap.size f val:=by
 intro t d hd
 have hown:=h.rows t d (EE.all hd) hd
 have hl:=hs.len hd
 rcases hown.2 with ⟨hv,h0⟩ | ⟨g,cap,cur,hv,hb,hg,r⟩
 ·refine ⟨none,0,by rw [hv,h0],by omega,fun j u hu => ?_⟩
  have h1:=hown.1
  have h2:=(List.getElem?_eq_some_iff.1 hu).1
  rw [h1,h0] at h2
  omega
 ·refine ⟨some ⟨g,0,none⟩,cap,hv,by omega,fun j u hu => ⟨g,0,rfl,(Array.getElem?_eq_some_iff.1 hg).1,?_⟩⟩
  rw [hv] at hown
  have hj:=(List.getElem?_eq_some_iff.1 hu).1
  rw [hown.1] at hj
  rw [Nat.zero_add,World.ownsRow.cellAt hown j hj,hu]
theorem mem_sum {l:List BlockM} {b:BlockM} (h:b ∈ l):sizeB b ≤ (l.map sizeB).sum:=by
 induction l with
 | nil => cases h
 | cons a l ih =>
  rw [List.map_cons,List.sum_cons]
  rcases List.mem_cons.1 h with rfl | h
  ·omega
  ·have:=ih h;omega
theorem takes_three (op:Int):(takesS op).length ≤ 3:=by
 unfold takesS
 rw [List.length_map]
 rcases op_cases op with h | h | h
 ·rcases h with rfl | rfl | rfl | rfl | rfl | rfl | rfl | rfl | rfl | rfl | rfl | rfl | rfl <;> decide
 ·rcases h with rfl | rfl | rfl | rfl | rfl | rfl | rfl | rfl | rfl | rfl | rfl | rfl <;> decide
 ·rw [shapeS_none h];decide
theorem term_few {f:FuncM} {t:TermM} (h:termB f t=true):t.to.length ≤ 2:=by
 unfold termB at h
 simp only [Bool.and_eq_true] at h
 have h2:=h.2
 split at h2
 ·simp only [Bool.and_eq_true,beq_iff_eq] at h2;omega
 ·split at h2
  ·simp only [Bool.and_eq_true,beq_iff_eq] at h2;omega
  ·split at h2
   ·simp only [Bool.and_eq_true,beq_iff_eq] at h2;omega
   ·split at h2
    ·simp only [Bool.and_eq_true,beq_iff_eq] at h2;omega
    ·cases h2
theorem look_small {f:FuncM} (h:(lookM f).1=0):SmallF f:=by
 have hsz:=look_size h
 have hall:=(formed_all (look_formed h)).1
 have hterm:=look_term h
 have hnb:=look_some_block h
 have hpar:f.params.length ≤ 16:=by
  have hf:=look_formed h
  unfold formedM at hf
  split at hf
  ·rename_i hl
   simp only [Bool.and_eq_true] at hl
   have h1:=hl.1.1
   unfold limitsB at h1
   simp only [Bool.and_eq_true,decide_eq_true_eq] at h1
   exact h1.1
  ·cases hf
 refine ⟨by omega,by omega,fun b hb => ?_⟩
 have hs:=mem_sum hb
 unfold sizeM at hsz
 unfold sizeB at hs hsz
 have hr:=hall b hb
 refine ⟨by omega,by omega,by have:=term_few (hterm b hb);omega,fun p hp => ?_,fun x hx => ?_⟩
 ·have h2:=hr.1 p hp
  unfold phiB at h2
  simp only [Bool.and_eq_true,beq_iff_eq] at h2
  have h3:=once_len h2.2.2
  omega
 ·have h2:=hr.2 x hx
  unfold instrB at h2
  simp only [Bool.and_eq_true,beq_iff_eq] at h2
  have:=takes_three x.op
  omega
theorem fresh_any (f:FuncM) (B:Nat) (pv bv:Value) (w:World) (hpv:Ints w B pv f.params) (hbv:BlocksR w B bv f.blocks) (hB:B ≤ w.heap.size) (h0:(lookM f).1=0) :
  Calls Tryz.prog 55 #[.agg #[pv,.int .i64 f.arrays,.int .i64 f.cells,bv]] w (FreshPost f w):=by
 have hs:=look_small h0
 exact freshFunc_any f B (readVals w pv bv) w (read_all hpv hbv) hB hs.params hs.blocks hs.each
end Go.Proofs.YtglbepdjahddmaaGreat

namespace Go.Proofs.YtglbepdjahddmaaGreat
def comeM (from_ mid:Int) (stays:Bool) (p:PhiM):PhiM :=
 if from_ ∈ p.fr then
  (if stays then { p with fr:=p.fr ++ [mid],vals:=p.vals ++ [p.vals[p.fr.idxOf from_]?.getD 0] } else { p with fr:=p.fr.set (p.fr.idxOf from_) mid })
 else p
def endM (k:Nat) (mid:Int) (b:BlockM):BlockM:={ b with term:=⟨b.term.op,b.term.val,b.term.to.set k mid,b.term.n⟩ }
def phisM (from_ mid:Int) (stays:Bool) (b:BlockM):BlockM:={ b with phis:=b.phis.map (comeM from_ mid stays) }
def toOf (f:FuncM) (from_ k:Nat):Int:=match f.blocks[from_]? with | some b => b.term.to[k]?.getD 0 | none => 0
def staysM (f:FuncM) (from_ k:Nat):Bool:=match f.blocks[from_]? with | some b => decide (toOf f from_ k ∈ b.term.to.set k (f.blocks.length:Int)) | none => false
def splitM (f:FuncM) (from_ k:Nat):FuncM :=
 { f with blocks:=((f.blocks.modify from_ (endM k f.blocks.length)).modify (toOf f from_ k).toNat (phisM from_ f.blocks.length (staysM f from_ k))) ++ [⟨[],[],⟨1,-1,[toOf f from_ k],0⟩⟩] }
theorem onceS_of {nb:Nat}:∀ (l seen:List Int),l.Nodup → (∀ x ∈ l,0 ≤ x ∧ x ≤ (nb:Int) - 1) → (∀ x ∈ l,x ∉ seen) → onceB nb seen l=true:=by
 intro l
 induction l with
 | nil => intro _ _ _ _;rfl
 | cons a l ih =>
  intro seen hn hr hs
  rw [List.nodup_cons] at hn
  have h1:=hr a (List.mem_cons_self ..)
  have h2:=hs a (List.mem_cons_self ..)
  unfold onceB withinB
  simp only [Bool.and_eq_true,decide_eq_true_eq,Bool.not_eq_true',List.contains_eq_mem,decide_eq_false_iff_not]
  refine ⟨⟨⟨h1.1,h1.2⟩,h2⟩,ih (a :: seen) hn.2 (fun x hx => hr x (List.mem_cons_of_mem _ hx)) (fun x hx => ?_)⟩
  rw [List.mem_cons,not_or]
  exact ⟨fun e => hn.1 (e ▸ hx),hs x (List.mem_cons_of_mem _ hx)⟩
theorem once_more {nb:Nat} {l:List Int} (h:onceB nb [] l=true):onceB (nb + 1) [] l=true:=by
 obtain ⟨h1,h2,_⟩:=once_nodup l [] h
 exact onceS_of l [] h1 (fun x hx => by have:=h2 x hx;omega) (by simp)
theorem once_push {nb:Nat} {l:List Int} (h:onceB nb [] l=true):onceB (nb + 1) [] (l ++ [(nb:Int)])=true:=by
 obtain ⟨h1,h2,_⟩:=once_nodup l [] h
 refine onceS_of _ [] ?_ (fun x hx => ?_) (by simp)
 ·rw [List.nodup_append]
  refine ⟨h1,by simp,fun a ha b hb e => ?_⟩
  simp at hb
  have:=h2 a ha
  omega
 ·rcases List.mem_append.1 hx with hx | hx
  ·have:=h2 x hx;omega
  ·simp at hx;omega
theorem nodup_set {l:List Int} {i:Nat} {y:Int} (h:l.Nodup) (hy:y ∉ l):(l.set i y).Nodup:=by
 induction l generalizing i with
 | nil => simp
 | cons a l ih =>
  rw [List.nodup_cons] at h
  rw [List.mem_cons,not_or] at hy
  cases i with
  | zero => rw [List.set_cons_zero,List.nodup_cons];exact ⟨hy.2,h.2⟩
  | succ i =>
   rw [List.set_cons_succ,List.nodup_cons]
   refine ⟨fun hm => ?_,ih h.2 hy.2⟩
   rcases List.mem_or_eq_of_mem_set hm with h2 | h2
   ·exact h.1 h2
   ·exact hy.1 h2.symm
theorem once_set {nb i:Nat} {l:List Int} (h:onceB nb [] l=true):onceB (nb + 1) [] (l.set i (nb:Int))=true:=by
 obtain ⟨h1,h2,_⟩:=once_nodup l [] h
 refine onceS_of _ [] (nodup_set h1 (fun hm => by have:=h2 _ hm;omega)) (fun x hx => ?_) (by simp)
 rcases List.mem_or_eq_of_mem_set hx with h3 | h3
 ·have:=h2 x h3;omega
 ·omega
def Wider (f g:FuncM):Prop:=g.params=f.params ∧ g.arrays=f.arrays ∧ g.cells=f.cells ∧ g.blocks.length=f.blocks.length + 1
theorem phi_wider {f g:FuncM} (hw:Wider f g) {p:PhiM} (h:phiB f p=true):phiB g p=true:=by
 unfold phiB at *
 simp only [Bool.and_eq_true,beq_iff_eq] at *
 rw [hw.2.2.2]
 exact ⟨h.1,h.2.1,once_more h.2.2⟩
theorem phi_come {f g:FuncM} (hw:Wider f g) {p:PhiM} {from_:Int} {s:Bool} (h:phiB f p=true):phiB g (comeM from_ f.blocks.length s p)=true:=by
 unfold comeM
 split
 ·unfold phiB at *
  simp only [Bool.and_eq_true,beq_iff_eq] at h
  split
  ·simp only [Bool.and_eq_true,beq_iff_eq,List.length_append,List.length_cons,List.length_nil]
   rw [hw.2.2.2]
   exact ⟨h.1,by omega,once_push h.2.2⟩
  ·simp only [Bool.and_eq_true,beq_iff_eq,List.length_set]
   rw [hw.2.2.2]
   exact ⟨h.1,h.2.1,once_set h.2.2⟩
 ·exact phi_wider hw h
theorem targets_wider {nb:Nat} {ts:List Int} (h:targetsB nb ts=true):targetsB (nb + 1) ts=true:=by
 unfold targetsB withinB at *
 simp only [List.all_eq_true,Bool.and_eq_true,decide_eq_true_eq] at *
 intro x hx
 have:=h x hx
 omega
theorem term_wider {f g:FuncM} (hw:Wider f g) {t:TermM} (h:termB f t=true):termB g t=true:=by
 unfold termB at *
 simp only [Bool.and_eq_true] at *
 rw [hw.2.2.2]
 exact ⟨targets_wider h.1,h.2⟩
theorem term_end {f g:FuncM} (hw:Wider f g) (h0:0 < f.blocks.length) {b:BlockM} {k:Nat} (h:termB f b.term=true):termB g (endM k f.blocks.length b).term=true:=by
 unfold termB at *
 simp only [Bool.and_eq_true] at h
 simp only [endM,Bool.and_eq_true,List.length_set]
 rw [hw.2.2.2]
 refine ⟨?_,h.2⟩
 have h1:=h.1
 unfold targetsB withinB at *
 simp only [List.all_eq_true,Bool.and_eq_true,decide_eq_true_eq] at *
 intro x hx
 rcases List.mem_or_eq_of_mem_set hx with h3 | h3
 ·have:=h1 x h3;omega
 ·omega
structure Variant (f g:FuncM) (b c:BlockM):Prop where
 ids:c.phis.map (fun p => (p.id,p.typ))=b.phis.map (fun p => (p.id,p.typ))
 phis:(∀ p ∈ b.phis,phiB f p=true) → ∀ p ∈ c.phis,phiB g p=true
 code:c.code=b.code
 term:termB f b.term=true → termB g c.term=true
 uses:∀ u ∈ usesBlock c,u ∈ usesBlock b
theorem phisStep_variant {f g:FuncM} (hw:Wider f g):∀ (l m:List PhiM) (ds d:Defs),m.map (fun p => (p.id,p.typ))=l.map (fun p => (p.id,p.typ)) → (∀ p ∈ m,phiB g p=true) → phisStep f ds l=some d → phisStep g ds m=some d:=by
 intro l
 induction l with
 | nil =>
  intro m ds d hm _ h
  have:m=[]:=by simpa using hm
  subst this
  exact h
 | cons p l ih =>
  intro m ds d hm hg h
  cases m with
  | nil => simp at hm
  | cons q m =>
   simp only [List.map_cons,List.cons.injEq,Prod.mk.injEq] at hm
   unfold phisStep at h ⊢
   rw [Option.bind_eq_some_iff] at h
   obtain ⟨d1,h1,h2⟩:=h
   have hq:phiStep g ds q=some d1:=by
    unfold phiStep at *
    rw [if_pos (hg q (List.mem_cons_self ..))]
    split at h1
    ·rw [hm.1.1,hm.1.2,hw.1];exact h1
    ·cases h1
   rw [hq]
   exact ih m d1 d hm.2 (fun p hp => hg p (List.mem_cons_of_mem _ hp)) h2
theorem instr_wider {f g:FuncM} (hw:Wider f g) (x:InstrM):instrB g x=instrB f x:=by
 unfold instrB fitsB
 rw [hw.2.1,hw.2.2.1]
theorem codeStep_wider {f g:FuncM} (hw:Wider f g):∀ (l:List InstrM) (ds:Defs),codeStep g ds l=codeStep f ds l:=by
 intro l
 induction l with
 | nil => intro ds;rfl
 | cons x l ih =>
  intro ds
  unfold codeStep
  have:instrStep g ds x=instrStep f ds x:=by
   unfold instrStep
   rw [instr_wider hw,hw.1]
  rw [this]
  congr 1
  funext d
  exact ih d
theorem blockStep_variant {f g:FuncM} (hw:Wider f g) {b c:BlockM} {ds d:Defs} (hv:Variant f g b c) (hr:∀ p ∈ b.phis,phiB f p=true) (h:blockStep f ds b=some d):blockStep g ds c=some d:=by
 unfold blockStep at *
 rw [Option.bind_eq_some_iff] at h
 obtain ⟨d2,h3,h4⟩:=h
 rw [Option.bind_eq_some_iff] at h4
 obtain ⟨d3,h5,h6⟩:=h4
 rw [phisStep_variant hw _ _ _ _ hv.ids (hv.phis hr) h3,Option.bind_some,hv.code,codeStep_wider hw,h5,Option.bind_some]
 split at h6
 ·rename_i ht
  rw [if_pos (hv.term ht)]
  exact h6
 ·cases h6
theorem blocksStep_variant {f g:FuncM} (hw:Wider f g):∀ (l m:List BlockM) (ds d:Defs),l.length=m.length → (∀ (i:Nat) b c,l[i]?=some b → m[i]?=some c → Variant f g b c) → (∀ b ∈ l,∀ p ∈ b.phis,phiB f p=true) → blocksStep f ds l=some d → blocksStep g ds m=some d:=by
 intro l
 induction l with
 | nil =>
  intro m ds d hl _ _ h
  have:m=[]:=List.eq_nil_of_length_eq_zero (by simpa using hl.symm)
  subst this
  exact h
 | cons b l ih =>
  intro m ds d hl hv hr h
  cases m with
  | nil => simp at hl
  | cons c m =>
   unfold blocksStep at h ⊢
   rw [Option.bind_eq_some_iff] at h
   obtain ⟨d1,h1,h2⟩:=h
   rw [blockStep_variant hw (hv 0 b c rfl rfl) (hr b (List.mem_cons_self ..)) h1,Option.bind_some]
   exact ih m d1 d (by simpa using hl) (fun i x y hx hy => hv (i + 1) x y (by simpa using hx) (by simpa using hy)) (fun x hx => hr x (List.mem_cons_of_mem _ hx)) h2
theorem blocksStep_snoc {g:FuncM} {d e:Defs} {c:BlockM}:∀ (m:List BlockM) (ds:Defs),blocksStep g ds m=some d → blockStep g d c=some e → blocksStep g ds (m ++ [c])=some e:=by
 intro m
 induction m with
 | nil =>
  intro ds h hc
  injection h with h
  subst h
  show (blockStep g ds c).bind _=some e
  rw [hc]
  rfl
 | cons b m ih =>
  intro ds h hc
  unfold blocksStep at h
  rw [Option.bind_eq_some_iff] at h
  obtain ⟨d1,h1,h2⟩:=h
  show (blockStep g ds b).bind _=some e
  rw [h1]
  exact ih d1 h2 hc
theorem come_ids (from_ mid:Int) (s:Bool) (p:PhiM):((comeM from_ mid s p).id,(comeM from_ mid s p).typ)=(p.id,p.typ):=by
 unfold comeM
 split
 ·split <;> rfl
 ·rfl
theorem come_uses {from_ mid:Int} {s:Bool} {p:PhiM} (hl:p.vals.length=p.fr.length):∀ u ∈ usesPhi (comeM from_ mid s p),u ∈ usesPhi p:=by
 intro u hu
 unfold comeM at hu
 split at hu
 ·rename_i hm
  split at hu
  ·unfold usesPhi at *
   simp only [List.map_append,List.mem_append,List.map_cons,List.map_nil,List.mem_singleton] at hu
   rcases hu with hu | hu
   ·exact hu
   ·have hlt:p.fr.idxOf from_ < p.vals.length:=by rw [hl];exact List.idxOf_lt_length_iff.2 hm
    rw [hu,List.getElem?_eq_getElem hlt]
    exact List.mem_map.2 ⟨_,List.getElem_mem hlt,rfl⟩
  ·exact hu
 ·exact hu
theorem variant_phis {f g:FuncM} (hw:Wider f g) {b c:BlockM} {from_:Int} {s:Bool} (hr:∀ p ∈ b.phis,phiB f p=true) (hv:Variant f g b c) (hc:c.phis=b.phis):Variant f g b (phisM from_ f.blocks.length s c):=by
 refine ⟨?_,fun _ p hp => ?_,hv.code,hv.term,fun u hu => ?_⟩
 ·unfold phisM
  simp only [List.map_map]
  rw [hc]
  apply List.map_congr_left
  intro p _
  exact come_ids _ _ _ p
 ·unfold phisM at hp
  simp only [List.mem_map] at hp
  obtain ⟨q,hq,rfl⟩:=hp
  rw [hc] at hq
  exact phi_come hw (hr q hq)
 ·unfold usesBlock phisM at hu
  simp only [List.mem_append,List.mem_flatMap,List.mem_map] at hu
  rcases hu with ⟨p,⟨q,hq,rfl⟩,hu⟩ | hu
  ·rw [hc] at hq
   have h1:=hr q hq
   unfold phiB at h1
   simp only [Bool.and_eq_true,beq_iff_eq] at h1
   have h2:=come_uses h1.2.1 u hu
   exact List.mem_append.2 (.inl (List.mem_flatMap.2 ⟨q,hq,h2⟩))
  ·exact hv.uses u (List.mem_append.2 (.inr (by simpa using hu)))
theorem variant_self {f g:FuncM} (hw:Wider f g) (b:BlockM):Variant f g b b :=
 ⟨rfl,fun h p hp => phi_wider hw (h p hp),rfl,fun h => term_wider hw h,fun _ h => h⟩
theorem variant_end {f g:FuncM} (hw:Wider f g) (h0:0 < f.blocks.length) (b:BlockM) (k:Nat):Variant f g b (endM k f.blocks.length b) :=
 ⟨rfl,fun h p hp => phi_wider hw (h p hp),rfl,fun h => term_end hw h0 h,fun _ h => h⟩
theorem split_variant {f:FuncM} {from_ k:Nat} (hw:Wider f (splitM f from_ k)) (h0:0 < f.blocks.length) (hr:∀ b ∈ f.blocks,∀ p ∈ b.phis,phiB f p=true) :
  ∀ (i:Nat) b c,f.blocks[i]?=some b → ((f.blocks.modify from_ (endM k f.blocks.length)).modify (toOf f from_ k).toNat (phisM from_ f.blocks.length (staysM f from_ k)))[i]?=some c → Variant f (splitM f from_ k) b c:=by
 intro i b c hb hc
 rw [List.getElem?_modify,List.getElem?_modify,hb] at hc
 have hrb:=hr b (List.mem_of_getElem? hb)
 simp only [Option.map_eq_map,Option.map_some,Option.some.injEq] at hc
 subst hc
 split
 ·split
  ·exact variant_phis hw hrb (variant_end hw h0 b k) rfl
  ·exact variant_phis hw hrb (variant_self hw b) rfl
 ·split
  ·exact variant_end hw h0 b k
  ·exact variant_self hw b
theorem variant_size {f g:FuncM} {b c:BlockM} (h:Variant f g b c):sizeB c=sizeB b:=by
 unfold sizeB
 have h1:=congrArg List.length h.ids
 simp only [List.length_map] at h1
 rw [h1,h.code]
theorem sizes_same {f g:FuncM}:∀ (l m:List BlockM),l.length=m.length → (∀ (i:Nat) b c,l[i]?=some b → m[i]?=some c → Variant f g b c) → (m.map sizeB).sum=(l.map sizeB).sum:=by
 intro l
 induction l with
 | nil =>
  intro m hl _
  have:m=[]:=List.eq_nil_of_length_eq_zero (by simpa using hl.symm)
  subst this
  rfl
 | cons b l ih =>
  intro m hl hv
  cases m with
  | nil => simp at hl
  | cons c m =>
   rw [List.map_cons,List.map_cons,List.sum_cons,List.sum_cons,variant_size (hv 0 b c rfl rfl),ih m (by simpa using hl) (fun i x y hx hy => hv (i + 1) x y (by simpa using hx) (by simpa using hy))]
theorem split_wider (f:FuncM) (from_ k:Nat):Wider f (splitM f from_ k):=⟨rfl,rfl,rfl,by simp [splitM]⟩
theorem split_size {f:FuncM} {from_ k:Nat} (h0:0 < f.blocks.length) (hr:∀ b ∈ f.blocks,∀ p ∈ b.phis,phiB f p=true):sizeM (splitM f from_ k)=sizeM f + 1:=by
 have:=sizes_same f.blocks _ (by simp) (split_variant (split_wider f from_ k) h0 hr)
 unfold sizeM splitM
 rw [List.map_append,List.sum_append,this]
 rfl
theorem look_split {f:FuncM} {from_ k:Nat} {b:BlockM} (h:(lookM f).1=0) (hb:f.blocks[from_]?=some b) (hk:k < b.term.to.length) (hn:f.blocks.length < 512) (hs:sizeM f < 4096):(lookM (splitM f from_ k)).1=0:=by
 have hw:=split_wider f from_ k
 have hnb:=look_some_block h
 have hr:∀ b ∈ f.blocks,∀ p ∈ b.phis,phiB f p=true:=fun b hb => ((formed_all (look_formed h)).1 b hb).1
 have hv:=split_variant hw hnb.1 hr
 have hsz:=split_size (from_:=from_) (k:=k) hnb.1 hr
 have hto:1 ≤ toOf f from_ k ∧ toOf f from_ k < f.blocks.length:=by
  have h1:=term_in rfl (look_term h b (List.mem_of_getElem? hb))
  unfold toOf
  rw [hb]
  simp only [List.getElem?_eq_getElem hk,Option.getD_some]
  exact h1 _ (List.getElem_mem hk)
 have hfm:formedM (splitM f from_ k)=some (lookM f).2:=by
  have hf:=look_formed h
  unfold formedM at hf ⊢
  split at hf
  ·rename_i hl
   simp only [Bool.and_eq_true] at hl
   obtain ⟨⟨hlim,hpar⟩,hhead⟩:=hl
   rw [if_pos]
   ·rw [hw.1]
    show blocksStep (splitM f from_ k) _ (_ ++ [_])=_
    refine blocksStep_snoc _ _ (blocksStep_variant hw f.blocks _ _ _ (by simp) hv hr hf) ?_
    unfold blockStep
    show (some _).bind _=_
    rw [Option.bind_some]
    show (some _).bind _=_
    rw [Option.bind_some,if_pos]
    unfold termB targetsB withinB
    rw [hw.2.2.2]
    simp
    omega
   ·simp only [Bool.and_eq_true]
    refine ⟨⟨?_,by rw [hw.1];exact hpar⟩,?_⟩
    ·unfold limitsB withinB at *
     rw [hw.1,hw.2.1,hw.2.2.1,hw.2.2.2,hsz]
     simp only [Bool.and_eq_true,decide_eq_true_eq] at *
     omega
    ·cases hbl:f.blocks with
     | nil => rw [hbl] at hnb;simp at hnb
     | cons b0 r =>
      rw [hbl] at hhead
      have hm:∃ c0 m,((f.blocks.modify from_ (endM k f.blocks.length)).modify (toOf f from_ k).toNat (phisM from_ f.blocks.length (staysM f from_ k)))=c0 :: m:=by
       cases hx:((f.blocks.modify from_ (endM k f.blocks.length)).modify (toOf f from_ k).toNat (phisM from_ f.blocks.length (staysM f from_ k))) with
       | nil =>
        have:=congrArg List.length hx
        rw [List.length_modify,List.length_modify,hbl] at this
        simp at this
       | cons c0 m => exact ⟨c0,m,rfl⟩
      obtain ⟨c0,m,hm⟩:=hm
      have hv0:=hv 0 b0 c0 (by rw [hbl];rfl) (by rw [hm];rfl)
      have hl0:=congrArg List.length hv0.ids
      simp only [List.length_map] at hl0
      have hcons:(splitM f from_ k).blocks=c0 :: (m ++ [⟨[],[],⟨1,-1,[toOf f from_ k],0⟩⟩]):=by
       show _ ++ _=_
       rw [hm]
       rfl
      rw [hcons]
      show c0.phis.isEmpty=true
      have hb0:b0.phis.isEmpty=true:=hhead
      rw [List.isEmpty_iff_length_eq_zero] at hb0 ⊢
      omega
  ·cases hf
 have huse:∀ u ∈ usesM (splitM f from_ k),u ∈ usesM f:=by
  intro u hu
  unfold usesM at hu ⊢
  rw [List.mem_flatMap] at hu
  obtain ⟨c,hc,hu⟩:=hu
  rcases List.mem_append.1 hc with hc | hc
  ·obtain ⟨i,hi⟩:=List.getElem?_of_mem hc
   have hil:i < f.blocks.length:=by have:=(List.getElem?_eq_some_iff.1 hi).1;simpa using this
   have:=(hv i _ c (List.getElem?_eq_getElem hil) hi).uses u hu
   exact List.mem_flatMap.2 ⟨_,List.getElem_mem hil,this⟩
  ·rw [List.mem_singleton] at hc
   subst hc
   simp [usesBlock,usesTerm] at hu
 have h1:=h
 unfold lookM at h1
 rw [look_formed h] at h1
 unfold lookM
 rw [hfm]
 simp only at h1 ⊢
 have hun:unknownB (lookM f).2 (usesM f)=false:=by
  by_cases e:unknownB (lookM f).2 (usesM f)=true
  ·rw [if_pos e] at h1;cases h1
  ·simpa using e
 rw [hun] at h1
 have hfit:unfitB (lookM f).2 (usesM f)=false:=by
  by_cases e:unfitB (lookM f).2 (usesM f)=true
  ·rw [if_neg (by simp),if_pos e] at h1;cases h1
  ·simpa using e
 have hun2:unknownB (lookM f).2 (usesM (splitM f from_ k))=false:=by
  unfold unknownB at *
  rw [List.any_eq_false] at *
  exact fun u hu => hun u (huse u hu)
 have hfit2:unfitB (lookM f).2 (usesM (splitM f from_ k))=false:=by
  unfold unfitB at *
  rw [List.any_eq_false] at *
  exact fun u hu => hfit u (huse u hu)
 rw [hun2,hfit2]
 rfl
end Go.Proofs.YtglbepdjahddmaaGreat
