/- What ClosedChecks rests on, part 11: SCheckM, AwakeM, AwakeN, AwakeS, LoopM, LfM, LDom, LLatch, LPend, LWithin, LRise. -/
import Derived.Test.YtaehbgppfahdeaaGreatPkClosedChecks10
import Derived.BigQuiet
import Derived.Deep.QuietTactic
import Derived.Maps.AppendAt
import Derived.Deep.LoopGhost

namespace Go.Proofs.YtaehbgppfahdeaaGreat
open Go.RowKit Go.Maps
theorem look_right {f:FuncM} (h:(lookM f).1=0):formedR f=true:=by
 cases hr:formedR f
 ·have:=formed_no hr
  rw[look_formed h]at this
  cases this
 ·rfl
theorem right_blockR {f:FuncM} (h:(lookM f).1=0) {q:BlockM} (hq:q∈f.blocks):blockR f q=true:=by
 have hr:=look_right h
 unfold formedR at hr
 simp only[Bool.and_eq_true,List.all_eq_true]at hr
 exact hr.2.2.2 q hq
theorem look_id {f:FuncM} (h:(lookM f).1=0) {q:BlockM} (hq:q∈f.blocks) {x:InstrM} (hx:x∈q.code):makesS x.op=0→x.id=-1:=by
 have hb:=right_blockR h hq
 unfold blockR at hb
 simp only[Bool.and_eq_true,List.all_eq_true]at hb
 have hi:=hb.2.1 x hx
 unfold instrR at hi
 simp only[Bool.and_eq_true,Bool.not_eq_true',Bool.and_eq_false_iff,beq_eq_false_iff_ne,bne_eq_false_iff_eq]at hi
 intro hm
 rcases hi.2.2.1 with h1|h1
 ·exact absurd hm h1
 ·exact h1
theorem look_used {f:FuncM} (h:(lookM f).1=0) (u:Int×Int) (hu:u∈usesM f):u.1∈(valuesM f).map (·.1):=by
 rw[← at_some]
 have he:=look_eq (look_formed h)
 rw[h,formed_eq (look_formed h)]at he
 cases hx:unknownB (valuesM f) (usesM f)
 ·unfold unknownB at hx
  rw[List.any_eq_false]at hx
  have:=hx u hu
  simpa [Option.isSome_iff_ne_none] using this
 ·rw[hx]at he
  simp at he
theorem vals_instr {f:FuncM} (h:(lookM f).1=0) {q:BlockM} (hq:q∈f.blocks) {x:InstrM} (hx:x∈q.code) (b i:Nat):(placedInstr b i x).map (·.1)=(valuesInstr x).map (·.1):=by
 unfold placedInstr valuesInstr
 rcases makes_cases x.op with hm|hm
 ·have:=look_id h hq hx hm
  rw[if_neg (by omega),if_neg (by omega)]
  rfl
 ·have hk:=(formed_keys (look_formed h)).1
  have hv:=formed_eq (look_formed h)
  have hmem:(x.id,makesS x.op)∈(lookM f).2:=by
   rw[hv]
   unfold valuesM valuesBlock
   refine List.mem_append.2 (.inr (List.mem_flatMap.2 ⟨q,hq,List.mem_append.2 (.inr (List.mem_flatMap.2 ⟨x,hx,?_⟩))⟩))
   unfold valuesInstr
   rw[if_pos hm]
   exact List.mem_singleton.2 rfl
  have h0:=(hk _ hmem).1
  rw[if_pos h0,if_pos hm]
  rfl
theorem vals_code {f:FuncM} (h:(lookM f).1=0) {q:BlockM} (hq:q∈f.blocks) (b:Nat):∀ i,i≤q.code.length→(placedCode b q.code i).map (·.1)=((q.code.take i).flatMap valuesInstr).map (·.1):=by
 intro i
 induction i with
|zero=>intro _;rfl
|succ i ih =>
  intro hi
  have hx:q.code[i]?=some q.code[i]:=List.getElem?_eq_getElem (by omega)
  rw[placedCode,hx,List.map_append,ih (by omega),List.take_succ_eq_append_getElem (by omega),List.flatMap_append,List.map_append,vals_instr h hq (List.getElem_mem ..)]
  simp
theorem vals_block {f:FuncM} (h:(lookM f).1=0) {q:BlockM} (hq:q∈f.blocks) (b:Nat):(placedBlock b q).map (·.1)=(valuesBlock q).map (·.1):=by
 unfold placedBlock valuesBlock
 rw[List.map_append,List.map_append,vals_code h hq b _ (Nat.le_refl _),List.take_length]
 congr 1
 unfold placedPhis
 rw[List.map_map,List.map_map]
 rfl
theorem vals_blocks {f:FuncM} (h:(lookM f).1=0):∀ b,b≤f.blocks.length→(placedBlocks f.blocks b).map (·.1)=((f.blocks.take b).flatMap valuesBlock).map (·.1):=by
 intro b
 induction b with
|zero=>intro _;rfl
|succ b ih =>
  intro hb
  have hx:f.blocks[b]?=some f.blocks[b]:=List.getElem?_eq_getElem (by omega)
  rw[placedBlocks,hx,List.map_append,ih (by omega),List.take_succ_eq_append_getElem (by omega),List.flatMap_append,List.map_append,vals_block h (List.getElem_mem ..)]
  simp
theorem vals_params (l:List Int):(placedParams l.length).map (·.1)=(paramDefs 0 l).map (·.1):=by
 have h1:∀ n,(placedParams n).map (·.1)=(List.range n).map fun(k:Nat)=>(k:Int):=by
  intro n
  induction n with
 |zero=>rfl
 |succ n ih=>rw[placedParams,List.map_append,ih,List.range_succ,List.map_append];rfl
 have h2:∀ (l:List Int) (j:Nat),(paramDefs j l).map (·.1)=(List.range l.length).map fun(k:Nat)=>((j+k:Nat):Int):=by
  intro l
  induction l with
 |nil=>intro j;rfl
 |cons a l ih =>
   intro j
   rw[paramDefs,List.map_cons,ih,List.length_cons,List.range_succ_eq_map,List.map_cons,List.map_map]
   congr 1
   apply List.map_congr_left
   intro k _
   simp only[Function.comp]
   omega
 rw[h1,h2]
 apply List.map_congr_left
 intro k _
 simp
theorem placed_ids {f:FuncM} (h:(lookM f).1=0):(placedM f).map (·.1)=(valuesM f).map (·.1):=by
 unfold placedM valuesM
 rw[List.map_append,List.map_append,vals_params,vals_blocks h _ (Nat.le_refl _),List.take_length]
theorem placed_nodup {f:FuncM} (h:(lookM f).1=0):((placedM f).map (·.1)).Nodup:=by
 rw[placed_ids h]
 have:=formed_nodup (look_formed h)
 rwa [formed_eq (look_formed h)]at this
theorem placedCode_mem {b:Nat} {xs:List InstrM} {d:Int×(Nat×Int)}:∀ i,d∈placedCode b xs i→d.2.1=b∧∃ (j:Nat) (x:InstrM),xs[j]?=some x∧j<i∧d.1=x.id∧d.2.2=(j:Int)∧0≤x.id:=by
 intro i
 induction i with
|zero=>intro h;cases h
|succ i ih =>
  intro h
  rw[placedCode]at h
  rcases List.mem_append.1 h with h|h
  ·obtain⟨h1,j,x,h2,h3,h4⟩:=ih h
   exact⟨h1,j,x,h2,by omega,h4⟩
  ·cases hx:xs[i]? with
  |none=>rw[hx]at h;cases h
  |some x =>
    rw[hx]at h
    simp only[placedInstr]at h
    split at h
    ·rename_i h0
     rw[List.mem_singleton]at h
     subst h
     exact⟨rfl,i,x,hx,by omega,rfl,rfl,h0⟩
    ·cases h
inductive MadeAt (f:FuncM) (id:Int):Nat→Int→Prop
|param (h0:0≤id) (h:id<f.params.length):MadeAt f id 0 (-1)
|phi {b:Nat} {q:BlockM} {p:PhiM} (hq:f.blocks[b]?=some q) (hp:p∈q.phis) (h:p.id=id):MadeAt f id b (-1)
|instr {b i:Nat} {q:BlockM} {x:InstrM} (hq:f.blocks[b]?=some q) (hx:q.code[i]?=some x) (h:x.id=id) (h0:0≤id):MadeAt f id b (i:Int)
theorem placedBlocks_mem {f:FuncM} {d:Int×(Nat×Int)}:∀ n,d∈placedBlocks f.blocks n→MadeAt f d.1 d.2.1 d.2.2:=by
 intro n
 induction n with
|zero=>intro h;cases h
|succ n ih =>
  intro h
  rw[placedBlocks]at h
  rcases List.mem_append.1 h with h|h
  ·exact ih h
  ·cases hq:f.blocks[n]? with
  |none=>rw[hq]at h;cases h
  |some q =>
    rw[hq]at h
    simp only[placedBlock]at h
    rcases List.mem_append.1 h with h|h
    ·unfold placedPhis at h
     obtain⟨p,hp,rfl⟩:=List.mem_map.1 h
     exact .phi hq hp rfl
    ·obtain⟨h1,j,x,hx,_,h2,h3,h4⟩:=placedCode_mem _ h
     rw[h1,h3]
     exact .instr hq hx h2.symm (by rw[h2];exact h4)
theorem placedM_mem {f:FuncM} {id:Int} {b:Nat} {a:Int} (h:(id,(b,a))∈placedM f):MadeAt f id b a:=by
 unfold placedM at h
 rcases List.mem_append.1 h with h|h
 ·have hp:∀ n,(id,(b,a))∈placedParams n→b=0∧a=-1∧0≤id∧id<n:=by
   intro n
   induction n with
  |zero=>intro h;cases h
  |succ n ih =>
    intro h
    rw[placedParams]at h
    rcases List.mem_append.1 h with h|h
    ·have:=ih h;omega
    ·rw[List.mem_singleton]at h
     injection h with h1 h2
     injection h2 with h2 h3
     omega
  obtain⟨rfl,rfl,h0,h1⟩:=hp _ h
  exact .param h0 h1
 ·exact placedBlocks_mem _ h
theorem last_made {f:FuncM} {id:Int} {m:Nat×Int} (h:(placedM f).last id=some m):MadeAt f id m.1 m.2:=by
 unfold Placed.last at h
 rw[Option.map_eq_some_iff]at h
 obtain⟨d,hd,rfl⟩:=h
 have h1:=List.mem_reverse.1 (List.mem_of_find?_eq_some hd)
 have h2:d.1=id:=by simpa using List.find?_some hd
 obtain⟨x,y,z⟩:=d
 simp only at h2
 subst h2
 exact placedM_mem h1
theorem made_lt {f:FuncM} (h0:0<f.blocks.length) {id:Int} {b:Nat} {a:Int} (h:MadeAt f id b a):b<f.blocks.length:=by
 cases h with
|param=>exact h0
|phi hq=>exact(List.getElem?_eq_some_iff.1 hq).1
|instr hq=>exact(List.getElem?_eq_some_iff.1 hq).1
theorem known_of {f:FuncM} (h:(lookM f).1=0) (hid:∀ u∈usesM f,I64 u.1) {u:Int×Int} (hu:u∈usesM f):Known f u.1:=by
 have hn:=(look_some_block h).1
 have hm:u.1∈(placedM f).map (·.1):=by
  rw[placed_ids h]
  exact look_used h u hu
 refine⟨hid u hu,?_⟩
 obtain⟨d,hd,he⟩:=List.mem_map.1 hm
 obtain⟨x,y,z⟩:=d
 simp only at he
 subst he
 have hl:(placedM f).last u.1=some (y,z):=by
  rw[Placed.last_first (placed_nodup h)]
  exact Placed.first_mem (placed_nodup h) hd
 exact⟨y,z,hl,made_lt hn (last_made hl)⟩
theorem uses_known {f:FuncM} (h:(lookM f).1=0) (hid:∀ u∈usesM f,I64 u.1):UsesKnown f:=by
 have hall:=(formed_all (look_formed h)).1
 refine⟨fun b q p i id hq hp hi=>?_,fun b q x id hq hx hi=>?_,fun b q hq ht=>?_⟩
 ·have hmq:=List.mem_of_getElem? hq
  have hl:=look_phi h q hmq p hp
  have hil:=(List.getElem?_eq_some_iff.1 hi).1
  obtain⟨k,hk⟩:∃ k,p.fr[i]?=some k:=⟨_,List.getElem?_eq_getElem (by omega)⟩
  have hon:=(hall q hmq).1 p hp
  unfold phiB at hon
  simp only[Bool.and_eq_true]at hon
  have hr:=(once_nodup _ _ hon.2.2).2.1 k (List.mem_of_getElem? hk)
  obtain⟨kn,rfl⟩:∃ kn:Nat,k=(kn:Int):=⟨k.toNat,by omega⟩
  obtain⟨j,hj⟩:=List.getElem?_of_mem hp
  exact⟨kn,f.blocks[kn]'(by omega),hk,List.getElem?_eq_getElem _,known_of h hid (each3.mem_phi hq hj hi)⟩
 ·obtain⟨j,hj⟩:=List.getElem?_of_mem hx
  obtain⟨m,hm⟩:=List.getElem?_of_mem hi
  have hf:=look_form h q (List.mem_of_getElem? hq) x hx
  have hml:=(List.getElem?_eq_some_iff.1 hm).1
  obtain⟨t,ht⟩:∃ t,(takesS x.op)[m]?=some t:=⟨_,List.getElem?_eq_getElem (by omega)⟩
  exact known_of h hid (each3.mem_instr hq hj hm ht)
 ·rcases ht with ht|ht
  ·exact known_of h hid (each3.mem_term (u:=(q.term.val,2)) hq (by unfold usesTerm;rw[if_pos ht];exact List.mem_singleton.2 rfl))
  ·exact known_of h hid (each3.mem_term (u:=(q.term.val,0)) hq (by unfold usesTerm;rw[if_neg (by omega),if_pos ht];exact List.mem_singleton.2 rfl))
def aheadP (bs:List BlockM) (o:List Nat) (m:Nat×Int) (ub:Nat) (ua:Int):Prop:=(m.1=ub∧m.2<ua)∨(m.1≠ub∧OverP bs o m.1 ub)
def okP (f:FuncM) (o:List Nat) (id:Int) (ub:Nat) (ua:Int):Prop:=∀ m,(placedM f).last id=some m→aheadP f.blocks o m ub ua
structure UsesP (f:FuncM) (o:List Nat) (b:Nat) (q:BlockM):Prop where
 phi:∀ p∈q.phis,∀ (i:Nat) (id:Int) (fr:Nat) (q':BlockM),p.vals[i]?=some id→p.fr[i]?=some (fr:Int)→f.blocks[fr]?=some q'→okP f o id fr q'.code.length
 arg:∀ (i:Nat) (x:InstrM),q.code[i]?=some x→∀ id∈x.args,okP f o id b i
 term:q.term.op=2∨q.term.op=3→okP f o q.term.val b q.code.length
def usesPR (f:FuncM) (o:List Nat) (b:Nat):Prop:=∀ q,f.blocks[b]?=some q→UsesP f o b q
def CheckIs (f:FuncM) (r:Int×Int):Prop :=
 ((lookM f).1≠0∧r=(0,(lookM f).1))∨((lookM f).1=0∧∃ o,OrderIs f.blocks o∧FaultIs f.blocks.length (·∈o) (phisR f) (usesPR f o) r)
theorem CheckIs.one {f:FuncM} {r s:Int×Int} (h:CheckIs f r) (k:CheckIs f s):r=s:=by
 rcases h with⟨h1,rfl⟩|⟨h1,o,ho,hf⟩
 ·rcases k with⟨_,rfl⟩|⟨k1,_⟩
  ·rfl
  ·exact absurd k1 h1
 ·rcases k with⟨k1,_⟩|⟨_,o',ho',kf⟩
  ·exact absurd h1 k1
  ·have:=ho.one ho'
   subst this
   exact hf.one (fun _ _=>Iff.rfl) (fun _ _=>Iff.rfl) (fun _ _ _=>Iff.rfl) kf
theorem okAt_iff {f:FuncM} {o:List Nat} {pl:Nat→Nat} {par:Nat→Option Nat} {F L:Nat→Int} (hn:0<f.blocks.length) (hO:Ord (succM f.blocks) o pl) (hD:Done (succM f.blocks) o pl par) (hN:Numbered o par F L) (hall:∀ b,b<f.blocks.length→b∈o)
  {id:Int} {ub:Nat} {ua:Int} (hub:ub<f.blocks.length):okAt f F L id ub ua↔okP f o id ub ua:=by
 unfold okAt okP
 refine forall_congr' fun m=>forall_congr' fun hm=>?_
 have hml:=made_lt hn (last_made hm)
 have hd:domB F L m.1 ub=true↔OverP f.blocks o m.1 ub:=by
  unfold domB
  rw[over_anc hO hD (hall ub hub),Bool.and_eq_true,decide_eq_true_iff,decide_eq_true_iff]
  exact hN.over m.1 (hall _ hml) ub (hall ub hub)
 unfold aheadB aheadP
 by_cases h:m.1=ub
 ·rw[if_pos h,decide_eq_true_iff]
  exact⟨fun k=>.inl ⟨h,k⟩,fun k=>k.elim (fun k=>k.2) (fun k=>absurd h k.1)⟩
 ·rw[if_neg h,hd]
  exact⟨fun k=>.inr ⟨h,k⟩,fun k=>k.elim (fun k=>absurd k.1 h) (fun k=>k.2)⟩
theorem usesR_iff {f:FuncM} {o:List Nat} {pl:Nat→Nat} {par:Nat→Option Nat} {F L:Nat→Int} (hn:0<f.blocks.length) (hO:Ord (succM f.blocks) o pl) (hD:Done (succM f.blocks) o pl par) (hN:Numbered o par F L) (hall:∀ b,b<f.blocks.length→b∈o)
  {b:Nat} (hb:b<f.blocks.length):usesR f F L b↔usesPR f o b:=by
 refine forall_congr' fun q=>forall_congr' fun hq=>?_
 have H:=@okAt_iff f o pl par F L hn hO hD hN hall
 constructor
 ·rintro⟨h1,h2,h3⟩
  exact⟨fun p hp i id fr q' a b c=>(H (List.getElem?_eq_some_iff.1 c).1).1 (h1 p hp i id fr q' a b c),fun i x a id c=>(H hb).1 (h2 i x a id c),fun a=>(H hb).1 (h3 a)⟩
 ·rintro⟨h1,h2,h3⟩
  exact⟨fun p hp i id fr q' a b c=>(H (List.getElem?_eq_some_iff.1 c).1).2 (h1 p hp i id fr q' a b c),fun i x a id c=>(H hb).2 (h2 i x a id c),fun a=>(H hb).2 (h3 a)⟩
theorem FaultIs.change {n:Nat} {R0 R1 R2 S2:Nat→Prop} (h2:(∀ b,b<n→R0 b)→∀ b,b<n→(R2 b↔S2 b)) {r:Int×Int} (h:FaultIs n R0 R1 R2 r):FaultIs n R0 R1 S2 r:=by
 rcases h with h|h|⟨a0,a1,b,⟨hb,hn,hl⟩,rfl⟩|⟨a0,a1,a2,rfl⟩
 ·exact .inl h
 ·exact .inr (.inl h)
 ·exact .inr (.inr (.inl ⟨a0,a1,b,⟨hb,fun h=>hn ((h2 a0 b hb).2 h),fun a ha=>(h2 a0 a (by omega)).1 (hl a ha)⟩,rfl⟩))
 ·exact .inr (.inr (.inr ⟨a0,a1,fun b hb=>(h2 a0 b hb).1 (a2 b hb),rfl⟩))
def CheckPost (f:FuncM) (w:World) (e:Ending) (w':World):Prop:=∃ x y:Int,e=.returned (.tuple #[.int .i64 x,.int .i64 y])∧CheckIs f (x,y)∧Below w.heap.size w w'
set_option maxRecDepth 100000 in
set_option maxHeartbeats 2000000 in
theorem sCheck_any (f:FuncM) (B:Nat) (pv bv:Value) (w:World) (hpv:Ints w B pv f.params) (hbv:BlocksR w B bv f.blocks) (hB:B≤w.heap.size) (hid:∀ u∈usesM f,I64 u.1) :
  Calls Tryz.prog 27 #[.agg #[pv,.int .i64 f.arrays,.int .i64 f.cells,bv]] w (CheckPost f w):=by
 have HP:=hideI hpv
 have HBL:=hideI hbv
 have HID:=hideI hid
 obtain⟨P,pc,rfl,_⟩:=hpv
 obtain⟨A,c,rfl,hbm,_⟩:=hbv
 have HB0:Hid (Below w.heap.size w (w.alloc (.cells #[.slice P f.params.length pc,.int .i64 f.arrays,.int .i64 f.cells,.slice A f.blocks.length c] 25))):=(Below.refl _ w).alloc (Nat.le_refl _) _
 have HF:=hideI (functionOf_any f B _ _ (w.alloc (.cells #[.slice P f.params.length pc,.int .i64 f.arrays,.int .i64 f.cells,.slice A f.blocks.length c] 25)) (HP.out.keeps (Keeps.of_below (HB0.out.mono hB))) (HBL.out.keeps (Keeps.of_below (HB0.out.mono hB))) (by simp;omega) HID.out)
 clear hid
 by_cases h0:(lookM f).1=0
 ·have H0:=hideI h0
  have hnb:=look_some_block h0
  have hn5:=hnb.2
  have hn0:=hnb.1
  clear h0 hnb
  go_enter Tryz.func27,Tryz.ntmps27
  go_wp2_with (first
  |(go_at_call 61;go_must (refine HF.out.mono ?_);rintro e w1 (⟨hbad,_⟩|⟨_,o,pl,par,capo,gF,gL,gp,M,F,L,rfl,hfs,hdone,hnum,hsf,hb1⟩);(exact absurd H0.out hbad);have HFS:=hideI hfs;have HDONE:=hideI hdone;have HNUM:=hideI hnum;have HSF:=hideI hsf;have HB1:=hideI (HB0.out.trans (hb1.mono (by simp)));clear hfs hdone hnum hsf hb1)
  |(go_at_call 62;go_must (refine(fault_any f o par w1.heap.size (.slice P f.params.length pc) (.slice A f.blocks.length c) gF gL gp M F L _ (HSF.out.kept ((Below.refl _ _).alloc (Nat.le_refl _) _)) (by simp) hn5 (uses_known H0.out HID.out) HNUM.out P _ _ rfl).mono ?_);rintro e w2 ⟨x,y,rfl,hfi,hb2⟩;have HFI:=hideI hfi;have HB2:=hideI ((HB1.out.alloc HB1.out.size _).trans (hb2.mono (by have:=HB1.out.size;simp;omega)));clear hfi hb2))
  go_ret2
  exact⟨x,y,rfl,.inr ⟨H0.out,o,HFS.out.order,HFI.out.change (fun hall b hb=>usesR_iff hn0 HFS.out.ord HDONE.out HNUM.out hall hb)⟩,HB2.out⟩
 ·have H0:=hideI h0
  have hb:((lookM f).1 != 0)=true:=by simpa using h0
  clear h0
  go_enter Tryz.func27,Tryz.ntmps27
  go_wp2_with (go_at_call 61;go_must (refine HF.out.mono ?_);rintro e w1 (⟨_,rfl,hb1⟩|⟨hbad,_⟩);rotate_left;(exact absurd hbad H0.out);have HB1:=hideI (HB0.out.trans (hb1.mono (by simp)));clear hb1)
  go_ret2
  exact⟨_,_,rfl,.inl ⟨H0.out,rfl⟩,HB1.out.alloc HB1.out.size _⟩
end Go.Proofs.YtaehbgppfahdeaaGreat

namespace Go.Proofs.YtaehbgppfahdeaaGreat
open Go.RowKit Go.Maps
def awakeF:FuncM:=⟨[],0,0,[⟨[],[⟨1,0,[],5⟩],⟨3,0,[],0⟩⟩]⟩
theorem awake_look:lookM awakeF=(0,[(0,1)]):=by decide
theorem awake_reads (w W:World) (h0:W.heap[w.heap.size]?=some (.cells #[.int .i64 1,.int .i64 0,.slice none 0 0,.int .i64 5] 68 (0,0)))
  (h1:W.heap[w.heap.size+1]?=some (.cells #[.slice none 0 0,.slice (some ⟨w.heap.size,0,none⟩) 1 1,.int .i64 3,.int .i64 0,.slice none 0 0,.int .i64 0] 62 (0,0))) :
  BlocksR W (w.heap.size+2) (.slice (some ⟨w.heap.size+1,0,none⟩) 1 1) awakeF.blocks:=by
 have c0:=row_cells h0 (rfl:W.heap[w.heap.size]?=W.heap[w.heap.size]?)
 have c1:=row_cells h1 (rfl:W.heap[w.heap.size+1]?=W.heap[w.heap.size+1]?)
 refine⟨_,_,rfl,by decide,fun k q hk=>?_⟩
 have hq:k=0∧q=⟨[],[⟨1,0,[],5⟩],⟨3,0,[],0⟩⟩:=by
  rcases k with _|k
  ·simp[awakeF]at hk
   exact⟨rfl,hk.symm⟩
  ·simp[awakeF]at hk
 obtain⟨rfl,rfl⟩:=hq
 refine⟨_,0,_,_,_,rfl,by omega,c1 _,c1 _,c1 _,c1 _,c1 _,c1 _,⟨none,0,rfl,by decide,fun k p hp=>by simp at hp⟩,⟨_,_,rfl,by decide,fun k x hx=>?_⟩,Ints.nil _ _,by unfold I64;decide,by unfold I64;decide,by unfold I64;decide⟩
 have hx':k=0∧x=⟨1,0,[],5⟩:=by
  rcases k with _|k
  ·simp at hx
   exact⟨rfl,hx.symm⟩
  ·simp at hx
 obtain⟨rfl,rfl⟩:=hx'
 exact⟨_,0,_,rfl,by omega,c0 _,c0 _,c0 _,c0 _,Ints.nil _ _,by unfold I64;decide,by unfold I64;decide,by unfold I64;decide⟩
end Go.Proofs.YtaehbgppfahdeaaGreat

namespace Go.Proofs.YtaehbgppfahdeaaGreat
open Go.RowKit Go.Maps
theorem awake_uses:∀ u∈usesM awakeF,I64 u.1:=by
 intro u hu
 simp[usesM,awakeF,usesBlock,usesInstr,usesTerm,takesS,shapeS]at hu
 subst hu
 unfold I64
 decide
def awakeMade (w:World):World:=(w.alloc (.cells #[.int .i64 1,.int .i64 0,.slice none 0 0,.int .i64 5] 68)).alloc (.cells #[.slice none 0 0,.slice (some ⟨w.heap.size,0,none⟩) 1 1,.int .i64 3,.int .i64 0,.slice none 0 0,.int .i64 0] 62)
theorem awakeMade_facts (w:World):BlocksR (awakeMade w) (w.heap.size+2) (.slice (some ⟨w.heap.size+1,0,none⟩) 1 1) awakeF.blocks∧(awakeMade w).heap.size=w.heap.size+2∧Below w.heap.size w (awakeMade w):=by
 have hsz:(awakeMade w).heap.size=w.heap.size+2:=by unfold awakeMade;simp
 have hBl:Below w.heap.size w (awakeMade w):=by unfold awakeMade;exact(((Below.refl _ w).alloc (Nat.le_refl _) _).alloc (by simp) _)
 have h0:(awakeMade w).heap[w.heap.size]?=some (.cells #[.int .i64 1,.int .i64 0,.slice none 0 0,.int .i64 5] 68 (0,0)):=by
  unfold awakeMade
  rw[Below.heap_alloc _ _ _ (by simp)]
  exact heap_alloc_new w _
 have h1:(awakeMade w).heap[w.heap.size+1]?=some (.cells #[.slice none 0 0,.slice (some ⟨w.heap.size,0,none⟩) 1 1,.int .i64 3,.int .i64 0,.slice none 0 0,.int .i64 0] 62 (0,0)):=by
  unfold awakeMade
  have:=heap_alloc_new (w.alloc (.cells #[.int .i64 1,.int .i64 0,.slice none 0 0,.int .i64 5] 68)) (.cells #[.slice none 0 0,.slice (some ⟨w.heap.size,0,none⟩) 1 1,.int .i64 3,.int .i64 0,.slice none 0 0,.int .i64 0] 62)
  simpa using this
 exact⟨awake_reads w _ h0 h1,hsz,hBl⟩
theorem awake_orderIs:OrderIs awakeF.blocks [0]:=by
 refine⟨[0],[],?_,rfl⟩
 have:succM awakeF.blocks 0=[]:=rfl
 rw[this]
 exact .nil _
end Go.Proofs.YtaehbgppfahdeaaGreat

namespace Go.Proofs.YtaehbgppfahdeaaGreat
open Go.RowKit Go.Maps
theorem awake_placed:placedM awakeF=[(0,(0,0))]:=by decide
theorem awake_checkIs:CheckIs awakeF (0,0):=by
 refine .inr ⟨congrArg Prod.fst awake_look,[0],awake_orderIs,.inr (.inr (.inr ⟨?_,?_,?_,rfl⟩))⟩
 ·intro b hb
  have:b=0:=by have:b<1:=hb;omega
  subst this
  simp
 ·intro b hb q hq
  have:b=0:=by have:b<1:=hb;omega
  subst this
  simp[awakeF]at hq
  subst hq
  rfl
 ·intro b hb q hq
  have:b=0:=by have:b<1:=hb;omega
  subst this
  simp[awakeF]at hq
  subst hq
  refine⟨fun p hp=>by simp at hp,fun i x hx=>?_,fun _=>?_⟩
  ·rcases i with _|i
   ·simp at hx
    subst hx
    intro id hid
    simp at hid
   ·simp at hx
  ·intro m hm
   rw[awake_placed]at hm
   have:m=(0,0):=by
    have h2:Placed.last [(0,(0,0))] 0=some (0,0):=by decide
    exact(Option.some.inj (h2.symm.trans hm)).symm
   subst this
   exact .inl ⟨rfl,by simp⟩
end Go.Proofs.YtaehbgppfahdeaaGreat

namespace Go.Proofs.YtaehbgppfahdeaaGreat
open Go.RowKit Go.Maps
def BackP (bs:List BlockM) (o:List Nat) (h p:Nat):Prop:=h∈succM bs p∧OverP bs o h p
inductive InL (bs:List BlockM) (o:List Nat) (h:Nat):Nat→Prop
|head:InL bs o h h
|latch {p:Nat} (k:BackP bs o h p):InL bs o h p
|step {b p:Nat} (k:InL bs o h b) (hne:b≠h) (e:b∈succM bs p):InL bs o h p
def AllIn (bs:List BlockM) (o:List Nat):Prop:=∀ b,b<bs.length→b∈o
theorem lsucc_lt {bs:List BlockM} {b p:Nat} (h:b∈succM bs p):p<bs.length:=by
 unfold succM at h
 cases e:bs[p]? with
|none=>rw[e]at h;cases h
|some q=>exact(List.getElem?_eq_some_iff.1 e).1
theorem reachW_back {bs:List BlockM} {x b p:Nat} (h:ReachW bs (x:Int) p) (e:b∈succM bs p) (hne:b≠x):ReachW bs (x:Int) b :=
 .step h e (by omega)
section
variable {bs:List BlockM} {o:List Nat} {h k b p:Nat}
theorem InL.over (hA:AllIn bs o) (hh:h∈o) (l:InL bs o h b):OverP bs o h b:=by
 induction l with
|head=>exact OverP.refl hh
|latch k=>exact k.2
|step l hne e ih =>
  refine⟨hh,hA _ (lsucc_lt e),fun hr=>ih.2.2 (reachW_back hr e hne)⟩
theorem OverP.antisymm {pl:Nat→Nat} {par:Nat→Option Nat} (hO:Ord (succM bs) o pl) (hD:Done (succM bs) o pl par) (h1:OverP bs o h k) (h2:OverP bs o k h):h=k :=
 hD.tree.antisymm ((over_anc hO hD h1.2.1).1 h1) ((over_anc hO hD h2.2.1).1 h2)
theorem OverP.lin {pl:Nat→Nat} {par:Nat→Option Nat} (hO:Ord (succM bs) o pl) (hD:Done (succM bs) o pl par) (h1:OverP bs o h b) (h2:OverP bs o k b):OverP bs o h k∨OverP bs o k h:=by
 rcases((over_anc hO hD h1.2.1).1 h1).lin ((over_anc hO hD h1.2.1).1 h2)with a|a
 ·exact .inl ((over_anc hO hD h2.1).2 a)
 ·exact .inr ((over_anc hO hD h1.1).2 a)
theorem InL.sub {pl:Nat→Nat} {par:Nat→Option Nat} (hO:Ord (succM bs) o pl) (hD:Done (succM bs) o pl par) (hA:AllIn bs o) (hh:h∈o) (hk:k∈o) (hne:h≠k) (l:InL bs o k h) (m:InL bs o h b):InL bs o k b:=by
 induction m with
|head=>exact l
|latch q=>exact .step l hne q.1
|@step b p m hb e ih =>
  by_cases hbk:b=k
  ·subst hbk
   exact absurd (OverP.antisymm hO hD (m.over hA hh) (l.over hA hk)) hne
  ·exact .step ih hbk e
theorem InL.meet {pl:Nat→Nat} {par:Nat→Option Nat} (hO:Ord (succM bs) o pl) (hD:Done (succM bs) o pl par) (_hA:AllIn bs o) (hh:h∈o) (hk:k∈o) (hne:h≠k) (hov:OverP bs o k h) (l:InL bs o k b) (hb:OverP bs o h b):InL bs o k h:=by
 by_cases hn:InL bs o k h
 ·exact hn
 ·exfalso
  have hreach:∀ x,ReachW bs (-1) x→InL bs o k x→ReachW bs (h:Int) x:=by
   intro x hx
   have hkr:ReachW bs (h:Int) k:=by
    by_cases c:ReachW bs (h:Int) k
    ·exact c
    ·exact absurd (OverP.antisymm hO hD ⟨hh,hk,c⟩ hov) hne
   induction hx with
  |start _ =>
    intro l0
    refine .start ?_
    intro e
    have e0:h=0:=by omega
    subst e0
    exact hn l0
  |@step x p _ e _ ih =>
    intro lx
    by_cases hxk:x=k
    ·subst hxk;exact hkr
    ·refine .step (ih (.step lx hxk e)) e ?_
     intro he
     have:x=h:=by omega
     subst this
     exact hn lx
  have hall:ReachW bs (-1) b:=by
   by_cases c:ReachW bs (-1) b
   ·exact c
   ·exfalso
    have h0:∀ (n x:Nat),pl x<n→x∈o→ReachW bs (-1) x:=by
     intro n
     induction n with
    |zero=>intro x hx;omega
    |succ n ih =>
      intro x hx hxo
      by_cases x0:x=0
      ·subst x0;exact .start (by omega)
      ·have hat:=hO.at hxo
       have hpos:0<pl x:=by
        rcases Nat.eq_zero_or_pos (pl x)with e|e
        ·exact absurd (hO.of_pl_zero hxo e) x0
        ·exact e
       obtain⟨j,y,hj,hy,hs⟩:=hO.ahead _ x hpos hat
       have hpy:=hO.place j y hy
       exact .step (ih y (by omega) (Ord.mem hy)) hs (by omega)
    exact c (h0 _ b (Nat.lt_succ_self _) hb.2.1)
  exact hb.2.2 (hreach b hall l)
end
structure LoopF (bs:List BlockM) (o:List Nat) (D L:Nat→Nat→Bool):Prop where
 dom:∀ a b,D a b=true↔OverP bs o a b
 inL:∀ h b,L h b=true↔InL bs o h b
theorem loopF_exists (bs:List BlockM) (o:List Nat):∃ D L,LoopF bs o D L:=by
 have hb:∀ p:Prop,∃ r:Bool,r=true↔p:=fun p=>by
  by_cases h:p
  ·exact⟨true,by simp[h]⟩
  ·exact⟨false,by simp[h]⟩
 exact⟨fun a b=>Classical.choose (hb (OverP bs o a b)),fun h b=>Classical.choose (hb (InL bs o h b)),fun a b=>Classical.choose_spec (hb (OverP bs o a b)),fun h b=>Classical.choose_spec (hb (InL bs o h b))⟩
def latchesM (bs:List BlockM) (D:Nat→Nat→Bool) (h:Nat):List Nat:=(predsTo bs bs.length h).filter (D h)
def blocksM (n:Nat) (L:Nat→Nat→Bool) (h:Nat):List Nat:=(List.range n).filter (L h)
def outB (bs:List BlockM) (L:Nat→Nat→Bool) (h t:Nat):Bool:=(List.range bs.length).any fun b=>L h b&&decide (t∈succM bs b)
def exitsM (bs:List BlockM) (L:Nat→Nat→Bool) (h:Nat):List Nat:=(List.range bs.length).filter fun t=>!L h t&&outB bs L h t
def headsM (bs:List BlockM) (D:Nat→Nat→Bool) (k:Nat):List Nat:=(List.range k).filter fun h=>!(latchesM bs D h).isEmpty
def lsizeM (n:Nat) (L:Nat→Nat→Bool) (h:Nat):Nat:=(blocksM n L h).length
def aroundM (n:Nat) (L:Nat→Nat→Bool) (hs:List Nat) (i:Nat):Nat→Int
|0=>-1
|k+1 =>
  let a:=aroundM n L hs i k
  if k≠i∧L (hs.getD k 0) (hs.getD i 0)=true∧(a=-1∨lsizeM n L (hs.getD k 0)<lsizeM n L (hs.getD a.toNat 0))then (k:Int)else a
def depthM (L:Nat→Nat→Bool) (hs:List Nat) (b:Nat):Nat:=(hs.filter fun h=>L h b).length
def oddB (bs:List BlockM) (D:Nat→Nat→Bool) (pl:Nat→Nat) (b:Nat):Bool:=(predsTo bs bs.length b).any fun p=>decide (pl b≤pl p)&&!D b p
def oddsM (bs:List BlockM) (D:Nat→Nat→Bool) (pl:Nat→Nat):List Nat:=(List.range bs.length).filter (oddB bs D pl)
theorem mem_predsTo {bs:List BlockM} {t p:Nat}:p∈predsTo bs bs.length t↔t∈succM bs p:=by
 unfold predsTo
 rw[List.mem_filter,List.mem_range,decide_eq_true_iff]
 exact⟨fun h=>h.2,fun h=>⟨lsucc_lt h,h⟩⟩
section
variable {bs:List BlockM} {o:List Nat} {D L:Nat→Nat→Bool} {h k b p:Nat}
theorem LoopF.mem_latches (F:LoopF bs o D L):p∈latchesM bs D h↔BackP bs o h p:=by
 unfold latchesM
 rw[List.mem_filter,mem_predsTo,F.dom]
 exact Iff.rfl
theorem LoopF.lt (F:LoopF bs o D L) (hh:h<bs.length) (hb:L h b=true):b<bs.length:=by
 cases (F.inL h b).1 hb with
|head=>exact hh
|latch k=>exact lsucc_lt k.1
|step _ _ e=>exact lsucc_lt e
theorem LoopF.mem_blocks (F:LoopF bs o D L) (hh:h<bs.length):b∈blocksM bs.length L h↔InL bs o h b:=by
 unfold blocksM
 rw[List.mem_filter,List.mem_range]
 exact⟨fun x=>(F.inL h b).1 x.2,fun x=>⟨F.lt hh ((F.inL h b).2 x),(F.inL h b).2 x⟩⟩
theorem mem_heads {n:Nat}:h∈headsM bs D n↔h<n∧latchesM bs D h≠[]:=by
 unfold headsM
 rw[List.mem_filter,List.mem_range]
 cases latchesM bs D h <;> simp
end
structure LoopOk (bs:List BlockM) (o:List Nat) (pl:Nat→Nat) (par:Nat→Option Nat) (D L:Nat→Nat→Bool):Prop where
 ord:Ord (succM bs) o pl
 done:Done (succM bs) o pl par
 all:AllIn bs o
 lt:∀ x∈o,x<bs.length
 n5:bs.length≤512
 fn:LoopF bs o D L
section
variable {bs:List BlockM} {o:List Nat} {pl:Nat→Nat} {par:Nat→Option Nat} {D L:Nat→Nat→Bool} {h k b p:Nat}
theorem LoopOk.sub (K:LoopOk bs o pl par D L) (hh:h<bs.length) (hk:k<bs.length) (hne:h≠k) (l:L k h=true) (hb:L h b=true):L k b=true :=
 (K.fn.inL k b).2 (InL.sub K.ord K.done K.all (K.all h hh) (K.all k hk) hne ((K.fn.inL k h).1 l) ((K.fn.inL h b).1 hb))
theorem LoopOk.meet (K:LoopOk bs o pl par D L) (hh:h<bs.length) (hk:k<bs.length) (hne:h≠k) (h1:L h b=true) (h2:L k b=true):L k h=true∨L h k=true:=by
 have a1:=((K.fn.inL h b).1 h1).over K.all (K.all h hh)
 have a2:=((K.fn.inL k b).1 h2).over K.all (K.all k hk)
 rcases OverP.lin K.ord K.done a2 a1 with e|e
 ·exact .inl ((K.fn.inL k h).2 (InL.meet K.ord K.done K.all (K.all h hh) (K.all k hk) hne e ((K.fn.inL k b).1 h2) a1))
 ·exact .inr ((K.fn.inL h k).2 (InL.meet K.ord K.done K.all (K.all k hk) (K.all h hh) (fun e=>hne e.symm) e ((K.fn.inL h b).1 h1) a2))
theorem LoopOk.both (K:LoopOk bs o pl par D L) (hh:h<bs.length) (hk:k<bs.length) (hne:h≠k) :
  ((blocksM bs.length L h).filter (L k)).length=0∨((blocksM bs.length L h).filter (L k)).length=lsizeM bs.length L h∨((blocksM bs.length L h).filter (L k)).length=lsizeM bs.length L k:=by
 by_cases hz:∃ b,b∈(blocksM bs.length L h).filter (L k)
 ·obtain⟨b,hb⟩:=hz
  rw[List.mem_filter]at hb
  have hb1:=(K.fn.inL h b).2 ((K.fn.mem_blocks hh).1 hb.1)
  rcases K.meet hh hk hne hb1 hb.2 with e|e
  ·right;left
   unfold lsizeM
   rw[List.filter_eq_self.2]
   intro x hx
   exact K.sub hh hk hne e ((K.fn.inL h x).2 ((K.fn.mem_blocks hh).1 hx))
  ·right;right
   unfold lsizeM blocksM
   rw[List.filter_filter]
   congr 1
   apply List.filter_congr
   intro x _
   cases hx:L k x with
  |false=>simp
  |true=>simp[K.sub hk hh (fun e=>hne e.symm) e hx]
 ·left
  rw[List.length_eq_zero_iff,List.eq_nil_iff_forall_not_mem]
  exact fun b hb=>hz ⟨b,hb⟩
theorem LoopOk.within (K:LoopOk bs o pl par D L) (hh:h<bs.length) (hk:k<bs.length) (hne:h≠k):(∀ b∈blocksM bs.length L h,b∈blocksM bs.length L k)↔L k h=true:=by
 constructor
 ·intro a
  exact(K.fn.inL k h).2 ((K.fn.mem_blocks hk).1 (a h ((K.fn.mem_blocks hh).2 .head)))
 ·intro l b hb
  rw[K.fn.mem_blocks hk,← K.fn.inL]
  exact K.sub hh hk hne l ((K.fn.inL h b).2 ((K.fn.mem_blocks hh).1 hb))
end
structure LWk (bs:List BlockM) (o:List Nat) (h:Nat) (S ws:List Nat):Prop where
 nodup:S.Nodup
 lt:∀ x∈S,x<bs.length
 head:h∈S
 sound:∀ x∈S,InL bs o h x
 ok:∀ x∈ws,InL bs o h x∧x<bs.length
 closed:∀ x∈S,x≠h→∀ p,x∈succM bs p→p∈S∨p∈ws
 lat:∀ p,BackP bs o h p→p∈S∨p∈ws
section
variable {bs:List BlockM} {o:List Nat} {h b:Nat} {S ws:List Nat}
theorem LWk.start {D L:Nat→Nat→Bool} (F:LoopF bs o D L) (hh:h<bs.length):LWk bs o h [h] (latchesM bs D h):=by
 refine⟨by simp,by simpa using hh,by simp,by simpa using InL.head,fun x hx=>?_,fun x hx hne=>?_,fun p hp=>.inr (F.mem_latches.2 hp)⟩
 ·have:=F.mem_latches.1 hx
  exact⟨.latch this,lsucc_lt this.1⟩
 ·rw[List.mem_singleton]at hx
  exact absurd hx hne
theorem LWk.skip (W:LWk bs o h S (ws++[b])) (hb:b∈S):LWk bs o h S ws:=by
 have key:∀ p,p∈S∨p∈ws++[b]→p∈S∨p∈ws:=by
  rintro p (h1|h1)
  ·exact .inl h1
  ·rcases List.mem_append.1 h1 with h2|h2
   ·exact .inr h2
   ·rw[List.mem_singleton]at h2
    subst h2
    exact .inl hb
 exact⟨W.nodup,W.lt,W.head,W.sound,fun x hx=>W.ok x (List.mem_append_left _ hx),fun x hx hne p hp=>key p (W.closed x hx hne p hp),fun p hp=>key p (W.lat p hp)⟩
theorem LWk.mark (W:LWk bs o h S (ws++[b])) (hb:b∉S):LWk bs o h (b::S) (ws++predsTo bs bs.length b):=by
 have hbo:=W.ok b (by simp)
 have hne:b≠h:=fun e=>hb (e ▸ W.head)
 have key:∀ p,p∈S∨p∈ws++[b]→p∈b::S∨p∈ws++predsTo bs bs.length b:=by
  rintro p (h1|h1)
  ·exact .inl (List.mem_cons_of_mem _ h1)
  ·rcases List.mem_append.1 h1 with h2|h2
   ·exact .inr (List.mem_append_left _ h2)
   ·rw[List.mem_singleton]at h2
    subst h2
    exact .inl (List.mem_cons_self ..)
 refine⟨List.nodup_cons.2 ⟨hb,W.nodup⟩,fun x hx=>?_,List.mem_cons_of_mem _ W.head,fun x hx=>?_,fun x hx=>?_,fun x hx hnx p hp=>?_,fun p hp=>key p (W.lat p hp)⟩
 ·rcases List.mem_cons.1 hx with rfl|hx
  ·exact hbo.2
  ·exact W.lt x hx
 ·rcases List.mem_cons.1 hx with rfl|hx
  ·exact hbo.1
  ·exact W.sound x hx
 ·rcases List.mem_append.1 hx with hx|hx
  ·exact W.ok x (List.mem_append_left _ hx)
  ·exact⟨.step hbo.1 hne (mem_predsTo.1 hx),predsTo_lt hx⟩
 ·rcases List.mem_cons.1 hx with rfl|hx
  ·exact .inr (List.mem_append_right _ (mem_predsTo.2 hp))
  ·exact key p (W.closed x hx hnx p hp)
theorem LWk.all (W:LWk bs o h S []) (x:Nat):x∈S↔InL bs o h x:=by
 refine⟨W.sound x,fun m=>?_⟩
 induction m with
|head=>exact W.head
|latch k=>exact(W.lat _ k).resolve_right (by simp)
|step _ hne e ih=>exact(W.closed _ ih hne _ e).resolve_right (by simp)
end
end Go.Proofs.YtaehbgppfahdeaaGreat

namespace Go.Proofs.YtaehbgppfahdeaaGreat
open Go.RowKit Go.Maps
def plcs (n:Nat) (o:List Nat) (pl:Nat→Nat):List Value:=(List.range n).map fun b=>.int .i64 (if b∈o then ((pl b:Nat):Int)else 0)
theorem plcs_none (n:Nat) (pl:Nat→Nat):plcs n [] pl=List.replicate n (.int .i64 0):=by
 unfold plcs
 apply List.ext_getElem?
 intro i
 by_cases hi:i<n
 ·rw[List.getElem?_map,List.getElem?_eq_getElem (by simpa using hi),List.getElem?_replicate,if_pos hi]
  simp
 ·rw[List.getElem?_eq_none (by simp;omega),List.getElem?_eq_none (by simp;omega)]
theorem plcs_set {n i x:Nat} {o:List Nat} {pl:Nat→Nat} (hx:o[i]?=some x) (hp:pl x=i):(plcs n (o.take i) pl).set x (.int .i64 (i:Int))=plcs n (o.take (i+1)) pl:=by
 unfold plcs
 apply List.ext_getElem?
 intro j
 by_cases hj:j<n
 ·by_cases e:x=j
  ·subst e
   rw[List.getElem?_set_self (by simpa using hj),List.getElem?_map,List.getElem?_eq_getElem (by simpa using hj)]
   have:x∈o.take (i+1):=by rw[List.take_add_one,hx];simp
   simp[this,hp]
  ·rw[List.getElem?_set_ne e,List.getElem?_map,List.getElem?_map,List.getElem?_eq_getElem (by simpa using hj)]
   have:j∈o.take (i+1)↔j∈o.take i:=by
    rw[List.take_add_one,hx]
    simp only[Option.toList_some,List.mem_append,List.mem_singleton]
    exact⟨fun h=>h.resolve_right (fun h2=>e h2.symm),.inl⟩
   simp[this]
 ·rw[List.getElem?_eq_none (by simp;omega),List.getElem?_eq_none (by simp;omega)]
theorem plcs_at {n b:Nat} {o:List Nat} {pl:Nat→Nat} (h:b<n) (ho:b∈o):(plcs n o pl)[b]?=some (.int .i64 ((pl b:Nat):Int)):=by
 unfold plcs
 rw[List.getElem?_map,List.getElem?_eq_getElem (by simpa using h)]
 simp[ho]
theorem plcs_any {n b:Nat} {o:List Nat} {pl:Nat→Nat} (h:b<n):(plcs n o pl)[b]?=some (.int .i64 (if b∈o then ((pl b:Nat):Int)else 0)):=by
 unfold plcs
 rw[List.getElem?_map,List.getElem?_eq_getElem (by simpa using h)]
 simp
structure LfAt (w:World) (lo:Nat) (bs:List BlockM) (o:List Nat) (pl:Nat→Nat) (par:Nat→Option Nat) (gp:Nat) (vs:List Value) (gi gl:Nat):Prop where
 preds:Lists w lo gp bs.length vs (predsAt bs bs.length bs.length 0)
 idoms:w.ownsRow lo 3 1 (.slice (some ⟨gi,0,none⟩) bs.length bs.length) bs.length (tops bs.length par)
 place:w.ownsRow lo 3 1 (.slice (some ⟨gl,0,none⟩) bs.length bs.length) bs.length (plcs bs.length o pl)
section
variable {w w':World} {lo lo':Nat} {bs:List BlockM} {o:List Nat} {pl:Nat→Nat} {par:Nat→Option Nat} {gp:Nat} {vs:List Value} {gi gl:Nat}
theorem LfAt.kept (h:LfAt w lo bs o pl par gp vs gi gl) (hb:Below w.heap.size w w'):LfAt w' lo bs o pl par gp vs gi gl :=
 ⟨h.preds.kept hb,own_kept_below h.idoms hb (fun k hk=>(h.idoms.lt k hk).2),own_kept_below h.place hb (fun k hk=>(h.place.lt k hk).2)⟩
theorem LfAt.mono (h:LfAt w lo bs o pl par gp vs gi gl) (hl:lo'≤lo):LfAt w lo' bs o pl par gp vs gi gl :=
 ⟨h.preds.mono hl,World.ownsRow.mono h.idoms hl,World.ownsRow.mono h.place hl⟩
theorem Lists.other {w:World} {base gb n:Nat} {ls:List (List Nat)} {j off:Nat} (h:Lists w base gb n vs ls) (hj:j<base) (u:Value):Lists (w.setCell ⟨j,off,none⟩ u) base gb n vs ls:=by
 have hl:=h.lt
 refine⟨h.vl,h.ll,ownsRow_setCell_other h.row (a:=⟨j,off,none⟩) (by intro e;cases e;omega) u,fun t v l hv hl2=>?_,h.apart⟩
 exact ownsRow_setCell_other (h.own t v l hv hl2) (a:=⟨j,off,none⟩) (by intro e;have:=((h.own t v l hv hl2).lt j e).1;omega) u
theorem LfAt.other {j off:Nat} (h:LfAt w lo bs o pl par gp vs gi gl) (hj:j<lo) (u:Value):LfAt (w.setCell ⟨j,off,none⟩ u) lo bs o pl par gp vs gi gl:=by
 have h1:=(h.idoms.lt gi rfl).1
 have h2:=(h.place.lt gl rfl).1
 exact⟨h.preds.other hj u,ownsRow_setCell_other h.idoms (a:=⟨j,off,none⟩) (by intro e;cases e;omega) u,ownsRow_setCell_other h.place (a:=⟨j,off,none⟩) (by intro e;cases e;omega) u⟩
theorem LfAt.top (h:LfAt w lo bs o pl par gp vs gi gl) {b:Nat} (hb:b<bs.length):w.cell? ⟨gi,b,none⟩=some (.int .i64 (topI (par b))):=by
 rw[World.ownsRow.cellAt h.idoms b (by omega)];exact tops_at hb
theorem LfAt.at (h:LfAt w lo bs o pl par gp vs gi gl) {b:Nat} (hb:b<bs.length) (ho:b∈o):w.cell? ⟨gl,b,none⟩=some (.int .i64 ((pl b:Nat):Int)):=by
 rw[World.ownsRow.cellAt h.place b (by omega)];exact plcs_at hb ho
theorem LfAt.list (h:LfAt w lo bs o pl par gp vs gi gl) {b:Nat} (hb:b<bs.length):∃ v,w.cell? ⟨gp,b,none⟩=some v∧w.ownsRow lo 3 1 v (predsTo bs bs.length b).length (natInts (predsTo bs bs.length b)):=by
 obtain⟨v,hv⟩:∃ v,vs[b]?=some v:=⟨_,List.getElem?_eq_getElem (by rw[h.preds.vl];exact hb)⟩
 have hl:(predsAt bs bs.length bs.length 0)[b]?=some (predsTo bs bs.length b):=by rw[predsAt_at hb];simp
 exact⟨v,by rw[World.ownsRow.cellAt h.preds.row b (by omega)];exact hv,World.ownsRow.mono (h.preds.own b v _ hv hl) (by have:=h.preds.lt;omega)⟩
theorem LfAt.lt (h:LfAt w lo bs o pl par gp vs gi gl):(lo≤gp∧gp<w.heap.size)∧(lo≤gi∧gi<w.heap.size)∧(lo≤gl∧gl<w.heap.size):=⟨h.preds.lt,h.idoms.lt gi rfl,h.place.lt gl rfl⟩
end
end Go.Proofs.YtaehbgppfahdeaaGreat

namespace Go.Proofs.YtaehbgppfahdeaaGreat
open Go.RowKit Go.Maps
theorem dom_up {bs:List BlockM} {o:List Nat} {pl:Nat→Nat} {par:Nat→Option Nat} {D L:Nat→Nat→Bool} (K:LoopOk bs o pl par D L) {a b c:Nat} (_ha:a<bs.length) (hb:b<bs.length) (h1:Anc par c b) (h2:Anc par a b↔Anc par a c) (h3:¬ pl a<pl c):D a b=((a:Int)==(c:Int)):=by
 have hbo:=K.all b hb
 have hco:c∈o:=K.done.tree.anc_mem K.ord h1 (K.done.grown b hbo)
 have key:D a b=true↔a=c:=by
  rw[K.fn.dom,over_anc K.ord K.done hbo,h2]
  constructor
  ·intro h
   rcases K.done.tree.anc_pl h with e|⟨e,_⟩
   ·exact e
   ·exact absurd e h3
  ·rintro rfl;exact .refl
 cases hd:D a b with
|true=>have:=key.1 hd;subst this;simp
|false =>
  symm
  rw[beq_eq_false_iff_ne]
  intro e
  have:=key.2 (by omega)
  rw[hd]at this
  cases this
set_option maxRecDepth 100000 in
set_option maxHeartbeats 2000000 in
theorem lDom_any (bs:List BlockM) (o:List Nat) (pl:Nat→Nat) (par:Nat→Option Nat) (D L:Nat→Nat→Bool) (lo gp gi gl a b:Nat) (vs:List Value) (p0 p1 p2 p3:Value) (w:World) (K:LoopOk bs o pl par D L) (H:LfAt w lo bs o pl par gp vs gi gl) (ha:a<bs.length) (hb:b<bs.length) :
  Calls Tryz.prog 233 #[.agg #[p0,p1,p2,p3,.slice (some ⟨gp,0,none⟩) bs.length bs.length,.slice (some ⟨gi,0,none⟩) bs.length bs.length,.slice (some ⟨gl,0,none⟩) bs.length bs.length],.int .i64 a,.int .i64 b] w fun e w'=>e=.returned (.bool (D a b))∧Below w.heap.size w w':=by
 have HK:=hideI K
 obtain⟨W,hW⟩:∃ W:World,W=w.alloc (.cells #[p0,p1,p2,p3,.slice (some ⟨gp,0,none⟩) bs.length bs.length,.slice (some ⟨gi,0,none⟩) bs.length bs.length,.slice (some ⟨gl,0,none⟩) bs.length bs.length] 246):=⟨_,rfl⟩
 have HBW:Hid (Below w.heap.size w W):=by show Below _ _ _;rw[hW];exact(Below.refl _ _).alloc (Nat.le_refl _) _
 have HXW:Hid (W.heap[w.heap.size]?=some (.cells #[p0,p1,p2,p3,.slice (some ⟨gp,0,none⟩) bs.length bs.length,.slice (some ⟨gi,0,none⟩) bs.length bs.length,.slice (some ⟨gl,0,none⟩) bs.length bs.length] 246 (0,0))):=by show _=_;rw[hW];exact heap_alloc_new w _
 have HLW:=hideI (H.kept HBW.out)
 have HW0:=hideI hW
 have hx:=row_cells HXW.out rfl
 have q5:=hx 5
 have q6:=hx 6
 have ca:=HLW.out.at ha (K.all a ha)
 obtain⟨pa,hpa⟩:∃ pa,pa=pl a:=⟨_,rfl⟩
 rw[← hpa]at ca
 have HPA:=hideI hpa
 clear K H hW hx hpa
 go_enter Tryz.func233,Tryz.ntmps233
 go_upto_region 1 with fail
 rw[← HW0.out]
 go_loopw [2] (fun u wr=>∃ c m:Nat,u=.int .i64 c∧Hid (Anc par c b∧(Anc par a b↔Anc par a c))∧wr=W.drewN m) (fun u _=>pl (intOf u).toNat)
 case atStart=>exact⟨b,0,rfl,hideI ⟨.refl,Iff.rfl⟩,rfl⟩
 case round =>
  obtain⟨c,m,rfl,HC,rfl⟩:=hrel
  have hco:c∈o:=HK.out.done.tree.anc_mem HK.out.ord HC.out.1 (HK.out.done.grown b (HK.out.all b hb))
  have hcl:=HK.out.lt c hco
  have cc:=HLW.out.at hcl hco
  have ct:=HLW.out.top hcl
  obtain⟨pc,hpc⟩:∃ pc,pc=pl c:=⟨_,rfl⟩
  rw[← hpc]at cc
  by_cases hlt:pa<pc
  ·obtain⟨d,hd⟩:∃ d,par c=some d:=by
    rcases HK.out.done.grown c hco with e|e
    ·subst e
     rw[HK.out.ord.pl_zero]at hpc
     omega
    ·exact e
   rw[hd]at ct
   simp only[topI]at ct
   have HD:=hideI hd
   have HPC:=hideI hpc
   clear hd hpc hco
   go_wp2_with fail
   go_quiet (fail)
   go_wp2
   go_roundw
   case rel =>
    refine⟨d,_,rfl,hideI ⟨(Anc.up HD.out .refl:Anc par d c).trans HC.out.1,HC.out.2.trans ⟨fun h=>?_,fun h=>.up HD.out h⟩⟩,rfl⟩
    rcases h.step HD.out with e|e
    ·subst e
     have:=HPA.out
     have:=HPC.out
     omega
    ·exact e
   case measure =>
    have h1:=(HK.out.done.tree.up c d HD.out).2.2.1
    simpa [intOf] using h1
  ·have HR:=hideI (dom_up HK.out ha hb HC.out.1 HC.out.2 (by rw[← HPA.out,← hpc];exact hlt))
   clear hpc hco ct
   go_wp2_with fail
   go_quiet (fail)
   go_wp2
   go_ret
   exact⟨by rw[HR.out];rfl,drew_below HBW.out _⟩
end Go.Proofs.YtaehbgppfahdeaaGreat

namespace Go.Proofs.YtaehbgppfahdeaaGreat
open Go.RowKit Go.Maps
def RowPost (l:List Nat) (w:World) (e:Ending) (w':World):Prop :=
 ∃ v,e=.returned v∧w'.ownsRow w.heap.size 3 1 v l.length (natInts l)∧Below w.heap.size w w'
theorem filter_skip {P:Nat→Bool} {l:List Nat} {i p:Nat} (hp:l[i]?=some p) (h:P p=false):(l.take (i+1)).filter P=(l.take i).filter P:=by
 rw[List.take_add_one,hp,List.filter_append]
 simp[h]
theorem filter_more {P:Nat→Bool} {l:List Nat} {i p:Nat} (hp:l[i]?=some p) (h:P p=true):(l.take (i+1)).filter P=(l.take i).filter P++[p]:=by
 rw[List.take_add_one,hp,List.filter_append]
 simp[h]
theorem filter_len {P:Nat→Bool} {l:List Nat} {i:Nat}:((l.take i).filter P).length≤l.length:=by
 have h1:=List.length_filter_le P (l.take i)
 have h2:=List.length_take_le i l
 have h3:(l.take i).length≤l.length:=by rw[List.length_take];omega
 omega
theorem natInts_snoc (l:List Nat) (x:Nat):natInts (l++[x])=natInts l++[.int .i64 (x:Int)]:=by
 unfold natInts
 rw[List.map_append]
 rfl
set_option maxRecDepth 100000 in
set_option maxHeartbeats 2000000 in
theorem lLatch_any (bs:List BlockM) (o:List Nat) (pl:Nat→Nat) (par:Nat→Option Nat) (D L:Nat→Nat→Bool) (lo gp gi gl h:Nat) (vs:List Value) (p0 p1 p2 p3:Value) (w:World) (K:LoopOk bs o pl par D L) (H:LfAt w lo bs o pl par gp vs gi gl) (hh:h<bs.length) :
  Calls Tryz.prog 210 #[.agg #[p0,p1,p2,p3,.slice (some ⟨gp,0,none⟩) bs.length bs.length,.slice (some ⟨gi,0,none⟩) bs.length bs.length,.slice (some ⟨gl,0,none⟩) bs.length bs.length],.int .i64 h] w (RowPost (latchesM bs D h) w):=by
 have HK:=hideI K
 have hn5:=K.n5
 obtain⟨W,hW⟩:∃ W:World,W=w.alloc (.cells #[p0,p1,p2,p3,.slice (some ⟨gp,0,none⟩) bs.length bs.length,.slice (some ⟨gi,0,none⟩) bs.length bs.length,.slice (some ⟨gl,0,none⟩) bs.length bs.length] 246):=⟨_,rfl⟩
 have HBW:Hid (Below w.heap.size w W):=by show Below _ _ _;rw[hW];exact(Below.refl _ _).alloc (Nat.le_refl _) _
 have HXW:Hid (W.heap[w.heap.size]?=some (.cells #[p0,p1,p2,p3,.slice (some ⟨gp,0,none⟩) bs.length bs.length,.slice (some ⟨gi,0,none⟩) bs.length bs.length,.slice (some ⟨gl,0,none⟩) bs.length bs.length] 246 (0,0))):=by show _=_;rw[hW];exact heap_alloc_new w _
 have hwW:w.heap.size<W.heap.size:=lt_of_heap HXW.out
 have HLW:=hideI (H.kept HBW.out)
 have HW0:=hideI hW
 obtain⟨v,hc0,hown⟩:=HLW.out.list hh
 obtain⟨l,hl⟩:∃ l,l=predsTo bs bs.length h:=⟨_,rfl⟩
 have HL:Hid (latchesM bs D h=l.filter (D h)):=by show _=_;rw[hl];rfl
 have HLB:Hid (∀ x∈l,x<bs.length):=fun x hx=>by rw[hl]at hx;exact predsTo_lt hx
 rw[← hl]at hown
 have hll:l.length≤512:=by rw[hl];exact Nat.le_trans (predsTo_len _ _ _) hn5
 obtain⟨PA,pc2,e1,_,hpx⟩:=nat_ints hown (by omega)
 rw[List.length_map]at e1 hpx
 subst e1
 have HPX:=hideI hpx
 obtain⟨i1,hjx,hy0,hy1,hy2⟩:=info_parts int_info
 have hx:=row_cells HXW.out rfl
 have q4:=hx 4
 clear K H hW hx hown hl hpx
 go_enter Tryz.func210,Tryz.ntmps210
 go_upto_region 1 with fail
 rw[← HW0.out]
 go_wp2
 clear q4 hc0
 go_loopw [5,14] (fun vo u wr=>∃ (i:Nat) (v:Value),v=vo∧i≤l.length∧u=.int .i64 i∧Hid (wr.ownsRow W.heap.size 3 1 v ((l.take i).filter (D h)).length (natInts ((l.take i).filter (D h))))∧Hid (Below W.heap.size W wr)) (fun _ u _=>l.length - (intOf u).toNat)
 case atStart=>exact⟨0,_,rfl,Nat.zero_le _,rfl,hideI (World.ownsRow_nil _ _ _ _),hideI (Below.refl _ _)⟩
 case round =>
  obtain⟨i,v,rfl,hi,rfl,HO,HBr⟩:=hrel
  by_cases hlt:i<l.length
  ·obtain⟨p,hp⟩:∃ p,l[i]?=some p:=⟨_,List.getElem?_eq_getElem hlt⟩
   have hpl:=HLB.out p (List.mem_of_getElem? hp)
   obtain⟨pb,po,rfl,hpb,d0⟩:=HPX.out i hlt
   rw[List.getElem?_map,hp]at d0
   simp only[Option.map_some,Option.getD_some]at d0
   have d1:=(HBr.out.cell (p:=⟨pb,po+i,none⟩) hpb).trans d0
   have hx:=row_cells HXW.out (HBr.out.block _ hwW)
   have q0:=hx 0
   have q1:=hx 1
   have q2:=hx 2
   have q3:=hx 3
   have q4:=hx 4
   have q5:=hx 5
   have q6:=hx 6
   have HDM:=hideI (lDom_any bs o pl par D L lo gp gi gl h p vs p0 p1 p2 p3 wr HK.out (HLW.out.kept HBr.out) hh hpl)
   have HP:=hideI hp
   obtain⟨m,hm⟩:∃ m,m=((l.take i).filter (D h)).length:=⟨_,rfl⟩
   obtain⟨xs,hxs⟩:∃ xs,xs=(l.take i).filter (D h):=⟨_,rfl⟩
   have hml:m≤512:=by rw[hm];exact Nat.le_trans filter_len hll
   have HXS:=hideI hxs
   have HM:=hideI hm
   cases hr:D h p with
  |false =>
    have HS:Hid ((l.take (i+1)).filter (D h)=(l.take i).filter (D h)):=filter_skip hp hr
    rw[hr]at HDM
    clear hx hp d0 hr hxs hm
    go_wp2_with (go_at_call 233;go_must (refine HDM.out.mono ?_);rintro e w2 ⟨rfl,hb2⟩;have HO2:=hideI (own_kept_below HO.out hb2 (fun k hk=>(HO.out.lt k hk).2));have HB2:=hideI (HBr.out.trans (hb2.mono HBr.out.size));clear hb2 q0 q1 q2 q3 q4 q5 q6 d1)
    go_roundw
    case rel=>exact⟨i+1,_,rfl,by omega,by go_num,by rw[HS.out];exact HO2,HB2⟩
    case measure=>simp[intOf];omega
  |true =>
    have HS:Hid ((l.take (i+1)).filter (D h)=xs++[p]):=by show _=_;rw[hxs];exact filter_more hp hr
    rw[← hxs]at HO hm
    have hmx:xs.length=m:=hm.symm
    have H63:Hid (xs.length+1≤maxLen):=by show _≤_;simp only[maxLen];omega
    have HBY:Hid ((xs.length+1)*8≤140737488355328):=by show _≤_;omega
    have HMX:=hideI hmx
    rw[hr]at HDM
    clear hx hp d0 hr hxs hm hmx
    go_wp2_with (first
    |(go_at_call 233;go_must (refine HDM.out.mono ?_);rintro e w2 ⟨rfl,hb2⟩;have HO2:=hideI (own_kept_below HO.out hb2 (fun k hk=>(HO.out.lt k hk).2));have HB2:=hideI (HBr.out.trans (hb2.mono HBr.out.size));have HBS:Hid (W.heap.size≤w2.heap.size):=HB2.out.size;clear hb2 q0 q1 q2 q3 q4 q5 q6 d1)
    |(at_builtin;go_must (refine wpList_append_lies _ rfl _ _ _ rfl W.heap.size 3 i1 (.int .i64 0) 1 8 Tryz.underlying22 hjx hy0 hy1 hy2 rfl (by decide) _ _ _ rfl (HO2.out.alloc _) ⟨w2.heap.size,0,none⟩ 1 1 [.int .i64 p] rfl rfl (one_new w2 _) (by simp[Value.oneCell']) (by decide) H63.out HBY.out (by simp;exact Nat.le_succ_of_le HBS.out) _ rfl ?_);intro g1 cap1 w3 hown1 hgrow1 hor1 _;go_must (have HO3:=hideI hown1;have HB3:Hid (Below W.heap.size W w3):=(HB2.out.alloc HB2.out.size _).grown hgrow1 (by simp;exact Nat.le_succ_of_le HBS.out) (fun k hk=>(HO2.out.lt k hk).1);clear hown1 hgrow1 hor1)))
    go_roundw
    case rel=>exact⟨i+1,_,rfl,by omega,by go_num,by rw[HS.out,List.length_append,natInts_snoc];exact HO3,HB3⟩
    case measure=>simp[intOf];omega
  ·have HE:Hid ((l.take i).filter (D h)=latchesM bs D h):=by show _=_;rw[HL.out,List.take_of_length_le (by omega)]
   rw[HE.out]at HO
   go_wp2
   go_ret
   exact⟨_,rfl,World.ownsRow.mono HO.out (Nat.le_of_lt hwW),HBW.out.trans (HBr.out.mono (Nat.le_of_lt hwW))⟩
end Go.Proofs.YtaehbgppfahdeaaGreat

namespace Go.Proofs.YtaehbgppfahdeaaGreat
open Go.RowKit Go.Maps
theorem append_types {t u ty e e':TypeId} (ht:Tryz.prog.underlying t=some (.slice e)) (hu:Tryz.prog.underlying u=some (.slice e')) (args:Array Value) (w:World):(Builtin.append_ #[t,u] ty args).run Tryz.prog w=(Builtin.append_ #[t,t] ty args).run Tryz.prog w:=by
 unfold Builtin.append_
 cases args[0]? with
|none=>simp
|some s =>
  cases args[1]? with
 |none=>simp
 |some x =>
   cases s <;> simp[Sem.run_bind,run_underlying ht,run_underlying hu]
theorem lapp_none (w:World) (v:Value) (n c0 c ty:Nat) (A:Option Addr) (hv:v=.slice A n c0) (hn:n≤c0):(Builtin.append_ #[306,22] ty #[v,.slice none 0 c]).run Tryz.prog w=.ok v w:=by
 have hpure:Sem.run Tryz.prog (pure (#[]:Array Value)) w=.ok #[] w:=rfl
 subst hv
 cases A with
|none=>go_simp
|some a=>go_simp
set_option maxRecDepth 100000 in
theorem lapp_any {w:World} {base B n:Nat} {v s:Value} {ws xs:List Nat} (ty:TypeId) (hown:w.ownsRow base 3 1 v n (natInts ws)) (hn:n=ws.length) (hi:Ints w B s (xs.map fun(x:Nat)=>(x:Int))) (hle:ws.length+xs.length≤4000000) (hbase:base≤w.heap.size) :
  ∃ A c w',(Builtin.append_ #[306,22] ty #[v,s]).run Tryz.prog w=.ok (.slice A (ws.length+xs.length) c) w'∧w'.ownsRow base 3 1 (.slice A (ws.length+xs.length) c) (ws.length+xs.length) (natInts (ws++xs))∧w.grownBy w' v.ownBlock:=by
 subst hn
 obtain⟨A,c,rfl,_,hat⟩:=hi
 rw[List.length_map]at hat ⊢
 cases A with
|none =>
  have h0:xs=[]:=by
   cases xs with
  |nil=>rfl
  |cons x r =>
    obtain⟨_,_,e,_⟩:=hat 0 (by simp)
    cases e
  subst h0
  have hform:∃ A c0,v=.slice A ws.length c0∧ws.length≤c0:=by
   rcases hown.2 with⟨e,e0⟩|⟨g,cap,cur,e,_,_,h,_⟩
   ·exact⟨none,0,by rw[e,e0],by omega⟩
   ·exact⟨_,_,e,h⟩
  obtain⟨A,c0,hv,hc⟩:=hform
  refine⟨A,c0,w,?_,?_,World.grownBy.refl w _⟩
  ·rw[List.length_nil,Nat.add_zero,← hv]
   exact lapp_none w v ws.length c0 c ty A hv hc
  ·rw[List.length_nil,Nat.add_zero,List.append_nil,← hv]
   exact hown
|some ad =>
  obtain⟨i0,hix,hz0,hz1,hz2⟩:=info_parts int_info
  have hnews:∀ j u,(natInts xs)[j]?=some u→w.cell? (ad.add j)=some u:=fun j u hj=>by
   unfold natInts at hj
   rw[List.getElem?_map]at hj
   cases hx:xs[j]? with
  |none=>rw[hx]at hj;cases hj
  |some y =>
    rw[hx]at hj
    injection hj with hj
    obtain⟨b,off,e,_,hc⟩:=hat j (List.getElem?_eq_some_iff.1 hx).1
    injection e with e
    subst e
    rw[Go.WideShapes.add_plain,hc,List.getElem?_map,hx,← hj]
    rfl
  rw[append_types Tryz.underlying306 Tryz.underlying22]
  obtain⟨v',w',hr,h2,h3,_,_⟩:=run_append_own_at (P:=Tryz.prog) w base 306 ty 3 i0 _ 1 8 Tryz.underlying306 hix hz0 hz1 hz2 rfl (by decide) _ ws.length (natInts ws) hown ad xs.length c (natInts xs) (by simp[natInts]) hnews (fun u hu=>by
   obtain⟨y,_,rfl⟩:=List.mem_map.1 hu
   rfl) (by unfold maxLen;omega) (by omega) hbase
  obtain⟨A',c',rfl⟩:∃ A' c',v'=.slice A' (ws.length+xs.length) c':=by
   rcases h2.2 with⟨e,e0⟩|⟨g2,cap,cur,e,_⟩
   ·exact⟨none,0,by rw[e,e0]⟩
   ·exact⟨_,_,e⟩
  refine⟨A',c',w',hr,?_,h3⟩
  unfold natInts at h2 ⊢
  rw[List.map_append]
  exact h2
theorem wpList_lapp {ops:Array Oper} {rest:List Oper} {o:Oper} {a:Act} {Q:Exit→Act→World→Prop} {w:World} (hgd:o.guard=none) (s x:Operand) (ho:o.op=.call { callee:=.builtin .append,args:=#[s,x],argTypes:=#[306,22] })
  (vs vx:Value) (hs:a.eval s=vs) (hx:a.eval x=vx) {base B n:Nat} {ws xs:List Nat} (hown:w.ownsRow base 3 1 vs n (natInts ws)) (hn:n=ws.length) (hi:Ints w B vx (xs.map fun(x:Nat)=>(x:Int))) (hle:ws.length+xs.length≤4000000) (hbase:base≤w.heap.size)
  (h:∀ A c w',w'.ownsRow base 3 1 (.slice A (ws.length+xs.length) c) (ws.length+xs.length) (natInts (ws++xs))→w.grownBy w' vs.ownBlock→wpList Tryz.prog ops Q rest (a.put o.dst (.slice A (ws.length+xs.length) c)) w'):wpList Tryz.prog ops Q (o::rest) a w :=
 wpList_plain hgd fun _ hK=>by
  obtain⟨A,c,w',hr,h1,h2⟩:=lapp_any o.type hown hn hi hle hbase
  unfold Oper.wp execOp
  simp only[ho,resolve,invoke,builtin,Sem.run_bind,Sem.run_pure,Result.andThen_ok,List.map_toArray,List.map_cons,List.map_nil,hs,hx,hr]
  exact hK _ _ (h A c w' h1 h2)
def PendAt (w:World) (gk:Nat) (ws:List Nat):Prop :=
 ∃ v,w.heap[gk]?=some (.cells #[v] 306 (0,0))∧w.ownsRow (gk+1) 3 1 v ws.length (natInts ws)
theorem PendAt.lt {w:World} {gk:Nat} {ws:List Nat} (h:PendAt w gk ws):gk<w.heap.size:=by
 obtain⟨v,h1,_⟩:=h
 exact(Array.getElem?_eq_some_iff.1 h1).1
theorem PendAt.other {w:World} {gk j off:Nat} {ws:List Nat} (h:PendAt w gk ws) (hj:j<gk) (u:Value):PendAt (w.setCell ⟨j,off,none⟩ u) gk ws:=by
 obtain⟨v,h1,h2⟩:=h
 refine⟨v,?_,ownsRow_setCell_other h2 (a:=⟨j,off,none⟩) (by intro e;have:=(h2.lt j e).1;omega) u⟩
 rw[← h1]
 exact heap_setCell_other w ⟨j,off,none⟩ gk u (by show gk≠j;omega)
theorem PendAt.put {w:World} {gk n:Nat} {v0 v:Value} {ws:List Nat} (hg:w.heap[gk]?=some (.cells #[v0] 306 (0,0))) (ho:w.ownsRow (gk+1) 3 1 v n (natInts ws)) (hn:n=ws.length):PendAt (w.setCell ⟨gk,0,none⟩ v) gk ws:=by
 subst hn
 refine⟨v,?_,ownsRow_setCell_other ho (a:=⟨gk,0,none⟩) (by intro e;have:=(ho.lt gk e).1;omega) v⟩
 rw[heap_setCell_same _ gk 0 _ _ v hg]
 rfl
theorem own_init {w:World} {base cap g n x:Nat} {ws:List Nat} (h:w.ownsRow base 3 1 (.slice (some ⟨g,0,none⟩) (n+1) cap) (n+1) (natInts (ws++[x]))) (hn:n=ws.length):w.ownsRow base 3 1 (.slice (some ⟨g,0,none⟩) n cap) n (natInts ws):=by
 rcases h.2 with⟨e,_⟩|⟨g1,cap1,cur,e,hb,hg,hc,hm,hs,ht⟩
 ·cases e
 ·cases e
  refine⟨by simp[natInts,hn],.inr ⟨g,cap,cur,rfl,hb,hg,by omega,hm,hs,?_⟩⟩
  have h1:=congrArg (List.take (n*1)) ht
  rw[List.take_take]at h1
  rw[show min (n*1) ((n+1)*1)=n*1 by omega]at h1
  rw[h1]
  unfold natInts
  rw[List.map_append,List.take_left' (by simp[hn])]
def AddPost' (gk:Nat) (ws:List Nat) (w:World) (e:Ending) (w':World):Prop:=e=.returned (.tuple #[])∧PendAt w' gk ws∧Below gk w w'
set_option maxRecDepth 100000 in
set_option maxHeartbeats 2000000 in
theorem lAdd_any (gk B:Nat) (ws xs:List Nat) (s:Value) (w:World) (hp:PendAt w gk ws) (hi:Ints w B s (xs.map fun(x:Nat)=>(x:Int))) (hle:ws.length+xs.length≤4000000) :
  Calls Tryz.prog 250 #[.pointer (some ⟨gk,0,none⟩),s] w (AddPost' gk (ws++xs) w):=by
 have hlt:=hp.lt
 obtain⟨v,hg,hown⟩:=hp
 have HOWN:=hideI hown
 have HI:=hideI hi
 have HG:=hideI hg
 have hx:=row_cells hg rfl
 have q0:=hx 0
 obtain⟨A0,c0,rfl⟩:∃ A0 c0,v=.slice A0 ws.length c0:=by
  rcases hown.2 with⟨e,e0⟩|⟨g2,cap,cur,e,_⟩
  ·exact⟨none,0,by rw[e,e0]⟩
  ·exact⟨_,_,e⟩
 obtain⟨A1,c1,rfl,_⟩:=hi
 rw[List.length_map]at HI ⊢
 clear hown hg hx
 go_enter Tryz.func250,Tryz.ntmps250
 go_wp2_with (at_builtin;go_must (refine wpList_lapp rfl _ _ rfl _ _ rfl rfl HOWN.out rfl HI.out hle hlt ?_);intro A c w1 hown1 hg1;go_must (have HO1:=hideI hown1;have hgk:=hg1.block gk hlt (fun e=>by have:=(HOWN.out.lt gk e.symm).1;omega);have HGK:=hideI (hgk.trans HG.out);have hx:=row_cells HGK.out rfl;have r0:=hx 0;have r1:=free_rowN HGK.out rfl 0;have HB1:Hid (Below gk w w1):=(Below.refl gk w).grown hg1 (Nat.le_of_lt hlt) (fun k hk=>by have:=(HOWN.out.lt k hk).1;omega);clear hown1 hg1 hgk hx q0))
 refine bodyPost_ret (v:=.tuple #[]) (by simp[results,Tryz.results250,go_sem]) rfl ⟨rfl,?_,HB1.out.setCell (Nat.le_refl _) _⟩
 exact PendAt.put HGK.out HO1.out (by rw[List.length_append])
def TakePost (gk:Nat) (ws:List Nat) (w:World) (e:Ending) (w':World):Prop :=
 (ws=[]∧e=.returned (.tuple #[.int .i64 0,.bool false])∧PendAt w' gk []∧Below gk w w') ∨
 ∃ (ws0:List Nat) (b:Nat),ws=ws0++[b]∧e=.returned (.tuple #[.int .i64 b,.bool true])∧PendAt w' gk ws0∧Below gk w w'
set_option maxRecDepth 100000 in
set_option maxHeartbeats 2000000 in
theorem lTake_any (gk:Nat) (ws:List Nat) (w:World) (hp:PendAt w gk ws) (hl:ws.length≤4000000) :
  Calls Tryz.prog 251 #[.pointer (some ⟨gk,0,none⟩)] w (TakePost gk ws w):=by
 have hlt:=hp.lt
 have HPP:=hideI hp
 obtain⟨v,hg,hown⟩:=hp
 have HG:=hideI hg
 have hx:=row_cells hg rfl
 have q0:=hx 0
 have q1:=free_rowN hg rfl 0
 rcases List.eq_nil_or_concat ws with rfl|⟨ws0,b,rfl⟩
 ·obtain⟨A0,c0,rfl⟩:∃ A0 c0,v=.slice A0 0 c0:=by
   rcases hown.2 with⟨e,e0⟩|⟨g2,cap,cur,e,_⟩
   ·exact⟨none,0,e⟩
   ·exact⟨_,_,e⟩
  clear hown hg hx hl
  go_enter Tryz.func251,Tryz.ntmps251
  go_wp2
  go_ret2
  exact .inl ⟨rfl,rfl,HPP.out,Below.refl _ _⟩
 ·rw[List.concat_eq_append]at hown hl HPP ⊢
  rw[List.length_append,List.length_singleton]at hown hl
  obtain⟨n,hn⟩:∃ n,n=ws0.length:=⟨_,rfl⟩
  rw[← hn]at hown hl
  obtain⟨g,cap,rfl,hcap,hcm⟩:∃ g cap,v=.slice (some ⟨g,0,none⟩) (n+1) cap∧n+1≤cap∧cap≤maxLen:=by
   rcases hown.2 with⟨_,e0⟩|⟨g2,cap,cur,e,_,_,h1,h2,_⟩
   ·omega
   ·exact⟨_,_,e,h1,h2⟩
  have hcb:cap≤9223372036854775807:=by simp only[maxLen]at hcm;omega
  have c1:w.cell? ⟨g,n,none⟩=some (.int .i64 (b:Int)):=by
   rw[World.ownsRow.cellAt hown n (by omega)]
   unfold natInts
   rw[List.getElem?_map,List.getElem?_append_right (by omega),hn]
   simp
  have HN:=hideI hn
  have HO2:=hideI (own_init hown hn)
  clear hown hg hx hn hcm HPP
  go_enter Tryz.func251,Tryz.ntmps251
  go_wp2
  go_ret2
  exact .inr ⟨ws0,b,rfl,rfl,PendAt.put HG.out HO2.out HN.out,(Below.refl gk w).setCell (Nat.le_refl _) _⟩
def lastOr (ws0:List Nat) (b:Nat) (okb:Bool):List Nat:=if okb=true then ws0++[b]else ws0
theorem TakePost.one {gk:Nat} {ws:List Nat} {w w':World} {e:Ending} (h:TakePost gk ws w e w') :
  ∃ (b:Nat) (okb:Bool) (ws0:List Nat),e=.returned (.tuple #[.int .i64 (b:Int),.bool okb])∧ws=lastOr ws0 b okb∧(okb=false→ws0=[])∧PendAt w' gk ws0∧Below gk w w':=by
 rcases h with⟨rfl,rfl,h1,h2⟩|⟨ws0,b,rfl,rfl,h1,h2⟩
 ·exact⟨0,false,[],rfl,rfl,fun _=>rfl,h1,h2⟩
 ·exact⟨b,true,ws0,rfl,rfl,fun h=>(by cases h),h1,h2⟩
end Go.Proofs.YtaehbgppfahdeaaGreat

namespace Go.Proofs.YtaehbgppfahdeaaGreat
open Go.RowKit Go.Maps
def boolsM (n:Nat) (P:Nat→Bool):List Value:=(List.range n).map fun b=>.bool (P b)
theorem boolsM_at {n b:Nat} {P:Nat→Bool} (h:b<n):(boolsM n P)[b]?=some (.bool (P b)):=by
 unfold boolsM
 rw[List.getElem?_map,List.getElem?_eq_getElem (by simpa using h)]
 simp
theorem boolsM_congr {n:Nat} {P Q:Nat→Bool} (h:∀ b,b<n→P b=Q b):boolsM n P=boolsM n Q:=by
 unfold boolsM
 apply List.map_congr_left
 intro b hb
 rw[h b (by simpa using hb)]
theorem marks_bools (n:Nat) (S:List Nat):marks n S=boolsM n (fun b=>decide (b∈S)):=rfl
def mWk (n s ws:Nat):Nat:=(n - s)*(n+1)+ws
theorem mWk_mark {n s ws ws':Nat} (hs:s<n) (hw:ws'≤ws+n):mWk n (s+1) ws'+1≤mWk n s ws:=by
 unfold mWk
 have h1:n - s=(n - (s+1))+1:=by omega
 rw[h1,Nat.add_mul]
 omega
theorem mWk_low {n s ws:Nat}:ws≤mWk n s ws:=by unfold mWk;omega
theorem mWk_most {n s ws:Nat} (hn:n≤512) (hw:ws≤n):mWk n s ws≤300000:=by
 unfold mWk
 have:(n - s)*(n+1)≤512*513:=Nat.mul_le_mul (by omega) (by omega)
 omega
def WithinPost (n:Nat) (P:Nat→Bool) (w:World) (e:Ending) (w':World):Prop :=
 ∃ gm:Nat,e=.returned (.slice (some ⟨gm,0,none⟩) n n)∧w'.ownsRow w.heap.size 4 1 (.slice (some ⟨gm,0,none⟩) n n) n (boolsM n P)∧Below w.heap.size w w'
set_option maxRecDepth 100000 in
set_option maxHeartbeats 4000000 in
theorem lWithin_any (bs:List BlockM) (o:List Nat) (pl:Nat→Nat) (par:Nat→Option Nat) (D L:Nat→Nat→Bool) (lo gp gi gl h c B:Nat) (vs:List Value) (p0 p1 p2 lv s:Value) (A:Option Addr) (w:World) (K:LoopOk bs o pl par D L) (H:LfAt w lo bs o pl par gp vs gi gl) (hh:h<bs.length) (hs:Ints w B s ((latchesM bs D h).map fun(x:Nat)=>(x:Int))) (hB:B≤w.heap.size) :
  Calls Tryz.prog 234 #[.agg #[p0,p1,p2,.slice A bs.length c,.slice (some ⟨gp,0,none⟩) bs.length bs.length,.slice (some ⟨gi,0,none⟩) bs.length bs.length,.slice (some ⟨gl,0,none⟩) bs.length bs.length,lv],.int .i64 h,s] w (WithinPost bs.length (L h) w):=by
 have HK:=hideI K
 have hn5:=K.n5
 obtain⟨W,hW⟩:∃ W:World,W=w.alloc (.cells #[p0,p1,p2,.slice A bs.length c,.slice (some ⟨gp,0,none⟩) bs.length bs.length,.slice (some ⟨gi,0,none⟩) bs.length bs.length,.slice (some ⟨gl,0,none⟩) bs.length bs.length,lv] 248):=⟨_,rfl⟩
 have HBW:Hid (Below w.heap.size w W):=by show Below _ _ _;rw[hW];exact(Below.refl _ _).alloc (Nat.le_refl _) _
 have HXW:Hid (W.heap[w.heap.size]?=some (.cells #[p0,p1,p2,.slice A bs.length c,.slice (some ⟨gp,0,none⟩) bs.length bs.length,.slice (some ⟨gi,0,none⟩) bs.length bs.length,.slice (some ⟨gl,0,none⟩) bs.length bs.length,lv] 248 (0,0))):=by show _=_;rw[hW];exact heap_alloc_new w _
 have hwW:w.heap.size<W.heap.size:=lt_of_heap HXW.out
 have HLW:=hideI (H.kept HBW.out)
 have HSW:=hideI ((hs.keep (HBW.out.mono hB)).more (Nat.le_trans hB HBW.out.size))
 have HW0:=hideI hW
 have hx:=row_cells HXW.out rfl
 have q3:=hx 3
 obtain⟨i0,hix,hz0,hz1,hz2⟩:=info_parts bool_info
 have HLN:Hid ((latchesM bs D h).length≤bs.length):=by
  show _≤_
  unfold latchesM
  exact Nat.le_trans (List.length_filter_le _ _) (predsTo_len _ _ _)
 clear K H hW hs hx
 go_enter Tryz.func234,Tryz.ntmps234
 go_upto_region 1 with fail
 rw[← HW0.out]
 go_upto_region 4 with(at_make;go_must (refine wpList_make_full _ rfl _ _ 294 rfl W.heap.size 4 i0 (.bool false) 1 Tryz.underlying294 hix hz0 hz1 .i64 .i64 _ _ bs.length rfl rfl rfl rfl (by rw[hz2];omega) (by unfold maxLen;omega) (Nat.le_refl _) ?_);intro w1 hown1 hg1;go_must (rw[marks_made]at hown1;have HO1:=hideI hown1;have HB1:Hid (Below W.heap.size W w1):=hideI ((Below.refl _ _).grown hg1 (Nat.le_refl _) (by simp));have c0:w1.cell? ⟨W.heap.size,h,none⟩=some (.bool (decide (h∈([]:List Nat)))):=(by rw[World.ownsRow.cellAt hown1 h (by omega),marks_at hh]);have f0:w1.frozen? ⟨W.heap.size,h,none⟩=false:=World.ownsRow.frozenAt hown1 h;clear hown1 hg1 q3))
 obtain⟨w2,hw2⟩:∃ w2:World,w2=(w1.setCell ⟨W.heap.size,h,none⟩ (.bool true)).alloc (.cells #[.slice none 0 0] 306):=⟨_,rfl⟩
 obtain⟨gq,hgq⟩:∃ gq,gq=w1.heap.size:=⟨_,rfl⟩
 have hmk:W.heap.size<gq:=by rw[hgq];exact(HO1.out.lt _ rfl).2
 have HP2:Hid (PendAt w2 gq []):=by
  refine⟨.slice none 0 0,?_,World.ownsRow_nil _ _ _ _⟩
  rw[hw2,hgq]
  have:=heap_alloc_new (w1.setCell ⟨W.heap.size,h,none⟩ (.bool true)) (.cells #[.slice none 0 0] 306)
  simpa using this
 have HO2:Hid (w2.ownsRow W.heap.size 4 1 (.slice (some ⟨W.heap.size,0,none⟩) bs.length bs.length) bs.length (marks bs.length [h])):=by
  show World.ownsRow _ _ _ _ _ _ _
  rw[hw2]
  have:=(World.ownsRow.stored HO1.out h (.bool true)).1.alloc (.cells #[.slice none 0 0] 306)
  rwa [marks_set]at this
 have HB2:Hid (Below W.heap.size W w2):=by show Below _ _ _;rw[hw2];exact(HB1.out.setCell (Nat.le_refl _) _).alloc (by have:=HB1.out.size;simp;omega) _
 have HS2:=hideI (HSW.out.keep HB2.out)
 rw[← hw2]
 simp only[← hgq]
 clear c0 f0 hw2 hgq hix hz0 hz1 hz2 HB1 HO1
 obtain⟨K0,hK0⟩:∃ K0,K0=mWk bs.length 1 (latchesM bs D h).length:=⟨_,rfl⟩
 have HK0:Hid (K0≤300000):=by show _≤_;rw[hK0];exact mWk_most hn5 HLN.out
 go_wp2_with (first
 |(go_at_call 250;go_must (refine(lAdd_any gq _ [] _ _ _ HP2.out HS2.out (by rw[List.length_nil];have:=HLN.out;omega)).mono ?_);rintro e w3 ⟨rfl,hp3,hb3⟩;have HP3:=hideI hp3;have HO3:=hideI (own_kept_below HO2.out hb3 (fun k hk=>(by cases hk;exact hmk)));have HB3:=hideI (HB2.out.trans (hb3.mono (Nat.le_of_lt hmk)));clear hp3 hb3)
 |(go_at_call 251;go_must (refine(lTake_any gq _ _ HP3.out (by rw[List.nil_append];have:=HLN.out;omega)).mono ?_);rintro e w4 htk;(obtain⟨b,okb,ws,rfl,hws,hok,hp4,hb4⟩:=TakePost.one htk);have HWS:=hideI hws;have HOK:=hideI hok;have HP4:=hideI hp4;have HO4:=hideI (own_kept_below HO3.out hb4 (fun k hk=>(by cases hk;exact hmk)));have HB4:=hideI (HB3.out.trans (hb4.mono (Nat.le_of_lt hmk)));clear hws hok hp4 hb4 htk))
 have HST:Hid (LWk bs o h [h] (lastOr ws b okb)):=by
  show LWk _ _ _ _ _
  rw[← HWS.out,List.nil_append]
  exact LWk.start HK.out.fn hh
 have HM4:Hid (mWk bs.length 1 ws.length+(if okb=true then 1 else 0)≤K0):=by
  show _≤_
  have h1:=congrArg List.length HWS.out
  rw[List.nil_append]at h1
  rw[hK0,h1]
  unfold lastOr mWk
  cases okb <;> simp <;> omega
 clear hK0 HWS HO3 HP3 HB3 HO2 HP2 HB2 HS2
 go_loopg [9,10] K0 (fun gk bv ov wr=>∃ (S ws:List Nat) (b:Nat) (okb:Bool),bv=.int .i64 (b:Int)∧ov=.bool okb∧gk≤K0∧Hid (mWk bs.length S.length ws.length+(if okb=true then 1 else 0)≤gk)∧Hid (LWk bs o h S (lastOr ws b okb))∧Hid (okb=false→ws=[])∧Hid (PendAt wr gq ws)∧Hid (wr.ownsRow W.heap.size 4 1 (.slice (some ⟨W.heap.size,0,none⟩) bs.length bs.length) bs.length (marks bs.length S))∧Hid (Below W.heap.size W wr))
 case atStart=>exact⟨[h],ws,b,okb,rfl,rfl,Nat.le_refl _,HM4,HST,HOK,HP4,HO4,HB4⟩
 case round =>
  clear HM4 HST HOK HP4 HO4 HB4
  obtain⟨S,ws,b,okb,rfl,rfl,hgk,HM,HWK,HOK,HP,HO,HBr⟩:=hrel
  cases okb with
 |false =>
   go_wp2_with fail
   go_ret
   refine⟨_,rfl,?_,HBW.out.trans (HBr.out.mono (Nat.le_of_lt hwW))⟩
   have h1:=World.ownsRow.mono HO.out (Nat.le_of_lt hwW)
   have h2:=HWK.out
   have h3:=HOK.out (by first|rfl|trivial)
   subst h3
   rw[marks_bools]at h1
   rw[boolsM_congr (P:=L h) (Q:=fun b=>decide (b∈S))]
   ·exact h1
   ·intro x _
    rw[Bool.eq_iff_iff,HK.out.fn.inL,decide_eq_true_iff]
    exact(LWk.all h2 x).symm
 |true =>
   clear HOK
   have HWK1:Hid (LWk bs o h S (ws++[b])):=HWK.out
   have hbl:b<bs.length:=(HWK1.out.ok b (List.mem_append_right _ (List.mem_singleton.2 rfl))).2
   have hSl:=below_len _ _ HWK.out.nodup HWK.out.lt
   have hmk1:wr.cell? ⟨W.heap.size,b,none⟩=some (.bool (decide (b∈S))):=by rw[World.ownsRow.cellAt HO.out b (by omega),marks_at hbl]
   have hmf:wr.frozen? ⟨W.heap.size,b,none⟩=false:=World.ownsRow.frozenAt HO.out b
   have hm1:mWk bs.length S.length ws.length+1≤gk:=by have:=HM.out;simpa using this
   have hwl:ws.length≤300000:=by have:=mWk_low (n:=bs.length) (s:=S.length) (ws:=ws.length);have:=HK0.out;omega
   have HM1:=hideI hm1
   clear hm1
   by_cases hin:b∈S
   ·have HIN:=hideI hin
    rw[show decide (b∈S)=true from by simpa using hin]at hmk1
    clear hin hmf
    go_wp2_with (go_at_call 251;go_must (refine(lTake_any gq _ _ HP.out (by omega)).mono ?_);rintro e w4 htk;(obtain⟨b2,okb2,ws2,rfl,hws,hok,hp4,hb4⟩:=TakePost.one htk);have HWS:=hideI hws;have HOK:=hideI hok;have HP4:=hideI hp4;have HO4:=hideI (own_kept_below HO.out hb4 (fun k hk=>(by cases hk;exact hmk)));have HB4:=hideI (HBr.out.trans (hb4.mono (Nat.le_of_lt hmk)));clear hws hok hp4 hb4 htk hmk1)
    have HWK2:Hid (LWk bs o h S (lastOr ws2 b2 okb2)):=by show LWk _ _ _ _ _;rw[← HWS.out];exact HWK1.out.skip HIN.out
    have HM2:Hid (mWk bs.length S.length ws2.length+(if okb2=true then 1 else 0)≤mWk bs.length S.length ws.length):=by
     show _≤_
     have h1:=congrArg List.length HWS.out
     rw[h1]
     unfold lastOr mWk
     cases okb2 <;> simp <;> omega
    go_roundg (mWk bs.length S.length ws.length)
    case rel=>exact⟨S,ws2,b2,okb2,rfl,rfl,by have:=HM1.out;omega,HM2,HWK2,HOK,HP4,HO4,HB4⟩
    case measure=>have:=HM1.out;omega
   ·have HIN:=hideI hin
    rw[show decide (b∈S)=false from by simpa using hin]at hmk1
    have hSlt:S.length<bs.length:=by have:=fresh_len HWK.out.nodup HWK.out.lt hbl hin;omega
    have hst:=(World.ownsRow.stored HO.out b (.bool true)).1
    rw[marks_set]at hst
    have HST:=hideI hst
    have HPS:=hideI (HP.out.other (j:=W.heap.size) (off:=b) hmk (.bool true))
    have HBS:Hid (Below W.heap.size W (wr.setCell ⟨W.heap.size,b,none⟩ (.bool true))):=HBr.out.setCell (Nat.le_refl _) _
    obtain⟨v,hc0,hown⟩:=HLW.out.list hbl
    obtain⟨l,hl⟩:∃ l,l=predsTo bs bs.length b:=⟨_,rfl⟩
    rw[← hl]at hown
    have hll:l.length≤bs.length:=by rw[hl];exact predsTo_len _ _ _
    have HIL:=hideI ((nat_ints hown (by omega)).keep HBS.out)
    have HLL:=hideI hl
    have hx:=row_cells HXW.out (HBr.out.block _ hwW)
    have q4:=hx 4
    have hgpl:=HLW.out.lt.1.2
    have c1:=(HBr.out.cell (p:=⟨gp,b,none⟩) hgpl).trans hc0
    have hgne:gp≠W.heap.size:=by omega
    have hwne:w.heap.size≠W.heap.size:=by omega
    clear hin hst hc0 hown hl hx
    go_wp2_with (first
    |(go_at_call 250;go_must (refine(lAdd_any gq _ ws l _ _ HPS.out HIL.out (by omega)).mono ?_);rintro e w3 ⟨rfl,hp3,hb3⟩;have HP3:=hideI hp3;have HO3:=hideI (own_kept_below HST.out hb3 (fun k hk=>(by cases hk;exact hmk)));have HB3:=hideI (HBS.out.trans (hb3.mono (Nat.le_of_lt hmk)));clear hp3 hb3 q4 c1 hmk1 hmf)
    |(go_at_call 251;go_must (refine(lTake_any gq _ _ HP3.out (by rw[List.length_append];omega)).mono ?_);rintro e w4 htk;(obtain⟨b2,okb2,ws2,rfl,hws,hok,hp4,hb4⟩:=TakePost.one htk);have HWS:=hideI hws;have HOK:=hideI hok;have HP4:=hideI hp4;have HO4:=hideI (own_kept_below HO3.out hb4 (fun k hk=>(by cases hk;exact hmk)));have HB4:=hideI (HB3.out.trans (hb4.mono (Nat.le_of_lt hmk)));clear hws hok hp4 hb4 htk))
    have HWK2:Hid (LWk bs o h (b::S) (lastOr ws2 b2 okb2)):=by show LWk _ _ _ _ _;rw[← HWS.out,HLL.out];exact HWK1.out.mark HIN.out
    have HM2:Hid (mWk bs.length (b::S).length ws2.length+(if okb2=true then 1 else 0)+1≤mWk bs.length S.length ws.length):=by
     show _≤_
     have h1:=congrArg List.length HWS.out
     rw[List.length_append]at h1
     have h2:=mWk_mark (n:=bs.length) (s:=S.length) (ws:=ws.length) (ws':=(ws.length+l.length)) hSlt (by omega)
     rw[h1]at h2
     rw[List.length_cons]
     unfold lastOr mWk at *
     cases okb2 <;> simp at h2 ⊢ <;> omega
    go_roundg (mWk bs.length S.length ws.length)
    case rel=>exact⟨b::S,ws2,b2,okb2,rfl,rfl,by have:=HM1.out;omega,(by have:=HM2.out;show _≤_;omega),HWK2,HOK,HP4,HO4,HB4⟩
    case measure=>have:=HM1.out;omega
end Go.Proofs.YtaehbgppfahdeaaGreat

namespace Go.Proofs.YtaehbgppfahdeaaGreat
open Go.RowKit Go.Maps
theorem range_at {n i:Nat} (h:i<n):(List.range n)[i]?=some i:=by
 rw[List.getElem?_eq_getElem (by simpa using h)]
 simp
set_option maxRecDepth 100000 in
set_option maxHeartbeats 2000000 in
theorem lRise_any (n g:Nat) (P:Nat→Bool) (w:World) (hn:n≤512) (hg:g<w.heap.size) (hc:∀ b,b<n→w.cell? ⟨g,b,none⟩=some (.bool (P b))) :
  Calls Tryz.prog 235 #[.slice (some ⟨g,0,none⟩) n n] w (RowPost ((List.range n).filter P) w):=by
 have HC:=hideI hc
 obtain⟨i1,hjx,hy0,hy1,hy2⟩:=info_parts int_info
 clear hc
 go_enter Tryz.func235,Tryz.ntmps235
 go_wp2
 go_loopw [3,8] (fun vo u wr=>∃ (i:Nat) (v:Value),v=vo∧i≤n∧u=.int .i64 i∧Hid (wr.ownsRow w.heap.size 3 1 v (((List.range n).take i).filter P).length (natInts (((List.range n).take i).filter P)))∧Hid (Below w.heap.size w wr)) (fun _ u _=>n - (intOf u).toNat)
 case atStart=>exact⟨0,_,rfl,Nat.zero_le _,rfl,hideI (World.ownsRow_nil _ _ _ _),hideI (Below.refl _ _)⟩
 case round =>
  obtain⟨i,v,rfl,hi,rfl,HO,HBr⟩:=hrel
  by_cases hlt:i<n
  ·have c1:=(HBr.out.cell (p:=⟨g,i,none⟩) hg).trans (HC.out i hlt)
   obtain⟨xs,hxs⟩:∃ xs,xs=((List.range n).take i).filter P:=⟨_,rfl⟩
   have hml:xs.length≤512:=by
    rw[hxs]
    have:=filter_len (P:=P) (l:=List.range n) (i:=i)
    rw[List.length_range]at this
    omega
   have hri:=range_at hlt
   rw[← hxs]at HO
   cases hr:P i with
  |false =>
    have HS:Hid (((List.range n).take (i+1)).filter P=xs):=by show _=_;rw[hxs];exact filter_skip hri hr
    rw[hr]at c1
    clear hr hxs hri
    go_wp2
    go_roundw
    case rel=>exact⟨i+1,_,rfl,by omega,by go_num,by rw[HS.out];exact HO,HBr⟩
    case measure=>simp[intOf];omega
  |true =>
    have HS:Hid (((List.range n).take (i+1)).filter P=xs++[i]):=by show _=_;rw[hxs];exact filter_more hri hr
    have H63:Hid (xs.length+1≤maxLen):=by show _≤_;simp only[maxLen];omega
    have HBY:Hid ((xs.length+1)*8≤140737488355328):=by show _≤_;omega
    have HBS:Hid (w.heap.size≤wr.heap.size):=HBr.out.size
    rw[hr]at c1
    clear hr hxs hri
    go_wp2_with (at_builtin;go_must (refine wpList_append_lies _ rfl _ _ _ rfl w.heap.size 3 i1 (.int .i64 0) 1 8 Tryz.underlying22 hjx hy0 hy1 hy2 rfl (by decide) _ _ _ rfl (HO.out.alloc _) ⟨wr.heap.size,0,none⟩ 1 1 [.int .i64 i] rfl rfl (one_new wr _) (by simp[Value.oneCell']) (by decide) H63.out HBY.out (by simp;exact Nat.le_succ_of_le HBS.out) _ rfl ?_);intro g1 cap1 w3 hown1 hgrow1 hor1 _;go_must (have HO3:=hideI hown1;have HB3:Hid (Below w.heap.size w w3):=(HBr.out.alloc HBS.out _).grown hgrow1 (by simp;exact Nat.le_succ_of_le HBS.out) (fun k hk=>(HO.out.lt k hk).1);clear hown1 hgrow1 hor1))
    go_roundw
    case rel=>exact⟨i+1,_,rfl,by omega,by go_num,by rw[HS.out,List.length_append,natInts_snoc];exact HO3,HB3⟩
    case measure=>simp[intOf];omega
  ·have HE:Hid (((List.range n).take i).filter P=(List.range n).filter P):=by show _=_;rw[List.take_of_length_le (by simp;omega)]
   rw[HE.out]at HO
   go_wp2
   go_ret
   exact⟨_,rfl,HO.out,HBr.out⟩
end Go.Proofs.YtaehbgppfahdeaaGreat
