/- What ClosedChecks rests on, part 22: RefStrictM, RefStrict, RefCheck5, RFirst11. -/
import Derived.Test.YtaehbgppfahdeaaGreatPkClosedChecks21

namespace Go.Proofs.YtaehbgppfahdeaaGreat
open Go.RowKit
def justR (fr ps:List Int):Bool:=fr.length==ps.length&&ps.all fun b=>decide (b∈fr)
theorem justR_eq {fr ps:List Int} (h1:fr.Nodup) (h2:ps.Nodup):justR fr ps=justB fr ps:=by
 unfold justR justB
 cases hl:fr.length==ps.length
 ·rfl
 ·have hl':fr.length=ps.length:=by simpa using hl
  rw[Bool.true_and,Bool.true_and,Bool.eq_iff_iff,List.all_eq_true,List.all_eq_true]
  have sub:∀ {a b:List Int},a.Nodup→a.length=b.length→b.Nodup→(∀ x∈a,x∈b)→∀ x∈b,x∈a:=by
   intro a b ha hab hb hs x hx
   by_cases hxa:x∈a
   ·exact hxa
   ·have:=sub_len (x::a) b (List.nodup_cons.2 ⟨hxa,ha⟩) (fun y hy=>by rcases List.mem_cons.1 hy with rfl|hy;exact hx;exact hs y hy)
    rw[List.length_cons]at this
    omega
  constructor
  ·intro h x hx
   exact decide_eq_true (sub h2 hl'.symm h1 (fun y hy=>of_decide_eq_true (h y hy)) x hx)
  ·intro h x hx
   exact decide_eq_true (sub h1 hl' h2 (fun y hy=>of_decide_eq_true (h y hy)) x hx)
def phisFitR (bs:List BlockM) (b:Nat) (q:BlockM):Bool:=q.phis.all fun p=>justR p.fr (predsI bs b)
theorem predsI_nodup (bs:List BlockM) (b:Nat):(predsI bs b).Nodup:=(predsI_rising bs b).imp (fun h=>by omega)
theorem look_once {f:FuncM} (h:(lookM f).1=0) {q:BlockM} (hq:q∈f.blocks) {p:PhiM} (hp:p∈q.phis):p.fr.Nodup∧∀ x∈p.fr,0≤x∧x<f.blocks.length:=by
 have hon:=((formed_all (look_formed h)).1 q hq).1 p hp
 unfold phiB at hon
 simp only[Bool.and_eq_true]at hon
 have:=once_nodup _ _ hon.2.2
 exact⟨this.1,fun x hx=>by have:=this.2.1 x hx;omega⟩
theorem phisFitR_eq {f:FuncM} (h:(lookM f).1=0) {b:Nat} {q:BlockM} (hq:f.blocks[b]?=some q):phisFitR f.blocks b q=phisFitB f.blocks b q:=by
 have h1:∀ p∈q.phis,justR p.fr (predsI f.blocks b)=justB p.fr (predsI f.blocks b):=fun p hp=>justR_eq (look_once h (List.mem_of_getElem? hq) hp).1 (predsI_nodup _ _)
 unfold phisFitR phisFitB
 rw[Bool.eq_iff_iff,List.all_eq_true,List.all_eq_true]
 exact⟨fun h2 p hp=>by rw[← h1 p hp];exact h2 p hp,fun h2 p hp=>by rw[h1 p hp];exact h2 p hp⟩
def okRow (f:FuncM) (o:List Nat) (r:List Int):Prop:=∀ m,(placedM f).last (r.getD 0 0)=some m →
 if r.getD 3 0<0 then OverP f.blocks o m.1 (r.getD 4 0).toNat else if (m.1:Int)=r.getD 2 0 then m.2<r.getD 3 0 else OverP f.blocks o m.1 (r.getD 2 0).toNat
theorem made_end {f:FuncM} {id:Int} {b:Nat} {a:Int} {q:BlockM} (h:MadeAt f id b a) (hq:f.blocks[b]?=some q):a<q.code.length:=by
 cases h with
 | param => omega
 | phi => omega
 | instr hq' hx =>
  rw[hq]at hq'
  cases hq'
  have:=(List.getElem?_eq_some_iff.1 hx).1
  omega
theorem okRow_phi {f:FuncM} {o:List Nat} (hall:∀ b,b<f.blocks.length→b∈o) {b fr:Nat} {t id:Int} {q':BlockM} (hq:f.blocks[fr]?=some q'):okRow f o (rowPhi b t (id,(fr:Int)))↔okP f o id fr q'.code.length:=by
 unfold okRow okP rowPhi
 refine forall_congr' fun m=>forall_congr' fun hm=>?_
 have hfr:=(List.getElem?_eq_some_iff.1 hq).1
 simp only[List.getD_cons_zero,List.getD_cons_succ,Int.toNat_natCast]
 rw[if_pos (by omega)]
 unfold aheadP
 by_cases h:m.1=fr
 ·subst h
  exact⟨fun _=>.inl ⟨rfl,made_end (last_made hm) hq⟩,fun _=>OverP.refl (hall _ hfr)⟩
 ·exact⟨fun k=>.inr ⟨h,k⟩,fun k=>k.elim (fun k=>absurd k.1 h) (fun k=>k.2)⟩
theorem okRow_at {f:FuncM} {o:List Nat} {b i:Nat} {t id c:Int}:okRow f o [id,t,(b:Int),(i:Int),c]↔okP f o id b i:=by
 unfold okRow okP
 refine forall_congr' fun m=>forall_congr' fun _=>?_
 simp only[List.getD_cons_zero,List.getD_cons_succ,Int.toNat_natCast]
 rw[if_neg (by omega)]
 unfold aheadP
 by_cases h:m.1=b
 ·rw[if_pos (by omega)]
  exact⟨fun k=>.inl ⟨h,k⟩,fun k=>k.elim (fun k=>k.2) (fun k=>absurd h k.1)⟩
 ·rw[if_neg (by omega)]
  exact⟨fun k=>.inr ⟨h,k⟩,fun k=>k.elim (fun k=>absurd k.1 h) (fun k=>k.2)⟩
theorem rowsCode_mem {b:Nat} {xs:List InstrM} {r:List Int}:∀ n,n≤xs.length→(r∈rowsCode b xs n↔∃ (i:Nat) (x:InstrM),i<n∧xs[i]?=some x∧r∈rowsInstr b i x):=by
 intro n
 induction n with
 | zero => intro _;exact ⟨fun h => (by cases h),fun ⟨i,_,h,_⟩ => (by omega)⟩
 | succ n ih =>
  intro hn
  have hx:xs[n]?=some xs[n]:=List.getElem?_eq_getElem (by omega)
  rw[rowsCode,hx,List.mem_append,ih (by omega)]
  constructor
  ·rintro(⟨i,x,h1,h2,h3⟩|h)
   ·exact⟨i,x,by omega,h2,h3⟩
   ·exact⟨n,_,by omega,hx,h⟩
  ·rintro⟨i,x,h1,h2,h3⟩
   rcases Nat.lt_or_ge i n with h|h
   ·exact .inl ⟨i,x,h,h2,h3⟩
   ·have:i=n:=by omega
    subst this
    rw[hx]at h2
    cases h2
    exact .inr h3
theorem rows_uses {f:FuncM} (h0:(lookM f).1=0) {o:List Nat} (hall:∀ b,b<f.blocks.length→b∈o) {b:Nat} {q:BlockM} (hq:f.blocks[b]?=some q):(∀ r∈rowsBlock b q,okRow f o r)↔UsesP f o b q:=by
 have hmq:=List.mem_of_getElem? hq
 constructor
 ·intro h
  refine⟨fun p hp i id fr q' h1 h2 h3=>?_,fun i x hx id hid=>?_,fun ht=>?_⟩
  ·refine(okRow_phi (b:=b) (t:=p.typ) hall h3).1 (h _ (List.mem_append.2 (.inl (List.mem_flatMap.2 ⟨p,hp,List.mem_map.2 ⟨(id,(fr:Int)),?_,rfl⟩⟩))))
   exact List.mem_of_getElem? (i:=i) (List.getElem?_zip_eq_some.2 ⟨h1,h2⟩)
  ·obtain⟨m,hm⟩:=List.getElem?_of_mem hid
   have hl:=look_form h0 q hmq x (List.mem_of_getElem? hx)
   have hml:=(List.getElem?_eq_some_iff.1 hm).1
   obtain⟨t,ht⟩:∃ t,(takesS x.op)[m]?=some t:=⟨_,List.getElem?_eq_getElem (by omega)⟩
   refine(okRow_at (t:=t) (c:=0)).1 (h _ (List.mem_append.2 (.inr (List.mem_append.2 (.inl ((rowsCode_mem _ (Nat.le_refl _)).2 ⟨i,x,(List.getElem?_eq_some_iff.1 hx).1,hx,List.mem_map.2 ⟨(id,t),?_,rfl⟩⟩))))))
   exact List.mem_of_getElem? (i:=m) (List.getElem?_zip_eq_some.2 ⟨hm,ht⟩)
  ·have hr:∃ t,rowsTerm b q=[[q.term.val,t,(b:Int),(q.code.length:Int),0]]:=by
    unfold rowsTerm
    rcases ht with ht|ht
    ·exact⟨2,by rw[if_pos ht]⟩
    ·exact⟨0,by rw[if_neg (by omega),if_pos ht]⟩
   obtain⟨t,hr⟩:=hr
   exact(okRow_at (t:=t) (c:=0)).1 (h _ (List.mem_append.2 (.inr (List.mem_append.2 (.inr (by rw[hr];exact List.mem_singleton.2 rfl))))))
 ·rintro⟨h1,h2,h3⟩ r hr
  rcases List.mem_append.1 hr with hr|hr
  ·obtain⟨p,hp,hr⟩:=List.mem_flatMap.1 hr
   obtain⟨d,hd,rfl⟩:=List.mem_map.1 hr
   obtain⟨i,hi⟩:=List.getElem?_of_mem hd
   obtain⟨ha,hb⟩:=List.getElem?_zip_eq_some.1 hi
   have hrg:=(look_once h0 hmq hp).2 d.2 (List.mem_of_getElem? hb)
   obtain⟨x,y⟩:=d
   simp only at ha hb hrg
   obtain⟨fr,rfl⟩:∃ fr:Nat,y=(fr:Int):=⟨y.toNat,by omega⟩
   have hq':f.blocks[fr]?=some (f.blocks[fr]'(by omega)):=List.getElem?_eq_getElem _
   exact(okRow_phi hall hq').2 (h1 p hp i x fr _ ha hb hq')
  ·rcases List.mem_append.1 hr with hr|hr
   ·obtain⟨i,x,hi,hx,hr⟩:=(rowsCode_mem _ (Nat.le_refl _)).1 hr
    obtain⟨d,hd,rfl⟩:=List.mem_map.1 hr
    obtain⟨m,hm⟩:=List.getElem?_of_mem hd
    obtain⟨ha,hb⟩:=List.getElem?_zip_eq_some.1 hm
    exact okRow_at.2 (h2 i x hx d.1 (List.mem_of_getElem? ha))
   ·unfold rowsTerm at hr
    split at hr
    ·rename_i ht
     rw[List.mem_singleton]at hr
     subst hr
     exact okRow_at.2 (h3 (.inl ht))
    ·split at hr
     ·rename_i ht
      rw[List.mem_singleton]at hr
      subst hr
      exact okRow_at.2 (h3 (.inr ht))
     ·cases hr
theorem rowsBlock_blk {b:Nat} {q:BlockM} {r:List Int} (h:r∈rowsBlock b q):r.getD 2 0=(b:Int):=by
 rcases List.mem_append.1 h with hr|hr
 ·obtain⟨p,hp,hr⟩:=List.mem_flatMap.1 hr
  obtain⟨d,hd,rfl⟩:=List.mem_map.1 hr
  rfl
 ·rcases List.mem_append.1 hr with hr|hr
  ·obtain⟨i,x,hi,hx,hr⟩:=(rowsCode_mem _ (Nat.le_refl _)).1 hr
   obtain⟨d,hd,rfl⟩:=List.mem_map.1 hr
   rfl
  ·unfold rowsTerm at hr
   split at hr
   ·rw[List.mem_singleton]at hr;subst hr;rfl
   ·split at hr
    ·rw[List.mem_singleton]at hr;subst hr;rfl
    ·cases hr
theorem rowsTo_at (bs:List BlockM) {r:List Int}:∀ (n i:Nat),n≤bs.length→(rowsTo bs n)[i]?=some r→∃ (b:Nat) (q:BlockM),b<n∧bs[b]?=some q∧r∈rowsBlock b q∧(rowsTo bs b).length≤i:=by
 intro n
 induction n with
 | zero => intro i _ h;simp [rowsTo] at h
 | succ n ih =>
  intro i hn h
  have hq:bs[n]?=some bs[n]:=List.getElem?_eq_getElem (by omega)
  rw[rowsTo,hq]at h
  rcases Nat.lt_or_ge i (rowsTo bs n).length with hi|hi
  ·rw[List.getElem?_append_left hi]at h
   obtain⟨b,q,h1,h2⟩:=ih i (by omega) h
   exact⟨b,q,by omega,h2⟩
  ·rw[List.getElem?_append_right hi]at h
   exact⟨n,_,by omega,hq,List.mem_of_getElem? h,hi⟩
theorem rowsTo_prefix (bs:List BlockM):∀ (n b:Nat),b≤n→∃ t,rowsTo bs n=rowsTo bs b++t:=by
 intro n
 induction n with
 | zero => intro b hb;have:b=0:=by omega
           subst this;exact⟨[],by simp⟩
 | succ n ih =>
  intro b hb
  rcases Nat.eq_or_lt_of_le hb with rfl|hb
  ·exact⟨[],by simp⟩
  ·obtain⟨t,ht⟩:=ih b (by omega)
   rw[rowsTo,ht]
   exact⟨t++_,by rw[List.append_assoc]⟩
theorem rowsTo_has (bs:List BlockM) {b:Nat} {q:BlockM} (hq:bs[b]?=some q) {n:Nat} (hb:b<n) {r:List Int} (hr:r∈rowsBlock b q):r∈rowsTo bs n:=by
 obtain⟨t,ht⟩:=rowsTo_prefix bs n (b+1) hb
 rw[ht,rowsTo,hq]
 exact List.mem_append.2 (.inl (List.mem_append.2 (.inr hr)))
theorem rows_bad {f:FuncM} (h0:(lookM f).1=0) {o:List Nat} (hall:∀ b,b<f.blocks.length→b∈o) {i:Nat} {r:List Int} (hr:(rowsTo f.blocks f.blocks.length)[i]?=some r) (hlow:∀ (j:Nat) (s:List Int),j<i→(rowsTo f.blocks f.blocks.length)[j]?=some s→okRow f o s) (hbad:¬ okRow f o r) :
  ∃ b:Nat,FirstBad f.blocks.length (usesPR f o) b∧r.getD 2 0=(b:Int):=by
 obtain⟨b,q,hb,hq,hrb,hle⟩:=rowsTo_at f.blocks _ i (Nat.le_refl _) hr
 refine⟨b,⟨hb,fun hp=>hbad ((rows_uses h0 hall hq).2 (hp q hq) r hrb),fun a ha q' hq'=>(rows_uses h0 hall hq').1 fun s hs=>?_⟩,rowsBlock_blk hrb⟩
 obtain⟨j,hj⟩:=List.getElem?_of_mem (rowsTo_has f.blocks hq' ha hs)
 have hjl:=(List.getElem?_eq_some_iff.1 hj).1
 obtain⟨t,ht⟩:=rowsTo_prefix f.blocks f.blocks.length b (by omega)
 exact hlow j s (by omega) (by rw[ht,List.getElem?_append_left hjl];exact hj)
theorem rows_good {f:FuncM} (h0:(lookM f).1=0) {o:List Nat} (hall:∀ b,b<f.blocks.length→b∈o) (h:∀ r∈rowsTo f.blocks f.blocks.length,okRow f o r):∀ b,b<f.blocks.length→usesPR f o b :=
 fun _ hb _ hq=>(rows_uses h0 hall hq).1 fun s hs=>h s (rowsTo_has f.blocks hq hb hs)
structure RowIs (f:FuncM) (r:List Int):Prop where
 known:Known f (r.getD 0 0)
 blk:∃ b:Nat,r.getD 2 0=(b:Int)∧b<f.blocks.length
 frm:∃ b:Nat,r.getD 4 0=(b:Int)∧b<f.blocks.length
theorem row_is {f:FuncM} (h0:(lookM f).1=0) (hid:∀ u∈usesM f,I64 u.1) {r:List Int} (hr:r∈rowsTo f.blocks f.blocks.length):RowIs f r:=by
 obtain⟨i,hi⟩:=List.getElem?_of_mem hr
 obtain⟨b,q,hb,hq,hrb,_⟩:=rowsTo_at f.blocks _ i (Nat.le_refl _) hi
 have hn:=(look_some_block h0).1
 have hmq:=List.mem_of_getElem? hq
 have hK:=uses_known h0 hid
 refine⟨?_,⟨b,rowsBlock_blk hrb,hb⟩,?_⟩
 all_goals
  rcases List.mem_append.1 hrb with hr|hr
  ·obtain⟨p,hp,hr⟩:=List.mem_flatMap.1 hr
   obtain⟨d,hd,rfl⟩:=List.mem_map.1 hr
   obtain⟨j,hj⟩:=List.getElem?_of_mem hd
   obtain⟨ha,hb'⟩:=List.getElem?_zip_eq_some.1 hj
   first
    | (obtain⟨_,_,_,_,hk⟩:=hK.phi b q p j d.1 hq hp ha
       exact hk)
    | (have hrg:=(look_once h0 hmq hp).2 d.2 (List.mem_of_getElem? hb')
       exact⟨d.2.toNat,by simp[rowPhi];omega,by omega⟩)
  ·rcases List.mem_append.1 hr with hr|hr
   ·obtain⟨k,x,hk,hx,hr⟩:=(rowsCode_mem _ (Nat.le_refl _)).1 hr
    obtain⟨d,hd,rfl⟩:=List.mem_map.1 hr
    obtain⟨m,hm⟩:=List.getElem?_of_mem hd
    obtain⟨ha,_⟩:=List.getElem?_zip_eq_some.1 hm
    first
     | exact hK.arg b q x d.1 hq (List.mem_of_getElem? hx) (List.mem_of_getElem? ha)
     | exact ⟨0,rfl,hn⟩
   ·unfold rowsTerm at hr
    split at hr
    ·rename_i ht
     rw[List.mem_singleton]at hr
     subst hr
     first
      | exact hK.term b q hq (.inl ht)
      | exact ⟨0,rfl,hn⟩
    ·split at hr
     ·rename_i ht
      rw[List.mem_singleton]at hr
      subst hr
      first
       | exact hK.term b q hq (.inr ht)
       | exact ⟨0,rfl,hn⟩
     ·cases hr
end Go.Proofs.YtaehbgppfahdeaaGreat

namespace Go.Proofs.YtaehbgppfahdeaaGreat
open Go.RowKit Go.Maps
set_option maxRecDepth 100000 in
set_option maxHeartbeats 2000000 in
theorem refPhis_any (q:BlockM) (ps:List Int) (B:Nat) (qpv qcv qtv v:Value) (op val n:Int) (w:World) (hp:PhisR w B qpv q.phis) (hv:Ints w B v ps) (hB:B≤w.heap.size) (hl:ps.length≤512) (CA:Option Addr) (cl cc:Nat) (hcv:qcv=.slice CA cl cc) (TA:Option Addr) (tl tc:Nat) (htv:qtv=.slice TA tl tc) :
  Calls Tryz.prog 46 #[.agg #[qpv,qcv,.int .i64 op,.int .i64 val,qtv,.int .i64 n],v] w fun e w'=>e=.returned (.bool (q.phis.all fun p=>justR p.fr ps))∧Below w.heap.size w w':=by
 subst hcv htv
 have HVI:=hideI hv
 obtain⟨PA,pc2,rfl,hpm2,hpx⟩:=hp
 obtain⟨VA,vc,rfl,hvm,_⟩:=hv
 have HPX:=hideI hpx
 obtain⟨nq,hnq⟩:∃ nq,nq=q.phis.length:=⟨_,rfl⟩
 obtain⟨lv,hlv⟩:∃ lv,lv=ps.length:=⟨_,rfl⟩
 have HNQ:=hideI hnq
 have HLV:=hideI hlv
 rw[← hnq]at hpm2 ⊢
 rw[← hlv]at hvm hl ⊢
 obtain⟨W0,hW0⟩:∃ W0:World,W0=w.alloc (.cells #[.slice PA nq pc2,.slice CA cl cc,.int .i64 op,.int .i64 val,.slice TA tl tc,.int .i64 n] 62):=⟨_,rfl⟩
 have HB0:Hid (Below w.heap.size w W0):=by rw[hW0];exact hideI ((Below.refl _ _).alloc (Nat.le_refl _) _)
 have HX0:Hid (∀ o,W0.cell? ⟨w.heap.size,o,none⟩=(#[.slice PA nq pc2,.slice CA cl cc,.int .i64 op,.int .i64 val,.slice TA tl tc,.int .i64 n]:Array Value)[o]?):=by rw[hW0];exact hideI (row_cells (heap_alloc_new w _) rfl)
 have HK0:=hideI (Keeps.of_below (HB0.out.mono hB))
 have HW0:=hideI hW0
 clear hW0 hpx hnq hlv
 go_enter Tryz.func46,Tryz.ntmps46
 go_wp2
 rw[← HW0.out]
 go_loopw [5] (fun i wr=>∃ k m:Nat,k≤nq∧i=.int .i64 k∧Hid (∀ (j:Nat) (p:PhiM),j<k→q.phis[j]?=some p→justR p.fr ps=true)∧wr=W0.drewN m) (fun i _=>nq - (intOf i).toNat)
 case atStart => exact⟨0,0,Nat.zero_le _,rfl,hideI (fun j p h=>by omega),rfl⟩
 case round =>
  obtain⟨k,m,hk,rfl,HA,hw⟩:=hrel
  have hx0:∀ o,wr.cell? ⟨w.heap.size,o,none⟩=(#[.slice PA nq pc2,.slice CA cl cc,.int .i64 op,.int .i64 val,.slice TA tl tc,.int .i64 n]:Array Value)[o]?:=by rw[hw];exact HX0.out
  have hks:Keeps B w wr:=by rw[hw];exact HK0.out
  have HW:=hideI hw
  by_cases hlt:k<nq
  ·obtain⟨p,hp⟩:∃ p,q.phis[k]?=some p:=⟨_,List.getElem?_eq_getElem (by have:=HNQ.out;omega)⟩
   obtain⟨b2,off2,fv,vv,rfl,hb2,e0,e1,e2,e3,hfv,hvv,_⟩:=HPX.out k p hp
   have HP:=hideI hp
   have HFV:=hideI hfv
   obtain⟨FA,fc,rfl,hfm,_⟩:=hfv
   obtain⟨nf,hnf⟩:∃ nf,nf=p.fr.length:=⟨_,rfl⟩
   have HNF:=hideI hnf
   rw[← hnf]at e2 hfm
   have HE2:=hideI e2
   have d2:=(hks b2 (off2+k*4+2) hb2).trans e2
   have HKS:=hideI hks
   clear e0 e1 e2 e3 hp hnf hw hks
   by_cases hlen:nf=lv
   ·have hlb:((nf:Int) != lv)=false:=by rw[hlen];simp
    have HLEN:=hideI hlen
    clear hlen
    go_wp2
    clear hx0 d2
    obtain⟨wo,rfl⟩:∃ wo:World,wo=wr:=⟨_,rfl⟩
    go_loopw [6] (fun i wr=>∃ j m:Nat,j≤lv∧i=.int .i64 j∧Hid (∀ (i:Nat) (x:Int),i<j→ps[i]?=some x→x∈p.fr)∧wr=W0.drewN m) (fun i _=>lv - (intOf i).toNat)
    case atStart => exact⟨0,m,Nat.zero_le _,rfl,hideI (fun j p h=>by omega),HW.out⟩
    case round =>
     obtain⟨j,m2,hj,rfl,HAj,hw⟩:=hrel
     have hx0:∀ o,wr.cell? ⟨w.heap.size,o,none⟩=(#[.slice (some ⟨b2,off2,none⟩) nq pc2,.slice CA cl cc,.int .i64 op,.int .i64 val,.slice TA tl tc,.int .i64 n]:Array Value)[o]?:=by rw[hw];exact HX0.out
     have hks:Keeps B w wr:=by rw[hw];exact HK0.out
     have HW2:=hideI hw
     clear hw
     by_cases hlj:j<lv
     ·obtain⟨x,hx⟩:∃ x,ps[j]?=some x:=⟨_,List.getElem?_eq_getElem (by have:=HLV.out;omega)⟩
      have d2:=(hks b2 (off2+k*4+2) hb2).trans HE2.out
      obtain⟨_,_,ev,_,hvx⟩:=HVI.out.keeps hks
      cases ev
      obtain⟨vb,voff,rfl,hvb,v0⟩:=hvx j (by rw[← HLV.out];exact hlj)
      rw[hx]at v0
      simp only[Option.getD_some]at v0
      have HXX:=hideI hx
      have HH:Hid (∀ m,Calls Tryz.prog 56 #[.slice FA nf fc,.int .i64 x] (wr.drewN m) fun e w'=>e=.returned (.bool (decide (x∈p.fr)))∧w'=wr.drewN m):=by
       refine hideI (fun m=>?_)
       have h1:=HFV.out.keeps (hks.trans (w2:=wr.drewN m) (Keeps.of_below (drew_below (Below.refl B wr) m)))
       rw[← HNF.out]at h1
       exact(has_any p.fr B _ x _ h1).mono fun _ _ ⟨a,b⟩=>⟨a,b.symm⟩
      clear hvx hx hks
      cases hd:decide (x∈p.fr)
      ·rw[hd]at HH
       have HR:Hid ((q.phis.all fun p=>justR p.fr ps)=false):=by
        refine hideI ?_
        rw[List.all_eq_false]
        refine⟨p,List.mem_of_getElem? HP.out,?_⟩
        unfold justR
        rw[Bool.not_eq_true,Bool.and_eq_false_iff]
        exact .inr (List.all_eq_false.2 ⟨x,List.mem_of_getElem? HXX.out,by rw[hd];simp⟩)
       clear hd
       go_wp2
       go_quiet ((go_at_call 56;exact Calls.quiet_of_same (HH.out _)))
       go_wp2
       go_ret
       refine⟨by rw[HR.out];rfl,drew_below ?_ _⟩
       rw[HW2.out]
       exact drew_below HB0.out _
      ·rw[hd]at HH
       have HA2:Hid (∀ (i:Nat) (x:Int),i<j+1→ps[i]?=some x→x∈p.fr):=by
        refine hideI (fun i y hi hy=>?_)
        rcases Nat.lt_or_ge i j with h|h
        ·exact HAj.out i y h hy
        ·have:i=j:=by omega
         subst this
         rw[HXX.out]at hy
         cases hy
         exact of_decide_eq_true hd
       clear hd
       go_wp2
       go_quiet ((go_at_call 56;exact Calls.quiet_of_same (HH.out _)))
       go_wp2
       go_roundw
       case rel => exact⟨j+1,m2+_,by omega,by go_num,HA2,by rw[HW2.out,World.drewN_drewN]⟩
       case measure => simp[intOf];omega
     ·have HA2:Hid (∀ (j:Nat) (p:PhiM),j<k+1→q.phis[j]?=some p→justR p.fr ps=true):=by
       refine hideI (fun i y hi hy=>?_)
       rcases Nat.lt_or_ge i k with h|h
       ·exact HA.out i y h hy
       ·have:i=k:=by omega
        subst this
        rw[HP.out]at hy
        cases hy
        unfold justR
        rw[Bool.and_eq_true,beq_iff_eq,List.all_eq_true]
        refine⟨by have:=HLEN.out;have:=HNF.out;have:=HLV.out;omega,fun z hz=>?_⟩
        obtain⟨i,hi⟩:=List.getElem?_of_mem hz
        exact decide_eq_true (HAj.out i z (by have:=(List.getElem?_eq_some_iff.1 hi).1;have:=HLV.out;omega) hi)
      clear hx0 hks
      go_wp2
      go_roundw
      case rel => exact⟨k+1,m2,by omega,by go_num,HA2,HW2.out⟩
      case measure => simp[intOf];omega
   ·have hlb:((nf:Int) != lv)=true:=by simp;omega
    have HR:Hid ((q.phis.all fun p=>justR p.fr ps)=false):=by
     refine hideI ?_
     rw[List.all_eq_false]
     refine⟨p,List.mem_of_getElem? HP.out,?_⟩
     unfold justR
     rw[Bool.not_eq_true,Bool.and_eq_false_iff]
     exact .inl (beq_eq_false_iff_ne.2 (by rw[← HNF.out,← HLV.out];exact hlen))
    clear hlen
    go_wp2
    go_ret
    refine⟨by rw[HR.out];rfl,?_⟩
    rw[HW.out]
    exact drew_below HB0.out _
  ·have HR:Hid ((q.phis.all fun p=>justR p.fr ps)=true):=by
    refine hideI ?_
    rw[List.all_eq_true]
    intro p hp
    obtain⟨j,hj⟩:=List.getElem?_of_mem hp
    exact HA.out j p (by have:=(List.getElem?_eq_some_iff.1 hj).1;have:=HNQ.out;omega) hj
   clear hks hw
   go_wp2
   go_ret
   refine⟨by rw[HR.out];rfl,?_⟩
   rw[HW.out]
   exact drew_below HB0.out _
end Go.Proofs.YtaehbgppfahdeaaGreat

namespace Go.Proofs.YtaehbgppfahdeaaGreat
open Go.RowKit Go.Maps
theorem grid_over (bs:List BlockM) (o:List Nat):∃ G:Nat→Nat→Bool,∀ a b,G a b=true↔OverP bs o a b :=
 ⟨fun a b=>@decide _ (Classical.propDecidable (OverP bs o a b)),fun _ _=>@decide_eq_true_iff _ (Classical.propDecidable _)⟩
theorem flat5:∀ (rows:List (List Int)),(∀ r∈rows,r.length=5)→∀ (i j:Nat) (r:List Int),rows[i]?=some r→j<5→(rows.flatten.map (Value.int .i64))[i*5+j]?=some (.int .i64 (r.getD j 0))
 | [],_,i,j,r,h,_ => by simp at h
 | s :: rows,h5,0,j,r,h,hj => by
  simp at h
  subst h
  have h6:=h5 s (List.mem_cons_self ..)
  rw[List.flatten_cons,List.map_append,List.getElem?_append_left (by simp;omega),Nat.zero_mul,Nat.zero_add,List.getElem?_map,List.getD_eq_getElem?_getD,List.getElem?_eq_getElem (by omega)]
  rfl
 | s :: rows,h5,i + 1,j,r,h,hj => by
  have h6:=h5 s (List.mem_cons_self ..)
  rw[List.flatten_cons,List.map_append,List.getElem?_append_right (by simp;omega)]
  have e:(i+1)*5+j - (s.map (Value.int .i64)).length=i*5+j:=by rw[List.length_map,h6];omega
  rw[e]
  exact flat5 rows (fun r hr=>h5 r (List.mem_cons_of_mem _ hr)) i j r (by simpa using h) hj
theorem RU5.at {w:World} {base:Nat} {v:Value} {us:List (Int×Int)} {rows:List (List Int)} (h:RU5 w base v us rows):∃ A c,v=.slice A rows.length c∧∀ (i:Nat) (r:List Int),rows[i]?=some r→∃ g,A=some ⟨g,0,none⟩∧g<w.heap.size∧∀ j,j<5→w.cell? ⟨g,i*5+j,none⟩=some (.int .i64 (r.getD j 0)):=by
 obtain⟨h1,h2,h3⟩:=h
 have hl:us.length=rows.length:=by rw[← h1,List.length_map]
 have h3':=h3
 rw[hl]at h3'
 rcases h3'.2 with⟨rfl,h⟩|⟨g,cap,cur,rfl,_⟩
 ·have h0:rows.length=0:=by simpa using h
  refine⟨none,0,by rw[h0],fun i r hr=>?_⟩
  have:=(List.getElem?_eq_some_iff.1 hr).1
  omega
 ·refine⟨_,_,rfl,fun i r hr=>⟨g,rfl,(h3'.lt g rfl).2,fun j hj=>?_⟩⟩
  have hi:=(List.getElem?_eq_some_iff.1 hr).1
  rw[World.ownsRow.cellAt h3' (i*5+j) (by omega)]
  exact flat5 rows h2 i j r hr hj
theorem lists_ints {bs:List BlockM} {w w':World} {g gp:Nat} {vs:List Value} (h:Lists w g gp bs.length vs (predsAt bs bs.length bs.length 0)) (hb:Below w.heap.size w w') (hn5:bs.length≤512) {b:Nat} (hb':b<bs.length) :
  ∃ v,w'.cell? ⟨gp,b,none⟩=some v∧Ints w' w'.heap.size v (predsI bs b):=by
 obtain⟨v,hv⟩:∃ v,vs[b]?=some v:=⟨_,List.getElem?_eq_getElem (by rw[h.vl];exact hb')⟩
 have hl:(predsAt bs bs.length bs.length 0)[b]?=some (predsTo bs bs.length b):=by rw[predsAt_at hb'];simp
 have ho:=own_kept_below (h.own b v _ hv hl) hb (fun k hk=>((h.own b v _ hv hl).lt k hk).2)
 have hR:=own_kept_below h.row hb (fun k hk=>(h.row.lt k hk).2)
 exact⟨v,by rw[World.ownsRow.cellAt hR b (by omega)];exact hv,nat_ints ho (by have:=predsTo_len bs bs.length b;omega)⟩
set_option maxRecDepth 100000 in
set_option maxHeartbeats 2000000 in
theorem refStrict_no (f:FuncM) (B:Nat) (pv bv:Value) (w:World) (hpv:Ints w B pv f.params) (hbv:BlocksR w B bv f.blocks) (hB:B≤w.heap.size) (h0:(lookM f).1≠0) :
  Calls Tryz.prog 17 #[.agg #[pv,.int .i64 f.arrays,.int .i64 f.cells,bv]] w fun e w'=>e=.returned (.tuple #[.int .i64 0,.int .i64 (lookM f).1])∧Below w.heap.size w w':=by
 have HP:=hideI hpv
 have HBL:=hideI hbv
 obtain⟨P,pc,rfl,_⟩:=hpv
 obtain⟨A,c,rfl,_,_⟩:=hbv
 have hb:((lookM f).1 != 0)=true:=by simpa using h0
 have HB0:Hid (Below w.heap.size w (w.alloc (.cells #[.slice P f.params.length pc,.int .i64 f.arrays,.int .i64 f.cells,.slice A f.blocks.length c] 25))):=(Below.refl _ w).alloc (Nat.le_refl _) _
 clear h0
 go_enter Tryz.func17,Tryz.ntmps17
 go_wp2_with (go_at_call 43;go_must (refine(refCheck_any f B _ _ _ (HP.out.keeps (Keeps.of_below (HB0.out.mono hB))) (HBL.out.keeps (Keeps.of_below (HB0.out.mono hB))) (by simp;omega)).mono ?_);rintro e w1 ⟨rfl,hb1⟩;have HB1:=hideI (HB0.out.trans (hb1.mono (by simp)));clear hb1)
 go_ret2
 exact⟨rfl,HB1.out⟩
set_option maxRecDepth 100000 in
set_option maxHeartbeats 16000000 in
theorem refStrict_yes (f:FuncM) (o:List Nat) (B:Nat) (pv bv:Value) (w:World) (hpv:Ints w B pv f.params) (hbv:BlocksR w B bv f.blocks) (hB:B≤w.heap.size) (hid:∀ u∈usesM f,I64 u.1) (h0:(lookM f).1=0) (ho:OrderIs f.blocks o) :
  Calls Tryz.prog 17 #[.agg #[pv,.int .i64 f.arrays,.int .i64 f.cells,bv]] w (FaultPost f.blocks.length (·∈o) (phisR f) (usesPR f o) w):=by
 have HP:=hideI hpv
 have HBL:=hideI hbv
 have H0:=hideI h0
 have HO:=hideI ho
 have hnb:=look_some_block h0
 have hn0:=hnb.1
 have hn5:=hnb.2
 have HIN:=hideI (look_ends h0)
 have HFEW:=hideI (look_few h0)
 have HFEWV:=hideI (look_fewv h0)
 have HFO:=hideI (look_form h0)
 have HPH:=hideI (look_phi h0)
 have HROW:=hideI (fun r=>row_is h0 hid (r:=r))
 have HLF:=hideI (Placed.last_first (placed_nodup h0))
 obtain⟨G,hG⟩:=grid_over f.blocks o
 have HG:=hideI hG
 obtain⟨P,pc,rfl,hpm,_⟩:=hpv
 obtain⟨A,c,rfl,hbm,_⟩:=hbv
 obtain⟨W,hW⟩:∃ W:World,W=w.alloc (.cells #[.slice P f.params.length pc,.int .i64 f.arrays,.int .i64 f.cells,.slice A f.blocks.length c] 25):=⟨_,rfl⟩
 have HBW:Hid (Below w.heap.size w W):=by show Below _ _ _;rw[hW];exact(Below.refl _ _).alloc (Nat.le_refl _) _
 have HXW:Hid (W.heap[w.heap.size]?=some (.cells #[.slice P f.params.length pc,.int .i64 f.arrays,.int .i64 f.cells,.slice A f.blocks.length c] 25 (0,0))):=by show _=_;rw[hW];exact heap_alloc_new w _
 have hwW:w.heap.size<W.heap.size:=lt_of_heap HXW.out
 have HW0:=hideI hW
 have G0:Hid (∀ W2,Below W.heap.size W W2→(∀ o,W2.cell? ⟨w.heap.size,o,none⟩=(#[.slice P f.params.length pc,.int .i64 f.arrays,.int .i64 f.cells,.slice A f.blocks.length c]:Array Value)[o]?)∧Ints W2 B (.slice P f.params.length pc) f.params∧BlocksR W2 B (.slice A f.blocks.length c) f.blocks∧B≤W2.heap.size∧Below w.heap.size w W2):=hideI (fun W2 h2=>by
  have h3:Below w.heap.size w W2:=HBW.out.trans (h2.mono HBW.out.size)
  exact⟨row_cells HXW.out (h2.block _ hwW),HP.out.keeps (Keeps.of_below (h3.mono hB)),HBL.out.keeps (Keeps.of_below (h3.mono hB)),Nat.le_trans hB h3.size,h3⟩)
 obtain⟨hx,_,_⟩:=G0.out W (Below.refl _ _)
 have q0:=hx 0
 have q1:=hx 1
 have q2:=hx 2
 have q3:=hx 3
 clear hid h0 ho hG hW hx hnb
 go_enter Tryz.func17,Tryz.ntmps17
 go_upto_region 1 with fail
 rw[← HW0.out]
 clear HW0
 go_wp2_with (first
  | (go_at_call 43;go_must (refine(refCheck_any f B _ _ _ (G0.out _ (Below.refl _ _)).2.1 (G0.out _ (Below.refl _ _)).2.2.1 (G0.out _ (Below.refl _ _)).2.2.2.1).mono ?_);rw[H0.out];rintro e w1 ⟨rfl,hb1⟩;have HB1:Hid (Below W.heap.size W w1):=hideI hb1;clear hb1 q0 q1 q2 q3;(obtain⟨hx,_,_⟩:=G0.out _ HB1.out);have q0:=hx 0;have q1:=hx 1;have q2:=hx 2;have q3:=hx 3;clear hx)
  | (go_at_call 44;go_must (refine(refWithout_all f.blocks B _ _ _ _ (-1) _ (G0.out _ HB1.out).2.2.1 (G0.out _ HB1.out).2.2.2.1 hn0 hn5 HIN.out).mono ?_);rintro e w2 ⟨S0,gA,rfl,hS,hown,hb2⟩;have HS0:Hid (∀ x,x∈S0↔x∈o):=hideI (fun x=>(hS x).trans (HO.out.reach x).symm);have HOA:=hideI hown;have HB2:Hid (Below W.heap.size W w2):=hideI (HB1.out.trans (hb2.mono HB1.out.size));clear hS hown hb2 q0 q1 q2 q3;(obtain⟨hx,_,_⟩:=G0.out _ HB2.out);have q0:=hx 0;have q1:=hx 1;have q2:=hx 2;have q3:=hx 3;clear hx))
 clear q0 q1 q2 q3
 go_loopw [6] (fun u wr=>∃ k:Nat,k≤f.blocks.length∧u=.int .i64 k∧Hid (∀ a,a<k→a∈o)∧wr=w2) (fun u _=>f.blocks.length - (intOf u).toNat)
 case atStart => exact⟨0,Nat.zero_le _,rfl,hideI (fun a h=>by omega),rfl⟩
 case round =>
  obtain⟨k,hk,rfl,HAk,hw⟩:=hrel
  obtain rfl:=hw.symm
  by_cases hlt:k<f.blocks.length
  ·have c1:w2.cell? ⟨gA,k,none⟩=some (.bool (decide (k∈S0))):=by rw[World.ownsRow.cellAt HOA.out k (by omega),marks_at hlt]
   have HKO:Hid (k∈S0↔k∈o):=hideI (HS0.out k)
   have HLT:=hideI hlt
   cases hd:decide (k∈S0)
   ·have HBAD:Hid (¬ (k∈o)):=hideI (fun h=>of_decide_eq_false hd (HKO.out.2 h))
    rw[hd]at c1
    clear hd
    go_wp2
    go_ret2
    exact⟨_,_,rfl,.inl ⟨k,⟨HLT.out,HBAD.out,HAk.out⟩,rfl⟩,(G0.out _ HB2.out).2.2.2.2⟩
   ·have HOK:Hid (k∈o):=hideI (HKO.out.1 (of_decide_eq_true hd))
    rw[hd]at c1
    clear hd
    go_wp2
    go_roundw
    case rel => exact⟨k+1,by omega,by go_num,hideI (upto_succ HAk.out HOK.out),by first|rfl|trivial⟩
    case measure => simp[intOf];omega
  ·have HALL:Hid (∀ b,b<f.blocks.length→b∈o):=hideI (fun b hb=>HAk.out b (by omega))
   (obtain⟨hx,_,_⟩:=G0.out _ HB2.out);have q0:=hx 0;have q1:=hx 1;have q2:=hx 2;have q3:=hx 3;clear hx
   go_wp2_with (go_at_call 45;go_must (refine(refPreds_any f.blocks B _ _ _ _ _ (G0.out _ HB2.out).2.2.1 (G0.out _ HB2.out).2.2.2.1 hn5 HIN.out).mono ?_);rintro e w3 ⟨gp,pvs,rfl,hls,hb3⟩;have HPL:=hideI hls;have HB3:Hid (Below W.heap.size W w3):=hideI (HB2.out.trans (hb3.mono HB2.out.size));clear hls hb3 q0 q1 q2 q3)
   have hgp:gp<w3.heap.size:=(HPL.out.lt).2
   go_loopw [8] (fun u wr=>∃ k:Nat,k≤f.blocks.length∧u=.int .i64 k∧Hid (∀ a,a<k→phisR f a)∧Hid (Below w3.heap.size w3 wr)) (fun u _=>f.blocks.length - (intOf u).toNat)
   case atStart => exact⟨0,Nat.zero_le _,rfl,hideI (fun a h=>by omega),hideI (Below.refl _ _)⟩
   case round =>
    obtain⟨k,hk,rfl,HPk,HBr⟩:=hrel
    have HBWr:Hid (Below W.heap.size W wr):=hideI (HB3.out.trans (HBr.out.mono HB3.out.size))
    by_cases hlt:k<f.blocks.length
    ·obtain⟨q,hq⟩:∃ q,f.blocks[k]?=some q:=⟨_,List.getElem?_eq_getElem hlt⟩
     have HLT:=hideI hlt
     have HGr:Hid (∀ W2,Below wr.heap.size wr W2→Below W.heap.size W W2∧Below w3.heap.size w3 W2):=hideI (fun W2 h2=>⟨HBWr.out.trans (h2.mono HBWr.out.size),HBr.out.trans (h2.mono HBr.out.size)⟩)
     obtain⟨A',c',e0,_,hbx⟩:=(G0.out _ HBWr.out).2.2.1
     cases e0
     have hBr:=(G0.out _ HBWr.out).2.2.2.1
     obtain⟨b1,off,qpv,qcv,qtv,rfl,hb1,x0,x1,x2,x3,x4,x5,hqp,hqc,hqt,_⟩:=hbx k q hq
     obtain⟨v,hv,hvi⟩:=lists_ints HPL.out HBr.out hn5 hlt
     have HXB:Hid (∀ W2,Below wr.heap.size wr W2→W2.cell? ⟨b1,off+k*6,none⟩=some qpv∧W2.cell? ⟨b1,off+k*6+1,none⟩=some qcv∧W2.cell? ⟨b1,off+k*6+2,none⟩=some (.int .i64 q.term.op)∧W2.cell? ⟨b1,off+k*6+3,none⟩=some (.int .i64 q.term.val)∧W2.cell? ⟨b1,off+k*6+4,none⟩=some qtv∧W2.cell? ⟨b1,off+k*6+5,none⟩=some (.int .i64 q.term.n)∧W2.cell? ⟨gp,k,none⟩=some v):=hideI (fun W2 h2=>⟨(h2.cell (p:=⟨b1,off+k*6,none⟩) (by show b1<_;omega)).trans x0,(h2.cell (p:=⟨b1,off+k*6+1,none⟩) (by show b1<_;omega)).trans x1,(h2.cell (p:=⟨b1,off+k*6+2,none⟩) (by show b1<_;omega)).trans x2,(h2.cell (p:=⟨b1,off+k*6+3,none⟩) (by show b1<_;omega)).trans x3,(h2.cell (p:=⟨b1,off+k*6+4,none⟩) (by show b1<_;omega)).trans x4,(h2.cell (p:=⟨b1,off+k*6+5,none⟩) (by show b1<_;omega)).trans x5,(h2.cell (p:=⟨gp,k,none⟩) (by show gp<_;have:=HBr.out.size;omega)).trans hv⟩)
     have HS:Hid (∀ W2,Below wr.heap.size wr W2→(∀ o,W2.cell? ⟨w.heap.size,o,none⟩=(#[.slice P f.params.length pc,.int .i64 f.arrays,.int .i64 f.cells,.slice (some ⟨b1,off,none⟩) f.blocks.length c]:Array Value)[o]?)∧W2.cell? ⟨b1,off+k*6,none⟩=some qpv∧W2.cell? ⟨b1,off+k*6+1,none⟩=some qcv∧W2.cell? ⟨b1,off+k*6+2,none⟩=some (.int .i64 q.term.op)∧W2.cell? ⟨b1,off+k*6+3,none⟩=some (.int .i64 q.term.val)∧W2.cell? ⟨b1,off+k*6+4,none⟩=some qtv∧W2.cell? ⟨b1,off+k*6+5,none⟩=some (.int .i64 q.term.n)∧W2.cell? ⟨gp,k,none⟩=some v):=hideI (fun W2 h2=>⟨(G0.out _ (HGr.out _ h2).1).1,HXB.out _ h2⟩)
     obtain⟨CA,cc,hqc',_⟩:=hqc
     obtain⟨TA,tc,hqt',_⟩:=hqt
     obtain⟨PA,pc2,hqp',hqp2⟩:=hqp
     have HQP:=hideI (show PhisR wr B qpv q.phis from⟨PA,pc2,hqp',hqp2⟩)
     have HVI:=hideI hvi
     obtain⟨VA,vc,hv',_⟩:=hvi
     subst hqc' hqt' hqp' hv'
     have hc:∀ W2,Below wr.heap.size wr W2→Calls Tryz.prog 46 #[.agg #[.slice PA q.phis.length pc2,.slice CA q.code.length cc,.int .i64 q.term.op,.int .i64 q.term.val,.slice TA q.term.to.length tc,.int .i64 q.term.n],.slice VA (predsI f.blocks k).length vc] W2 fun e w'=>e=.returned (.bool (q.phis.all fun p=>justR p.fr (predsI f.blocks k)))∧Below W2.heap.size W2 w':=fun W2 h2 =>
      refPhis_any q (predsI f.blocks k) W2.heap.size _ _ _ _ _ _ _ W2 (PhisR.more' (HQP.out.keeps (Keeps.of_below (h2.mono hBr))) (Nat.le_trans hBr h2.size)) ((HVI.out.keeps (Keeps.of_below h2)).more h2.size) (Nat.le_refl _) (Nat.le_trans (predsI_len _ _) hn5) _ _ _ rfl _ _ _ rfl
     obtain⟨z,hz⟩:∃ z:Bool,z=q.phis.all fun p=>justR p.fr (predsI f.blocks k):=⟨_,rfl⟩
     have HZ:Hid (z=true↔phisR f k):=hideI (by
      rw[hz,show(q.phis.all fun p=>justR p.fr (predsI f.blocks k))=phisFitR f.blocks k q from rfl,phisFitR_eq H0.out hq]
      exact⟨fun e q' hq'=>by rw[hq]at hq';cases hq';exact e,fun h=>h q hq⟩)
     rw[← hz]at hc
     have HC:=hideI hc
     (obtain⟨hx,d0,d1,d2,d3,d4,d5,d6⟩:=HS.out _ (Below.refl _ _));have q3:=hx 3
     clear hz hc hq hbx x0 x1 x2 x3 x4 x5 hv hqp2
     cases z
     ·have HBAD:Hid (¬ phisR f k):=hideI (fun h=>Bool.noConfusion (HZ.out.2 h))
      go_wp2
      go_region_held3 (fun W2=>(∀ o,W2.cell? ⟨w.heap.size,o,none⟩=(#[.slice P f.params.length pc,.int .i64 f.arrays,.int .i64 f.cells,.slice (some ⟨b1,off,none⟩) f.blocks.length c]:Array Value)[o]?)∧W2.cell? ⟨b1,off+k*6,none⟩=some (.slice PA q.phis.length pc2)∧W2.cell? ⟨b1,off+k*6+1,none⟩=some (.slice CA q.code.length cc)∧W2.cell? ⟨b1,off+k*6+2,none⟩=some (.int .i64 q.term.op)∧W2.cell? ⟨b1,off+k*6+3,none⟩=some (.int .i64 q.term.val)∧W2.cell? ⟨b1,off+k*6+4,none⟩=some (.slice TA q.term.to.length tc)∧W2.cell? ⟨b1,off+k*6+5,none⟩=some (.int .i64 q.term.n)∧W2.cell? ⟨gp,k,none⟩=some (.slice VA (predsI f.blocks k).length vc)) (first|(with_reducible exact HS.out _ hfb4)|go_keep)
       (first
        | (go_at_call 46;(with_reducible refine(HC.out _ (drew1_below (Below.refl _ _))).mono ?_);rintro e w4 ⟨rfl,hb4⟩;have hfb4:=(drew1_below (Below.refl wr.heap.size wr)).trans hb4))
      go_wp2
      go_ret2
      exact⟨_,_,rfl,.inr (.inl ⟨HALL.out,k,⟨HLT.out,HBAD.out,HPk.out⟩,rfl⟩),(G0.out _ (HGr.out _ hfb4).1).2.2.2.2⟩
     ·have HOK:Hid (phisR f k):=hideI (HZ.out.1 rfl)
      go_wp2
      go_region_held3 (fun W2=>(∀ o,W2.cell? ⟨w.heap.size,o,none⟩=(#[.slice P f.params.length pc,.int .i64 f.arrays,.int .i64 f.cells,.slice (some ⟨b1,off,none⟩) f.blocks.length c]:Array Value)[o]?)∧W2.cell? ⟨b1,off+k*6,none⟩=some (.slice PA q.phis.length pc2)∧W2.cell? ⟨b1,off+k*6+1,none⟩=some (.slice CA q.code.length cc)∧W2.cell? ⟨b1,off+k*6+2,none⟩=some (.int .i64 q.term.op)∧W2.cell? ⟨b1,off+k*6+3,none⟩=some (.int .i64 q.term.val)∧W2.cell? ⟨b1,off+k*6+4,none⟩=some (.slice TA q.term.to.length tc)∧W2.cell? ⟨b1,off+k*6+5,none⟩=some (.int .i64 q.term.n)∧W2.cell? ⟨gp,k,none⟩=some (.slice VA (predsI f.blocks k).length vc)) (first|(with_reducible exact HS.out _ hfb4)|go_keep)
       (first
        | (go_at_call 46;(with_reducible refine(HC.out _ (drew1_below (Below.refl _ _))).mono ?_);rintro e w4 ⟨rfl,hb4⟩;have hfb4:=(drew1_below (Below.refl wr.heap.size wr)).trans hb4))
      go_wp2
      go_roundw
      case rel => exact⟨k+1,by omega,by go_num,hideI (upto_succ HPk.out HOK.out),hideI (HGr.out _ hfb4).2⟩
      case measure => simp[intOf];omega
    ·have HPALL:Hid (∀ b,b<f.blocks.length→phisR f b):=hideI (fun b hb=>HPk.out b (by omega))
     (obtain⟨hx,_,_⟩:=G0.out _ HBWr.out);have q0:=hx 0;have q1:=hx 1;have q2:=hx 2;have q3:=hx 3;clear hx
     obtain⟨rs,hrs⟩:∃ rs,rs=rowsTo f.blocks f.blocks.length:=⟨_,rfl⟩
     have HRS:=hideI hrs
     clear hrs
     go_wp2_with (first
      | (go_at_call 47;go_must (refine(refOver_any f.blocks o G B _ _ _ _ _ (G0.out _ HBWr.out).2.2.1 (G0.out _ HBWr.out).2.2.2.1 hn0 hn5 HIN.out HO.out HG.out).mono ?_);rintro e w5 ⟨gvv,rfl,hgr,hb5⟩;(obtain⟨gv,gc,rfl,hgv⟩:=id hgr);have HGR:=hideI hgr;have HB5:Hid (Below W.heap.size W w5):=hideI (HBWr.out.trans (hb5.mono HBWr.out.size));clear hgr hb5 hgv q0 q1 q2 q3;(obtain⟨hx,_,_⟩:=G0.out _ HB5.out);have q0:=hx 0;have q1:=hx 1;have q2:=hx 2;have q3:=hx 3;clear hx)
      | (go_at_call 15;go_must (refine(refUses5_any f.blocks B _ _ _ _ _ (G0.out _ HB5.out).2.2.1 (G0.out _ HB5.out).2.2.2.1 HFEW.out hn5 HFO.out HPH.out).mono ?_);rintro e w6 ⟨v6,rfl,hru,hb6⟩;rw[← HRS.out]at hru;(obtain⟨A6,c6,rfl,hat⟩:=RU5.at hru);have HAT:=hideI hat;have hrl:rs.length≤3000000:=(by rw[show rs.length=(f.blocks.flatMap usesBlock).length by rw[← hru.1,List.length_map]];exact HFEW.out);have HGR6:=hideI (HGR.out.kept hb6);have HB6:Hid (Below W.heap.size W w6):=hideI (HB5.out.trans (hb6.mono HB5.out.size));clear hru hat hb6 q0 q1 q2 q3))
     go_loopw [11] (fun u wr=>∃ i:Nat,i≤rs.length∧u=.int .i64 i∧Hid (∀ (j:Nat) (s:List Int),j<i→rs[j]?=some s→okRow f o s)∧Hid (Below w6.heap.size w6 wr)) (fun u _=>rs.length - (intOf u).toNat)
     case atStart => exact⟨0,Nat.zero_le _,rfl,hideI (fun j s h=>by omega),hideI (Below.refl _ _)⟩
     case round =>
      obtain⟨i,hi,rfl,HRi,HBr6⟩:=hrel
      by_cases hlt:i<rs.length
      ·obtain⟨r,hr⟩:∃ r,rs[i]?=some r:=⟨_,List.getElem?_eq_getElem hlt⟩
       have HR:=hideI hr
       have HB6r:Hid (Below W.heap.size W wr):=hideI (HB6.out.trans (HBr6.out.mono HB6.out.size))
       obtain⟨g6,rfl,hg6,hcell⟩:=HAT.out i r hr
       have hri:=HROW.out r (by rw[← HRS.out];exact List.mem_of_getElem? hr)
       obtain⟨hi64,mb,ma,hlast,hmb⟩:=hri.known
       obtain⟨bn,hbn,hbl⟩:=hri.blk
       obtain⟨fn,hfn,hfl⟩:=hri.frm
       have HOKR:Hid (okRow f o r↔if r.getD 3 0<0 then OverP f.blocks o mb fn else if mb=bn then ma<r.getD 3 0 else OverP f.blocks o mb bn):=hideI (by
        unfold okRow
        rw[hbn,hfn]
        simp only[Int.toNat_natCast]
        constructor
        ·intro h
         have h2:=h (mb,ma) hlast
         by_cases hc:mb=bn
         ·subst hc
          simpa using h2
         ·have hc2:¬ ((mb:Int)=(bn:Int)):=by omega
          simpa [hc,hc2] using h2
        ·intro h m hm
         rw[hlast]at hm
         cases hm
         by_cases hc:mb=bn
         ·subst hc
          simpa using h
         ·have hc2:¬ ((mb:Int)=(bn:Int)):=by omega
          simpa [hc,hc2] using h)
       have HFIRST:Hid ((placedM f).first (r.getD 0 0)=some (mb,ma)):=hideI (by rw[← HLF.out];exact hlast)
       have e0:=(HBr6.out.cell (p:=⟨g6,i*5+0,none⟩) hg6).trans (hcell 0 (by decide))
       have e1:=(HBr6.out.cell (p:=⟨g6,i*5+1,none⟩) hg6).trans (hcell 1 (by decide))
       have e2:=(HBr6.out.cell (p:=⟨g6,i*5+2,none⟩) hg6).trans (hcell 2 (by decide))
       have e3:=(HBr6.out.cell (p:=⟨g6,i*5+3,none⟩) hg6).trans (hcell 3 (by decide))
       have e4:=(HBr6.out.cell (p:=⟨g6,i*5+4,none⟩) hg6).trans (hcell 4 (by decide))
       rw[hbn]at e2
       rw[hfn]at e4
       rw[Nat.add_zero]at e0
       obtain⟨id,hid⟩:∃ id,id=r.getD 0 0:=⟨_,rfl⟩
       obtain⟨ty,hty⟩:∃ ty,ty=r.getD 1 0:=⟨_,rfl⟩
       obtain⟨a,ha⟩:∃ a,a=r.getD 3 0:=⟨_,rfl⟩
       rw[← hid]at e0 HFIRST
       rw[← hty]at e1
       rw[← ha]at e3 HOKR
       have HHB:Hid (r.getD 2 0=(bn:Int)):=hideI hbn
       obtain⟨W7,hW7⟩:∃ W7:World,W7=wr.alloc (.cells #[.int .i64 id,.int .i64 ty,.int .i64 bn,.int .i64 a,.int .i64 fn] 39):=⟨_,rfl⟩
       have HW7:=hideI hW7
       have HB7:Hid (Below wr.heap.size wr W7):=by show Below _ _ _;rw[hW7];exact(Below.refl _ _).alloc (Nat.le_refl _) _
       have HX7:Hid (W7.heap[wr.heap.size]?=some (.cells #[.int .i64 id,.int .i64 ty,.int .i64 bn,.int .i64 a,.int .i64 fn] 39 (0,0))):=by show _=_;rw[hW7];exact heap_alloc_new wr _
       have hw7:=lt_of_heap HX7.out
       have HG7:Hid (∀ W2,Below W7.heap.size W7 W2→Below W.heap.size W W2∧Below w6.heap.size w6 W2):=hideI (fun W2 h2=>by
        have h3:=HB7.out.trans (h2.mono HB7.out.size)
        exact⟨HB6r.out.trans (h3.mono HB6r.out.size),HBr6.out.trans (h3.mono HBr6.out.size)⟩)
       have HDEF:Hid (Calls Tryz.prog 48 #[.agg #[.slice P f.params.length pc,.int .i64 f.arrays,.int .i64 f.cells,.slice A f.blocks.length c],.int .i64 id] W7 fun e w'=>e=.returned (.tuple #[.int .i64 (mb:Int),.int .i64 ma,.bool true])∧Below W7.heap.size W7 w'):=hideI (by
        have hg:=G0.out _ (HG7.out _ (Below.refl _ _)).1
        refine(refDef_any f B _ _ id _ hg.2.1 hg.2.2.1 hg.2.2.2.1 HFEWV.out hn5).mono ?_
        rintro e w' ⟨⟨v,hv,rfl⟩|⟨hbad,_⟩,hb⟩
        ·rw[HFIRST.out]at hv
         cases hv
         exact⟨rfl,hb⟩
        ·rw[HFIRST.out]at hbad
         cases hbad)
       have HGRD:Hid (∀ W2,Below W7.heap.size W7 W2→∃ ga,W2.cell? ⟨gv,mb,none⟩=some (.slice (some ⟨ga,0,none⟩) f.blocks.length f.blocks.length)∧W2.cell? ⟨ga,bn,none⟩=some (.bool (G mb bn))∧W2.cell? ⟨ga,fn,none⟩=some (.bool (G mb fn))):=hideI (fun W2 h2=>by
        obtain⟨gv2,c2,e,_,h4⟩:=HGR6.out.kept (HG7.out _ h2).2
        cases e
        obtain⟨ga,_,h5,h6⟩:=h4 mb hmb
        exact⟨ga,h5,h6 bn hbl,h6 fn hfl⟩)
       (obtain⟨hx,_,_⟩:=G0.out _ HB6r.out);have q0:=hx 0;have q1:=hx 1;have q2:=hx 2;have q3:=hx 3;clear hx
       have hl0:w.heap.size<wr.heap.size:=by have:=HB6r.out.size;omega
       have hl6:g6<wr.heap.size:=by have:=HBr6.out.size;omega
       clear hW7 hcell hi64 hlast hri hr hbn hfn hid hty ha
       by_cases hna:a<0
       ·obtain⟨z,hz⟩:∃ z:Bool,z=G mb fn:=⟨_,rfl⟩
        have HZ:Hid (z=true↔okRow f o r):=hideI (by rw[HOKR.out,if_pos hna,hz];exact HG.out mb fn)
        rw[← hz]at HGRD
        clear hz HOKR
        cases z
        ·have HBAD:Hid (¬ okRow f o r):=hideI (fun h=>Bool.noConfusion (HZ.out.2 h))
         go_wp2_with (go_at_call 48;(go_must (rw[← HW7.out]));go_must (refine HDEF.out.mono ?_);rintro e w8 ⟨rfl,hb8⟩;(obtain⟨ga,k1,k2,k3⟩:=HGRD.out _ hb8);(have hy:=row_cells HX7.out (hb8.block _ hw7));have y0:=hy 0;have y1:=hy 1;have y2:=hy 2;have y3:=hy 3;have y4:=hy 4;have HB8:=hideI hb8;clear hb8 hy q0 q1 q2 q3 e0 e1 e2 e3 e4)
         go_quiet (fail)
         go_wp2
         go_quiet (fail)
         go_wp2
         go_ret2
         obtain⟨bx,hbx1,hbx2⟩:=rows_bad H0.out HALL.out (by rw[← HRS.out];exact HR.out) (fun j s hj hs=>HRi.out j s hj (by rw[HRS.out];exact hs)) HBAD.out
         rw[HHB.out]at hbx2
         exact⟨_,_,rfl,.inr (.inr (.inl ⟨HALL.out,HPALL.out,bx,hbx1,by rw[hbx2]⟩)),(G0.out _ (HG7.out _ (drew_below HB8.out _)).1).2.2.2.2⟩
        ·have HOK:Hid (okRow f o r):=hideI (HZ.out.1 rfl)
         go_wp2_with (go_at_call 48;(go_must (rw[← HW7.out]));go_must (refine HDEF.out.mono ?_);rintro e w8 ⟨rfl,hb8⟩;(obtain⟨ga,k1,k2,k3⟩:=HGRD.out _ hb8);(have hy:=row_cells HX7.out (hb8.block _ hw7));have y0:=hy 0;have y1:=hy 1;have y2:=hy 2;have y3:=hy 3;have y4:=hy 4;have HB8:=hideI hb8;clear hb8 hy q0 q1 q2 q3 e0 e1 e2 e3 e4)
         go_quiet (fail)
         go_wp2
         go_quiet (fail)
         go_wp2
         go_roundw
         case rel =>
          refine⟨i+1,by omega,by go_num,hideI (fun j s hj hs=>?_),hideI (HG7.out _ (drew_below HB8.out _)).2⟩
          rcases Nat.lt_or_ge j i with h|h
          ·exact HRi.out j s h hs
          ·have:j=i:=by omega
           subst this
           rw[HR.out]at hs
           cases hs
           exact HOK.out
         case measure => simp[intOf];omega
       ·by_cases hmm:mb=bn
        ·subst hmm
         obtain⟨z,hz⟩:∃ z:Bool,z=decide (ma<a):=⟨_,rfl⟩
         have HZ:Hid (z=true↔okRow f o r):=hideI (by rw[HOKR.out,if_neg hna,if_pos rfl,hz,decide_eq_true_iff])
         clear HOKR
         by_cases hlm:ma<a
         ·have HOK:Hid (okRow f o r):=hideI (HZ.out.1 (by rw[hz];exact decide_eq_true hlm))
          clear HZ hz
          go_wp2_with (go_at_call 48;(go_must (rw[← HW7.out]));go_must (refine HDEF.out.mono ?_);rintro e w8 ⟨rfl,hb8⟩;(obtain⟨ga,k1,k2,k3⟩:=HGRD.out _ hb8);(have hy:=row_cells HX7.out (hb8.block _ hw7));have y0:=hy 0;have y1:=hy 1;have y2:=hy 2;have y3:=hy 3;have y4:=hy 4;have HB8:=hideI hb8;clear hb8 hy q0 q1 q2 q3 e0 e1 e2 e3 e4)
          go_quiet (fail)
          go_wp2
          go_roundw
          case rel =>
           refine⟨i+1,by omega,by go_num,hideI (fun j s hj hs=>?_),hideI (HG7.out _ (drew_below HB8.out _)).2⟩
           rcases Nat.lt_or_ge j i with h|h
           ·exact HRi.out j s h hs
           ·have:j=i:=by omega
            subst this
            rw[HR.out]at hs
            cases hs
            exact HOK.out
          case measure => simp[intOf];omega
         ·have HBAD:Hid (¬ okRow f o r):=hideI (fun h=>by have:=HZ.out.2 h;rw[hz]at this;exact hlm (of_decide_eq_true this))
          have hnd:(!decide (ma<a))=true:=by rw[decide_eq_false hlm];rfl
          clear HZ hz
          go_wp2_with (go_at_call 48;(go_must (rw[← HW7.out]));go_must (refine HDEF.out.mono ?_);rintro e w8 ⟨rfl,hb8⟩;(obtain⟨ga,k1,k2,k3⟩:=HGRD.out _ hb8);(have hy:=row_cells HX7.out (hb8.block _ hw7));have y0:=hy 0;have y1:=hy 1;have y2:=hy 2;have y3:=hy 3;have y4:=hy 4;have HB8:=hideI hb8;clear hb8 hy q0 q1 q2 q3 e0 e1 e2 e3 e4)
          go_quiet (fail)
          go_wp2
          go_ret2
          obtain⟨bx,hbx1,hbx2⟩:=rows_bad H0.out HALL.out (by rw[← HRS.out];exact HR.out) (fun j s hj hs=>HRi.out j s hj (by rw[HRS.out];exact hs)) HBAD.out
          rw[HHB.out]at hbx2
          exact⟨_,_,rfl,.inr (.inr (.inl ⟨HALL.out,HPALL.out,bx,hbx1,by rw[hbx2]⟩)),(G0.out _ (HG7.out _ (drew_below HB8.out _)).1).2.2.2.2⟩
        ·obtain⟨z,hz⟩:∃ z:Bool,z=G mb bn:=⟨_,rfl⟩
         have HZ:Hid (z=true↔okRow f o r):=hideI (by rw[HOKR.out,if_neg hna,if_neg hmm,hz];exact HG.out mb bn)
         have hmb2:((mb:Int)==(bn:Int))=false:=beq_eq_false_iff_ne.2 (by omega)
         rw[← hz]at HGRD
         clear hz HOKR hmm
         cases z
         ·have HBAD:Hid (¬ okRow f o r):=hideI (fun h=>Bool.noConfusion (HZ.out.2 h))
          go_wp2_with (go_at_call 48;(go_must (rw[← HW7.out]));go_must (refine HDEF.out.mono ?_);rintro e w8 ⟨rfl,hb8⟩;(obtain⟨ga,k1,k2,k3⟩:=HGRD.out _ hb8);(have hy:=row_cells HX7.out (hb8.block _ hw7));have y0:=hy 0;have y1:=hy 1;have y2:=hy 2;have y3:=hy 3;have y4:=hy 4;have HB8:=hideI hb8;clear hb8 hy q0 q1 q2 q3 e0 e1 e2 e3 e4)
          go_quiet (fail)
          go_wp2
          go_ret2
          obtain⟨bx,hbx1,hbx2⟩:=rows_bad H0.out HALL.out (by rw[← HRS.out];exact HR.out) (fun j s hj hs=>HRi.out j s hj (by rw[HRS.out];exact hs)) HBAD.out
          rw[HHB.out]at hbx2
          exact⟨_,_,rfl,.inr (.inr (.inl ⟨HALL.out,HPALL.out,bx,hbx1,by rw[hbx2]⟩)),(G0.out _ (HG7.out _ (drew_below HB8.out _)).1).2.2.2.2⟩
         ·have HOK:Hid (okRow f o r):=hideI (HZ.out.1 rfl)
          go_wp2_with (go_at_call 48;(go_must (rw[← HW7.out]));go_must (refine HDEF.out.mono ?_);rintro e w8 ⟨rfl,hb8⟩;(obtain⟨ga,k1,k2,k3⟩:=HGRD.out _ hb8);(have hy:=row_cells HX7.out (hb8.block _ hw7));have y0:=hy 0;have y1:=hy 1;have y2:=hy 2;have y3:=hy 3;have y4:=hy 4;have HB8:=hideI hb8;clear hb8 hy q0 q1 q2 q3 e0 e1 e2 e3 e4)
          go_quiet (fail)
          go_wp2
          go_roundw
          case rel =>
           refine⟨i+1,by omega,by go_num,hideI (fun j s hj hs=>?_),hideI (HG7.out _ (drew_below HB8.out _)).2⟩
           rcases Nat.lt_or_ge j i with h|h
           ·exact HRi.out j s h hs
           ·have:j=i:=by omega
            subst this
            rw[HR.out]at hs
            cases hs
            exact HOK.out
          case measure => simp[intOf];omega
      ·have HEND:Hid (∀ b,b<f.blocks.length→usesPR f o b):=hideI (rows_good H0.out HALL.out (fun s hs=>by
        rw[← HRS.out]at hs
        obtain⟨j,hj⟩:=List.getElem?_of_mem hs
        exact HRi.out j s (by have:=(List.getElem?_eq_some_iff.1 hj).1;omega) hj))
       have HBe:=hideI (G0.out _ (HB6.out.trans (HBr6.out.mono HB6.out.size))).2.2.2.2
       go_wp2
       go_ret2
       exact⟨_,_,rfl,.inr (.inr (.inr ⟨HALL.out,HPALL.out,HEND.out,rfl⟩)),HBe.out⟩
end Go.Proofs.YtaehbgppfahdeaaGreat

namespace Go.Proofs.YtaehbgppfahdeaaGreat
open Go.RowKit Go.Maps
def RowOpen (f:FuncM) (ls:List LpM) (r:List Int):Prop:=∃ m,(placedM f).last (r.getD 0 0)=some m∧goesOut ls m.1 (rowU r).2.toNat=true
theorem open_rows {f:FuncM} {ls:List LpM} (hl:∀ b∈f.blocks,∀ x∈b.code,x.args.length=(takesS x.op).length) (id:Int) :
  OpenK f ls (blksU f.blocks f.blocks.length) id↔∃ (j:Nat) (r:List Int),j<(rowsTo f.blocks f.blocks.length).length∧(rowsTo f.blocks f.blocks.length)[j]?=some r∧r.getD 0 0=id∧RowOpen f ls r:=by
 rw[← rows_U f.blocks hl]
 constructor
 ·rintro⟨a,hm,m,hm1,hg⟩
  obtain⟨r,hr,e⟩:=List.mem_map.1 hm
  obtain⟨j,hj⟩:=List.getElem?_of_mem hr
  have e1:r.getD 0 0=id:=congrArg Prod.fst e
  have e2:(rowU r).2=a:=congrArg Prod.snd e
  exact⟨j,r,(List.getElem?_eq_some_iff.1 hj).1,hj,e1,m,by rw[e1];exact hm1,by rw[e2];exact hg⟩
 ·rintro⟨j,r,_,hj,e,m,hm,hg⟩
  exact⟨(rowU r).2,List.mem_map.2 ⟨r,List.mem_of_getElem? hj,by rw[← e];rfl⟩,m,by rw[← e];exact hm,hg⟩
structure RowKnown (f:FuncM) (r:List Int) (x:Int) (b a:Nat) (ma:Int):Prop where
 id_:r.getD 0 0=x
 i64:I64 x
 first:(placedM f).first x=some (b,ma)
 last:(placedM f).last x=some (b,ma)
 at_:(rowU r).2=(a:Int)
 blk:b<f.blocks.length
 nn:0≤x
 par:x<f.params.length→b=0
theorem row_known {f:FuncM} (h0:(lookM f).1=0) (hid:∀ u∈usesM f,I64 u.1) (hl:∀ b∈f.blocks,∀ x∈b.code,x.args.length=(takesS x.op).length) {r:List Int} (hr:r∈rowsTo f.blocks f.blocks.length):∃ x b a ma,RowKnown f r x b a ma:=by
 have hu:rowU r∈blksU f.blocks f.blocks.length:=by rw[← rows_U f.blocks hl];exact List.mem_map.2 ⟨r,hr,rfl⟩
 obtain⟨k,q,_,hq,hm⟩:=(blksU_mem _).1 hu
 have huk:=uses_known h0 hid
 have hka:∃ a:Nat,(rowU r).2=(a:Int)∧Known f (r.getD 0 0):=by
  unfold blkU at hm
  rcases List.mem_append.1 hm with hm|hm
  ·rcases List.mem_append.1 hm with hm|hm
   ·obtain⟨p,hp,hz⟩:=List.mem_flatMap.1 hm
    obtain⟨i,hi⟩:=List.getElem?_of_mem hz
    unfold phiU at hi
    rw[List.getElem?_zip_eq_some]at hi
    obtain⟨fr,q',hf,_,hk⟩:=huk.phi k q p i _ hq hp hi.1
    rw[hi.2]at hf
    exact⟨fr,Option.some.inj hf,hk⟩
   ·obtain⟨x,hx,hz⟩:=List.mem_flatMap.1 hm
    obtain⟨v,hv,e⟩:=List.mem_map.1 hz
    have e1:v=r.getD 0 0:=congrArg Prod.fst e
    have e2:(k:Int)=(rowU r).2:=congrArg Prod.snd e
    exact⟨k,e2.symm,by rw[← e1];exact huk.arg k q x v hq hx hv⟩
  ·unfold endU at hm
   split at hm
   ·rename_i hop
    have e:=List.mem_singleton.1 hm
    have e1:r.getD 0 0=q.term.val:=congrArg Prod.fst e
    have e2:(rowU r).2=(k:Int):=congrArg Prod.snd e
    exact⟨k,e2,by rw[e1];exact huk.term k q hq hop⟩
   ·cases hm
 obtain⟨a,ha,hi,b,ma,hlast,hb⟩:=hka
 have hfl:=Placed.last_first (placed_nodup h0) (r.getD 0 0)
 rw[hlast]at hfl
 have hmem:=Placed.mem_of_first hfl.symm
 have hnn:0≤r.getD 0 0:=by
  have h1:r.getD 0 0∈(placedM f).map (·.1):=List.mem_map.2 ⟨_,hmem,rfl⟩
  rw[placed_ids h0]at h1
  obtain⟨d,hd,e⟩:=List.mem_map.1 h1
  have h2:=(formed_keys (look_formed h0)).1 d (by rw[formed_eq (look_formed h0)];exact hd)
  rw[← e]
  exact h2.1
 refine⟨_,b,a,ma,rfl,hi,hfl.symm,hlast,ha,hb,hnn,fun hlt=>?_⟩
 have h1:=hfl.symm
 unfold placedM at h1
 rw[Placed.first_append,first_params,if_pos ⟨hnn,hlt⟩]at h1
 exact(congrArg Prod.fst (Option.some.inj h1)).symm
theorem form_hyps {f:FuncM} (h0:(lookM f).1=0):(∀ b∈f.blocks,∀ x∈b.code,x.args.length=(takesS x.op).length)∧(∀ b∈f.blocks,∀ p∈b.phis,p.vals.length=p.fr.length):=by
 have hr:=(formed_all (look_formed h0)).1
 refine⟨fun b hb x hx=>?_,fun b hb p hp=>?_⟩
 ·have h:=(hr b hb).2 x hx
  unfold instrB at h
  simp only[Bool.and_eq_true,beq_iff_eq]at h
  exact h.2.1
 ·have h:=(hr b hb).1 p hp
  unfold phiB at h
  simp only[Bool.and_eq_true,beq_iff_eq]at h
  exact h.2.1
def HitTo (ls:List LpM) (np x:Int) (b a k:Nat):Prop:=∃ (j:Nat) (y:LpM),j<k∧ls[j]?=some y∧np≤x∧b∈y.blocks∧a∉y.blocks
theorem hit_no {ls:List LpM} {np x:Int} {b a k:Nat} {y:LpM} (hy:ls[k]?=some y) (h:¬ (np≤x∧b∈y.blocks∧a∉y.blocks)):HitTo ls np x b a (k+1)↔HitTo ls np x b a k:=by
 constructor
 ·rintro⟨j,z,hj,hz,r⟩
  by_cases e:j=k
  ·subst e
   rw[hy]at hz
   cases hz
   exact absurd r h
  ·exact⟨j,z,by omega,hz,r⟩
 ·rintro⟨j,z,hj,hz,r⟩
  exact⟨j,z,by omega,hz,r⟩
theorem hit_yes {ls:List LpM} {np x:Int} {b a k:Nat} {y:LpM} (hy:ls[k]?=some y) (h:np≤x∧b∈y.blocks∧a∉y.blocks):HitTo ls np x b a (k+1):=⟨k,y,by omega,hy,h⟩
theorem open_hit {ls:List LpM} {np x:Int} {b a k:Nat} {S:Int→Prop} {id:Int} (h:HitTo ls np x b a (k+1)):(id=x∧HitTo ls np x b a (k+1))∨S id↔id=x∨(id=x∧HitTo ls np x b a k)∨S id:=by
 constructor
 ·rintro(⟨e,_⟩|hs)
  ·exact .inl e
  ·exact .inr (.inr hs)
 ·rintro(e|⟨e,_⟩|hs)
  ·exact .inl ⟨e,h⟩
  ·exact .inl ⟨e,h⟩
  ·exact .inr hs
theorem row_next {f:FuncM} {ls:List LpM} {rs:List (List Int)} {r:List Int} {x ma:Int} {b a i k np:Nat} {id:Int} (hk:RowKnown f r x b a ma) (hr:rs[i]?=some r) (hnp:np=f.params.length) (hz:∀ y∈ls,0∉y.blocks) (ho:∀ b a,goesOut ls b a=true↔∃ y∈ls,b∈y.blocks∧a∉y.blocks) (hkl:k=ls.length) :
  (∃ (j:Nat) (r:List Int),j<i+1∧rs[j]?=some r∧r.getD 0 0=id∧RowOpen f ls r)↔(id=x∧HitTo ls np x b a k)∨∃ (j:Nat) (r:List Int),j<i∧rs[j]?=some r∧r.getD 0 0=id∧RowOpen f ls r:=by
 have hro:RowOpen f ls r↔HitTo ls np x b a k:=by
  have h1:RowOpen f ls r↔goesOut ls b a=true:=by
   unfold RowOpen
   rw[hk.id_,hk.last,hk.at_]
   constructor
   ·rintro⟨m,hm,hg⟩
    cases hm
    simpa using hg
   ·intro hg
    exact⟨_,rfl,by simpa using hg⟩
  rw[h1,ho]
  constructor
  ·rintro⟨y,hy,hb,ha⟩
   obtain⟨j,hj⟩:=List.getElem?_of_mem hy
   refine⟨j,y,by rw[hkl];exact(List.getElem?_eq_some_iff.1 hj).1,hj,?_,hb,ha⟩
   by_cases hp:(np:Int)≤x
   ·exact hp
   ·have:=hk.par (by omega)
    rw[this]at hb
    exact absurd hb (hz y hy)
  ·rintro⟨j,y,_,hj,_,hb,ha⟩
   exact⟨y,List.mem_of_getElem? hj,hb,ha⟩
 constructor
 ·rintro⟨j,r',hj,hr',e,h⟩
  by_cases e1:j=i
  ·subst e1
   rw[hr]at hr'
   cases hr'
   exact .inl ⟨by rw[← e,hk.id_],hro.1 h⟩
  ·exact .inr ⟨j,r',by omega,hr',e,h⟩
 ·rintro(⟨e,h⟩|⟨j,r',hj,r''⟩)
  ·exact⟨i,r,by omega,hr,by rw[hk.id_,e],hro.2 h⟩
  ·exact⟨j,r',by omega,r''⟩
set_option maxRecDepth 100000 in
set_option maxHeartbeats 4000000 in
theorem refFirst11_any (f:FuncM) (o:List Nat) (pl:Nat→Nat) (par:Nat→Option Nat) (D L:Nat→Nat→Bool) (B pc n c np:Nat) (P A:Option Addr) (w:World) (K:LoopsOf f o pl par D L) (hid:∀ u∈usesM f,I64 u.1) (hfew:FewV f) (hfe:Few f.blocks)
  (hpv:Ints w B (.slice P np pc) f.params) (hbv:BlocksR w B (.slice A n c) f.blocks) (hB:B≤w.heap.size) (hn:n=f.blocks.length) (hnp:np=f.params.length) :
  Calls Tryz.prog 22 #[.agg #[.slice P np pc,.int .i64 f.arrays,.int .i64 f.cells,.slice A n c]] w fun e w'=>∃ r,e=.returned (.int .i64 r)∧SBest (OpenK f (loopsM f.blocks D L) (blksU f.blocks f.blocks.length)) r∧Below w.heap.size w w':=by
 have h0:=K.strict.look
 have hnb:=look_some_block h0
 have hfh:=form_hyps h0
 have hA:AllIn f.blocks o:=fun b hb=>K.strict.come b hb
 obtain⟨W,hW⟩:∃ W:World,W=w.alloc (.cells #[.slice P np pc,.int .i64 f.arrays,.int .i64 f.cells,.slice A n c] 25):=⟨_,rfl⟩
 have HB0:Hid (Below w.heap.size w W):=by show Below _ _ _;rw[hW];exact(Below.refl _ w).alloc (Nat.le_refl _) _
 have hx1:W.heap[w.heap.size]?=some (.cells #[.slice P np pc,.int .i64 f.arrays,.int .i64 f.cells,.slice A n c] 25 (0,0)):=by
  rw[hW]
  exact heap_alloc_new w _
 have HX1:=hideI hx1
 have hkw:Keeps B w W:=Keeps.of_below (HB0.out.mono hB)
 have HPW:=hideI (hpv.keeps hkw)
 have HBW:=hideI (hbv.keeps hkw)
 have hBW:B≤W.heap.size:=Nat.le_trans hB HB0.out.size
 have HFO:=hideI (refForest_any f.blocks o pl par D L B (.slice P np pc) (.int .i64 f.arrays) (.int .i64 f.cells) (.slice A n c) W K.ok K.strict.order hnb.1 (look_ends h0) HBW.out hBW ⟨_,rfl⟩)
 have HW0:=hideI hW
 have HK:=hideI K
 have HFH:=hideI hfh
 have HFEW:=hideI hfew
 have HFE:=hideI hfe
 have HN5:=hideI hnb.2
 have HROW:Hid (∀ r∈rowsTo f.blocks f.blocks.length,∃ x b a ma,RowKnown f r x b a ma):=hideI fun r hr=>row_known h0 hid hfh.1 hr
 have HZ:Hid (∀ y∈loopsM f.blocks D L,0∉y.blocks):=hideI fun y hy=>zero_out h0 hA K.ok hy
 have HOUT:Hid (∀ b a,goesOut (loopsM f.blocks D L) b a=true↔∃ y∈loopsM f.blocks D L,b∈y.blocks∧a∉y.blocks):=hideI (out_iff K.ok)
 have HRI:=hideI (loops_rising (D:=D) (L:=L) hnb.2)
 have hwW:w.heap.size<W.heap.size:=lt_of_heap hx1
 have HNP:=hideI hnp
 have hnp16:np≤16:=by rw[hnp];exact hfew.1
 have hqs:=row_cells hx1 rfl
 have q0:=hqs 0
 have q1:=hqs 1
 have q2:=hqs 2
 have q3:=hqs 3
 clear hqs hx1 hW K hpv hbv h0 hn hnp hfew hfe hfh hA hkw hid
 obtain⟨rs,hrs⟩:∃ rs,rs=rowsTo f.blocks f.blocks.length:=⟨_,rfl⟩
 have HRS:=hideI hrs
 clear hrs
 go_enter Tryz.func22,Tryz.ntmps22
 go_upto_region 1 with fail
 rw[← HW0.out]
 go_upto_region 3 with(first
  | (go_at_call 50;go_must (refine HFO.out.mono ?_);rintro e w1 ⟨uv,rfl,hlu,hb⟩;(obtain⟨Av,cv,rfl⟩:∃ A c,uv=.slice A (loopsM f.blocks D L).length c:=by obtain⟨cs,h1,_⟩:=hlu.ex;exact own_sl h1);have HLP:=hideI hlu;have HB1:=hideI hb;have hqs:=row_cells ((hb.block _ hwW).trans HX1.out) rfl;clear q0 q1 q2 q3;have q0:=hqs 0;have q1:=hqs 1;have q2:=hqs 2;have q3:=hqs 3;clear hqs hlu hb)
  | (go_at_call 15;go_must (refine(refUses5_any f.blocks B _ _ _ _ w1 (HBW.out.keeps (Keeps.of_below (HB1.out.mono hBW))) (Nat.le_trans hBW HB1.out.size) HFE.out HN5.out HFH.out.1 HFH.out.2).mono ?_);rintro e w2 ⟨v6,rfl,hru,hb⟩;rw[← HRS.out]at hru;(obtain⟨A6,c6,rfl,hat⟩:=RU5.at hru);have HAT:=hideI hat;have hrl:rs.length≤3000000:=(by rw[show rs.length=(f.blocks.flatMap usesBlock).length by rw[← hru.1,List.length_map]];exact HFE.out);have HLP2:=hideI (HLP.out.kept hb);have HB2:=hideI (HB1.out.trans (hb.mono HB1.out.size));clear q0 q1 q2 q3 hru hat hb))
 obtain⟨m,hm⟩:∃ m,m=(loopsM f.blocks D L).length:=⟨_,rfl⟩
 have HM:=hideI hm
 have hm5:m≤512:=by rw[hm];exact Nat.le_trans loops_len HN5.out
 rw[← hm]
 obtain⟨nr,hnr⟩:∃ nr,nr=rs.length:=⟨_,rfl⟩
 have HNR:=hideI hnr
 rw[← hnr]at hrl ⊢
 clear hm hnr
 go_wp2
 go_loopw [5,6] (fun u5 u6 wr=>∃ (i:Nat) (best:Int),i≤nr∧u6=.int .i64 i∧u5=.int .i64 best∧Hid (SBest (fun id=>∃ (j:Nat) (r:List Int),j<i∧rs[j]?=some r∧r.getD 0 0=id∧RowOpen f (loopsM f.blocks D L) r) best)∧Hid (Below w2.heap.size w2 wr)) (fun _ u6 _=>nr - (intOf u6).toNat)
 case atStart => exact⟨0,-1,Nat.zero_le _,rfl,rfl,hideI (.inl ⟨rfl,fun y h=>by obtain⟨j,_,hj,_⟩:=h;omega⟩),hideI (Below.refl _ _)⟩
 case round =>
  obtain⟨i,best,hi,rfl,rfl,HSB,HBr⟩:=hrel
  by_cases hlt:i<nr
  ·obtain⟨r,hr⟩:∃ r,rs[i]?=some r:=⟨_,List.getElem?_eq_getElem (by have:=HNR.out;omega)⟩
   have HR:=hideI hr
   obtain⟨x,b,a,ma,hk⟩:=HROW.out r (by rw[← HRS.out];exact List.mem_of_getElem? hr)
   have HKN:=hideI hk
   obtain⟨g6,e6,hg6,hcells⟩:=HAT.out i r hr
   subst e6
   obtain⟨i1,hi1⟩:∃ i1,i1=r.getD 1 0:=⟨_,rfl⟩
   obtain⟨i2,hi2⟩:∃ i2,i2=r.getD 2 0:=⟨_,rfl⟩
   obtain⟨i3,hi3⟩:∃ i3,i3=r.getD 3 0:=⟨_,rfl⟩
   obtain⟨i4,hi4⟩:∃ i4,i4=r.getD 4 0:=⟨_,rfl⟩
   have u0:wr.cell? ⟨g6,i*5,none⟩=some (.int .i64 x):=by rw[← hk.id_];exact(HBr.out.cell (p:=⟨g6,i*5,none⟩) hg6).trans (hcells 0 (by omega))
   have u1:wr.cell? ⟨g6,i*5+1,none⟩=some (.int .i64 i1):=by rw[hi1];exact(HBr.out.cell (p:=⟨g6,i*5+1,none⟩) hg6).trans (hcells 1 (by omega))
   have u2:wr.cell? ⟨g6,i*5+2,none⟩=some (.int .i64 i2):=by rw[hi2];exact(HBr.out.cell (p:=⟨g6,i*5+2,none⟩) hg6).trans (hcells 2 (by omega))
   have u3:wr.cell? ⟨g6,i*5+3,none⟩=some (.int .i64 i3):=by rw[hi3];exact(HBr.out.cell (p:=⟨g6,i*5+3,none⟩) hg6).trans (hcells 3 (by omega))
   have u4:wr.cell? ⟨g6,i*5+4,none⟩=some (.int .i64 i4):=by rw[hi4];exact(HBr.out.cell (p:=⟨g6,i*5+4,none⟩) hg6).trans (hcells 4 (by omega))
   have HAT2:Hid ((if i3<0 then i4 else i2)=(a:Int)):=hideI (by have h:=hk.at_;unfold rowU at h;rw[hi2,hi3,hi4];exact h)
   obtain⟨wa,hwa⟩:∃ wa:World,wa=wr.alloc (.cells #[.int .i64 x,.int .i64 i1,.int .i64 i2,.int .i64 i3,.int .i64 i4] 39):=⟨_,rfl⟩
   have hba:Below wr.heap.size wr wa:=by rw[hwa];exact(Below.refl _ wr).alloc (Nat.le_refl _) _
   have hxa:wa.heap[wr.heap.size]?=some (.cells #[.int .i64 x,.int .i64 i1,.int .i64 i2,.int .i64 i3,.int .i64 i4] 39 (0,0)):=by rw[hwa];exact heap_alloc_new wr _
   obtain⟨Y,hY⟩:∃ Y,Y=wr.heap.size:=⟨_,rfl⟩
   have HY:=hideI hY
   rw[← hY]at hxa
   have HXA:=hideI hxa
   have HB2a:Hid (Below w2.heap.size w2 wa):=hideI (HBr.out.trans (hba.mono HBr.out.size))
   have HBWa:Hid (Below W.heap.size W wa):=hideI (HB2.out.trans (HB2a.out.mono HB2.out.size))
   have HDF:=hideI (refDef_any f B _ _ x wa (HPW.out.keeps (Keeps.of_below (HBWa.out.mono hBW))) (HBW.out.keeps (Keeps.of_below (HBWa.out.mono hBW))) (Nat.le_trans hBW HBWa.out.size) HFEW.out HN5.out)
   have hya:=row_cells hxa rfl
   have y0:=hya 0
   have y2:=hya 2
   have y3:=hya 3
   have y4:=hya 4
   have hqs:=row_cells ((HBWa.out.block _ hwW).trans HX1.out) rfl
   have q0:=hqs 0
   have q1:=hqs 1
   have q2:=hqs 2
   have q3:=hqs 3
   have HWA:=hideI hwa
   clear hr hk hcells hi1 hi2 hi3 hi4 hwa hba hxa hya hqs hY
   go_upto_region 8 with fail
   rw[← HWA.out]
   rw[← HY.out]
   clear u0 u1 u2 u3 u4
   by_cases h3:i3<0
   ·have h4:=HAT2.out
    rw[if_pos h3]at h4
    rw[h4]at y4
    clear h4
    go_upto_region 11 with fail
    clear y2 y3 y4
    go_wp2_with (go_at_call 48;go_must (refine HDF.out.mono ?_);rintro e w5 ⟨hd,hb5⟩;have HB5:=hideI hb5;(obtain rfl:e=.returned (.tuple #[.int .i64 (b:Int),.int .i64 ma,.bool true]):=(by rcases hd with⟨v,hv,rfl⟩|⟨hv,_⟩;(rw[HKN.out.first]at hv;cases hv;rfl);(rw[HKN.out.first]at hv;cases hv)));have hya:=row_cells ((hb5.block _ (lt_of_heap HXA.out)).trans HXA.out) rfl;clear y0;have y0:=hya 0;have hqs:=row_cells (((HBWa.out.trans (hb5.mono HBWa.out.size)).block _ hwW).trans HX1.out) rfl;clear q0 q1 q2 q3;have q0:=hqs 0;clear hya hqs hd hb5)
    have HB25:Hid (Below w2.heap.size w2 w5):=hideI (HB2a.out.trans (HB5.out.mono HB2a.out.size))
    have HLP5:=hideI (HLP2.out.kept HB25.out)
    have HS0:Hid (SBest (fun id=>(id=x∧HitTo (loopsM f.blocks D L) np x b a 0)∨∃ (j:Nat) (r:List Int),j<i∧rs[j]?=some r∧r.getD 0 0=id∧RowOpen f (loopsM f.blocks D L) r) best):=hideI (HSB.out.congr fun id=>⟨fun h=>h.resolve_left (fun h=>by obtain⟨_,j,_,hj,_⟩:=h;omega),.inr⟩)
    go_loopw [5,12] (fun u5 u12 wr2=>∃ (k:Nat) (bb:Int),k≤m∧u12=.int .i64 k∧u5=.int .i64 bb∧Hid (SBest (fun id=>(id=x∧HitTo (loopsM f.blocks D L) np x b a k)∨∃ (j:Nat) (r:List Int),j<i∧rs[j]?=some r∧r.getD 0 0=id∧RowOpen f (loopsM f.blocks D L) r) bb)∧wr2=w5) (fun _ u12 _=>m - (intOf u12).toNat)
    case atStart => exact⟨0,best,Nat.zero_le _,rfl,rfl,HS0,rfl⟩
    case round =>
     clear HS0
     obtain⟨k,bb,hk,rfl,rfl,HSI,hw5⟩:=hrel
     obtain rfl:=hw5.symm
     by_cases hltk:k<m
     ·obtain⟨y,hyk⟩:∃ y,(loopsM f.blocks D L)[k]?=some y:=⟨_,List.getElem?_eq_getElem (by have:=HM.out;omega)⟩
      have HYK:=hideI hyk
      obtain⟨g,cap0,b1,b2,b3,hv,hgb,hgl,_,k1,_,_,_,s1,_,_,_⟩:=HLP5.out.cells hyk
      injection hv with e1 _ e3
      subst e1 e3
      have hry:=HRI.out y (List.mem_of_getElem? hyk)
      have hi1:=s1.ints (by have:=hry.2;omega)
      obtain⟨A1,c1,rfl⟩:=own_sl s1.1
      obtain⟨m1,hm1⟩:∃ m1,m1=y.blocks.length:=⟨_,rfl⟩
      rw[← hm1]at k1 hi1
      have HH1:Hid (Calls Tryz.prog 56 #[.slice A1 m1 c1,.int .i64 (b:Int)] w5 fun e w'=>e=.returned (.bool (decide (b∈y.blocks)))∧w5=w'):=hideI (by have h:=has_any _ _ _ (b:Int) w5 hi1;simp only[mem_nat]at h;exact h)
      have HH2:Hid (Calls Tryz.prog 56 #[.slice A1 m1 c1,.int .i64 (a:Int)] w5 fun e w'=>e=.returned (.bool (decide (a∈y.blocks)))∧w5=w'):=hideI (by have h:=has_any _ _ _ (a:Int) w5 hi1;simp only[mem_nat]at h;exact h)
      clear hyk s1 hry hi1 hm1
      by_cases hp:(np:Int)≤x
      ·by_cases hbm:b∈y.blocks
       ·rw[decide_eq_true hbm]at HH1
        by_cases ham:a∈y.blocks
        ·rw[decide_eq_true ham]at HH2
         have HNH:Hid (¬ ((np:Int)≤x∧b∈y.blocks∧a∉y.blocks)):=hideI (fun h=>h.2.2 ham)
         clear hbm ham
         go_upto_region 16 with(go_at_call 56;refine HH1.out.mono ?_;rintro e w6 ⟨rfl,hw6⟩;obtain rfl:=hw6.symm)
         go_wp2_with (go_at_call 56;refine HH2.out.mono ?_;rintro e w6 ⟨rfl,hw6⟩;obtain rfl:=hw6.symm)
         go_roundw
         case rel => exact⟨k+1,bb,by omega,by go_num,rfl,hideI (HSI.out.congr (fun id=>by rw[hit_no HYK.out HNH.out])),trivial⟩
         case measure => simp[intOf];omega
        ·rw[decide_eq_false ham]at HH2
         have HYES:Hid (HitTo (loopsM f.blocks D L) np x b a (k+1)):=hideI (hit_yes HYK.out ⟨hp,hbm,ham⟩)
         clear hbm ham
         by_cases hb0:bb<0
         ·go_upto_region 16 with(go_at_call 56;refine HH1.out.mono ?_;rintro e w6 ⟨rfl,hw6⟩;obtain rfl:=hw6.symm)
          go_wp2_with (go_at_call 56;refine HH2.out.mono ?_;rintro e w6 ⟨rfl,hw6⟩;obtain rfl:=hw6.symm)
          go_roundw
          case rel => exact⟨k+1,x,by omega,by go_num,rfl,hideI ((HSI.out.got (x:=x) HKN.out.nn (.inl (by omega))).congr (fun id=>open_hit (S:=fun id=>∃ (j:Nat) (r:List Int),j<i∧rs[j]?=some r∧r.getD 0 0=id∧RowOpen f (loopsM f.blocks D L) r) HYES.out)),trivial⟩
          case measure => simp[intOf];omega
         ·by_cases hxb:x<bb
          ·go_upto_region 16 with(go_at_call 56;refine HH1.out.mono ?_;rintro e w6 ⟨rfl,hw6⟩;obtain rfl:=hw6.symm)
           go_wp2_with (go_at_call 56;refine HH2.out.mono ?_;rintro e w6 ⟨rfl,hw6⟩;obtain rfl:=hw6.symm)
           go_roundw
           case rel => exact⟨k+1,x,by omega,by go_num,rfl,hideI ((HSI.out.got (x:=x) HKN.out.nn (.inr (by omega))).congr (fun id=>open_hit (S:=fun id=>∃ (j:Nat) (r:List Int),j<i∧rs[j]?=some r∧r.getD 0 0=id∧RowOpen f (loopsM f.blocks D L) r) HYES.out)),trivial⟩
           case measure => simp[intOf];omega
          ·go_upto_region 16 with(go_at_call 56;refine HH1.out.mono ?_;rintro e w6 ⟨rfl,hw6⟩;obtain rfl:=hw6.symm)
           go_wp2_with (go_at_call 56;refine HH2.out.mono ?_;rintro e w6 ⟨rfl,hw6⟩;obtain rfl:=hw6.symm)
           go_roundw
           case rel => exact⟨k+1,bb,by omega,by go_num,rfl,hideI ((HSI.out.stay (x:=x) (by omega) (by omega)).congr (fun id=>open_hit (S:=fun id=>∃ (j:Nat) (r:List Int),j<i∧rs[j]?=some r∧r.getD 0 0=id∧RowOpen f (loopsM f.blocks D L) r) HYES.out)),trivial⟩
           case measure => simp[intOf];omega
       ·rw[decide_eq_false hbm]at HH1
        have HNH:Hid (¬ ((np:Int)≤x∧b∈y.blocks∧a∉y.blocks)):=hideI (fun h=>hbm h.2.1)
        clear hbm
        go_upto_region 16 with(go_at_call 56;refine HH1.out.mono ?_;rintro e w6 ⟨rfl,hw6⟩;obtain rfl:=hw6.symm)
        go_wp2
        go_roundw
        case rel => exact⟨k+1,bb,by omega,by go_num,rfl,hideI (HSI.out.congr (fun id=>by rw[hit_no HYK.out HNH.out])),trivial⟩
        case measure => simp[intOf];omega
      ·have HNH:Hid (¬ ((np:Int)≤x∧b∈y.blocks∧a∉y.blocks)):=hideI (fun h=>hp h.1)
       go_wp2
       go_roundw
       case rel => exact⟨k+1,bb,by omega,by go_num,rfl,hideI (HSI.out.congr (fun id=>by rw[hit_no HYK.out HNH.out])),trivial⟩
       case measure => simp[intOf];omega
     ·have hkm:k=m:=by omega
      have HNX:Hid (SBest (fun id=>∃ (j:Nat) (r:List Int),j<i+1∧rs[j]?=some r∧r.getD 0 0=id∧RowOpen f (loopsM f.blocks D L) r) bb):=hideI (HSI.out.congr fun id=>row_next HKN.out HR.out HNP.out HZ.out HOUT.out (hkm.trans HM.out))
      clear hkm
      go_wp2
      go_roundw
      case rel => exact⟨i+1,bb,by omega,by go_num,rfl,HNX,HB25⟩
      case measure => simp[intOf];omega
   ·have h4:=HAT2.out
    rw[if_neg h3]at h4
    rw[h4]at y2
    clear h4
    go_upto_region 11 with fail
    clear y2 y3 y4
    go_wp2_with (go_at_call 48;go_must (refine HDF.out.mono ?_);rintro e w5 ⟨hd,hb5⟩;have HB5:=hideI hb5;(obtain rfl:e=.returned (.tuple #[.int .i64 (b:Int),.int .i64 ma,.bool true]):=(by rcases hd with⟨v,hv,rfl⟩|⟨hv,_⟩;(rw[HKN.out.first]at hv;cases hv;rfl);(rw[HKN.out.first]at hv;cases hv)));have hya:=row_cells ((hb5.block _ (lt_of_heap HXA.out)).trans HXA.out) rfl;clear y0;have y0:=hya 0;have hqs:=row_cells (((HBWa.out.trans (hb5.mono HBWa.out.size)).block _ hwW).trans HX1.out) rfl;clear q0 q1 q2 q3;have q0:=hqs 0;clear hya hqs hd hb5)
    have HB25:Hid (Below w2.heap.size w2 w5):=hideI (HB2a.out.trans (HB5.out.mono HB2a.out.size))
    have HLP5:=hideI (HLP2.out.kept HB25.out)
    have HS0:Hid (SBest (fun id=>(id=x∧HitTo (loopsM f.blocks D L) np x b a 0)∨∃ (j:Nat) (r:List Int),j<i∧rs[j]?=some r∧r.getD 0 0=id∧RowOpen f (loopsM f.blocks D L) r) best):=hideI (HSB.out.congr fun id=>⟨fun h=>h.resolve_left (fun h=>by obtain⟨_,j,_,hj,_⟩:=h;omega),.inr⟩)
    go_loopw [5,12] (fun u5 u12 wr2=>∃ (k:Nat) (bb:Int),k≤m∧u12=.int .i64 k∧u5=.int .i64 bb∧Hid (SBest (fun id=>(id=x∧HitTo (loopsM f.blocks D L) np x b a k)∨∃ (j:Nat) (r:List Int),j<i∧rs[j]?=some r∧r.getD 0 0=id∧RowOpen f (loopsM f.blocks D L) r) bb)∧wr2=w5) (fun _ u12 _=>m - (intOf u12).toNat)
    case atStart => exact⟨0,best,Nat.zero_le _,rfl,rfl,HS0,rfl⟩
    case round =>
     clear HS0
     obtain⟨k,bb,hk,rfl,rfl,HSI,hw5⟩:=hrel
     obtain rfl:=hw5.symm
     by_cases hltk:k<m
     ·obtain⟨y,hyk⟩:∃ y,(loopsM f.blocks D L)[k]?=some y:=⟨_,List.getElem?_eq_getElem (by have:=HM.out;omega)⟩
      have HYK:=hideI hyk
      obtain⟨g,cap0,b1,b2,b3,hv,hgb,hgl,_,k1,_,_,_,s1,_,_,_⟩:=HLP5.out.cells hyk
      injection hv with e1 _ e3
      subst e1 e3
      have hry:=HRI.out y (List.mem_of_getElem? hyk)
      have hi1:=s1.ints (by have:=hry.2;omega)
      obtain⟨A1,c1,rfl⟩:=own_sl s1.1
      obtain⟨m1,hm1⟩:∃ m1,m1=y.blocks.length:=⟨_,rfl⟩
      rw[← hm1]at k1 hi1
      have HH1:Hid (Calls Tryz.prog 56 #[.slice A1 m1 c1,.int .i64 (b:Int)] w5 fun e w'=>e=.returned (.bool (decide (b∈y.blocks)))∧w5=w'):=hideI (by have h:=has_any _ _ _ (b:Int) w5 hi1;simp only[mem_nat]at h;exact h)
      have HH2:Hid (Calls Tryz.prog 56 #[.slice A1 m1 c1,.int .i64 (a:Int)] w5 fun e w'=>e=.returned (.bool (decide (a∈y.blocks)))∧w5=w'):=hideI (by have h:=has_any _ _ _ (a:Int) w5 hi1;simp only[mem_nat]at h;exact h)
      clear hyk s1 hry hi1 hm1
      by_cases hp:(np:Int)≤x
      ·by_cases hbm:b∈y.blocks
       ·rw[decide_eq_true hbm]at HH1
        by_cases ham:a∈y.blocks
        ·rw[decide_eq_true ham]at HH2
         have HNH:Hid (¬ ((np:Int)≤x∧b∈y.blocks∧a∉y.blocks)):=hideI (fun h=>h.2.2 ham)
         clear hbm ham
         go_upto_region 16 with(go_at_call 56;refine HH1.out.mono ?_;rintro e w6 ⟨rfl,hw6⟩;obtain rfl:=hw6.symm)
         go_wp2_with (go_at_call 56;refine HH2.out.mono ?_;rintro e w6 ⟨rfl,hw6⟩;obtain rfl:=hw6.symm)
         go_roundw
         case rel => exact⟨k+1,bb,by omega,by go_num,rfl,hideI (HSI.out.congr (fun id=>by rw[hit_no HYK.out HNH.out])),trivial⟩
         case measure => simp[intOf];omega
        ·rw[decide_eq_false ham]at HH2
         have HYES:Hid (HitTo (loopsM f.blocks D L) np x b a (k+1)):=hideI (hit_yes HYK.out ⟨hp,hbm,ham⟩)
         clear hbm ham
         by_cases hb0:bb<0
         ·go_upto_region 16 with(go_at_call 56;refine HH1.out.mono ?_;rintro e w6 ⟨rfl,hw6⟩;obtain rfl:=hw6.symm)
          go_wp2_with (go_at_call 56;refine HH2.out.mono ?_;rintro e w6 ⟨rfl,hw6⟩;obtain rfl:=hw6.symm)
          go_roundw
          case rel => exact⟨k+1,x,by omega,by go_num,rfl,hideI ((HSI.out.got (x:=x) HKN.out.nn (.inl (by omega))).congr (fun id=>open_hit (S:=fun id=>∃ (j:Nat) (r:List Int),j<i∧rs[j]?=some r∧r.getD 0 0=id∧RowOpen f (loopsM f.blocks D L) r) HYES.out)),trivial⟩
          case measure => simp[intOf];omega
         ·by_cases hxb:x<bb
          ·go_upto_region 16 with(go_at_call 56;refine HH1.out.mono ?_;rintro e w6 ⟨rfl,hw6⟩;obtain rfl:=hw6.symm)
           go_wp2_with (go_at_call 56;refine HH2.out.mono ?_;rintro e w6 ⟨rfl,hw6⟩;obtain rfl:=hw6.symm)
           go_roundw
           case rel => exact⟨k+1,x,by omega,by go_num,rfl,hideI ((HSI.out.got (x:=x) HKN.out.nn (.inr (by omega))).congr (fun id=>open_hit (S:=fun id=>∃ (j:Nat) (r:List Int),j<i∧rs[j]?=some r∧r.getD 0 0=id∧RowOpen f (loopsM f.blocks D L) r) HYES.out)),trivial⟩
           case measure => simp[intOf];omega
          ·go_upto_region 16 with(go_at_call 56;refine HH1.out.mono ?_;rintro e w6 ⟨rfl,hw6⟩;obtain rfl:=hw6.symm)
           go_wp2_with (go_at_call 56;refine HH2.out.mono ?_;rintro e w6 ⟨rfl,hw6⟩;obtain rfl:=hw6.symm)
           go_roundw
           case rel => exact⟨k+1,bb,by omega,by go_num,rfl,hideI ((HSI.out.stay (x:=x) (by omega) (by omega)).congr (fun id=>open_hit (S:=fun id=>∃ (j:Nat) (r:List Int),j<i∧rs[j]?=some r∧r.getD 0 0=id∧RowOpen f (loopsM f.blocks D L) r) HYES.out)),trivial⟩
           case measure => simp[intOf];omega
       ·rw[decide_eq_false hbm]at HH1
        have HNH:Hid (¬ ((np:Int)≤x∧b∈y.blocks∧a∉y.blocks)):=hideI (fun h=>hbm h.2.1)
        clear hbm
        go_upto_region 16 with(go_at_call 56;refine HH1.out.mono ?_;rintro e w6 ⟨rfl,hw6⟩;obtain rfl:=hw6.symm)
        go_wp2
        go_roundw
        case rel => exact⟨k+1,bb,by omega,by go_num,rfl,hideI (HSI.out.congr (fun id=>by rw[hit_no HYK.out HNH.out])),trivial⟩
        case measure => simp[intOf];omega
      ·have HNH:Hid (¬ ((np:Int)≤x∧b∈y.blocks∧a∉y.blocks)):=hideI (fun h=>hp h.1)
       go_wp2
       go_roundw
       case rel => exact⟨k+1,bb,by omega,by go_num,rfl,hideI (HSI.out.congr (fun id=>by rw[hit_no HYK.out HNH.out])),trivial⟩
       case measure => simp[intOf];omega
     ·have hkm:k=m:=by omega
      have HNX:Hid (SBest (fun id=>∃ (j:Nat) (r:List Int),j<i+1∧rs[j]?=some r∧r.getD 0 0=id∧RowOpen f (loopsM f.blocks D L) r) bb):=hideI (HSI.out.congr fun id=>row_next HKN.out HR.out HNP.out HZ.out HOUT.out (hkm.trans HM.out))
      clear hkm
      go_wp2
      go_roundw
      case rel => exact⟨i+1,bb,by omega,by go_num,rfl,HNX,HB25⟩
      case measure => simp[intOf];omega
  ·have hin:i=nr:=by omega
   subst hin
   go_wp2
   go_ret
   refine⟨_,rfl,HSB.out.congr (fun id=>?_),HB0.out.trans ((HB2.out.mono HB0.out.size).trans (HBr.out.mono (Nat.le_trans HB0.out.size HB2.out.size)))⟩
   rw[open_rows HFH.out.1,← HRS.out,← HNR.out]
end Go.Proofs.YtaehbgppfahdeaaGreat
