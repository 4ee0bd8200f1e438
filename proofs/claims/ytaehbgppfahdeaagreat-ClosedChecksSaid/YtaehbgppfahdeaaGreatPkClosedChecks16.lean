/- What ClosedChecks rests on, part 16: OpenM, ClOpen, EachAt2, ClOpenF, ClOpenG, Shelf. -/
import Derived.Test.YtaehbgppfahdeaaGreatPkClosedChecks15
import Derived.Maps.AppendAt
import Derived.Deep.LoopGhost
import Derived.BigQuiet
import Derived.Deep.QuietTactic
import Derived.Shelf.SlIterI.Nil
import Derived.Shelf.SortM.Plain
import Derived.Shelf.SortM.SortNone

namespace Go.Proofs.YtaehbgppfahdeaaGreat
open Go.RowKit Go.Maps
def valElem:Value→Option (DataW Value×List MemPlace):=fun v=>some (.held v,[])
theorem zeroInts (w:World):(zeroValue 22).run Tryz.prog w=.ok (.slice none 0 0) w:=by kernel_rfl
theorem zeroDef (w:World):(zeroValue 160).run Tryz.prog w=.ok (.agg #[.int .i64 0,.int .i64 0]) w:=by kernel_rfl
def MapV (w:World) (M n:Nat) (F:Int→Option Value):Prop :=
 ∃ D:DataW Value,w.ownsMap Tryz.prog 3 valElem M n D∧IsMap D∧∀ id z,D.atKey (.int .i64 id) z=match F id with|some v=>.held v|none=>z
theorem MapV.new (w:World):MapV (w.alloc (.map #[] 0)) w.heap.size 0 (fun _=>none) :=
 ⟨.map [],World.ownsMap_made _ _ _ _,⟨[],rfl⟩,fun _ _=>rfl⟩
theorem MapV.same {w w':World} {M n:Nat} {F:Int→Option Value} (h:MapV w M n F) (hk:w'.heap[M]?=w.heap[M]?):MapV w' M n F:=by
 obtain⟨D,⟨es,clock,hb,r⟩,k⟩:=h
 exact⟨D,⟨es,clock,hk.trans hb,r⟩,k⟩
theorem MapV.lt {w:World} {M n:Nat} {F:Int→Option Value} (h:MapV w M n F):M<w.heap.size:=by
 obtain⟨D,h,_⟩:=h
 exact h.lt
theorem MapV.look {w:World} {M n:Nat} {F:Int→Option Value} (h:MapV w M n F) {id:Int} (hi:I64 id):(Instr.lookup 110 (.map (some M)) (.int .i64 id) false).run Tryz.prog w=.ok ((F id).getD (.slice none 0 0)) w:=by
 obtain⟨D,hown,_,hat⟩:=h
 obtain⟨v,ps,hrun,hv⟩:=hown.lookup (t:=110) (e:=22) lawInt Tryz.underlying110 (zeroInts w) (zd:=.held (.slice none 0 0)) (zp:=[]) rfl (keyOf_int_mk Tryz.underlying3 hi)
 rw[hat]at hv
 have hv':some ((.held v:DataW Value),([]:List MemPlace))=some (match F id with|some v=>.held v|none=>.held (.slice none 0 0),ps):=hv
 have h1:=congrArg Prod.fst (Option.some.inj hv')
 rw[hrun]
 cases hF:F id with
 | none => rw [hF] at h1;simp only [DataW.held.injEq] at h1;rw [h1];rfl
 | some u => rw [hF] at h1;simp only [DataW.held.injEq] at h1;rw [h1];rfl
theorem MapV.upd {w:World} {M n:Nat} {F:Int→Option Value} (h:MapV w M n F) {id:Int} (hi:I64 id) (hn:n<maxLen) (v:Value):∃ w',(Instr.mapUpdate 110 (.map (some M)) (.int .i64 id) v).run Tryz.prog w=.ok () w'∧MapV w' M (n+1) (fun k=>if k=id then some v else F k)∧w.grownBy w' (some M):=by
 obtain⟨D,hown,hD,hat⟩:=h
 obtain⟨w',hrun,hown',hg⟩:=hown.update (t:=110) (e:=22) lawInt Tryz.underlying110 hn (key:=.int .i64 id) (val:=v) (keyOf_int_mk Tryz.underlying3 hi) (d:=.held v) (ps:=[]) rfl
 refine⟨w',hrun,⟨_,hown',IsMap.put hD _ _,fun k z=>?_⟩,hg⟩
 by_cases hk:k=id
 ·subst hk
  rw[atKey_put_same hD (by trivial)]
  simp
 ·rw[atKey_put_other (by simpa using hk),hat]
  simp[hk]
theorem PlacesAt.look {w:World} {M:Nat} {l:Placed} (h:PlacesAt w M l) {id:Int} (hi:I64 id) {b:Nat} {a:Int} (hl:l.last id=some (b,a)):(Instr.lookup 101 (.map (some M)) (.int .i64 id) false).run Tryz.prog w=.ok (.agg #[.int .i64 (b:Int),.int .i64 a]) w:=by
 obtain⟨D,hown,_,hat⟩:=h
 obtain⟨v,ps,hrun,hv⟩:=hown.lookup (t:=101) (e:=160) lawInt Tryz.underlying101 (zeroDef w) (placeElem_mk 0 0) (keyOf_int_mk Tryz.underlying3 hi)
 rw[hat,hl]at hv
 rw[hrun,placeElem_inv hv]
structure OpenSt (base M n X:Nat) (Kp:Int→Prop) (w:World):Prop where
 ex:∃ F,MapV w M n F∧(∀ id,(F id).isSome=true↔Kp id)∧(∀ id v,F id=some v→∃ (m:Nat) (xs:List Value),m≤n∧w.ownsRow base 3 1 v m xs)∧(∀ id id' v v' g,F id=some v→F id'=some v'→v.ownBlock=some g→v'.ownBlock=some g→id=id')∧∀ id v,F id=some v→v.ownBlock≠some X
 lt:M<base
 size:base≤w.heap.size
 box:X<w.heap.size
 boxM:X≠M
section
variable {base M n X Y:Nat} {Kp:Int→Prop} {w w':World}
theorem OpenSt.move (h:OpenSt base M n X Kp w) (hb:Below w.heap.size w w') (hY:Y=X∨(w.heap.size≤Y∧Y<w'.heap.size)):OpenSt base M n Y Kp w':=by
 obtain⟨⟨F,h1,h2,h3,h4,h5⟩,hl,hs,hx,hxM⟩:=h
 refine⟨⟨F,h1.same (hb.block _ (by omega)),h2,fun id v hv=>?_,h4,fun id v hv e=>?_⟩,hl,Nat.le_trans hs hb.size,?_,by rcases hY with rfl|hY <;> omega⟩
 ·obtain⟨m,xs,hm,hr⟩:=h3 id v hv
  exact⟨m,xs,hm,own_kept_below hr hb (fun k hk=>(hr.lt k hk).2)⟩
 ·obtain⟨m,xs,_,hr⟩:=h3 id v hv
  rcases hY with rfl|hY
  ·exact h5 id v hv e
  ·have:=(hr.lt Y e).2
   omega
 ·rcases hY with rfl|hY
  ·exact Nat.lt_of_lt_of_le hx hb.size
  ·exact hY.2
theorem OpenSt.more {n':Nat} (h:OpenSt base M n X Kp w) (hn:n≤n'):OpenSt base M n' X Kp w:=by
 obtain⟨⟨F,⟨D,h1,r⟩,h2,h3,h4,h5⟩,hl,hs,hx,hxM⟩:=h
 exact⟨⟨F,⟨D,h1.mono hn,r⟩,h2,fun id v hv=>by obtain⟨m,xs,hm,hr⟩:=h3 id v hv;exact⟨m,xs,Nat.le_trans hm hn,hr⟩,h4,h5⟩,hl,hs,hx,hxM⟩
theorem OpenSt.keys {Kp':Int→Prop} (h:OpenSt base M n X Kp w) (hk:∀ id,Kp' id↔Kp id):OpenSt base M n X Kp' w:=by
 obtain⟨⟨F,h1,h2,r⟩,hl,hs,hx,hxM⟩:=h
 exact⟨⟨F,h1,fun id=>(h2 id).trans (hk id).symm,r⟩,hl,hs,hx,hxM⟩
structure Added (base M n X:Nat) (Kp:Int→Prop) (x:Int) (w w':World):Prop where
 st:OpenSt base M (n+1) X (fun id=>id=x∨Kp id) w'
 far:∀ b,b<base→b≠M→w'.heap[b]?=w.heap[b]?
 box:w'.heap[X]?=w.heap[X]?
 os:w'.os=w.os
 tape:w'.tape=w.tape
 output:w'.output=w.output
 size:w.heap.size≤w'.heap.size
theorem OpenSt.add (h:OpenSt base M n X Kp w) {x at_:Int} (hi:I64 x) (hn:n<11000000000000) (ty:Nat):∃ v,(∀ W:World,W.heap[M]?=w.heap[M]?→(Instr.lookup 110 (.map (some M)) (.int .i64 x) false).run Tryz.prog W=.ok v W) ∧
  ∀ wb:World,Below w.heap.size w wb→∀ gb,gb<wb.heap.size→w.heap.size≤gb→wb.cell? ⟨gb,0,none⟩=some (.int .i64 at_)→∃ v' w2,(Builtin.append_ #[22,22] ty #[v,.slice (some ⟨gb,0,none⟩) 1 1]).run Tryz.prog wb=.ok v' w2∧(∃ A m c,v'=.slice (some A) m c)∧(∀ W:World,W.heap=w2.heap→W.os=w2.os→W.tape=w2.tape→W.output=w2.output→∃ w3,(Instr.mapUpdate 110 (.map (some M)) (.int .i64 x) v').run Tryz.prog W=.ok () w3∧Added base M n X Kp x w w3) ∧
   (∀ b,b<base→b<w.heap.size→w2.heap[b]?=w.heap[b]?):=by
 obtain⟨⟨F,hm,hk,hr,ha,hx⟩,hl,hs,hbx,hxM⟩:=h
 obtain⟨i0,hix,hz0,hz1,hz2⟩:=info_parts int_info
 refine⟨(F x).getD (.slice none 0 0),fun W hW=>(hm.same (w':=W) hW).look hi,fun wb hb gb hgb hgw hcb=>?_⟩
 obtain⟨m,xs,hmn,hown⟩:∃ (m:Nat) (xs:List Value),m≤n∧w.ownsRow base 3 1 ((F x).getD (.slice none 0 0)) m xs:=by
  cases hF:F x with
  | none => exact ⟨0,[],Nat.zero_le _,World.ownsRow_nil _ _ _ _⟩
  | some v => exact hr x v hF
 have hownb:=own_kept_below hown hb (fun k hk=>(hown.lt k hk).2)
 obtain⟨v',w2,hrun,h2,h3,h4,h5⟩:=run_append_own_at (P:=Tryz.prog) wb base 22 ty 3 i0 _ 1 8 Tryz.underlying22 hix hz0 hz1 hz2 rfl (by decide) _ m xs hownb ⟨gb,0,none⟩ 1 1 [.int .i64 at_] rfl (fun j u hj=>by
  have hj0:j=0:=by have:=(List.getElem?_eq_some_iff.1 hj).1;simp at this;omega
  subst hj0
  cases hj
  rw[Go.WideShapes.add_plain]
  exact hcb) (fun u hu=>by simp at hu;subst hu;rfl) (by unfold maxLen;omega) (by omega) (Nat.le_trans hs hb.size)
 have hv':∃ A m c,v'=.slice (some A) m c:=by
  rcases h2.2 with⟨e,e0⟩|⟨g,cap,cur,e,_⟩
  ·omega
  ·exact⟨_,_,_,e⟩
 have hfar2:∀ b,b<base→b<w.heap.size→w2.heap[b]?=w.heap[b]?:=fun b hbb hbw=>(h3.block b (Nat.lt_of_lt_of_le hbw hb.size) (fun e=>by have:=(hown.lt b e.symm).1;omega)).trans (hb.block b hbw)
 have hX2:w2.heap[X]?=w.heap[X]?:=(h3.block X (Nat.lt_of_lt_of_le hbx hb.size) (fun e=>by
  cases hF:F x with
  | none => rw [hF] at e;cases e
  | some v => rw [hF] at e;exact hx x v hF e.symm)).trans (hb.block X hbx)
 refine⟨v',w2,hrun,hv',fun W hW ho1 ho2 ho3=>?_,hfar2⟩
 have hmW:MapV W M n F:=hm.same (by rw[hW];exact hfar2 M hl (by omega))
 obtain⟨w3,hrun3,hm3,hg3⟩:=hmW.upd hi (by unfold maxLen;omega) v'
 have hsW:W.heap.size=w2.heap.size:=by rw[hW]
 have hs2:w.heap.size≤w2.heap.size:=Nat.le_trans hb.size h3.size
 have hrow:∀ id v,F id=some v→id≠x→∃ (m:Nat) (xs:List Value),m≤n∧w3.ownsRow base 3 1 v m xs:=fun id v hF hne=>by
  obtain⟨m1,xs1,hm1,hr1⟩:=hr id v hF
  have hrb:=own_kept_below hr1 hb (fun k hk=>(hr1.lt k hk).2)
  refine⟨m1,xs1,hm1,?_⟩
  have hr2:w2.ownsRow base 3 1 v m1 xs1:=by
   refine hrb.kept h3 ?_
   cases ho:v.ownBlock with
   | none => exact .inl rfl
   | some g =>
    refine .inr (fun e=>?_)
    cases hFx:F x with
    | none => rw [hFx] at e;cases e
    | some u => rw [hFx] at e;exact hne (ha id x v u g hF hFx ho e.symm)
  have hrW:W.ownsRow base 3 1 v m1 xs1:=by
   refine⟨hr2.1,?_⟩
   rcases hr2.2 with h|⟨g,cap,cur,e1,e2,e3,r⟩
   ·exact .inl h
   ·exact .inr ⟨g,cap,cur,e1,e2,by rw[hW];exact e3,r⟩
  refine hrW.kept hg3 ?_
  cases ho:v.ownBlock with
  | none => exact .inl rfl
  | some g => exact .inr (fun e => by have:=(hr1.lt g ho).1;have:=Option.some.inj e;omega)
 have hnew:w3.ownsRow base 3 1 v' (m+1) (xs++[.int .i64 at_]):=by
  have hrW:W.ownsRow base 3 1 v' (m+1) (xs++[.int .i64 at_]):=by
   refine⟨h2.1,?_⟩
   rcases h2.2 with h|⟨g,cap,cur,e1,e2,e3,r⟩
   ·exact .inl h
   ·exact .inr ⟨g,cap,cur,e1,e2,by rw[hW];exact e3,r⟩
  refine hrW.kept hg3 ?_
  cases ho:v'.ownBlock with
  | none => exact .inl rfl
  | some g => exact .inr (fun e => by have:=(h2.lt g ho).1;have:=Option.some.inj e;omega)
 have hblk:∀ g,v'.ownBlock=some g→(∃ u,F x=some u∧u.ownBlock=some g)∨w.heap.size≤g:=fun g hg=>by
  rcases h5 with h5|h5
  ·rw[hg]at h5
   cases hFx:F x with
   | none => rw [hFx] at h5;cases h5
   | some u => rw [hFx] at h5;exact .inl ⟨u,rfl,h5.symm⟩
  ·rw[hg]at h5
   have:=Option.some.inj h5
   exact .inr (by have:=hb.size;omega)
 refine⟨w3,hrun3,⟨⟨⟨_,hm3,fun id=>?_,fun id v hv=>?_,fun id id' u u' g hu hu' hg hg'=>?_,fun id v hv e=>?_⟩,hl,?_,?_,hxM⟩,fun b hbb hbM=>?_,?_,?_,?_,?_,?_⟩⟩
 ·by_cases e:id=x
  ·subst e;simp
  ·simp only[if_neg e]
   rw[hk id]
   exact⟨.inr,fun h=>h.resolve_left e⟩
 ·by_cases e:id=x
  ·subst e
   have hv2:v'=v:=by simpa using hv
   subst hv2
   exact⟨m+1,_,by omega,hnew⟩
  ·simp only[if_neg e]at hv
   obtain⟨m1,xs1,hm1,hr1⟩:=hrow id v hv e
   exact⟨m1,xs1,by omega,hr1⟩
 ·by_cases e:id=x
  ·by_cases e':id'=x
   ·rw[e,e']
   ·have hu2:v'=u:=by simpa [e] using hu
    simp only[if_neg e']at hu'
    subst hu2
    rcases hblk g hg with⟨u,hFu,hug⟩|hge
    ·exact absurd (ha id' x u' u g hu' hFu hg' hug) e'
    ·obtain⟨_,_,_,hr1⟩:=hr id' u' hu'
     have:=(hr1.lt g hg').2
     omega
  ·by_cases e':id'=x
   ·simp only[if_neg e]at hu
    have hu2:v'=u':=by simpa [e'] using hu'
    subst hu2
    rcases hblk g hg' with⟨u2,hFu,hug⟩|hge
    ·exact absurd (ha id x u u2 g hu hFu hg hug) e
    ·obtain⟨_,_,_,hr1⟩:=hr id u hu
     have:=(hr1.lt g hg).2
     omega
   ·simp only[if_neg e]at hu
    simp only[if_neg e']at hu'
    exact ha id id' u u' g hu hu' hg hg'
 ·by_cases e1:id=x
  ·have hv2:v'=v:=by simpa [e1] using hv
   subst hv2
   rcases hblk X e with⟨u,hFu,hug⟩|hge
   ·exact hx x u hFu hug
   ·omega
  ·simp only[if_neg e1]at hv
   exact hx id v hv e
 ·have:=hg3.size;omega
 ·have:=hg3.size;omega
 ·by_cases hbw:b<w.heap.size
  ·exact(hg3.block b (by omega) (fun e=>hbM (Option.some.inj e))).trans (by rw[hW];exact hfar2 b hbb hbw)
  ·omega
 ·exact(hg3.block X (by omega) (fun e2=>hxM (Option.some.inj e2))).trans (by rw[hW];exact hX2)
 ·exact hg3.os.trans (ho1.trans (h3.os.trans hb.os))
 ·exact hg3.tape.trans (ho2.trans (h3.tape.trans hb.tape))
 ·exact hg3.output.trans (ho3.trans (h3.output.trans hb.output))
 ·have:=hg3.size;omega
end
end Go.Proofs.YtaehbgppfahdeaaGreat

namespace Go.Proofs.YtaehbgppfahdeaaGreat
open Go.RowKit Go.Maps
theorem exec_app2 {ev:Operand→Value} {w w':World} {o:Oper} {s x:Operand} {sl:TypeId} {v vs vx:Value} (ho:o.op=.call { callee:=.builtin .append,args:=#[s,x],argTypes:=#[sl,sl] }) (hs:ev s=vs) (hx:ev x=vx)
  (hr:(Builtin.append_ #[sl,sl] o.type #[vs,vx]).run Tryz.prog w=.ok v w'):(execOp ev o).run Tryz.prog w=.ok (.value v) w':=by
 unfold execOp
 simp only[ho,resolve,invoke,builtin,Sem.run_bind,Sem.run_pure,Result.andThen_ok,List.map_toArray,List.map_cons,List.map_nil,hs,hx,hr]
structure OpenNext (base M n X:Nat) (Kp:Int→Prop) (go:Bool) (x:Int) (w w':World):Prop where
 st:OpenSt base M (n+1) X (fun id=>(go=true∧id=x)∨Kp id) w'
 far:∀ b,b<base→b≠M→b<w.heap.size→w'.heap[b]?=w.heap[b]?
 box:w'.heap[X]?=w.heap[X]?
 os:w'.os=w.os
 tape:w'.tape=w.tape
 output:w'.output=w.output
 size:w.heap.size≤w'.heap.size
theorem OpenNext.stay {base M n X:Nat} {Kp:Int→Prop} {x:Int} {w w1:World} (h:OpenSt base M n X Kp w) (hb:Below w.heap.size w w1):OpenNext base M n X Kp false x w w1 :=
 ⟨((h.move hb (.inl rfl)).more (Nat.le_succ n)).keys (fun id=>⟨fun k=>k.elim (fun k=>by cases k.1) (fun k=>k),.inr⟩),fun b _ _ hl=>hb.block b hl,hb.block X h.box,hb.os,hb.tape,hb.output,hb.size⟩
theorem OpenNext.add {base M n X:Nat} {Kp:Int→Prop} {go:Bool} {x:Int} {w w1 w3:World} (h:OpenSt base M n X Kp w) (hb:Below w.heap.size w w1) (hg:go=true) (k:Added base M n X Kp x w1 w3):OpenNext base M n X Kp go x w w3 :=
 ⟨k.st.keys (fun id=>by rw[hg];simp),fun b hbb hM hl=>(k.far b hbb hM).trans (hb.block b hl),k.box.trans (hb.block X h.box),k.os.trans hb.os,k.tape.trans hb.tape,k.output.trans hb.output,Nat.le_trans hb.size k.size⟩
set_option maxRecDepth 100000 in
set_option maxHeartbeats 2000000 in
theorem open1_any (ls:List LpM) (l:Placed) (q r g j n m0 base0 gl cl Md base M nn X mb a:Nat) (Al:Option Addr) (v0 v1 v2 v3 v6 v7 v8:Value) (x ty:Int) (Kp:Int→Prop) (w:World)
  (hq:w.heap[q]?=some (.cells #[v0,v1,v2,v3,.slice Al m0 cl,.slice (some ⟨gl,0,none⟩) n n,v6,v7,v8,.map (some Md)] 103 (0,0))) (hr:w.heap[r]?=some (.cells #[.map (some M)] 110 (0,0)))
  (hls:LoopsR w base0 (.slice Al ls.length cl) ls) (hle:w.ownsRow base0 3 1 (.slice (some ⟨gl,0,none⟩) n n) n (leastR n ls ls.length [] 0)) (hri:Rising ls) (hpl:PlacesAt w Md l)
  (hx:w.cell? ⟨g,j,none⟩=some (.int .i64 x)) (hi:I64 x) (hla:l.last x=some (mb,ty)) (hmb:mb<n) (hn5:n≤512) (hlen:ls.length≤512) (hm0:Hid (m0=ls.length))
  (hst:OpenSt base M nn X Kp w) (hnn:nn<11000000000000) (hrb:r<base) (hgb:g<base) (hgl:g<w.heap.size) :
  Calls Tryz.prog 92 #[.pointer (some ⟨g,j,none⟩),.int .i64 (a:Int),.pointer (some ⟨q,0,none⟩),.pointer (some ⟨r,0,none⟩)] w fun e w'=>e=.returned (.tuple #[])∧OpenNext base M nn X Kp (goesOut ls mb a) x w w':=by
 have hqs:=row_cells hq rfl
 have HR0:Hid (w.cell? ⟨r,0,none⟩=some (.map (some M))):=row_cells hr rfl 0
 have HG0:=hideI hx
 have HPL:=hideI hpl
 have HI:=hideI hi
 have HLA:=hideI hla
 have HST:=hideI hst
 have HNN:=hideI hnn
 have HL:=hideI (And.intro (lt_of_heap hr) hgl)
 have HLB:=hideI (And.intro hrb hgb)
 have HLM:Hid (M<w.heap.size∧M<base):=hideI (by obtain⟨F,hm,_⟩:=hst.ex;exact⟨hm.lt,hst.lt⟩)
 have HO0:=clOut_any ls n base0 gl mb a Al cl v0 v1 v2 v3 v6 v7 v8 (.map (some Md)) w.drew (hls.kept (Below.drew (Below.refl _ _))) hle hri hmb hn5 hlen m0 hm0
 have hS0:w.cell? ⟨q,0,none⟩=some (v0)∧w.cell? ⟨q,1,none⟩=some (v1)∧w.cell? ⟨q,2,none⟩=some (v2)∧w.cell? ⟨q,3,none⟩=some (v3)∧w.cell? ⟨q,4,none⟩=some (.slice Al m0 cl)∧w.cell? ⟨q,5,none⟩=some (.slice (some ⟨gl,0,none⟩) n n)∧w.cell? ⟨q,6,none⟩=some (v6)∧w.cell? ⟨q,7,none⟩=some (v7)∧w.cell? ⟨q,8,none⟩=some (v8)∧w.cell? ⟨q,9,none⟩=some (.map (some Md))∧w.cell? ⟨g,j,none⟩=some (.int .i64 x)∧PlacesAt w Md l:=⟨hqs 0,hqs 1,hqs 2,hqs 3,hqs 4,hqs 5,hqs 6,hqs 7,hqs 8,hqs 9,hx,hpl⟩
 cases hgo:goesOut ls mb a with
 | false =>
  rw[hgo]at HO0
  have HO:=hideI HO0
  clear HO0 hq hr hqs hls hle hri hpl hx hi hla hst hnn hgo hrb hgb hgl
  go_enter Tryz.func92,Tryz.ntmps92
  have hfd:∀ w:World,(Instr.field 160 (.agg #[.int .i64 (mb:Int),.int .i64 ty]) 0).run Tryz.prog w=.ok (.int .i64 (mb:Int)) w:=fun _=>by kernel_rfl
  go_upto_region 0 with fail
  refine wp_region_late (by kernel_rfl) (fun W'=>W'.cell? ⟨q,0,none⟩=some (v0)∧W'.cell? ⟨q,1,none⟩=some (v1)∧W'.cell? ⟨q,2,none⟩=some (v2)∧W'.cell? ⟨q,3,none⟩=some (v3)∧W'.cell? ⟨q,4,none⟩=some (.slice Al m0 cl)∧W'.cell? ⟨q,5,none⟩=some (.slice (some ⟨gl,0,none⟩) n n)∧W'.cell? ⟨q,6,none⟩=some (v6)∧W'.cell? ⟨q,7,none⟩=some (v7)∧W'.cell? ⟨q,8,none⟩=some (v8)∧W'.cell? ⟨q,9,none⟩=some (.map (some Md))∧W'.cell? ⟨g,j,none⟩=some (.int .i64 x)∧PlacesAt W' Md l) [9] ?_
  refine wpAnyT_take [9] (i:=0) (v:=?_) rfl (by kernel_rfl) (by kernel_rfl) (by kernel_rfl) (by kernel_rfl) (by kernel_rfl) (by kernel_rfl) (fun _ _ _ h=>h) hS0 (Or.inl ⟨by rfl,?_⟩) ?_
  rotate_left
  ·(intro w hSw;go_split_ands;go_simp;try with_reducible rfl)
  try simp only[Act.put,List.setIfInBounds_toArray,List.set_cons_zero,List.set_cons_succ]
  refine wpAnyT_quiet (i:=1) (v:=?_) rfl (by kernel_rfl) (by kernel_rfl) (by kernel_rfl) (fun _ _ _ h=>h) (Or.inl ⟨by rfl,?_⟩) ?_
  rotate_left
  ·(intro w;go_simp;try with_reducible rfl)
  try simp only[Act.put,List.setIfInBounds_toArray,List.set_cons_zero,List.set_cons_succ]
  refine wpAnyT_take [6,7,9] (i:=2) (v:=?_) rfl (by kernel_rfl) (by kernel_rfl) (by kernel_rfl) (by kernel_rfl) (by kernel_rfl) (by kernel_rfl) (fun _ _ _ h=>h) hS0 (Or.inl ⟨by rfl,?_⟩) ?_
  rotate_left
  ·(intro w hSw;go_split_ands;go_simp;try with_reducible rfl)
  try simp only[Act.put,List.setIfInBounds_toArray,List.set_cons_zero,List.set_cons_succ]
  refine wpAnyT_quiet (i:=3) (v:=?_) rfl (by kernel_rfl) (by kernel_rfl) (by kernel_rfl) (fun _ _ _ h=>h) (Or.inl ⟨by rfl,?_⟩) ?_
  rotate_left
  ·(intro w;go_simp;try with_reducible rfl)
  try simp only[Act.put,List.setIfInBounds_toArray,List.set_cons_zero,List.set_cons_succ]
  refine wpAnyT_quiet (i:=4) (v:=?_) rfl (by kernel_rfl) (by kernel_rfl) (by kernel_rfl) (fun _ _ _ h=>h) (Or.inl ⟨by rfl,?_⟩) ?_
  rotate_left
  ·(intro w;go_simp;try with_reducible rfl)
  try simp only[Act.put,List.setIfInBounds_toArray,List.set_cons_zero,List.set_cons_succ]
  refine wpAnyT_take [6,7,9] (i:=5) (v:=?_) rfl (by kernel_rfl) (by kernel_rfl) (by kernel_rfl) (by kernel_rfl) (by kernel_rfl) (by kernel_rfl) (fun _ _ _ h=>h) hS0 (Or.inl ⟨by rfl,?_⟩) ?_
  rotate_left
  ·(intro w hSw;go_split_ands;go_simp;try with_reducible rfl)
  try simp only[Act.put,List.setIfInBounds_toArray,List.set_cons_zero,List.set_cons_succ]
  refine wpAnyT_quiet (i:=8) (v:=?_) rfl (by kernel_rfl) (by kernel_rfl) (by kernel_rfl) (fun _ _ _ h=>h) (Or.inl ⟨by rfl,?_⟩) ?_
  rotate_left
  ·(intro w;go_simp;try with_reducible rfl)
  try simp only[Act.put,List.setIfInBounds_toArray,List.set_cons_zero,List.set_cons_succ]
  refine wpAnyT_ready (rs:=[6]) (by kernel_rfl) (by simp) ?_
  refine AllReadyT.cons rfl (fun K hK=>?_) ?_
  ·-- 6 lookup
   have hlk:(Instr.lookup 101 (.map (some Md)) (.int .i64 x) false).run Tryz.prog w.drew=.ok (.agg #[.int .i64 (mb:Int),.int .i64 ty]) w.drew:=PlacesAt.look (w:=w.drew) HPL.out HI.out HLA.out
   go_simp
   refine hK.out _ _ (fun _ _=>hS0) ?_
   clear hK K hlk
   try simp only[Act.put,List.setIfInBounds_toArray,List.set_cons_zero,List.set_cons_succ]
   refine wpAnyT_quiet (i:=7) (v:=?_) rfl (by kernel_rfl) (by kernel_rfl) (by kernel_rfl) (fun _ _ _ h=>h) (Or.inl ⟨by rfl,?_⟩) ?_
   rotate_left
   ·(intro w;go_simp;try with_reducible rfl)
   try simp only[Act.put,List.setIfInBounds_toArray,List.set_cons_zero,List.set_cons_succ]
   refine wpAnyT_ready (rs:=[9]) (by kernel_rfl) (by simp) ?_
   refine AllReadyT.cons rfl (fun K hK=>?_) ?_
   ·-- 9 call out
    go_simp
    refine HO.out.mono ?_
    rintro e w1 ⟨rfl,hb1⟩
    have hb1w:Below w.heap.size w w1:=⟨hb1.os,hb1.tape,hb1.output,hb1.size,hb1.block⟩
    have HB1:=hideI hb1w
    clear hb1 hb1w
    refine hK.out _ _ (fun h=>absurd (by simp) h) ?_
    clear hK K
    try simp only[Act.put,List.setIfInBounds_toArray,List.set_cons_zero,List.set_cons_succ]
    refine wpAnyT_done (by kernel_rfl) ?_ _
    go_wp2_with fail
    go_end0
    exact⟨rfl,OpenNext.stay HST.out HB1.out⟩
   ·exact AllReadyT.nil
  ·exact AllReadyT.nil
 | true =>
  rw[hgo]at HO0
  have HO:=hideI HO0
  clear HO0 hq hr hqs hls hle hri hpl hx hi hla hst hnn hgo hrb hgb hgl
  go_enter Tryz.func92,Tryz.ntmps92
  have hfd:∀ w:World,(Instr.field 160 (.agg #[.int .i64 (mb:Int),.int .i64 ty]) 0).run Tryz.prog w=.ok (.int .i64 (mb:Int)) w:=fun _=>by kernel_rfl
  go_upto_region 0 with fail
  refine wp_region_late (by kernel_rfl) (fun W'=>W'.cell? ⟨q,0,none⟩=some (v0)∧W'.cell? ⟨q,1,none⟩=some (v1)∧W'.cell? ⟨q,2,none⟩=some (v2)∧W'.cell? ⟨q,3,none⟩=some (v3)∧W'.cell? ⟨q,4,none⟩=some (.slice Al m0 cl)∧W'.cell? ⟨q,5,none⟩=some (.slice (some ⟨gl,0,none⟩) n n)∧W'.cell? ⟨q,6,none⟩=some (v6)∧W'.cell? ⟨q,7,none⟩=some (v7)∧W'.cell? ⟨q,8,none⟩=some (v8)∧W'.cell? ⟨q,9,none⟩=some (.map (some Md))∧W'.cell? ⟨g,j,none⟩=some (.int .i64 x)∧PlacesAt W' Md l) [9] ?_
  refine wpAnyT_take [9] (i:=0) (v:=?_) rfl (by kernel_rfl) (by kernel_rfl) (by kernel_rfl) (by kernel_rfl) (by kernel_rfl) (by kernel_rfl) (fun _ _ _ h=>h) hS0 (Or.inl ⟨by rfl,?_⟩) ?_
  rotate_left
  ·(intro w hSw;go_split_ands;go_simp;try with_reducible rfl)
  try simp only[Act.put,List.setIfInBounds_toArray,List.set_cons_zero,List.set_cons_succ]
  refine wpAnyT_quiet (i:=1) (v:=?_) rfl (by kernel_rfl) (by kernel_rfl) (by kernel_rfl) (fun _ _ _ h=>h) (Or.inl ⟨by rfl,?_⟩) ?_
  rotate_left
  ·(intro w;go_simp;try with_reducible rfl)
  try simp only[Act.put,List.setIfInBounds_toArray,List.set_cons_zero,List.set_cons_succ]
  refine wpAnyT_take [6,7,9] (i:=2) (v:=?_) rfl (by kernel_rfl) (by kernel_rfl) (by kernel_rfl) (by kernel_rfl) (by kernel_rfl) (by kernel_rfl) (fun _ _ _ h=>h) hS0 (Or.inl ⟨by rfl,?_⟩) ?_
  rotate_left
  ·(intro w hSw;go_split_ands;go_simp;try with_reducible rfl)
  try simp only[Act.put,List.setIfInBounds_toArray,List.set_cons_zero,List.set_cons_succ]
  refine wpAnyT_quiet (i:=3) (v:=?_) rfl (by kernel_rfl) (by kernel_rfl) (by kernel_rfl) (fun _ _ _ h=>h) (Or.inl ⟨by rfl,?_⟩) ?_
  rotate_left
  ·(intro w;go_simp;try with_reducible rfl)
  try simp only[Act.put,List.setIfInBounds_toArray,List.set_cons_zero,List.set_cons_succ]
  refine wpAnyT_quiet (i:=4) (v:=?_) rfl (by kernel_rfl) (by kernel_rfl) (by kernel_rfl) (fun _ _ _ h=>h) (Or.inl ⟨by rfl,?_⟩) ?_
  rotate_left
  ·(intro w;go_simp;try with_reducible rfl)
  try simp only[Act.put,List.setIfInBounds_toArray,List.set_cons_zero,List.set_cons_succ]
  refine wpAnyT_take [6,7,9] (i:=5) (v:=?_) rfl (by kernel_rfl) (by kernel_rfl) (by kernel_rfl) (by kernel_rfl) (by kernel_rfl) (by kernel_rfl) (fun _ _ _ h=>h) hS0 (Or.inl ⟨by rfl,?_⟩) ?_
  rotate_left
  ·(intro w hSw;go_split_ands;go_simp;try with_reducible rfl)
  try simp only[Act.put,List.setIfInBounds_toArray,List.set_cons_zero,List.set_cons_succ]
  refine wpAnyT_quiet (i:=8) (v:=?_) rfl (by kernel_rfl) (by kernel_rfl) (by kernel_rfl) (fun _ _ _ h=>h) (Or.inl ⟨by rfl,?_⟩) ?_
  rotate_left
  ·(intro w;go_simp;try with_reducible rfl)
  try simp only[Act.put,List.setIfInBounds_toArray,List.set_cons_zero,List.set_cons_succ]
  refine wpAnyT_ready (rs:=[6]) (by kernel_rfl) (by simp) ?_
  refine AllReadyT.cons rfl (fun K hK=>?_) ?_
  ·-- 6 lookup
   have hlk:(Instr.lookup 101 (.map (some Md)) (.int .i64 x) false).run Tryz.prog w.drew=.ok (.agg #[.int .i64 (mb:Int),.int .i64 ty]) w.drew:=PlacesAt.look (w:=w.drew) HPL.out HI.out HLA.out
   go_simp
   refine hK.out _ _ (fun _ _=>hS0) ?_
   clear hK K hlk
   try simp only[Act.put,List.setIfInBounds_toArray,List.set_cons_zero,List.set_cons_succ]
   refine wpAnyT_quiet (i:=7) (v:=?_) rfl (by kernel_rfl) (by kernel_rfl) (by kernel_rfl) (fun _ _ _ h=>h) (Or.inl ⟨by rfl,?_⟩) ?_
   rotate_left
   ·(intro w;go_simp;try with_reducible rfl)
   try simp only[Act.put,List.setIfInBounds_toArray,List.set_cons_zero,List.set_cons_succ]
   refine wpAnyT_ready (rs:=[9]) (by kernel_rfl) (by simp) ?_
   refine AllReadyT.cons rfl (fun K hK=>?_) ?_
   ·-- 9 call out
    go_simp
    refine HO.out.mono ?_
    rintro e w1 ⟨rfl,hb1⟩
    have hb1w:Below w.heap.size w w1:=⟨hb1.os,hb1.tape,hb1.output,hb1.size,hb1.block⟩
    have HB1:=hideI hb1w
    clear hb1 hb1w
    refine hK.out _ _ (fun h=>absurd (by simp) h) ?_
    clear hK K
    try simp only[Act.put,List.setIfInBounds_toArray,List.set_cons_zero,List.set_cons_succ]
    refine wpAnyT_done (by kernel_rfl) ?_ _
    obtain⟨v,hlk,hap⟩:=(HST.out.move HB1.out (.inl rfl)).add (x:=x) (at_:=(a:Int)) HI.out HNN.out 22
    have HLK:=hideI hlk
    have HAP:=hideI hap
    have r0:w1.cell? ⟨r,0,none⟩=some (.map (some M)):=(HB1.out.cell (p:=⟨r,0,none⟩) HL.out.1).trans HR0.out
    have g0:w1.cell? ⟨g,j,none⟩=some (.int .i64 x):=(HB1.out.cell (p:=⟨g,j,none⟩) HL.out.2).trans HG0.out
    clear hlk hap hS0
    have hS0:w1.cell? ⟨r,0,none⟩=some (.map (some M))∧w1.cell? ⟨g,j,none⟩=some (.int .i64 x)∧∀ W:World,W.heap[M]?=w1.heap[M]?→(Instr.lookup 110 (.map (some M)) (.int .i64 x) false).run Tryz.prog W=.ok v W:=⟨r0,g0,HLK.out⟩
    go_upto_region 1 with fail
    refine wp_region_late (by kernel_rfl) (fun W'=>W'.cell? ⟨r,0,none⟩=some (.map (some M))∧W'.cell? ⟨g,j,none⟩=some (.int .i64 x)∧∀ W:World,W.heap[M]?=W'.heap[M]?→(Instr.lookup 110 (.map (some M)) (.int .i64 x) false).run Tryz.prog W=.ok v W) [12] ?_
    refine wpAnyT_take [12] (i:=0) (v:=?_) rfl (by kernel_rfl) (by kernel_rfl) (by kernel_rfl) (by kernel_rfl) (by kernel_rfl) (by kernel_rfl) (fun _ _ _ h=>h) hS0 (Or.inl ⟨by rfl,?_⟩) ?_
    rotate_left
    ·(intro w hSw;go_split_ands;go_simp;try with_reducible rfl)
    try simp only[Act.put,List.setIfInBounds_toArray,List.set_cons_zero,List.set_cons_succ]
    refine wpAnyT_quiet (i:=1) (v:=?_) rfl (by kernel_rfl) (by kernel_rfl) (by kernel_rfl) (fun _ _ _ h=>h) (Or.inl ⟨by rfl,?_⟩) ?_
    rotate_left
    ·(intro w;go_simp;try with_reducible rfl)
    try simp only[Act.put,List.setIfInBounds_toArray,List.set_cons_zero,List.set_cons_succ]
    refine wpAnyT_quiet (i:=2) (v:=?_) rfl (by kernel_rfl) (by kernel_rfl) (by kernel_rfl) (fun _ _ _ h=>h) (Or.inl ⟨by rfl,?_⟩) ?_
    rotate_left
    ·(intro w;go_simp;try with_reducible rfl)
    try simp only[Act.put,List.setIfInBounds_toArray,List.set_cons_zero,List.set_cons_succ]
    refine wpAnyT_take [12] (i:=3) (v:=?_) rfl (by kernel_rfl) (by kernel_rfl) (by kernel_rfl) (by kernel_rfl) (by kernel_rfl) (by kernel_rfl) (fun _ _ _ h=>h) hS0 (Or.inl ⟨by rfl,?_⟩) ?_
    rotate_left
    ·(intro w hSw;go_split_ands;go_simp;try with_reducible rfl)
    try simp only[Act.put,List.setIfInBounds_toArray,List.set_cons_zero,List.set_cons_succ]
    refine wpAnyT_take [12] (i:=4) (v:=?_) rfl (by kernel_rfl) (by kernel_rfl) (by kernel_rfl) (by kernel_rfl) (by kernel_rfl) (by kernel_rfl) (fun _ _ _ h=>h) hS0 (Or.inl ⟨by rfl,?_⟩) ?_
    rotate_left
    ·(intro w hSw;go_split_ands;go_simp;try with_reducible rfl)
    try simp only[Act.put,List.setIfInBounds_toArray,List.set_cons_zero,List.set_cons_succ]
    refine wpAnyT_quiet (i:=5) (v:=?_) rfl (by kernel_rfl) (by kernel_rfl) (by kernel_rfl) (fun _ _ _ h=>h) (Or.inl ⟨by rfl,?_⟩) ?_
    rotate_left
    ·(intro w;go_simp;try with_reducible rfl)
    try simp only[Act.put,List.setIfInBounds_toArray,List.set_cons_zero,List.set_cons_succ]
    refine wpAnyT_quiet (i:=6) (v:=?_) rfl (by kernel_rfl) (by kernel_rfl) (by kernel_rfl) (fun _ _ _ h=>h) (Or.inl ⟨by rfl,?_⟩) ?_
    rotate_left
    ·(intro w;go_simp;try with_reducible rfl)
    try simp only[Act.put,List.setIfInBounds_toArray,List.set_cons_zero,List.set_cons_succ]
    refine wpAnyT_take [12] (i:=7) (v:=?_) rfl (by kernel_rfl) (by kernel_rfl) (by kernel_rfl) (by kernel_rfl) (by kernel_rfl) (by kernel_rfl) (fun _ _ _ h=>h) hS0 (Or.inl ⟨by rfl,?_⟩) ?_
    rotate_left
    ·(intro w hSw;go_split_ands;go_simp;try with_reducible rfl)
    try simp only[Act.put,List.setIfInBounds_toArray,List.set_cons_zero,List.set_cons_succ]
    refine wpAnyT_take [12] (i:=8) (v:=?_) rfl (by kernel_rfl) (by kernel_rfl) (by kernel_rfl) (by kernel_rfl) (by kernel_rfl) (by kernel_rfl) (fun _ _ _ h=>h) hS0 (Or.inl ⟨by rfl,?_⟩) ?_
    rotate_left
    ·(intro w hSw;have hlk:=hSw.2.2 w rfl;clear hSw;go_simp;try with_reducible rfl)
    try simp only[Act.put,List.setIfInBounds_toArray,List.set_cons_zero,List.set_cons_succ]
    refine wpAnyT_quiet (i:=9) (v:=?_) rfl (by kernel_rfl) (by kernel_rfl) (by kernel_rfl) (fun _ _ _ h=>h) (Or.inl ⟨by rfl,?_⟩) ?_
    rotate_left
    ·(intro w;go_simp;try with_reducible rfl)
    try simp only[Act.put,List.setIfInBounds_toArray,List.set_cons_zero,List.set_cons_succ]
    refine wpAnyT_ready (rs:=[10]) (by kernel_rfl) (by simp) ?_
    refine AllReadyT.cons rfl (fun K hK=>?_) ?_
    ·-- 10 buildSlice
     go_simp
     obtain⟨wb,hwb⟩:∃ wb:World,wb=(w1.alloc (.cells #[.int .i64 (a:Int)] 3)).drew:=⟨_,rfl⟩
     have hbb:Below w1.heap.size w1 wb:=by rw[hwb];exact Below.drew ((Below.refl _ w1).alloc (Nat.le_refl _) _)
     have hcb:wb.cell? ⟨w1.heap.size,0,none⟩=some (.int .i64 (a:Int)):=row_cells (by rw[hwb];exact heap_alloc_new w1 _:wb.heap[w1.heap.size]?=some (.cells #[.int .i64 (a:Int)] 3 (0,0))) rfl 0
     have hsb:w1.heap.size<wb.heap.size:=by rw[hwb];show w1.heap.size<(w1.alloc (.cells #[.int .i64 (a:Int)] 3)).heap.size;simp
     obtain⟨v',w2,hrun,⟨A3,m3,c3,rfl⟩,hupd,hfar2⟩:=HAP.out wb hbb w1.heap.size hsb (Nat.le_refl _) hcb
     have HUP:=hideI hupd
     have hMl:=HLM.out
     have hSb:wb.cell? ⟨r,0,none⟩=some (.map (some M))∧wb.cell? ⟨g,j,none⟩=some (.int .i64 x)∧∀ W:World,W.heap[M]?=wb.heap[M]?→(Instr.lookup 110 (.map (some M)) (.int .i64 x) false).run Tryz.prog W=.ok v W:=⟨(hbb.cell (p:=⟨r,0,none⟩) (Nat.lt_of_lt_of_le HL.out.1 HB1.out.size)).trans r0,(hbb.cell (p:=⟨g,j,none⟩) (Nat.lt_of_lt_of_le HL.out.2 HB1.out.size)).trans g0,fun W hW=>HLK.out W (hW.trans (hbb.block M (Nat.lt_of_lt_of_le HLM.out.1 HB1.out.size)))⟩
     have hS2c:w2.cell? ⟨r,0,none⟩=some (.map (some M))∧w2.cell? ⟨g,j,none⟩=some (.int .i64 x)∧∀ W:World,W.heap[M]?=w2.heap[M]?→(Instr.lookup 110 (.map (some M)) (.int .i64 x) false).run Tryz.prog W=.ok v W:=⟨(World.cell?_of_block (hfar2 r HLB.out.1 (Nat.lt_of_lt_of_le HL.out.1 HB1.out.size))).trans r0,(World.cell?_of_block (hfar2 g HLB.out.2 (Nat.lt_of_lt_of_le HL.out.2 HB1.out.size))).trans g0,fun W hW=>HLK.out W (hW.trans (hfar2 M HLM.out.2 (Nat.lt_of_lt_of_le HLM.out.1 HB1.out.size)))⟩
     have HS2:=hideI hS2c
     have HSB:=hideI hSb
     have HRUN:=hideI hrun
     have HWB:=hideI hwb
     clear hbb hcb hsb hrun hupd hfar2 hMl hSb hS2c hwb r0 g0
     rw[← HWB.out]
     refine hK.out _ _ (fun _ _=>HSB.out) ?_
     clear hK K
     try simp only[Act.put,List.setIfInBounds_toArray,List.set_cons_zero,List.set_cons_succ]
     refine wpAnyT_ready (rs:=[11]) (by kernel_rfl) (by simp) ?_
     refine AllReadyT.cons rfl (fun K hK=>?_) ?_
     ·-- 11 append
      unfold Oper.wp
      rw[exec_app2 (s:=.tmp 24) (x:=.tmp 26) (vs:=v) (vx:=.slice (some ⟨w1.heap.size,0,none⟩) 1 1) rfl (by rfl) (by rfl) HRUN.out,Oper.upon_value]
      try simp only[Act.put,List.setIfInBounds_toArray,List.set_cons_zero,List.set_cons_succ]
      refine hK.out _ _ (fun _ _=>HS2.out) ?_
      clear hK K
      try simp only[Act.put,List.setIfInBounds_toArray,List.set_cons_zero,List.set_cons_succ]
      refine wpAnyT_ready (rs:=[12]) (by kernel_rfl) (by simp) ?_
      refine AllReadyT.cons rfl (fun K hK=>?_) ?_
      ·-- 12 mapUpdate
       obtain⟨w3,hrun,had⟩:=HUP.out w2 rfl rfl rfl rfl
       have HAD:=hideI had
       clear had
       go_simp
       clear hrun
       refine hK.out _ _ (fun h=>absurd (by simp) h) ?_
       clear hK K
       try simp only[Act.put,List.setIfInBounds_toArray,List.set_cons_zero,List.set_cons_succ]
       refine wpAnyT_done (by kernel_rfl) ?_ _
       go_wp2_with fail
       go_end0
       exact⟨rfl,OpenNext.add HST.out HB1.out rfl HAD.out⟩
      ·exact AllReadyT.nil
     ·exact AllReadyT.nil
    ·exact AllReadyT.nil
   ·exact AllReadyT.nil
  ·exact AllReadyT.nil
end Go.Proofs.YtaehbgppfahdeaaGreat

namespace Go.Proofs.YtaehbgppfahdeaaGreat
open Go.RowKit Go.Maps
set_option maxRecDepth 100000 in
set_option maxHeartbeats 8000000 in
theorem eachAt2_any (f:FuncM) (val:Vals) (n c X0:Nat) (q r:Nat) (A:Option Addr) (Inv:Nat→Nat→Nat→Nat→Nat→World→Prop) (w:World) (hv:val .blocks=.slice A n c) (hn:n=f.blocks.length) (hn5:n≤512) (hs:SmallF f) (hfr:∀ b∈f.blocks,∀ p∈b.phis,p.vals.length≤p.fr.length)
  (hS:Seer f val (fun p u w P=>Calls Tryz.prog 92 #[p,u,.pointer (some ⟨q,0,none⟩),.pointer (some ⟨r,0,none⟩)] w P) Inv) (hI:Inv 0 0 0 0 X0 w) :
  Calls Tryz.prog 91 #[.slice A n c,.func (.func 92) #[] #[.pointer (some ⟨q,0,none⟩),.pointer (some ⟨r,0,none⟩)]] w fun e w'=>e=.returned (.tuple #[])∧∃ X,Inv n 0 0 0 X w':=by
 have HI:=hideI hI
 have HV:=hideI hv
 have HN:=hideI hn
 have HSM:=hideI hs
 have HFR:=hideI hfr
 have HS:=hideI hS
 clear hI hv hn hs hfr hS
 go_enter Tryz.func91,Tryz.ntmps91
 go_wp2
 go_loopg [14] n (fun gg s wr=>∃ k X:Nat,k≤n∧n - k≤gg∧s=.int .i64 k∧Hid (Inv k 0 0 0 X wr))
 case atStart => exact⟨0,X0,Nat.zero_le _,by omega,rfl,HI⟩
 case round =>
  clear HI
  obtain⟨k,X,hk,hgg,rfl,HI⟩:=hrel
  by_cases hlt:k<n
  ·obtain⟨b,hb⟩:∃ b,f.blocks[k]?=some b:=⟨_,List.getElem?_eq_getElem (by have:=HN.out;omega)⟩
   have HBL:=hideI hb
   obtain⟨A1,ca1,ea1,hbx⟩:=(HS.out.read _ _ _ _ _ _ HI.out).blocks
   obtain⟨g,off,ea2,c0,_,_⟩:=hbx k b hb
   rw[HV.out]at ea1
   injection ea1 with ea1 hq1 hq2
   clear hq1 hq2
   rw[ea2]at ea1
   subst ea1
   obtain⟨Ap,cp,hvp,_⟩:=(HS.out.read _ _ _ _ _ _ HI.out).phis k b hb
   rw[hvp]at c0
   obtain⟨mp,hmp⟩:∃ mp,mp=b.phis.length:=⟨_,rfl⟩
   have HMP:=hideI hmp
   have HVP:Hid (val (.phis k)=.slice Ap mp cp):=hideI (by rw[hmp];exact hvp)
   have c0':wr.cell? ⟨g,off+k*6,none⟩=some (.slice Ap mp cp):=by rw[hmp];exact c0
   have hmp5:mp≤100000:=by rw[hmp];exact(HSM.out.each b (List.mem_of_getElem? hb)).phis
   clear hbx c0 hvp hmp hb ea2
   go_wp2
   clear c0'
   go_loopg [25] mp (fun gg2 s wr2=>∃ j X:Nat,j≤mp∧mp - j≤gg2∧s=.int .i64 j∧Hid (Inv k j 0 0 X wr2))
   case atStart => exact⟨0,X,Nat.zero_le _,by omega,rfl,HI⟩
   case round =>
    clear HI
    clear X
    obtain⟨j,X,hj,hg2,rfl,HI⟩:=hrel
    by_cases hltj:j<mp
    ·obtain⟨p,hp⟩:∃ p,b.phis[j]?=some p:=⟨_,List.getElem?_eq_getElem (by have:=HMP.out;omega)⟩
     have HXP:=hideI hp
     obtain⟨Ap1,cp1,ep1,hpx⟩:=(HS.out.read _ _ _ _ _ _ HI.out).phis k b HBL.out
     obtain⟨gp,offp,ep2,c0,c1,c2,c3⟩:=hpx j p hp
     rw[HVP.out]at ep1
     injection ep1 with ep1 hq1 hq2
     clear hq1 hq2
     rw[ep2]at ep1
     subst ep1
     obtain⟨Af,cf,hvf,_⟩:=(HS.out.read _ _ _ _ _ _ HI.out).fr k b j p HBL.out hp
     obtain⟨Av,cv,hvv,_⟩:=(HS.out.read _ _ _ _ _ _ HI.out).vals k b j p HBL.out hp
     obtain⟨nf,hnf⟩:∃ nf,nf=p.fr.length:=⟨_,rfl⟩
     obtain⟨mv,hmv⟩:∃ mv,mv=p.vals.length:=⟨_,rfl⟩
     rw[← hnf]at hvf
     rw[← hmv]at hvv
     rw[hvf]at c2
     rw[hvv]at c3
     have HNF:=hideI hnf
     have HMV:=hideI hmv
     have HVF:=hideI hvf
     have HVV:=hideI hvv
     have hnv:mv≤nf:=by rw[hnf,hmv];exact HFR.out b (List.mem_of_getElem? HBL.out) p (List.mem_of_getElem? hp)
     have hnf5:nf≤100000:=by rw[hnf];exact((HSM.out.each b (List.mem_of_getElem? HBL.out)).fr p (List.mem_of_getElem? hp)).1
     have hmv5:mv≤100000:=by rw[hmv];exact((HSM.out.each b (List.mem_of_getElem? HBL.out)).fr p (List.mem_of_getElem? hp)).2
     obtain⟨wa,hwa⟩:∃ wa:World,wa=wr.alloc (.cells #[.int .i64 p.id,.int .i64 p.typ,.slice Af nf cf,.slice Av mv cv] 76):=⟨_,rfl⟩
     have hba:Below wr.heap.size wr wa:=by rw[hwa];exact(Below.refl _ wr).alloc (Nat.le_refl _) _
     have hxa:wa.heap[wr.heap.size]?=some (.cells #[.int .i64 p.id,.int .i64 p.typ,.slice Af nf cf,.slice Av mv cv] 76 (0,0)):=by rw[hwa];exact heap_alloc_new wr _
     have HIA:=hideI (HS.out.move _ _ _ _ _ wr.heap.size _ _ HI.out hba (.inr ⟨Nat.le_refl _,lt_of_heap hxa⟩))
     have HWA:=hideI hwa
     have hqa:=row_cells hxa rfl
     have a0:=hqa 0
     have a1:=hqa 1
     have a2:=hqa 2
     have a3:=hqa 3
     obtain⟨Y,hY⟩:∃ Y,Y=wr.heap.size:=⟨_,rfl⟩
     have HXA:Hid (wa.heap[Y]?=some (.cells #[.int .i64 p.id,.int .i64 p.typ,.slice Af nf cf,.slice Av mv cv] 76 (0,0))):=hideI (by rw[hY];exact hxa)
     rw[← hY]at HIA a0 a1 a2 a3
     have HY:=hideI hY
     clear hpx ep2 hnf hmv hvf hvv hwa hba hxa hqa hp HI
     go_upto_region 7 with fail
     rw[← HWA.out]
     rw[← HY.out]
     clear c0 c1 c2 c3 hY
     go_wp2
     clear a0 a1 a2 a3
     go_loopg [32] mv (fun gg3 s wr3=>∃ i:Nat,i≤mv∧mv - i≤gg3∧s=.int .i64 i∧Hid (Inv k j 0 i Y wr3)∧Hid (wr3.heap[Y]?=some (.cells #[.int .i64 p.id,.int .i64 p.typ,.slice Af nf cf,.slice Av mv cv] 76 (0,0))))
     case atStart => exact⟨0,Nat.zero_le _,by omega,rfl,HIA,HXA⟩
     case round =>
      clear HIA HXA
      obtain⟨i,hi,hg3,rfl,HI,HX⟩:=hrel
      by_cases hlti:i<mv
      ·obtain⟨x,hx⟩:∃ x,p.vals[i]?=some x:=⟨_,List.getElem?_eq_getElem (by have:=HMV.out;omega)⟩
       obtain⟨fr,hfr⟩:∃ fr,p.fr[i]?=some fr:=⟨_,List.getElem?_eq_getElem (by have:=HNF.out;omega)⟩
       obtain⟨Af1,cf1,ef1,hfx⟩:=(HS.out.read _ _ _ _ _ _ HI.out).fr k b j p HBL.out HXP.out
       obtain⟨gf,offf,ef2,d0⟩:=hfx i fr hfr
       rw[HVF.out]at ef1
       injection ef1 with ef1 hq1 hq2
       clear hq1 hq2
       rw[ef2]at ef1
       subst ef1
       obtain⟨Av1,cv1,ev1,hvx⟩:=(HS.out.read _ _ _ _ _ _ HI.out).vals k b j p HBL.out HXP.out
       obtain⟨gv,offv,ev2⟩:=hvx (by have:=HMV.out;omega)
       rw[HVV.out]at ev1
       injection ev1 with ev1 hq1 hq2
       clear hq1 hq2
       rw[ev2]at ev1
       subst ev1
       have hqa:=row_cells HX.out rfl
       have a2:=hqa 2
       have a3:=hqa 3
       have hinf:i<nf:=by omega
       have HC:=hideI (HS.out.phi k b j p i x fr Y wr.drew gv offv mv cv HBL.out HXP.out hx hfr HVV.out (HS.out.move _ _ _ _ _ Y _ _ HI.out (Below.drew (Below.refl _ _)) (.inl rfl)))
       have hS0:wr.cell? ⟨Y,2,none⟩=some (.slice (some ⟨gf,offf,none⟩) nf cf)∧wr.cell? ⟨Y,3,none⟩=some (.slice (some ⟨gv,offv,none⟩) mv cv)∧wr.cell? ⟨gf,offf+i,none⟩=some (.int .i64 fr):=⟨a2,a3,d0⟩
       clear hqa hfx ef2 hvx ev2 hx hfr
       go_upto_region 10 with fail
       refine wp_region_late (by kernel_rfl) (fun W'=>W'.cell? ⟨Y,2,none⟩=some (.slice (some ⟨gf,offf,none⟩) nf cf)∧W'.cell? ⟨Y,3,none⟩=some (.slice (some ⟨gv,offv,none⟩) mv cv)∧W'.cell? ⟨gf,offf+i,none⟩=some (.int .i64 fr)) [10] ?_
       refine wpAnyT_quiet (i:=0) (v:=?_) rfl (by kernel_rfl) (by kernel_rfl) (by kernel_rfl) (fun _ _ _ h=>h) (Or.inl ⟨by rfl,?_⟩) ?_
       rotate_left
       ·(intro w;go_simp;try with_reducible rfl)
       try simp only[Act.put,List.setIfInBounds_toArray,List.set_cons_zero,List.set_cons_succ]
       refine wpAnyT_quiet (i:=1) (v:=?_) rfl (by kernel_rfl) (by kernel_rfl) (by kernel_rfl) (fun _ _ _ h=>h) (Or.inl ⟨by rfl,?_⟩) ?_
       rotate_left
       ·(intro w;go_simp;try with_reducible rfl)
       try simp only[Act.put,List.setIfInBounds_toArray,List.set_cons_zero,List.set_cons_succ]
       refine wpAnyT_take [4,10] (i:=2) (v:=?_) rfl (by kernel_rfl) (by kernel_rfl) (by kernel_rfl) (by kernel_rfl) (by kernel_rfl) (by kernel_rfl) (fun _ _ _ h=>h) hS0 (Or.inl ⟨by rfl,?_⟩) ?_
       rotate_left
       ·(intro w hSw;go_split_ands;go_simp;try with_reducible rfl)
       try simp only[Act.put,List.setIfInBounds_toArray,List.set_cons_zero,List.set_cons_succ]
       refine wpAnyT_quiet (i:=3) (v:=?_) rfl (by kernel_rfl) (by kernel_rfl) (by kernel_rfl) (fun _ _ _ h=>h) (Or.inl ⟨by rfl,?_⟩) ?_
       rotate_left
       ·(intro w;go_simp;try with_reducible rfl)
       try simp only[Act.put,List.setIfInBounds_toArray,List.set_cons_zero,List.set_cons_succ]
       refine wpAnyT_quiet (i:=4) (v:=?_) rfl (by kernel_rfl) (by kernel_rfl) (by kernel_rfl) (fun _ _ _ h=>h) (Or.inl ⟨by rfl,?_⟩) ?_
       rotate_left
       ·(intro w;go_simp;try with_reducible rfl)
       try simp only[Act.put,List.setIfInBounds_toArray,List.set_cons_zero,List.set_cons_succ]
       refine wpAnyT_quiet (i:=5) (v:=?_) rfl (by kernel_rfl) (by kernel_rfl) (by kernel_rfl) (fun _ _ _ h=>h) (Or.inl ⟨by rfl,?_⟩) ?_
       rotate_left
       ·(intro w;go_simp;try with_reducible rfl)
       try simp only[Act.put,List.setIfInBounds_toArray,List.set_cons_zero,List.set_cons_succ]
       refine wpAnyT_take [8,9,10] (i:=6) (v:=?_) rfl (by kernel_rfl) (by kernel_rfl) (by kernel_rfl) (by kernel_rfl) (by kernel_rfl) (by kernel_rfl) (fun _ _ _ h=>h) hS0 (Or.inl ⟨by rfl,?_⟩) ?_
       rotate_left
       ·(intro w hSw;go_split_ands;go_simp;try with_reducible rfl)
       try simp only[Act.put,List.setIfInBounds_toArray,List.set_cons_zero,List.set_cons_succ]
       refine wpAnyT_quiet (i:=7) (v:=?_) rfl (by kernel_rfl) (by kernel_rfl) (by kernel_rfl) (fun _ _ _ h=>h) (Or.inl ⟨by rfl,?_⟩) ?_
       rotate_left
       ·(intro w;go_simp;try with_reducible rfl)
       try simp only[Act.put,List.setIfInBounds_toArray,List.set_cons_zero,List.set_cons_succ]
       refine wpAnyT_quiet (i:=8) (v:=?_) rfl (by kernel_rfl) (by kernel_rfl) (by kernel_rfl) (fun _ _ _ h=>h) (Or.inl ⟨by rfl,?_⟩) ?_
       rotate_left
       ·(intro w;go_simp;try with_reducible rfl)
       try simp only[Act.put,List.setIfInBounds_toArray,List.set_cons_zero,List.set_cons_succ]
       refine wpAnyT_take [10] (i:=9) (v:=?_) rfl (by kernel_rfl) (by kernel_rfl) (by kernel_rfl) (by kernel_rfl) (by kernel_rfl) (by kernel_rfl) (fun _ _ _ h=>h) hS0 (Or.inl ⟨by rfl,?_⟩) ?_
       rotate_left
       ·(intro w hSw;go_split_ands;go_simp;try with_reducible rfl)
       try simp only[Act.put,List.setIfInBounds_toArray,List.set_cons_zero,List.set_cons_succ]
       refine wpAnyT_ready (rs:=[10]) (by kernel_rfl) (by simp) ?_
       refine AllReadyT.cons rfl (fun K hK=>?_) ?_
       ·-- 10 call value
        go_simp
        refine HC.out.mono ?_
        rintro e w2 ⟨rfl,hi2,hx2⟩
        have HI2:=hideI hi2
        have HX2:=hideI ((hx2 (lt_of_heap HX.out)).trans HX.out)
        clear hi2 hx2
        refine hK.out _ _ (fun h=>absurd (by simp) h) ?_
        clear hK K
        try simp only[Act.put,List.setIfInBounds_toArray,List.set_cons_zero,List.set_cons_succ]
        refine wpAnyT_done (by kernel_rfl) ?_ _
        go_wp2_with fail
        go_roundg (mv - (i+1))
        case measure => omega
        case rel => exact⟨i+1,by omega,Nat.le_refl _,by go_num,HI2,HX2⟩
       ·exact AllReadyT.nil
      ·have him:i=mv:=by omega
       subst him
       have hI2:=HI.out
       rw[HMV.out]at hI2
       have HI2:=hideI (HS.out.phiE _ _ _ _ _ _ HBL.out HXP.out hI2)
       clear hI2
       go_wp2
       go_roundg (mp - (j+1))
       case measure => omega
       case rel => exact⟨j+1,Y,by omega,Nat.le_refl _,by go_num,HI2⟩
    ·have hjm:j=mp:=by omega
     subst hjm
     have hI2:=HI.out
     rw[HMP.out]at hI2
     have HIC:=hideI hI2
     obtain⟨A1,ca1,ea1,hbx⟩:=(HS.out.read _ _ _ _ _ _ HI.out).blocks
     obtain⟨g1,off1,ea2,_,c1,_⟩:=hbx k b HBL.out
     rw[HV.out]at ea1
     injection ea1 with ea1 hq1 hq2
     clear hq1 hq2
     rw[ea2]at ea1
     injection ea1 with ea1
     injection ea1 with ea1 ea3
     subst ea1 ea3
     obtain⟨Ac,cc,hvc,_⟩:=(HS.out.read _ _ _ _ _ _ HI.out).code k b HBL.out
     obtain⟨mc,hmc⟩:∃ mc,mc=b.code.length:=⟨_,rfl⟩
     rw[← hmc]at hvc
     rw[hvc]at c1
     have HMC:=hideI hmc
     have HVC:=hideI hvc
     have hmc5:mc≤100000:=by rw[hmc];exact(HSM.out.each b (List.mem_of_getElem? HBL.out)).code
     clear hbx ea2 hvc hmc hI2 hltj
     go_wp2
     clear c1
     go_loopg [53] mc (fun gg2 s wr2=>∃ a X:Nat,a≤mc∧mc - a≤gg2∧s=.int .i64 a∧Hid (Inv k b.phis.length a 0 X wr2))
     case atStart => exact⟨0,X,Nat.zero_le _,by omega,rfl,HIC⟩
     case round =>
      clear HI HIC
      clear X
      obtain⟨a,X,ha,hg2,rfl,HI⟩:=hrel
      by_cases hlta:a<mc
      ·obtain⟨p,hp⟩:∃ p,b.code[a]?=some p:=⟨_,List.getElem?_eq_getElem (by have:=HMC.out;omega)⟩
       have HXP:=hideI hp
       obtain⟨Ap1,cp1,ep1,hpx⟩:=(HS.out.read _ _ _ _ _ _ HI.out).code k b HBL.out
       obtain⟨gp,offp,ep2,c0,c1,c2,c3⟩:=hpx a p hp
       rw[HVC.out]at ep1
       injection ep1 with ep1 hq1 hq2
       clear hq1 hq2
       rw[ep2]at ep1
       subst ep1
       obtain⟨Av,cv,hvv,_⟩:=(HS.out.read _ _ _ _ _ _ HI.out).args k b a p HBL.out hp
       obtain⟨mv,hmv⟩:∃ mv,mv=p.args.length:=⟨_,rfl⟩
       rw[← hmv]at hvv
       rw[hvv]at c2
       have HMV:=hideI hmv
       have HVV:=hideI hvv
       have hmv5:mv≤100000:=by rw[hmv];exact(HSM.out.each b (List.mem_of_getElem? HBL.out)).args p (List.mem_of_getElem? hp)
       obtain⟨wa,hwa⟩:∃ wa:World,wa=wr.alloc (.cells #[.int .i64 p.op,.int .i64 p.id,.slice Av mv cv,.int .i64 p.n] 68):=⟨_,rfl⟩
       have hba:Below wr.heap.size wr wa:=by rw[hwa];exact(Below.refl _ wr).alloc (Nat.le_refl _) _
       have hxa:wa.heap[wr.heap.size]?=some (.cells #[.int .i64 p.op,.int .i64 p.id,.slice Av mv cv,.int .i64 p.n] 68 (0,0)):=by rw[hwa];exact heap_alloc_new wr _
       have HIA:=hideI (HS.out.move _ _ _ _ _ wr.heap.size _ _ HI.out hba (.inr ⟨Nat.le_refl _,lt_of_heap hxa⟩))
       have HWA:=hideI hwa
       have hqa:=row_cells hxa rfl
       have a2:=hqa 2
       obtain⟨Y,hY⟩:∃ Y,Y=wr.heap.size:=⟨_,rfl⟩
       have HXA:Hid (wa.heap[Y]?=some (.cells #[.int .i64 p.op,.int .i64 p.id,.slice Av mv cv,.int .i64 p.n] 68 (0,0))):=hideI (by rw[hY];exact hxa)
       rw[← hY]at HIA a2
       have HY:=hideI hY
       clear hpx ep2 hmv hvv hwa hba hxa hqa hp HI
       go_upto_region 16 with fail
       rw[← HWA.out]
       rw[← HY.out]
       clear c0 c1 c2 c3 hY
       go_wp2
       clear a2
       go_loopg [60] mv (fun gg3 s wr3=>∃ i:Nat,i≤mv∧mv - i≤gg3∧s=.int .i64 i∧Hid (Inv k b.phis.length a i Y wr3)∧Hid (wr3.heap[Y]?=some (.cells #[.int .i64 p.op,.int .i64 p.id,.slice Av mv cv,.int .i64 p.n] 68 (0,0))))
       case atStart => exact⟨0,Nat.zero_le _,by omega,rfl,HIA,HXA⟩
       case round =>
        clear HIA HXA
        obtain⟨i,hi,hg3,rfl,HI,HX⟩:=hrel
        by_cases hlti:i<mv
        ·obtain⟨x,hx⟩:∃ x,p.args[i]?=some x:=⟨_,List.getElem?_eq_getElem (by have:=HMV.out;omega)⟩
         obtain⟨Av1,cv1,ev1,hvx⟩:=(HS.out.read _ _ _ _ _ _ HI.out).args k b a p HBL.out HXP.out
         obtain⟨gv,offv,ev2⟩:=hvx (by have:=HMV.out;omega)
         rw[HVV.out]at ev1
         injection ev1 with ev1 hq1 hq2
         clear hq1 hq2
         rw[ev2]at ev1
         subst ev1
         have hqa:=row_cells HX.out rfl
         have a2:=hqa 2
         have HC:=hideI (HS.out.ins k b a p i x Y wr gv offv mv cv HBL.out HXP.out hx HVV.out HI.out)
         clear hqa hvx ev2 hx
         go_wp2_with (go_at_call 92;refine HC.out.mono ?_;rintro e w2 ⟨rfl,hi2,hx2⟩;have HI2:=hideI hi2;have HX2:=hideI ((hx2 (lt_of_heap HX.out)).trans HX.out);clear hi2 hx2)
         go_roundg (mv - (i+1))
         case measure => omega
         case rel => exact⟨i+1,by omega,Nat.le_refl _,by go_num,HI2,HX2⟩
        ·have him:i=mv:=by omega
         subst him
         have hI2:=HI.out
         rw[HMV.out]at hI2
         have HI2:=hideI (HS.out.insE _ _ _ _ _ _ HBL.out HXP.out hI2)
         clear hI2
         go_wp2
         go_roundg (mc - (a+1))
         case measure => omega
         case rel => exact⟨a+1,Y,by omega,Nat.le_refl _,by go_num,HI2⟩
      ·have ham:a=mc:=by omega
       subst ham
       have hI2:=HI.out
       rw[HMC.out]at hI2
       have HIE:=hideI hI2
       obtain⟨A1,ca1,ea1,hbx⟩:=(HS.out.read _ _ _ _ _ _ HI.out).blocks
       obtain⟨g1,off1,ea2,_,_,c2⟩:=hbx k b HBL.out
       rw[HV.out]at ea1
       injection ea1 with ea1 hq1 hq2
       clear hq1 hq2
       rw[ea2]at ea1
       injection ea1 with ea1
       injection ea1 with ea1 ea3
       subst ea1 ea3
       clear hbx ea2 hI2 hlta HI
       by_cases h2:b.term.op=2
       ·have HC:=hideI (HS.out.use k b X wr g off n c HBL.out (.inl h2) HV.out HIE.out)
        rw[h2]at c2
        clear h2
        go_wp2_with (go_at_call 92;refine HC.out.mono ?_;rintro e w2 ⟨rfl,hi2⟩;have HI2:=hideI hi2;clear hi2)
        go_roundg (n - (k+1))
        case measure => omega
        case rel => exact⟨k+1,X,by omega,Nat.le_refl _,by go_num,HI2⟩
       ·by_cases h3:b.term.op=3
        ·have HC:=hideI (HS.out.use k b X wr g off n c HBL.out (.inr h3) HV.out HIE.out)
         rw[h3]at c2
         clear h2 h3
         go_wp2_with (go_at_call 92;refine HC.out.mono ?_;rintro e w2 ⟨rfl,hi2⟩;have HI2:=hideI hi2;clear hi2)
         go_roundg (n - (k+1))
         case measure => omega
         case rel => exact⟨k+1,X,by omega,Nat.le_refl _,by go_num,HI2⟩
        ·have hb2:(b.term.op==2)=false:=beq_eq_false_iff_ne.2 h2
         have hb3:(b.term.op==3)=false:=beq_eq_false_iff_ne.2 h3
         have HI2:=hideI (HS.out.rest k b X wr HBL.out (fun e=>e.elim h2 h3) HIE.out)
         clear h2 h3
         go_wp2
         go_roundg (n - (k+1))
         case measure => omega
         case rel => exact⟨k+1,X,by omega,Nat.le_refl _,by go_num,HI2⟩
  ·have hkn:k=n:=by omega
   subst hkn
   go_wp2
   go_end0
   exact⟨rfl,X,HI.out⟩
end Go.Proofs.YtaehbgppfahdeaaGreat

namespace Go.Proofs.YtaehbgppfahdeaaGreat
open Go.RowKit Go.Maps
def OpenK (f:FuncM) (ls:List LpM) (L:List (Int×Int)) (id:Int):Prop:=∃ a:Int,(id,a)∈L∧∃ m,(placedM f).last id=some m∧goesOut ls m.1 a.toNat=true
theorem openK_nil (f:FuncM) (ls:List LpM) (id:Int):OpenK f ls [] id↔False:=by
 constructor
 ·rintro⟨_,h,_⟩
  cases h
 ·exact fun h=>h.elim
theorem openK_snoc {f:FuncM} {ls:List LpM} {L:List (Int×Int)} {x:Int} {a mb:Nat} {ma:Int} (hx:(placedM f).last x=some (mb,ma)) (id:Int):OpenK f ls (L++[(x,(a:Int))]) id↔(goesOut ls mb a=true∧id=x)∨OpenK f ls L id:=by
 unfold OpenK
 constructor
 ·rintro⟨b,hb,m,hm,hg⟩
  rcases List.mem_append.1 hb with hb|hb
  ·exact .inr ⟨b,hb,m,hm,hg⟩
  ·simp only[List.mem_singleton,Prod.mk.injEq]at hb
   obtain⟨rfl,rfl⟩:=hb
   rw[hx]at hm
   cases hm
   exact .inl ⟨by simpa using hg,rfl⟩
 ·rintro(⟨hg,rfl⟩|⟨b,hb,r⟩)
  ·exact⟨(a:Int),by simp,(mb,ma),hx,by simpa using hg⟩
  ·exact⟨b,List.mem_append.2 (.inl hb),r⟩
theorem lt_of_heapO {w:World} {b:Nat} {o:Obj} (h:w.heap[b]?=some o):b<w.heap.size:=(Array.getElem?_eq_some_iff.1 h).1
def bndU (k a c i:Nat):Nat:=k*20000100000+(a+c)*100000+i
structure OpenInv (f:FuncM) (ls:List LpM) (s:Nat) (ob rb:Obj) (w0:World) (k a c i X:Nat) (w:World):Prop where
 st:OpenSt (s+3) (s+1) (bndU k a c i) X (OpenK f ls (posU f k a c i)) w
 below:Below s w0 w
 ob:w.heap[s]?=some ob
 rb:w.heap[s+2]?=some rb
section
variable {f:FuncM} {ls:List LpM} {s:Nat} {ob rb:Obj} {w0 w w':World} {k a c i X:Nat}
theorem OpenInv.move {Y:Nat} (h:OpenInv f ls s ob rb w0 k a c i X w) (hs:s≤w0.heap.size) (hb:Below w.heap.size w w') (hY:Y=X∨(w.heap.size≤Y∧Y<w'.heap.size)):OpenInv f ls s ob rb w0 k a c i Y w' :=
 ⟨h.st.move hb hY,h.below.trans (hb.mono (Nat.le_trans hs h.below.size)),(hb.block _ (lt_of_heapO h.ob)).trans h.ob,(hb.block _ (lt_of_heapO h.rb)).trans h.rb⟩
theorem OpenInv.next {k' a' c' i' mb at_:Nat} {x ma:Int} (h:OpenInv f ls s ob rb w0 k a c i X w) (_hs:s≤w0.heap.size) (hx:(placedM f).last x=some (mb,ma)) (hn:OpenNext (s+3) (s+1) (bndU k a c i) X (OpenK f ls (posU f k a c i)) (goesOut ls mb at_) x w w') (hb:bndU k a c i+1≤bndU k' a' c' i') (hp:posU f k' a' c' i'=posU f k a c i++[(x,(at_:Int))]):OpenInv f ls s ob rb w0 k' a' c' i' X w':=by
 have hsw:s+3≤w.heap.size:=h.st.size
 refine⟨(hn.st.more hb).keys (fun id=>by rw[hp];exact openK_snoc hx id),?_,(hn.far s (by omega) (by omega) (by omega)).trans h.ob,(hn.far (s+2) (by omega) (by omega) (by omega)).trans h.rb⟩
 exact⟨hn.os.trans h.below.os,hn.tape.trans h.below.tape,hn.output.trans h.below.output,Nat.le_trans h.below.size hn.size,fun b hb=>(hn.far b (by omega) (by omega) (by omega)).trans (h.below.block b hb)⟩
theorem OpenInv.same {k' a' c' i':Nat} (h:OpenInv f ls s ob rb w0 k a c i X w) (hb:bndU k a c i≤bndU k' a' c' i') (hp:posU f k' a' c' i'=posU f k a c i):OpenInv f ls s ob rb w0 k' a' c' i' X w :=
 ⟨(h.st.more hb).keys (fun id=>by rw[hp]),h.below,h.ob,h.rb⟩
end
def nestBox (v0 v1 v2 v3 v6 v7 v8:Value) (Al:Option Addr) (m0 cl gl n Md:Nat):Obj:=.cells #[v0,v1,v2,v3,.slice Al m0 cl,.slice (some ⟨gl,0,none⟩) n n,v6,v7,v8,.map (some Md)] 103 (0,0)
set_option maxRecDepth 100000 in
set_option maxHeartbeats 2000000 in
theorem open_seer (f:FuncM) (ls:List LpM) (val:Vals) (B gl cl Md m0 base0:Nat) (Al:Option Addr) (v0 v1 v2 v3 v6 v7 v8:Value) (w:World)
  (hrd:RdF w B f val) (hB:B≤w.heap.size) (hls:LoopsR w base0 (.slice Al ls.length cl) ls) (hle:w.ownsRow base0 3 1 (.slice (some ⟨gl,0,none⟩) f.blocks.length f.blocks.length) f.blocks.length (leastR f.blocks.length ls ls.length [] 0)) (hri:Rising ls) (hpl:PlacesAt w Md (defsM f))
  (h0:(lookM f).1=0) (hid:∀ u∈usesM f,I64 u.1) (hlen:ls.length≤512) (hm0:Hid (m0=ls.length)) :
  Seer f val (fun p u v P=>Calls Tryz.prog 92 #[p,u,.pointer (some ⟨w.heap.size,0,none⟩),.pointer (some ⟨w.heap.size+2,0,none⟩)] v P) (OpenInv f ls w.heap.size (nestBox v0 v1 v2 v3 v6 v7 v8 Al m0 cl gl f.blocks.length Md) (.cells #[.map (some (w.heap.size+1))] 110 (0,0)) w):=by
 have hn5:=(look_some_block h0).2
 have hsm:=look_small h0
 have hfr:∀ b∈f.blocks,∀ p∈b.phis,p.vals.length≤p.fr.length:=fun b hb p hp=>by
  have h:=((formed_all (look_formed h0)).1 b hb).1 p hp
  unfold phiB at h
  simp only[Bool.and_eq_true,beq_iff_eq]at h
  exact Nat.le_of_eq h.2.1
 have huk:=uses_known h0 hid
 have one:∀ (k a c i X:Nat) (w1:World) (g j at_:Nat) (x:Int),OpenInv f ls w.heap.size (nestBox v0 v1 v2 v3 v6 v7 v8 Al m0 cl gl f.blocks.length Md) (.cells #[.map (some (w.heap.size+1))] 110 (0,0)) w k a c i X w1→Known f x→w.cell? ⟨g,j,none⟩=some (.int .i64 x)→g<B→bndU k a c i<11000000000000 →
   ∃ mb ma,(placedM f).last x=some (mb,ma)∧Calls Tryz.prog 92 #[.pointer (some ⟨g,j,none⟩),.int .i64 (at_:Int),.pointer (some ⟨w.heap.size,0,none⟩),.pointer (some ⟨w.heap.size+2,0,none⟩)] w1 fun e w'=>e=.returned (.tuple #[])∧OpenNext (w.heap.size+3) (w.heap.size+1) (bndU k a c i) X (OpenK f ls (posU f k a c i)) (goesOut ls mb at_) x w1 w':=by
  intro k a c i X w1 g j at_ x hi hk hx hg hbn
  obtain⟨hxi,mb,ma,hlast,hmb⟩:=hk
  obtain⟨ty,hla⟩:∃ ty,(defsM f).last x=some (mb,ty):=by
   have h:=defs_last h0 x
   rw[hlast]at h
   cases hd:(defsM f).last x with
   | none => rw [hd] at h;cases h
   | some m => rw [hd] at h;have h2:m.1=mb:=Option.some.inj h;exact ⟨m.2,by rw [← h2]⟩
  refine⟨mb,ma,hlast,?_⟩
  have hbs:=hi.below
  have hsz:=hi.st.size
  exact open1_any ls (defsM f) w.heap.size (w.heap.size+2) g j f.blocks.length m0 base0 gl cl Md (w.heap.size+3) (w.heap.size+1) (bndU k a c i) X mb at_ Al v0 v1 v2 v3 v6 v7 v8 x ty _ w1 hi.ob hi.rb (hls.kept hbs) (own_kept_below hle hbs (fun k hk=>(hle.lt k hk).2)) hri (hpl.below hbs hpl.lt) ((hbs.cell (p:=⟨g,j,none⟩) (Nat.lt_of_lt_of_le hg hB)).trans hx) hxi hla hmb hn5 hlen hm0 hi.st hbn (by omega) (by omega) (by omega)
 have hrow:∀ t xs i x g off n c,rowOf f val t=some (intsRow xs)→xs[i]?=some x→val t=.slice (some ⟨g,off,none⟩) n c→w.cell? ⟨g,off+i,none⟩=some (.int .i64 x)∧g<B:=by
  intro t xs i x g off n c hd hx hv
  obtain⟨A,c',e,_,hxx⟩:=hrd t _ hd
  obtain⟨b,o,e2,hb,hc⟩:=hxx i (.int .i64 x) (by show(xs.map _)[i]?=_;rw[List.getElem?_map,hx];rfl)
  rw[hv,e2]at e
  injection e with e
  injection e with e
  injection e with e e'
  subst e e'
  exact⟨hc,hb⟩
 refine⟨fun k a c i X w1 hi=>UseRd.of_rd (B:=B) (hrd.keeps (Keeps.of_below (hi.below.mono hB))),fun k a c i X Y w1 w2 hi hb hY=>hi.move (Nat.le_refl _) hb hY,?_,?_,?_,?_,?_,?_⟩
 ·intro k b a p i x fr X w1 g off n c hb hp hx hf hv hi
  obtain⟨fr',q',hf',hq',hkn⟩:=huk.phi k b p i x hb (List.mem_of_getElem? hp) hx
  rw[hf]at hf'
  cases hf'
  obtain⟨hc,hg⟩:=hrow (.vals k a) p.vals i x g off n c (by simp only[rowOf,hb,Option.bind_some,hp,Option.map_some]) hx hv
  have hkl:=(List.getElem?_eq_some_iff.1 hb).1
  have hal:=(List.getElem?_eq_some_iff.1 hp).1
  have hil:=(List.getElem?_eq_some_iff.1 hx).1
  have hs1:=hsm.each b (List.mem_of_getElem? hb)
  have h1:=hs1.phis
  have h2:=(hs1.fr p (List.mem_of_getElem? hp)).2
  obtain⟨mb,ma,hlast,hcall⟩:=one k a 0 i X w1 g (off+i) fr' x hi hkn hc hg (by unfold bndU;omega)
  refine hcall.mono ?_
  rintro e w2 ⟨rfl,hnx⟩
  exact⟨rfl,hi.next (Nat.le_refl _) hlast hnx (by unfold bndU;omega) (posU_phi hb hp hx hf),fun _=>hnx.box⟩
 ·intro k b a p X w1 hb hp hi
  have h2:=((hsm.each b (List.mem_of_getElem? hb)).fr p (List.mem_of_getElem? hp)).2
  exact hi.same (by unfold bndU;omega) (posU_phiE hb hp (hfr b (List.mem_of_getElem? hb) p (List.mem_of_getElem? hp)))
 ·intro k b a p i x X w1 g off n c hb hp hx hv hi
  have hkn:=huk.arg k b p x hb (List.mem_of_getElem? hp) (List.mem_of_getElem? hx)
  obtain⟨hc,hg⟩:=hrow (.args k a) p.args i x g off n c (by simp only[rowOf,hb,Option.bind_some,hp,Option.map_some]) hx hv
  have hkl:=(List.getElem?_eq_some_iff.1 hb).1
  have hal:=(List.getElem?_eq_some_iff.1 hp).1
  have hil:=(List.getElem?_eq_some_iff.1 hx).1
  have hs1:=hsm.each b (List.mem_of_getElem? hb)
  have h1:=hs1.phis
  have h3:=hs1.code
  have h2:=hs1.args p (List.mem_of_getElem? hp)
  obtain⟨mb,ma,hlast,hcall⟩:=one k b.phis.length a i X w1 g (off+i) k x hi hkn hc hg (by unfold bndU;omega)
  refine hcall.mono ?_
  rintro e w2 ⟨rfl,hnx⟩
  exact⟨rfl,hi.next (Nat.le_refl _) hlast hnx (by unfold bndU;omega) (posU_ins hb hp hx),fun _=>hnx.box⟩
 ·intro k b a p X w1 hb hp hi
  have h2:=(hsm.each b (List.mem_of_getElem? hb)).args p (List.mem_of_getElem? hp)
  exact hi.same (by unfold bndU;omega) (posU_insE hb hp)
 ·intro k b X w1 g off n c hb hop hv hi
  have hkn:=huk.term k b hb hop
  obtain⟨A,c',e,_,hxx⟩:=hrd .blocks _ rfl
  obtain⟨g',o',e2,hb2,hc⟩:=hxx (k*6+3) (.int .i64 b.term.val) (by
   show(cellsOf _ 0 f.blocks)[k*6+3]?=_
   rw[cellsOf_at (s:=6) (blockCells_len val) f.blocks 0 k 3 b hb (by omega)]
   rfl)
  rw[hv,e2]at e
  injection e with e
  injection e with e
  injection e with e e'
  subst e e'
  have hkl:=(List.getElem?_eq_some_iff.1 hb).1
  have hs1:=hsm.each b (List.mem_of_getElem? hb)
  have h1:=hs1.phis
  have h3:=hs1.code
  obtain⟨mb,ma,hlast,hcall⟩:=one k b.phis.length b.code.length 0 X w1 g (off+(k*6+3)) k b.term.val hi hkn hc hb2 (by unfold bndU;omega)
  refine hcall.mono ?_
  rintro e w2 ⟨rfl,hnx⟩
  refine⟨rfl,hi.next (Nat.le_refl _) hlast hnx (by unfold bndU;omega) ?_⟩
  rw[posU_end hb]
  unfold endU
  rw[if_pos hop]
 ·intro k b X w1 hb hop hi
  have hs1:=hsm.each b (List.mem_of_getElem? hb)
  have h1:=hs1.phis
  have h3:=hs1.code
  refine hi.same (by unfold bndU;omega) ?_
  rw[posU_end hb]
  unfold endU
  rw[if_neg hop,List.append_nil]
end Go.Proofs.YtaehbgppfahdeaaGreat

namespace Go.Proofs.YtaehbgppfahdeaaGreat
open Go.RowKit Go.Maps
def OpenPost (f:FuncM) (ls:List LpM) (w:World) (e:Ending) (w':World):Prop :=
 e=.returned (.map (some (w.heap.size+1)))∧(∃ n F,n≤11000000000000∧MapV w' (w.heap.size+1) n F∧∀ id,(F id).isSome=true↔OpenK f ls (blksU f.blocks f.blocks.length) id)∧Below w.heap.size w w'
set_option maxRecDepth 100000 in
set_option maxHeartbeats 4000000 in
theorem clOpen_any (f:FuncM) (ls:List LpM) (B gl cl Md m0 base0:Nat) (Al:Option Addr) (pv bv v1 v2 v6 v7 v8:Value) (w:World)
  (hpv:Ints w B pv f.params) (hbv:BlocksR w B bv f.blocks) (hB:B≤w.heap.size) (hls:LoopsR w base0 (.slice Al ls.length cl) ls) (hle:w.ownsRow base0 3 1 (.slice (some ⟨gl,0,none⟩) f.blocks.length f.blocks.length) f.blocks.length (leastR f.blocks.length ls ls.length [] 0)) (hri:Rising ls) (hpl:PlacesAt w Md (defsM f))
  (h0:(lookM f).1=0) (hid:∀ u∈usesM f,I64 u.1) (hlen:ls.length≤512) (hm0:Hid (m0=ls.length)) :
  Calls Tryz.prog 55 #[.agg #[pv,v1,v2,bv,.slice Al m0 cl,.slice (some ⟨gl,0,none⟩) f.blocks.length f.blocks.length,v6,v7,v8,.map (some Md)]] w (OpenPost f ls w):=by
 have hrd:=read_all hpv hbv
 have hbv0:=hbv
 obtain⟨A,c,rfl,_,_⟩:=hbv0
 have hmm:=@run_makeMap Tryz.prog
 obtain⟨W1,hW1⟩:∃ W1:World,W1=w.alloc (.cells #[pv,v1,v2,.slice A f.blocks.length c,.slice Al m0 cl,.slice (some ⟨gl,0,none⟩) f.blocks.length f.blocks.length,v6,v7,v8,.map (some Md)] 103):=⟨_,rfl⟩
 obtain⟨W,hW⟩:∃ W:World,W=(W1.alloc (.map #[] 0)).alloc (.cells #[.map (some (w.heap.size+1))] 110):=⟨_,rfl⟩
 have hs1:W1.heap.size=w.heap.size+1:=by rw[hW1];simp
 have hsz:W.heap.size=w.heap.size+3:=by rw[hW];simp[hs1]
 have hb1:Below w.heap.size w W1:=by rw[hW1];exact(Below.refl _ _).alloc (Nat.le_refl _) _
 have hbW1:Below W1.heap.size W1 W:=by rw[hW];exact((Below.refl _ _).alloc (Nat.le_refl _) _).alloc (by simp) _
 have hbW:Below w.heap.size w W:=hb1.trans (hbW1.mono (by omega))
 have hob:W.heap[w.heap.size]?=some (nestBox pv v1 v2 (.slice A f.blocks.length c) v6 v7 v8 Al m0 cl gl f.blocks.length Md):=by
  refine(hbW1.block _ (by omega)).trans ?_
  rw[hW1]
  exact heap_alloc_new w _
 have hrb:W.heap[w.heap.size+2]?=some (.cells #[.map (some (w.heap.size+1))] 110 (0,0)):=by
  have h:=heap_alloc_new (W1.alloc (.map #[] 0)) (.cells #[.map (some (w.heap.size+1))] 110)
  have e:(W1.alloc (.map #[] 0)).heap.size=w.heap.size+2:=by simp[hs1]
  rw[e]at h
  rw[hW]
  exact h
 have hmv:MapV W (w.heap.size+1) 0 (fun _=>none):=by
  have h:=MapV.new W1
  rw[hs1]at h
  refine h.same ?_
  rw[hW,Below.heap_alloc _ _ _ (by simp[hs1])]
 have hi0:OpenInv f ls w.heap.size (nestBox pv v1 v2 (.slice A f.blocks.length c) v6 v7 v8 Al m0 cl gl f.blocks.length Md) (.cells #[.map (some (w.heap.size+1))] 110 (0,0)) w 0 0 0 0 w.heap.size W:=by
  refine⟨⟨⟨fun _=>none,hmv,fun id=>?_,fun _ _ hv=>absurd hv (by simp),fun _ _ _ _ _ hv=>absurd hv (by simp),fun _ _ hv=>absurd hv (by simp)⟩,by omega,by omega,by omega,by omega⟩,hbW,hob,hrb⟩
  rw[posU_start,openK_nil]
  simp
 have hseer:=open_seer f ls (readVals w pv (.slice A f.blocks.length c)) B gl cl Md m0 base0 Al pv v1 v2 (.slice A f.blocks.length c) v6 v7 v8 w hrd hB hls hle hri hpl h0 hid hlen hm0
 have hn5:=(look_some_block h0).2
 have hfr:∀ b∈f.blocks,∀ p∈b.phis,p.vals.length≤p.fr.length:=fun b hb p hp=>by
  have h:=((formed_all (look_formed h0)).1 b hb).1 p hp
  unfold phiB at h
  simp only[Bool.and_eq_true,beq_iff_eq]at h
  exact Nat.le_of_eq h.2.1
 obtain⟨n,hn⟩:∃ n,n=f.blocks.length:=⟨_,rfl⟩
 have hea:=eachAt2_any f (readVals w pv (.slice A f.blocks.length c)) n c w.heap.size w.heap.size (w.heap.size+2) A _ W (by rw[hn];rfl) hn (by omega) (look_small h0) hfr hseer hi0
 rw[show w.heap.size+2=w.heap.size+1+1 from rfl]at hea
 have HEA:=hideI hea
 have HWW:Hid (W=((w.alloc (.cells #[pv,v1,v2,.slice A n c,.slice Al m0 cl,.slice (some ⟨gl,0,none⟩) n n,v6,v7,v8,.map (some Md)] 103)).alloc (.map #[] 0)).alloc (.cells #[.map (some (w.heap.size+1))] 110)):=hideI (by rw[hW,hW1,hn])
 have HBW:=hideI hbW
 have HN:=hideI hn
 have hx1:=row_cells hob rfl
 have q3:W.cell? ⟨w.heap.size,3,none⟩=some (.slice A n c):=by rw[hn];exact hx1 3
 rw[← hn]
 clear hpv hbv hls hle hri hpl hid hm0 hW hW1 hs1 hb1 hbW1 hbW hob hrb hmv hi0 hseer hfr hn hea hx1 hrd
 go_enter Tryz.func55,Tryz.ntmps55
 go_upto_region 2 with fail
 rw[← HWW.out]
 go_wp2_with (go_at_call 91;go_must (refine HEA.out.mono ?_);rintro e w1 ⟨rfl,X,hi⟩;have r0:w1.cell? ⟨w.heap.size+1+1,0,none⟩=some (.map (some (w.heap.size+1))):=row_cells hi.rb rfl 0;have HI:=hideI hi;clear hi)
 go_ret
 have h1:=HI.out
 rw[HN.out]at h1
 obtain⟨F,hm,hk,_⟩:=h1.st.ex
 exact⟨rfl,⟨_,F,by unfold bndU;omega,hm,fun id=>by rw[hk id,posU_all]⟩,h1.below⟩
end Go.Proofs.YtaehbgppfahdeaaGreat

namespace Go.Proofs.YtaehbgppfahdeaaGreat
open Go.RowKit Go.Maps Go.Sort Go.Shelf
def keysL_ren:Go.Shelf.Ren:=⟨fun|7=>225|10=>241|n=>n,fun|23=>127|26=>3|3=>3|28=>108|0=>0|27=>107|33=>148|4=>4|n=>n,fun|n=>n⟩
theorem keysL:Go.Proofs.SlLaysZI.n7 Tryz.prog keysL_ren:={
 mixed:=by kernel_rfl,
 f7:=⟨Tryz.f225.name,by decide,Tryz.func225.trans (congrArg some (by kernel_rfl))⟩,
 f10:=⟨Tryz.f241.name,by decide,Tryz.func241.trans (congrArg some (by kernel_rfl))⟩,
 t0:=Tryz.underlying0,
 a0:=Tryz.isAgg0,
 z0:=Tryz.sizeOf0,
 v0:=Tryz.zeroValue0,
 t4:=Tryz.underlying4,
 a4:=Tryz.isAgg4,
 z4:=Tryz.sizeOf4,
 v4:=Tryz.zeroValue4,
 t23:=Tryz.underlying127,
 a23:=Tryz.isAgg127,
 z23:=Tryz.sizeOf127,
 v23:=Tryz.zeroValue127,
 t26:=Tryz.underlying3,
 a26:=Tryz.isAgg3,
 z26:=Tryz.sizeOf3,
 v26:=Tryz.zeroValue3,
 t27:=Tryz.underlying107,
 a27:=Tryz.isAgg107,
 z27:=Tryz.sizeOf107,
 v27:=Tryz.zeroValue107,
 t28:=Tryz.underlying108,
 a28:=Tryz.isAgg108,
 z28:=Tryz.sizeOf108,
 v28:=Tryz.zeroValue108,
 t33:=Tryz.underlying148,
 a33:=Tryz.isAgg148,
 z33:=Tryz.sizeOf148,
 v33:=Tryz.zeroValue148 }
def sortedL_ren:Go.Shelf.Ren:=⟨fun|6=>53|8=>88|9=>89|11=>141|13=>143|12=>142|23=>194|24=>195|14=>186|15=>187|16=>188|17=>189|18=>190|19=>191|20=>181|21=>192|22=>193|25=>220|26=>221|27=>222|28=>223|29=>224|30=>214|31=>240|n=>n,fun|26=>3|28=>108|24=>22|0=>0|3=>3|37=>215|48=>263|50=>265|4=>4|40=>257|39=>256|45=>132|5=>5|9=>9|51=>281|55=>157|57=>297|58=>298|33=>148|n=>n,fun|n=>n⟩
theorem sortedL:Go.Proofs.SlLaysZI.n6 Tryz.prog sortedL_ren:={
 mixed:=by kernel_rfl,
 f6:=⟨Tryz.f53.name,by decide,Tryz.func53.trans (congrArg some (by kernel_rfl))⟩,
 f8:=⟨Tryz.f88.name,by decide,Tryz.func88.trans (congrArg some (by kernel_rfl))⟩,
 f11:=⟨Tryz.f141.name,by decide,Tryz.func141.trans (congrArg some (by kernel_rfl))⟩,
 t0:=Tryz.underlying0,
 a0:=Tryz.isAgg0,
 z0:=Tryz.sizeOf0,
 v0:=Tryz.zeroValue0,
 t24:=Tryz.underlying22,
 a24:=Tryz.isAgg22,
 z24:=Tryz.sizeOf22,
 v24:=Tryz.zeroValue22,
 t26:=Tryz.underlying3,
 a26:=Tryz.isAgg3,
 z26:=Tryz.sizeOf3,
 v26:=Tryz.zeroValue3,
 t28:=Tryz.underlying108,
 a28:=Tryz.isAgg108,
 z28:=Tryz.sizeOf108,
 v28:=Tryz.zeroValue108,
 i26:=by kernel_rfl }
def sortL_ren:Go.Shelf.Ren:=⟨fun|5=>89|8=>143|7=>142|19=>194|20=>195|10=>186|11=>187|12=>188|13=>189|14=>190|15=>191|16=>181|17=>192|18=>193|30=>220|31=>221|32=>222|33=>223|34=>224|35=>214|40=>240|n=>n,fun|23=>22|25=>3|3=>3|32=>215|22=>22|0=>0|44=>263|46=>265|4=>4|36=>257|35=>256|41=>132|5=>5|9=>9|53=>281|57=>157|63=>297|64=>298|n=>n,fun|n=>n⟩
theorem sortL:Go.Proofs.SlLaysM.n5 Tryz.prog sortL_ren:={
 mixed:=by kernel_rfl,
 f5:=⟨Tryz.f89.name,by decide,Tryz.func89.trans (congrArg some (by kernel_rfl))⟩,
 f7:=⟨Tryz.f142.name,by decide,Tryz.func142.trans (congrArg some (by kernel_rfl))⟩,
 f8:=Tryz.func143.trans (congrArg some (by kernel_rfl)),
 f10:=⟨Tryz.f186.name,by decide,Tryz.func186.trans (congrArg some (by kernel_rfl))⟩,
 f11:=⟨Tryz.f187.name,by decide,Tryz.func187.trans (congrArg some (by kernel_rfl))⟩,
 f12:=⟨Tryz.f188.name,by decide,Tryz.func188.trans (congrArg some (by kernel_rfl))⟩,
 f13:=⟨Tryz.f189.name,by decide,Tryz.func189.trans (congrArg some (by kernel_rfl))⟩,
 f14:=⟨Tryz.f190.name,by decide,Tryz.func190.trans (congrArg some (by kernel_rfl))⟩,
 f15:=⟨Tryz.f191.name,by decide,Tryz.func191.trans (congrArg some (by kernel_rfl))⟩,
 f16:=⟨Tryz.f181.name,by decide,Tryz.func181.trans (congrArg some (by kernel_rfl))⟩,
 f17:=⟨Tryz.f192.name,by decide,Tryz.func192.trans (congrArg some (by kernel_rfl))⟩,
 f18:=⟨Tryz.f193.name,by decide,Tryz.func193.trans (congrArg some (by kernel_rfl))⟩,
 f19:=Tryz.func194.trans (congrArg some (by kernel_rfl)),
 f20:=Tryz.func195.trans (congrArg some (by kernel_rfl)),
 f30:=⟨Tryz.f220.name,by decide,Tryz.func220.trans (congrArg some (by kernel_rfl))⟩,
 f31:=Tryz.func221.trans (congrArg some (by kernel_rfl)),
 f32:=Tryz.func222.trans (congrArg some (by kernel_rfl)),
 f33:=⟨Tryz.f223.name,by decide,Tryz.func223.trans (congrArg some (by kernel_rfl))⟩,
 f34:=⟨Tryz.f224.name,by decide,Tryz.func224.trans (congrArg some (by kernel_rfl))⟩,
 f35:=⟨Tryz.f214.name,by decide,Tryz.func214.trans (congrArg some (by kernel_rfl))⟩,
 f40:=⟨Tryz.f240.name,by decide,Tryz.func240.trans (congrArg some (by kernel_rfl))⟩,
 t0:=Tryz.underlying0,
 a0:=Tryz.isAgg0,
 z0:=Tryz.sizeOf0,
 v0:=Tryz.zeroValue0,
 t3:=Tryz.underlying3,
 a3:=Tryz.isAgg3,
 z3:=Tryz.sizeOf3,
 v3:=Tryz.zeroValue3,
 t4:=Tryz.underlying4,
 a4:=Tryz.isAgg4,
 z4:=Tryz.sizeOf4,
 v4:=Tryz.zeroValue4,
 t5:=Tryz.underlying5,
 a5:=Tryz.isAgg5,
 z5:=Tryz.sizeOf5,
 v5:=Tryz.zeroValue5,
 t9:=Tryz.underlying9,
 a9:=Tryz.isAgg9,
 z9:=Tryz.sizeOf9,
 v9:=Tryz.zeroValue9,
 t22:=Tryz.underlying22,
 a22:=Tryz.isAgg22,
 z22:=Tryz.sizeOf22,
 v22:=Tryz.zeroValue22,
 t23:=Tryz.underlying22,
 a23:=Tryz.isAgg22,
 z23:=Tryz.sizeOf22,
 v23:=Tryz.zeroValue22,
 t25:=Tryz.underlying3,
 a25:=Tryz.isAgg3,
 z25:=Tryz.sizeOf3,
 v25:=Tryz.zeroValue3,
 t32:=Tryz.underlying215,
 a32:=Tryz.isAgg215,
 z32:=Tryz.sizeOf215,
 v32:=Tryz.zeroValue215,
 t35:=Tryz.underlying256,
 a35:=Tryz.isAgg256,
 z35:=Tryz.sizeOf256,
 v35:=Tryz.zeroValue256,
 t36:=Tryz.underlying257,
 a36:=Tryz.isAgg257,
 z36:=Tryz.sizeOf257,
 v36:=Tryz.zeroValue257,
 t41:=Tryz.underlying132,
 a41:=Tryz.isAgg132,
 z41:=Tryz.sizeOf132,
 v41:=Tryz.zeroValue132,
 t44:=Tryz.underlying263,
 a44:=Tryz.isAgg263,
 z44:=Tryz.sizeOf263,
 v44:=Tryz.zeroValue263,
 t46:=Tryz.underlying265,
 a46:=Tryz.isAgg265,
 z46:=Tryz.sizeOf265,
 v46:=Tryz.zeroValue265,
 t53:=Tryz.underlying281,
 a53:=Tryz.isAgg281,
 z53:=Tryz.sizeOf281,
 v53:=Tryz.zeroValue281,
 t57:=Tryz.underlying157,
 a57:=Tryz.isAgg157,
 z57:=Tryz.sizeOf157,
 v57:=Tryz.zeroValue157,
 t63:=Tryz.underlying297,
 a63:=Tryz.isAgg297,
 z63:=Tryz.sizeOf297,
 v63:=Tryz.zeroValue297,
 t64:=Tryz.underlying298,
 a64:=Tryz.isAgg298,
 z64:=Tryz.sizeOf298,
 v64:=Tryz.zeroValue298 }
theorem sortsL (m:Nat):AnyZI.SortsIn Tryz.prog sortedL_ren Fence.wide m :=
 ⟨fun blk off cap ss W hH hblk hsz=>callsIn_wide.2 (AnyM.slices_Sort_int sortL blk off cap ss W hH hblk hsz),
  fun p cap W=>callsIn_wide.2 (AnyM.slices_Sort_int_none sortL p cap W)⟩
end Go.Proofs.YtaehbgppfahdeaaGreat
