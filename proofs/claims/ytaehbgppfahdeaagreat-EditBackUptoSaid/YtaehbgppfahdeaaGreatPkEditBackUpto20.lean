/- What EditBackUpto rests on, part 20: RefStrictM, RefOver, RPreds, RefDef, RefStrict. -/
import Derived.Test.YtaehbgppfahdeaaGreatPkEditBackUpto19
import Derived.Deep.AppendLies
import Derived.BigQuiet
import Derived.Deep.QuietTactic

namespace Go.Proofs.YtaehbgppfahdeaaGreat
open Go.RowKit
def justR (fr ps:List Int):Bool:=fr.length == ps.length && ps.all fun b => decide (b ∈ fr)
theorem justR_eq {fr ps:List Int} (h1:fr.Nodup) (h2:ps.Nodup):justR fr ps=justB fr ps:=by
 unfold justR justB
 cases hl:fr.length == ps.length
 ·rfl
 ·have hl':fr.length=ps.length:=by simpa using hl
  rw [Bool.true_and,Bool.true_and,Bool.eq_iff_iff,List.all_eq_true,List.all_eq_true]
  have sub:∀ {a b:List Int},a.Nodup → a.length=b.length → b.Nodup → (∀ x ∈ a,x ∈ b) → ∀ x ∈ b,x ∈ a:=by
   intro a b ha hab hb hs x hx
   by_cases hxa:x ∈ a
   ·exact hxa
   ·have:=sub_len (x :: a) b (List.nodup_cons.2 ⟨hxa,ha⟩) (fun y hy => by rcases List.mem_cons.1 hy with rfl | hy;exact hx;exact hs y hy)
    rw [List.length_cons] at this
    omega
  constructor
  ·intro h x hx
   exact decide_eq_true (sub h2 hl'.symm h1 (fun y hy => of_decide_eq_true (h y hy)) x hx)
  ·intro h x hx
   exact decide_eq_true (sub h1 hl' h2 (fun y hy => of_decide_eq_true (h y hy)) x hx)
def phisFitR (bs:List BlockM) (b:Nat) (q:BlockM):Bool:=q.phis.all fun p => justR p.fr (predsI bs b)
theorem predsI_nodup (bs:List BlockM) (b:Nat):(predsI bs b).Nodup:=(predsI_rising bs b).imp (fun h => by omega)
theorem look_once {f:FuncM} (h:(lookM f).1=0) {q:BlockM} (hq:q ∈ f.blocks) {p:PhiM} (hp:p ∈ q.phis):p.fr.Nodup ∧ ∀ x ∈ p.fr,0 ≤ x ∧ x < f.blocks.length:=by
 have hon:=((formed_all (look_formed h)).1 q hq).1 p hp
 unfold phiB at hon
 simp only [Bool.and_eq_true] at hon
 have:=once_nodup _ _ hon.2.2
 exact ⟨this.1,fun x hx => by have:=this.2.1 x hx;omega⟩
theorem phisFitR_eq {f:FuncM} (h:(lookM f).1=0) {b:Nat} {q:BlockM} (hq:f.blocks[b]?=some q):phisFitR f.blocks b q=phisFitB f.blocks b q:=by
 have h1:∀ p ∈ q.phis,justR p.fr (predsI f.blocks b)=justB p.fr (predsI f.blocks b):=fun p hp => justR_eq (look_once h (List.mem_of_getElem? hq) hp).1 (predsI_nodup _ _)
 unfold phisFitR phisFitB
 rw [Bool.eq_iff_iff,List.all_eq_true,List.all_eq_true]
 exact ⟨fun h2 p hp => by rw [← h1 p hp];exact h2 p hp,fun h2 p hp => by rw [h1 p hp];exact h2 p hp⟩
def okRow (f:FuncM) (o:List Nat) (r:List Int):Prop:=∀ m,(placedM f).last (r.getD 0 0)=some m →
 if r.getD 3 0 < 0 then OverP f.blocks o m.1 (r.getD 4 0).toNat else if (m.1:Int)=r.getD 2 0 then m.2 < r.getD 3 0 else OverP f.blocks o m.1 (r.getD 2 0).toNat
theorem made_end {f:FuncM} {id:Int} {b:Nat} {a:Int} {q:BlockM} (h:MadeAt f id b a) (hq:f.blocks[b]?=some q):a < q.code.length:=by
 cases h with
 | param => omega
 | phi => omega
 | instr hq' hx =>
  rw [hq] at hq'
  cases hq'
  have:=(List.getElem?_eq_some_iff.1 hx).1
  omega
theorem okRow_phi {f:FuncM} {o:List Nat} (hall:∀ b,b < f.blocks.length → b ∈ o) {b fr:Nat} {t id:Int} {q':BlockM} (hq:f.blocks[fr]?=some q'):okRow f o (rowPhi b t (id,(fr:Int))) ↔ okP f o id fr q'.code.length:=by
 unfold okRow okP rowPhi
 refine forall_congr' fun m => forall_congr' fun hm => ?_
 have hfr:=(List.getElem?_eq_some_iff.1 hq).1
 simp only [List.getD_cons_zero,List.getD_cons_succ,Int.toNat_natCast]
 rw [if_pos (by omega)]
 unfold aheadP
 by_cases h:m.1=fr
 ·subst h
  exact ⟨fun _ => .inl ⟨rfl,made_end (last_made hm) hq⟩,fun _ => OverP.refl (hall _ hfr)⟩
 ·exact ⟨fun k => .inr ⟨h,k⟩,fun k => k.elim (fun k => absurd k.1 h) (fun k => k.2)⟩
theorem okRow_at {f:FuncM} {o:List Nat} {b i:Nat} {t id c:Int}:okRow f o [id,t,(b:Int),(i:Int),c] ↔ okP f o id b i:=by
 unfold okRow okP
 refine forall_congr' fun m => forall_congr' fun _ => ?_
 simp only [List.getD_cons_zero,List.getD_cons_succ,Int.toNat_natCast]
 rw [if_neg (by omega)]
 unfold aheadP
 by_cases h:m.1=b
 ·rw [if_pos (by omega)]
  exact ⟨fun k => .inl ⟨h,k⟩,fun k => k.elim (fun k => k.2) (fun k => absurd h k.1)⟩
 ·rw [if_neg (by omega)]
  exact ⟨fun k => .inr ⟨h,k⟩,fun k => k.elim (fun k => absurd k.1 h) (fun k => k.2)⟩
theorem rowsCode_mem {b:Nat} {xs:List InstrM} {r:List Int}:∀ n,n ≤ xs.length → (r ∈ rowsCode b xs n ↔ ∃ (i:Nat) (x:InstrM),i < n ∧ xs[i]?=some x ∧ r ∈ rowsInstr b i x):=by
 intro n
 induction n with
 | zero => intro _;exact ⟨fun h => (by cases h),fun ⟨i,_,h,_⟩ => (by omega)⟩
 | succ n ih =>
  intro hn
  have hx:xs[n]?=some xs[n]:=List.getElem?_eq_getElem (by omega)
  rw [rowsCode,hx,List.mem_append,ih (by omega)]
  constructor
  ·rintro (⟨i,x,h1,h2,h3⟩ | h)
   ·exact ⟨i,x,by omega,h2,h3⟩
   ·exact ⟨n,_,by omega,hx,h⟩
  ·rintro ⟨i,x,h1,h2,h3⟩
   rcases Nat.lt_or_ge i n with h | h
   ·exact .inl ⟨i,x,h,h2,h3⟩
   ·have:i=n:=by omega
    subst this
    rw [hx] at h2
    cases h2
    exact .inr h3
theorem rows_uses {f:FuncM} (h0:(lookM f).1=0) {o:List Nat} (hall:∀ b,b < f.blocks.length → b ∈ o) {b:Nat} {q:BlockM} (hq:f.blocks[b]?=some q):(∀ r ∈ rowsBlock b q,okRow f o r) ↔ UsesP f o b q:=by
 have hmq:=List.mem_of_getElem? hq
 constructor
 ·intro h
  refine ⟨fun p hp i id fr q' h1 h2 h3 => ?_,fun i x hx id hid => ?_,fun ht => ?_⟩
  ·refine (okRow_phi (b:=b) (t:=p.typ) hall h3).1 (h _ (List.mem_append.2 (.inl (List.mem_flatMap.2 ⟨p,hp,List.mem_map.2 ⟨(id,(fr:Int)),?_,rfl⟩⟩))))
   exact List.mem_of_getElem? (i:=i) (List.getElem?_zip_eq_some.2 ⟨h1,h2⟩)
  ·obtain ⟨m,hm⟩:=List.getElem?_of_mem hid
   have hl:=look_form h0 q hmq x (List.mem_of_getElem? hx)
   have hml:=(List.getElem?_eq_some_iff.1 hm).1
   obtain ⟨t,ht⟩:∃ t,(takesS x.op)[m]?=some t:=⟨_,List.getElem?_eq_getElem (by omega)⟩
   refine (okRow_at (t:=t) (c:=0)).1 (h _ (List.mem_append.2 (.inr (List.mem_append.2 (.inl ((rowsCode_mem _ (Nat.le_refl _)).2 ⟨i,x,(List.getElem?_eq_some_iff.1 hx).1,hx,List.mem_map.2 ⟨(id,t),?_,rfl⟩⟩))))))
   exact List.mem_of_getElem? (i:=m) (List.getElem?_zip_eq_some.2 ⟨hm,ht⟩)
  ·have hr:∃ t,rowsTerm b q=[[q.term.val,t,(b:Int),(q.code.length:Int),0]]:=by
    unfold rowsTerm
    rcases ht with ht | ht
    ·exact ⟨2,by rw [if_pos ht]⟩
    ·exact ⟨0,by rw [if_neg (by omega),if_pos ht]⟩
   obtain ⟨t,hr⟩:=hr
   exact (okRow_at (t:=t) (c:=0)).1 (h _ (List.mem_append.2 (.inr (List.mem_append.2 (.inr (by rw [hr];exact List.mem_singleton.2 rfl))))))
 ·rintro ⟨h1,h2,h3⟩ r hr
  rcases List.mem_append.1 hr with hr | hr
  ·obtain ⟨p,hp,hr⟩:=List.mem_flatMap.1 hr
   obtain ⟨d,hd,rfl⟩:=List.mem_map.1 hr
   obtain ⟨i,hi⟩:=List.getElem?_of_mem hd
   obtain ⟨ha,hb⟩:=List.getElem?_zip_eq_some.1 hi
   have hrg:=(look_once h0 hmq hp).2 d.2 (List.mem_of_getElem? hb)
   obtain ⟨x,y⟩:=d
   simp only at ha hb hrg
   obtain ⟨fr,rfl⟩:∃ fr:Nat,y=(fr:Int):=⟨y.toNat,by omega⟩
   have hq':f.blocks[fr]?=some (f.blocks[fr]'(by omega)):=List.getElem?_eq_getElem _
   exact (okRow_phi hall hq').2 (h1 p hp i x fr _ ha hb hq')
  ·rcases List.mem_append.1 hr with hr | hr
   ·obtain ⟨i,x,hi,hx,hr⟩:=(rowsCode_mem _ (Nat.le_refl _)).1 hr
    obtain ⟨d,hd,rfl⟩:=List.mem_map.1 hr
    obtain ⟨m,hm⟩:=List.getElem?_of_mem hd
    obtain ⟨ha,hb⟩:=List.getElem?_zip_eq_some.1 hm
    exact okRow_at.2 (h2 i x hx d.1 (List.mem_of_getElem? ha))
   ·unfold rowsTerm at hr
    split at hr
    ·rename_i ht
     rw [List.mem_singleton] at hr
     subst hr
     exact okRow_at.2 (h3 (.inl ht))
    ·split at hr
     ·rename_i ht
      rw [List.mem_singleton] at hr
      subst hr
      exact okRow_at.2 (h3 (.inr ht))
     ·cases hr
theorem rowsBlock_blk {b:Nat} {q:BlockM} {r:List Int} (h:r ∈ rowsBlock b q):r.getD 2 0=(b:Int):=by
 rcases List.mem_append.1 h with hr | hr
 ·obtain ⟨p,hp,hr⟩:=List.mem_flatMap.1 hr
  obtain ⟨d,hd,rfl⟩:=List.mem_map.1 hr
  rfl
 ·rcases List.mem_append.1 hr with hr | hr
  ·obtain ⟨i,x,hi,hx,hr⟩:=(rowsCode_mem _ (Nat.le_refl _)).1 hr
   obtain ⟨d,hd,rfl⟩:=List.mem_map.1 hr
   rfl
  ·unfold rowsTerm at hr
   split at hr
   ·rw [List.mem_singleton] at hr;subst hr;rfl
   ·split at hr
    ·rw [List.mem_singleton] at hr;subst hr;rfl
    ·cases hr
theorem rowsTo_at (bs:List BlockM) {r:List Int}:∀ (n i:Nat),n ≤ bs.length → (rowsTo bs n)[i]?=some r → ∃ (b:Nat) (q:BlockM),b < n ∧ bs[b]?=some q ∧ r ∈ rowsBlock b q ∧ (rowsTo bs b).length ≤ i:=by
 intro n
 induction n with
 | zero => intro i _ h;simp [rowsTo] at h
 | succ n ih =>
  intro i hn h
  have hq:bs[n]?=some bs[n]:=List.getElem?_eq_getElem (by omega)
  rw [rowsTo,hq] at h
  rcases Nat.lt_or_ge i (rowsTo bs n).length with hi | hi
  ·rw [List.getElem?_append_left hi] at h
   obtain ⟨b,q,h1,h2⟩:=ih i (by omega) h
   exact ⟨b,q,by omega,h2⟩
  ·rw [List.getElem?_append_right hi] at h
   exact ⟨n,_,by omega,hq,List.mem_of_getElem? h,hi⟩
theorem rowsTo_prefix (bs:List BlockM):∀ (n b:Nat),b ≤ n → ∃ t,rowsTo bs n=rowsTo bs b ++ t:=by
 intro n
 induction n with
 | zero => intro b hb;have:b=0:=by omega
           subst this;exact ⟨[],by simp⟩
 | succ n ih =>
  intro b hb
  rcases Nat.eq_or_lt_of_le hb with rfl | hb
  ·exact ⟨[],by simp⟩
  ·obtain ⟨t,ht⟩:=ih b (by omega)
   rw [rowsTo,ht]
   exact ⟨t ++ _,by rw [List.append_assoc]⟩
theorem rowsTo_has (bs:List BlockM) {b:Nat} {q:BlockM} (hq:bs[b]?=some q) {n:Nat} (hb:b < n) {r:List Int} (hr:r ∈ rowsBlock b q):r ∈ rowsTo bs n:=by
 obtain ⟨t,ht⟩:=rowsTo_prefix bs n (b + 1) hb
 rw [ht,rowsTo,hq]
 exact List.mem_append.2 (.inl (List.mem_append.2 (.inr hr)))
theorem rows_bad {f:FuncM} (h0:(lookM f).1=0) {o:List Nat} (hall:∀ b,b < f.blocks.length → b ∈ o) {i:Nat} {r:List Int} (hr:(rowsTo f.blocks f.blocks.length)[i]?=some r) (hlow:∀ (j:Nat) (s:List Int),j < i → (rowsTo f.blocks f.blocks.length)[j]?=some s → okRow f o s) (hbad:¬ okRow f o r) :
  ∃ b:Nat,FirstBad f.blocks.length (usesPR f o) b ∧ r.getD 2 0=(b:Int):=by
 obtain ⟨b,q,hb,hq,hrb,hle⟩:=rowsTo_at f.blocks _ i (Nat.le_refl _) hr
 refine ⟨b,⟨hb,fun hp => hbad ((rows_uses h0 hall hq).2 (hp q hq) r hrb),fun a ha q' hq' => (rows_uses h0 hall hq').1 fun s hs => ?_⟩,rowsBlock_blk hrb⟩
 obtain ⟨j,hj⟩:=List.getElem?_of_mem (rowsTo_has f.blocks hq' ha hs)
 have hjl:=(List.getElem?_eq_some_iff.1 hj).1
 obtain ⟨t,ht⟩:=rowsTo_prefix f.blocks f.blocks.length b (by omega)
 exact hlow j s (by omega) (by rw [ht,List.getElem?_append_left hjl];exact hj)
theorem rows_good {f:FuncM} (h0:(lookM f).1=0) {o:List Nat} (hall:∀ b,b < f.blocks.length → b ∈ o) (h:∀ r ∈ rowsTo f.blocks f.blocks.length,okRow f o r):∀ b,b < f.blocks.length → usesPR f o b :=
 fun _ hb _ hq => (rows_uses h0 hall hq).1 fun s hs => h s (rowsTo_has f.blocks hq hb hs)
structure RowIs (f:FuncM) (r:List Int):Prop where
 known:Known f (r.getD 0 0)
 blk:∃ b:Nat,r.getD 2 0=(b:Int) ∧ b < f.blocks.length
 frm:∃ b:Nat,r.getD 4 0=(b:Int) ∧ b < f.blocks.length
theorem row_is {f:FuncM} (h0:(lookM f).1=0) (hid:∀ u ∈ usesM f,I64 u.1) {r:List Int} (hr:r ∈ rowsTo f.blocks f.blocks.length):RowIs f r:=by
 obtain ⟨i,hi⟩:=List.getElem?_of_mem hr
 obtain ⟨b,q,hb,hq,hrb,_⟩:=rowsTo_at f.blocks _ i (Nat.le_refl _) hi
 have hn:=(look_some_block h0).1
 have hmq:=List.mem_of_getElem? hq
 have hK:=uses_known h0 hid
 refine ⟨?_,⟨b,rowsBlock_blk hrb,hb⟩,?_⟩
 all_goals
  rcases List.mem_append.1 hrb with hr | hr
  ·obtain ⟨p,hp,hr⟩:=List.mem_flatMap.1 hr
   obtain ⟨d,hd,rfl⟩:=List.mem_map.1 hr
   obtain ⟨j,hj⟩:=List.getElem?_of_mem hd
   obtain ⟨ha,hb'⟩:=List.getElem?_zip_eq_some.1 hj
   first
    | (obtain ⟨_,_,_,_,hk⟩:=hK.phi b q p j d.1 hq hp ha
       exact hk)
    | (have hrg:=(look_once h0 hmq hp).2 d.2 (List.mem_of_getElem? hb')
       exact ⟨d.2.toNat,by simp [rowPhi];omega,by omega⟩)
  ·rcases List.mem_append.1 hr with hr | hr
   ·obtain ⟨k,x,hk,hx,hr⟩:=(rowsCode_mem _ (Nat.le_refl _)).1 hr
    obtain ⟨d,hd,rfl⟩:=List.mem_map.1 hr
    obtain ⟨m,hm⟩:=List.getElem?_of_mem hd
    obtain ⟨ha,_⟩:=List.getElem?_zip_eq_some.1 hm
    first
     | exact hK.arg b q x d.1 hq (List.mem_of_getElem? hx) (List.mem_of_getElem? ha)
     | exact ⟨0,rfl,hn⟩
   ·unfold rowsTerm at hr
    split at hr
    ·rename_i ht
     rw [List.mem_singleton] at hr
     subst hr
     first
      | exact hK.term b q hq (.inl ht)
      | exact ⟨0,rfl,hn⟩
    ·split at hr
     ·rename_i ht
      rw [List.mem_singleton] at hr
      subst hr
      first
       | exact hK.term b q hq (.inr ht)
       | exact ⟨0,rfl,hn⟩
     ·cases hr
end Go.Proofs.YtaehbgppfahdeaaGreat

namespace Go.Proofs.YtaehbgppfahdeaaGreat
open Go.RowKit Go.Maps
set_option maxRecDepth 100000 in
set_option maxHeartbeats 1000000 in
theorem refWithout_zero (bs:List BlockM) (B:Nat) (pv av cv bv:Value) (w:World) (hbv:BlocksR w B bv bs) (_hB:B ≤ w.heap.size) (hn5:bs.length ≤ 512) :
  Calls Tryz.prog 44 #[.agg #[pv,av,cv,bv],.int .i64 0] w (WithoutPost bs 0 w):=by
 obtain ⟨A,c,rfl,hbm,_⟩:=hbv
 obtain ⟨i0,hix,hz0,hz1,hz2⟩:=info_parts bool_info
 go_enter Tryz.func44,Tryz.ntmps44
 go_wp2_with (first
  | (at_make;go_must (refine wpList_make_full _ rfl _ _ 91 rfl (w.heap.size + 1) 4 i0 (.bool false) 1 Tryz.underlying91 hix hz0 hz1 .i64 .i64 _ _ bs.length rfl rfl rfl rfl (by rw [hz2];omega) (by unfold maxLen;omega) (by simp) ?_);intro w1 hown1 hg1;rw [World.size_alloc] at hown1;go_must (rw [marks_made] at hown1;have HO1:=hideI hown1;have HB0:Hid (Below w.heap.size w w1):=((Below.refl _ _).alloc (Nat.le_refl _) _).grown hg1 (by simp) (by simp);clear hown1 hg1)))
 go_ret
 exact ⟨[],_,rfl,no_zero,World.ownsRow.mono HO1.out (by omega),HB0.out⟩
theorem refWithout_all (bs:List BlockM) (B:Nat) (pv av cv bv:Value) (gone:Int) (w:World) (hbv:BlocksR w B bv bs) (hB:B ≤ w.heap.size) (h0:0 < bs.length) (hn5:bs.length ≤ 512) (hin:EndsIn bs) :
  Calls Tryz.prog 44 #[.agg #[pv,av,cv,bv],.int .i64 gone] w (WithoutPost bs gone w):=by
 by_cases hg:gone=0
 ·subst hg
  exact refWithout_zero bs B pv av cv bv w hbv hB hn5
 ·exact refWithout_any bs B pv av cv bv gone w hbv hB h0 hn5 hin hg
def GridR (w:World) (v:Value) (n:Nat) (G:Nat → Nat → Bool):Prop :=
 ∃ gv c,v=.slice (some ⟨gv,0,none⟩) n c ∧ gv < w.heap.size ∧ ∀ a,a < n → ∃ ga,ga < w.heap.size ∧ w.cell? ⟨gv,a,none⟩=some (.slice (some ⟨ga,0,none⟩) n n) ∧ ∀ b,b < n → w.cell? ⟨ga,b,none⟩=some (.bool (G a b))
theorem GridR.kept {w w':World} {v:Value} {n:Nat} {G:Nat → Nat → Bool} (h:GridR w v n G) (hb:Below w.heap.size w w'):GridR w' v n G:=by
 obtain ⟨gv,c,e,h1,h2⟩:=h
 refine ⟨gv,c,e,Nat.lt_of_lt_of_le h1 hb.size,fun a ha => ?_⟩
 obtain ⟨ga,h3,h4,h5⟩:=h2 a ha
 exact ⟨ga,Nat.lt_of_lt_of_le h3 hb.size,(hb.cell (p:=⟨gv,a,none⟩) h1).trans h4,fun b hb' => (hb.cell (p:=⟨ga,b,none⟩) h3).trans (h5 b hb')⟩
def rowTo (n:Nat) (G:Nat → Nat → Bool) (a k:Nat):List Value:=(List.range n).map fun b => .bool (decide (b < k) && G a b)
theorem rowTo_zero (n:Nat) (G:Nat → Nat → Bool) (a:Nat):rowTo n G a 0=marks n []:=by
 unfold rowTo marks
 apply List.map_congr_left
 intro b _
 simp
theorem rowTo_at {n a k b:Nat} {G:Nat → Nat → Bool} (h:b < n):(rowTo n G a k)[b]?=some (.bool (decide (b < k) && G a b)):=by
 unfold rowTo
 rw [List.getElem?_map,List.getElem?_eq_getElem (by simpa using h)]
 simp
theorem rowTo_set {n a k:Nat} {G:Nat → Nat → Bool}:(rowTo n G a k).set k (.bool (G a k))=rowTo n G a (k + 1):=by
 apply List.ext_getElem?
 intro i
 by_cases hi:i < n
 ·by_cases e:k=i
  ·subst e
   rw [List.getElem?_set_self (by simpa [rowTo] using hi),rowTo_at hi]
   simp
  ·rw [List.getElem?_set_ne e,rowTo_at hi,rowTo_at hi]
   have:decide (i < k + 1)=decide (i < k):=by
    apply decide_eq_decide.2
    omega
   rw [this]
 ·rw [List.getElem?_eq_none (by simp [rowTo];omega),List.getElem?_eq_none (by simp [rowTo];omega)]
structure Square (w:World) (base n k:Nat) (G:Nat → Nat → Bool) (v:Value) (vs:List Value):Prop where
 row:w.ownsRow base 91 1 v k vs
 each:∀ a,a < k → ∃ ga,vs[a]?=some (.slice (some ⟨ga,0,none⟩) n n) ∧ w.ownsRow base 4 1 (.slice (some ⟨ga,0,none⟩) n n) n (rowTo n G a n) ∧ v.ownBlock ≠ some ga
theorem Square.kept {w w':World} {base n k:Nat} {G:Nat → Nat → Bool} {v:Value} {vs:List Value} (h:Square w base n k G v vs) (hb:Below w.heap.size w w'):Square w' base n k G v vs:=by
 refine ⟨own_kept_below h.row hb (fun j hj => (h.row.lt j hj).2),fun a ha => ?_⟩
 obtain ⟨ga,h1,h2,h3⟩:=h.each a ha
 exact ⟨ga,h1,own_kept_below h2 hb (fun j hj => (h2.lt j hj).2),h3⟩
theorem Square.push {w w1:World} {base n k g' cap' gr:Nat} {G:Nat → Nat → Bool} {v:Value} {vs:List Value} {o:Obj} (h:Square w base n k G v vs) (hr:w.ownsRow base 4 1 (.slice (some ⟨gr,0,none⟩) n n) n (rowTo n G k n)) (hne:v.ownBlock ≠ some gr)
  (hown:w1.ownsRow base 91 1 (.slice (some ⟨g',0,none⟩) (k + 1) cap') (k + 1) (vs ++ [.slice (some ⟨gr,0,none⟩) n n])) (hg:(w.alloc o).grownBy w1 v.ownBlock) (hor:v.ownBlock=some g' ∨ g'=(w.alloc o).heap.size) :
  Square w1 base n (k + 1) G (.slice (some ⟨g',0,none⟩) (k + 1) cap') (vs ++ [.slice (some ⟨gr,0,none⟩) n n]):=by
 have hvl:vs.length=k:=by have:=h.row.1;simpa using this
 have hnew:∀ ga,ga < w.heap.size → v.ownBlock ≠ some ga → (Value.slice (some ⟨g',0,none⟩) (k + 1) cap').ownBlock ≠ some ga:=by
  intro ga hlt hne e
  have e2:g'=ga:=Option.some.inj e
  subst e2
  rcases hor with h1 | h1
  ·exact hne h1
  ·simp at h1;omega
 refine ⟨hown,fun a ha => ?_⟩
 by_cases e:a=k
 ·subst e
  refine ⟨gr,by rw [List.getElem?_append_right (by omega),hvl];simp,(hr.alloc o).kept hg (.inr fun e => hne e.symm),hnew gr (hr.lt gr rfl).2 hne⟩
 ·obtain ⟨ga,h1,h2,h3⟩:=h.each a (by omega)
  refine ⟨ga,by rw [List.getElem?_append_left (by omega)];exact h1,(h2.alloc o).kept hg (.inr fun e => h3 e.symm),hnew ga (h2.lt ga rfl).2 h3⟩
theorem Square.grid {w:World} {base n:Nat} {G:Nat → Nat → Bool} {v:Value} {vs:List Value} (h:Square w base n n G v vs) (hn:0 < n):GridR w v n G:=by
 rcases h.row.2 with ⟨_,h1⟩ | ⟨gv,c,_,rfl,_,_,_,_⟩
 ·omega
 ·refine ⟨gv,c,rfl,(h.row.lt gv rfl).2,fun a ha => ?_⟩
  obtain ⟨ga,h1,h2,_⟩:=h.each a ha
  refine ⟨ga,(h2.lt ga rfl).2,by rw [World.ownsRow.cellAt h.row a (by omega)];exact h1,fun b hb => ?_⟩
  rw [World.ownsRow.cellAt h2 b (by omega),rowTo_at hb]
  simp [hb]
theorem bools_info:(Tryz.prog.info? 91).map (fun i => (i.zero,i.size,i.bytes))=some (some (.slice none 0 0),1,24):=by kernel_rfl
theorem one_newB (w:World) (x:Value):∀ (j:Nat) (y:Value),[x][j]?=some y → (w.alloc (.cells #[x] 91)).cell? ((⟨w.heap.size,0,none⟩:Addr).add j)=some y:=by
 intro j y hy
 rcases j with _ | j
 ·simp at hy
  subst hy
  exact row_cells (heap_alloc_new w (.cells #[x] 91)) (rfl:(w.alloc (.cells #[x] 91)).heap[w.heap.size]?=_) 0
 ·simp at hy
def OverPost (n:Nat) (G:Nat → Nat → Bool) (w:World) (e:Ending) (w':World):Prop:=∃ v,e=.returned v ∧ GridR w' v n G ∧ Below w.heap.size w w'
def overG (S0:List Nat) (S:Nat → List Nat) (a b:Nat):Bool:=decide (a ∈ S0) && (decide (b ∈ S0) && !decide (b ∈ S a))
set_option maxRecDepth 100000 in
set_option maxHeartbeats 4000000 in
theorem refOver_any (bs:List BlockM) (o:List Nat) (G:Nat → Nat → Bool) (B:Nat) (pv av cv bv:Value) (w:World) (hbv:BlocksR w B bv bs) (hB:B ≤ w.heap.size) (h0:0 < bs.length) (hn5:bs.length ≤ 512) (hin:EndsIn bs) (ho:OrderIs bs o) (hG:∀ a b,G a b=true ↔ OverP bs o a b) :
  Calls Tryz.prog 47 #[.agg #[pv,av,cv,bv]] w (OverPost bs.length G w):=by
 have HBL:=hideI hbv
 have HIN:=hideI hin
 have HO:=hideI ho
 have HG:=hideI hG
 obtain ⟨A,c,rfl,hbm,_⟩:=hbv
 obtain ⟨W,hW⟩:∃ W:World,W=w.alloc (.cells #[pv,av,cv,.slice A bs.length c] 25):=⟨_,rfl⟩
 have HBW:Hid (Below w.heap.size w W):=by show Below _ _ _;rw [hW];exact (Below.refl _ _).alloc (Nat.le_refl _) _
 have HXW:Hid (W.heap[w.heap.size]?=some (.cells #[pv,av,cv,.slice A bs.length c] 25 (0,0))):=by show _=_;rw [hW];exact heap_alloc_new w _
 have hwW:w.heap.size < W.heap.size:=lt_of_heap HXW.out
 have HW0:=hideI hW
 have G0:Hid (∀ W2,Below W.heap.size W W2 → (∀ o,W2.cell? ⟨w.heap.size,o,none⟩=(#[pv,av,cv,.slice A bs.length c]:Array Value)[o]?) ∧ BlocksR W2 B (.slice A bs.length c) bs ∧ B ≤ W2.heap.size):=fun W2 h2 => by
  have h3:Below w.heap.size w W2:=HBW.out.trans (h2.mono HBW.out.size)
  exact ⟨row_cells HXW.out (h2.block _ hwW),HBL.out.keeps (Keeps.of_below (h3.mono hB)),Nat.le_trans hB h3.size⟩
 obtain ⟨hx,_,_⟩:=G0.out W (Below.refl _ _)
 have q0:=hx 0
 have q1:=hx 1
 have q2:=hx 2
 have q3:=hx 3
 clear hin ho hG hW hx
 go_enter Tryz.func47,Tryz.ntmps47
 go_upto_region 1 with fail
 rw [← HW0.out]
 clear HW0
 go_wp2_with (first
  | (go_at_call 44;go_must (refine (refWithout_all bs B pv av cv _ (-1) _ (G0.out _ (Below.refl _ _)).2.1 (G0.out _ (Below.refl _ _)).2.2 h0 hn5 HIN.out).mono ?_);rintro e w1 ⟨S0,gA,rfl,hS,hown,hb1⟩;have HS0:Hid (∀ x,x ∈ S0 ↔ x ∈ o):=hideI (fun x => (hS x).trans (HO.out.reach x).symm);have HOA:=hideI hown;have HB1:=hideI hb1;clear hS hown hb1 q0 q1 q2;(obtain ⟨hx,_,_⟩:=G0.out _ HB1.out);clear q3;have q3:=hx 3;clear hx))
 obtain ⟨W2,hW2⟩:∃ W2,W2=w1.alloc (.cells #[] 91):=⟨_,rfl⟩
 have hb12:Below w1.heap.size w1 W2:=by rw [hW2];exact (Below.refl _ _).alloc (Nat.le_refl _) _
 have HB12:=hideI hb12
 have HSQ0:Hid (Square W2 w1.heap.size bs.length 0 G (.slice (some ⟨w1.heap.size,0,none⟩) 0 0) []):=by
  refine hideI ⟨?_,fun a ha => by omega⟩
  rw [hW2]
  exact World.ownsRow_made w1 #[] 0 (Nat.le_refl _) (by decide) rfl
 have hs12:w1.heap.size < W2.heap.size:=by rw [hW2];simp
 have hsW1:W.heap.size ≤ w1.heap.size:=HB1.out.size
 rw [← hW2]
 clear hW2 hb12 q3
 go_loopw [4,5] (fun u4 u5 wr => ∃ (a:Nat) (v:Value) (vs:List Value),a ≤ bs.length ∧ v=u4 ∧ u5=.int .i64 a ∧ Hid (Square wr w1.heap.size bs.length a G v vs) ∧ Hid (Below w1.heap.size w1 wr)) (fun _ u5 _ => bs.length - (intOf u5).toNat)
 case atStart => exact ⟨0,_,[],Nat.zero_le _,rfl,rfl,HSQ0,HB12⟩
 case round =>
  obtain ⟨a,v,vs,ha,rfl,rfl,HSQ,HBr⟩:=hrel
  have hb1r:Below w1.heap.size w1 wr:=HBr.out
  have HB1r:=hideI hb1r
  have HBWr:Hid (Below W.heap.size W wr):=HB1.out.trans (hb1r.mono hsW1)
  obtain ⟨hx,_,_⟩:=G0.out wr HBWr.out
  have q0:=hx 0
  have q1:=hx 1
  have q2:=hx 2
  have q3:=hx 3
  clear hx hb1r
  by_cases hlt:a < bs.length
  ·obtain ⟨i0,hix,hz0,hz1,hz2⟩:=info_parts bool_info
   have hsr:w1.heap.size ≤ wr.heap.size:=HB1r.out.size
   go_wp2_with (first
    | (go_at_call 44;go_must (refine (refWithout_all bs B pv av cv _ a _ (G0.out _ HBWr.out).2.1 (G0.out _ HBWr.out).2.2 h0 hn5 HIN.out).mono ?_);rintro e w3 ⟨Sa,gB,rfl,hSa,hown,hb3⟩;have HSA:=hideI hSa;have HOB:=hideI hown;have HB3:=hideI (HB1r.out.trans (hb3.mono hsr));have HSQ3:=hideI (HSQ.out.kept hb3);clear hSa hown hb3 q0 q1 q2 q3;(obtain ⟨hx,_,_⟩:=G0.out _ (HB1.out.trans (HB3.out.mono hsW1)));have q3:=hx 3;clear hx)
    | (at_make;go_must (refine wpList_make_full _ rfl _ _ 91 rfl w3.heap.size 4 i0 (.bool false) 1 Tryz.underlying91 hix hz0 hz1 .i64 .i64 _ _ bs.length rfl rfl rfl rfl (by rw [hz2];omega) (by unfold maxLen;omega) (Nat.le_refl _) ?_);intro w4 hown4 hg4;go_must (rw [marks_made,← rowTo_zero bs.length G a] at hown4;have HR0:=hideI hown4;have HG4:Hid (Below w3.heap.size w3 w4):=(Below.refl _ _).grown hg4 (Nat.le_refl _) (by simp);clear hown4 hg4 q3)))
   clear hix hz0 hz1 hz2
   have hs3:w1.heap.size ≤ w3.heap.size:=HB3.out.size
   have HSQ4:=hideI (HSQ3.out.kept HG4.out)
   have HOB4:=hideI (own_kept_below HOB.out HG4.out (fun k hk => (HOB.out.lt k hk).2))
   have HB4:Hid (Below w1.heap.size w1 w4):=HB3.out.trans (HG4.out.mono hs3)
   have hgB:gB < w3.heap.size:=(HOB.out.lt gB rfl).2
   have hgA:gA < w1.heap.size:=(HOA.out.lt gA rfl).2
   have hvb:v.ownBlock ≠ some w3.heap.size:=fun e => by have:=(HSQ3.out.row.lt _ e).2;omega
   have HVB:=hideI hvb
   clear hvb
   go_loopw [8] (fun u8 wr2 => ∃ b:Nat,b ≤ bs.length ∧ u8=.int .i64 b ∧ Hid (wr2.ownsRow w3.heap.size 4 1 (.slice (some ⟨w3.heap.size,0,none⟩) bs.length bs.length) bs.length (rowTo bs.length G a b)) ∧ Hid (w4.grownBy wr2 (some w3.heap.size))) (fun u8 _ => bs.length - (intOf u8).toNat)
   case atStart => exact ⟨0,Nat.zero_le _,rfl,HR0,hideI (World.grownBy.refl _ _)⟩
   case round =>
    obtain ⟨b,hb,rfl,HR,HGr⟩:=hrel
    have hb4:Below w3.heap.size w4 wr:=(Below.refl _ w4).grown HGr.out HG4.out.size (fun k hk => by cases hk;exact Nat.le_refl _)
    have HB5:Hid (Below w1.heap.size w1 wr):=HB4.out.trans (hb4.mono hs3)
    obtain ⟨hx,_,_⟩:=G0.out wr (HB1.out.trans (HB5.out.mono hsW1))
    have q3:=hx 3
    clear hx
    by_cases hltb:b < bs.length
    ·have hA:=own_kept_below HOA.out HB5.out (fun k hk => (HOA.out.lt k hk).2)
     have hBk:=own_kept_below HOB4.out hb4 (fun k hk => by cases hk;exact hgB)
     have c1:wr.cell? ⟨gA,a,none⟩=some (.bool (decide (a ∈ S0))):=by rw [World.ownsRow.cellAt hA a (by omega),marks_at hlt]
     have c2:wr.cell? ⟨gA,b,none⟩=some (.bool (decide (b ∈ S0))):=by rw [World.ownsRow.cellAt hA b (by omega),marks_at hltb]
     have c3:wr.cell? ⟨gB,b,none⟩=some (.bool (decide (b ∈ Sa))):=by rw [World.ownsRow.cellAt hBk b (by omega),marks_at hltb]
     have c4:wr.cell? ⟨w3.heap.size,b,none⟩=some (.bool (decide (b < b) && G a b)):=by rw [World.ownsRow.cellAt HR.out b (by omega),rowTo_at hltb]
     have c5:wr.frozen? ⟨w3.heap.size,b,none⟩=false:=World.ownsRow.frozenAt HR.out b
     have hGab:G a b=(decide (a ∈ S0) && (decide (b ∈ S0) && !decide (b ∈ Sa))):=by
      rw [Bool.eq_iff_iff,HG.out a b]
      unfold OverP
      simp only [Bool.and_eq_true,Bool.not_eq_true',decide_eq_true_eq,decide_eq_false_iff_not]
      rw [HS0.out a,HS0.out b,HSA.out b]
     have hst:=World.ownsRow.stored HR.out b (.bool (G a b))
     rw [rowTo_set] at hst
     have HST:=hideI hst
     obtain ⟨p,hp⟩:∃ p,p=decide (a ∈ S0):=⟨_,rfl⟩
     obtain ⟨q,hq⟩:∃ q,q=decide (b ∈ S0):=⟨_,rfl⟩
     obtain ⟨s,hs⟩:∃ s,s=decide (b ∈ Sa):=⟨_,rfl⟩
     rw [← hp,← hq,← hs] at hGab
     rw [← hp] at c1
     rw [← hq] at c2
     rw [← hs] at c3
     rw [hGab] at HST
     clear hp hq hs hA hBk hst hGab hb4
     cases p with
     | false =>
      go_wp2
      go_roundw
      case rel => exact ⟨b + 1,by omega,by go_num,hideI HST.out.1,hideI (HGr.out.trans HST.out.2)⟩
      case measure => simp [intOf];omega
     | true =>
      cases q with
      | false =>
       go_wp2
       go_roundw
       case rel => exact ⟨b + 1,by omega,by go_num,hideI HST.out.1,hideI (HGr.out.trans HST.out.2)⟩
       case measure => simp [intOf];omega
      | true =>
       cases s
       all_goals
        go_wp2
        go_roundw
        case rel => exact ⟨b + 1,by omega,by go_num,hideI HST.out.1,hideI (HGr.out.trans HST.out.2)⟩
        case measure => simp [intOf];omega
    ·obtain rfl:b=bs.length:=by omega
     have HSQ5:Hid (Square wr w1.heap.size bs.length a G v vs):=by
      refine hideI ⟨own_kept_below HSQ4.out.row hb4 (fun k hk => ?_),fun a' ha' => ?_⟩
      ·exact (HSQ3.out.row.lt k hk).2
      ·obtain ⟨ga,h1,h2,h3⟩:=HSQ3.out.each a' ha'
       exact ⟨ga,h1,own_kept_below (own_kept_below h2 HG4.out (fun k hk => (h2.lt k hk).2)) hb4 (fun k hk => (h2.lt k hk).2),h3⟩
     obtain ⟨i1,hjx,hy0,hy1,hy2⟩:=info_parts bools_info
     have H63:Hid (a + 1 ≤ maxLen):=by show _ ≤ _;simp only [maxLen];omega
     have HBY:Hid ((a + 1) * 24 ≤ 140737488355328):=by show _ ≤ _;omega
     have HBS:Hid (w1.heap.size ≤ wr.heap.size):=HB5.out.size
     clear hb4
     go_wp2_with (at_builtin;go_must (refine wpList_append_lies _ rfl _ _ _ rfl w1.heap.size 91 i1 (.slice none 0 0) 1 24 Tryz.underlying95 hjx hy0 hy1 hy2 rfl (by decide) _ _ _ rfl (HSQ5.out.row.alloc _) ⟨wr.heap.size,0,none⟩ 1 1 [.slice (some ⟨w3.heap.size,0,none⟩) bs.length bs.length] rfl rfl (one_newB wr _) (by simp [Value.oneCell']) (by decide) H63.out HBY.out (by have:=HBS.out;simp;omega) _ rfl ?_);intro g1 cap1 w6 hown1 hgrow1 hor1 _;go_must (have HP:=hideI (HSQ5.out.push (World.ownsRow.mono HR.out hs3) HVB.out hown1 hgrow1 hor1);have HPB:Hid (Below w1.heap.size w1 w6):=(HB5.out.alloc HBS.out _).grown hgrow1 (by have:=HBS.out;simp;omega) (fun k hk => (HSQ5.out.row.lt k hk).1);clear hown1 hgrow1 hor1))
     go_roundw
     case rel => exact ⟨a + 1,_,_,by omega,rfl,by go_num,HP,HPB⟩
     case measure => simp [intOf];omega
  ·obtain rfl:a=bs.length:=by omega
   go_wp2
   go_ret
   exact ⟨v,rfl,HSQ.out.grid h0,HBW.out.trans (HBWr.out.mono HBW.out.size)⟩
end Go.Proofs.YtaehbgppfahdeaaGreat

namespace Go.Proofs.YtaehbgppfahdeaaGreat
open Go.RowKit Go.Maps
def predsRow (bs:List BlockM) (n t b:Nat):List (List Nat):=(List.range n).map fun u => if u < t then predsTo bs n u else if u=t then predsTo bs b u else []
theorem predsRow_at {bs:List BlockM} {n t b u:Nat} (h:u < n):(predsRow bs n t b)[u]?=some (if u < t then predsTo bs n u else if u=t then predsTo bs b u else []):=by
 unfold predsRow
 rw [List.getElem?_map,List.getElem?_eq_getElem (by simpa using h)]
 simp
theorem predsRow_zero (bs:List BlockM) (n:Nat):predsRow bs n 0 0=(List.range n).map fun _ => []:=by
 unfold predsRow
 apply List.map_congr_left
 intro u _
 rw [if_neg (by omega)]
 split
 ·simp [predsTo]
 ·rfl
theorem predsRow_skip {bs:List BlockM} {n t b:Nat} (h:t ∉ succM bs b):predsRow bs n t (b + 1)=predsRow bs n t b:=by
 unfold predsRow
 apply List.map_congr_left
 intro u _
 by_cases e:u=t
 ·subst e
  rw [predsTo_succ,if_neg h,List.append_nil]
 ·simp [e]
theorem predsRow_push {bs:List BlockM} {n t b:Nat} (h:t ∈ succM bs b) (_htn:t < n):(predsRow bs n t b).set t (predsTo bs b t ++ [b])=predsRow bs n t (b + 1):=by
 apply List.ext_getElem?
 intro u
 by_cases hu:u < n
 ·rw [predsRow_at hu]
  by_cases e:t=u
  ·subst e
   rw [List.getElem?_set_self (by unfold predsRow;simpa using hu),if_neg (by omega),if_pos rfl,predsTo_succ,if_pos h]
  ·rw [List.getElem?_set_ne e,predsRow_at hu]
   have e':¬ u=t:=fun x => e x.symm
   simp [e']
 ·rw [List.getElem?_eq_none (by rw [List.length_set];unfold predsRow;simp;omega),List.getElem?_eq_none (by unfold predsRow;simp;omega)]
theorem predsRow_next (bs:List BlockM) (n t:Nat):predsRow bs n t n=predsRow bs n (t + 1) 0:=by
 unfold predsRow
 apply List.map_congr_left
 intro u _
 by_cases h1:u < t
 ·rw [if_pos h1,if_pos (by omega)]
 ·rw [if_neg h1]
  by_cases h2:u=t
  ·subst h2
   rw [if_pos rfl,if_pos (by omega)]
  ·rw [if_neg h2,if_neg (by omega)]
   split
   ·simp [predsTo]
   ·rfl
theorem predsRow_last (bs:List BlockM) (n:Nat):predsRow bs n n 0=predsAt bs n n 0:=by
 unfold predsRow predsAt
 apply List.map_congr_left
 intro u hu
 rw [if_pos (by simpa using hu)]
 simp
theorem mem_to {bs:List BlockM} {q:BlockM} {b t:Nat} (hin:EndsIn bs) (hq:bs[b]?=some q):((t:Int) ∈ q.term.to) ↔ t ∈ succM bs b:=by
 unfold succM
 rw [hq]
 simp only [List.mem_map]
 constructor
 ·exact fun h => ⟨(t:Int),h,by simp⟩
 ·rintro ⟨x,hx,he⟩
  have:=hin q (List.mem_of_getElem? hq) x hx
  have e:x=(t:Int):=by omega
  exact e ▸ hx
set_option maxRecDepth 100000 in
set_option maxHeartbeats 4000000 in
theorem refPreds_any (bs:List BlockM) (B:Nat) (pv av cv bv:Value) (w:World) (hbv:BlocksR w B bv bs) (hB:B ≤ w.heap.size) (hn5:bs.length ≤ 512) (hin:EndsIn bs) :
  Calls Tryz.prog 45 #[.agg #[pv,av,cv,bv]] w (PredsPost bs w):=by
 have HBL:=hideI hbv
 have HIN:=hideI hin
 obtain ⟨A,c,rfl,hbm,_⟩:=hbv
 obtain ⟨i0,hix,hz0,hz1,hz2⟩:=info_parts ints_info
 clear hin
 go_enter Tryz.func45,Tryz.ntmps45
 go_wp2_with (first
  | (at_make;go_must (refine wpList_make_full _ rfl _ _ 44 rfl (w.heap.size + 1) 22 i0 (.slice none 0 0) 1 Tryz.underlying44 hix hz0 hz1 .i64 .i64 _ _ bs.length rfl rfl rfl rfl (by rw [hz2];omega) (by unfold maxLen;omega) (by simp) ?_);intro w1 hown1 hg1;rw [World.size_alloc] at hown1;go_must (have HL1:=hideI (Lists.made hown1);have HGB:=hideI ((hg1.block w.heap.size (by simp) (by simp)).trans (heap_alloc_new w _));have HB0:Hid (Below w.heap.size w w1):=((Below.refl _ _).alloc (Nat.le_refl _) _).grown hg1 (by simp) (by simp);clear hown1 hg1)))
 clear hix hz0 hz1 hz2
 rw [← predsRow_zero bs bs.length] at HL1
 go_loopw [4] (fun u wr => ∃ (t:Nat) (vs:List Value),t ≤ bs.length ∧ u=.int .i64 t ∧ Hid (Lists wr (w.heap.size + 1) (w.heap.size + 1) bs.length vs (predsRow bs bs.length t 0)) ∧ Hid (Below w.heap.size w wr) ∧ Hid (Below (w.heap.size + 1) w1 wr)) (fun u _ => bs.length - (intOf u).toNat)
 case atStart => exact ⟨0,_,Nat.zero_le _,rfl,HL1,HB0,hideI (Below.refl _ _)⟩
 case round =>
  obtain ⟨t,vs,ht,rfl,HL,HBr,HBo⟩:=hrel
  have hxr:=row_cells HGB.out (HBo.out.block w.heap.size (by omega))
  have g3:=hxr 3
  clear hxr
  by_cases hlt:t < bs.length
  ·go_wp2
   clear g3
   obtain ⟨wo,rfl⟩:∃ wo:World,wo=wr:=⟨_,rfl⟩
   go_loopw [5] (fun u wr => ∃ (b:Nat) (vs:List Value),b ≤ bs.length ∧ u=.int .i64 b ∧ Hid (Lists wr (w.heap.size + 1) (w.heap.size + 1) bs.length vs (predsRow bs bs.length t b)) ∧ Hid (Below (w.heap.size + 1) wo wr)) (fun u _ => bs.length - (intOf u).toNat)
   case atStart => exact ⟨0,vs,Nat.zero_le _,rfl,HL,hideI (Below.refl _ _)⟩
   case round =>
    obtain ⟨b,vs2,hb,rfl,HLi,HBi⟩:=hrel
    have hxr:=row_cells HGB.out ((HBo.out.trans HBi.out).block w.heap.size (by omega))
    have g3:=hxr 3
    clear hxr
    by_cases hltb:b < bs.length
    ·obtain ⟨q,hq⟩:∃ q,bs[b]?=some q:=⟨_,List.getElem?_eq_getElem hltb⟩
     obtain ⟨A',c',e0,_,hbx⟩:=(HBL.out.more' hB).keeps (Keeps.of_below (HBr.out.trans (HBi.out.mono (Nat.le_succ _))))
     cases e0
     obtain ⟨ab,off,pq,cq,tv,rfl,hab,x0,x1,x2,x3,x4,x5,_,_,htv,_⟩:=hbx b q hq
     have HTV:=hideI htv
     have HMEM:=hideI (mem_to (t:=t) HIN.out hq)
     obtain ⟨TA,tc,rfl,htm,_⟩:=htv
     obtain ⟨v,hv⟩:∃ v,vs2[t]?=some v:=⟨_,List.getElem?_eq_getElem (by rw [HLi.out.vl];exact hlt)⟩
     obtain ⟨l,hl0⟩:∃ l,l=predsTo bs b t:=⟨_,rfl⟩
     have hl:(predsRow bs bs.length t b)[t]?=some l:=by rw [predsRow_at hlt,if_neg (by omega),if_pos rfl,hl0]
     have hll:l.length ≤ 1000:=by have:=predsTo_len bs b t;rw [hl0];omega
     have q1:wr.cell? ⟨w.heap.size + 1,t,none⟩=some v:=by rw [World.ownsRow.cellAt HLi.out.row t (by omega)];exact hv
     have HOWN:=hideI (HLi.out.own t v l hv hl)
     have hsz:=HLi.out.lt.2
     have HV:=hideI hv
     have HLL:=hideI hl
     have HL0:=hideI hl0
     obtain ⟨tl,htl⟩:∃ tl,tl=q.term.to:=⟨_,rfl⟩
     rw [← htl] at HTV HMEM x4 htm
     clear hbx hq x0 x1 x2 x3 x5 hv hl hl0 htl
     by_cases hin2:(t:Int) ∈ tl
     ·have HC:Hid (decide ((t:Int) ∈ tl)=true):=by show _=_;simpa using hin2
      have HIN2:=hideI (HMEM.out.1 hin2)
      obtain ⟨i1,hjx,hy0,hy1,hy2⟩:=info_parts int_info
      clear hin2
      go_wp2_with (first
       | (go_at_call 56;go_must (refine (has_any _ _ _ _ _ HTV.out).mono ?_);rw [HC.out];rintro e w2 ⟨rfl,rfl⟩)
       | (at_builtin;go_must (refine wpList_append_lies _ rfl _ _ _ rfl (w.heap.size + 1 + 1) 3 i1 (.int .i64 0) 1 8 Tryz.underlying22 hjx hy0 hy1 hy2 rfl (by decide) _ _ _ rfl (HOWN.out.alloc _) ⟨wr.heap.size,0,none⟩ 1 1 [.int .i64 b] rfl rfl (one_new wr _) (by simp [Value.oneCell']) (by decide) (by simp only [maxLen];omega) (by omega) (by simp;omega) _ rfl ?_);intro g1 cap1 w3 hown1 hgrow1 hor1 _;go_must (have HP:=hideI (HLi.out.push HV.out HLL.out hown1 hgrow1 hor1);have HPB:=hideI (HLi.out.pushed (u:=.slice (some ⟨g1,0,none⟩) (l.length + 1) cap1) HV.out HLL.out hgrow1 HBi.out (Nat.le_refl _));obtain ⟨hc4,hf4⟩:=HLi.out.held HV.out HLL.out hgrow1;clear hown1 hgrow1 hor1 q1)))
      go_roundw
      case rel => exact ⟨b + 1,_,by omega,by go_num,by rw [← predsRow_push HIN2.out hlt,← HL0.out];exact HP,HPB⟩
      case measure => simp [intOf];omega
     ·have HC:Hid (decide ((t:Int) ∈ tl)=false):=by show _=_;simpa using hin2
      have HIN2:=hideI (fun h => hin2 (HMEM.out.2 h))
      clear hin2
      go_wp2_with (first
       | (go_at_call 56;go_must (refine (has_any _ _ _ _ _ HTV.out).mono ?_);rw [HC.out];rintro e w2 ⟨rfl,rfl⟩))
      go_roundw
      case rel => exact ⟨b + 1,vs2,by omega,by go_num,by rw [predsRow_skip HIN2.out];exact HLi,HBi⟩
      case measure => simp [intOf];omega
    ·have hbn:b=bs.length:=by omega
     rw [hbn,predsRow_next] at HLi
     clear hbn
     go_wp2
     go_roundw
     case rel => exact ⟨t + 1,vs2,by omega,by go_num,HLi,hideI (HBr.out.trans (HBi.out.mono (Nat.le_succ _))),hideI (HBo.out.trans HBi.out)⟩
     case measure => simp [intOf];omega
  ·have hkn:t=bs.length:=by omega
   rw [hkn,predsRow_last] at HL
   clear hkn
   go_wp2
   go_ret
   exact ⟨_,vs,rfl,⟨HL.out.vl,HL.out.ll,World.ownsRow.mono HL.out.row (by omega),HL.out.own,HL.out.apart⟩,HBr.out⟩
end Go.Proofs.YtaehbgppfahdeaaGreat

namespace Go.Proofs.YtaehbgppfahdeaaGreat
open Go.RowKit Go.Maps
theorem Placed.first_append (l r:Placed) (id:Int):Placed.first (l ++ r) id=(l.first id).or (r.first id):=by
 unfold Placed.first
 rw [List.find?_append]
 cases l.find? (fun d => d.1 == id) <;> simp
theorem Placed.first_one (a id:Int) (v:Nat × Int):Placed.first [(a,v)] id=if a=id then some v else none:=by
 unfold Placed.first
 by_cases h:a=id
 ·subst h;simp
 ·simp [h]
theorem Placed.first_none_snoc {l:Placed} {a id:Int} {v:Nat × Int} (h:l.first id=none) (hn:a ≠ id):Placed.first (l ++ [(a,v)]) id=none:=by
 rw [Placed.first_append,h,Placed.first_one,if_neg hn]
 rfl
theorem Placed.first_hit {l r:Placed} {id:Int} {v:Nat × Int} (h:l.first id=none):Placed.first (l ++ [(id,v)] ++ r) id=some v:=by
 rw [Placed.first_append,Placed.first_append,h,Placed.first_one,if_pos rfl]
 rfl
theorem placedBlocks_split (bs:List BlockM) {j:Nat} {q:BlockM} (hq:bs[j]?=some q):∀ n,j < n → ∃ r,placedBlocks bs n=placedBlocks bs j ++ placedBlock j q ++ r:=by
 intro n
 induction n with
 | zero => intro h;omega
 | succ n ih =>
  intro h
  rw [placedBlocks]
  rcases Nat.lt_or_ge j n with hj | hj
  ·obtain ⟨r,hr⟩:=ih hj
   exact ⟨r ++ _,by rw [hr,List.append_assoc]⟩
  ·have:j=n:=by omega
   subst this
   rw [hq]
   exact ⟨[],by simp⟩
theorem placedCode_split (b:Nat) (xs:List InstrM) {m:Nat} {x:InstrM} (hx:xs[m]?=some x):∀ n,m < n → ∃ r,placedCode b xs n=placedCode b xs m ++ placedInstr b m x ++ r:=by
 intro n
 induction n with
 | zero => intro h;omega
 | succ n ih =>
  intro h
  rw [placedCode]
  rcases Nat.lt_or_ge m n with hj | hj
  ·obtain ⟨r,hr⟩:=ih hj
   exact ⟨r ++ _,by rw [hr,List.append_assoc]⟩
  ·have:m=n:=by omega
   subst this
   rw [hx]
   exact ⟨[],by simp⟩
theorem placedPhis_split (b:Nat) (ps:List PhiM) {m:Nat} {p:PhiM} (hp:ps[m]?=some p):∃ r,placedPhis b ps=placedPhis b (ps.take m) ++ [(p.id,(b,-1))] ++ r:=by
 obtain ⟨hm,rfl⟩:=List.getElem?_eq_some_iff.1 hp
 refine ⟨placedPhis b (ps.drop (m + 1)),?_⟩
 have e:ps=ps.take m ++ [ps[m]] ++ ps.drop (m + 1):=by
  rw [List.append_assoc,List.singleton_append,← List.drop_eq_getElem_cons hm,List.take_append_drop]
 have e2:placedPhis b (ps.take m ++ [ps[m]] ++ ps.drop (m + 1))=placedPhis b (ps.take m) ++ [(ps[m].id,(b,-1))] ++ placedPhis b (ps.drop (m + 1)):=by
  unfold placedPhis
  rw [List.map_append,List.map_append]
  rfl
 rw [← e2,← e]
theorem first_phi {f:FuncM} {j m:Nat} {q:BlockM} {p:PhiM} (hq:f.blocks[j]?=some q) (hp:q.phis[m]?=some p) (h1:Placed.first (placedParams f.params.length ++ placedBlocks f.blocks j ++ placedPhis j (q.phis.take m)) p.id=none) :
  (placedM f).first p.id=some (j,-1):=by
 obtain ⟨r,hr⟩:=placedBlocks_split f.blocks hq f.blocks.length (List.getElem?_eq_some_iff.1 hq).1
 obtain ⟨r2,hr2⟩:=placedPhis_split j q.phis hp
 unfold placedM placedBlock at *
 rw [hr,hr2]
 have:=Placed.first_hit (r:=r2 ++ placedCode j q.code q.code.length ++ r) (v:=(j,-1)) h1
 rw [← this]
 simp only [List.append_assoc]
theorem first_code {f:FuncM} {j m:Nat} {q:BlockM} {x:InstrM} (hq:f.blocks[j]?=some q) (hx:q.code[m]?=some x) (h0:0 ≤ x.id) (h1:Placed.first (placedParams f.params.length ++ placedBlocks f.blocks j ++ (placedPhis j q.phis ++ placedCode j q.code m)) x.id=none) :
  (placedM f).first x.id=some (j,(m:Int)):=by
 obtain ⟨r,hr⟩:=placedBlocks_split f.blocks hq f.blocks.length (List.getElem?_eq_some_iff.1 hq).1
 obtain ⟨r2,hr2⟩:=placedCode_split j q.code hx q.code.length (List.getElem?_eq_some_iff.1 hx).1
 unfold placedInstr at hr2
 rw [if_pos h0] at hr2
 unfold placedM placedBlock at *
 rw [hr,hr2]
 have:=Placed.first_hit (r:=r2 ++ r) (v:=(j,(m:Int))) h1
 rw [← this]
 simp only [List.append_assoc]
theorem first_params (n:Nat) (id:Int):Placed.first (placedParams n) id=if 0 ≤ id ∧ id < n then some (0,-1) else none:=by
 induction n with
 | zero => rw [if_neg (by omega)];rfl
 | succ n ih =>
  unfold placedParams
  rw [Placed.first_append,ih,Placed.first_one]
  by_cases h1:0 ≤ id ∧ id < n
  ·rw [if_pos h1,if_pos (show 0 ≤ id ∧ id < ((n + 1:Nat):Int) by omega)];rfl
  ·rw [if_neg h1]
   by_cases h2:(n:Int)=id
   ·rw [if_pos h2,if_pos (show 0 ≤ id ∧ id < ((n + 1:Nat):Int) by omega)];rfl
   ·rw [if_neg h2,if_neg (show ¬ (0 ≤ id ∧ id < ((n + 1:Nat):Int)) by omega)];rfl
def DefPost (l:Placed) (id:Int) (w:World) (e:Ending) (w':World):Prop :=
 ((∃ v,l.first id=some v ∧ e=.returned (.tuple #[.int .i64 (v.1:Int),.int .i64 v.2,.bool true])) ∨ (l.first id=none ∧ e=.returned (.tuple #[.int .i64 0,.int .i64 0,.bool false]))) ∧ Below w.heap.size w w'
theorem defPost_some {l:Placed} {id:Int} {w w':World} {b:Nat} {a:Int} (h:l.first id=some (b,a)) (hb:Below w.heap.size w w'):DefPost l id w (.returned (.tuple #[.int .i64 (b:Int),.int .i64 a,.bool true])) w':=⟨.inl ⟨_,h,rfl⟩,hb⟩
theorem defPost_none {l:Placed} {id:Int} {w w':World} (h:l.first id=none) (hb:Below w.heap.size w w'):DefPost l id w (.returned (.tuple #[.int .i64 0,.int .i64 0,.bool false])) w':=⟨.inr ⟨h,rfl⟩,hb⟩
set_option maxRecDepth 100000 in
set_option maxHeartbeats 8000000 in
theorem refDef_any (f:FuncM) (B:Nat) (pv bv:Value) (id:Int) (w:World) (hpv:Ints w B pv f.params) (hbv:BlocksR w B bv f.blocks) (hB:B ≤ w.heap.size) (hfew:FewV f) (hl5:f.blocks.length ≤ 512) :
  Calls Tryz.prog 48 #[.agg #[pv,.int .i64 f.arrays,.int .i64 f.cells,bv],.int .i64 id] w (DefPost (placedM f) id w):=by
 obtain ⟨A,c,rfl,hbm,hbx⟩:=hbv
 obtain ⟨P,pc,rfl,hpm,_⟩:=hpv
 have HX:=hideI hbx
 have hp16:=hfew.1
 clear hbx hfew
 obtain ⟨np,hnp⟩:∃ np,np=f.params.length:=⟨_,rfl⟩
 have HNP:=hideI hnp
 rw [← hnp] at hp16 hpm ⊢
 obtain ⟨nb,hnb⟩:∃ nb,nb=f.blocks.length:=⟨_,rfl⟩
 have HNB:=hideI hnb
 rw [← hnb] at hl5 hbm ⊢
 have HB0:Hid (Below w.heap.size w (w.alloc (.cells #[.slice P np pc,.int .i64 f.arrays,.int .i64 f.cells,.slice A nb c] 25))):=(Below.refl _ w).alloc (Nat.le_refl _) _
 obtain ⟨W0,hW0⟩:∃ W0:World,W0=w.alloc (.cells #[.slice P np pc,.int .i64 f.arrays,.int .i64 f.cells,.slice A nb c] 25):=⟨_,rfl⟩
 have HW0:=hideI hW0
 have hk:Hid (Keeps B w W0):=by rw [hW0];exact hideI ((Keeps.refl w).alloc hB _)
 have hbox:Hid (∀ o,W0.cell? ⟨w.heap.size,o,none⟩=(#[.slice P np pc,.int .i64 f.arrays,.int .i64 f.cells,.slice A nb c]:Array Value)[o]?):=by rw [hW0];exact hideI (row_cells (heap_alloc_new w _) rfl)
 have hFP:Hid (Placed.first (placedParams f.params.length) id=if 0 ≤ id ∧ id < (np:Int) then some (0,-1) else none):=by show _=_;rw [first_params,← HNP.out]
 clear hnp hnb hW0
 by_cases h1:0 ≤ id
 ·by_cases h2:id < (np:Int)
  ·have HR:Hid ((placedM f).first id=some (0,-1)):=by
    show _=_
    unfold placedM
    rw [Placed.first_append,hFP.out,if_pos ⟨h1,h2⟩]
    rfl
   go_enter Tryz.func48,Tryz.ntmps48
   go_wp2
   go_ret3
   exact defPost_some (b:=0) HR.out HB0.out
  ·have HF0:Hid (Placed.first (placedParams f.params.length) id=none):=by show _=_;rw [hFP.out,if_neg (by omega)]
   clear hFP
   go_enter Tryz.func48,Tryz.ntmps48
   go_wp2
   rw [← HW0.out]
   go_loopw [7] (fun i wr => ∃ j:Nat,j ≤ nb ∧ i=.int .i64 j ∧ Hid (Placed.first (placedParams f.params.length ++ placedBlocks f.blocks j) id=none) ∧ wr=W0) (fun i _ => nb - (intOf i).toNat)
   case atStart => exact ⟨0,Nat.zero_le _,rfl,by rw [placedBlocks,List.append_nil];exact HF0,rfl⟩
   case round =>
    obtain ⟨j,hj,rfl,HN,hw⟩:=hrel;obtain rfl:=hw.symm
    have hx:=hbox.out
    by_cases hlt:j < nb
    ·obtain ⟨q,hq⟩:∃ q,f.blocks[j]?=some q:=⟨_,List.getElem?_eq_getElem (by rw [← HNB.out];exact hlt)⟩
     obtain ⟨b,off,qpv,qcv,qtv,rfl,hb,e0,e1,e2,e3,e4,e5,hpv,hcv,htv,_⟩:=HX.out j q hq
     have c0:=(hk.out b (off + j * 6) hb).trans e0
     have c1:=(hk.out b (off + j * 6 + 1) hb).trans e1
     have HQ:=hideI hq
     obtain ⟨PA,pc2,rfl,hpm2,hpx⟩:=hpv
     obtain ⟨CA,cc,rfl,hcm,hcx⟩:=hcv
     have HPX:=hideI hpx
     have HCX:=hideI hcx
     obtain ⟨nq,hnq⟩:∃ nq,nq=q.phis.length:=⟨_,rfl⟩
     obtain ⟨nc,hnc⟩:∃ nc,nc=q.code.length:=⟨_,rfl⟩
     have HNQ:=hideI hnq
     have HNC:=hideI hnc
     rw [← hnq] at c0 hpm2
     rw [← hnc] at c1 hcm
     clear e0 e1 e2 e3 e4 e5 hq hpx hcx hnq hnc
     go_wp2
     go_loopw [8] (fun i wr => ∃ m:Nat,m ≤ nq ∧ i=.int .i64 m ∧ Hid (Placed.first (placedParams f.params.length ++ placedBlocks f.blocks j ++ placedPhis j (q.phis.take m)) id=none) ∧ wr=W0) (fun i _ => nq - (intOf i).toNat)
     case atStart => exact ⟨0,Nat.zero_le _,rfl,by rw [List.take_zero,show placedPhis j []=[] from rfl,List.append_nil];exact HN,rfl⟩
     case round =>
      obtain ⟨m,hm,rfl,HNm,hw⟩:=hrel;obtain rfl:=hw.symm
      by_cases hlm:m < nq
      ·obtain ⟨p,hp⟩:∃ p,q.phis[m]?=some p:=⟨_,List.getElem?_eq_getElem (by rw [← HNQ.out];exact hlm)⟩
       obtain ⟨b2,off2,fv,vv,rfl,hb2,e0,_⟩:=HPX.out m p hp
       have d0:=(hk.out b2 (off2 + m * 4) hb2).trans e0
       have HP2:=hideI hp
       obtain ⟨pid,hpid⟩:∃ pid,pid=p.id:=⟨_,rfl⟩
       rw [← hpid] at d0
       have HPID:=hideI hpid
       clear e0 hp hpid
       by_cases hid:pid=id
       ·subst hid
        have HR:Hid ((placedM f).first pid=some (j,-1)):=by
         have:=HNm.out
         rw [HPID.out] at this ⊢
         exact hideI (first_phi HQ.out HP2.out this)
        go_wp2
        go_ret3
        exact defPost_some HR.out (by rw [HW0.out];exact HB0.out)
       ·have HD:Hid (pid ≠ id):=hid
        have hib:(pid == id)=false:=beq_eq_false_iff_ne.2 hid
        clear hid
        go_wp2
        go_roundw
        case rel =>
         refine ⟨m + 1,by omega,by go_num,?_,by first | rfl | trivial⟩
         have e:placedPhis j (q.phis.take (m + 1))=placedPhis j (q.phis.take m) ++ [(p.id,(j,-1))]:=by
          unfold placedPhis
          exact map_take' _ q.phis m p HP2.out
         rw [e,← List.append_assoc]
         exact hideI (Placed.first_none_snoc HNm.out (by rw [← HPID.out];exact HD.out))
        case measure => simp [intOf];omega
      ·have HNe:Hid (Placed.first (placedParams f.params.length ++ placedBlocks f.blocks j ++ placedPhis j q.phis) id=none):=by have:=HNm.out;rw [List.take_of_length_le (by rw [← HNQ.out];omega)] at this;exact hideI this
       go_wp2
       go_loopw [9] (fun i wr => ∃ m:Nat,m ≤ nc ∧ i=.int .i64 m ∧ Hid (Placed.first (placedParams f.params.length ++ placedBlocks f.blocks j ++ (placedPhis j q.phis ++ placedCode j q.code m)) id=none) ∧ wr=W0) (fun i _ => nc - (intOf i).toNat)
       case atStart => exact ⟨0,Nat.zero_le _,rfl,by rw [placedCode,List.append_nil];exact HNe,rfl⟩
       case round =>
        obtain ⟨m,hm,rfl,HNm,hw⟩:=hrel;obtain rfl:=hw.symm
        by_cases hlm:m < nc
        ·obtain ⟨x,hxx⟩:∃ x,q.code[m]?=some x:=⟨_,List.getElem?_eq_getElem (by rw [← HNC.out];exact hlm)⟩
         obtain ⟨b2,off2,av,rfl,hb2,_,e1,_⟩:=HCX.out m x hxx
         have d1:=(hk.out b2 (off2 + m * 4 + 1) hb2).trans e1
         have HP2:=hideI hxx
         have HSU:Hid (placedCode j q.code (m + 1)=placedCode j q.code m ++ placedInstr j m x):=by show _=_;rw [placedCode,hxx]
         obtain ⟨pid,hpid⟩:∃ pid,pid=x.id:=⟨_,rfl⟩
         rw [← hpid] at d1
         have HPID:=hideI hpid
         clear e1 hxx hpid
         have HNX:Hid (¬ (pid=id ∧ 0 ≤ id) → Placed.first (placedParams f.params.length ++ placedBlocks f.blocks j ++ (placedPhis j q.phis ++ placedCode j q.code (m + 1))) id=none):=by
          refine hideI (fun hno => ?_)
          rw [HSU.out,← List.append_assoc (placedPhis j q.phis),← List.append_assoc (placedParams f.params.length ++ placedBlocks f.blocks j)]
          unfold placedInstr
          rw [← HPID.out]
          by_cases h0:0 ≤ pid
          ·rw [if_pos h0]
           exact Placed.first_none_snoc HNm.out (fun e => hno ⟨e,by rw [← e];exact h0⟩)
          ·rw [if_neg h0,List.append_nil]
           exact HNm.out
         by_cases hid:pid=id
         ·by_cases h0:0 ≤ id
          ·subst hid
           have HR:Hid ((placedM f).first pid=some (j,(m:Int))):=by
            have:=HNm.out
            rw [HPID.out] at this h0 ⊢
            exact hideI (first_code HQ.out HP2.out h0 this)
           go_wp2
           go_ret3
           exact defPost_some HR.out (by rw [HW0.out];exact HB0.out)
          ·exact absurd h1 h0
         ·have HNN:=hideI (HNX.out (fun h => hid h.1))
          have hib:(pid == id)=false:=beq_eq_false_iff_ne.2 hid
          clear hid
          go_wp2
          go_roundw
          case rel => exact ⟨m + 1,by omega,by go_num,HNN,by first | rfl | trivial⟩
          case measure => simp [intOf];omega
        ·have HNE:Hid (Placed.first (placedParams f.params.length ++ placedBlocks f.blocks (j + 1)) id=none):=by
          have h1:=HNm.out
          have h2:m=q.code.length:=by have:=HNC.out;omega
          rw [h2] at h1
          show _=_
          rw [placedBlocks,HQ.out,← List.append_assoc]
          exact h1
         go_wp2
         go_roundw
         case rel => exact ⟨j + 1,by omega,by go_num,HNE,by first | rfl | trivial⟩
         case measure => simp [intOf];omega
    ·have HNE:Hid ((placedM f).first id=none):=by
      have h1:=HN.out
      have h2:j=f.blocks.length:=by have:=HNB.out;omega
      rw [h2] at h1
      exact h1
     go_wp2
     go_ret3
     exact defPost_none HNE.out (by rw [HW0.out];exact HB0.out)
 ·have HF0:Hid (Placed.first (placedParams f.params.length) id=none):=by show _=_;rw [hFP.out,if_neg (by omega)]
  clear hFP
  go_enter Tryz.func48,Tryz.ntmps48
  go_wp2
  rw [← HW0.out]
  go_loopw [7] (fun i wr => ∃ j:Nat,j ≤ nb ∧ i=.int .i64 j ∧ Hid (Placed.first (placedParams f.params.length ++ placedBlocks f.blocks j) id=none) ∧ wr=W0) (fun i _ => nb - (intOf i).toNat)
  case atStart => exact ⟨0,Nat.zero_le _,rfl,by rw [placedBlocks,List.append_nil];exact HF0,rfl⟩
  case round =>
   obtain ⟨j,hj,rfl,HN,hw⟩:=hrel;obtain rfl:=hw.symm
   have hx:=hbox.out
   by_cases hlt:j < nb
   ·obtain ⟨q,hq⟩:∃ q,f.blocks[j]?=some q:=⟨_,List.getElem?_eq_getElem (by rw [← HNB.out];exact hlt)⟩
    obtain ⟨b,off,qpv,qcv,qtv,rfl,hb,e0,e1,e2,e3,e4,e5,hpv,hcv,htv,_⟩:=HX.out j q hq
    have c0:=(hk.out b (off + j * 6) hb).trans e0
    have c1:=(hk.out b (off + j * 6 + 1) hb).trans e1
    have HQ:=hideI hq
    obtain ⟨PA,pc2,rfl,hpm2,hpx⟩:=hpv
    obtain ⟨CA,cc,rfl,hcm,hcx⟩:=hcv
    have HPX:=hideI hpx
    have HCX:=hideI hcx
    obtain ⟨nq,hnq⟩:∃ nq,nq=q.phis.length:=⟨_,rfl⟩
    obtain ⟨nc,hnc⟩:∃ nc,nc=q.code.length:=⟨_,rfl⟩
    have HNQ:=hideI hnq
    have HNC:=hideI hnc
    rw [← hnq] at c0 hpm2
    rw [← hnc] at c1 hcm
    clear e0 e1 e2 e3 e4 e5 hq hpx hcx hnq hnc
    go_wp2
    go_loopw [8] (fun i wr => ∃ m:Nat,m ≤ nq ∧ i=.int .i64 m ∧ Hid (Placed.first (placedParams f.params.length ++ placedBlocks f.blocks j ++ placedPhis j (q.phis.take m)) id=none) ∧ wr=W0) (fun i _ => nq - (intOf i).toNat)
    case atStart => exact ⟨0,Nat.zero_le _,rfl,by rw [List.take_zero,show placedPhis j []=[] from rfl,List.append_nil];exact HN,rfl⟩
    case round =>
     obtain ⟨m,hm,rfl,HNm,hw⟩:=hrel;obtain rfl:=hw.symm
     by_cases hlm:m < nq
     ·obtain ⟨p,hp⟩:∃ p,q.phis[m]?=some p:=⟨_,List.getElem?_eq_getElem (by rw [← HNQ.out];exact hlm)⟩
      obtain ⟨b2,off2,fv,vv,rfl,hb2,e0,_⟩:=HPX.out m p hp
      have d0:=(hk.out b2 (off2 + m * 4) hb2).trans e0
      have HP2:=hideI hp
      obtain ⟨pid,hpid⟩:∃ pid,pid=p.id:=⟨_,rfl⟩
      rw [← hpid] at d0
      have HPID:=hideI hpid
      clear e0 hp hpid
      by_cases hid:pid=id
      ·subst hid
       have HR:Hid ((placedM f).first pid=some (j,-1)):=by
        have:=HNm.out
        rw [HPID.out] at this ⊢
        exact hideI (first_phi HQ.out HP2.out this)
       go_wp2
       go_ret3
       exact defPost_some HR.out (by rw [HW0.out];exact HB0.out)
      ·have HD:Hid (pid ≠ id):=hid
       have hib:(pid == id)=false:=beq_eq_false_iff_ne.2 hid
       clear hid
       go_wp2
       go_roundw
       case rel =>
        refine ⟨m + 1,by omega,by go_num,?_,by first | rfl | trivial⟩
        have e:placedPhis j (q.phis.take (m + 1))=placedPhis j (q.phis.take m) ++ [(p.id,(j,-1))]:=by
         unfold placedPhis
         exact map_take' _ q.phis m p HP2.out
        rw [e,← List.append_assoc]
        exact hideI (Placed.first_none_snoc HNm.out (by rw [← HPID.out];exact HD.out))
       case measure => simp [intOf];omega
     ·have HNe:Hid (Placed.first (placedParams f.params.length ++ placedBlocks f.blocks j ++ placedPhis j q.phis) id=none):=by have:=HNm.out;rw [List.take_of_length_le (by rw [← HNQ.out];omega)] at this;exact hideI this
      go_wp2
      go_loopw [9] (fun i wr => ∃ m:Nat,m ≤ nc ∧ i=.int .i64 m ∧ Hid (Placed.first (placedParams f.params.length ++ placedBlocks f.blocks j ++ (placedPhis j q.phis ++ placedCode j q.code m)) id=none) ∧ wr=W0) (fun i _ => nc - (intOf i).toNat)
      case atStart => exact ⟨0,Nat.zero_le _,rfl,by rw [placedCode,List.append_nil];exact HNe,rfl⟩
      case round =>
       obtain ⟨m,hm,rfl,HNm,hw⟩:=hrel;obtain rfl:=hw.symm
       by_cases hlm:m < nc
       ·obtain ⟨x,hxx⟩:∃ x,q.code[m]?=some x:=⟨_,List.getElem?_eq_getElem (by rw [← HNC.out];exact hlm)⟩
        obtain ⟨b2,off2,av,rfl,hb2,_,e1,_⟩:=HCX.out m x hxx
        have d1:=(hk.out b2 (off2 + m * 4 + 1) hb2).trans e1
        have HP2:=hideI hxx
        have HSU:Hid (placedCode j q.code (m + 1)=placedCode j q.code m ++ placedInstr j m x):=by show _=_;rw [placedCode,hxx]
        obtain ⟨pid,hpid⟩:∃ pid,pid=x.id:=⟨_,rfl⟩
        rw [← hpid] at d1
        have HPID:=hideI hpid
        clear e1 hxx hpid
        have HNX:Hid (¬ (pid=id ∧ 0 ≤ id) → Placed.first (placedParams f.params.length ++ placedBlocks f.blocks j ++ (placedPhis j q.phis ++ placedCode j q.code (m + 1))) id=none):=by
         refine hideI (fun hno => ?_)
         rw [HSU.out,← List.append_assoc (placedPhis j q.phis),← List.append_assoc (placedParams f.params.length ++ placedBlocks f.blocks j)]
         unfold placedInstr
         rw [← HPID.out]
         by_cases h0:0 ≤ pid
         ·rw [if_pos h0]
          exact Placed.first_none_snoc HNm.out (fun e => hno ⟨e,by rw [← e];exact h0⟩)
         ·rw [if_neg h0,List.append_nil]
          exact HNm.out
        by_cases hid:pid=id
        ·by_cases h0:0 ≤ id
         ·exact absurd h1 (by omega)
         ·have HNN:=hideI (HNX.out (fun h => h0 h.2))
          subst hid
          go_wp2
          go_roundw
          case rel => exact ⟨m + 1,by omega,by go_num,HNN,by first | rfl | trivial⟩
          case measure => simp [intOf];omega
        ·have HNN:=hideI (HNX.out (fun h => hid h.1))
         have hib:(pid == id)=false:=beq_eq_false_iff_ne.2 hid
         clear hid
         go_wp2
         go_roundw
         case rel => exact ⟨m + 1,by omega,by go_num,HNN,by first | rfl | trivial⟩
         case measure => simp [intOf];omega
       ·have HNE:Hid (Placed.first (placedParams f.params.length ++ placedBlocks f.blocks (j + 1)) id=none):=by
         have h1:=HNm.out
         have h2:m=q.code.length:=by have:=HNC.out;omega
         rw [h2] at h1
         show _=_
         rw [placedBlocks,HQ.out,← List.append_assoc]
         exact h1
        go_wp2
        go_roundw
        case rel => exact ⟨j + 1,by omega,by go_num,HNE,by first | rfl | trivial⟩
        case measure => simp [intOf];omega
   ·have HNE:Hid ((placedM f).first id=none):=by
     have h1:=HN.out
     have h2:j=f.blocks.length:=by have:=HNB.out;omega
     rw [h2] at h1
     exact h1
    go_wp2
    go_ret3
    exact defPost_none HNE.out (by rw [HW0.out];exact HB0.out)
end Go.Proofs.YtaehbgppfahdeaaGreat

namespace Go.Proofs.YtaehbgppfahdeaaGreat
open Go.RowKit Go.Maps
set_option maxRecDepth 100000 in
set_option maxHeartbeats 2000000 in
theorem refPhis_any (q:BlockM) (ps:List Int) (B:Nat) (qpv qcv qtv v:Value) (op val n:Int) (w:World) (hp:PhisR w B qpv q.phis) (hv:Ints w B v ps) (hB:B ≤ w.heap.size) (hl:ps.length ≤ 512) (CA:Option Addr) (cl cc:Nat) (hcv:qcv=.slice CA cl cc) (TA:Option Addr) (tl tc:Nat) (htv:qtv=.slice TA tl tc) :
  Calls Tryz.prog 46 #[.agg #[qpv,qcv,.int .i64 op,.int .i64 val,qtv,.int .i64 n],v] w fun e w' => e=.returned (.bool (q.phis.all fun p => justR p.fr ps)) ∧ Below w.heap.size w w':=by
 subst hcv htv
 have HVI:=hideI hv
 obtain ⟨PA,pc2,rfl,hpm2,hpx⟩:=hp
 obtain ⟨VA,vc,rfl,hvm,_⟩:=hv
 have HPX:=hideI hpx
 obtain ⟨nq,hnq⟩:∃ nq,nq=q.phis.length:=⟨_,rfl⟩
 obtain ⟨lv,hlv⟩:∃ lv,lv=ps.length:=⟨_,rfl⟩
 have HNQ:=hideI hnq
 have HLV:=hideI hlv
 rw [← hnq] at hpm2 ⊢
 rw [← hlv] at hvm hl ⊢
 obtain ⟨W0,hW0⟩:∃ W0:World,W0=w.alloc (.cells #[.slice PA nq pc2,.slice CA cl cc,.int .i64 op,.int .i64 val,.slice TA tl tc,.int .i64 n] 62):=⟨_,rfl⟩
 have HB0:Hid (Below w.heap.size w W0):=by rw [hW0];exact hideI ((Below.refl _ _).alloc (Nat.le_refl _) _)
 have HX0:Hid (∀ o,W0.cell? ⟨w.heap.size,o,none⟩=(#[.slice PA nq pc2,.slice CA cl cc,.int .i64 op,.int .i64 val,.slice TA tl tc,.int .i64 n]:Array Value)[o]?):=by rw [hW0];exact hideI (row_cells (heap_alloc_new w _) rfl)
 have HK0:=hideI (Keeps.of_below (HB0.out.mono hB))
 have HW0:=hideI hW0
 clear hW0 hpx hnq hlv
 go_enter Tryz.func46,Tryz.ntmps46
 go_wp2
 rw [← HW0.out]
 go_loopw [5] (fun i wr => ∃ k m:Nat,k ≤ nq ∧ i=.int .i64 k ∧ Hid (∀ (j:Nat) (p:PhiM),j < k → q.phis[j]?=some p → justR p.fr ps=true) ∧ wr=W0.drewN m) (fun i _ => nq - (intOf i).toNat)
 case atStart => exact ⟨0,0,Nat.zero_le _,rfl,hideI (fun j p h => by omega),rfl⟩
 case round =>
  obtain ⟨k,m,hk,rfl,HA,hw⟩:=hrel
  have hx0:∀ o,wr.cell? ⟨w.heap.size,o,none⟩=(#[.slice PA nq pc2,.slice CA cl cc,.int .i64 op,.int .i64 val,.slice TA tl tc,.int .i64 n]:Array Value)[o]?:=by rw [hw];exact HX0.out
  have hks:Keeps B w wr:=by rw [hw];exact HK0.out
  have HW:=hideI hw
  by_cases hlt:k < nq
  ·obtain ⟨p,hp⟩:∃ p,q.phis[k]?=some p:=⟨_,List.getElem?_eq_getElem (by have:=HNQ.out;omega)⟩
   obtain ⟨b2,off2,fv,vv,rfl,hb2,e0,e1,e2,e3,hfv,hvv,_⟩:=HPX.out k p hp
   have HP:=hideI hp
   have HFV:=hideI hfv
   obtain ⟨FA,fc,rfl,hfm,_⟩:=hfv
   obtain ⟨nf,hnf⟩:∃ nf,nf=p.fr.length:=⟨_,rfl⟩
   have HNF:=hideI hnf
   rw [← hnf] at e2 hfm
   have HE2:=hideI e2
   have d2:=(hks b2 (off2 + k * 4 + 2) hb2).trans e2
   have HKS:=hideI hks
   clear e0 e1 e2 e3 hp hnf hw hks
   by_cases hlen:nf=lv
   ·have hlb:((nf:Int) != lv)=false:=by rw [hlen];simp
    have HLEN:=hideI hlen
    clear hlen
    go_wp2
    clear hx0 d2
    obtain ⟨wo,rfl⟩:∃ wo:World,wo=wr:=⟨_,rfl⟩
    go_loopw [6] (fun i wr => ∃ j m:Nat,j ≤ lv ∧ i=.int .i64 j ∧ Hid (∀ (i:Nat) (x:Int),i < j → ps[i]?=some x → x ∈ p.fr) ∧ wr=W0.drewN m) (fun i _ => lv - (intOf i).toNat)
    case atStart => exact ⟨0,m,Nat.zero_le _,rfl,hideI (fun j p h => by omega),HW.out⟩
    case round =>
     obtain ⟨j,m2,hj,rfl,HAj,hw⟩:=hrel
     have hx0:∀ o,wr.cell? ⟨w.heap.size,o,none⟩=(#[.slice (some ⟨b2,off2,none⟩) nq pc2,.slice CA cl cc,.int .i64 op,.int .i64 val,.slice TA tl tc,.int .i64 n]:Array Value)[o]?:=by rw [hw];exact HX0.out
     have hks:Keeps B w wr:=by rw [hw];exact HK0.out
     have HW2:=hideI hw
     clear hw
     by_cases hlj:j < lv
     ·obtain ⟨x,hx⟩:∃ x,ps[j]?=some x:=⟨_,List.getElem?_eq_getElem (by have:=HLV.out;omega)⟩
      have d2:=(hks b2 (off2 + k * 4 + 2) hb2).trans HE2.out
      obtain ⟨_,_,ev,_,hvx⟩:=HVI.out.keeps hks
      cases ev
      obtain ⟨vb,voff,rfl,hvb,v0⟩:=hvx j (by rw [← HLV.out];exact hlj)
      rw [hx] at v0
      simp only [Option.getD_some] at v0
      have HXX:=hideI hx
      have HH:Hid (∀ m,Calls Tryz.prog 56 #[.slice FA nf fc,.int .i64 x] (wr.drewN m) fun e w' => e=.returned (.bool (decide (x ∈ p.fr))) ∧ w'=wr.drewN m):=by
       refine hideI (fun m => ?_)
       have h1:=HFV.out.keeps (hks.trans (w2:=wr.drewN m) (Keeps.of_below (drew_below (Below.refl B wr) m)))
       rw [← HNF.out] at h1
       exact (has_any p.fr B _ x _ h1).mono fun _ _ ⟨a,b⟩ => ⟨a,b.symm⟩
      clear hvx hx hks
      cases hd:decide (x ∈ p.fr)
      ·rw [hd] at HH
       have HR:Hid ((q.phis.all fun p => justR p.fr ps)=false):=by
        refine hideI ?_
        rw [List.all_eq_false]
        refine ⟨p,List.mem_of_getElem? HP.out,?_⟩
        unfold justR
        rw [Bool.not_eq_true,Bool.and_eq_false_iff]
        exact .inr (List.all_eq_false.2 ⟨x,List.mem_of_getElem? HXX.out,by rw [hd];simp⟩)
       clear hd
       go_wp2
       go_quiet ((go_at_call 56;exact Calls.quiet_of_same (HH.out _)))
       go_wp2
       go_ret
       refine ⟨by rw [HR.out];rfl,drew_below ?_ _⟩
       rw [HW2.out]
       exact drew_below HB0.out _
      ·rw [hd] at HH
       have HA2:Hid (∀ (i:Nat) (x:Int),i < j + 1 → ps[i]?=some x → x ∈ p.fr):=by
        refine hideI (fun i y hi hy => ?_)
        rcases Nat.lt_or_ge i j with h | h
        ·exact HAj.out i y h hy
        ·have:i=j:=by omega
         subst this
         rw [HXX.out] at hy
         cases hy
         exact of_decide_eq_true hd
       clear hd
       go_wp2
       go_quiet ((go_at_call 56;exact Calls.quiet_of_same (HH.out _)))
       go_wp2
       go_roundw
       case rel => exact ⟨j + 1,m2 + _,by omega,by go_num,HA2,by rw [HW2.out,World.drewN_drewN]⟩
       case measure => simp [intOf];omega
     ·have HA2:Hid (∀ (j:Nat) (p:PhiM),j < k + 1 → q.phis[j]?=some p → justR p.fr ps=true):=by
       refine hideI (fun i y hi hy => ?_)
       rcases Nat.lt_or_ge i k with h | h
       ·exact HA.out i y h hy
       ·have:i=k:=by omega
        subst this
        rw [HP.out] at hy
        cases hy
        unfold justR
        rw [Bool.and_eq_true,beq_iff_eq,List.all_eq_true]
        refine ⟨by have:=HLEN.out;have:=HNF.out;have:=HLV.out;omega,fun z hz => ?_⟩
        obtain ⟨i,hi⟩:=List.getElem?_of_mem hz
        exact decide_eq_true (HAj.out i z (by have:=(List.getElem?_eq_some_iff.1 hi).1;have:=HLV.out;omega) hi)
      clear hx0 hks
      go_wp2
      go_roundw
      case rel => exact ⟨k + 1,m2,by omega,by go_num,HA2,HW2.out⟩
      case measure => simp [intOf];omega
   ·have hlb:((nf:Int) != lv)=true:=by simp;omega
    have HR:Hid ((q.phis.all fun p => justR p.fr ps)=false):=by
     refine hideI ?_
     rw [List.all_eq_false]
     refine ⟨p,List.mem_of_getElem? HP.out,?_⟩
     unfold justR
     rw [Bool.not_eq_true,Bool.and_eq_false_iff]
     exact .inl (beq_eq_false_iff_ne.2 (by rw [← HNF.out,← HLV.out];exact hlen))
    clear hlen
    go_wp2
    go_ret
    refine ⟨by rw [HR.out];rfl,?_⟩
    rw [HW.out]
    exact drew_below HB0.out _
  ·have HR:Hid ((q.phis.all fun p => justR p.fr ps)=true):=by
    refine hideI ?_
    rw [List.all_eq_true]
    intro p hp
    obtain ⟨j,hj⟩:=List.getElem?_of_mem hp
    exact HA.out j p (by have:=(List.getElem?_eq_some_iff.1 hj).1;have:=HNQ.out;omega) hj
   clear hks hw
   go_wp2
   go_ret
   refine ⟨by rw [HR.out];rfl,?_⟩
   rw [HW.out]
   exact drew_below HB0.out _
end Go.Proofs.YtaehbgppfahdeaaGreat
