/- What InterpSplits rests on, part 17: RefOver, RefDef, RefStrict, RefCheck5. -/
import Derived.Test.YtkaifkjbmdcmlaaGreatPkInterpSplits16
import Derived.Deep.AppendLies
import Derived.BigQuiet
import Derived.Deep.QuietTactic

namespace Go.Proofs.YtkaifkjbmdcmlaaGreat
open Go.RowKit Go.Maps
set_option maxRecDepth 100000 in
set_option maxHeartbeats 1000000 in
theorem refWithout_zero (bs:List BlockM) (B:Nat) (pv av cv bv:Value) (w:World) (hbv:BlocksR w B bv bs) (_hB:B ≤ w.heap.size) (hn5:bs.length ≤ 512) :
  Calls Tryz.prog 109 #[.agg #[pv,av,cv,bv],.int .i64 0] w (WithoutPost bs 0 w):=by
 obtain ⟨A,c,rfl,hbm,_⟩:=hbv
 obtain ⟨i0,hix,hz0,hz1,hz2⟩:=info_parts bool_info
 go_enter Tryz.func109,Tryz.ntmps109
 go_wp2_with (first
  | (at_make;go_must (refine wpList_make_full _ rfl _ _ 159 rfl (w.heap.size + 1) 4 i0 (.bool false) 1 Tryz.underlying159 hix hz0 hz1 .i64 .i64 _ _ bs.length rfl rfl rfl rfl (by rw [hz2];omega) (by unfold maxLen;omega) (by simp) ?_);intro w1 hown1 hg1;rw [World.size_alloc] at hown1;go_must (rw [marks_made] at hown1;have HO1:=hideI hown1;have HB0:Hid (Below w.heap.size w w1):=((Below.refl _ _).alloc (Nat.le_refl _) _).grown hg1 (by simp) (by simp);clear hown1 hg1)))
 go_ret
 exact ⟨[],_,rfl,no_zero,World.ownsRow.mono HO1.out (by omega),HB0.out⟩
theorem refWithout_all (bs:List BlockM) (B:Nat) (pv av cv bv:Value) (gone:Int) (w:World) (hbv:BlocksR w B bv bs) (hB:B ≤ w.heap.size) (h0:0 < bs.length) (hn5:bs.length ≤ 512) (hin:EndsIn bs) :
  Calls Tryz.prog 109 #[.agg #[pv,av,cv,bv],.int .i64 gone] w (WithoutPost bs gone w):=by
 by_cases hg:gone=0
 ·subst hg
  exact refWithout_zero bs B pv av cv bv w hbv hB hn5
 ·exact refWithout_any bs B pv av cv bv gone w hbv hB h0 hn5 hin hg
def GridR (w:World) (v:Value) (n:Nat) (G:Nat → Nat → Bool):Prop :=
 ∃ gv c,v=.slice (some ⟨gv,0,none⟩) n c ∧ gv < w.heap.size ∧ ∀ a,a < n → ∃ ga,ga < w.heap.size ∧ w.cell? ⟨gv,a,none⟩=some (.slice (some ⟨ga,0,none⟩) n n) ∧ ∀ b,b < n → w.cell? ⟨ga,b,none⟩=some (.bool (G a b))
theorem GridR.kept {w w':World} {v:Value} {n:Nat} {G:Nat → Nat → Bool} (h:GridR w v n G) (hb:Below w.heap.size w w'):GridR w' v n G:=by
 obtain ⟨gv,c,e,h1,h2⟩:=h
 refine ⟨gv,c,e,Nat.lt_of_lt_of_le h1 hb.size,fun a ha => ?_⟩
 obtain ⟨ga,h3,h4,h5⟩:=h2 a ha
 exact ⟨ga,Nat.lt_of_lt_of_le h3 hb.size,(hb.cell (p:=⟨gv,a,none⟩) h1).trans h4,fun b hb' => (hb.cell (p:=⟨ga,b,none⟩) h3).trans (h5 b hb')⟩
def rowTo (n:Nat) (G:Nat → Nat → Bool) (a k:Nat):List Value:=(List.range n).map fun b => .bool (decide (b < k) && G a b)
theorem rowTo_zero (n:Nat) (G:Nat → Nat → Bool) (a:Nat):rowTo n G a 0=marks n []:=by
 unfold rowTo marks
 apply List.map_congr_left
 intro b _
 simp
theorem rowTo_at {n a k b:Nat} {G:Nat → Nat → Bool} (h:b < n):(rowTo n G a k)[b]?=some (.bool (decide (b < k) && G a b)):=by
 unfold rowTo
 rw [List.getElem?_map,List.getElem?_eq_getElem (by simpa using h)]
 simp
theorem rowTo_set {n a k:Nat} {G:Nat → Nat → Bool}:(rowTo n G a k).set k (.bool (G a k))=rowTo n G a (k + 1):=by
 apply List.ext_getElem?
 intro i
 by_cases hi:i < n
 ·by_cases e:k=i
  ·subst e
   rw [List.getElem?_set_self (by simpa [rowTo] using hi),rowTo_at hi]
   simp
  ·rw [List.getElem?_set_ne e,rowTo_at hi,rowTo_at hi]
   have:decide (i < k + 1)=decide (i < k):=by
    apply decide_eq_decide.2
    omega
   rw [this]
 ·rw [List.getElem?_eq_none (by simp [rowTo];omega),List.getElem?_eq_none (by simp [rowTo];omega)]
structure Square (w:World) (base n k:Nat) (G:Nat → Nat → Bool) (v:Value) (vs:List Value):Prop where
 row:w.ownsRow base 159 1 v k vs
 each:∀ a,a < k → ∃ ga,vs[a]?=some (.slice (some ⟨ga,0,none⟩) n n) ∧ w.ownsRow base 4 1 (.slice (some ⟨ga,0,none⟩) n n) n (rowTo n G a n) ∧ v.ownBlock ≠ some ga
theorem Square.kept {w w':World} {base n k:Nat} {G:Nat → Nat → Bool} {v:Value} {vs:List Value} (h:Square w base n k G v vs) (hb:Below w.heap.size w w'):Square w' base n k G v vs:=by
 refine ⟨own_kept_below h.row hb (fun j hj => (h.row.lt j hj).2),fun a ha => ?_⟩
 obtain ⟨ga,h1,h2,h3⟩:=h.each a ha
 exact ⟨ga,h1,own_kept_below h2 hb (fun j hj => (h2.lt j hj).2),h3⟩
theorem Square.push {w w1:World} {base n k g' cap' gr:Nat} {G:Nat → Nat → Bool} {v:Value} {vs:List Value} {o:Obj} (h:Square w base n k G v vs) (hr:w.ownsRow base 4 1 (.slice (some ⟨gr,0,none⟩) n n) n (rowTo n G k n)) (hne:v.ownBlock ≠ some gr)
  (hown:w1.ownsRow base 159 1 (.slice (some ⟨g',0,none⟩) (k + 1) cap') (k + 1) (vs ++ [.slice (some ⟨gr,0,none⟩) n n])) (hg:(w.alloc o).grownBy w1 v.ownBlock) (hor:v.ownBlock=some g' ∨ g'=(w.alloc o).heap.size) :
  Square w1 base n (k + 1) G (.slice (some ⟨g',0,none⟩) (k + 1) cap') (vs ++ [.slice (some ⟨gr,0,none⟩) n n]):=by
 have hvl:vs.length=k:=by have:=h.row.1;simpa using this
 have hnew:∀ ga,ga < w.heap.size → v.ownBlock ≠ some ga → (Value.slice (some ⟨g',0,none⟩) (k + 1) cap').ownBlock ≠ some ga:=by
  intro ga hlt hne e
  have e2:g'=ga:=Option.some.inj e
  subst e2
  rcases hor with h1 | h1
  ·exact hne h1
  ·simp at h1;omega
 refine ⟨hown,fun a ha => ?_⟩
 by_cases e:a=k
 ·subst e
  refine ⟨gr,by rw [List.getElem?_append_right (by omega),hvl];simp,(hr.alloc o).kept hg (.inr fun e => hne e.symm),hnew gr (hr.lt gr rfl).2 hne⟩
 ·obtain ⟨ga,h1,h2,h3⟩:=h.each a (by omega)
  refine ⟨ga,by rw [List.getElem?_append_left (by omega)];exact h1,(h2.alloc o).kept hg (.inr fun e => h3 e.symm),hnew ga (h2.lt ga rfl).2 h3⟩
theorem Square.grid {w:World} {base n:Nat} {G:Nat → Nat → Bool} {v:Value} {vs:List Value} (h:Square w base n n G v vs) (hn:0 < n):GridR w v n G:=by
 rcases h.row.2 with ⟨_,h1⟩ | ⟨gv,c,_,rfl,_,_,_,_⟩
 ·omega
 ·refine ⟨gv,c,rfl,(h.row.lt gv rfl).2,fun a ha => ?_⟩
  obtain ⟨ga,h1,h2,_⟩:=h.each a ha
  refine ⟨ga,(h2.lt ga rfl).2,by rw [World.ownsRow.cellAt h.row a (by omega)];exact h1,fun b hb => ?_⟩
  rw [World.ownsRow.cellAt h2 b (by omega),rowTo_at hb]
  simp [hb]
theorem bools_info:(Tryz.prog.info? 159).map (fun i => (i.zero,i.size,i.bytes))=some (some (.slice none 0 0),1,24):=by kernel_rfl
theorem one_newB (w:World) (x:Value):∀ (j:Nat) (y:Value),[x][j]?=some y → (w.alloc (.cells #[x] 159)).cell? ((⟨w.heap.size,0,none⟩:Addr).add j)=some y:=by
 intro j y hy
 rcases j with _ | j
 ·simp at hy
  subst hy
  exact row_cells (heap_alloc_new w (.cells #[x] 159)) (rfl:(w.alloc (.cells #[x] 159)).heap[w.heap.size]?=_) 0
 ·simp at hy
def OverPost (n:Nat) (G:Nat → Nat → Bool) (w:World) (e:Ending) (w':World):Prop:=∃ v,e=.returned v ∧ GridR w' v n G ∧ Below w.heap.size w w'
def overG (S0:List Nat) (S:Nat → List Nat) (a b:Nat):Bool:=decide (a ∈ S0) && (decide (b ∈ S0) && !decide (b ∈ S a))
set_option maxRecDepth 100000 in
set_option maxHeartbeats 4000000 in
theorem refOver_any (bs:List BlockM) (o:List Nat) (G:Nat → Nat → Bool) (B:Nat) (pv av cv bv:Value) (w:World) (hbv:BlocksR w B bv bs) (hB:B ≤ w.heap.size) (h0:0 < bs.length) (hn5:bs.length ≤ 512) (hin:EndsIn bs) (ho:OrderIs bs o) (hG:∀ a b,G a b=true ↔ OverP bs o a b) :
  Calls Tryz.prog 112 #[.agg #[pv,av,cv,bv]] w (OverPost bs.length G w):=by
 have HBL:=hideI hbv
 have HIN:=hideI hin
 have HO:=hideI ho
 have HG:=hideI hG
 obtain ⟨A,c,rfl,hbm,_⟩:=hbv
 obtain ⟨W,hW⟩:∃ W:World,W=w.alloc (.cells #[pv,av,cv,.slice A bs.length c] 25):=⟨_,rfl⟩
 have HBW:Hid (Below w.heap.size w W):=by show Below _ _ _;rw [hW];exact (Below.refl _ _).alloc (Nat.le_refl _) _
 have HXW:Hid (W.heap[w.heap.size]?=some (.cells #[pv,av,cv,.slice A bs.length c] 25 (0,0))):=by show _=_;rw [hW];exact heap_alloc_new w _
 have hwW:w.heap.size < W.heap.size:=lt_of_heap HXW.out
 have HW0:=hideI hW
 have G0:Hid (∀ W2,Below W.heap.size W W2 → (∀ o,W2.cell? ⟨w.heap.size,o,none⟩=(#[pv,av,cv,.slice A bs.length c]:Array Value)[o]?) ∧ BlocksR W2 B (.slice A bs.length c) bs ∧ B ≤ W2.heap.size):=fun W2 h2 => by
  have h3:Below w.heap.size w W2:=HBW.out.trans (h2.mono HBW.out.size)
  exact ⟨row_cells HXW.out (h2.block _ hwW),HBL.out.keeps (Keeps.of_below (h3.mono hB)),Nat.le_trans hB h3.size⟩
 obtain ⟨hx,_,_⟩:=G0.out W (Below.refl _ _)
 have q0:=hx 0
 have q1:=hx 1
 have q2:=hx 2
 have q3:=hx 3
 clear hin ho hG hW hx
 go_enter Tryz.func112,Tryz.ntmps112
 go_upto_region 1 with fail
 rw [← HW0.out]
 clear HW0
 go_wp2_with (first
  | (go_at_call 109;go_must (refine (refWithout_all bs B pv av cv _ (-1) _ (G0.out _ (Below.refl _ _)).2.1 (G0.out _ (Below.refl _ _)).2.2 h0 hn5 HIN.out).mono ?_);rintro e w1 ⟨S0,gA,rfl,hS,hown,hb1⟩;have HS0:Hid (∀ x,x ∈ S0 ↔ x ∈ o):=hideI (fun x => (hS x).trans (HO.out.reach x).symm);have HOA:=hideI hown;have HB1:=hideI hb1;clear hS hown hb1 q0 q1 q2;(obtain ⟨hx,_,_⟩:=G0.out _ HB1.out);clear q3;have q3:=hx 3;clear hx))
 obtain ⟨W2,hW2⟩:∃ W2,W2=w1.alloc (.cells #[] 159):=⟨_,rfl⟩
 have hb12:Below w1.heap.size w1 W2:=by rw [hW2];exact (Below.refl _ _).alloc (Nat.le_refl _) _
 have HB12:=hideI hb12
 have HSQ0:Hid (Square W2 w1.heap.size bs.length 0 G (.slice (some ⟨w1.heap.size,0,none⟩) 0 0) []):=by
  refine hideI ⟨?_,fun a ha => by omega⟩
  rw [hW2]
  exact World.ownsRow_made w1 #[] 0 (Nat.le_refl _) (by decide) rfl
 have hs12:w1.heap.size < W2.heap.size:=by rw [hW2];simp
 have hsW1:W.heap.size ≤ w1.heap.size:=HB1.out.size
 rw [← hW2]
 clear hW2 hb12 q3
 go_loopw [4,5] (fun u4 u5 wr => ∃ (a:Nat) (v:Value) (vs:List Value),a ≤ bs.length ∧ v=u4 ∧ u5=.int .i64 a ∧ Hid (Square wr w1.heap.size bs.length a G v vs) ∧ Hid (Below w1.heap.size w1 wr)) (fun _ u5 _ => bs.length - (intOf u5).toNat)
 case atStart => exact ⟨0,_,[],Nat.zero_le _,rfl,rfl,HSQ0,HB12⟩
 case round =>
  obtain ⟨a,v,vs,ha,rfl,rfl,HSQ,HBr⟩:=hrel
  have hb1r:Below w1.heap.size w1 wr:=HBr.out
  have HB1r:=hideI hb1r
  have HBWr:Hid (Below W.heap.size W wr):=HB1.out.trans (hb1r.mono hsW1)
  obtain ⟨hx,_,_⟩:=G0.out wr HBWr.out
  have q0:=hx 0
  have q1:=hx 1
  have q2:=hx 2
  have q3:=hx 3
  clear hx hb1r
  by_cases hlt:a < bs.length
  ·obtain ⟨i0,hix,hz0,hz1,hz2⟩:=info_parts bool_info
   have hsr:w1.heap.size ≤ wr.heap.size:=HB1r.out.size
   go_wp2_with (first
    | (go_at_call 109;go_must (refine (refWithout_all bs B pv av cv _ a _ (G0.out _ HBWr.out).2.1 (G0.out _ HBWr.out).2.2 h0 hn5 HIN.out).mono ?_);rintro e w3 ⟨Sa,gB,rfl,hSa,hown,hb3⟩;have HSA:=hideI hSa;have HOB:=hideI hown;have HB3:=hideI (HB1r.out.trans (hb3.mono hsr));have HSQ3:=hideI (HSQ.out.kept hb3);clear hSa hown hb3 q0 q1 q2 q3;(obtain ⟨hx,_,_⟩:=G0.out _ (HB1.out.trans (HB3.out.mono hsW1)));have q3:=hx 3;clear hx)
    | (at_make;go_must (refine wpList_make_full _ rfl _ _ 159 rfl w3.heap.size 4 i0 (.bool false) 1 Tryz.underlying159 hix hz0 hz1 .i64 .i64 _ _ bs.length rfl rfl rfl rfl (by rw [hz2];omega) (by unfold maxLen;omega) (Nat.le_refl _) ?_);intro w4 hown4 hg4;go_must (rw [marks_made,← rowTo_zero bs.length G a] at hown4;have HR0:=hideI hown4;have HG4:Hid (Below w3.heap.size w3 w4):=(Below.refl _ _).grown hg4 (Nat.le_refl _) (by simp);clear hown4 hg4 q3)))
   clear hix hz0 hz1 hz2
   have hs3:w1.heap.size ≤ w3.heap.size:=HB3.out.size
   have HSQ4:=hideI (HSQ3.out.kept HG4.out)
   have HOB4:=hideI (own_kept_below HOB.out HG4.out (fun k hk => (HOB.out.lt k hk).2))
   have HB4:Hid (Below w1.heap.size w1 w4):=HB3.out.trans (HG4.out.mono hs3)
   have hgB:gB < w3.heap.size:=(HOB.out.lt gB rfl).2
   have hgA:gA < w1.heap.size:=(HOA.out.lt gA rfl).2
   have hvb:v.ownBlock ≠ some w3.heap.size:=fun e => by have:=(HSQ3.out.row.lt _ e).2;omega
   have HVB:=hideI hvb
   clear hvb
   go_loopw [8] (fun u8 wr2 => ∃ b:Nat,b ≤ bs.length ∧ u8=.int .i64 b ∧ Hid (wr2.ownsRow w3.heap.size 4 1 (.slice (some ⟨w3.heap.size,0,none⟩) bs.length bs.length) bs.length (rowTo bs.length G a b)) ∧ Hid (w4.grownBy wr2 (some w3.heap.size))) (fun u8 _ => bs.length - (intOf u8).toNat)
   case atStart => exact ⟨0,Nat.zero_le _,rfl,HR0,hideI (World.grownBy.refl _ _)⟩
   case round =>
    obtain ⟨b,hb,rfl,HR,HGr⟩:=hrel
    have hb4:Below w3.heap.size w4 wr:=(Below.refl _ w4).grown HGr.out HG4.out.size (fun k hk => by cases hk;exact Nat.le_refl _)
    have HB5:Hid (Below w1.heap.size w1 wr):=HB4.out.trans (hb4.mono hs3)
    obtain ⟨hx,_,_⟩:=G0.out wr (HB1.out.trans (HB5.out.mono hsW1))
    have q3:=hx 3
    clear hx
    by_cases hltb:b < bs.length
    ·have hA:=own_kept_below HOA.out HB5.out (fun k hk => (HOA.out.lt k hk).2)
     have hBk:=own_kept_below HOB4.out hb4 (fun k hk => by cases hk;exact hgB)
     have c1:wr.cell? ⟨gA,a,none⟩=some (.bool (decide (a ∈ S0))):=by rw [World.ownsRow.cellAt hA a (by omega),marks_at hlt]
     have c2:wr.cell? ⟨gA,b,none⟩=some (.bool (decide (b ∈ S0))):=by rw [World.ownsRow.cellAt hA b (by omega),marks_at hltb]
     have c3:wr.cell? ⟨gB,b,none⟩=some (.bool (decide (b ∈ Sa))):=by rw [World.ownsRow.cellAt hBk b (by omega),marks_at hltb]
     have c4:wr.cell? ⟨w3.heap.size,b,none⟩=some (.bool (decide (b < b) && G a b)):=by rw [World.ownsRow.cellAt HR.out b (by omega),rowTo_at hltb]
     have c5:wr.frozen? ⟨w3.heap.size,b,none⟩=false:=World.ownsRow.frozenAt HR.out b
     have hGab:G a b=(decide (a ∈ S0) && (decide (b ∈ S0) && !decide (b ∈ Sa))):=by
      rw [Bool.eq_iff_iff,HG.out a b]
      unfold OverP
      simp only [Bool.and_eq_true,Bool.not_eq_true',decide_eq_true_eq,decide_eq_false_iff_not]
      rw [HS0.out a,HS0.out b,HSA.out b]
     have hst:=World.ownsRow.stored HR.out b (.bool (G a b))
     rw [rowTo_set] at hst
     have HST:=hideI hst
     obtain ⟨p,hp⟩:∃ p,p=decide (a ∈ S0):=⟨_,rfl⟩
     obtain ⟨q,hq⟩:∃ q,q=decide (b ∈ S0):=⟨_,rfl⟩
     obtain ⟨s,hs⟩:∃ s,s=decide (b ∈ Sa):=⟨_,rfl⟩
     rw [← hp,← hq,← hs] at hGab
     rw [← hp] at c1
     rw [← hq] at c2
     rw [← hs] at c3
     rw [hGab] at HST
     clear hp hq hs hA hBk hst hGab hb4
     cases p with
     | false =>
      go_wp2
      go_roundw
      case rel => exact ⟨b + 1,by omega,by go_num,hideI HST.out.1,hideI (HGr.out.trans HST.out.2)⟩
      case measure => simp [intOf];omega
     | true =>
      cases q with
      | false =>
       go_wp2
       go_roundw
       case rel => exact ⟨b + 1,by omega,by go_num,hideI HST.out.1,hideI (HGr.out.trans HST.out.2)⟩
       case measure => simp [intOf];omega
      | true =>
       cases s
       all_goals
        go_wp2
        go_roundw
        case rel => exact ⟨b + 1,by omega,by go_num,hideI HST.out.1,hideI (HGr.out.trans HST.out.2)⟩
        case measure => simp [intOf];omega
    ·obtain rfl:b=bs.length:=by omega
     have HSQ5:Hid (Square wr w1.heap.size bs.length a G v vs):=by
      refine hideI ⟨own_kept_below HSQ4.out.row hb4 (fun k hk => ?_),fun a' ha' => ?_⟩
      ·exact (HSQ3.out.row.lt k hk).2
      ·obtain ⟨ga,h1,h2,h3⟩:=HSQ3.out.each a' ha'
       exact ⟨ga,h1,own_kept_below (own_kept_below h2 HG4.out (fun k hk => (h2.lt k hk).2)) hb4 (fun k hk => (h2.lt k hk).2),h3⟩
     obtain ⟨i1,hjx,hy0,hy1,hy2⟩:=info_parts bools_info
     have H63:Hid (a + 1 ≤ maxLen):=by show _ ≤ _;simp only [maxLen];omega
     have HBY:Hid ((a + 1) * 24 ≤ 140737488355328):=by show _ ≤ _;omega
     have HBS:Hid (w1.heap.size ≤ wr.heap.size):=HB5.out.size
     clear hb4
     go_wp2_with (at_builtin;go_must (refine wpList_append_lies _ rfl _ _ _ rfl w1.heap.size 159 i1 (.slice none 0 0) 1 24 Tryz.underlying163 hjx hy0 hy1 hy2 rfl (by decide) _ _ _ rfl (HSQ5.out.row.alloc _) ⟨wr.heap.size,0,none⟩ 1 1 [.slice (some ⟨w3.heap.size,0,none⟩) bs.length bs.length] rfl rfl (one_newB wr _) (by simp [Value.oneCell']) (by decide) H63.out HBY.out (by have:=HBS.out;simp;omega) _ rfl ?_);intro g1 cap1 w6 hown1 hgrow1 hor1 _;go_must (have HP:=hideI (HSQ5.out.push (World.ownsRow.mono HR.out hs3) HVB.out hown1 hgrow1 hor1);have HPB:Hid (Below w1.heap.size w1 w6):=(HB5.out.alloc HBS.out _).grown hgrow1 (by have:=HBS.out;simp;omega) (fun k hk => (HSQ5.out.row.lt k hk).1);clear hown1 hgrow1 hor1))
     go_roundw
     case rel => exact ⟨a + 1,_,_,by omega,rfl,by go_num,HP,HPB⟩
     case measure => simp [intOf];omega
  ·obtain rfl:a=bs.length:=by omega
   go_wp2
   go_ret
   exact ⟨v,rfl,HSQ.out.grid h0,HBW.out.trans (HBWr.out.mono HBW.out.size)⟩
end Go.Proofs.YtkaifkjbmdcmlaaGreat

namespace Go.Proofs.YtkaifkjbmdcmlaaGreat
open Go.RowKit Go.Maps
theorem Placed.first_append (l r:Placed) (id:Int):Placed.first (l ++ r) id=(l.first id).or (r.first id):=by
 unfold Placed.first
 rw [List.find?_append]
 cases l.find? (fun d => d.1 == id) <;> simp
theorem Placed.first_one (a id:Int) (v:Nat × Int):Placed.first [(a,v)] id=if a=id then some v else none:=by
 unfold Placed.first
 by_cases h:a=id
 ·subst h;simp
 ·simp [h]
theorem Placed.first_none_snoc {l:Placed} {a id:Int} {v:Nat × Int} (h:l.first id=none) (hn:a ≠ id):Placed.first (l ++ [(a,v)]) id=none:=by
 rw [Placed.first_append,h,Placed.first_one,if_neg hn]
 rfl
theorem Placed.first_hit {l r:Placed} {id:Int} {v:Nat × Int} (h:l.first id=none):Placed.first (l ++ [(id,v)] ++ r) id=some v:=by
 rw [Placed.first_append,Placed.first_append,h,Placed.first_one,if_pos rfl]
 rfl
theorem placedBlocks_split (bs:List BlockM) {j:Nat} {q:BlockM} (hq:bs[j]?=some q):∀ n,j < n → ∃ r,placedBlocks bs n=placedBlocks bs j ++ placedBlock j q ++ r:=by
 intro n
 induction n with
 | zero => intro h;omega
 | succ n ih =>
  intro h
  rw [placedBlocks]
  rcases Nat.lt_or_ge j n with hj | hj
  ·obtain ⟨r,hr⟩:=ih hj
   exact ⟨r ++ _,by rw [hr,List.append_assoc]⟩
  ·have:j=n:=by omega
   subst this
   rw [hq]
   exact ⟨[],by simp⟩
theorem placedCode_split (b:Nat) (xs:List InstrM) {m:Nat} {x:InstrM} (hx:xs[m]?=some x):∀ n,m < n → ∃ r,placedCode b xs n=placedCode b xs m ++ placedInstr b m x ++ r:=by
 intro n
 induction n with
 | zero => intro h;omega
 | succ n ih =>
  intro h
  rw [placedCode]
  rcases Nat.lt_or_ge m n with hj | hj
  ·obtain ⟨r,hr⟩:=ih hj
   exact ⟨r ++ _,by rw [hr,List.append_assoc]⟩
  ·have:m=n:=by omega
   subst this
   rw [hx]
   exact ⟨[],by simp⟩
theorem placedPhis_split (b:Nat) (ps:List PhiM) {m:Nat} {p:PhiM} (hp:ps[m]?=some p):∃ r,placedPhis b ps=placedPhis b (ps.take m) ++ [(p.id,(b,-1))] ++ r:=by
 obtain ⟨hm,rfl⟩:=List.getElem?_eq_some_iff.1 hp
 refine ⟨placedPhis b (ps.drop (m + 1)),?_⟩
 have e:ps=ps.take m ++ [ps[m]] ++ ps.drop (m + 1):=by
  rw [List.append_assoc,List.singleton_append,← List.drop_eq_getElem_cons hm,List.take_append_drop]
 have e2:placedPhis b (ps.take m ++ [ps[m]] ++ ps.drop (m + 1))=placedPhis b (ps.take m) ++ [(ps[m].id,(b,-1))] ++ placedPhis b (ps.drop (m + 1)):=by
  unfold placedPhis
  rw [List.map_append,List.map_append]
  rfl
 rw [← e2,← e]
theorem first_phi {f:FuncM} {j m:Nat} {q:BlockM} {p:PhiM} (hq:f.blocks[j]?=some q) (hp:q.phis[m]?=some p) (h1:Placed.first (placedParams f.params.length ++ placedBlocks f.blocks j ++ placedPhis j (q.phis.take m)) p.id=none) :
  (placedM f).first p.id=some (j,-1):=by
 obtain ⟨r,hr⟩:=placedBlocks_split f.blocks hq f.blocks.length (List.getElem?_eq_some_iff.1 hq).1
 obtain ⟨r2,hr2⟩:=placedPhis_split j q.phis hp
 unfold placedM placedBlock at *
 rw [hr,hr2]
 have:=Placed.first_hit (r:=r2 ++ placedCode j q.code q.code.length ++ r) (v:=(j,-1)) h1
 rw [← this]
 simp only [List.append_assoc]
theorem first_code {f:FuncM} {j m:Nat} {q:BlockM} {x:InstrM} (hq:f.blocks[j]?=some q) (hx:q.code[m]?=some x) (h0:0 ≤ x.id) (h1:Placed.first (placedParams f.params.length ++ placedBlocks f.blocks j ++ (placedPhis j q.phis ++ placedCode j q.code m)) x.id=none) :
  (placedM f).first x.id=some (j,(m:Int)):=by
 obtain ⟨r,hr⟩:=placedBlocks_split f.blocks hq f.blocks.length (List.getElem?_eq_some_iff.1 hq).1
 obtain ⟨r2,hr2⟩:=placedCode_split j q.code hx q.code.length (List.getElem?_eq_some_iff.1 hx).1
 unfold placedInstr at hr2
 rw [if_pos h0] at hr2
 unfold placedM placedBlock at *
 rw [hr,hr2]
 have:=Placed.first_hit (r:=r2 ++ r) (v:=(j,(m:Int))) h1
 rw [← this]
 simp only [List.append_assoc]
theorem first_params (n:Nat) (id:Int):Placed.first (placedParams n) id=if 0 ≤ id ∧ id < n then some (0,-1) else none:=by
 induction n with
 | zero => rw [if_neg (by omega)];rfl
 | succ n ih =>
  unfold placedParams
  rw [Placed.first_append,ih,Placed.first_one]
  by_cases h1:0 ≤ id ∧ id < n
  ·rw [if_pos h1,if_pos (show 0 ≤ id ∧ id < ((n + 1:Nat):Int) by omega)];rfl
  ·rw [if_neg h1]
   by_cases h2:(n:Int)=id
   ·rw [if_pos h2,if_pos (show 0 ≤ id ∧ id < ((n + 1:Nat):Int) by omega)];rfl
   ·rw [if_neg h2,if_neg (show ¬ (0 ≤ id ∧ id < ((n + 1:Nat):Int)) by omega)];rfl
def DefPost (l:Placed) (id:Int) (w:World) (e:Ending) (w':World):Prop :=
 ((∃ v,l.first id=some v ∧ e=.returned (.tuple #[.int .i64 (v.1:Int),.int .i64 v.2,.bool true])) ∨ (l.first id=none ∧ e=.returned (.tuple #[.int .i64 0,.int .i64 0,.bool false]))) ∧ Below w.heap.size w w'
theorem defPost_some {l:Placed} {id:Int} {w w':World} {b:Nat} {a:Int} (h:l.first id=some (b,a)) (hb:Below w.heap.size w w'):DefPost l id w (.returned (.tuple #[.int .i64 (b:Int),.int .i64 a,.bool true])) w':=⟨.inl ⟨_,h,rfl⟩,hb⟩
theorem defPost_none {l:Placed} {id:Int} {w w':World} (h:l.first id=none) (hb:Below w.heap.size w w'):DefPost l id w (.returned (.tuple #[.int .i64 0,.int .i64 0,.bool false])) w':=⟨.inr ⟨h,rfl⟩,hb⟩
set_option maxRecDepth 100000 in
set_option maxHeartbeats 8000000 in
theorem refDef_any (f:FuncM) (B:Nat) (pv bv:Value) (id:Int) (w:World) (hpv:Ints w B pv f.params) (hbv:BlocksR w B bv f.blocks) (hB:B ≤ w.heap.size) (hfew:FewV f) (hl5:f.blocks.length ≤ 512) :
  Calls Tryz.prog 113 #[.agg #[pv,.int .i64 f.arrays,.int .i64 f.cells,bv],.int .i64 id] w (DefPost (placedM f) id w):=by
 obtain ⟨A,c,rfl,hbm,hbx⟩:=hbv
 obtain ⟨P,pc,rfl,hpm,_⟩:=hpv
 have HX:=hideI hbx
 have hp16:=hfew.1
 clear hbx hfew
 obtain ⟨np,hnp⟩:∃ np,np=f.params.length:=⟨_,rfl⟩
 have HNP:=hideI hnp
 rw [← hnp] at hp16 hpm ⊢
 obtain ⟨nb,hnb⟩:∃ nb,nb=f.blocks.length:=⟨_,rfl⟩
 have HNB:=hideI hnb
 rw [← hnb] at hl5 hbm ⊢
 have HB0:Hid (Below w.heap.size w (w.alloc (.cells #[.slice P np pc,.int .i64 f.arrays,.int .i64 f.cells,.slice A nb c] 25))):=(Below.refl _ w).alloc (Nat.le_refl _) _
 obtain ⟨W0,hW0⟩:∃ W0:World,W0=w.alloc (.cells #[.slice P np pc,.int .i64 f.arrays,.int .i64 f.cells,.slice A nb c] 25):=⟨_,rfl⟩
 have HW0:=hideI hW0
 have hk:Hid (Keeps B w W0):=by rw [hW0];exact hideI ((Keeps.refl w).alloc hB _)
 have hbox:Hid (∀ o,W0.cell? ⟨w.heap.size,o,none⟩=(#[.slice P np pc,.int .i64 f.arrays,.int .i64 f.cells,.slice A nb c]:Array Value)[o]?):=by rw [hW0];exact hideI (row_cells (heap_alloc_new w _) rfl)
 have hFP:Hid (Placed.first (placedParams f.params.length) id=if 0 ≤ id ∧ id < (np:Int) then some (0,-1) else none):=by show _=_;rw [first_params,← HNP.out]
 clear hnp hnb hW0
 by_cases h1:0 ≤ id
 ·by_cases h2:id < (np:Int)
  ·have HR:Hid ((placedM f).first id=some (0,-1)):=by
    show _=_
    unfold placedM
    rw [Placed.first_append,hFP.out,if_pos ⟨h1,h2⟩]
    rfl
   go_enter Tryz.func113,Tryz.ntmps113
   go_wp2
   go_ret3
   exact defPost_some (b:=0) HR.out HB0.out
  ·have HF0:Hid (Placed.first (placedParams f.params.length) id=none):=by show _=_;rw [hFP.out,if_neg (by omega)]
   clear hFP
   go_enter Tryz.func113,Tryz.ntmps113
   go_wp2
   rw [← HW0.out]
   go_loopw [7] (fun i wr => ∃ j:Nat,j ≤ nb ∧ i=.int .i64 j ∧ Hid (Placed.first (placedParams f.params.length ++ placedBlocks f.blocks j) id=none) ∧ wr=W0) (fun i _ => nb - (intOf i).toNat)
   case atStart => exact ⟨0,Nat.zero_le _,rfl,by rw [placedBlocks,List.append_nil];exact HF0,rfl⟩
   case round =>
    obtain ⟨j,hj,rfl,HN,hw⟩:=hrel;obtain rfl:=hw.symm
    have hx:=hbox.out
    by_cases hlt:j < nb
    ·obtain ⟨q,hq⟩:∃ q,f.blocks[j]?=some q:=⟨_,List.getElem?_eq_getElem (by rw [← HNB.out];exact hlt)⟩
     obtain ⟨b,off,qpv,qcv,qtv,rfl,hb,e0,e1,e2,e3,e4,e5,hpv,hcv,htv,_⟩:=HX.out j q hq
     have c0:=(hk.out b (off + j * 6) hb).trans e0
     have c1:=(hk.out b (off + j * 6 + 1) hb).trans e1
     have HQ:=hideI hq
     obtain ⟨PA,pc2,rfl,hpm2,hpx⟩:=hpv
     obtain ⟨CA,cc,rfl,hcm,hcx⟩:=hcv
     have HPX:=hideI hpx
     have HCX:=hideI hcx
     obtain ⟨nq,hnq⟩:∃ nq,nq=q.phis.length:=⟨_,rfl⟩
     obtain ⟨nc,hnc⟩:∃ nc,nc=q.code.length:=⟨_,rfl⟩
     have HNQ:=hideI hnq
     have HNC:=hideI hnc
     rw [← hnq] at c0 hpm2
     rw [← hnc] at c1 hcm
     clear e0 e1 e2 e3 e4 e5 hq hpx hcx hnq hnc
     go_wp2
     go_loopw [8] (fun i wr => ∃ m:Nat,m ≤ nq ∧ i=.int .i64 m ∧ Hid (Placed.first (placedParams f.params.length ++ placedBlocks f.blocks j ++ placedPhis j (q.phis.take m)) id=none) ∧ wr=W0) (fun i _ => nq - (intOf i).toNat)
     case atStart => exact ⟨0,Nat.zero_le _,rfl,by rw [List.take_zero,show placedPhis j []=[] from rfl,List.append_nil];exact HN,rfl⟩
     case round =>
      obtain ⟨m,hm,rfl,HNm,hw⟩:=hrel;obtain rfl:=hw.symm
      by_cases hlm:m < nq
      ·obtain ⟨p,hp⟩:∃ p,q.phis[m]?=some p:=⟨_,List.getElem?_eq_getElem (by rw [← HNQ.out];exact hlm)⟩
       obtain ⟨b2,off2,fv,vv,rfl,hb2,e0,_⟩:=HPX.out m p hp
       have d0:=(hk.out b2 (off2 + m * 4) hb2).trans e0
       have HP2:=hideI hp
       obtain ⟨pid,hpid⟩:∃ pid,pid=p.id:=⟨_,rfl⟩
       rw [← hpid] at d0
       have HPID:=hideI hpid
       clear e0 hp hpid
       by_cases hid:pid=id
       ·subst hid
        have HR:Hid ((placedM f).first pid=some (j,-1)):=by
         have:=HNm.out
         rw [HPID.out] at this ⊢
         exact hideI (first_phi HQ.out HP2.out this)
        go_wp2
        go_ret3
        exact defPost_some HR.out (by rw [HW0.out];exact HB0.out)
       ·have HD:Hid (pid ≠ id):=hid
        have hib:(pid == id)=false:=beq_eq_false_iff_ne.2 hid
        clear hid
        go_wp2
        go_roundw
        case rel =>
         refine ⟨m + 1,by omega,by go_num,?_,by first | rfl | trivial⟩
         have e:placedPhis j (q.phis.take (m + 1))=placedPhis j (q.phis.take m) ++ [(p.id,(j,-1))]:=by
          unfold placedPhis
          exact map_take' _ q.phis m p HP2.out
         rw [e,← List.append_assoc]
         exact hideI (Placed.first_none_snoc HNm.out (by rw [← HPID.out];exact HD.out))
        case measure => simp [intOf];omega
      ·have HNe:Hid (Placed.first (placedParams f.params.length ++ placedBlocks f.blocks j ++ placedPhis j q.phis) id=none):=by have:=HNm.out;rw [List.take_of_length_le (by rw [← HNQ.out];omega)] at this;exact hideI this
       go_wp2
       go_loopw [9] (fun i wr => ∃ m:Nat,m ≤ nc ∧ i=.int .i64 m ∧ Hid (Placed.first (placedParams f.params.length ++ placedBlocks f.blocks j ++ (placedPhis j q.phis ++ placedCode j q.code m)) id=none) ∧ wr=W0) (fun i _ => nc - (intOf i).toNat)
       case atStart => exact ⟨0,Nat.zero_le _,rfl,by rw [placedCode,List.append_nil];exact HNe,rfl⟩
       case round =>
        obtain ⟨m,hm,rfl,HNm,hw⟩:=hrel;obtain rfl:=hw.symm
        by_cases hlm:m < nc
        ·obtain ⟨x,hxx⟩:∃ x,q.code[m]?=some x:=⟨_,List.getElem?_eq_getElem (by rw [← HNC.out];exact hlm)⟩
         obtain ⟨b2,off2,av,rfl,hb2,_,e1,_⟩:=HCX.out m x hxx
         have d1:=(hk.out b2 (off2 + m * 4 + 1) hb2).trans e1
         have HP2:=hideI hxx
         have HSU:Hid (placedCode j q.code (m + 1)=placedCode j q.code m ++ placedInstr j m x):=by show _=_;rw [placedCode,hxx]
         obtain ⟨pid,hpid⟩:∃ pid,pid=x.id:=⟨_,rfl⟩
         rw [← hpid] at d1
         have HPID:=hideI hpid
         clear e1 hxx hpid
         have HNX:Hid (¬ (pid=id ∧ 0 ≤ id) → Placed.first (placedParams f.params.length ++ placedBlocks f.blocks j ++ (placedPhis j q.phis ++ placedCode j q.code (m + 1))) id=none):=by
          refine hideI (fun hno => ?_)
          rw [HSU.out,← List.append_assoc (placedPhis j q.phis),← List.append_assoc (placedParams f.params.length ++ placedBlocks f.blocks j)]
          unfold placedInstr
          rw [← HPID.out]
          by_cases h0:0 ≤ pid
          ·rw [if_pos h0]
           exact Placed.first_none_snoc HNm.out (fun e => hno ⟨e,by rw [← e];exact h0⟩)
          ·rw [if_neg h0,List.append_nil]
           exact HNm.out
         by_cases hid:pid=id
         ·by_cases h0:0 ≤ id
          ·subst hid
           have HR:Hid ((placedM f).first pid=some (j,(m:Int))):=by
            have:=HNm.out
            rw [HPID.out] at this h0 ⊢
            exact hideI (first_code HQ.out HP2.out h0 this)
           go_wp2
           go_ret3
           exact defPost_some HR.out (by rw [HW0.out];exact HB0.out)
          ·exact absurd h1 h0
         ·have HNN:=hideI (HNX.out (fun h => hid h.1))
          have hib:(pid == id)=false:=beq_eq_false_iff_ne.2 hid
          clear hid
          go_wp2
          go_roundw
          case rel => exact ⟨m + 1,by omega,by go_num,HNN,by first | rfl | trivial⟩
          case measure => simp [intOf];omega
        ·have HNE:Hid (Placed.first (placedParams f.params.length ++ placedBlocks f.blocks (j + 1)) id=none):=by
          have h1:=HNm.out
          have h2:m=q.code.length:=by have:=HNC.out;omega
          rw [h2] at h1
          show _=_
          rw [placedBlocks,HQ.out,← List.append_assoc]
          exact h1
         go_wp2
         go_roundw
         case rel => exact ⟨j + 1,by omega,by go_num,HNE,by first | rfl | trivial⟩
         case measure => simp [intOf];omega
    ·have HNE:Hid ((placedM f).first id=none):=by
      have h1:=HN.out
      have h2:j=f.blocks.length:=by have:=HNB.out;omega
      rw [h2] at h1
      exact h1
     go_wp2
     go_ret3
     exact defPost_none HNE.out (by rw [HW0.out];exact HB0.out)
 ·have HF0:Hid (Placed.first (placedParams f.params.length) id=none):=by show _=_;rw [hFP.out,if_neg (by omega)]
  clear hFP
  go_enter Tryz.func113,Tryz.ntmps113
  go_wp2
  rw [← HW0.out]
  go_loopw [7] (fun i wr => ∃ j:Nat,j ≤ nb ∧ i=.int .i64 j ∧ Hid (Placed.first (placedParams f.params.length ++ placedBlocks f.blocks j) id=none) ∧ wr=W0) (fun i _ => nb - (intOf i).toNat)
  case atStart => exact ⟨0,Nat.zero_le _,rfl,by rw [placedBlocks,List.append_nil];exact HF0,rfl⟩
  case round =>
   obtain ⟨j,hj,rfl,HN,hw⟩:=hrel;obtain rfl:=hw.symm
   have hx:=hbox.out
   by_cases hlt:j < nb
   ·obtain ⟨q,hq⟩:∃ q,f.blocks[j]?=some q:=⟨_,List.getElem?_eq_getElem (by rw [← HNB.out];exact hlt)⟩
    obtain ⟨b,off,qpv,qcv,qtv,rfl,hb,e0,e1,e2,e3,e4,e5,hpv,hcv,htv,_⟩:=HX.out j q hq
    have c0:=(hk.out b (off + j * 6) hb).trans e0
    have c1:=(hk.out b (off + j * 6 + 1) hb).trans e1
    have HQ:=hideI hq
    obtain ⟨PA,pc2,rfl,hpm2,hpx⟩:=hpv
    obtain ⟨CA,cc,rfl,hcm,hcx⟩:=hcv
    have HPX:=hideI hpx
    have HCX:=hideI hcx
    obtain ⟨nq,hnq⟩:∃ nq,nq=q.phis.length:=⟨_,rfl⟩
    obtain ⟨nc,hnc⟩:∃ nc,nc=q.code.length:=⟨_,rfl⟩
    have HNQ:=hideI hnq
    have HNC:=hideI hnc
    rw [← hnq] at c0 hpm2
    rw [← hnc] at c1 hcm
    clear e0 e1 e2 e3 e4 e5 hq hpx hcx hnq hnc
    go_wp2
    go_loopw [8] (fun i wr => ∃ m:Nat,m ≤ nq ∧ i=.int .i64 m ∧ Hid (Placed.first (placedParams f.params.length ++ placedBlocks f.blocks j ++ placedPhis j (q.phis.take m)) id=none) ∧ wr=W0) (fun i _ => nq - (intOf i).toNat)
    case atStart => exact ⟨0,Nat.zero_le _,rfl,by rw [List.take_zero,show placedPhis j []=[] from rfl,List.append_nil];exact HN,rfl⟩
    case round =>
     obtain ⟨m,hm,rfl,HNm,hw⟩:=hrel;obtain rfl:=hw.symm
     by_cases hlm:m < nq
     ·obtain ⟨p,hp⟩:∃ p,q.phis[m]?=some p:=⟨_,List.getElem?_eq_getElem (by rw [← HNQ.out];exact hlm)⟩
      obtain ⟨b2,off2,fv,vv,rfl,hb2,e0,_⟩:=HPX.out m p hp
      have d0:=(hk.out b2 (off2 + m * 4) hb2).trans e0
      have HP2:=hideI hp
      obtain ⟨pid,hpid⟩:∃ pid,pid=p.id:=⟨_,rfl⟩
      rw [← hpid] at d0
      have HPID:=hideI hpid
      clear e0 hp hpid
      by_cases hid:pid=id
      ·subst hid
       have HR:Hid ((placedM f).first pid=some (j,-1)):=by
        have:=HNm.out
        rw [HPID.out] at this ⊢
        exact hideI (first_phi HQ.out HP2.out this)
       go_wp2
       go_ret3
       exact defPost_some HR.out (by rw [HW0.out];exact HB0.out)
      ·have HD:Hid (pid ≠ id):=hid
       have hib:(pid == id)=false:=beq_eq_false_iff_ne.2 hid
       clear hid
       go_wp2
       go_roundw
       case rel =>
        refine ⟨m + 1,by omega,by go_num,?_,by first | rfl | trivial⟩
        have e:placedPhis j (q.phis.take (m + 1))=placedPhis j (q.phis.take m) ++ [(p.id,(j,-1))]:=by
         unfold placedPhis
         exact map_take' _ q.phis m p HP2.out
        rw [e,← List.append_assoc]
        exact hideI (Placed.first_none_snoc HNm.out (by rw [← HPID.out];exact HD.out))
       case measure => simp [intOf];omega
     ·have HNe:Hid (Placed.first (placedParams f.params.length ++ placedBlocks f.blocks j ++ placedPhis j q.phis) id=none):=by have:=HNm.out;rw [List.take_of_length_le (by rw [← HNQ.out];omega)] at this;exact hideI this
      go_wp2
      go_loopw [9] (fun i wr => ∃ m:Nat,m ≤ nc ∧ i=.int .i64 m ∧ Hid (Placed.first (placedParams f.params.length ++ placedBlocks f.blocks j ++ (placedPhis j q.phis ++ placedCode j q.code m)) id=none) ∧ wr=W0) (fun i _ => nc - (intOf i).toNat)
      case atStart => exact ⟨0,Nat.zero_le _,rfl,by rw [placedCode,List.append_nil];exact HNe,rfl⟩
      case round =>
       obtain ⟨m,hm,rfl,HNm,hw⟩:=hrel;obtain rfl:=hw.symm
       by_cases hlm:m < nc
       ·obtain ⟨x,hxx⟩:∃ x,q.code[m]?=some x:=⟨_,List.getElem?_eq_getElem (by rw [← HNC.out];exact hlm)⟩
        obtain ⟨b2,off2,av,rfl,hb2,_,e1,_⟩:=HCX.out m x hxx
        have d1:=(hk.out b2 (off2 + m * 4 + 1) hb2).trans e1
        have HP2:=hideI hxx
        have HSU:Hid (placedCode j q.code (m + 1)=placedCode j q.code m ++ placedInstr j m x):=by show _=_;rw [placedCode,hxx]
        obtain ⟨pid,hpid⟩:∃ pid,pid=x.id:=⟨_,rfl⟩
        rw [← hpid] at d1
        have HPID:=hideI hpid
        clear e1 hxx hpid
        have HNX:Hid (¬ (pid=id ∧ 0 ≤ id) → Placed.first (placedParams f.params.length ++ placedBlocks f.blocks j ++ (placedPhis j q.phis ++ placedCode j q.code (m + 1))) id=none):=by
         refine hideI (fun hno => ?_)
         rw [HSU.out,← List.append_assoc (placedPhis j q.phis),← List.append_assoc (placedParams f.params.length ++ placedBlocks f.blocks j)]
         unfold placedInstr
         rw [← HPID.out]
         by_cases h0:0 ≤ pid
         ·rw [if_pos h0]
          exact Placed.first_none_snoc HNm.out (fun e => hno ⟨e,by rw [← e];exact h0⟩)
         ·rw [if_neg h0,List.append_nil]
          exact HNm.out
        by_cases hid:pid=id
        ·by_cases h0:0 ≤ id
         ·exact absurd h1 (by omega)
         ·have HNN:=hideI (HNX.out (fun h => h0 h.2))
          subst hid
          go_wp2
          go_roundw
          case rel => exact ⟨m + 1,by omega,by go_num,HNN,by first | rfl | trivial⟩
          case measure => simp [intOf];omega
        ·have HNN:=hideI (HNX.out (fun h => hid h.1))
         have hib:(pid == id)=false:=beq_eq_false_iff_ne.2 hid
         clear hid
         go_wp2
         go_roundw
         case rel => exact ⟨m + 1,by omega,by go_num,HNN,by first | rfl | trivial⟩
         case measure => simp [intOf];omega
       ·have HNE:Hid (Placed.first (placedParams f.params.length ++ placedBlocks f.blocks (j + 1)) id=none):=by
         have h1:=HNm.out
         have h2:m=q.code.length:=by have:=HNC.out;omega
         rw [h2] at h1
         show _=_
         rw [placedBlocks,HQ.out,← List.append_assoc]
         exact h1
        go_wp2
        go_roundw
        case rel => exact ⟨j + 1,by omega,by go_num,HNE,by first | rfl | trivial⟩
        case measure => simp [intOf];omega
   ·have HNE:Hid ((placedM f).first id=none):=by
     have h1:=HN.out
     have h2:j=f.blocks.length:=by have:=HNB.out;omega
     rw [h2] at h1
     exact h1
    go_wp2
    go_ret3
    exact defPost_none HNE.out (by rw [HW0.out];exact HB0.out)
end Go.Proofs.YtkaifkjbmdcmlaaGreat

namespace Go.Proofs.YtkaifkjbmdcmlaaGreat
open Go.RowKit Go.Maps
set_option maxRecDepth 100000 in
set_option maxHeartbeats 2000000 in
theorem refPhis_any (q:BlockM) (ps:List Int) (B:Nat) (qpv qcv qtv v:Value) (op val n:Int) (w:World) (hp:PhisR w B qpv q.phis) (hv:Ints w B v ps) (hB:B ≤ w.heap.size) (hl:ps.length ≤ 512) (CA:Option Addr) (cl cc:Nat) (hcv:qcv=.slice CA cl cc) (TA:Option Addr) (tl tc:Nat) (htv:qtv=.slice TA tl tc) :
  Calls Tryz.prog 111 #[.agg #[qpv,qcv,.int .i64 op,.int .i64 val,qtv,.int .i64 n],v] w fun e w' => e=.returned (.bool (q.phis.all fun p => justR p.fr ps)) ∧ Below w.heap.size w w':=by
 subst hcv htv
 have HVI:=hideI hv
 obtain ⟨PA,pc2,rfl,hpm2,hpx⟩:=hp
 obtain ⟨VA,vc,rfl,hvm,_⟩:=hv
 have HPX:=hideI hpx
 obtain ⟨nq,hnq⟩:∃ nq,nq=q.phis.length:=⟨_,rfl⟩
 obtain ⟨lv,hlv⟩:∃ lv,lv=ps.length:=⟨_,rfl⟩
 have HNQ:=hideI hnq
 have HLV:=hideI hlv
 rw [← hnq] at hpm2 ⊢
 rw [← hlv] at hvm hl ⊢
 obtain ⟨W0,hW0⟩:∃ W0:World,W0=w.alloc (.cells #[.slice PA nq pc2,.slice CA cl cc,.int .i64 op,.int .i64 val,.slice TA tl tc,.int .i64 n] 51):=⟨_,rfl⟩
 have HB0:Hid (Below w.heap.size w W0):=by rw [hW0];exact hideI ((Below.refl _ _).alloc (Nat.le_refl _) _)
 have HX0:Hid (∀ o,W0.cell? ⟨w.heap.size,o,none⟩=(#[.slice PA nq pc2,.slice CA cl cc,.int .i64 op,.int .i64 val,.slice TA tl tc,.int .i64 n]:Array Value)[o]?):=by rw [hW0];exact hideI (row_cells (heap_alloc_new w _) rfl)
 have HK0:=hideI (Keeps.of_below (HB0.out.mono hB))
 have HW0:=hideI hW0
 clear hW0 hpx hnq hlv
 go_enter Tryz.func111,Tryz.ntmps111
 go_wp2
 rw [← HW0.out]
 go_loopw [5] (fun i wr => ∃ k m:Nat,k ≤ nq ∧ i=.int .i64 k ∧ Hid (∀ (j:Nat) (p:PhiM),j < k → q.phis[j]?=some p → justR p.fr ps=true) ∧ wr=W0.drewN m) (fun i _ => nq - (intOf i).toNat)
 case atStart => exact ⟨0,0,Nat.zero_le _,rfl,hideI (fun j p h => by omega),rfl⟩
 case round =>
  obtain ⟨k,m,hk,rfl,HA,hw⟩:=hrel
  have hx0:∀ o,wr.cell? ⟨w.heap.size,o,none⟩=(#[.slice PA nq pc2,.slice CA cl cc,.int .i64 op,.int .i64 val,.slice TA tl tc,.int .i64 n]:Array Value)[o]?:=by rw [hw];exact HX0.out
  have hks:Keeps B w wr:=by rw [hw];exact HK0.out
  have HW:=hideI hw
  by_cases hlt:k < nq
  ·obtain ⟨p,hp⟩:∃ p,q.phis[k]?=some p:=⟨_,List.getElem?_eq_getElem (by have:=HNQ.out;omega)⟩
   obtain ⟨b2,off2,fv,vv,rfl,hb2,e0,e1,e2,e3,hfv,hvv,_⟩:=HPX.out k p hp
   have HP:=hideI hp
   have HFV:=hideI hfv
   obtain ⟨FA,fc,rfl,hfm,_⟩:=hfv
   obtain ⟨nf,hnf⟩:∃ nf,nf=p.fr.length:=⟨_,rfl⟩
   have HNF:=hideI hnf
   rw [← hnf] at e2 hfm
   have HE2:=hideI e2
   have d2:=(hks b2 (off2 + k * 4 + 2) hb2).trans e2
   have HKS:=hideI hks
   clear e0 e1 e2 e3 hp hnf hw hks
   by_cases hlen:nf=lv
   ·have hlb:((nf:Int) != lv)=false:=by rw [hlen];simp
    have HLEN:=hideI hlen
    clear hlen
    go_wp2
    clear hx0 d2
    obtain ⟨wo,rfl⟩:∃ wo:World,wo=wr:=⟨_,rfl⟩
    go_loopw [6] (fun i wr => ∃ j m:Nat,j ≤ lv ∧ i=.int .i64 j ∧ Hid (∀ (i:Nat) (x:Int),i < j → ps[i]?=some x → x ∈ p.fr) ∧ wr=W0.drewN m) (fun i _ => lv - (intOf i).toNat)
    case atStart => exact ⟨0,m,Nat.zero_le _,rfl,hideI (fun j p h => by omega),HW.out⟩
    case round =>
     obtain ⟨j,m2,hj,rfl,HAj,hw⟩:=hrel
     have hx0:∀ o,wr.cell? ⟨w.heap.size,o,none⟩=(#[.slice (some ⟨b2,off2,none⟩) nq pc2,.slice CA cl cc,.int .i64 op,.int .i64 val,.slice TA tl tc,.int .i64 n]:Array Value)[o]?:=by rw [hw];exact HX0.out
     have hks:Keeps B w wr:=by rw [hw];exact HK0.out
     have HW2:=hideI hw
     clear hw
     by_cases hlj:j < lv
     ·obtain ⟨x,hx⟩:∃ x,ps[j]?=some x:=⟨_,List.getElem?_eq_getElem (by have:=HLV.out;omega)⟩
      have d2:=(hks b2 (off2 + k * 4 + 2) hb2).trans HE2.out
      obtain ⟨_,_,ev,_,hvx⟩:=HVI.out.keeps hks
      cases ev
      obtain ⟨vb,voff,rfl,hvb,v0⟩:=hvx j (by rw [← HLV.out];exact hlj)
      rw [hx] at v0
      simp only [Option.getD_some] at v0
      have HXX:=hideI hx
      have HH:Hid (∀ m,Calls Tryz.prog 36 #[.slice FA nf fc,.int .i64 x] (wr.drewN m) fun e w' => e=.returned (.bool (decide (x ∈ p.fr))) ∧ w'=wr.drewN m):=by
       refine hideI (fun m => ?_)
       have h1:=HFV.out.keeps (hks.trans (w2:=wr.drewN m) (Keeps.of_below (drew_below (Below.refl B wr) m)))
       rw [← HNF.out] at h1
       exact (has_any p.fr B _ x _ h1).mono fun _ _ ⟨a,b⟩ => ⟨a,b.symm⟩
      clear hvx hx hks
      cases hd:decide (x ∈ p.fr)
      ·rw [hd] at HH
       have HR:Hid ((q.phis.all fun p => justR p.fr ps)=false):=by
        refine hideI ?_
        rw [List.all_eq_false]
        refine ⟨p,List.mem_of_getElem? HP.out,?_⟩
        unfold justR
        rw [Bool.not_eq_true,Bool.and_eq_false_iff]
        exact .inr (List.all_eq_false.2 ⟨x,List.mem_of_getElem? HXX.out,by rw [hd];simp⟩)
       clear hd
       go_wp2
       go_quiet ((go_at_call 36;exact Calls.quiet_of_same (HH.out _)))
       go_wp2
       go_ret
       refine ⟨by rw [HR.out];rfl,drew_below ?_ _⟩
       rw [HW2.out]
       exact drew_below HB0.out _
      ·rw [hd] at HH
       have HA2:Hid (∀ (i:Nat) (x:Int),i < j + 1 → ps[i]?=some x → x ∈ p.fr):=by
        refine hideI (fun i y hi hy => ?_)
        rcases Nat.lt_or_ge i j with h | h
        ·exact HAj.out i y h hy
        ·have:i=j:=by omega
         subst this
         rw [HXX.out] at hy
         cases hy
         exact of_decide_eq_true hd
       clear hd
       go_wp2
       go_quiet ((go_at_call 36;exact Calls.quiet_of_same (HH.out _)))
       go_wp2
       go_roundw
       case rel => exact ⟨j + 1,m2 + _,by omega,by go_num,HA2,by rw [HW2.out,World.drewN_drewN]⟩
       case measure => simp [intOf];omega
     ·have HA2:Hid (∀ (j:Nat) (p:PhiM),j < k + 1 → q.phis[j]?=some p → justR p.fr ps=true):=by
       refine hideI (fun i y hi hy => ?_)
       rcases Nat.lt_or_ge i k with h | h
       ·exact HA.out i y h hy
       ·have:i=k:=by omega
        subst this
        rw [HP.out] at hy
        cases hy
        unfold justR
        rw [Bool.and_eq_true,beq_iff_eq,List.all_eq_true]
        refine ⟨by have:=HLEN.out;have:=HNF.out;have:=HLV.out;omega,fun z hz => ?_⟩
        obtain ⟨i,hi⟩:=List.getElem?_of_mem hz
        exact decide_eq_true (HAj.out i z (by have:=(List.getElem?_eq_some_iff.1 hi).1;have:=HLV.out;omega) hi)
      clear hx0 hks
      go_wp2
      go_roundw
      case rel => exact ⟨k + 1,m2,by omega,by go_num,HA2,HW2.out⟩
      case measure => simp [intOf];omega
   ·have hlb:((nf:Int) != lv)=true:=by simp;omega
    have HR:Hid ((q.phis.all fun p => justR p.fr ps)=false):=by
     refine hideI ?_
     rw [List.all_eq_false]
     refine ⟨p,List.mem_of_getElem? HP.out,?_⟩
     unfold justR
     rw [Bool.not_eq_true,Bool.and_eq_false_iff]
     exact .inl (beq_eq_false_iff_ne.2 (by rw [← HNF.out,← HLV.out];exact hlen))
    clear hlen
    go_wp2
    go_ret
    refine ⟨by rw [HR.out];rfl,?_⟩
    rw [HW.out]
    exact drew_below HB0.out _
  ·have HR:Hid ((q.phis.all fun p => justR p.fr ps)=true):=by
    refine hideI ?_
    rw [List.all_eq_true]
    intro p hp
    obtain ⟨j,hj⟩:=List.getElem?_of_mem hp
    exact HA.out j p (by have:=(List.getElem?_eq_some_iff.1 hj).1;have:=HNQ.out;omega) hj
   clear hks hw
   go_wp2
   go_ret
   refine ⟨by rw [HR.out];rfl,?_⟩
   rw [HW.out]
   exact drew_below HB0.out _
end Go.Proofs.YtkaifkjbmdcmlaaGreat

namespace Go.Proofs.YtkaifkjbmdcmlaaGreat
open Go.RowKit Go.Maps
theorem grid_over (bs:List BlockM) (o:List Nat):∃ G:Nat → Nat → Bool,∀ a b,G a b=true ↔ OverP bs o a b :=
 ⟨fun a b => @decide _ (Classical.propDecidable (OverP bs o a b)),fun _ _ => @decide_eq_true_iff _ (Classical.propDecidable _)⟩
theorem flat5:∀ (rows:List (List Int)),(∀ r ∈ rows,r.length=5) → ∀ (i j:Nat) (r:List Int),rows[i]?=some r → j < 5 → (rows.flatten.map (Value.int .i64))[i * 5 + j]?=some (.int .i64 (r.getD j 0))
 | [],_,i,j,r,h,_ => by simp at h
 | s :: rows,h5,0,j,r,h,hj => by
  simp at h
  subst h
  have h6:=h5 s (List.mem_cons_self ..)
  rw [List.flatten_cons,List.map_append,List.getElem?_append_left (by simp;omega),Nat.zero_mul,Nat.zero_add,List.getElem?_map,List.getD_eq_getElem?_getD,List.getElem?_eq_getElem (by omega)]
  rfl
 | s :: rows,h5,i + 1,j,r,h,hj => by
  have h6:=h5 s (List.mem_cons_self ..)
  rw [List.flatten_cons,List.map_append,List.getElem?_append_right (by simp;omega)]
  have e:(i + 1) * 5 + j - (s.map (Value.int .i64)).length=i * 5 + j:=by rw [List.length_map,h6];omega
  rw [e]
  exact flat5 rows (fun r hr => h5 r (List.mem_cons_of_mem _ hr)) i j r (by simpa using h) hj
theorem RU5.at {w:World} {base:Nat} {v:Value} {us:List (Int × Int)} {rows:List (List Int)} (h:RU5 w base v us rows):∃ A c,v=.slice A rows.length c ∧ ∀ (i:Nat) (r:List Int),rows[i]?=some r → ∃ g,A=some ⟨g,0,none⟩ ∧ g < w.heap.size ∧ ∀ j,j < 5 → w.cell? ⟨g,i * 5 + j,none⟩=some (.int .i64 (r.getD j 0)):=by
 obtain ⟨h1,h2,h3⟩:=h
 have hl:us.length=rows.length:=by rw [← h1,List.length_map]
 have h3':=h3
 rw [hl] at h3'
 rcases h3'.2 with ⟨rfl,h⟩ | ⟨g,cap,cur,rfl,_⟩
 ·have h0:rows.length=0:=by simpa using h
  refine ⟨none,0,by rw [h0],fun i r hr => ?_⟩
  have:=(List.getElem?_eq_some_iff.1 hr).1
  omega
 ·refine ⟨_,_,rfl,fun i r hr => ⟨g,rfl,(h3'.lt g rfl).2,fun j hj => ?_⟩⟩
  have hi:=(List.getElem?_eq_some_iff.1 hr).1
  rw [World.ownsRow.cellAt h3' (i * 5 + j) (by omega)]
  exact flat5 rows h2 i j r hr hj
theorem lists_ints {bs:List BlockM} {w w':World} {g gp:Nat} {vs:List Value} (h:Lists w g gp bs.length vs (predsAt bs bs.length bs.length 0)) (hb:Below w.heap.size w w') (hn5:bs.length ≤ 512) {b:Nat} (hb':b < bs.length) :
  ∃ v,w'.cell? ⟨gp,b,none⟩=some v ∧ Ints w' w'.heap.size v (predsI bs b):=by
 obtain ⟨v,hv⟩:∃ v,vs[b]?=some v:=⟨_,List.getElem?_eq_getElem (by rw [h.vl];exact hb')⟩
 have hl:(predsAt bs bs.length bs.length 0)[b]?=some (predsTo bs bs.length b):=by rw [predsAt_at hb'];simp
 have ho:=own_kept_below (h.own b v _ hv hl) hb (fun k hk => ((h.own b v _ hv hl).lt k hk).2)
 have hR:=own_kept_below h.row hb (fun k hk => (h.row.lt k hk).2)
 exact ⟨v,by rw [World.ownsRow.cellAt hR b (by omega)];exact hv,nat_ints ho (by have:=predsTo_len bs bs.length b;omega)⟩
set_option maxRecDepth 100000 in
set_option maxHeartbeats 2000000 in
theorem refStrict_no (f:FuncM) (B:Nat) (pv bv:Value) (w:World) (hpv:Ints w B pv f.params) (hbv:BlocksR w B bv f.blocks) (hB:B ≤ w.heap.size) (h0:(lookM f).1 ≠ 0) :
  Calls Tryz.prog 53 #[.agg #[pv,.int .i64 f.arrays,.int .i64 f.cells,bv]] w fun e w' => e=.returned (.tuple #[.int .i64 0,.int .i64 (lookM f).1]) ∧ Below w.heap.size w w':=by
 have HP:=hideI hpv
 have HBL:=hideI hbv
 obtain ⟨P,pc,rfl,_⟩:=hpv
 obtain ⟨A,c,rfl,_,_⟩:=hbv
 have hb:((lookM f).1 != 0)=true:=by simpa using h0
 have HB0:Hid (Below w.heap.size w (w.alloc (.cells #[.slice P f.params.length pc,.int .i64 f.arrays,.int .i64 f.cells,.slice A f.blocks.length c] 25))):=(Below.refl _ w).alloc (Nat.le_refl _) _
 clear h0
 go_enter Tryz.func53,Tryz.ntmps53
 go_wp2_with (go_at_call 38;go_must (refine (refCheck_any f B _ _ _ (HP.out.keeps (Keeps.of_below (HB0.out.mono hB))) (HBL.out.keeps (Keeps.of_below (HB0.out.mono hB))) (by simp;omega)).mono ?_);rintro e w1 ⟨rfl,hb1⟩;have HB1:=hideI (HB0.out.trans (hb1.mono (by simp)));clear hb1)
 go_ret2
 exact ⟨rfl,HB1.out⟩
set_option maxRecDepth 100000 in
set_option maxHeartbeats 16000000 in
theorem refStrict_yes (f:FuncM) (o:List Nat) (B:Nat) (pv bv:Value) (w:World) (hpv:Ints w B pv f.params) (hbv:BlocksR w B bv f.blocks) (hB:B ≤ w.heap.size) (hid:∀ u ∈ usesM f,I64 u.1) (h0:(lookM f).1=0) (ho:OrderIs f.blocks o) :
  Calls Tryz.prog 53 #[.agg #[pv,.int .i64 f.arrays,.int .i64 f.cells,bv]] w (FaultPost f.blocks.length (· ∈ o) (phisR f) (usesPR f o) w):=by
 have HP:=hideI hpv
 have HBL:=hideI hbv
 have H0:=hideI h0
 have HO:=hideI ho
 have hnb:=look_some_block h0
 have hn0:=hnb.1
 have hn5:=hnb.2
 have HIN:=hideI (look_ends h0)
 have HFEW:=hideI (look_few h0)
 have HFEWV:=hideI (look_fewv h0)
 have HFO:=hideI (look_form h0)
 have HPH:=hideI (look_phi h0)
 have HROW:=hideI (fun r => row_is h0 hid (r:=r))
 have HLF:=hideI (Placed.last_first (placed_nodup h0))
 obtain ⟨G,hG⟩:=grid_over f.blocks o
 have HG:=hideI hG
 obtain ⟨P,pc,rfl,hpm,_⟩:=hpv
 obtain ⟨A,c,rfl,hbm,_⟩:=hbv
 obtain ⟨W,hW⟩:∃ W:World,W=w.alloc (.cells #[.slice P f.params.length pc,.int .i64 f.arrays,.int .i64 f.cells,.slice A f.blocks.length c] 25):=⟨_,rfl⟩
 have HBW:Hid (Below w.heap.size w W):=by show Below _ _ _;rw [hW];exact (Below.refl _ _).alloc (Nat.le_refl _) _
 have HXW:Hid (W.heap[w.heap.size]?=some (.cells #[.slice P f.params.length pc,.int .i64 f.arrays,.int .i64 f.cells,.slice A f.blocks.length c] 25 (0,0))):=by show _=_;rw [hW];exact heap_alloc_new w _
 have hwW:w.heap.size < W.heap.size:=lt_of_heap HXW.out
 have HW0:=hideI hW
 have G0:Hid (∀ W2,Below W.heap.size W W2 → (∀ o,W2.cell? ⟨w.heap.size,o,none⟩=(#[.slice P f.params.length pc,.int .i64 f.arrays,.int .i64 f.cells,.slice A f.blocks.length c]:Array Value)[o]?) ∧ Ints W2 B (.slice P f.params.length pc) f.params ∧ BlocksR W2 B (.slice A f.blocks.length c) f.blocks ∧ B ≤ W2.heap.size ∧ Below w.heap.size w W2):=hideI (fun W2 h2 => by
  have h3:Below w.heap.size w W2:=HBW.out.trans (h2.mono HBW.out.size)
  exact ⟨row_cells HXW.out (h2.block _ hwW),HP.out.keeps (Keeps.of_below (h3.mono hB)),HBL.out.keeps (Keeps.of_below (h3.mono hB)),Nat.le_trans hB h3.size,h3⟩)
 obtain ⟨hx,_,_⟩:=G0.out W (Below.refl _ _)
 have q0:=hx 0
 have q1:=hx 1
 have q2:=hx 2
 have q3:=hx 3
 clear hid h0 ho hG hW hx hnb
 go_enter Tryz.func53,Tryz.ntmps53
 go_upto_region 1 with fail
 rw [← HW0.out]
 clear HW0
 go_wp2_with (first
  | (go_at_call 38;go_must (refine (refCheck_any f B _ _ _ (G0.out _ (Below.refl _ _)).2.1 (G0.out _ (Below.refl _ _)).2.2.1 (G0.out _ (Below.refl _ _)).2.2.2.1).mono ?_);rw [H0.out];rintro e w1 ⟨rfl,hb1⟩;have HB1:Hid (Below W.heap.size W w1):=hideI hb1;clear hb1 q0 q1 q2 q3;(obtain ⟨hx,_,_⟩:=G0.out _ HB1.out);have q0:=hx 0;have q1:=hx 1;have q2:=hx 2;have q3:=hx 3;clear hx)
  | (go_at_call 109;go_must (refine (refWithout_all f.blocks B _ _ _ _ (-1) _ (G0.out _ HB1.out).2.2.1 (G0.out _ HB1.out).2.2.2.1 hn0 hn5 HIN.out).mono ?_);rintro e w2 ⟨S0,gA,rfl,hS,hown,hb2⟩;have HS0:Hid (∀ x,x ∈ S0 ↔ x ∈ o):=hideI (fun x => (hS x).trans (HO.out.reach x).symm);have HOA:=hideI hown;have HB2:Hid (Below W.heap.size W w2):=hideI (HB1.out.trans (hb2.mono HB1.out.size));clear hS hown hb2 q0 q1 q2 q3;(obtain ⟨hx,_,_⟩:=G0.out _ HB2.out);have q0:=hx 0;have q1:=hx 1;have q2:=hx 2;have q3:=hx 3;clear hx))
 clear q0 q1 q2 q3
 go_loopw [6] (fun u wr => ∃ k:Nat,k ≤ f.blocks.length ∧ u=.int .i64 k ∧ Hid (∀ a,a < k → a ∈ o) ∧ wr=w2) (fun u _ => f.blocks.length - (intOf u).toNat)
 case atStart => exact ⟨0,Nat.zero_le _,rfl,hideI (fun a h => by omega),rfl⟩
 case round =>
  obtain ⟨k,hk,rfl,HAk,hw⟩:=hrel
  obtain rfl:=hw.symm
  by_cases hlt:k < f.blocks.length
  ·have c1:w2.cell? ⟨gA,k,none⟩=some (.bool (decide (k ∈ S0))):=by rw [World.ownsRow.cellAt HOA.out k (by omega),marks_at hlt]
   have HKO:Hid (k ∈ S0 ↔ k ∈ o):=hideI (HS0.out k)
   have HLT:=hideI hlt
   cases hd:decide (k ∈ S0)
   ·have HBAD:Hid (¬ (k ∈ o)):=hideI (fun h => of_decide_eq_false hd (HKO.out.2 h))
    rw [hd] at c1
    clear hd
    go_wp2
    go_ret2
    exact ⟨_,_,rfl,.inl ⟨k,⟨HLT.out,HBAD.out,HAk.out⟩,rfl⟩,(G0.out _ HB2.out).2.2.2.2⟩
   ·have HOK:Hid (k ∈ o):=hideI (HKO.out.1 (of_decide_eq_true hd))
    rw [hd] at c1
    clear hd
    go_wp2
    go_roundw
    case rel => exact ⟨k + 1,by omega,by go_num,hideI (upto_succ HAk.out HOK.out),by first | rfl | trivial⟩
    case measure => simp [intOf];omega
  ·have HALL:Hid (∀ b,b < f.blocks.length → b ∈ o):=hideI (fun b hb => HAk.out b (by omega))
   (obtain ⟨hx,_,_⟩:=G0.out _ HB2.out);have q0:=hx 0;have q1:=hx 1;have q2:=hx 2;have q3:=hx 3;clear hx
   go_wp2_with (go_at_call 110;go_must (refine (refPreds_any f.blocks B _ _ _ _ _ (G0.out _ HB2.out).2.2.1 (G0.out _ HB2.out).2.2.2.1 hn5 HIN.out).mono ?_);rintro e w3 ⟨gp,pvs,rfl,hls,hb3⟩;have HPL:=hideI hls;have HB3:Hid (Below W.heap.size W w3):=hideI (HB2.out.trans (hb3.mono HB2.out.size));clear hls hb3 q0 q1 q2 q3)
   have hgp:gp < w3.heap.size:=(HPL.out.lt).2
   go_loopw [8] (fun u wr => ∃ k:Nat,k ≤ f.blocks.length ∧ u=.int .i64 k ∧ Hid (∀ a,a < k → phisR f a) ∧ Hid (Below w3.heap.size w3 wr)) (fun u _ => f.blocks.length - (intOf u).toNat)
   case atStart => exact ⟨0,Nat.zero_le _,rfl,hideI (fun a h => by omega),hideI (Below.refl _ _)⟩
   case round =>
    obtain ⟨k,hk,rfl,HPk,HBr⟩:=hrel
    have HBWr:Hid (Below W.heap.size W wr):=hideI (HB3.out.trans (HBr.out.mono HB3.out.size))
    by_cases hlt:k < f.blocks.length
    ·obtain ⟨q,hq⟩:∃ q,f.blocks[k]?=some q:=⟨_,List.getElem?_eq_getElem hlt⟩
     have HLT:=hideI hlt
     have HGr:Hid (∀ W2,Below wr.heap.size wr W2 → Below W.heap.size W W2 ∧ Below w3.heap.size w3 W2):=hideI (fun W2 h2 => ⟨HBWr.out.trans (h2.mono HBWr.out.size),HBr.out.trans (h2.mono HBr.out.size)⟩)
     obtain ⟨A',c',e0,_,hbx⟩:=(G0.out _ HBWr.out).2.2.1
     cases e0
     have hBr:=(G0.out _ HBWr.out).2.2.2.1
     obtain ⟨b1,off,qpv,qcv,qtv,rfl,hb1,x0,x1,x2,x3,x4,x5,hqp,hqc,hqt,_⟩:=hbx k q hq
     obtain ⟨v,hv,hvi⟩:=lists_ints HPL.out HBr.out hn5 hlt
     have HXB:Hid (∀ W2,Below wr.heap.size wr W2 → W2.cell? ⟨b1,off + k * 6,none⟩=some qpv ∧ W2.cell? ⟨b1,off + k * 6 + 1,none⟩=some qcv ∧ W2.cell? ⟨b1,off + k * 6 + 2,none⟩=some (.int .i64 q.term.op) ∧ W2.cell? ⟨b1,off + k * 6 + 3,none⟩=some (.int .i64 q.term.val) ∧ W2.cell? ⟨b1,off + k * 6 + 4,none⟩=some qtv ∧ W2.cell? ⟨b1,off + k * 6 + 5,none⟩=some (.int .i64 q.term.n) ∧ W2.cell? ⟨gp,k,none⟩=some v):=hideI (fun W2 h2 => ⟨(h2.cell (p:=⟨b1,off + k * 6,none⟩) (by show b1 < _;omega)).trans x0,(h2.cell (p:=⟨b1,off + k * 6 + 1,none⟩) (by show b1 < _;omega)).trans x1,(h2.cell (p:=⟨b1,off + k * 6 + 2,none⟩) (by show b1 < _;omega)).trans x2,(h2.cell (p:=⟨b1,off + k * 6 + 3,none⟩) (by show b1 < _;omega)).trans x3,(h2.cell (p:=⟨b1,off + k * 6 + 4,none⟩) (by show b1 < _;omega)).trans x4,(h2.cell (p:=⟨b1,off + k * 6 + 5,none⟩) (by show b1 < _;omega)).trans x5,(h2.cell (p:=⟨gp,k,none⟩) (by show gp < _;have:=HBr.out.size;omega)).trans hv⟩)
     have HS:Hid (∀ W2,Below wr.heap.size wr W2 → (∀ o,W2.cell? ⟨w.heap.size,o,none⟩=(#[.slice P f.params.length pc,.int .i64 f.arrays,.int .i64 f.cells,.slice (some ⟨b1,off,none⟩) f.blocks.length c]:Array Value)[o]?) ∧ W2.cell? ⟨b1,off + k * 6,none⟩=some qpv ∧ W2.cell? ⟨b1,off + k * 6 + 1,none⟩=some qcv ∧ W2.cell? ⟨b1,off + k * 6 + 2,none⟩=some (.int .i64 q.term.op) ∧ W2.cell? ⟨b1,off + k * 6 + 3,none⟩=some (.int .i64 q.term.val) ∧ W2.cell? ⟨b1,off + k * 6 + 4,none⟩=some qtv ∧ W2.cell? ⟨b1,off + k * 6 + 5,none⟩=some (.int .i64 q.term.n) ∧ W2.cell? ⟨gp,k,none⟩=some v):=hideI (fun W2 h2 => ⟨(G0.out _ (HGr.out _ h2).1).1,HXB.out _ h2⟩)
     obtain ⟨CA,cc,hqc',_⟩:=hqc
     obtain ⟨TA,tc,hqt',_⟩:=hqt
     obtain ⟨PA,pc2,hqp',hqp2⟩:=hqp
     have HQP:=hideI (show PhisR wr B qpv q.phis from ⟨PA,pc2,hqp',hqp2⟩)
     have HVI:=hideI hvi
     obtain ⟨VA,vc,hv',_⟩:=hvi
     subst hqc' hqt' hqp' hv'
     have hc:∀ W2,Below wr.heap.size wr W2 → Calls Tryz.prog 111 #[.agg #[.slice PA q.phis.length pc2,.slice CA q.code.length cc,.int .i64 q.term.op,.int .i64 q.term.val,.slice TA q.term.to.length tc,.int .i64 q.term.n],.slice VA (predsI f.blocks k).length vc] W2 fun e w' => e=.returned (.bool (q.phis.all fun p => justR p.fr (predsI f.blocks k))) ∧ Below W2.heap.size W2 w':=fun W2 h2 =>
      refPhis_any q (predsI f.blocks k) W2.heap.size _ _ _ _ _ _ _ W2 (PhisR.more' (HQP.out.keeps (Keeps.of_below (h2.mono hBr))) (Nat.le_trans hBr h2.size)) ((HVI.out.keeps (Keeps.of_below h2)).more h2.size) (Nat.le_refl _) (Nat.le_trans (predsI_len _ _) hn5) _ _ _ rfl _ _ _ rfl
     obtain ⟨z,hz⟩:∃ z:Bool,z=q.phis.all fun p => justR p.fr (predsI f.blocks k):=⟨_,rfl⟩
     have HZ:Hid (z=true ↔ phisR f k):=hideI (by
      rw [hz,show (q.phis.all fun p => justR p.fr (predsI f.blocks k))=phisFitR f.blocks k q from rfl,phisFitR_eq H0.out hq]
      exact ⟨fun e q' hq' => by rw [hq] at hq';cases hq';exact e,fun h => h q hq⟩)
     rw [← hz] at hc
     have HC:=hideI hc
     (obtain ⟨hx,d0,d1,d2,d3,d4,d5,d6⟩:=HS.out _ (Below.refl _ _));have q3:=hx 3
     clear hz hc hq hbx x0 x1 x2 x3 x4 x5 hv hqp2
     cases z
     ·have HBAD:Hid (¬ phisR f k):=hideI (fun h => Bool.noConfusion (HZ.out.2 h))
      go_wp2
      go_region_held3 (fun W2 => (∀ o,W2.cell? ⟨w.heap.size,o,none⟩=(#[.slice P f.params.length pc,.int .i64 f.arrays,.int .i64 f.cells,.slice (some ⟨b1,off,none⟩) f.blocks.length c]:Array Value)[o]?) ∧ W2.cell? ⟨b1,off + k * 6,none⟩=some (.slice PA q.phis.length pc2) ∧ W2.cell? ⟨b1,off + k * 6 + 1,none⟩=some (.slice CA q.code.length cc) ∧ W2.cell? ⟨b1,off + k * 6 + 2,none⟩=some (.int .i64 q.term.op) ∧ W2.cell? ⟨b1,off + k * 6 + 3,none⟩=some (.int .i64 q.term.val) ∧ W2.cell? ⟨b1,off + k * 6 + 4,none⟩=some (.slice TA q.term.to.length tc) ∧ W2.cell? ⟨b1,off + k * 6 + 5,none⟩=some (.int .i64 q.term.n) ∧ W2.cell? ⟨gp,k,none⟩=some (.slice VA (predsI f.blocks k).length vc)) (first | (with_reducible exact HS.out _ hfb4) | go_keep)
       (first
        | (go_at_call 111;(with_reducible refine (HC.out _ (drew1_below (Below.refl _ _))).mono ?_);rintro e w4 ⟨rfl,hb4⟩;have hfb4:=(drew1_below (Below.refl wr.heap.size wr)).trans hb4))
      go_wp2
      go_ret2
      exact ⟨_,_,rfl,.inr (.inl ⟨HALL.out,k,⟨HLT.out,HBAD.out,HPk.out⟩,rfl⟩),(G0.out _ (HGr.out _ hfb4).1).2.2.2.2⟩
     ·have HOK:Hid (phisR f k):=hideI (HZ.out.1 rfl)
      go_wp2
      go_region_held3 (fun W2 => (∀ o,W2.cell? ⟨w.heap.size,o,none⟩=(#[.slice P f.params.length pc,.int .i64 f.arrays,.int .i64 f.cells,.slice (some ⟨b1,off,none⟩) f.blocks.length c]:Array Value)[o]?) ∧ W2.cell? ⟨b1,off + k * 6,none⟩=some (.slice PA q.phis.length pc2) ∧ W2.cell? ⟨b1,off + k * 6 + 1,none⟩=some (.slice CA q.code.length cc) ∧ W2.cell? ⟨b1,off + k * 6 + 2,none⟩=some (.int .i64 q.term.op) ∧ W2.cell? ⟨b1,off + k * 6 + 3,none⟩=some (.int .i64 q.term.val) ∧ W2.cell? ⟨b1,off + k * 6 + 4,none⟩=some (.slice TA q.term.to.length tc) ∧ W2.cell? ⟨b1,off + k * 6 + 5,none⟩=some (.int .i64 q.term.n) ∧ W2.cell? ⟨gp,k,none⟩=some (.slice VA (predsI f.blocks k).length vc)) (first | (with_reducible exact HS.out _ hfb4) | go_keep)
       (first
        | (go_at_call 111;(with_reducible refine (HC.out _ (drew1_below (Below.refl _ _))).mono ?_);rintro e w4 ⟨rfl,hb4⟩;have hfb4:=(drew1_below (Below.refl wr.heap.size wr)).trans hb4))
      go_wp2
      go_roundw
      case rel => exact ⟨k + 1,by omega,by go_num,hideI (upto_succ HPk.out HOK.out),hideI (HGr.out _ hfb4).2⟩
      case measure => simp [intOf];omega
    ·have HPALL:Hid (∀ b,b < f.blocks.length → phisR f b):=hideI (fun b hb => HPk.out b (by omega))
     (obtain ⟨hx,_,_⟩:=G0.out _ HBWr.out);have q0:=hx 0;have q1:=hx 1;have q2:=hx 2;have q3:=hx 3;clear hx
     obtain ⟨rs,hrs⟩:∃ rs,rs=rowsTo f.blocks f.blocks.length:=⟨_,rfl⟩
     have HRS:=hideI hrs
     clear hrs
     go_wp2_with (first
      | (go_at_call 112;go_must (refine (refOver_any f.blocks o G B _ _ _ _ _ (G0.out _ HBWr.out).2.2.1 (G0.out _ HBWr.out).2.2.2.1 hn0 hn5 HIN.out HO.out HG.out).mono ?_);rintro e w5 ⟨gvv,rfl,hgr,hb5⟩;(obtain ⟨gv,gc,rfl,hgv⟩:=id hgr);have HGR:=hideI hgr;have HB5:Hid (Below W.heap.size W w5):=hideI (HBWr.out.trans (hb5.mono HBWr.out.size));clear hgr hb5 hgv q0 q1 q2 q3;(obtain ⟨hx,_,_⟩:=G0.out _ HB5.out);have q0:=hx 0;have q1:=hx 1;have q2:=hx 2;have q3:=hx 3;clear hx)
      | (go_at_call 35;go_must (refine (refUses5_any f.blocks B _ _ _ _ _ (G0.out _ HB5.out).2.2.1 (G0.out _ HB5.out).2.2.2.1 HFEW.out hn5 HFO.out HPH.out).mono ?_);rintro e w6 ⟨v6,rfl,hru,hb6⟩;rw [← HRS.out] at hru;(obtain ⟨A6,c6,rfl,hat⟩:=RU5.at hru);have HAT:=hideI hat;have hrl:rs.length ≤ 3000000:=(by rw [show rs.length=(f.blocks.flatMap usesBlock).length by rw [← hru.1,List.length_map]];exact HFEW.out);have HGR6:=hideI (HGR.out.kept hb6);have HB6:Hid (Below W.heap.size W w6):=hideI (HB5.out.trans (hb6.mono HB5.out.size));clear hru hat hb6 q0 q1 q2 q3))
     go_loopw [11] (fun u wr => ∃ i:Nat,i ≤ rs.length ∧ u=.int .i64 i ∧ Hid (∀ (j:Nat) (s:List Int),j < i → rs[j]?=some s → okRow f o s) ∧ Hid (Below w6.heap.size w6 wr)) (fun u _ => rs.length - (intOf u).toNat)
     case atStart => exact ⟨0,Nat.zero_le _,rfl,hideI (fun j s h => by omega),hideI (Below.refl _ _)⟩
     case round =>
      obtain ⟨i,hi,rfl,HRi,HBr6⟩:=hrel
      by_cases hlt:i < rs.length
      ·obtain ⟨r,hr⟩:∃ r,rs[i]?=some r:=⟨_,List.getElem?_eq_getElem hlt⟩
       have HR:=hideI hr
       have HB6r:Hid (Below W.heap.size W wr):=hideI (HB6.out.trans (HBr6.out.mono HB6.out.size))
       obtain ⟨g6,rfl,hg6,hcell⟩:=HAT.out i r hr
       have hri:=HROW.out r (by rw [← HRS.out];exact List.mem_of_getElem? hr)
       obtain ⟨hi64,mb,ma,hlast,hmb⟩:=hri.known
       obtain ⟨bn,hbn,hbl⟩:=hri.blk
       obtain ⟨fn,hfn,hfl⟩:=hri.frm
       have HOKR:Hid (okRow f o r ↔ if r.getD 3 0 < 0 then OverP f.blocks o mb fn else if mb=bn then ma < r.getD 3 0 else OverP f.blocks o mb bn):=hideI (by
        unfold okRow
        rw [hbn,hfn]
        simp only [Int.toNat_natCast]
        constructor
        ·intro h
         have h2:=h (mb,ma) hlast
         by_cases hc:mb=bn
         ·subst hc
          simpa using h2
         ·have hc2:¬ ((mb:Int)=(bn:Int)):=by omega
          simpa [hc,hc2] using h2
        ·intro h m hm
         rw [hlast] at hm
         cases hm
         by_cases hc:mb=bn
         ·subst hc
          simpa using h
         ·have hc2:¬ ((mb:Int)=(bn:Int)):=by omega
          simpa [hc,hc2] using h)
       have HFIRST:Hid ((placedM f).first (r.getD 0 0)=some (mb,ma)):=hideI (by rw [← HLF.out];exact hlast)
       have e0:=(HBr6.out.cell (p:=⟨g6,i * 5 + 0,none⟩) hg6).trans (hcell 0 (by decide))
       have e1:=(HBr6.out.cell (p:=⟨g6,i * 5 + 1,none⟩) hg6).trans (hcell 1 (by decide))
       have e2:=(HBr6.out.cell (p:=⟨g6,i * 5 + 2,none⟩) hg6).trans (hcell 2 (by decide))
       have e3:=(HBr6.out.cell (p:=⟨g6,i * 5 + 3,none⟩) hg6).trans (hcell 3 (by decide))
       have e4:=(HBr6.out.cell (p:=⟨g6,i * 5 + 4,none⟩) hg6).trans (hcell 4 (by decide))
       rw [hbn] at e2
       rw [hfn] at e4
       rw [Nat.add_zero] at e0
       obtain ⟨id,hid⟩:∃ id,id=r.getD 0 0:=⟨_,rfl⟩
       obtain ⟨ty,hty⟩:∃ ty,ty=r.getD 1 0:=⟨_,rfl⟩
       obtain ⟨a,ha⟩:∃ a,a=r.getD 3 0:=⟨_,rfl⟩
       rw [← hid] at e0 HFIRST
       rw [← hty] at e1
       rw [← ha] at e3 HOKR
       have HHB:Hid (r.getD 2 0=(bn:Int)):=hideI hbn
       obtain ⟨W7,hW7⟩:∃ W7:World,W7=wr.alloc (.cells #[.int .i64 id,.int .i64 ty,.int .i64 bn,.int .i64 a,.int .i64 fn] 67):=⟨_,rfl⟩
       have HW7:=hideI hW7
       have HB7:Hid (Below wr.heap.size wr W7):=by show Below _ _ _;rw [hW7];exact (Below.refl _ _).alloc (Nat.le_refl _) _
       have HX7:Hid (W7.heap[wr.heap.size]?=some (.cells #[.int .i64 id,.int .i64 ty,.int .i64 bn,.int .i64 a,.int .i64 fn] 67 (0,0))):=by show _=_;rw [hW7];exact heap_alloc_new wr _
       have hw7:=lt_of_heap HX7.out
       have HG7:Hid (∀ W2,Below W7.heap.size W7 W2 → Below W.heap.size W W2 ∧ Below w6.heap.size w6 W2):=hideI (fun W2 h2 => by
        have h3:=HB7.out.trans (h2.mono HB7.out.size)
        exact ⟨HB6r.out.trans (h3.mono HB6r.out.size),HBr6.out.trans (h3.mono HBr6.out.size)⟩)
       have HDEF:Hid (Calls Tryz.prog 113 #[.agg #[.slice P f.params.length pc,.int .i64 f.arrays,.int .i64 f.cells,.slice A f.blocks.length c],.int .i64 id] W7 fun e w' => e=.returned (.tuple #[.int .i64 (mb:Int),.int .i64 ma,.bool true]) ∧ Below W7.heap.size W7 w'):=hideI (by
        have hg:=G0.out _ (HG7.out _ (Below.refl _ _)).1
        refine (refDef_any f B _ _ id _ hg.2.1 hg.2.2.1 hg.2.2.2.1 HFEWV.out hn5).mono ?_
        rintro e w' ⟨⟨v,hv,rfl⟩ | ⟨hbad,_⟩,hb⟩
        ·rw [HFIRST.out] at hv
         cases hv
         exact ⟨rfl,hb⟩
        ·rw [HFIRST.out] at hbad
         cases hbad)
       have HGRD:Hid (∀ W2,Below W7.heap.size W7 W2 → ∃ ga,W2.cell? ⟨gv,mb,none⟩=some (.slice (some ⟨ga,0,none⟩) f.blocks.length f.blocks.length) ∧ W2.cell? ⟨ga,bn,none⟩=some (.bool (G mb bn)) ∧ W2.cell? ⟨ga,fn,none⟩=some (.bool (G mb fn))):=hideI (fun W2 h2 => by
        obtain ⟨gv2,c2,e,_,h4⟩:=HGR6.out.kept (HG7.out _ h2).2
        cases e
        obtain ⟨ga,_,h5,h6⟩:=h4 mb hmb
        exact ⟨ga,h5,h6 bn hbl,h6 fn hfl⟩)
       (obtain ⟨hx,_,_⟩:=G0.out _ HB6r.out);have q0:=hx 0;have q1:=hx 1;have q2:=hx 2;have q3:=hx 3;clear hx
       have hl0:w.heap.size < wr.heap.size:=by have:=HB6r.out.size;omega
       have hl6:g6 < wr.heap.size:=by have:=HBr6.out.size;omega
       clear hW7 hcell hi64 hlast hri hr hbn hfn hid hty ha
       by_cases hna:a < 0
       ·obtain ⟨z,hz⟩:∃ z:Bool,z=G mb fn:=⟨_,rfl⟩
        have HZ:Hid (z=true ↔ okRow f o r):=hideI (by rw [HOKR.out,if_pos hna,hz];exact HG.out mb fn)
        rw [← hz] at HGRD
        clear hz HOKR
        cases z
        ·have HBAD:Hid (¬ okRow f o r):=hideI (fun h => Bool.noConfusion (HZ.out.2 h))
         go_wp2_with (go_at_call 113;(go_must (rw [← HW7.out]));go_must (refine HDEF.out.mono ?_);rintro e w8 ⟨rfl,hb8⟩;(obtain ⟨ga,k1,k2,k3⟩:=HGRD.out _ hb8);(have hy:=row_cells HX7.out (hb8.block _ hw7));have y0:=hy 0;have y1:=hy 1;have y2:=hy 2;have y3:=hy 3;have y4:=hy 4;have HB8:=hideI hb8;clear hb8 hy q0 q1 q2 q3 e0 e1 e2 e3 e4)
         go_quiet (fail)
         go_wp2
         go_quiet (fail)
         go_wp2
         go_ret2
         obtain ⟨bx,hbx1,hbx2⟩:=rows_bad H0.out HALL.out (by rw [← HRS.out];exact HR.out) (fun j s hj hs => HRi.out j s hj (by rw [HRS.out];exact hs)) HBAD.out
         rw [HHB.out] at hbx2
         exact ⟨_,_,rfl,.inr (.inr (.inl ⟨HALL.out,HPALL.out,bx,hbx1,by rw [hbx2]⟩)),(G0.out _ (HG7.out _ (drew_below HB8.out _)).1).2.2.2.2⟩
        ·have HOK:Hid (okRow f o r):=hideI (HZ.out.1 rfl)
         go_wp2_with (go_at_call 113;(go_must (rw [← HW7.out]));go_must (refine HDEF.out.mono ?_);rintro e w8 ⟨rfl,hb8⟩;(obtain ⟨ga,k1,k2,k3⟩:=HGRD.out _ hb8);(have hy:=row_cells HX7.out (hb8.block _ hw7));have y0:=hy 0;have y1:=hy 1;have y2:=hy 2;have y3:=hy 3;have y4:=hy 4;have HB8:=hideI hb8;clear hb8 hy q0 q1 q2 q3 e0 e1 e2 e3 e4)
         go_quiet (fail)
         go_wp2
         go_quiet (fail)
         go_wp2
         go_roundw
         case rel =>
          refine ⟨i + 1,by omega,by go_num,hideI (fun j s hj hs => ?_),hideI (HG7.out _ (drew_below HB8.out _)).2⟩
          rcases Nat.lt_or_ge j i with h | h
          ·exact HRi.out j s h hs
          ·have:j=i:=by omega
           subst this
           rw [HR.out] at hs
           cases hs
           exact HOK.out
         case measure => simp [intOf];omega
       ·by_cases hmm:mb=bn
        ·subst hmm
         obtain ⟨z,hz⟩:∃ z:Bool,z=decide (ma < a):=⟨_,rfl⟩
         have HZ:Hid (z=true ↔ okRow f o r):=hideI (by rw [HOKR.out,if_neg hna,if_pos rfl,hz,decide_eq_true_iff])
         clear HOKR
         by_cases hlm:ma < a
         ·have HOK:Hid (okRow f o r):=hideI (HZ.out.1 (by rw [hz];exact decide_eq_true hlm))
          clear HZ hz
          go_wp2_with (go_at_call 113;(go_must (rw [← HW7.out]));go_must (refine HDEF.out.mono ?_);rintro e w8 ⟨rfl,hb8⟩;(obtain ⟨ga,k1,k2,k3⟩:=HGRD.out _ hb8);(have hy:=row_cells HX7.out (hb8.block _ hw7));have y0:=hy 0;have y1:=hy 1;have y2:=hy 2;have y3:=hy 3;have y4:=hy 4;have HB8:=hideI hb8;clear hb8 hy q0 q1 q2 q3 e0 e1 e2 e3 e4)
          go_quiet (fail)
          go_wp2
          go_roundw
          case rel =>
           refine ⟨i + 1,by omega,by go_num,hideI (fun j s hj hs => ?_),hideI (HG7.out _ (drew_below HB8.out _)).2⟩
           rcases Nat.lt_or_ge j i with h | h
           ·exact HRi.out j s h hs
           ·have:j=i:=by omega
            subst this
            rw [HR.out] at hs
            cases hs
            exact HOK.out
          case measure => simp [intOf];omega
         ·have HBAD:Hid (¬ okRow f o r):=hideI (fun h => by have:=HZ.out.2 h;rw [hz] at this;exact hlm (of_decide_eq_true this))
          have hnd:(!decide (ma < a))=true:=by rw [decide_eq_false hlm];rfl
          clear HZ hz
          go_wp2_with (go_at_call 113;(go_must (rw [← HW7.out]));go_must (refine HDEF.out.mono ?_);rintro e w8 ⟨rfl,hb8⟩;(obtain ⟨ga,k1,k2,k3⟩:=HGRD.out _ hb8);(have hy:=row_cells HX7.out (hb8.block _ hw7));have y0:=hy 0;have y1:=hy 1;have y2:=hy 2;have y3:=hy 3;have y4:=hy 4;have HB8:=hideI hb8;clear hb8 hy q0 q1 q2 q3 e0 e1 e2 e3 e4)
          go_quiet (fail)
          go_wp2
          go_ret2
          obtain ⟨bx,hbx1,hbx2⟩:=rows_bad H0.out HALL.out (by rw [← HRS.out];exact HR.out) (fun j s hj hs => HRi.out j s hj (by rw [HRS.out];exact hs)) HBAD.out
          rw [HHB.out] at hbx2
          exact ⟨_,_,rfl,.inr (.inr (.inl ⟨HALL.out,HPALL.out,bx,hbx1,by rw [hbx2]⟩)),(G0.out _ (HG7.out _ (drew_below HB8.out _)).1).2.2.2.2⟩
        ·obtain ⟨z,hz⟩:∃ z:Bool,z=G mb bn:=⟨_,rfl⟩
         have HZ:Hid (z=true ↔ okRow f o r):=hideI (by rw [HOKR.out,if_neg hna,if_neg hmm,hz];exact HG.out mb bn)
         have hmb2:((mb:Int) == (bn:Int))=false:=beq_eq_false_iff_ne.2 (by omega)
         rw [← hz] at HGRD
         clear hz HOKR hmm
         cases z
         ·have HBAD:Hid (¬ okRow f o r):=hideI (fun h => Bool.noConfusion (HZ.out.2 h))
          go_wp2_with (go_at_call 113;(go_must (rw [← HW7.out]));go_must (refine HDEF.out.mono ?_);rintro e w8 ⟨rfl,hb8⟩;(obtain ⟨ga,k1,k2,k3⟩:=HGRD.out _ hb8);(have hy:=row_cells HX7.out (hb8.block _ hw7));have y0:=hy 0;have y1:=hy 1;have y2:=hy 2;have y3:=hy 3;have y4:=hy 4;have HB8:=hideI hb8;clear hb8 hy q0 q1 q2 q3 e0 e1 e2 e3 e4)
          go_quiet (fail)
          go_wp2
          go_ret2
          obtain ⟨bx,hbx1,hbx2⟩:=rows_bad H0.out HALL.out (by rw [← HRS.out];exact HR.out) (fun j s hj hs => HRi.out j s hj (by rw [HRS.out];exact hs)) HBAD.out
          rw [HHB.out] at hbx2
          exact ⟨_,_,rfl,.inr (.inr (.inl ⟨HALL.out,HPALL.out,bx,hbx1,by rw [hbx2]⟩)),(G0.out _ (HG7.out _ (drew_below HB8.out _)).1).2.2.2.2⟩
         ·have HOK:Hid (okRow f o r):=hideI (HZ.out.1 rfl)
          go_wp2_with (go_at_call 113;(go_must (rw [← HW7.out]));go_must (refine HDEF.out.mono ?_);rintro e w8 ⟨rfl,hb8⟩;(obtain ⟨ga,k1,k2,k3⟩:=HGRD.out _ hb8);(have hy:=row_cells HX7.out (hb8.block _ hw7));have y0:=hy 0;have y1:=hy 1;have y2:=hy 2;have y3:=hy 3;have y4:=hy 4;have HB8:=hideI hb8;clear hb8 hy q0 q1 q2 q3 e0 e1 e2 e3 e4)
          go_quiet (fail)
          go_wp2
          go_roundw
          case rel =>
           refine ⟨i + 1,by omega,by go_num,hideI (fun j s hj hs => ?_),hideI (HG7.out _ (drew_below HB8.out _)).2⟩
           rcases Nat.lt_or_ge j i with h | h
           ·exact HRi.out j s h hs
           ·have:j=i:=by omega
            subst this
            rw [HR.out] at hs
            cases hs
            exact HOK.out
          case measure => simp [intOf];omega
      ·have HEND:Hid (∀ b,b < f.blocks.length → usesPR f o b):=hideI (rows_good H0.out HALL.out (fun s hs => by
        rw [← HRS.out] at hs
        obtain ⟨j,hj⟩:=List.getElem?_of_mem hs
        exact HRi.out j s (by have:=(List.getElem?_eq_some_iff.1 hj).1;omega) hj))
       have HBe:=hideI (G0.out _ (HB6.out.trans (HBr6.out.mono HB6.out.size))).2.2.2.2
       go_wp2
       go_ret2
       exact ⟨_,_,rfl,.inr (.inr (.inr ⟨HALL.out,HPALL.out,HEND.out,rfl⟩)),HBe.out⟩
end Go.Proofs.YtkaifkjbmdcmlaaGreat
