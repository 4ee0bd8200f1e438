/- What InterpSplits rests on, part 15: ITakeA, IRunAny, IKeep, RPreds, ITrace, ISame, IEndM, IRuns, IOpen, Env. -/
import Derived.Test.YtkaifkjbmdcmlaaGreatPkInterpSplits14
import Derived.Deep.RegionHeldLaw
import Derived.Deep.QuietTactic
import Derived.BigQuiet
import Derived.Deep.RegionHeld3

namespace Go.Proofs.YtkaifkjbmdcmlaaGreat
open Go.RowKit Go.Maps
def ArrsR (w:World) (B:Nat) (v:Value) (xs:List (List Int)):Prop :=
 ∃ A c,v=.slice A xs.length c ∧ xs.length ≤ 140737488351232 ∧ ∀ k l,xs[k]?=some l → ∃ b off lv,A=some ⟨b,off,none⟩ ∧ b < B ∧ w.cell? ⟨b,off + k,none⟩=some lv ∧ Ints w B lv l ∧ ∀ A2 n2 c2,lv=.slice A2 n2 c2 → n2 ≤ c2
def arrsAt (xs:List (List Int)) (na i:Nat):List (List Int):=(List.range na).map fun j => if j < i then (xs.getD j []).take 4096 else []
theorem arrsAt_zero (xs:List (List Int)) (na:Nat):arrsAt xs na 0=List.replicate na []:=by
 unfold arrsAt
 apply List.ext_getElem?
 intro k
 by_cases hk:k < na <;> simp [hk]
theorem arrsAt_len (xs:List (List Int)) (na i:Nat):(arrsAt xs na i).length=na:=by simp [arrsAt]
theorem arrsAt_next {xs:List (List Int)} {na i:Nat} {l:List Int} (hi:xs[i]?=some l) (hn:i < na):(arrsAt xs na i).set i (l.take 4096)=arrsAt xs na (i + 1):=by
 unfold arrsAt
 apply List.ext_getElem?
 intro k
 rw [List.getElem?_set]
 by_cases e:i=k
 ·subst e
  rw [if_pos rfl,if_pos (by simpa using hn),List.getElem?_map,List.getElem?_range hn]
  simp only [Option.map_some]
  rw [if_pos (by omega),List.getD_eq_getElem?_getD,hi]
  rfl
 ·rw [if_neg e]
  by_cases hk:k < na
  ·simp only [List.getElem?_map,List.getElem?_range hk,Option.map_some]
   congr 1
   by_cases h1:k < i
   ·rw [if_pos h1,if_pos (by omega)]
   ·rw [if_neg h1,if_neg (by omega)]
  ·simp [hk]
theorem arrsAt_all (f:FuncM) (I:InM) {n:Nat} (hn:n=min f.arrays.toNat I.arrs.length):arrsAt I.arrs f.arrays.toNat n=(startS f I).arrs:=by
 unfold arrsAt startS
 apply List.ext_getElem?
 intro k
 by_cases hk:k < f.arrays.toNat
 ·simp only [List.getElem?_map,List.getElem?_range hk,Option.map_some]
  congr 1
  by_cases h1:k < n
  ·rw [if_pos h1]
  ·rw [if_neg h1,List.getD_eq_getElem?_getD,List.getElem?_eq_none (by omega)]
   rfl
 ·simp [hk]
section
variable {c:MachC} {K:Nat → Prop} {w w1:World} {val:MVals} {s:StM}
theorem MachR.takeArr (h:MachR c K w val s) {i:Nat} (hi:i < s.arrs.length) {ga ca:Nat} (hga:val .arrs=.slice (some ⟨ga,0,none⟩) s.arrs.length ca) {v:Value} {l:List Int} (hb:Below w.heap.size w w1) (hown:w1.ownsRow 0 3 1 v l.length (l.map (Value.int .i64))) (hnew:∀ g,v.ownBlock=some g → w.heap.size ≤ g) :
  ∃ val',val' .arrs=val .arrs ∧ MachR c K (w1.setCell ⟨ga,i,none⟩ v) val' { s with arrs:=s.arrs.set i l } ∧ KF K w (w1.setCell ⟨ga,i,none⟩ v):=by
 have hra:mRow s c.nv val .arrs=some ⟨22,s.arrs.length,(List.range s.arrs.length).map fun j => val (.arr j)⟩:=rfl
 have hoa:(val .arrs).ownBlock=some ga:=by rw [hga];rfl
 have hoff:=h.off .arrs _ ga hra hoa
 have hgl:=h.own_lt hra hoa
 have hml:=h.m_lt
 have hk:KF K w (w1.setCell ⟨ga,i,none⟩ v):=(KF.of_below hb h.low).setCell hoff.2 v
 have hrow1:w1.ownsRow 0 22 1 (.slice (some ⟨ga,0,none⟩) s.arrs.length ca) s.arrs.length ((List.range s.arrs.length).map fun j => val (.arr j)):=by
  rw [← hga]
  exact owns_kept (h.rows _ _ hra) fun g hg => hb.block g (h.own_lt hra hg)
 have hst:=World.ownsRow.stored hrow1 i v
 refine ⟨fun t => if t=.arr i then v else val t,by simp,h.remake (.arr i) hk ?_ (fun t d ht => ?_) (fun t d g ht e => ?_),hk⟩
 ·rw [Below.heap_setCell _ _ _ _ (fun e => hoff.1 e.symm),hb.block _ hml,h.blk]
  congr 2
 ·have old:∀ t' d',t' ≠ .arrs → mRow s c.nv val t'=some d' → (w1.setCell ⟨ga,i,none⟩ v).ownsRow 0 d'.elem 1 (val t') d'.len d'.cells:=fun t' d' hne ht' => by
   refine owns_kept (h.rows t' d' ht') fun g hg => ?_
   rw [Below.heap_setCell _ _ _ _ (fun e => hne (h.apart t' .arrs d' _ g ht' hra hg (by rw [hoa,e])))]
   exact hb.block g (h.own_lt ht' hg)
  cases t with
  | arr j =>
   by_cases e:j=i
   ·subst e
    simp only [mRow,List.getElem?_set_self hi,Option.map_some,Option.some.injEq] at ht
    subst ht
    rw [if_pos rfl]
    have hne:v.ownBlock ≠ some ga:=fun e2 => by have:=hnew ga e2;omega
    have e3:intRow l=⟨3,l.length,l.map (Value.int .i64)⟩:=rfl
    rw [e3]
    exact ownsRow_setCell_other hown hne v
   ·have hne:(MTag.arr j) ≠ .arr i:=fun e2 => e (by injection e2)
    rw [if_neg hne]
    refine old (.arr j) d (by simp) ?_
    simp only [mRow] at ht ⊢
    rw [List.getElem?_set_ne (fun e2 => e e2.symm)] at ht
    exact ht
  | arrs =>
   injection ht with ht
   subst ht
   rw [if_neg (by simp)]
   have e1:((List.range (s.arrs.set i l).length).map fun j => (if MTag.arr j=.arr i then v else val (.arr j)))=((List.range s.arrs.length).map fun j => val (.arr j)).set i v:=by
    rw [List.length_set]
    apply List.ext_getElem?
    intro k
    rw [List.getElem?_set]
    by_cases e:i=k
    ·subst e
     rw [if_pos rfl,if_pos (by simpa using hi),List.getElem?_map,List.getElem?_range hi]
     simp
    ·rw [if_neg e]
     by_cases hk:k < s.arrs.length
     ·simp only [List.getElem?_map,List.getElem?_range hk,Option.map_some]
      rw [if_neg (fun e2 => e (by injection e2 with e2;exact e2.symm))]
     ·simp [hk]
   simp only at e1 ⊢
   rw [e1,hga,List.length_set]
   exact hst.1
  | vals => exact old .vals d (by simp) ht
  | cells => exact old .cells d (by simp) ht
  | vis => exact old .vis d (by simp) ht
  | out => exact old .out d (by simp) ht
 ·cases t with
  | arr j =>
   by_cases e2:j=i
   ·subst e2
    rw [if_pos rfl] at e
    exact .inr ⟨rfl,hnew g e⟩
   ·have hne:(MTag.arr j) ≠ .arr i:=fun e3 => e2 (by injection e3)
    rw [if_neg hne] at e
    simp only [mRow] at ht
    rw [List.getElem?_set_ne (fun e3 => e2 e3.symm)] at ht
    exact .inl ⟨hne,⟨d,ht⟩,e⟩
  | arrs => exact .inl ⟨by simp,⟨_,hra⟩,by simpa using e⟩
  | vals => exact .inl ⟨by simp,⟨d,ht⟩,by simpa using e⟩
  | cells => exact .inl ⟨by simp,⟨d,ht⟩,by simpa using e⟩
  | vis => exact .inl ⟨by simp,⟨d,ht⟩,by simpa using e⟩
  | out => exact .inl ⟨by simp,⟨d,ht⟩,by simpa using e⟩
set_option maxRecDepth 100000 in
set_option maxHeartbeats 4000000 in
theorem takeArrays_any (f:FuncM) (I:InM) (B:Nat) (w:World) (av:Value) (hA:ArrsR w B av I.arrs) (harr:0 ≤ f.arrays ∧ f.arrays ≤ 8):TakeArrs f I B w av:=by
 intro c K W val s h hkeep hK hs
 obtain ⟨i0,hix,hi2⟩:∃ i,Tryz.prog.info? 3=some i ∧ i.zero=some (.int .i64 0) ∧ i.size=1 ∧ i.bytes=8:=⟨_,rfl,rfl,rfl,rfl⟩
 obtain ⟨hz0,hz1,hz2⟩:=hi2
 obtain ⟨A,ac,rfl,hal,hat⟩:=hA
 have H:=hideI h
 have HAT:=hideI hat
 have HKP:=hideI hkeep
 have HK:=hideI hK
 obtain ⟨na,hna⟩:∃ na,na=f.arrays.toNat:=⟨_,rfl⟩
 obtain ⟨nx,hnx⟩:∃ nx,nx=I.arrs.length:=⟨_,rfl⟩
 have hna8:na ≤ 8:=by omega
 have hlen:s.arrs.length=na:=by rw [hs,List.length_replicate,hna]
 have hrow:=h.rows .arrs _ rfl
 obtain ⟨Ao,ca,hv⟩:∃ Ao ca,val .arrs=.slice Ao na ca:=by
  rcases hrow.2 with ⟨e,e0⟩ | ⟨g,cap,cur,e,_⟩
  ·exact ⟨none,0,by rw [e];congr 1;rw [← hlen];exact e0.symm⟩
  ·exact ⟨_,_,by rw [e,← hlen]⟩
 have c4:=h.cells 4
 simp only [machCells] at c4
 rw [hv] at c4
 have HV:=hideI hv
 rw [← hnx] at hal ⊢
 obtain ⟨n,hn⟩:∃ n:Nat,n=min na nx:=⟨_,rfl⟩
 have hn1:n ≤ na:=by omega
 have hn2:n ≤ nx:=by omega
 have hmin:min (na:Int) (nx:Int)=(n:Int):=by omega
 have HN:=hideI hn
 have HNX:=hideI hnx
 have HNA:=hideI hna
 have HS:=hideI hs
 clear h hat hkeep hK hrow hlen hv hs hnx hna hn
 go_enter Tryz.func82,Tryz.ntmps82
 go_wp2
 clear hmin
 go_loopw [15] (fun u wr => ∃ (i:Nat) (val2:MVals),i ≤ n ∧ u=.int .i64 i ∧ val2 .arrs=.slice Ao na ca ∧ Hid (MachR c K wr val2 { s with arrs:=arrsAt I.arrs na i }) ∧ Hid (KF K W wr)) (fun u _ => n - (intOf u).toNat)
 case atStart => exact ⟨0,val,Nat.zero_le _,rfl,HV.out,hideI (by rw [arrsAt_zero,HNA.out,← HS.out];exact H.out),hideI (KF.refl _)⟩
 case round =>
  obtain ⟨i,val2,hi,rfl,hv2,HMr,HFr⟩:=hrel
  have HV2:=hideI hv2
  clear hv2
  by_cases hlt:i < n
  ·obtain ⟨l,hl⟩:∃ l,I.arrs[i]?=some l:=⟨_,List.getElem?_eq_getElem (by rw [← HNX.out];omega)⟩
   obtain ⟨xb,xoff,lv,rfl,hxb,x0,hli,hcap⟩:=HAT.out i l hl
   have kp:Keeps B w wr:=HKP.out.trans (HFr.out.keeps HK.out)
   rw [← kp _ _ hxb] at x0
   have hli2:=hli.keeps kp
   have hlen2:({ s with arrs:=arrsAt I.arrs na i }:StM).arrs.length=na:=arrsAt_len _ _ _
   have hrr:mRow { s with arrs:=arrsAt I.arrs na i } c.nv val2 .arrs=some ⟨22,(arrsAt I.arrs na i).length,(List.range (arrsAt I.arrs na i).length).map fun j => val2 (.arr j)⟩:=rfl
   obtain ⟨ga,ca2,hga⟩:=HMr.out.slice hrr (by show 0 < (arrsAt I.arrs na i).length;rw [arrsAt_len];omega)
   have hga':val2 .arrs=.slice (some ⟨ga,0,none⟩) na ca2:=by rw [hga,arrsAt_len]
   obtain ⟨rfl,rfl⟩:Ao=some ⟨ga,0,none⟩ ∧ ca=ca2:=by
    have e:=HV2.out.symm.trans hga'
    injection e with e1 _ e3
    exact ⟨e1,e3⟩
   have hgc:=HMr.out.cell (j:=i) hrr hga (by show i < (arrsAt I.arrs na i).length;rw [arrsAt_len];omega)
   have hgcs:∃ u,((List.range (arrsAt I.arrs na i).length).map fun j => val2 (.arr j))[i]?=some u:=⟨_,List.getElem?_eq_getElem (by simp [arrsAt_len];omega)⟩
   obtain ⟨u0,hu0⟩:=hgcs
   have y0:=hgc.1.trans hu0
   have y1:=hgc.2
   have c4:=HMr.out.cells 4
   simp only [machCells] at c4
   rw [hga'] at c4
   have hgl:=HMr.out.own_lt hrr (show (val2 .arrs).ownBlock=some ga by rw [hga'];rfl)
   have hgm:=(HMr.out.off .arrs _ ga hrr (by rw [hga'];rfl)).1
   have hgx:¬ ga=xb:=fun e => (HMr.out.off .arrs _ ga hrr (by rw [hga'];rfl)).2 (by rw [e];exact HK.out xb hxb)
   have hgx':¬ xb=ga:=fun e => hgx e.symm
   have hgm':¬ c.m=ga:=fun e => hgm e.symm
   have hml:=HMr.out.m_lt
   have hxl:=World.block_lt_of_cell? wr _ x0
   obtain ⟨A2,c2,rfl,hll,hlat⟩:=hli2
   have hc2:=hcap _ _ _ rfl
   obtain ⟨k,hk⟩:∃ k:Nat,k=min l.length 4096:=⟨_,rfl⟩
   obtain ⟨ln,hln⟩:∃ ln:Nat,ln=l.length:=⟨_,rfl⟩
   rw [← hln] at x0 hc2
   have hmin:min (ln:Int) 4096=(k:Int):=by omega
   have hkc:(k:Int) ≤ (c2:Int):=by omega
   have hkc':k ≤ c2:=by omega
   have htl:(l.take 4096).length=k:=by rw [List.length_take,hk];omega
   have HL:=hideI hl
   have HTL:=hideI htl
   have HGA:=hideI hga'
   have hin:i < na:=by omega
   have hix2:i < nx:=by omega
   by_cases hk0:k=0
   ·subst hk0
    have hpure:∀ W:World,Sem.run Tryz.prog (pure (#[]:Array Value)) W=.ok #[] W:=fun _ => rfl
    clear hli hcap kp hlen2 hrr hga hgc hu0 hlat hln hk htl hl hga'
    cases A2
    all_goals
     go_wp2
     go_region_held3 (fun w' => w'.cell? ⟨c.m,4,none⟩=some (.slice (some ⟨ga,0,none⟩) na ca)) (first | go_keep) (first | fail)
     go_wp2
     go_roundw
     case rel =>
      obtain ⟨val3,h31,h32,h33⟩:=HMr.out.takeArr (i:=i) (l:=l.take 4096) (v:=.slice none 0 0) (by show i < (arrsAt I.arrs na i).length;rw [arrsAt_len];exact hin) (by rw [HGA.out];congr 1;exact (arrsAt_len _ _ _).symm) (Below.refl _ _)
       (by have e:l.take 4096=[]:=List.eq_nil_of_length_eq_zero HTL.out
           rw [e];exact World.ownsRow_nil _ _ _ _) (fun g e => by cases e)
      refine ⟨i + 1,val3,by omega,by go_num,by rw [h31,HGA.out],hideI ?_,hideI (HFr.out.trans (h33.drewN 1))⟩
      rw [← arrsAt_next HL.out hin]
      exact h32.drewN 1
     case measure => simp [intOf];omega
   ·obtain ⟨b2,off2,rfl,hb2,_⟩:=hlat 0 (by omega)
    obtain ⟨news,hnews⟩:∃ news,news=(l.take 4096).map (Value.int .i64):=⟨_,rfl⟩
    have HNL:Hid (news.length=k * 1):=hideI (by rw [hnews,List.length_map,htl,Nat.mul_one])
    have HNW:Hid (∀ (W:World),Below wr.heap.size wr W → ∀ j u,news[j]?=some u → W.cell? ((⟨b2,off2,none⟩:Addr).add j)=some u):=hideI fun W hW j u hu => by
     rw [hnews,List.getElem?_map] at hu
     cases hj:(l.take 4096)[j]? with
     | none => rw [hj] at hu;cases hu
     | some y =>
      rw [hj] at hu
      simp only [Option.map_some,Option.some.injEq] at hu
      subst hu
      rw [List.getElem?_take] at hj
      split at hj
      ·obtain ⟨b3,off3,e,hb3,hc3⟩:=hlat j (List.getElem?_eq_some_iff.1 hj).1
       cases e
       rw [hj] at hc3
       rw [Go.WideShapes.add_plain]
       exact (hW.cell (p:=⟨b2,off2 + j,none⟩) (World.block_lt_of_cell? wr _ hc3)).trans hc3
      ·cases hj
    have HONE:Hid (∀ u ∈ news,u.oneCell'=true):=hideI (by rw [hnews];intro u hu;obtain ⟨y,_,rfl⟩:=List.mem_map.1 hu;rfl)
    have hkpos:0 < k:=by omega
    have hk4:k ≤ 4096:=by omega
    have HK4:=hideI hk4
    have HKPOS:=hideI hkpos
    have HNEWS:=hideI hnews
    have HC4:Hid (wr.cell? ⟨c.m,4,none⟩=some (.slice (some ⟨ga,0,none⟩) na ca)):=hideI (by rw [c4];rfl)
    have HY0:=hideI y0
    have HY1:=hideI y1
    have HGL:=hideI hgl
    have HML:=hideI hml
    clear hli hcap kp hlen2 hrr hga hgc hu0 hlat hln hk htl hl hga' hnews
    go_wp2
    go_region_held3 (fun w' => w'.cell? ⟨c.m,4,none⟩=some (.slice (some ⟨ga,0,none⟩) na ca)) (first | go_keep | exact hc4n)
     (first
      | (refine step_append_lies _ rfl _ _ _ rfl 0 3 i0 (.int .i64 0) 1 8 Tryz.underlying22 hix hz0 hz1 hz2 rfl (by decide) (.slice none 0 0) 0 [] rfl (World.ownsRow_nil _ _ _ _) ⟨b2,off2,none⟩ k c2 news rfl HNL.out (HNW.out _ (by exact Below.drew (Below.refl _ _))) HONE.out HKPOS.out (by have:=HK4.out;unfold maxLen;omega) (by have:=HK4.out;omega) (Nat.zero_le _) _ rfl ?_;intro g4 cap4 w4 hown4 hg4 hat4 hlt4;have hB4:Below wr.heap.size wr w4:=⟨hg4.os,hg4.tape,hg4.output,hg4.size,fun b hb => hg4.block b hb (fun e => by cases e)⟩;have hgn:wr.heap.size ≤ g4:=(by rcases hat4 with e | e;cases e;rw [e];exact Nat.le_refl _);have HB4:=hideI hB4;have HGN:=hideI hgn;have HOW4:=hideI hown4;have hc4n:=(hB4.cell (p:=⟨c.m,4,none⟩) HML.out).trans HC4.out;have y0n:=(hB4.cell (p:=⟨ga,i,none⟩) HGL.out).trans HY0.out;have y1n:=(hB4.frozen (p:=⟨ga,i,none⟩) HGL.out).trans HY1.out;have hg4m:¬ g4=c.m:=(fun e => by have:=HML.out;omega);have hg4a:¬ g4=ga:=(fun e => by have:=HGL.out;omega);clear hg4 hat4 hown4 hB4 hgn))
    go_wp2
    go_roundw
    case rel =>
     obtain ⟨val3,h31,h32,h33⟩:=HMr.out.takeArr (w1:=w4) (i:=i) (l:=l.take 4096) (v:=.slice (some ⟨g4,0,none⟩) k cap4) (by show i < (arrsAt I.arrs na i).length;rw [arrsAt_len];exact hin) (by rw [HGA.out];congr 1;exact (arrsAt_len _ _ _).symm) HB4.out
      (by rw [HTL.out,← HNEWS.out];have h:=HOW4.out;rw [List.nil_append,Nat.zero_add] at h;exact h) (fun g e => by injection e with e;rw [← e];exact HGN.out)
     refine ⟨i + 1,val3,by omega,by go_num,by rw [h31,HGA.out],hideI ?_,hideI (HFr.out.trans h33)⟩
     rw [← arrsAt_next HL.out hin]
     exact h32
    case measure => simp [intOf];omega
  ·obtain rfl:i=n:=by omega
   go_wp2
   go_end0
   exact ⟨rfl,val2,by rw [← arrsAt_all f I (n:=i) (by rw [← HNA.out,← HNX.out];exact HN.out),← HNA.out];exact HMr.out,HFr.out⟩
end
end Go.Proofs.YtkaifkjbmdcmlaaGreat

namespace Go.Proofs.YtkaifkjbmdcmlaaGreat
open Go.RowKit Go.Maps
theorem ArrsR.keeps {w W:World} {B:Nat} {v:Value} {xs:List (List Int)} (h:ArrsR w B v xs) (k:Keeps B w W):ArrsR W B v xs:=by
 obtain ⟨A,c,rfl,hl,h⟩:=h
 refine ⟨A,c,rfl,hl,fun i l hi => ?_⟩
 obtain ⟨b,off,lv,ha,hb,hc,hi,hn⟩:=h i l hi
 exact ⟨b,off,lv,ha,hb,(k b _ hb).trans hc,hi.keeps k,hn⟩
def RunAny (f:FuncM) (I:InM) (F:Int) (w:World) (e:Ending) (w':World):Prop :=
 (CheckIs f (0,0) ∧ 0 ≤ F ∧ RunIs f I F.toNat w e w') ∨ ((¬ CheckIs f (0,0) ∨ F < 0) ∧ e=.returned refusedV ∧ Below w.heap.size w w')
theorem irun_any (f:FuncM) (I:InM) (B:Nat) (pv bv av rv:Value) (F:Int) (w:World) (hpv:Ints w B pv f.params) (hbv:BlocksR w B bv f.blocks) (hB:B ≤ w.heap.size) (hid:∀ u ∈ usesM f,I64 u.1)
  (ha:Ints w B av I.args) (hr:ArrsR w B rv I.arrs) :
  Calls Tryz.prog 18 #[.agg #[pv,.int .i64 f.arrays,.int .i64 f.cells,bv],.agg #[av,rv],.int .i64 F] w (RunAny f I F w):=by
 by_cases hs:CheckIs f (0,0) ∧ 0 ≤ F
 ·obtain ⟨hs,hF⟩:=hs
  obtain ⟨h1,h2,h3,h4,h5⟩:=strict_bounds hs
  obtain ⟨A2,c2,hrv,_,_⟩:=id hr
  obtain ⟨Fn,rfl⟩:∃ n:Nat,F=(n:Int):=⟨F.toNat,by omega⟩
  refine (irun_yes f I B pv bv av rv Fn w hpv hbv hB hid hs (strict_fok hs) (start_fit f I) h1 h2 h3 h4 h5 ha (fun W hW => takeArrays_any f I B W rv (hr.keeps hW) h4) A2 _ c2 hrv).mono ?_
  intro e w' h
  exact .inl ⟨hs,hF,by simpa using h⟩
 ·obtain ⟨A1,c1,hav,_,_⟩:=ha
  obtain ⟨A2,c2,hrv,_,_⟩:=hr
  have hno:¬ CheckIs f (0,0) ∨ F < 0:=by
   by_cases hc:CheckIs f (0,0)
   ·exact .inr (by have:¬ 0 ≤ F:=fun h => hs ⟨hc,h⟩;omega)
   ·exact .inl hc
  exact (irun_no f B pv bv av rv F w hpv hbv hB hid hno A1 A2 _ c1 _ c2 hav hrv).mono fun e w' h => .inr ⟨hno,h⟩
end Go.Proofs.YtkaifkjbmdcmlaaGreat

namespace Go.Proofs.YtkaifkjbmdcmlaaGreat
open Go.RowKit Go.Maps
structure KeepM (f:FuncM) (I:InM) (s:StM):Prop where
 fit:Fit f s
 lens:s.arrs.map List.length=(startS f I).arrs.map List.length
 told:0 ≤ s.checks ∧ (s.out.length:Int) + s.checks ≤ s.steps
theorem lookS_arrs (op:Int) (s:StM):(lookS op s).arrs=s.arrs:=by unfold lookS;split <;> rfl
theorem lookS_out (op:Int) (s:StM):(lookS op s).out=s.out:=by unfold lookS;split <;> rfl
theorem lookS_checks (op:Int) (s:StM) (h:0 ≤ s.checks ∧ s.checks < 4294967296):s.checks ≤ (lookS op s).checks ∧ (lookS op s).checks ≤ s.checks + 1:=by
 unfold lookS
 split
 ·simp only
  rw [show wrap64 (s.checks + 1)=s.checks + 1 by unfold wrap64;omega]
  omega
 ·omega
theorem made_arrs (x:InstrM) (a:List Int) (s:StM):(madeM x a s).1.arrs=s.arrs ∧ (madeM x a s).1.out=s.out ∧ ((madeM x a s).1=s ∨ (madeM x a s).1=lookS x.op s):=by
 unfold madeM
 repeat' split
 all_goals first | exact ⟨rfl,rfl,.inl rfl⟩ | exact ⟨lookS_arrs _ _,lookS_out _ _,.inr rfl⟩
theorem done_told (x:InstrM) (s:StM) (h:0 ≤ s.checks ∧ s.checks < 4294967296) :
  (doM x s).1.arrs.map List.length=s.arrs.map List.length ∧ s.checks ≤ (doM x s).1.checks ∧ ((doM x s).1.out.length:Int) + (doM x s).1.checks ≤ s.out.length + s.checks + 1:=by
 have hl:=lookS_checks x.op s h
 have ha:=lookS_arrs x.op s
 have ho:=lookS_out x.op s
 obtain ⟨m1,m2,m3⟩:=made_arrs x (x.args.map s.val) s
 have hm:s.checks ≤ (madeM x (x.args.map s.val) s).1.checks ∧ (madeM x (x.args.map s.val) s).1.checks ≤ s.checks + 1:=by
  rcases m3 with e | e
  ·rw [e];omega
  ·rw [e];omega
 unfold doM
 simp only
 split
 ·split
  ·refine ⟨?_,hl.1,by show ((lookS x.op s).out.length:Int) + (lookS x.op s).checks ≤ _;rw [ho];omega⟩
   simp only
   apply List.ext_getElem?
   intro i
   rw [List.getElem?_map,List.getElem?_map]
   by_cases e:x.n.toNat=i
   ·subst e
    by_cases hi:x.n.toNat < s.arrs.length
    ·rw [List.getElem?_set_self hi]
     unfold arrM
     rw [List.getD_eq_getElem?_getD,List.getElem?_eq_getElem hi]
     simp
    ·rw [List.getElem?_eq_none (by rw [List.length_set];omega),List.getElem?_eq_none (by omega)]
   ·rw [List.getElem?_set_ne e]
  ·exact ⟨by rw [ha],hl.1,by show ((lookS x.op s).out.length:Int) + (lookS x.op s).checks ≤ _;rw [ho];omega⟩
 ·split
  ·split
   ·exact ⟨rfl,by simp,by simp;omega⟩
   ·exact ⟨rfl,by simp,by simp;omega⟩
  ·split
   ·exact ⟨rfl,by simp,by simp;omega⟩
   ·split
    ·rename_i h5
     rw [h5] at m1 m2 hm
     simp only at m1 m2 hm ⊢
     exact ⟨by rw [m1],hm.1,by rw [m2];omega⟩
    ·rename_i h5
     rw [h5] at m1 m2 hm
     simp only at m1 m2 hm ⊢
     exact ⟨by rw [m1],hm.1,by rw [m2];omega⟩
theorem leave_keeps {f:FuncM} {b k:Nat} {s:StM} (h:Fit f s):Fit f (leaveM f b k s).s ∧ (leaveM f b k s).s.arrs=s.arrs ∧ (leaveM f b k s).s.out=s.out ∧ (leaveM f b k s).s.checks=s.checks ∧ (leaveM f b k s).s.steps=s.steps:=by
 unfold leaveM enterM
 simp only
 split
 ·exact ⟨h,rfl,rfl,rfl,rfl⟩
 ·split
  ·exact ⟨h,rfl,rfl,rfl,rfl⟩
  ·exact ⟨h.arrive _ _,rfl,rfl,rfl,rfl⟩
theorem go_keeps {f:FuncM} {I:InM} {c:CfgM} (h:KeepM f I c.s) (hs:c.s.steps < 4294967295):KeepM f I (goM f c).s:=by
 have ht:=h.told
 unfold goM
 cases c.fin with
 | some e => exact h
 | none =>
  simp only
  split
  ·rename_i x hx
   obtain ⟨d1,d2,d3⟩:=done_told x (tickM c.s) (by show 0 ≤ c.s.checks ∧ c.s.checks < 4294967296;omega)
   have d4:=doM_steps x (tickM c.s)
   simp only [tickM] at d1 d2 d3 d4
   refine ⟨h.fit.tick.done x,d1.trans h.lens,?_,?_⟩
   ·show 0 ≤ (doM x (tickM c.s)).1.checks
    simp only [tickM]
    omega
   ·show ((doM x (tickM c.s)).1.out.length:Int) + (doM x (tickM c.s)).1.checks ≤ (doM x (tickM c.s)).1.steps
    simp only [tickM]
    rw [d4]
    omega
  ·obtain ⟨l1,l2,l3,l4,l5⟩:=leave_keeps (b:=c.b) (k:=c.k) h.fit.tick
   refine ⟨l1,by rw [l2];exact h.lens,by rw [l4];exact ht.1,?_⟩
   rw [l3,l4,l5]
   simp only [tickM]
   omega
theorem go_steps_le (f:FuncM) (c:CfgM):(goM f c).s.steps ≤ c.s.steps + 1:=by
 cases h:c.fin with
 | some e => rw [goM_fin (by rw [h];simp)];omega
 | none => rw [goM_steps h];omega
theorem start_keeps (f:FuncM) (I:InM) (hfit:Fit f (startS f I)):KeepM f I (startM f I).s:=by
 unfold startM enterM
 refine ⟨hfit.arrive 0 (-1),rfl,?_⟩
 simp [arriveM,startS]
theorem goN_keeps {f:FuncM} {I:InM} (hfit:Fit f (startS f I)):∀ n,n ≤ 200000 → KeepM f I (goN f n (startM f I)).s ∧ (goN f n (startM f I)).s.steps ≤ n
 | 0,_ => ⟨start_keeps f I hfit,Nat.le_refl _⟩
 | n + 1,hn => by
  obtain ⟨h1,h2⟩:=goN_keeps hfit n (by omega)
  refine ⟨go_keeps h1 (by omega),?_⟩
  have:=go_steps_le f (goN f n (startM f I))
  show (goM f (goN f n (startM f I))).s.steps ≤ n + 1
  omega
theorem start_lens (f:FuncM) (I:InM):∀ l ∈ (startS f I).arrs,l.length ≤ 4096:=by
 intro l hl
 unfold startS at hl
 obtain ⟨i,_,rfl⟩:=List.mem_map.1 hl
 rw [List.length_take]
 omega
theorem KeepM.short {f:FuncM} {I:InM} {s:StM} (h:KeepM f I s):∀ l ∈ s.arrs,l.length ≤ 4096:=by
 intro l hl
 have:l.length ∈ s.arrs.map List.length:=List.mem_map.2 ⟨l,hl,rfl⟩
 rw [h.lens] at this
 obtain ⟨l2,h2,e⟩:=List.mem_map.1 this
 rw [← e]
 exact start_lens f I l2 h2
theorem end_keeps {f:FuncM} {I:InM} {F:Nat} {s:StM} {en:EndM} (hfit:Fit f (startS f I)) (h:EndIs f I (min F 200000) s en):KeepM f I s ∧ s.steps ≤ min F 200000:=by
 obtain ⟨rfl,_⟩:=h
 exact goN_keeps hfit _ (by omega)
end Go.Proofs.YtkaifkjbmdcmlaaGreat

namespace Go.Proofs.YtkaifkjbmdcmlaaGreat
open Go.RowKit Go.Maps
def predsRow (bs:List BlockM) (n t b:Nat):List (List Nat):=(List.range n).map fun u => if u < t then predsTo bs n u else if u=t then predsTo bs b u else []
theorem predsRow_at {bs:List BlockM} {n t b u:Nat} (h:u < n):(predsRow bs n t b)[u]?=some (if u < t then predsTo bs n u else if u=t then predsTo bs b u else []):=by
 unfold predsRow
 rw [List.getElem?_map,List.getElem?_eq_getElem (by simpa using h)]
 simp
theorem predsRow_zero (bs:List BlockM) (n:Nat):predsRow bs n 0 0=(List.range n).map fun _ => []:=by
 unfold predsRow
 apply List.map_congr_left
 intro u _
 rw [if_neg (by omega)]
 split
 ·simp [predsTo]
 ·rfl
theorem predsRow_skip {bs:List BlockM} {n t b:Nat} (h:t ∉ succM bs b):predsRow bs n t (b + 1)=predsRow bs n t b:=by
 unfold predsRow
 apply List.map_congr_left
 intro u _
 by_cases e:u=t
 ·subst e
  rw [predsTo_succ,if_neg h,List.append_nil]
 ·simp [e]
theorem predsRow_push {bs:List BlockM} {n t b:Nat} (h:t ∈ succM bs b) (_htn:t < n):(predsRow bs n t b).set t (predsTo bs b t ++ [b])=predsRow bs n t (b + 1):=by
 apply List.ext_getElem?
 intro u
 by_cases hu:u < n
 ·rw [predsRow_at hu]
  by_cases e:t=u
  ·subst e
   rw [List.getElem?_set_self (by unfold predsRow;simpa using hu),if_neg (by omega),if_pos rfl,predsTo_succ,if_pos h]
  ·rw [List.getElem?_set_ne e,predsRow_at hu]
   have e':¬ u=t:=fun x => e x.symm
   simp [e']
 ·rw [List.getElem?_eq_none (by rw [List.length_set];unfold predsRow;simp;omega),List.getElem?_eq_none (by unfold predsRow;simp;omega)]
theorem predsRow_next (bs:List BlockM) (n t:Nat):predsRow bs n t n=predsRow bs n (t + 1) 0:=by
 unfold predsRow
 apply List.map_congr_left
 intro u _
 by_cases h1:u < t
 ·rw [if_pos h1,if_pos (by omega)]
 ·rw [if_neg h1]
  by_cases h2:u=t
  ·subst h2
   rw [if_pos rfl,if_pos (by omega)]
  ·rw [if_neg h2,if_neg (by omega)]
   split
   ·simp [predsTo]
   ·rfl
theorem predsRow_last (bs:List BlockM) (n:Nat):predsRow bs n n 0=predsAt bs n n 0:=by
 unfold predsRow predsAt
 apply List.map_congr_left
 intro u hu
 rw [if_pos (by simpa using hu)]
 simp
theorem mem_to {bs:List BlockM} {q:BlockM} {b t:Nat} (hin:EndsIn bs) (hq:bs[b]?=some q):((t:Int) ∈ q.term.to) ↔ t ∈ succM bs b:=by
 unfold succM
 rw [hq]
 simp only [List.mem_map]
 constructor
 ·exact fun h => ⟨(t:Int),h,by simp⟩
 ·rintro ⟨x,hx,he⟩
  have:=hin q (List.mem_of_getElem? hq) x hx
  have e:x=(t:Int):=by omega
  exact e ▸ hx
set_option maxRecDepth 100000 in
set_option maxHeartbeats 4000000 in
theorem refPreds_any (bs:List BlockM) (B:Nat) (pv av cv bv:Value) (w:World) (hbv:BlocksR w B bv bs) (hB:B ≤ w.heap.size) (hn5:bs.length ≤ 512) (hin:EndsIn bs) :
  Calls Tryz.prog 110 #[.agg #[pv,av,cv,bv]] w (PredsPost bs w):=by
 have HBL:=hideI hbv
 have HIN:=hideI hin
 obtain ⟨A,c,rfl,hbm,_⟩:=hbv
 obtain ⟨i0,hix,hz0,hz1,hz2⟩:=info_parts ints_info
 clear hin
 go_enter Tryz.func110,Tryz.ntmps110
 go_wp2_with (first
  | (at_make;go_must (refine wpList_make_full _ rfl _ _ 26 rfl (w.heap.size + 1) 22 i0 (.slice none 0 0) 1 Tryz.underlying26 hix hz0 hz1 .i64 .i64 _ _ bs.length rfl rfl rfl rfl (by rw [hz2];omega) (by unfold maxLen;omega) (by simp) ?_);intro w1 hown1 hg1;rw [World.size_alloc] at hown1;go_must (have HL1:=hideI (Lists.made hown1);have HGB:=hideI ((hg1.block w.heap.size (by simp) (by simp)).trans (heap_alloc_new w _));have HB0:Hid (Below w.heap.size w w1):=((Below.refl _ _).alloc (Nat.le_refl _) _).grown hg1 (by simp) (by simp);clear hown1 hg1)))
 clear hix hz0 hz1 hz2
 rw [← predsRow_zero bs bs.length] at HL1
 go_loopw [4] (fun u wr => ∃ (t:Nat) (vs:List Value),t ≤ bs.length ∧ u=.int .i64 t ∧ Hid (Lists wr (w.heap.size + 1) (w.heap.size + 1) bs.length vs (predsRow bs bs.length t 0)) ∧ Hid (Below w.heap.size w wr) ∧ Hid (Below (w.heap.size + 1) w1 wr)) (fun u _ => bs.length - (intOf u).toNat)
 case atStart => exact ⟨0,_,Nat.zero_le _,rfl,HL1,HB0,hideI (Below.refl _ _)⟩
 case round =>
  obtain ⟨t,vs,ht,rfl,HL,HBr,HBo⟩:=hrel
  have hxr:=row_cells HGB.out (HBo.out.block w.heap.size (by omega))
  have g3:=hxr 3
  clear hxr
  by_cases hlt:t < bs.length
  ·go_wp2
   clear g3
   obtain ⟨wo,rfl⟩:∃ wo:World,wo=wr:=⟨_,rfl⟩
   go_loopw [5] (fun u wr => ∃ (b:Nat) (vs:List Value),b ≤ bs.length ∧ u=.int .i64 b ∧ Hid (Lists wr (w.heap.size + 1) (w.heap.size + 1) bs.length vs (predsRow bs bs.length t b)) ∧ Hid (Below (w.heap.size + 1) wo wr)) (fun u _ => bs.length - (intOf u).toNat)
   case atStart => exact ⟨0,vs,Nat.zero_le _,rfl,HL,hideI (Below.refl _ _)⟩
   case round =>
    obtain ⟨b,vs2,hb,rfl,HLi,HBi⟩:=hrel
    have hxr:=row_cells HGB.out ((HBo.out.trans HBi.out).block w.heap.size (by omega))
    have g3:=hxr 3
    clear hxr
    by_cases hltb:b < bs.length
    ·obtain ⟨q,hq⟩:∃ q,bs[b]?=some q:=⟨_,List.getElem?_eq_getElem hltb⟩
     obtain ⟨A',c',e0,_,hbx⟩:=(HBL.out.more' hB).keeps (Keeps.of_below (HBr.out.trans (HBi.out.mono (Nat.le_succ _))))
     cases e0
     obtain ⟨ab,off,pq,cq,tv,rfl,hab,x0,x1,x2,x3,x4,x5,_,_,htv,_⟩:=hbx b q hq
     have HTV:=hideI htv
     have HMEM:=hideI (mem_to (t:=t) HIN.out hq)
     obtain ⟨TA,tc,rfl,htm,_⟩:=htv
     obtain ⟨v,hv⟩:∃ v,vs2[t]?=some v:=⟨_,List.getElem?_eq_getElem (by rw [HLi.out.vl];exact hlt)⟩
     obtain ⟨l,hl0⟩:∃ l,l=predsTo bs b t:=⟨_,rfl⟩
     have hl:(predsRow bs bs.length t b)[t]?=some l:=by rw [predsRow_at hlt,if_neg (by omega),if_pos rfl,hl0]
     have hll:l.length ≤ 1000:=by have:=predsTo_len bs b t;rw [hl0];omega
     have q1:wr.cell? ⟨w.heap.size + 1,t,none⟩=some v:=by rw [World.ownsRow.cellAt HLi.out.row t (by omega)];exact hv
     have HOWN:=hideI (HLi.out.own t v l hv hl)
     have hsz:=HLi.out.lt.2
     have HV:=hideI hv
     have HLL:=hideI hl
     have HL0:=hideI hl0
     obtain ⟨tl,htl⟩:∃ tl,tl=q.term.to:=⟨_,rfl⟩
     rw [← htl] at HTV HMEM x4 htm
     clear hbx hq x0 x1 x2 x3 x5 hv hl hl0 htl
     by_cases hin2:(t:Int) ∈ tl
     ·have HC:Hid (decide ((t:Int) ∈ tl)=true):=by show _=_;simpa using hin2
      have HIN2:=hideI (HMEM.out.1 hin2)
      obtain ⟨i1,hjx,hy0,hy1,hy2⟩:=info_parts int_info
      clear hin2
      go_wp2_with (first
       | (go_at_call 36;go_must (refine (has_any _ _ _ _ _ HTV.out).mono ?_);rw [HC.out];rintro e w2 ⟨rfl,rfl⟩)
       | (at_builtin;go_must (refine wpList_append_lies _ rfl _ _ _ rfl (w.heap.size + 1 + 1) 3 i1 (.int .i64 0) 1 8 Tryz.underlying22 hjx hy0 hy1 hy2 rfl (by decide) _ _ _ rfl (HOWN.out.alloc _) ⟨wr.heap.size,0,none⟩ 1 1 [.int .i64 b] rfl rfl (one_new wr _) (by simp [Value.oneCell']) (by decide) (by simp only [maxLen];omega) (by omega) (by simp;omega) _ rfl ?_);intro g1 cap1 w3 hown1 hgrow1 hor1 _;go_must (have HP:=hideI (HLi.out.push HV.out HLL.out hown1 hgrow1 hor1);have HPB:=hideI (HLi.out.pushed (u:=.slice (some ⟨g1,0,none⟩) (l.length + 1) cap1) HV.out HLL.out hgrow1 HBi.out (Nat.le_refl _));obtain ⟨hc4,hf4⟩:=HLi.out.held HV.out HLL.out hgrow1;clear hown1 hgrow1 hor1 q1)))
      go_roundw
      case rel => exact ⟨b + 1,_,by omega,by go_num,by rw [← predsRow_push HIN2.out hlt,← HL0.out];exact HP,HPB⟩
      case measure => simp [intOf];omega
     ·have HC:Hid (decide ((t:Int) ∈ tl)=false):=by show _=_;simpa using hin2
      have HIN2:=hideI (fun h => hin2 (HMEM.out.2 h))
      clear hin2
      go_wp2_with (first
       | (go_at_call 36;go_must (refine (has_any _ _ _ _ _ HTV.out).mono ?_);rw [HC.out];rintro e w2 ⟨rfl,rfl⟩))
      go_roundw
      case rel => exact ⟨b + 1,vs2,by omega,by go_num,by rw [predsRow_skip HIN2.out];exact HLi,HBi⟩
      case measure => simp [intOf];omega
    ·have hbn:b=bs.length:=by omega
     rw [hbn,predsRow_next] at HLi
     clear hbn
     go_wp2
     go_roundw
     case rel => exact ⟨t + 1,vs2,by omega,by go_num,HLi,hideI (HBr.out.trans (HBi.out.mono (Nat.le_succ _))),hideI (HBo.out.trans HBi.out)⟩
     case measure => simp [intOf];omega
  ·have hkn:t=bs.length:=by omega
   rw [hkn,predsRow_last] at HL
   clear hkn
   go_wp2
   go_ret
   exact ⟨_,vs,rfl,⟨HL.out.vl,HL.out.ll,World.ownsRow.mono HL.out.row (by omega),HL.out.own,HL.out.apart⟩,HBr.out⟩
end Go.Proofs.YtkaifkjbmdcmlaaGreat

namespace Go.Proofs.YtkaifkjbmdcmlaaGreat
open Go.RowKit Go.Maps
def TraceR (w:World) (B:Nat) (v:Value) (s:StM) (en:EndM):Prop :=
 ∃ ov av vv,v=.agg #[.int .i64 en.1,.int .i64 en.2.1,.int .i64 en.2.2,ov,av,.int .i64 s.steps,.int .i64 s.checks,vv] ∧ Ints w B ov s.out ∧ ArrsR w B av s.arrs ∧ Ints w B vv s.vis
theorem TraceR.keeps {w W:World} {B:Nat} {v:Value} {s:StM} {en:EndM} (h:TraceR w B v s en) (k:Keeps B w W):TraceR W B v s en:=by
 obtain ⟨ov,av,vv,e,h1,h2,h3⟩:=h
 exact ⟨ov,av,vv,e,h1.keeps k,h2.keeps k,h3.keeps k⟩
theorem row_cap {w:World} {base:Nat} {e:TypeId} {size:Nat} {v:Value} {n:Nat} {xs:List Value} (h:w.ownsRow base e size v n xs):∀ A2 n2 c2,v=.slice A2 n2 c2 → n2 ≤ c2:=by
 intro A2 n2 c2 e2
 rcases h.2 with ⟨e1,e0⟩ | ⟨g,cap,cur,e1,_,_,hx,_⟩
 ·rw [e1] at e2
  injection e2 with _ a b
  omega
 ·rw [e1] at e2
  injection e2 with _ a b
  omega
theorem TraceAt.reads {base:Nat} {w:World} {v:Value} {s:StM} {en:EndM} (h:TraceAt base w v s en) (ho:s.out.length ≤ 140737488351232) (ha:s.arrs.length ≤ 140737488351232) (hl:∀ l ∈ s.arrs,l.length ≤ 140737488351232) (hv:s.vis.length ≤ 140737488351232):TraceR w w.heap.size v s en:=by
 obtain ⟨nv,val,e,hr⟩:=h
 refine ⟨_,_,_,e,ints_own (hr .out _ rfl) ho,?_,ints_own (hr .vis _ rfl) hv⟩
 have hrow:=hr .arrs _ rfl
 obtain ⟨A,cp,ea⟩:=row_form hrow
 refine ⟨A,cp,ea,ha,fun k l hk => ?_⟩
 have hkl:=(List.getElem?_eq_some_iff.1 hk).1
 obtain ⟨g,cap,ev,_,hg⟩:=World.ownsRow.form hrow (by show 0 < s.arrs.length;omega)
 rw [ev] at ea
 injection ea with e1 _ e3
 have hc:=World.ownsRow.cellAt (by rw [ev] at hrow;exact hrow) k (by show k < s.arrs.length * 1;omega)
 refine ⟨g,0,val (.arr k),e1.symm,hg,?_,?_,?_⟩
 ·rw [Nat.zero_add]
  rw [hc,List.getElem?_map,List.getElem?_range hkl]
  rfl
 ·exact ints_own (hr (.arr k) (intRow l) (by show s.arrs[k]?.map intRow=_;rw [hk];rfl)) (hl l (List.mem_of_getElem? hk))
 ·exact row_cap (hr (.arr k) (intRow l) (by show s.arrs[k]?.map intRow=_;rw [hk];rfl))
def TraceIn (lo hi:Nat) (w:World) (v:Value) (s:StM) (en:EndM):Prop :=
 ∃ (nv:Nat) (val:MVals),v=.agg #[.int .i64 en.1,.int .i64 en.2.1,.int .i64 en.2.2,val .out,val .arrs,.int .i64 s.steps,.int .i64 s.checks,val .vis] ∧ ∀ t d,mRow s nv val t=some d → w.ownsRow lo d.elem 1 (val t) d.len d.cells ∧ ∀ g,(val t).ownBlock=some g → g < hi
theorem TraceAt.within {base:Nat} {w:World} {v:Value} {s:StM} {en:EndM} (h:TraceAt base w v s en):TraceIn base w.heap.size w v s en:=by
 obtain ⟨nv,val,e,h⟩:=h
 exact ⟨nv,val,e,fun t d ht => ⟨h t d ht,fun g hg => ((h t d ht).lt g hg).2⟩⟩
theorem TraceIn.at {lo hi:Nat} {w:World} {v:Value} {s:StM} {en:EndM} (h:TraceIn lo hi w v s en):TraceAt lo w v s en:=by
 obtain ⟨nv,val,e,h⟩:=h
 exact ⟨nv,val,e,fun t d ht => (h t d ht).1⟩
theorem TraceIn.kept {lo hi:Nat} {w W:World} {v:Value} {s:StM} {en:EndM} (h:TraceIn lo hi w v s en) (hk:∀ b,lo ≤ b → b < hi → W.heap[b]?=w.heap[b]?):TraceIn lo hi W v s en:=by
 obtain ⟨nv,val,e,h⟩:=h
 exact ⟨nv,val,e,fun t d ht => ⟨owns_kept (h t d ht).1 fun g hg => hk g ((h t d ht).1.lt g hg).1 ((h t d ht).2 g hg),(h t d ht).2⟩⟩
end Go.Proofs.YtkaifkjbmdcmlaaGreat

namespace Go.Proofs.YtkaifkjbmdcmlaaGreat
open Go.RowKit Go.Maps
set_option maxRecDepth 100000 in
set_option maxHeartbeats 2000000 in
theorem sameArrs_yes (w:World) (B:Nat) (v u:Value) (xs:List (List Int)) (h1:ArrsR w B v xs) (h2:ArrsR w B u xs) :
  Calls Tryz.prog 58 #[v,u] w fun e w' => e=.returned (.bool true) ∧ ∃ m,w'=w.drewN m:=by
 have H1:=hideI h1
 have H2:=hideI h2
 obtain ⟨A1,c1,rfl,hm,k1⟩:=h1
 obtain ⟨A2,c2,rfl,_,k2⟩:=h2
 obtain ⟨n,hn⟩:∃ n,n=xs.length:=⟨_,rfl⟩
 rw [← hn] at H1 H2 hm ⊢
 have HN:=hideI hn
 have K1:=hideI k1
 have K2:=hideI k2
 clear k1 k2 hn
 go_enter Tryz.func58,Tryz.ntmps58
 go_wp2
 go_loopw [5] (fun u wr => ∃ k m:Nat,k ≤ n ∧ u=.int .i64 k ∧ wr=w.drewN m) (fun u _ => n - (intOf u).toNat)
 case atStart => exact ⟨0,0,Nat.zero_le _,rfl,rfl⟩
 case round =>
  obtain ⟨k,m,hk,rfl,hwr⟩:=hrel
  have HWR:=hideI hwr
  by_cases hlt:k < n
  ·obtain ⟨l,hl⟩:∃ l,xs[k]?=some l:=⟨_,List.getElem?_eq_getElem (by have:=HN.out;omega)⟩
   obtain ⟨b1,o1,v1,rfl,hb1,d1,i1,_⟩:=K1.out k l hl
   obtain ⟨b2,o2,v2,rfl,hb2,d2,i2,_⟩:=K2.out k l hl
   have d1:wr.cell? ⟨b1,o1 + k,none⟩=some v1:=by rw [hwr];exact d1
   have d2:wr.cell? ⟨b2,o2 + k,none⟩=some v2:=by rw [hwr];exact d2
   have HC:Hid (∀ a,Calls Tryz.prog 39 #[v1,v2] (wr.drewN a) fun e w' => e=.returned (.bool true) ∧ ∃ m,w'=(wr.drewN a).drewN m):=fun a =>
    (sameInts_any (wr.drewN a) B _ _ _ _ (i1.keeps (Keeps.heap' (Keeps.refl _) (by show wr.heap=_;rw [hwr];rfl))) (i2.keeps (Keeps.heap' (Keeps.refl _) (by show wr.heap=_;rw [hwr];rfl)))).mono fun e w' ⟨h1,h2⟩ => ⟨by rw [h1,beq_self_eq_true],h2⟩
   clear hl hwr i1 i2
   go_wp2
   go_quiet ((go_at_call 39;exact Calls.quiet_of (HC.out _)))
   go_wp2
   go_roundw
   case rel => exact ⟨k + 1,_,by omega,by go_num,by rw [HWR.out];exact World.drewN_drewN ..⟩
   case measure => simp [intOf];omega
  ·go_wp2
   go_ret
   exact ⟨rfl,m,rfl⟩
theorem below_two (w:World) (o1 o2:Obj):Below w.heap.size w ((w.alloc o1).alloc o2):=((Below.refl _ w).alloc (Nat.le_refl _) _).alloc (by simp) _
theorem keeps_two {w:World} {B:Nat} (hB:B ≤ w.heap.size) (o1 o2:Obj):Keeps B w ((w.alloc o1).alloc o2):=Keeps.of_below ((below_two w o1 o2).mono hB)
set_option maxRecDepth 100000 in
set_option maxHeartbeats 2000000 in
theorem alike_yes (w:World) (B:Nat) (v u:Value) (s t:StM) (en:EndM) (h1:TraceR w B v s en) (h2:TraceR w B u t en) (hB:B ≤ w.heap.size) (ho:s.out=t.out) (ha:s.arrs=t.arrs) :
  Calls Tryz.prog 25 #[v,u] w fun e w' => e=.returned (.bool true) ∧ Below w.heap.size w w':=by
 have H1:=hideI h1
 have H2:=hideI h2
 obtain ⟨o1,a1,v1,rfl,i1,r1,_⟩:=h1
 obtain ⟨o2,a2,v2,rfl,i2,r2,_⟩:=h2
 obtain ⟨e0,e1,e2⟩:=en
 rw [← ho] at i2
 rw [← ha] at r2
 have HI:Hid (∀ W,Keeps B w W → Calls Tryz.prog 39 #[o1,o2] W fun e w' => e=.returned (.bool true) ∧ ∃ m,w'=W.drewN m):=hideI fun W k =>
  (sameInts_any W B _ _ _ _ (i1.keeps k) (i2.keeps k)).mono fun e w' ⟨h1,h2⟩ => ⟨by rw [h1,beq_self_eq_true],h2⟩
 have HA:Hid (∀ W,Keeps B w W → Calls Tryz.prog 58 #[a1,a2] W fun e w' => e=.returned (.bool true) ∧ ∃ m,w'=W.drewN m):=hideI fun W k => sameArrs_yes W B _ _ _ (r1.keeps k) (r2.keeps k)
 clear i1 i2 r1 r2 ho ha
 go_enter Tryz.func25,Tryz.ntmps25
 go_wp2_with (first
  | (go_at_call 39;go_must (refine (HI.out _ (by exact Keeps.heap' (keeps_two hB _ _) rfl)).mono ?_);rintro e w1 ⟨rfl,m,rfl⟩)
  | (go_at_call 58;go_must (refine (HA.out _ (by exact Keeps.heap' (keeps_two hB _ _) rfl)).mono ?_);rintro e w1 ⟨rfl,m2,rfl⟩))
 go_ret
 exact ⟨rfl,below_drewN (below_two w _ _) _⟩
end Go.Proofs.YtkaifkjbmdcmlaaGreat

namespace Go.Proofs.YtkaifkjbmdcmlaaGreat
open Go.RowKit Go.Maps
structure EndOk (en:EndM):Prop where
 lo:1 ≤ en.1
 hi:en.1 ≤ 5
 trap:en.1=2 ∨ en.2.2=0
 value:en.1=1 ∨ en.2.1=0
end Go.Proofs.YtkaifkjbmdcmlaaGreat

namespace Go.Proofs.YtkaifkjbmdcmlaaGreat
open Go.RowKit Go.Maps
def noS:StM:=⟨fun _ => 0,[],[],[],0,0,[]⟩
def Runs (f:FuncM) (I:InM) (F:Nat) (s:StM) (en:EndM):Prop:=(CheckIs f (0,0) ∧ EndIs f I (min F 200000) s en) ∨ (¬ CheckIs f (0,0) ∧ s=noS ∧ en=(6,0,0))
def RunR (f:FuncM) (I:InM) (F:Nat) (w:World) (e:Ending) (w':World):Prop:=∃ v s en,e=.returned v ∧ Runs f I F s en ∧ TraceR w' w'.heap.size v s en ∧ Below w.heap.size w w'
theorem noS_at (base:Nat) (w:World):TraceAt base w refusedV noS (6,0,0):=by
 refine ⟨0,fun _ => .slice none 0 0,rfl,fun t d ht => ?_⟩
 cases t with
 | arr k => cases ht
 | _ => injection ht with ht;subst ht;exact World.ownsRow_nil _ _ _ _
theorem EndIs.bounds {f:FuncM} {I:InM} {F:Nat} {s:StM} {en:EndM} (_hs:CheckIs f (0,0)) (h:EndIs f I (min F 200000) s en):KeepM f I s ∧ s.steps ≤ min F 200000:=end_keeps (start_fit f I) h
def RunT (f:FuncM) (I:InM) (F:Nat) (w:World) (e:Ending) (w':World):Prop:=∃ v s en,e=.returned v ∧ Runs f I F s en ∧ TraceAt w.heap.size w' v s en ∧ Below w.heap.size w w'
theorem irun_laid (f:FuncM) (I:InM) (B:Nat) (pv bv av rv:Value) (F:Nat) (w:World) (hpv:Ints w B pv f.params) (hbv:BlocksR w B bv f.blocks) (hB:B ≤ w.heap.size) (hid:∀ u ∈ usesM f,I64 u.1)
  (ha:Ints w B av I.args) (hr:ArrsR w B rv I.arrs) :
  Calls Tryz.prog 18 #[.agg #[pv,.int .i64 f.arrays,.int .i64 f.cells,bv],.agg #[av,rv],.int .i64 F] w (RunT f I F w):=by
 refine (irun_any f I B pv bv av rv F w hpv hbv hB hid ha hr).mono ?_
 rintro e w' (⟨hs,_,v,s,en,rfl,hend,htr,hb⟩ | ⟨hn,rfl,hb⟩)
 ·rw [Int.toNat_natCast] at hend
  exact ⟨v,s,en,rfl,.inl ⟨hs,hend⟩,htr,hb⟩
 ·have hn:¬ CheckIs f (0,0):=by
   rcases hn with h | h
   ·exact h
   ·omega
  exact ⟨_,noS,_,rfl,.inr ⟨hn,rfl,rfl⟩,noS_at _ _,hb⟩
theorem Runs.short {f:FuncM} {I:InM} {F:Nat} {s:StM} {en:EndM} (h:Runs f I F s en):s.out.length ≤ 4096 ∧ s.arrs.length ≤ 8 ∧ (∀ l ∈ s.arrs,l.length ≤ 4096) ∧ s.vis.length ≤ 512 ∧ s.steps ≤ min F 200000 ∧ 0 ≤ s.checks ∧ (s.out.length:Int) + s.checks ≤ s.steps:=by
 rcases h with ⟨hs,hend⟩ | ⟨_,rfl,_⟩
 ·obtain ⟨hk,hst⟩:=hend.bounds hs
  obtain ⟨_,_,_,h8,h5⟩:=strict_bounds hs
  have hf:=hk.fit
  exact ⟨hf.out,by have:=hf.arrs;omega,hk.short,by have:=hf.vis;omega,hst,hk.told.1,hk.told.2⟩
 ·exact ⟨Nat.zero_le _,Nat.zero_le _,fun l hl => by simp [noS] at hl,Nat.zero_le _,Nat.zero_le _,Int.le_refl _,Int.le_refl _⟩
theorem Runs.reads {f:FuncM} {I:InM} {F:Nat} {s:StM} {en:EndM} {base:Nat} {w:World} {v:Value} (h:Runs f I F s en) (ht:TraceAt base w v s en):TraceR w w.heap.size v s en:=by
 obtain ⟨h1,h2,h3,h4,_⟩:=h.short
 exact ht.reads (by omega) (by omega) (fun l hl => by have:=h3 l hl;omega) (by omega)
end Go.Proofs.YtkaifkjbmdcmlaaGreat

namespace Go.Proofs.YtkaifkjbmdcmlaaGreat
open Go.ChangeShapes Go.WideShapes Go.ChangeAt Go.RowKit Go.Deep
section
variable {H:Type} {enc:TypeId × Value → H} {w:World}
theorem bytes22:Tryz.prog.bytesOf 22=24:=by kernel_rfl
theorem cellsI:Tryz.prog.cellsOf 26=1:=by kernel_rfl
theorem cellsIn:Tryz.prog.cellsOf 28=2:=by kernel_rfl
theorem rd_cap {fuel:Nat} {v:Value} {x:DataW H × List MemPlace} (h:Rd enc w fuel 22 [v] x):∀ A n c,v=.slice A n c → n ≤ c:=by
 intro A n c e
 rcases open_ints Tryz.underlying22 Tryz.underlying3 cells3 h with ⟨hv,_⟩ | ⟨a,len',cap',zs,hv,_,hl,hm,hz,_⟩
 ·injection hv with hv
  subst hv
  injection e with _ e1 e2
  omega
 ·injection hv with hv
  subst hv
  injection e with _ e1 e2
  simp only [if_true] at hz
  omega
theorem rd_lists {fuel:Nat} {v:Value} {x:DataW H × List MemPlace} (h:Rd enc w fuel 26 [v] x) (hs:Sz 26 x.1):∃ xs,ArrsR w w.heap.size v xs:=by
 obtain ⟨A,n,cap,rfl,hn,hk⟩:=rd_slice Tryz.underlying26 cells22 (by rw [bytes22];omega) (by omega) h hs
 obtain ⟨xs,hl,hps⟩:=list_choose (α:=List Int) (R:=fun k l => ∃ b off lv,A=some ⟨b,off,none⟩ ∧ b < w.heap.size ∧ w.cell? ⟨b,off + k,none⟩=some lv ∧ Ints w w.heap.size lv l ∧ ∀ A2 n2 c2,lv=.slice A2 n2 c2 → n2 ≤ c2) n (fun k hlt => by
   obtain ⟨b,off,cs,f,y,hA,hb,hlen,hc,hr,hz⟩:=hk k hlt
   obtain ⟨c0,rfl⟩:∃ c0,cs=[c0]:=by
    match cs,hlen with
    | [a],_ => exact ⟨a,rfl⟩
   obtain ⟨l,hi,_⟩:=rd_ints hr hz
   exact ⟨l,b,off,c0,hA,hb,by have:=hc 0 (by omega);rw [Nat.mul_one,Nat.add_zero] at this;exact this,hi,rd_cap hr⟩)
 subst hl
 exact ⟨xs,A,cap,rfl,hn,fun k l hk => hps k l hk⟩
structure InIn (w:World) (I:InM) (av rv:Value):Prop where
 args:Ints w w.heap.size av I.args
 arrs:ArrsR w w.heap.size rv I.arrs
set_option maxRecDepth 100000 in
theorem open_input {ts:List TypeId} {ds:List (DataW H)} {base:Nat} {v:Value} {d:DataW H} {p:List MemPlace} (hok:Value.okWide Tryz.prog w .any base 28 v) (h:DataW.Trod enc Tryz.prog w 0 (fun _ => true) true 28 v d p)
  (hsz:(DataW.weightsEach Tryz.prog ts ds).all (· ≤ reachBytes)=true) {j:Nat} (ht:ts[j]?=some 28) (hd:ds[j]?=some d) :
  ∃ (I:InM) (av rv:Value),v=.agg #[av,rv] ∧ InIn w I av rv:=by
 obtain ⟨cs,rfl,_⟩:=okWide_struct Tryz.underlying28 hok
 obtain ⟨fuel,hf⟩:=h
 have hs:Sz 28 d:=by
  intro n hn
  have h1:=List.all_eq_true.1 hsz n (DataW.weights_mem_each ht hd n hn)
  rw [decide_eq_true_eq] at h1
  exact h1
 have hf':Rd enc w fuel 28 cs.toList (d,p):=hf
 obtain ⟨ys,n,_,hx,hlen,_,hg⟩:=DataW.trod_struct Tryz.underlying28 hf'
 rw [cellsIn] at hlen
 obtain ⟨l,hl⟩:∃ l,l=cs.toList:=⟨_,rfl⟩
 rw [← hl] at hlen hf'
 obtain ⟨c0,c1,rfl⟩:∃ c0 c1,l=[c0,c1]:=by
  match l,hlen with
  | [a,b],_ => exact ⟨a,b,rfl⟩
 obtain ⟨n0,y0,r0,z0⟩:=rd_field1 Tryz.underlying28 hf' hs 0 rfl 22 rfl 0 rfl cells22 rfl
 obtain ⟨n1,y1,r1,z1⟩:=rd_field1 Tryz.underlying28 hf' hs 1 rfl 26 rfl 1 rfl cellsI rfl
 obtain ⟨xs,hxs,_⟩:=rd_ints r0 z0
 obtain ⟨ls,hls⟩:=rd_lists r1 z1
 refine ⟨⟨xs,ls⟩,c0,c1,?_,hxs,hls⟩
 congr 1
 rw [← Array.toArray_toList (xs:=cs),← hl]
end
end Go.Proofs.YtkaifkjbmdcmlaaGreat

namespace Go.Proofs.YtkaifkjbmdcmlaaGreat
open Go.RowKit
def updE (e:Nat → Value) (d:Option Nat) (v:Value):Nat → Value:=fun x => if d=some x then v else e x
def updB (L:Nat → Bool) (i:Nat):Nat → Bool:=fun x => if i=x then true else L x
def putEnv (a:Act):List Nat → (Nat → Value) → Act
 | [],_ => a
 | d :: ds,e => putEnv (a.put (some d) (e d)) ds e
theorem put_twice (a:Act) (d:Nat) (v u:Value):(a.put (some d) v).put (some d) u=a.put (some d) u:=by
 simp [Act.put]
theorem put_swap (a:Act) {d c:Nat} (h:d ≠ c) (v u:Value):(a.put (some d) v).put (some c) u=(a.put (some c) u).put (some d) v:=by
 simp only [Act.put]
 rw [Array.setIfInBounds_comm _ _ h]
theorem putEnv_put:∀ (ds:List Nat) (a:Act) (e:Nat → Value) (d:Nat) (v:Value),d ∉ ds → (putEnv a ds e).put (some d) v=putEnv (a.put (some d) v) ds e
 | [],_,_,_,_,_ => rfl
 | c :: ds,a,e,d,v,h => by
  show (putEnv (a.put (some c) (e c)) ds e).put (some d) v=putEnv ((a.put (some d) v).put (some c) (e c)) ds e
  rw [putEnv_put ds _ e d v (fun hm => h (List.mem_cons_of_mem _ hm)),put_swap a (fun e => h (by rw [e];exact List.mem_cons_self ..))]
theorem putEnv_congr:∀ (ds:List Nat) (a:Act) (e e':Nat → Value),(∀ d ∈ ds,e d=e' d) → putEnv a ds e=putEnv a ds e'
 | [],_,_,_,_ => rfl
 | c :: ds,a,e,e',h => by
  show putEnv (a.put (some c) (e c)) ds e=putEnv (a.put (some c) (e' c)) ds e'
  rw [h c (List.mem_cons_self ..),putEnv_congr ds _ e e' fun d hd => h d (List.mem_cons_of_mem _ hd)]
theorem putEnv_upd:∀ (ds:List Nat) (a:Act) (e:Nat → Value) (d:Nat) (v:Value),ds.Nodup → d ∈ ds → (putEnv a ds e).put (some d) v=putEnv a ds (updE e (some d) v)
 | c :: ds,a,e,d,v,hn,hm => by
  obtain ⟨hc,hn⟩:=List.nodup_cons.1 hn
  show (putEnv (a.put (some c) (e c)) ds e).put (some d) v=putEnv (a.put (some c) (updE e (some d) v c)) ds (updE e (some d) v)
  by_cases h:c=d
  ·subst h
   rw [putEnv_put ds _ e c v hc,put_twice,show updE e (some c) v c=v by simp [updE]]
   refine putEnv_congr ds _ _ _ fun x hx => ?_
   have:c ≠ x:=fun h => hc (by rw [h];exact hx)
   simp [updE,this]
  ·rw [show updE e (some d) v c=e c by simp [updE,Ne.symm h]]
   exact putEnv_upd ds _ e d v hn (by rcases List.mem_cons.1 hm with h' | h';exact absurd h'.symm h;exact h')
theorem putEnv_out:∀ (ds:List Nat) (a:Act) (e:Nat → Value) (d:Nat),d ∉ ds → (putEnv a ds e).eval (.tmp d)=a.eval (.tmp d)
 | [],_,_,_,_ => rfl
 | c :: ds,a,e,d,h => by
  show (putEnv (a.put (some c) (e c)) ds e).eval (.tmp d)=_
  rw [putEnv_out ds _ e d fun hm => h (List.mem_cons_of_mem _ hm)]
  have:c ≠ d:=fun e => h (by rw [e];exact List.mem_cons_self ..)
  simp [Act.put,Act.eval,Array.getD_eq_getD_getElem?,this]
theorem putEnv_in:∀ (ds:List Nat) (a:Act) (e:Nat → Value) (d:Nat),ds.Nodup → d ∈ ds → d < a.tmps.size → (putEnv a ds e).eval (.tmp d)=e d
 | c :: ds,a,e,d,hn,hm,hs => by
  obtain ⟨hc,hn⟩:=List.nodup_cons.1 hn
  show (putEnv (a.put (some c) (e c)) ds e).eval (.tmp d)=_
  by_cases h:c=d
  ·subst h
   rw [putEnv_out ds _ e c hc]
   simp [Act.put,Act.eval,Array.getD_eq_getD_getElem?,hs]
  ·exact putEnv_in ds _ e d hn (by rcases List.mem_cons.1 hm with h' | h';exact absurd h'.symm h;exact h') (by simp [Act.put];exact hs)
theorem putEnv_self:∀ (ds:List Nat) (a:Act),putEnv a ds (fun d => a.eval (.tmp d))=a
 | [],_ => rfl
 | c :: ds,a => by
  show putEnv (a.put (some c) (a.eval (.tmp c))) ds _=a
  have h:a.put (some c) (a.eval (.tmp c))=a:=by
   obtain ⟨t,l⟩:=a
   simp only [Act.put,Act.eval,Act.mk.injEq,and_true]
   apply Array.ext_getElem?
   intro i
   rw [Array.getElem?_setIfInBounds]
   split
   ·rename_i h
    subst h
    split
    ·rename_i h
     simp [h]
    ·rename_i h
     rw [Array.getElem?_eq_none (by omega)]
   ·rfl
  rw [h]
  exact putEnv_self ds a
section
variable {P:Program} {ops:Array Oper} {Q:Exit → Act → World → Prop} {a0:Act} {ds:List Nat} {F:(Nat → Bool) → (Nat → Value) → World → Prop}
def StepOk (P:Program) (ops:Array Oper) (Q:Exit → Act → World → Prop) (a0:Act) (ds:List Nat) (F:(Nat → Bool) → (Nat → Value) → World → Prop) (i:Nat) (o:Oper):Prop :=
 ∀ (L:Nat → Bool) (e:Nat → Value) (w:World) (a:Act),L i=false → (∀ x ∈ o.after.toList,Region.binds .any x=true → L x.on=true) → F L e w →
  (∀ d ∈ ds,a.eval (.tmp d)=e d) → (∀ d,d ∉ ds → a.eval (.tmp d)=a0.eval (.tmp d)) →
  ∀ K:Act → World → Prop,(∀ v w',F (updB L i) (updE e o.dst v) w' → K (a.put o.dst v) w') → if Region.wanted o (yielded ops a.tmps)=true then Oper.wp P o a w K Q else K (a.put o.dst undef) w
def StepsOk (P:Program) (ops:Array Oper) (Q:Exit → Act → World → Prop) (a0:Act) (ds:List Nat) (F:(Nat → Bool) → (Nat → Value) → World → Prop):Nat → List Oper → Prop
 | _,[] => True
 | i,o :: r => StepOk P ops Q a0 ds F i o ∧ StepsOk P ops Q a0 ds F (i + 1) r
theorem steps_at {l:List Oper}:∀ {k:Nat},StepsOk P ops Q a0 ds F k l → ∀ {i:Nat} {o:Oper},l[i]?=some o → StepOk P ops Q a0 ds F (k + i) o:=by
 induction l with
 | nil => intro k _ i o ho;cases ho
 | cons p l ih =>
  intro k h i o ho
  obtain ⟨h1,h2⟩:=(id h:StepOk P ops Q a0 ds F k p ∧ StepsOk P ops Q a0 ds F (k + 1) l)
  cases i with
  | zero =>
   rw [List.getElem?_cons_zero] at ho
   rw [Option.some.inj ho] at h1
   exact h1
  | succ i =>
   rw [List.getElem?_cons_succ] at ho
   have:=ih h2 ho
   rw [show k + (i + 1)=k + 1 + i by omega]
   exact this
def EnvJ (ops:Array Oper) (a0:Act) (ds:List Nat) (F:(Nat → Bool) → (Nat → Value) → World → Prop) (listed:Array Bool) (a:Act) (w:World):Prop :=
 listed.size=ops.size ∧ ∃ e,a=putEnv a0 ds e ∧ F (fun i => listed.getD i true) e w
def dstsB (ops:Array Oper) (ds:List Nat) (n:Nat):Bool:=ops.all fun o => match o.dst with | some d => ds.contains d && decide (d < n) | none => true
theorem count_set {listed:Array Bool} {i:Nat} (hl:i < listed.size) (h0:listed.getD i true=false):∀ l:List Nat,(l.filter fun j => !(listed.setIfInBounds i true).getD j true).length ≤ (l.filter fun j => !listed.getD j true).length ∧ (i ∈ l → (l.filter fun j => !(listed.setIfInBounds i true).getD j true).length < (l.filter fun j => !listed.getD j true).length)
 | [] => ⟨Nat.le_refl _,fun h => by cases h⟩
 | j :: l => by
  obtain ⟨h1,h2⟩:=count_set hl h0 l
  by_cases hij:i=j
  ·subst hij
   have e1:(!(listed.setIfInBounds i true).getD i true)=false:=by simp [hl]
   have e2:(!listed.getD i true)=true:=by rw [h0];rfl
   rw [List.filter_cons,List.filter_cons,e1,e2]
   simp only [Bool.false_eq_true,if_false,if_true,List.length_cons]
   exact ⟨by omega,fun _ => by omega⟩
  ·rw [List.filter_cons,List.filter_cons,getD_set_ne true hij]
   have hm:i ∈ j :: l → i ∈ l:=fun h => by rcases List.mem_cons.1 h with h | h;exact absurd h hij;exact h
   cases hv:listed.getD j true with
   | true =>
    simp only [Bool.not_true,Bool.false_eq_true,if_false]
    exact ⟨h1,fun h => h2 (hm h)⟩
   | false =>
    simp only [Bool.not_false,if_true,List.length_cons]
    exact ⟨by omega,fun h => by have:=h2 (hm h);omega⟩
theorem env_step (hn:ds.Nodup) (hd:dstsB ops ds a0.tmps.size=true) (hds:ds.all (fun d => decide (d < a0.tmps.size))=true) (hF:∀ L L' e w,(∀ i,L i=L' i) → F L e w → F L' e w) (hs:StepsOk P ops Q a0 ds F 0 ops.toList)
  {listed:Array Bool} {a:Act} {w:World} (h:EnvJ ops a0 ds F listed a w) {i:Nat} (hi:i ∈ Region.ready .any ops listed) (K':Act → World → Prop) (hK':∀ a' w',EnvJ ops a0 ds F (listed.setIfInBounds i true) a' w' → K' a' w'):wpOp P ops Q i K' a w:=by
 obtain ⟨h1,e,rfl,hf⟩:=h
 obtain ⟨h0,o,ho,hafter⟩:=mem_ready.1 hi
 have hlt:=(Array.getElem?_eq_some_iff.1 ho).1
 have hst:=steps_at hs (i:=i) (o:=o) (by rw [Array.getElem?_toList];exact ho)
 rw [Nat.zero_add] at hst
 have hdo:∀ d,o.dst=some d → d ∈ ds:=fun d hdd => by
  unfold dstsB at hd
  rw [Array.all_eq_true_iff_forall_mem] at hd
  have:=hd o (Array.mem_of_getElem? ho)
  rw [hdd] at this
  have h2:d ∈ ds ∧ d < a0.tmps.size:=by simpa using this
  exact h2.1
 refine wpOp_step ho fun K hK => ?_
 refine hst (fun i => listed.getD i true) e w (putEnv a0 ds e) h0 (fun x hx hb => ?_) hf (fun d hdd => ?_) (fun d hdd => putEnv_out ds a0 e d hdd) K (fun v w' hf' => ?_)
 ·have h2:=hafter x (by simpa using hx) hb
  rcases Nat.lt_or_ge x.on listed.size with h' | h'
  ·simp [h'] at h2 ⊢;exact h2
  ·simp [Array.getElem?_eq_none h'] at h2
 ·rw [List.all_eq_true] at hds
  exact putEnv_in ds a0 e d hn hdd (by simpa using hds d hdd)
 ·refine hK _ _ (hK' _ _ ⟨by simpa using h1,updE e o.dst v,?_,hF _ _ _ _ (fun j => ?_) hf'⟩)
  ·cases hdst:o.dst with
   | none => exact putEnv_congr ds a0 _ _ fun d _ => by simp [updE]
   | some d => exact putEnv_upd ds a0 e d v hn (hdo d hdst)
  ·unfold updB
   by_cases hij:i=j
   ·subst hij
    simp [h1,hlt]
   ·rw [if_neg hij,getD_set_ne true hij]
theorem wpAny_env (hn:ds.Nodup) (hd:dstsB ops ds a0.tmps.size=true) (hds:ds.all (fun d => decide (d < a0.tmps.size))=true) (hF:∀ L L' e w,(∀ i,L i=L' i) → F L e w → F L' e w) (hs:StepsOk P ops Q a0 ds F 0 ops.toList)
  (hend:∀ e w,F (fun _ => true) e w → Q .normal (putEnv a0 ds e) w) (hall:∀ l:Array Bool,l.size=ops.size → Region.ready .any ops l=[] → ∀ i,l.getD i true=true) (fuel:Nat) :
  ∀ (listed:Array Bool) (a:Act) (w:World),EnvJ ops a0 ds F listed a w → ((List.range ops.size).filter fun i => !listed.getD i true).length ≤ fuel → wpAny P .any ops Q fuel listed a w:=by
 have hfin:∀ (listed:Array Bool) (a:Act) (w:World),EnvJ ops a0 ds F listed a w → Region.ready .any ops listed=[] → Q .normal a w:=fun listed a w ⟨h1,e,h2,hf⟩ hr => by
  rw [h2]
  exact hend e w (hF _ _ e w (fun i => hall listed h1 hr i) hf)
 induction fuel with
 | zero =>
  intro listed a w h hlen
  have hr:Region.ready .any ops listed=[]:=by
   cases hr:Region.ready .any ops listed with
   | nil => rfl
   | cons j r =>
    obtain ⟨h0,o,ho,_⟩:=mem_ready.1 (by rw [hr];exact List.mem_cons_self ..:j ∈ Region.ready .any ops listed)
    have hm:j ∈ (List.range ops.size).filter fun i => !listed.getD i true:=List.mem_filter.2 ⟨List.mem_range.2 (Array.getElem?_eq_some_iff.1 ho).1,by rw [h0];rfl⟩
    have:=List.length_pos_of_mem hm
    omega
  exact ⟨hr,hfin listed a w h hr⟩
 | succ fuel ih =>
  intro listed a w h hlen
  refine ⟨fun hr => hfin listed a w h hr,fun i hi => ?_⟩
  refine env_step hn hd hds hF hs h hi _ fun a' w' h' => ih _ _ _ h' ?_
  obtain ⟨h0,o,ho,_⟩:=mem_ready.1 hi
  have hlt:=(Array.getElem?_eq_some_iff.1 ho).1
  have:=(count_set (listed:=listed) (by rw [h.1];exact hlt) h0 (List.range ops.size)).2 (List.mem_range.2 hlt)
  omega
def fwdB (ops:Array Oper):Bool:=(List.range ops.size).all fun i => match ops[i]? with | some o => o.after.all fun x => !Region.binds .any x || decide (x.on < i) | none => true
theorem fwd_all (h:fwdB ops=true) (l:Array Bool) (hl:l.size=ops.size) (hr:Region.ready .any ops l=[]):∀ i,l.getD i true=true:=by
 intro i
 induction i using Nat.strongRecOn with
 | _ i ih =>
  rcases Nat.lt_or_ge i ops.size with hlt | hge
  ·cases hv:l.getD i true with
   | true => rfl
   | false =>
    exfalso
    have ho:ops[i]?=some ops[i]:=Array.getElem?_eq_getElem hlt
    have:i ∈ Region.ready .any ops l:=mem_ready.2 ⟨hv,ops[i],ho,fun x hx hb => by
     unfold fwdB at h
     rw [List.all_eq_true] at h
     have h2:=h i (List.mem_range.2 hlt)
     rw [ho] at h2
     simp only [Array.all_eq_true_iff_forall_mem] at h2
     have h3:=h2 x hx
     rw [hb] at h3
     have h4:x.on < i:=by simpa using h3
     have h5:=ih x.on h4
     have h6:x.on < l.size:=by omega
     simp [h6] at h5 ⊢
     exact h5⟩
    rw [hr] at this
    cases this
  ·simp [Array.getElem?_eq_none (by omega:l.size ≤ i)]
theorem wp_region_env {id:Nat} {w:World} (hm:P.follows .mixedOrders=true) (ds:List Nat) (F:(Nat → Bool) → (Nat → Value) → World → Prop) (n:Nat) (hsz:a0.tmps.size=n) (hn:ds.Nodup) (hd:dstsB ops ds n=true) (hds:ds.all (fun d => decide (d < n))=true) (hfw:fwdB ops=true)
  (h0:∀ e,F (fun _ => false) e w.drew) (hF:∀ L L' e w,(∀ i,i < ops.size → L i=L' i) → F L e w → F L' e w) (hs:StepsOk P ops Q a0 ds F 0 ops.toList) (hend:∀ e w,F (fun _ => true) e w → Q .normal (putEnv a0 ds e) w) :
  (Code.region id ops true).wp P Q a0 w:=by
 subst hsz
 refine wp_region_any hm (wpAny_env (F:=F) hn hd hds (fun L L' e w h => hF L L' e w fun i _ => h i) hs hend (fwd_all hfw) ops.size _ a0 _ ⟨by simp,_,(putEnv_self ds a0).symm,hF _ _ _ _ (fun i hi => ?_) (h0 _)⟩ ?_)
 ·simp [hi]
 ·exact Nat.le_trans (List.length_filter_le _ _) (by simp)
end
end Go.Proofs.YtkaifkjbmdcmlaaGreat
