/- What InterpSplits rests on, part 13: ICome, INext, ICatch, IRunM, IRunL, Shelf, Ids, IRoom. -/
import Derived.Test.YtkaifkjbmdcmlaaGreatPkInterpSplits12
import Derived.Tactics
import Derived.Tactics2
import Derived.Defers
import Derived.Recover
import Derived.Laws.Pointers
import Derived.Shelf.SlIterI.Nil
import Derived.Shelf.SortM.Plain
import Derived.Shelf.SortM.SortNone

namespace Go.Proofs.YtkaifkjbmdcmlaaGreat
open Go.RowKit Go.Maps
section
variable {c:MachC} {K:Nat → Prop} {w w':World} {val:MVals} {s:StM}
theorem MachR.setVis (h:MachR c K w val s) {gv cv j:Nat} (hv:val .vis=.slice (some ⟨gv,0,none⟩) s.vis.length cv) (v:Int):MachR c K (w.setCell ⟨gv,j,none⟩ (.int .i64 v)) val { s with vis:=s.vis.set j v } ∧ KF K w (w.setCell ⟨gv,j,none⟩ (.int .i64 v)):=by
 refine h.store (t:=.vis) (d:=intRow s.vis) (cap:=cv) rfl hv ?_ (fun t ht => ?_) rfl rfl
 ·show some (intRow _)=_
  unfold intRow
  congr 2
  ·simp
  ·exact map_set_ints _ _ _
 ·cases t with
  | vis => exact absurd rfl ht
  | _ => rfl
structure PhiOk (nv:Nat) (fr:Int) (p:PhiM):Prop where
 mem:fr ∈ p.fr
 len:p.vals.length=p.fr.length
 vals:∀ v ∈ p.vals,0 ≤ v ∧ v < nv
 id:0 ≤ p.id ∧ p.id < nv
theorem idxIs_of {xs:List Int} {x r:Int} (h:IdxIs xs x r) (hm:x ∈ xs):r=(xs.idxOf x:Nat) ∧ xs.idxOf x < xs.length:=by
 rcases h with ⟨_,h⟩ | ⟨k,rfl,hk,hn⟩
 ·exact absurd hm h
 ·have hlt:=(List.getElem?_eq_some_iff.1 hk).1
  have:xs.idxOf x=k:=by
   have h1:xs=xs.take k ++ x :: xs.drop (k + 1):=by
    have:=List.getElem_cons_drop hlt
    rw [(List.getElem?_eq_some_iff.1 hk).2] at this
    rw [this,List.take_append_drop]
   rw [h1,List.idxOf_append,if_neg hn,List.idxOf_cons_self]
   simp
   omega
  rw [this]
  exact ⟨rfl,hlt⟩
def gotRow (g:Int → Int) (fr:Int) (ps:List PhiM) (i:Nat):List Value:=((ps.take i).map fun p => .int .i64 (phiGets g fr p)) ++ List.replicate (ps.length - i) (.int .i64 0)
theorem gotRow_zero (g:Int → Int) (fr:Int) (ps:List PhiM):gotRow g fr ps 0=List.replicate ps.length (.int .i64 0):=by simp [gotRow]
theorem gotRow_next (g:Int → Int) (fr:Int) (ps:List PhiM) {i:Nat} {p:PhiM} (hi:ps[i]?=some p):(gotRow g fr ps i).set i (.int .i64 (phiGets g fr p))=gotRow g fr ps (i + 1):=by
 have hlt:=(List.getElem?_eq_some_iff.1 hi).1
 unfold gotRow
 rw [List.set_append_right _ _ (by simp;omega)]
 simp only [List.length_map,List.length_take]
 rw [show i - min i ps.length=0 by omega,show ps.length - i=(ps.length - (i + 1)) + 1 by omega,List.replicate_succ,List.set_cons_zero,List.take_add_one,hi]
 simp
theorem gotRow_some (g:Int → Int) (fr:Int) (ps:List PhiM) {i j:Nat} (hj:j < ps.length):∃ u,(gotRow g fr ps i)[j]?=some u:=by
 have:j < (gotRow g fr ps i).length:=by unfold gotRow;simp;omega
 exact ⟨_,List.getElem?_eq_getElem this⟩
theorem gotRow_all (g:Int → Int) (fr:Int) (ps:List PhiM) {j:Nat} {p:PhiM} (hj:ps[j]?=some p):(gotRow g fr ps ps.length)[j]?=some (.int .i64 (phiGets g fr p)):=by
 simp [gotRow,hj]
theorem setAll_append (g:Int → Int) (l:List (Int × Int)) (p:Int × Int):setAll g (l ++ [p])=setV (setAll g l) p.1 p.2:=by
 induction l generalizing g with
 | nil => rfl
 | cons a l ih => exact ih _
theorem phi_cells {B:Nat} {pv:Value} {ps:List PhiM} (h:PhisR w B pv ps):∃ A pc,pv=.slice A ps.length pc ∧ ps.length ≤ 140737488351232 ∧ ∀ k p,ps[k]?=some p → ∃ b off FA fc VA vc,A=some ⟨b,off,none⟩ ∧ b < B ∧
  w.cell? ⟨b,off + k * 4,none⟩=some (.int .i64 p.id) ∧ w.cell? ⟨b,off + k * 4 + 1,none⟩=some (.int .i64 p.typ) ∧ w.cell? ⟨b,off + k * 4 + 2,none⟩=some (.slice FA p.fr.length fc) ∧ w.cell? ⟨b,off + k * 4 + 3,none⟩=some (.slice VA p.vals.length vc) ∧
  Ints w B (.slice FA p.fr.length fc) p.fr ∧ Ints w B (.slice VA p.vals.length vc) p.vals:=by
 obtain ⟨A,pc,rfl,hl,hat⟩:=h
 refine ⟨A,pc,rfl,hl,fun k p hp => ?_⟩
 obtain ⟨b,off,fv,vv,e,hb,h0,h1,h2,h3,hf,hv,_,_⟩:=hat k p hp
 have hf':=hf
 have hv':=hv
 obtain ⟨FA,fc,rfl,_⟩:=hf
 obtain ⟨VA,vc,rfl,_⟩:=hv
 exact ⟨b,off,FA,fc,VA,vc,e,hb,h0,h1,h2,h3,hf',hv'⟩
set_option maxRecDepth 100000 in
set_option maxHeartbeats 8000000 in
theorem arrive_any (h:MachR c K w val s) (b:Nat) (fr:Int) (q:BlockM) (hq:c.f.blocks[b]?=some q) (hvis:b < s.vis.length) (hp:∀ p ∈ q.phis,PhiOk c.nv fr p) (hfew:q.phis.length ≤ 4096) :
  Calls Tryz.prog 84 #[.pointer (some ⟨c.m,0,none⟩),.int .i64 b,.int .i64 fr] w fun e w' => e=.returned (.tuple #[]) ∧ MachR c K w' val (arriveM c.f b fr s) ∧ KF K w w':=by
 obtain ⟨i0,hix,hi2⟩:∃ i,Tryz.prog.info? 3=some i ∧ i.zero=some (.int .i64 0) ∧ i.size=1 ∧ i.bytes=8:=⟨_,rfl,rfl,rfl,rfl⟩
 obtain ⟨hz0,hz1,hz2⟩:=hi2
 have H:=hideI h
 have HP:=hideI hp
 obtain ⟨A,cc,hbv,_,hbat⟩:=h.blks
 obtain ⟨bb,boff,pv,cv,tv,rfl,hbb,d0,_,_,_,_,_,hphi,_⟩:=hbat b q hq
 obtain ⟨PA,pc,rfl,hpl,hpat⟩:=phi_cells hphi
 have hbn:b < c.f.blocks.length:=(List.getElem?_eq_some_iff.1 hq).1
 have HQ:Hid (blkM c.f b=q):=hideI (by unfold blkM;rw [List.getD_eq_getElem?_getD,hq];rfl)
 have HPAT:=hideI hpat
 have hrr:mRow s c.nv val .vis=some (intRow s.vis):=rfl
 obtain ⟨gi,ci,hv⟩:=h.slice hrr (by show 0 < s.vis.length;omega)
 have hrc:=h.cell hrr hv (j:=b) hvis
 obtain ⟨x0,x1⟩:=hrc
 have e2:(intRow s.vis).cells[b]?=some (.int .i64 (s.vis.getD b 0)):=by
  show (s.vis.map _)[b]?=_
  rw [List.getElem?_map,List.getD_eq_getElem?_getD,List.getElem?_eq_getElem hvis]
  rfl
 rw [e2] at x0
 have hv:val .vis=.slice (some ⟨gi,0,none⟩) s.vis.length ci:=hv
 have c7:=h.cells 7
 simp only [machCells] at c7
 rw [hv] at c7
 have HV:=hideI hv
 obtain ⟨nvis,hnv⟩:∃ nvis,nvis=s.vis.length:=⟨_,rfl⟩
 rw [← hnv] at c7 hvis
 obtain ⟨v0,hv0⟩:∃ v0,v0=s.vis.getD b 0:=⟨_,rfl⟩
 rw [← hv0] at x0
 have HV0:=hideI hv0
 obtain ⟨W1,hW1⟩:∃ W1,W1=w.setCell ⟨gi,b,none⟩ (.int .i64 (wrap64 (v0 + 1))):=⟨_,rfl⟩
 obtain ⟨s1,hs1⟩:∃ s1:StM,s1={ s with vis:=s.vis.set b (wrap64 (v0 + 1)) }:=⟨_,rfl⟩
 have hm1:MachR c K W1 val s1 ∧ KF K w W1:=by rw [hW1,hs1];exact h.setVis hv (wrap64 (v0 + 1))
 have HM1:=hideI hm1.1
 have HF1:=hideI hm1.2
 have HW1:=hideI hW1
 have HS1:=hideI hs1
 obtain ⟨n,hn⟩:∃ n,n=q.phis.length:=⟨_,rfl⟩
 rw [← hn] at d0 hpl hfew
 have HN:=hideI hn
 obtain ⟨nb,hnb⟩:∃ nb,nb=c.f.blocks.length:=⟨_,rfl⟩
 rw [← hnb] at hbv hbn
 have d1:W1.cell? ⟨bb,boff + b * 6,none⟩=some (.slice PA n pc):=(World.cell?_of_block (a:=⟨bb,boff + b * 6,none⟩) (hm1.2.block bb (h.kB bb hbb))).trans d0
 have c9:=hm1.1.cells 9
 simp only [machCells] at c9
 rw [hbv] at c9
 clear hm1 hW1 hs1 hnb hn hv0 hnv h hp hbat hq hphi hpat hrr e2 hv hbv d0 hbb
 go_enter Tryz.func84,Tryz.ntmps84
 go_upto_region 1 with fail
 rw [← HW1.out]
 clear c7 x0 x1
 go_wp2_with (first
  | (at_make;go_must (refine wpList_make_full _ rfl _ _ 22 rfl W1.heap.size 3 i0 (.int .i64 0) 1 Tryz.underlying22 hix hz0 hz1 .i64 .i64 _ _ n rfl rfl rfl rfl (by rw [hz2];omega) (by unfold maxLen;omega) (Nat.le_refl _) ?_);intro w1 hown1 hg1;go_must (have HB1:Hid (Below W1.heap.size W1 w1):=hideI ((Below.refl _ _).grown hg1 (Nat.le_refl _) (by simp));have HO1:=hideI hown1;clear hown1 hg1 c9 d1)))
 have hW1n:∀ g,g < c.B → g < W1.heap.size:=fun g hg => HM1.out.low g (HM1.out.kB g hg)
 have HLOW:=hideI hW1n
 clear hW1n
 go_loopw [35] (fun u wr => ∃ i:Nat,i ≤ n ∧ u=.int .i64 i ∧ Hid (Below W1.heap.size W1 wr) ∧ Hid (wr.ownsRow W1.heap.size 3 1 (.slice (some ⟨W1.heap.size,0,none⟩) n n) n (gotRow s.val fr q.phis i))) (fun u _ => n - (intOf u).toNat)
 case atStart => exact ⟨0,Nat.zero_le _,rfl,HB1,hideI (by have h1:=HO1.out;rw [Nat.mul_one,madeRow_zero] at h1;rw [gotRow_zero,← HN.out];exact h1)⟩
 case round =>
  obtain ⟨i,hi,rfl,HBr,HOr⟩:=hrel
  have hgl:=(HOr.out.lt W1.heap.size rfl).2
  by_cases hlt:i < n
  ·obtain ⟨p,hpi⟩:∃ p,q.phis[i]?=some p:=⟨_,List.getElem?_eq_getElem (by rw [← HN.out];exact hlt)⟩
   obtain ⟨gb,goff,FA,fc,VA,vc,rfl,hgb,e0,e1,e2,e3,hfr,hvl⟩:=HPAT.out i p hpi
   have hok:=HP.out p (List.mem_of_getElem? hpi)
   have kp:Keeps c.B w wr:=(HF1.out.keeps H.out.kB).trans (Keeps.of_below (HBr.out.mono (by
    rcases Nat.lt_or_ge W1.heap.size c.B with h1 | h1
    ·have:=HLOW.out W1.heap.size h1;omega
    ·exact h1)))
   rw [← kp _ _ hgb] at e0 e1 e2 e3
   have hglt:=World.block_lt_of_cell? wr _ e0
   obtain ⟨W2,hW2⟩:∃ W2,W2=wr.alloc (.cells #[.int .i64 p.id,.int .i64 p.typ,.slice FA p.fr.length fc,.slice VA p.vals.length vc] 119):=⟨_,rfl⟩
   have hB2:Below W1.heap.size W1 W2:=by rw [hW2];exact HBr.out.alloc HBr.out.size _
   have hB2r:Below wr.heap.size wr W2:=by rw [hW2];exact (Below.refl _ _).alloc (Nat.le_refl _) _
   have hbox:W2.heap[wr.heap.size]?=some (.cells #[.int .i64 p.id,.int .i64 p.typ,.slice FA p.fr.length fc,.slice VA p.vals.length vc] 119 (0,0)):=by rw [hW2];exact heap_alloc_new wr _
   have hm2:=HM1.out.below hB2
   have kp2:Keeps c.B w W2:=kp.trans (Keeps.of_below (hB2r.mono (by
    rcases Nat.lt_or_ge wr.heap.size c.B with h1 | h1
    ·have:=HLOW.out wr.heap.size h1;have:=HBr.out.size;omega
    ·exact h1)))
   obtain ⟨k,hk⟩:∃ k,k=p.fr.idxOf fr:=⟨_,rfl⟩
   have hkl:k < p.fr.length:=by rw [hk];exact List.idxOf_lt_length_of_mem hok.mem
   have HIDX:Hid (∀ n,Calls Tryz.prog 144 #[.slice FA p.fr.length fc,.int .i64 fr] (W2.drewN n) fun e w' => e=.returned (.int .i64 k) ∧ w'=W2.drewN n):=hideI fun n =>
    (index_any p.fr c.B _ fr (W2.drewN n) ((hfr.keeps kp2).keeps (fun b o _ => rfl))).mono fun e w' ⟨r,h1,h2,h3⟩ => by
     obtain ⟨h4,_⟩:=idxIs_of h2 hok.mem
     exact ⟨by rw [h1,h4,hk],h3.symm⟩
   obtain ⟨VA',vc',hve,_,hvat⟩:=hvl.keeps kp2
   injection hve with hve1 _ hve3
   subst hve1 hve3
   obtain ⟨vb,voff,rfl,hvb,f0⟩:=hvat k (by rw [hok.len];exact hkl)
   obtain ⟨a,ha⟩:∃ a,p.vals[k]?=some a:=⟨_,List.getElem?_eq_getElem (by rw [hok.len];exact hkl)⟩
   have hga:phiGets s.val fr p=s.val a:=by unfold phiGets;rw [List.getD_eq_getElem?_getD,← hk,ha];rfl
   rw [ha] at f0
   have hna:=hok.vals a (List.mem_of_getElem? ha)
   obtain ⟨gv,cv,j,rfl,hj,hvv,hvc,_,hgm,hgv⟩:=hm2.valAt hna.1 hna.2
   have hsv:s1.val=s.val:=by rw [HS1.out]
   rw [hsv,← hga] at hvc
   have c11:=hm2.cells 11
   simp only [machCells] at c11
   rw [hvv] at c11
   have hx:=row_cells hbox rfl
   have b2:=hx 2
   have b3:=hx 3
   have hOW:W2.ownsRow W1.heap.size 3 1 (.slice (some ⟨W1.heap.size,0,none⟩) n n) n (gotRow s.val fr q.phis i):=by rw [hW2];exact HOr.out.alloc _
   have r0:=World.ownsRow.cellAt hOW i (by omega)
   have r1:=World.ownsRow.frozenAt hOW i
   obtain ⟨u0,hu0⟩:=gotRow_some s.val fr q.phis (i:=i) (j:=i) (by rw [← HN.out];exact hlt)
   rw [hu0] at r0
   have HW2:=hideI hW2
   have HB2:=hideI hB2
   have HOW:=hideI hOW
   have HPI:=hideI hpi
   have z1:¬ gv=W1.heap.size:=fun e => by
    have h1:=HM1.out.own_lt (t:=.vals) rfl (show (val .vals).ownBlock=some gv by rw [hvv];rfl)
    omega
   have z1':¬ W1.heap.size=gv:=fun e => z1 e.symm
   have z2:¬ vb=W1.heap.size:=fun e => by have:=HLOW.out vb hvb;omega
   have z2':¬ W1.heap.size=vb:=fun e => z2 e.symm
   have z3:¬ c.m=W1.heap.size:=fun e => by have:=HM1.out.m_lt;omega
   have z3':¬ W1.heap.size=c.m:=fun e => z3 e.symm
   have z4:¬ wr.heap.size=W1.heap.size:=fun e => by omega
   have z4':¬ W1.heap.size=wr.heap.size:=fun e => z4 e.symm
   have hkv:k < p.vals.length:=by rw [hok.len];exact hkl
   obtain ⟨pvl,hpvl⟩:∃ pvl,pvl=p.vals.length:=⟨_,rfl⟩
   obtain ⟨pfl,hpfl⟩:∃ pfl,pfl=p.fr.length:=⟨_,rfl⟩
   rw [← hpvl] at hkv e3 b3 HW2
   rw [← hpfl] at e2 b2 HW2 HIDX
   obtain ⟨pg,hpg⟩:∃ pg,pg=phiGets s.val fr p:=⟨_,rfl⟩
   rw [← hpg] at hvc
   have HPG:=hideI hpg
   clear hm2 hbox hB2 hB2r kp kp2 hk hkl hvat ha hga hna hsv hok hfr hx hOW hu0 hpi hW2 hvv hvl hgb hvb hpvl hpfl hpg
   go_wp2
   go_upto_region 6 with fail
   rw [← HW2.out]
   clear e0 e1 e2 e3
   go_region_held3 (fun w' => w'.cell? ⟨c.m,11,none⟩=some (.slice (some ⟨gv,0,none⟩) c.nv cv) ∧ w'.cell? ⟨wr.heap.size,2,none⟩=some (.slice FA pfl fc) ∧ w'.cell? ⟨wr.heap.size,3,none⟩=some (.slice (some ⟨vb,voff,none⟩) pvl vc) ∧ w'.cell? ⟨vb,voff + k,none⟩=some (.int .i64 j) ∧ w'.cell? ⟨gv,j,none⟩=some (.int .i64 pg)) (first | go_keep)
    (first | (go_at_call 144;refine (HIDX.out 1).mono ?_;rintro e w4 ⟨rfl,rfl⟩))
   clear c11 b2 b3 f0 hvc r0 r1
   go_wp2
   go_roundw
   case rel =>
    have h7:(W2.drewN 1).ownsRow W1.heap.size 3 1 (.slice (some ⟨W1.heap.size,0,none⟩) n n) n (gotRow s.val fr q.phis i):=HOW.out
    refine ⟨i + 1,by omega,by go_num,hideI ((below_drewN HB2.out 1).setCell (p:=⟨W1.heap.size,i,none⟩) (Nat.le_refl _) _),hideI ?_⟩
    rw [← gotRow_next s.val fr q.phis HPI.out,← HPG.out]
    exact (World.ownsRow.stored h7 i _).1
   case measure => simp [intOf];omega
  ·have hin:i=n:=by omega
   subst hin
   have HM2:=hideI (HM1.out.adds HBr.out)
   have HF2:Hid (KF K w wr):=hideI (HF1.out.trans (KF.of_below HBr.out HM1.out.low))
   have HGOT:Hid (∀ j p,q.phis[j]?=some p → wr.cell? ⟨W1.heap.size,j,none⟩=some (.int .i64 (phiGets s.val fr p))):=hideI fun j p hj => by
    have hjl:=(List.getElem?_eq_some_iff.1 hj).1
    rw [World.ownsRow.cellAt HOr.out j (by rw [HN.out];omega),HN.out]
    exact gotRow_all s.val fr q.phis hj
   have hgl2:=hgl
   clear HOr hgl
   go_wp2
   obtain ⟨wo,rfl⟩:∃ wo:World,wo=wr:=⟨_,rfl⟩
   have HGL:=hideI hgl2
   clear hgl2
   go_loopw [60] (fun u wx => ∃ j:Nat,j ≤ i ∧ u=.int .i64 j ∧ Hid (MachR c (fun b => K b ∨ (W1.heap.size ≤ b ∧ b < wo.heap.size)) wx val { s1 with val:=setAll s.val ((q.phis.take j).map fun p => (p.id,phiGets s.val fr p)) }) ∧ Hid (KF (fun b => K b ∨ (W1.heap.size ≤ b ∧ b < wo.heap.size)) wo wx)) (fun u _ => i - (intOf u).toNat)
   case atStart =>
    have e:s1={ s1 with val:=setAll s.val ((q.phis.take 0).map fun p => (p.id,phiGets s.val fr p)) }:=by rw [HS1.out];rfl
    have h1:=HM2.out
    rw [e] at h1
    exact ⟨0,Nat.zero_le _,rfl,hideI h1,hideI (KF.refl _)⟩
   case round =>
    obtain ⟨j,hj,rfl,HMr,HFr⟩:=hrel
    by_cases hjl:j < i
    ·obtain ⟨p,hpj⟩:∃ p,q.phis[j]?=some p:=⟨_,List.getElem?_eq_getElem (by rw [← HN.out];exact hjl)⟩
     obtain ⟨gb,goff,FA,fc,VA,vc,rfl,hgb,e0,e1,e2,e3,_,_⟩:=HPAT.out j p hpj
     have hok:=HP.out p (List.mem_of_getElem? hpj)
     have kp:Keeps c.B w wr:=(HF2.out.keeps H.out.kB).trans (HFr.out.keeps (fun b hb => .inl (H.out.kB b hb)))
     rw [← kp _ _ hgb] at e0 e1 e2 e3
     have hglt:=World.block_lt_of_cell? wr _ e0
     have g0:wr.cell? ⟨W1.heap.size,j,none⟩=some (.int .i64 (phiGets s.val fr p)):=(World.cell?_of_block (a:=⟨W1.heap.size,j,none⟩) (HFr.out.block _ (.inr ⟨Nat.le_refl _,HGL.out⟩))).trans (HGOT.out j p hpj)
     have hglt2:=World.block_lt_of_cell? wr _ g0
     obtain ⟨W2,hW2⟩:∃ W2,W2=wr.alloc (.cells #[.int .i64 p.id,.int .i64 p.typ,.slice FA p.fr.length fc,.slice VA p.vals.length vc] 119):=⟨_,rfl⟩
     have hB2r:Below wr.heap.size wr W2:=by rw [hW2];exact (Below.refl _ _).alloc (Nat.le_refl _) _
     have hbox:W2.heap[wr.heap.size]?=some (.cells #[.int .i64 p.id,.int .i64 p.typ,.slice FA p.fr.length fc,.slice VA p.vals.length vc] 119 (0,0)):=by rw [hW2];exact heap_alloc_new wr _
     have hm2:=HMr.out.below hB2r
     obtain ⟨gv,cv,k,hk,hkn,hvv,hvc,hvf,hgm,hgv⟩:=hm2.valAt hok.id.1 hok.id.2
     have c11:=hm2.cells 11
     simp only [machCells] at c11
     rw [hvv] at c11
     have b0:=row_cells hbox rfl 0
     rw [hk] at e0 b0 hW2
     have g1:W2.cell? ⟨W1.heap.size,j,none⟩=some (.int .i64 (phiGets s.val fr p)):=(hB2r.cell (p:=⟨W1.heap.size,j,none⟩) hglt2).trans g0
     have HKF:Hid (KF (fun b => K b ∨ (W1.heap.size ≤ b ∧ b < wo.heap.size)) wo W2):=hideI (HFr.out.trans (KF.of_below hB2r HMr.out.low))
     have HM4:=hideI hm2
     have HV:=hideI hvv
     have HPJ:=hideI hpj
     have HKK:=hideI hk
     have HW2:=hideI hW2
     have z1:¬ gv=W1.heap.size:=fun e => (hm2.off .vals _ gv rfl (by rw [hvv];rfl)).2 (.inr ⟨by omega,by rw [e];exact HGL.out⟩)
     have z1':¬ W1.heap.size=gv:=fun e => z1 e.symm
     have z3:¬ c.m=gv:=fun e => hgm e.symm
     have z4:¬ gv=wr.heap.size:=fun e => by
      have h1:=HMr.out.own_lt (t:=.vals) rfl (show (val .vals).ownBlock=some gv by rw [hvv];rfl)
      omega
     have z4':¬ wr.heap.size=gv:=fun e => z4 e.symm
     obtain ⟨pg,hpg⟩:∃ pg,pg=phiGets s.val fr p:=⟨_,rfl⟩
     rw [← hpg] at g1
     have HPG:=hideI hpg
     clear hpj hok kp g0 hB2r hbox hm2 hvv hk hgb hpg hW2
     go_wp2
     go_upto_region 11 with fail
     rw [← HW2.out]
     clear e0 e1 e2 e3
     go_region_held3 (fun w' => w'.cell? ⟨c.m,11,none⟩=some (.slice (some ⟨gv,0,none⟩) c.nv cv) ∧ w'.cell? ⟨wr.heap.size,0,none⟩=some (.int .i64 k) ∧ w'.cell? ⟨W1.heap.size,j,none⟩=some (.int .i64 pg)) (first | go_keep) (first | fail)
     clear c11 b0 g1 hvc hvf
     go_wp2
     go_roundw
     case rel =>
      have h5:=HM4.out.setVal HV.out (j:=k) pg
      refine ⟨j + 1,by omega,by go_num,hideI ?_,hideI ((HKF.out.trans h5.2).drewN 1)⟩
      have h6:=h5.1.drewN 1
      have e:setAll s.val ((q.phis.take (j + 1)).map fun p => (p.id,phiGets s.val fr p))=setV (setAll s.val ((q.phis.take j).map fun p => (p.id,phiGets s.val fr p))) (k:Int) pg:=by
       rw [List.take_add_one,HPJ.out,Option.toList_some,List.map_append,List.map_cons,List.map_nil,setAll_append,HKK.out,← HPG.out]
      rw [e]
      exact h6
     case measure => simp [intOf];omega
    ·have hji:j=i:=by omega
     subst hji
     go_wp2
     go_end0
     refine ⟨rfl,?_,HF2.out.trans (HFr.out.mono (fun b hb => .inl hb))⟩
     have h1:=HMr.out.less (fun b hb => .inl hb) (fun b hb => H.out.kB b hb) H.out.kM
     have e:arriveM c.f b fr s={ s1 with val:=setAll s.val ((q.phis.take j).map fun p => (p.id,phiGets s.val fr p)) }:=by
      unfold arriveM
      rw [HQ.out,HS1.out,HV0.out,HN.out,List.take_length]
     rw [e]
     exact h1
end
end Go.Proofs.YtkaifkjbmdcmlaaGreat

namespace Go.Proofs.YtkaifkjbmdcmlaaGreat
open Go.RowKit Go.Maps
section
variable {c:MachC} {K:Nat → Prop} {w w':World} {val:MVals} {s:StM}
structure TermOk (nv:Nat) (t:TermM):Prop where
 op:t.op=1 ∧ t.to.length=1 ∨ t.op=2 ∧ t.to.length=2 ∨ t.op=3 ∧ t.to.length=0 ∨ t.op=4 ∧ t.to.length=0
 val:t.op=2 ∨ t.op=3 → 0 ≤ t.val ∧ t.val < nv
def termV (t:TermM) (tv:Value):Value:=.agg #[.int .i64 t.op,.int .i64 t.val,tv,.int .i64 t.n]
def nextR (t:TermM) (s:StM):Int ⊕ EndM:=if t.op=3 then .inr (1,s.val t.val,0) else if t.op=4 then .inr (2,0,t.n) else .inl (nextM t s)
def NextPost (c:MachC) (K:Nat → Prop) (w:World) (val:MVals) (s:StM) (t:TermM) (e:Ending) (w':World):Prop :=
 e=(match nextR t s with | .inl v => .returned (.int .i64 v) | .inr en => endE en) ∧ MachR c K w' val s ∧ KF K w w'
set_option maxRecDepth 100000 in
set_option maxHeartbeats 4000000 in
theorem next_any (h:MachR c K w val s) (t:TermM) (tv:Value) (ht:TermOk c.nv t) (htv:Ints w c.B tv t.to) :
  Calls Tryz.prog 87 #[.pointer (some ⟨c.m,0,none⟩),termV t tv] w (NextPost c K w val s t):=by
 obtain ⟨W0,hW0⟩:∃ W0,W0=w.alloc (.cells #[.int .i64 t.op,.int .i64 t.val,tv,.int .i64 t.n] 49):=⟨_,rfl⟩
 have hm:MachR c (fun b => K b ∨ b=w.heap.size) W0 val s:=by rw [hW0];exact h.add _
 have hk1:KF K w W0:=by rw [hW0];exact (KF.refl _).alloc h.low _
 have hbox:W0.heap[w.heap.size]?=some (.cells #[.int .i64 t.op,.int .i64 t.val,tv,.int .i64 t.n] 49 (0,0)):=by rw [hW0];exact heap_alloc_new w _
 have hints:=htv.keeps (hk1.keeps h.kB)
 obtain ⟨P,pc,htv1,_,hat⟩:=hints
 subst htv1
 have H:=hideI h
 have HM:=hideI hm
 have HDONE:Hid (∀ n,MachR c K (W0.drewN n) val s ∧ KF K w (W0.drewN n)):=hideI fun n => ⟨(hm.less (fun b hb => .inl hb) (fun b hb => h.kB b hb) h.kM).drewN n,hk1.drewN n⟩
 have HW0:=hideI hW0
 have hlm:=hm.m_lt
 have q:=row_cells hbox rfl
 have q0:=q 0
 have q1:=q 1
 have q2:=q 2
 have q3:=q 3
 have HT:=hideI ht
 simp only [termV]
 clear q hm hk1 hbox hW0 h htv
 rcases ht.op with ⟨ho,hl⟩ | ⟨ho,hl⟩ | ⟨ho,hl⟩ | ⟨ho,hl⟩
 ·have HR:Hid (nextR t s=.inl (t.to.getD 0 0)):=hideI (by unfold nextR nextM;rw [if_neg (by omega),if_neg (by omega),if_neg (by omega)])
  obtain ⟨b,off,rfl,hb,d0⟩:=hat 0 (by omega)
  rw [show t.to[0]?.getD 0=t.to.getD 0 0 from (List.getD_eq_getElem?_getD ..).symm,Nat.add_zero] at d0
  rw [ho,hl] at HW0
  rw [ho] at q0
  rw [hl] at q2
  rw [ho,hl]
  clear hat ht ho hl
  generalize t.to.getD 0 0=y at d0 HR
  go_enter Tryz.func87,Tryz.ntmps87
  go_upto_region 1 with fail
  rw [← HW0.out]
  go_wp2
  go_ret
  exact ⟨by rw [HR.out];rfl,HDONE.out 0⟩
 ·have hv:=ht.val (.inl ho)
  obtain ⟨b,off,rfl,hb,d0⟩:=hat 0 (by omega)
  obtain ⟨_,_,e,_,d1⟩:=hat 1 (by omega)
  cases e
  rw [show t.to[0]?.getD 0=t.to.getD 0 0 from (List.getD_eq_getElem?_getD ..).symm,Nat.add_zero] at d0
  rw [show t.to[1]?.getD 0=t.to.getD 1 0 from (List.getD_eq_getElem?_getD ..).symm] at d1
  obtain ⟨gv,cv,j,hj,hjn,hvv,hvc,_,hgm,hgv⟩:=HM.out.valAt hv.1 hv.2
  have c11:=HM.out.cells 11
  simp only [machCells] at c11
  rw [hvv] at c11
  rw [ho,hl,hj] at HW0
  rw [ho] at q0
  rw [hj] at q1
  rw [hl] at q2
  by_cases h0:s.val t.val=0
  ·have HR:Hid (nextR t s=.inl (t.to.getD 1 0)):=hideI (by unfold nextR nextM;rw [if_neg (by omega),if_neg (by omega),if_pos ⟨ho,h0⟩])
   rw [h0] at hvc
   rw [ho,hl,hj]
   clear hat ht ho hl hv hj hvv h0
   generalize t.to.getD 1 0=y1 at d1 HR
   generalize t.to.getD 0 0=y0 at d0
   go_enter Tryz.func87,Tryz.ntmps87
   go_upto_region 1 with fail
   rw [← HW0.out]
   go_wp2
   go_quiet (fail)
   go_wp2
   go_ret
   exact ⟨by rw [HR.out];rfl,HDONE.out nq⟩
  ·have HR:Hid (nextR t s=.inl (t.to.getD 0 0)):=hideI (by unfold nextR nextM;rw [if_neg (by omega),if_neg (by omega),if_neg (fun e => h0 e.2)])
   have h1:(s.val t.val == 0)=false:=by simpa using h0
   rw [ho,hl]
   generalize s.val t.val=sv at hvc h1
   rw [hj]
   clear hat ht ho hl hv hj hvv h0
   generalize t.to.getD 1 0=y1 at d1
   generalize t.to.getD 0 0=y0 at d0 HR
   go_enter Tryz.func87,Tryz.ntmps87
   go_upto_region 1 with fail
   rw [← HW0.out]
   go_wp2
   go_quiet (fail)
   go_wp2
   go_ret
   exact ⟨by rw [HR.out];rfl,HDONE.out nq⟩
 ·have hv:=ht.val (.inr ho)
  have HR:Hid (nextR t s=.inr (1,s.val t.val,0)):=hideI (by unfold nextR;rw [if_pos ho])
  obtain ⟨gv,cv,j,hj,hjn,hvv,hvc,_,hgm,hgv⟩:=HM.out.valAt hv.1 hv.2
  have c11:=HM.out.cells 11
  simp only [machCells] at c11
  rw [hvv] at c11
  rw [ho,hj] at HW0
  rw [ho] at q0
  rw [hj] at q1
  rw [ho]
  generalize s.val t.val=sv at hvc HR
  rw [hj]
  clear hat ht ho hl hv hj hvv
  go_enter Tryz.func87,Tryz.ntmps87
  go_upto_region 1 with fail
  rw [← HW0.out]
  go_wp2
  refine wp_region_panics 10 (by kernel_rfl) rfl (by kernel_rfl) (by kernel_rfl) (fun c a w d v h => by cases d <;> exact h) ?_
  simp only [List.take_succ_cons,List.take_zero,List.getElem_toArray,List.getElem_cons_succ,List.getElem_cons_zero]
  repeat (refine wpPure_step (fun K hK => ?_);go_simp;refine hK _ ?_;clear hK K)
  refine wpPure_nil ?_
  rintro w' ⟨n,rfl⟩ K'
  go_simp
  exact ⟨rfl,by rw [HR.out];rfl,HDONE.out n⟩
 ·have HR:Hid (nextR t s=.inr (2,0,t.n)):=hideI (by unfold nextR;rw [if_neg (by omega),if_pos ho])
  rw [ho] at q0 HW0 ⊢
  clear hat ht ho hl
  go_enter Tryz.func87,Tryz.ntmps87
  go_upto_region 1 with fail
  rw [← HW0.out]
  go_wp2_with (first | (go_at_call 148;refine (trap_any _ _ _).mono ?_;rintro e w1 ⟨he,rfl⟩;simp only [endE,endV] at he;subst he))
  exact ⟨rfl,by rw [HR.out];rfl,HDONE.out 0⟩
end
end Go.Proofs.YtkaifkjbmdcmlaaGreat

namespace Go.Proofs.YtkaifkjbmdcmlaaGreat
open Go.RowKit Go.Maps
section
variable {c:MachC} {K:Nat → Prop} {w w':World} {val:MVals} {s:StM}
theorem wpS_seq_region (l:List Nat) {P:Program} {id:Nat} {ops:Array Oper} {y:Code} {Q:Exit → Act → List Frame → World → Prop} {a:Act} {cs:List Frame} {w:World} (hl:List.range ops.size=l)
  (h:∀ N:Exit → Act → List Frame → World → Prop,Hid (∀ a cs w,y.wpS P Q a cs w → N .normal a cs w) → wpOpsS P ops N l a cs w):(Code.seq (Code.region id ops false) y).wpS P Q a cs w :=
 wpS_seq (wpS_region (hl ▸ h (Exit.thenS (y.wpS P Q) Q) (fun _ _ _ h => h)))
theorem wpOpsS_step {P:Program} {ops:Array Oper} {Q:Exit → Act → List Frame → World → Prop} {a:Act} {cs:List Frame} {w:World} {i:Nat} {rest:List Nat} {o:Oper} (ho:ops[i]?=some o)
  (h:∀ K:Act → World → Prop,(∀ a w,wpOpsS P ops Q rest a cs w → K a w) → if Region.wanted o (yielded ops a.tmps)=true then Oper.wp P o a w K (fun e a' w' => Q e a' cs w') else K (a.put o.dst undef) w):wpOpsS P ops Q (i :: rest) a cs w:=by
 have h1:=h _ (fun _ _ h => h)
 simp only [wpOpsS,ho]
 split at h1
 ·rename_i hw
  rw [if_pos hw]
  unfold Oper.wp at h1
  split
  ·rename_i w' hr
   rw [hr] at h1
   exact (h1:False).elim
  ·exact h1
 ·rename_i hw
  rw [if_neg hw]
  exact h1
theorem wpOpsS_recover {P:Program} {ops:Array Oper} {Q:Exit → Act → List Frame → World → Prop} {a:Act} {cs cs':List Frame} {w:World} {i:Nat} {rest:List Nat} {o:Oper} {v:Value} (ho:ops[i]?=some o) (hg:o.guard=none)
  (hr:(execOp a.eval o).run P w=.ok .recover w) (hrec:recoverD cs=some (v,cs')) (h:wpOpsS P ops Q rest (a.put o.dst v) cs' w):wpOpsS P ops Q (i :: rest) a cs w:=by
 have hw:Region.wanted o (yielded ops a.tmps)=true:=by simp [Region.wanted,hg]
 simp only [wpOpsS,ho]
 rw [if_pos hw,hr]
 simp only [hrec]
 exact h
theorem wpOpsS_nil {P:Program} {ops:Array Oper} {Q:Exit → Act → List Frame → World → Prop} {a:Act} {cs:List Frame} {w:World} (h:Q .normal a cs w):wpOpsS P ops Q [] a cs w:=h
theorem run_recover {P:Program} {w:World} (a:Act) (o:Oper) (ho:o.op=Op.call { callee:=Callee.builtin Builtin.recover,args:=#[],argTypes:=#[] }):(execOp a.eval o).run P w=.ok .recover w:=by
 unfold execOp
 simp [ho,resolve,invoke,builtin]
theorem assert_ending (en:EndM) (w:World):(Instr.typeAssert (endV en) 20 142 true).run Tryz.prog w=.ok (.tuple #[.agg #[.int .i64 en.1,.int .i64 en.2.1,.int .i64 en.2.2],.bool true]) w:=by
 unfold endV
 simp [Instr.typeAssert,run_underlying Tryz.underlying142,go_sem,Result.andThen]
structure DoneAt (c:MachC) (val:MVals) (s:StM) (en:EndM) (w:World):Prop where
 blk:∃ o8 o9 o10 o11 o12,w.heap[c.m]?=some (.cells #[.int .i64 en.1,.int .i64 en.2.1,.int .i64 en.2.2,val .out,val .arrs,.int .i64 s.steps,.int .i64 s.checks,val .vis,o8,o9,o10,o11,o12] 84 (0,0))
 rows:∀ t d,mRow s c.nv val t=some d → w.ownsRow 0 d.elem 1 (val t) d.len d.cells
theorem DoneAt.drewN {c:MachC} {val:MVals} {s:StM} {en:EndM} {w:World} (h:DoneAt c val s en w) (n:Nat):DoneAt c val s en (w.drewN n):=⟨h.blk,h.rows⟩
theorem MachR.done (h:MachR c K w val s) (e0 e1 e2:Int):KF K w (((w.setCell ⟨c.m,0,none⟩ (.int .i64 e0)).setCell ⟨c.m,1,none⟩ (.int .i64 e1)).setCell ⟨c.m,2,none⟩ (.int .i64 e2)) ∧
  DoneAt c val s (e0,e1,e2) (((w.setCell ⟨c.m,0,none⟩ (.int .i64 e0)).setCell ⟨c.m,1,none⟩ (.int .i64 e1)).setCell ⟨c.m,2,none⟩ (.int .i64 e2)):=by
 have h0:=heap_setCell_same w c.m 0 _ _ (.int .i64 e0) h.blk
 have h1:=heap_setCell_same _ c.m 1 _ _ (.int .i64 e1) h0
 have h2:=heap_setCell_same _ c.m 2 _ _ (.int .i64 e2) h1
 refine ⟨(((KF.refl w).setCell h.offm _).setCell h.offm _).setCell h.offm _,⟨⟨.map (some c.M),c.bv,.int .i64 c.fuel,val .vals,val .cells,h2.trans ?_⟩,fun t d ht => ?_⟩⟩
 ·unfold machCells
  simp
 ·have hne:(val t).ownBlock ≠ some c.m:=fun e => (h.off t d _ ht e).1 rfl
  exact ownsRow_setCell_other (a:=⟨c.m,2,none⟩) (ownsRow_setCell_other (a:=⟨c.m,1,none⟩) (ownsRow_setCell_other (a:=⟨c.m,0,none⟩) (h.rows t d ht) hne _) hne _) hne _
set_option maxRecDepth 100000 in
set_option maxHeartbeats 4000000 in
theorem catch_any (h:MachR c K w val s) (g:Nat) (hg:K g) (hbox:w.cell? ⟨g,0,none⟩=some (.pointer (some ⟨c.m,0,none⟩))) (e0 e1 e2:Int) (older:List PanicEntry) :
  CallsD Tryz.prog 83 #[.pointer (some ⟨g,0,none⟩)] (.panicking ({ v:=endV (e0,e1,e2),recovered:=false } :: older)) w fun e u' w' =>
   e=.returned (.tuple #[]) ∧ u'=.panicking ({ v:=endV (e0,e1,e2),recovered:=true } :: older) ∧ KF K w w' ∧ DoneAt c val s (e0,e1,e2) w':=by
 refine callsD_of_wpS Tryz.func83 rfl fun c₀ cs hu => ?_
 simp only [Tryz.ntmps83,List.size_toArray,List.length_cons,List.length_nil,Nat.reduceAdd,Nat.reduceSub,Array.replicate_succ,
    Array.replicate_zero,List.push_toArray,List.append_toArray,List.nil_append,List.cons_append]
 have hlm:=h.m_lt
 have hgl:=h.low g hg
 have hcl:=h.cells
 have H:=hideI h
 simp only [machCells] at hcl
 clear h
 refine wpS_seq_region [0,1,2,3,4,5,6,7] (by kernel_rfl) fun N hN => ?_
 have hta:=assert_ending
 obtain ⟨c1,hc1⟩:∃ c1:Frame,c1={ c₀ with mode:=.panicking ({ v:=endV (e0,e1,e2),recovered:=true } :: older) }:=⟨_,rfl⟩
 have hrec:recoverD (c₀ :: cs)=some (endV (e0,e1,e2),c1 :: cs):=by
  rw [hc1]
  simp only [recoverD,hu]
 have hta:=assert_ending (e0,e1,e2)
 have HC1:=hideI hc1
 clear hu hc1
 obtain ⟨VV,hVV⟩:∃ VV,VV=endV (e0,e1,e2):=⟨_,rfl⟩
 rw [← hVV] at hrec hta
 clear hVV
 apply wpOpsS_recover (cs':=c1 :: cs)
 case ho => rfl
 case hg => rfl
 case hr => exact run_recover _ _ rfl
 case hrec => exact hrec
 case h =>
  simp only [Act.put,List.setIfInBounds_toArray]
  clear hrec
  repeat (refine wpOpsS_step rfl (fun K hK => ?_);go_simp;refine hK _ _ ?_;clear hK K)
  refine wpOpsS_nil (hN.out _ _ _ ?_)
  clear hN N hta
  refine wpS_seq_region [0] (by kernel_rfl) fun N hN => ?_
  repeat (refine wpOpsS_step rfl (fun K hK => ?_);go_simp;refine hK _ _ ?_;clear hK K)
  refine wpOpsS_nil (hN.out _ _ _ ?_)
  clear hN N
  refine wpS_cond (t:=true) (by simp [Act.eval]) ?_
  simp only [if_true]
  refine wpS_of_wp ?_
  obtain ⟨W0,hW0⟩:∃ W0,W0=w.alloc (.cells #[.int .i64 e0,.int .i64 e1,.int .i64 e2] 142):=⟨_,rfl⟩
  have hm0:MachR c (fun b => K b ∨ b=w.heap.size) W0 val s:=by rw [hW0];exact H.out.add _
  have hk0:KF K w W0:=by rw [hW0];exact (KF.refl _).alloc H.out.low _
  have hb0:W0.heap[w.heap.size]?=some (.cells #[.int .i64 e0,.int .i64 e1,.int .i64 e2] 142 (0,0)):=by rw [hW0];exact heap_alloc_new w _
  rw [← hW0]
  have hx:=row_cells hb0 rfl
  have b0:=hx 0
  have b1:=hx 1
  have b2:=hx 2
  have bg:W0.cell? ⟨g,0,none⟩=some (.pointer (some ⟨c.m,0,none⟩)):=(World.cell?_of_block (a:=⟨g,0,none⟩) (hk0.block g hg)).trans hbox
  have m0:=hm0.cells 0
  have m1:=hm0.cells 1
  have m2:=hm0.cells 2
  simp only [machCells] at m0 m1 m2
  have f0:=hm0.free 0
  have f1:=hm0.free 1
  have f2:=hm0.free 2
  have z1:¬ c.m=g:=fun e => H.out.offm (e ▸ hg)
  have z1':¬ g=c.m:=fun e => z1 e.symm
  have z2:¬ c.m=w.heap.size:=fun e => by omega
  have z2':¬ w.heap.size=c.m:=fun e => z2 e.symm
  have HM0:=hideI hm0
  have HK0:=hideI hk0
  clear hx hm0 hk0 hb0 hW0 hcl hbox
  go_region_held3 (fun w' => w'.cell? ⟨g,0,none⟩=some (.pointer (some ⟨c.m,0,none⟩)) ∧ w'.cell? ⟨w.heap.size,0,none⟩=some (.int .i64 e0) ∧ w'.cell? ⟨w.heap.size,1,none⟩=some (.int .i64 e1) ∧ w'.cell? ⟨w.heap.size,2,none⟩=some (.int .i64 e2)) (first | go_keep) (first | fail)
  obtain ⟨d1,d2⟩:=HM0.out.done e0 e1 e2
  exact ⟨rfl,_,by rw [HC1.out],_,results_none rfl _ _ _,rfl,rfl,HK0.out.trans ((d1.mono (fun b hb => .inl hb)).drewN 1),d2.drewN 1⟩
end
end Go.Proofs.YtkaifkjbmdcmlaaGreat

namespace Go.Proofs.YtkaifkjbmdcmlaaGreat
open Go.RowKit Go.Maps
structure CodeOk (na nc nv:Nat) (x:InstrM):Prop where
 args:∀ i ∈ x.args,0 ≤ i ∧ i < nv
 len:x.args.length=(takesS x.op).length
 isop:isOp x.op=true
 arr:kindS x.op=3 → 0 ≤ x.n ∧ x.n < na
 cell:kindS x.op=4 → 0 ≤ x.n ∧ x.n < nc
 id:makesS x.op ≠ 0 → 0 ≤ x.id ∧ x.id < nv
 few:x.args.length ≤ 3
structure FOk (f:FuncM) (nv:Nat):Prop where
 code:∀ (b:Nat) (q:BlockM),f.blocks[b]?=some q → ∀ x ∈ q.code,CodeOk f.arrays.toNat f.cells.toNat nv x
 term:∀ (b:Nat) (q:BlockM),f.blocks[b]?=some q → TermOk nv q.term
 goes:∀ (b:Nat) (q:BlockM),f.blocks[b]?=some q → ∀ t ∈ q.term.to,∃ (t':Nat),t=t' ∧ t' < f.blocks.length ∧ ∀ q',f.blocks[t']?=some q' → ∀ p ∈ q'.phis,PhiOk nv b p
 phis:∀ (b:Nat) (q:BlockM),f.blocks[b]?=some q → q.phis.length ≤ 4096
 codes:∀ (b:Nat) (q:BlockM),f.blocks[b]?=some q → q.code.length ≤ 4096
 first:0 < f.blocks.length ∧ ∀ q,f.blocks[0]?=some q → q.phis=[]
structure Fit (f:FuncM) (s:StM):Prop where
 arrs:s.arrs.length=f.arrays.toNat
 cells:s.cells.length=f.cells.toNat
 vis:s.vis.length=f.blocks.length
 out:s.out.length ≤ 4096
section
variable {f:FuncM} {s:StM} {nv:Nat}
theorem Fit.tick (h:Fit f s):Fit f (tickM s):=⟨h.arrs,h.cells,h.vis,h.out⟩
theorem Fit.arrive (h:Fit f s) (b:Nat) (fr:Int):Fit f (arriveM f b fr s):=⟨h.arrs,h.cells,by unfold arriveM;simp [h.vis],h.out⟩
theorem Fit.look (h:Fit f s) (op:Int):Fit f (lookS op s):=by unfold lookS;split <;> exact ⟨h.arrs,h.cells,h.vis,h.out⟩
theorem made_fit (h:Fit f s) (x:InstrM) (a:List Int):Fit f (madeM x a s).1:=by
 unfold madeM
 repeat' split
 all_goals first | exact h | exact h.look _
theorem Fit.done (h:Fit f s) (x:InstrM):Fit f (doM x s).1:=by
 have hm:=made_fit h x (x.args.map s.val)
 unfold doM
 simp only
 repeat' split
 ·exact ⟨by simp [h.arrs],(h.look x.op).cells,(h.look x.op).vis,(h.look x.op).out⟩
 ·exact h.look _
 ·exact h
 ·rename_i h4
  refine ⟨h.arrs,h.cells,h.vis,?_⟩
  have:=h.out
  simp
  omega
 ·exact ⟨h.arrs,by simp [h.cells],h.vis,h.out⟩
 ·rename_i h5
  rw [h5] at hm
  exact ⟨hm.arrs,hm.cells,hm.vis,hm.out⟩
 ·rename_i h5
  rw [h5] at hm
  exact hm
theorem CodeOk.instr {x:InstrM} (h:CodeOk f.arrays.toNat f.cells.toNat nv x) (hs:Fit f s):InstrOk s nv x :=
 ⟨h.args,h.len,h.isop,fun e => by have:=h.arr e;have:=hs.arrs;omega,fun e => by have:=h.cell e;have:=hs.cells;omega,h.id⟩
theorem blk_at {b:Nat} {q:BlockM} (h:f.blocks[b]?=some q):blkM f b=q:=by unfold blkM;rw [List.getD_eq_getElem?_getD,h];rfl
def EndIs (f:FuncM) (I:InM) (F:Nat) (s:StM) (en:EndM):Prop:=(goN f F (startM f I)).s=s ∧ finM (goN f F (startM f I))=en
def Reach (f:FuncM) (I:InM) (n:Nat) (c:CfgM):Prop:=goN f n (startM f I)=c
theorem Reach.next {I:InM} {n:Nat} {c:CfgM} (h:Reach f I n c):Reach f I (n + 1) (goM f c):=by
 unfold Reach at *
 show goM f (goN f n _)=_
 rw [h]
theorem Reach.stop {I:InM} {F b k:Nat} (h:Reach f I F ⟨s,b,k,none⟩):EndIs f I F s (3,0,0):=by
 unfold EndIs
 unfold Reach at h
 rw [h]
 exact ⟨rfl,rfl⟩
theorem Reach.fin {I:InM} {n F b k:Nat} {en:EndM} (h:Reach f I n ⟨s,b,k,some en⟩) (hn:n ≤ F):EndIs f I F s en:=by
 unfold EndIs
 unfold Reach at h
 rw [goN_ended hn (by rw [h];simp),h]
 exact ⟨rfl,rfl⟩
theorem Reach.code {I:InM} {b k:Nat} {q:BlockM} {x:InstrM} (h:Reach f I s.steps ⟨s,b,k,none⟩) (hq:f.blocks[b]?=some q) (hx:q.code[k]?=some x) :
  Reach f I (s.steps + 1) ⟨(doM x (tickM s)).1,b,k + 1,(doM x (tickM s)).2⟩:=by
 have h1:=h.next
 unfold goM at h1
 simp only [blk_at hq,hx] at h1
 exact h1
theorem Reach.leave {I:InM} {b k:Nat} {q:BlockM} (h:Reach f I s.steps ⟨s,b,k,none⟩) (hq:f.blocks[b]?=some q) (hx:q.code.length ≤ k):Reach f I (s.steps + 1) (leaveM f b k (tickM s)):=by
 have h1:=h.next
 unfold goM at h1
 simp only [blk_at hq,List.getElem?_eq_none hx] at h1
 exact h1
theorem leave_fin {b k:Nat} {q:BlockM} {en:EndM} (hq:f.blocks[b]?=some q) (hn:nextR q.term s=.inr en):leaveM f b k s=⟨s,b,k,some en⟩:=by
 unfold nextR at hn
 unfold leaveM
 simp only [blk_at hq]
 split at hn
 ·rename_i h3
  injection hn with hn
  rw [if_pos h3,hn]
 ·rename_i h3
  split at hn
  ·rename_i h4
   injection hn with hn
   rw [if_neg h3,if_pos h4,hn]
  ·cases hn
theorem leave_go {b k:Nat} {q:BlockM} {t:Int} (hq:f.blocks[b]?=some q) (hn:nextR q.term s=.inl t) (ht:TermOk nv q.term):leaveM f b k s=enterM f t.toNat b s ∧ t ∈ q.term.to:=by
 unfold nextR at hn
 unfold leaveM
 simp only [blk_at hq]
 split at hn
 ·cases hn
 ·rename_i h3
  split at hn
  ·cases hn
  ·rename_i h4
   injection hn with hn
   rw [if_neg h3,if_neg h4,hn]
   refine ⟨rfl,?_⟩
   rw [← hn]
   unfold nextM
   have hm:∀ j,j < q.term.to.length → q.term.to.getD j 0 ∈ q.term.to:=fun j hj => by
    rw [List.getD_eq_getElem?_getD,List.getElem?_eq_getElem hj]
    exact List.getElem_mem hj
   rcases ht.op with ⟨_,h5⟩ | ⟨h6,h5⟩ | ⟨h6,_⟩ | ⟨h6,_⟩
   ·split
    ·rename_i h7;omega
    ·exact hm 0 (by omega)
   ·split
    ·exact hm 1 (by omega)
    ·exact hm 0 (by omega)
   ·exact absurd h6 h3
   ·exact absurd h6 h4
end
end Go.Proofs.YtkaifkjbmdcmlaaGreat

namespace Go.Proofs.YtkaifkjbmdcmlaaGreat
open Go.RowKit Go.Maps
section
variable {P:Program}
theorem results_same {fn:Func} (h:fn.results=#[]) (t t':Array Value):results fn t=results fn t':=by unfold results;simp [h]
theorem leaves_tmps {fn:Func} {t t':Array Value} {R:Ending → World → Prop} (h:fn.results=#[]):∀ (ds:List Deferred) (u:FrameMode) (w:World),Leaves P fn t R ds u w → Leaves P fn t' R ds u w:=by
 intro ds
 induction ds with
 | nil =>
  intro u w hl
  cases u with
  | run => exact hl
  | returning =>
   obtain ⟨v,hr,hR⟩:=hl
   exact ⟨v,by rw [results_same h t' t];exact hr,hR⟩
  | panicking chain => exact hl
 | cons d ds ih =>
  intro u w hl
  obtain ⟨h1,fv,cap,f,args,ht,hi,hc⟩:=hl
  refine ⟨h1,fv,cap,f,args,ht,hi,hc.mono fun e u' w' hh => ?_⟩
  cases e with
  | returned v => exact ih _ _ hh
  | panicked c => exact ih _ _ hh
  | outgrown => exact hh
theorem post_frameD {fn:Func} {R:Ending → World → Prop} (h:fn.results=#[]):∀ c a w d v,bodyPostD P fn R (.panic c) (Act.put a d v) w → bodyPostD P fn R (.panic c) a w:=by
 intro c a w d v hh
 cases d with
 | none => exact hh
 | some t => exact leaves_tmps h _ _ _ hh
end
section
variable {c:MachC} {K K1:Nat → Prop} {w w':World} {val:MVals} {s:StM}
def RunPost (c:MachC) (K:Nat → Prop) (I:InM) (F:Nat) (w:World) (e:Ending) (w':World):Prop :=
 e=.returned (.tuple #[]) ∧ ∃ val s en,EndIs c.f I F s en ∧ DoneAt c val s en w' ∧ (∀ t d g,mRow s c.nv val t=some d → (val t).ownBlock=some g → ¬ K g) ∧ KF K w w'
theorem run_end (h:MachR c K1 w' val s) (hk:KF K w w') (hK:∀ b,K b → K1 b) {g:Nat} (hg:K1 g) (hbox:w'.cell? ⟨g,0,none⟩=some (.pointer (some ⟨c.m,0,none⟩))) {I:InM} {F:Nat} {e0 e1 e2:Int} (he:EndIs c.f I F s (e0,e1,e2)) (tmps:Array Value) :
  Leaves Tryz.prog Tryz.f42 tmps (RunPost c K I F w) [{ target:=.fn (.func 83) #[.pointer (some ⟨g,0,none⟩)],args:=#[] }] (.panicking [{ v:=endV (e0,e1,e2),recovered:=false }]) w':=by
 refine leaves_cons (f:=83) (args:=#[.pointer (some ⟨g,0,none⟩)]) (by simp) (by kernel_rfl) ?_
 refine (catch_any h g hg hbox e0 e1 e2 []).mono ?_
 rintro e u' w2 ⟨rfl,rfl,hk2,hd⟩
 refine ⟨.tuple #[],results_none rfl _ _ _,rfl,val,s,(e0,e1,e2),he,hd,(fun t d g h1 h2 h3 => (h.off t d g h1 h2).2 (hK g h3)),hk.trans (hk2.mono hK)⟩
structure OutSt (c:MachC) (K1:Nat → Prop) (I:InM) (F:Nat) (W0 wr:World) (val:MVals) (s:StM) (b:Nat) (fr:Int):Prop where
 m:MachR c K1 wr val s
 kf:KF K1 W0 wr
 fit:Fit c.f s
 phis:∀ q,c.f.blocks[b]?=some q → ∀ p ∈ q.phis,PhiOk c.nv fr p
 reach:Reach c.f I s.steps (enterM c.f b fr s)
 le:s.steps ≤ F
structure InSt (c:MachC) (K1:Nat → Prop) (I:InM) (F:Nat) (W0 wr:World) (val:MVals) (s:StM) (b k st0:Nat):Prop where
 m:MachR c K1 wr val s
 kf:KF K1 W0 wr
 fit:Fit c.f s
 reach:Reach c.f I s.steps ⟨s,b,k,none⟩
 le:s.steps ≤ F
 ge:st0 ≤ s.steps
theorem code_cells {B:Nat} {cv:Value} {xs:List InstrM} (h:CodeR w B cv xs):∃ A pc,cv=.slice A xs.length pc ∧ ∀ k x,xs[k]?=some x → ∃ b off XA xc,A=some ⟨b,off,none⟩ ∧ b < B ∧
  w.cell? ⟨b,off + k * 4,none⟩=some (.int .i64 x.op) ∧ w.cell? ⟨b,off + k * 4 + 1,none⟩=some (.int .i64 x.id) ∧ w.cell? ⟨b,off + k * 4 + 2,none⟩=some (.slice XA x.args.length xc) ∧ w.cell? ⟨b,off + k * 4 + 3,none⟩=some (.int .i64 x.n) ∧
  Ints w B (.slice XA x.args.length xc) x.args:=by
 obtain ⟨A,pc,rfl,hl,hat⟩:=h
 refine ⟨A,pc,rfl,fun k x hx => ?_⟩
 obtain ⟨b,off,av,e,hb,h0,h1,h2,h3,ha,_⟩:=hat k x hx
 have ha':=ha
 obtain ⟨XA,xc,rfl,_⟩:=ha
 exact ⟨b,off,XA,xc,e,hb,h0,h1,h2,h3,ha'⟩
theorem steps_cell (h:MachR c K w val s):w.cell? ⟨c.m,5,none⟩=some (.int .i64 s.steps):=h.cells 5
set_option maxRecDepth 100000 in
set_option maxHeartbeats 16000000 in
theorem run_any (h:MachR c K w val s) (I:InM) (F:Nat) (hF:c.fuel=F) (hF2:F ≤ 200000) (hok:FOk c.f c.nv) (hfit:Fit c.f s) (hst:s=startS c.f I) :
  Calls Tryz.prog 42 #[.pointer (some ⟨c.m,0,none⟩)] w (RunPost c K I F w):=by
 have hmf:∀ (fn:Fn) (first cap:Array Value) (w:World),(Instr.makeFunc fn first cap).run Tryz.prog w=.ok (.func fn first cap) w:=fun _ _ _ _ => rfl
 obtain ⟨W0,hW0⟩:∃ W0,W0=w.alloc (.cells #[.pointer (some ⟨c.m,0,none⟩)] 79):=⟨_,rfl⟩
 obtain ⟨K1,hK1⟩:∃ K1:Nat → Prop,K1=fun b => K b ∨ b=w.heap.size:=⟨_,rfl⟩
 have hm0:MachR c K1 W0 val s:=by rw [hW0,hK1];exact h.add _
 have hk0:KF K w W0:=by rw [hW0];exact (KF.refl _).alloc h.low _
 have hb0:W0.heap[w.heap.size]?=some (.cells #[.pointer (some ⟨c.m,0,none⟩)] 79 (0,0)):=by rw [hW0];exact heap_alloc_new w _
 have hKG:K1 w.heap.size:=by rw [hK1];exact .inr rfl
 have hKK:∀ b,K b → K1 b:=fun b hb => by rw [hK1];exact .inl hb
 have HBX:Hid (∀ W,KF K1 W0 W → W.cell? ⟨w.heap.size,0,none⟩=some (.pointer (some ⟨c.m,0,none⟩))):=hideI fun W hW => row_cells hb0 (hW.block _ hKG) 0
 have HKG:=hideI hKG
 have HKK:=hideI hKK
 have HK0:=hideI hk0
 have HW0:=hideI hW0
 have HOK:=hideI hok
 have HF:=hideI hF
 have HF2:=hideI hF2
 have HSTART:Hid (OutSt c K1 I F W0 W0 val s 0 (-1)):=hideI ⟨hm0,KF.refl _,hfit,(fun q hq p hp => by rw [hok.first.2 q hq] at hp;cases hp),(by rw [hst];rfl),(by rw [hst];exact Nat.zero_le _)⟩
 have h0:=hok.first.1
 have q0:=HBX.out W0 (KF.refl _)
 clear hm0 hk0 hb0 hW0 h hok hfit hst hF hF2 hKG hKK hK1
 go_enter_defers Tryz.func42,Tryz.ntmps42
 go_upto_region 1 with fail
 rw [← HW0.out]
 clear q0
 go_wp2
 go_loopw [2,3] (fun u v wr => ∃ (b:Nat) (fr:Int) (s:StM) (val:MVals),u=.int .i64 fr ∧ v=.int .i64 b ∧ b < c.f.blocks.length ∧ Hid (OutSt c K1 I F W0 wr val s b fr) ∧ wr.cell? ⟨c.m,5,none⟩=some (.int .i64 s.steps)) (fun _ _ wr => F - (intOf ((wr.cell? ⟨c.m,5,none⟩).getD (.bool false))).toNat)
 case atStart => exact ⟨0,-1,s,val,rfl,rfl,h0,HSTART,steps_cell HSTART.out.m⟩
 case round =>
  obtain ⟨b,fr,s,val,rfl,rfl,hb,HO,h5⟩:=hrel
  obtain ⟨q,hq⟩:∃ q,c.f.blocks[b]?=some q:=⟨_,List.getElem?_eq_getElem hb⟩
  have HQ:=hideI hq
  have HC:=hideI (arrive_any HO.out.m b fr q hq (by rw [HO.out.fit.vis];exact hb) (HO.out.phis q hq) (HOK.out.phis b q hq))
  have H5:=hideI h5
  have g0:=HBX.out wr HO.out.kf
  obtain ⟨A,cc,hbv,_,hbat⟩:=HSTART.out.m.blks
  obtain ⟨bb,boff,pv,cv,tv,rfl,hbb,_,d1,d2,d3,d4,d5,_,hcode,htv,_⟩:=hbat b q hq
  obtain ⟨CA,cc2,rfl,hcat⟩:=code_cells hcode
  have HCAT:=hideI hcat
  have HBV:=hideI hbv
  have HTV:=hideI htv
  obtain ⟨nc,hnc⟩:∃ nc,nc=q.code.length:=⟨_,rfl⟩
  obtain ⟨nb,hnb⟩:∃ nb,nb=c.f.blocks.length:=⟨_,rfl⟩
  rw [← hnc] at d1
  rw [← hnb] at HBV hb
  have HNC:=hideI hnc
  have HNB:=hideI hnb
  have HCELL:Hid (∀ W,KF K1 W0 W → MachR c K1 W val s → True):=hideI fun _ _ _ => trivial
  have HBC:Hid (∀ W,KF K1 W0 W → W.cell? ⟨bb,boff + b * 6 + 1,none⟩=some (.slice CA nc cc2) ∧ W.cell? ⟨bb,boff + b * 6 + 2,none⟩=some (.int .i64 q.term.op) ∧ W.cell? ⟨bb,boff + b * 6 + 3,none⟩=some (.int .i64 q.term.val) ∧ W.cell? ⟨bb,boff + b * 6 + 4,none⟩=some tv ∧ W.cell? ⟨bb,boff + b * 6 + 5,none⟩=some (.int .i64 q.term.n)):=hideI fun W hW => by
   have hk:Keeps c.B W0 W:=hW.keeps HSTART.out.m.kB
   rw [hk _ _ hbb,hk _ _ hbb,hk _ _ hbb,hk _ _ hbb,hk _ _ hbb]
   exact ⟨d1,d2,d3,d4,d5⟩
  have hnc4:nc ≤ 4096:=by rw [hnc];exact HOK.out.codes b q hq
  clear hq h5 hbat hbv hcode hcat d1 d2 d3 d4 d5 htv hnc hnb HCELL
  go_upto_region 4 with (first | (go_at_call 84;refine HC.out.mono ?_;rintro e w1 ⟨rfl,hm1,hf1⟩))
  have HI:Hid (InSt c K1 I F W0 w1 val (arriveM c.f b fr s) b 0 s.steps):=hideI ⟨hm1,HO.out.kf.trans hf1,HO.out.fit.arrive b fr,HO.out.reach,HO.out.le,Nat.le_refl _⟩
  clear g0 hm1 hf1
  have g0:=HBX.out w1 HI.out.kf
  have c9:=HI.out.m.cells 9
  simp only [machCells] at c9
  rw [HBV.out] at c9
  have e1:=(HBC.out w1 HI.out.kf).1
  obtain ⟨st0,hst0⟩:∃ st0,st0=s.steps:=⟨_,rfl⟩
  rw [← hst0] at HI
  have HST0:=hideI hst0
  clear hst0
  go_wp2
  clear g0 c9 e1
  obtain ⟨wo,rfl⟩:∃ wo:World,wo=wr:=⟨_,rfl⟩
  go_loopw [20] (fun u wr => ∃ (k:Nat) (s:StM) (val:MVals),k ≤ nc ∧ u=.int .i64 k ∧ Hid (InSt c K1 I F W0 wr val s b k st0)) (fun u _ => nc - (intOf u).toNat)
  case atStart => exact ⟨0,_,_,Nat.zero_le _,rfl,HI⟩
  case round =>
   obtain ⟨k,s2,val2,hk,rfl,HJ⟩:=hrel
   have g0:=HBX.out wr HJ.out.kf
   by_cases hlt:k < nc
   ·obtain ⟨x,hx⟩:∃ x,q.code[k]?=some x:=⟨_,List.getElem?_eq_getElem (by rw [← HNC.out];exact hlt)⟩
    obtain ⟨xb,xoff,XA,xc,rfl,hxb,e0,e1,e2,e3,hxa⟩:=HCAT.out k x hx
    have kp:Keeps c.B W0 wr:=HJ.out.kf.keeps HSTART.out.m.kB
    rw [← kp _ _ hxb] at e0 e1 e2 e3
    have hxl:=World.block_lt_of_cell? wr _ e0
    obtain ⟨W2,hW2⟩:∃ W2,W2=wr.alloc (.cells #[.int .i64 x.op,.int .i64 x.id,.slice XA x.args.length xc,.int .i64 x.n] 76):=⟨_,rfl⟩
    have hm2:MachR c (fun b => K1 b ∨ b=wr.heap.size) W2 val2 s2:=by rw [hW2];exact HJ.out.m.add _
    have hk2:KF K1 wr W2:=by rw [hW2];exact (KF.refl _).alloc HJ.out.m.low _
    have hb2:W2.heap[wr.heap.size]?=some (.cells #[.int .i64 x.op,.int .i64 x.id,.slice XA x.args.length xc,.int .i64 x.n] 76 (0,0)):=by rw [hW2];exact heap_alloc_new wr _
    have HXA:Hid (Ints W0 c.B (.slice XA x.args.length xc) x.args):=hideI hxa
    have HX:=hideI hx
    have HM2:=hideI hm2
    have HK2:=hideI (HJ.out.kf.trans hk2)
    have HB2:=hideI hb2
    have HXOK:=hideI (HOK.out.code b q HQ.out x (List.mem_of_getElem? hx))
    obtain ⟨na,hna⟩:∃ na,na=x.args.length:=⟨_,rfl⟩
    rw [← hna] at e2 hW2 HB2
    have HNA:=hideI hna
    have HW2:=hideI hW2
    have g2:=HBX.out W2 HK2.out
    clear hx hm2 hk2 hb2 hxa hna hW2 kp hxb
    by_cases hstop:(s2.steps:Int)=c.fuel
    ·have HS:=hideI (step_stop HM2.out hstop)
     have HEND:Hid (EndIs c.f I F s2 (3,0,0)):=hideI (by
      have e:s2.steps=F:=by have:=HF.out;omega
      have h1:=HJ.out.reach
      rw [e] at h1
      exact h1.stop)
     clear hstop
     go_upto_region 7 with fail
     rw [← HW2.out]
     go_wp2_with (first | (go_at_call 85;refine HS.out.mono ?_;rintro e w3 ⟨he,hm1,hf1⟩;simp only [endE,endV] at he;subst he))
     exact run_end hm1 (HK0.out.trans ((HK2.out.mono HKK.out).trans (hf1.mono (fun b hb => .inl (HKK.out b hb))))) (fun b hb => .inl (HKK.out b hb)) (.inl HKG.out) (HBX.out _ (HK2.out.trans (hf1.mono (fun b hb => .inl hb)))) HEND.out _
    ·have hlt2:s2.steps < F:=by have:=HF.out;have:=HJ.out.le;omega
     have HS:=hideI (step_go HM2.out hstop (by have:=HF2.out;omega))
     have HR:=hideI (HJ.out.reach.code HQ.out HX.out)
     have HFI:=hideI (HJ.out.fit.tick)
     have HLT2:=hideI hlt2
     clear hstop hlt2
     have HDO:Hid (∀ W,MachR c (fun b => K1 b ∨ b=wr.heap.size) W val2 (tickM s2) → KF K1 W0 W → Calls Tryz.prog 86 #[.pointer (some ⟨c.m,0,none⟩),.agg #[.int .i64 x.op,.int .i64 x.id,.slice XA na xc,.int .i64 x.n]] W (DoPost c (fun b => K1 b ∨ b=wr.heap.size) W (doM x (tickM s2)))):=hideI fun W h1 h2 => by
      have h3:=do_any h1 x (.slice XA x.args.length xc) (HXOK.out.instr HFI.out) (HXA.out.keeps (h2.keeps HSTART.out.m.kB)) HXOK.out.few HFI.out.out
      unfold boxI at h3
      rw [← HNA.out] at h3
      exact h3
     have HBC2:Hid (∀ W,KF (fun b => K1 b ∨ b=wr.heap.size) W2 W → W.cell? ⟨wr.heap.size,0,none⟩=some (.int .i64 x.op) ∧ W.cell? ⟨wr.heap.size,1,none⟩=some (.int .i64 x.id) ∧ W.cell? ⟨wr.heap.size,2,none⟩=some (.slice XA na xc) ∧ W.cell? ⟨wr.heap.size,3,none⟩=some (.int .i64 x.n)):=hideI fun W hW => by
      have hx:=row_cells HB2.out (hW.block _ (.inr rfl))
      exact ⟨hx 0,hx 1,hx 2,hx 3⟩
     cases hd:(doM x (tickM s2)).2 with
     | none =>
      have HFD:=hideI (HFI.out.done x)
      have HST:=hideI (doM_steps x (tickM s2))
      rw [hd] at HR
      have HD:=hideI hd
      clear hd
      go_upto_region 7 with fail
      rw [← HW2.out]
      go_wp2_with (first
       | (go_at_call 85;refine HS.out.mono ?_;rintro e w3 ⟨rfl,hm1,hf1⟩;have HM3:=hideI hm1;have HF3:=hideI hf1;clear hm1 hf1 e0 e1 e2 e3 g0 g2;have g3:=HBX.out _ (HK2.out.trans (HF3.out.mono (fun b hb => .inl hb)));obtain ⟨i0,i1,i2,i3⟩:=HBC2.out _ HF3.out)
       | (go_at_call 86;refine (HDO.out _ HM3.out (HK2.out.trans (HF3.out.mono (fun b hb => .inl hb)))).mono ?_;rintro e w4 ⟨he,⟨val4,hm4⟩,hf4⟩;rw [HD.out] at he;subst he;have HM4:=hideI hm4;have HF4:=hideI hf4;clear hm4 hf4 g3 i0 i1 i2 i3))
      go_roundw
      case rel => exact ⟨k + 1,_,val4,by omega,by go_num,hideI ⟨HM4.out.less (fun b hb => .inl hb) HSTART.out.m.kB HSTART.out.m.kM,HK2.out.trans ((HF3.out.trans HF4.out).mono (fun b hb => .inl hb)),HFD.out,by rw [HST.out];exact HR.out,by rw [HST.out];exact HLT2.out,by rw [HST.out];exact Nat.le_succ_of_le HJ.out.ge⟩⟩
      case measure => simp [intOf];omega
     | some en =>
      rw [hd] at HR
      obtain ⟨e0',e1',e2'⟩:=en
      have HEND:Hid (EndIs c.f I F (doM x (tickM s2)).1 (e0',e1',e2')):=hideI (HR.out.fin HLT2.out)
      have HD:=hideI hd
      clear hd
      go_upto_region 7 with fail
      rw [← HW2.out]
      go_wp2_with (first
       | (go_at_call 85;refine HS.out.mono ?_;rintro e w3 ⟨rfl,hm1,hf1⟩;have HM3:=hideI hm1;have HF3:=hideI hf1;clear hm1 hf1 e0 e1 e2 e3 g0 g2;have g3:=HBX.out _ (HK2.out.trans (HF3.out.mono (fun b hb => .inl hb)));obtain ⟨i0,i1,i2,i3⟩:=HBC2.out _ HF3.out)
       | (go_at_call 86;refine (HDO.out _ HM3.out (HK2.out.trans (HF3.out.mono (fun b hb => .inl hb)))).mono ?_;rintro e w4 ⟨he,⟨val4,hm4⟩,hf4⟩;rw [HD.out] at he;simp only [endE,endV] at he;subst he;have HM4:=hideI hm4;have HF4:=hideI hf4;clear hm4 hf4 g3 i0 i1 i2 i3))
      have hkf:=HK2.out.trans ((HF3.out.trans HF4.out).mono (fun b hb => .inl hb))
      exact run_end HM4.out (HK0.out.trans (hkf.mono HKK.out)) (fun b hb => .inl (HKK.out b hb)) (.inl HKG.out) (HBX.out _ hkf) HEND.out _
   ·have hkn:k=nc:=by omega
    subst hkn
    have HTOK:=hideI (HOK.out.term b q HQ.out)
    by_cases hstop:(s2.steps:Int)=c.fuel
    ·have HS:=hideI (step_stop HJ.out.m hstop)
     have HEND:Hid (EndIs c.f I F s2 (3,0,0)):=hideI (by
      have e:s2.steps=F:=by have:=HF.out;omega
      have h1:=HJ.out.reach
      rw [e] at h1
      exact h1.stop)
     clear hstop
     go_wp2_with (first | (go_at_call 85;refine HS.out.mono ?_;rintro e w3 ⟨he,hm1,hf1⟩;simp only [endE,endV] at he;subst he))
     exact run_end hm1 (HK0.out.trans ((HJ.out.kf.trans hf1).mono HKK.out)) HKK.out HKG.out (HBX.out _ (HJ.out.kf.trans hf1)) HEND.out _
    ·have hlt2:s2.steps < F:=by have:=HF.out;have:=HJ.out.le;omega
     have HS:=hideI (step_go HJ.out.m hstop (by have:=HF2.out;omega))
     have HR:=hideI (HJ.out.reach.leave HQ.out (by rw [← HNC.out];exact Nat.le_refl _))
     have HFI:=hideI (HJ.out.fit.tick)
     have HLT2:=hideI hlt2
     clear hstop hlt2
     have HNX:Hid (∀ W,MachR c K1 W val2 (tickM s2) → KF K1 W0 W → Calls Tryz.prog 87 #[.pointer (some ⟨c.m,0,none⟩),.agg #[.int .i64 q.term.op,.int .i64 q.term.val,tv,.int .i64 q.term.n]] W (NextPost c K1 W val2 (tickM s2) q.term)):=hideI fun W h1 h2 =>
      next_any h1 q.term tv HTOK.out (HTV.out.keeps (h2.keeps HSTART.out.m.kB))
     go_upto_region 11 with (first
       | (go_at_call 85;refine HS.out.mono ?_;rintro e w3 ⟨rfl,hm1,hf1⟩;have HM3:=hideI hm1;have HF3:=hideI (HJ.out.kf.trans hf1);clear hm1 hf1 g0))
     have g3:=HBX.out w3 HF3.out
     have c9:=HM3.out.cells 9
     simp only [machCells] at c9
     rw [HBV.out] at c9
     obtain ⟨_,i2,i3,i4,i5⟩:=HBC.out w3 HF3.out
     have hbl:=World.block_lt_of_cell? w3 _ i2
     have hgl:=World.block_lt_of_cell? w3 _ g3
     have hml:=HM3.out.m_lt
     cases hn:nextR q.term (tickM s2) with
     | inr en =>
      rw [leave_fin HQ.out hn] at HR
      obtain ⟨e0',e1',e2'⟩:=en
      have HEND:Hid (EndIs c.f I F (tickM s2) (e0',e1',e2')):=hideI (HR.out.fin HLT2.out)
      have HN:=hideI hn
      clear hn
      refine wp_region_panics 10 (by kernel_rfl) rfl (by kernel_rfl) (by kernel_rfl) (fun c a w d v h => post_frameD rfl c a w d v h) ?_
      simp only [List.take_succ_cons,List.take_zero,List.getElem_toArray,List.getElem_cons_succ,List.getElem_cons_zero]
      repeat (refine wpPure_step (fun K hK => ?_);go_simp;refine hK _ ?_;clear hK K)
      refine wpPure_nil ?_
      rintro w' ⟨n,rfl⟩ K'
      go_simp
      refine (HNX.out _ (HM3.out.drewN n) (HF3.out.drewN n)).mono ?_
      rintro e w4 ⟨he,hm4,hf4⟩
      rw [HN.out] at he
      simp only [endE,endV] at he
      subst he
      have hkf:=HF3.out.trans hf4.undrew
      exact run_end hm4 (HK0.out.trans (hkf.mono HKK.out)) HKK.out HKG.out (HBX.out _ hkf) HEND.out _
     | inl t =>
      obtain ⟨hlv,hmem⟩:=leave_go (k:=k) HQ.out hn HTOK.out
      obtain ⟨t',rfl,htl,hphi⟩:=HOK.out.goes b q HQ.out t hmem
      rw [hlv] at HR
      have HN:=hideI hn
      have HPH:=hideI hphi
      rw [← HNB.out] at htl
      have HSS:Hid (∀ W,MachR c K1 W val2 (tickM s2) → KF K1 W0 W → W.cell? ⟨w.heap.size,0,none⟩=some (.pointer (some ⟨c.m,0,none⟩)) ∧ W.cell? ⟨c.m,9,none⟩=some (.slice (some ⟨bb,boff,none⟩) nb cc) ∧ W.cell? ⟨bb,boff + b * 6 + 2,none⟩=some (.int .i64 q.term.op) ∧ W.cell? ⟨bb,boff + b * 6 + 3,none⟩=some (.int .i64 q.term.val) ∧ W.cell? ⟨bb,boff + b * 6 + 4,none⟩=some tv ∧ W.cell? ⟨bb,boff + b * 6 + 5,none⟩=some (.int .i64 q.term.n)):=hideI fun W h1 h2 =>
       ⟨HBX.out W h2,(h1.cells 9).trans (by simp [machCells,HBV.out,HNB.out]),(HBC.out W h2).2⟩
      clear hlv hmem hn hphi
      go_region_held3 (fun w' => w'.cell? ⟨w.heap.size,0,none⟩=some (.pointer (some ⟨c.m,0,none⟩)) ∧ w'.cell? ⟨c.m,9,none⟩=some (.slice (some ⟨bb,boff,none⟩) nb cc) ∧ w'.cell? ⟨bb,boff + b * 6 + 2,none⟩=some (.int .i64 q.term.op) ∧ w'.cell? ⟨bb,boff + b * 6 + 3,none⟩=some (.int .i64 q.term.val) ∧ w'.cell? ⟨bb,boff + b * 6 + 4,none⟩=some tv ∧ w'.cell? ⟨bb,boff + b * 6 + 5,none⟩=some (.int .i64 q.term.n)) (first | exact HSS.out _ HM4.out HF4.out | go_keep)
       (first | (go_at_call 87;refine (HNX.out _ (HM3.out.drewN 1) (HF3.out.drewN 1)).mono ?_;rintro e w4 ⟨he,hm4,hf4⟩;rw [HN.out] at he;obtain rfl:e=.returned (.int .i64 (t':Int)):=he;have HM4:=hideI hm4;have HF4:=hideI (HF3.out.trans hf4.undrew);clear hm4 hf4))
      clear g3 c9 i2 i3 i4 i5
      go_wp2
      go_roundw
      case rel => exact ⟨t',b,tickM s2,val2,rfl,rfl,by rw [← HNB.out];exact htl,hideI ⟨HM4.out,HF4.out,HFI.out,HPH.out,by rw [Int.toNat_natCast] at HR;exact HR.out,HLT2.out⟩,steps_cell HM4.out⟩
      case measure =>
       rw [H5.out,steps_cell HM4.out]
       have h1:=HJ.out.ge
       have h2:=HST0.out
       have h3:=HLT2.out
       have h4:(tickM s2).steps=s2.steps + 1:=rfl
       simp only [Option.getD_some,intOf,Int.toNat_natCast]
       omega
end
end Go.Proofs.YtkaifkjbmdcmlaaGreat

namespace Go.Proofs.YtkaifkjbmdcmlaaGreat
open Go.RowKit Go.Maps Go.Sort Go.Shelf
def keysL_ren:Go.Shelf.Ren:=⟨fun | 7 => 178 | 10 => 194 | n => n,fun | 23 => 154 | 26 => 3 | 3 => 3 | 28 => 228 | 0 => 0 | 27 => 227 | 33 => 92 | 4 => 4 | n => n,fun | n => n⟩
theorem keysL:Go.Proofs.SlLaysZI.n7 Tryz.prog keysL_ren:={
 mixed:=by kernel_rfl,
 f7:=⟨Tryz.f178.name,by decide,Tryz.func178.trans (congrArg some (by kernel_rfl))⟩,
 f10:=⟨Tryz.f194.name,by decide,Tryz.func194.trans (congrArg some (by kernel_rfl))⟩,
 t0:=Tryz.underlying0,
 a0:=Tryz.isAgg0,
 z0:=Tryz.sizeOf0,
 v0:=Tryz.zeroValue0,
 t4:=Tryz.underlying4,
 a4:=Tryz.isAgg4,
 z4:=Tryz.sizeOf4,
 v4:=Tryz.zeroValue4,
 t23:=Tryz.underlying154,
 a23:=Tryz.isAgg154,
 z23:=Tryz.sizeOf154,
 v23:=Tryz.zeroValue154,
 t26:=Tryz.underlying3,
 a26:=Tryz.isAgg3,
 z26:=Tryz.sizeOf3,
 v26:=Tryz.zeroValue3,
 t27:=Tryz.underlying227,
 a27:=Tryz.isAgg227,
 z27:=Tryz.sizeOf227,
 v27:=Tryz.zeroValue227,
 t28:=Tryz.underlying228,
 a28:=Tryz.isAgg228,
 z28:=Tryz.sizeOf228,
 v28:=Tryz.zeroValue228,
 t33:=Tryz.underlying92,
 a33:=Tryz.isAgg92,
 z33:=Tryz.sizeOf92,
 v33:=Tryz.zeroValue92 }
def sortedL_ren:Go.Shelf.Ren:=⟨fun | 6 => 177 | 8 => 192 | 9 => 193 | 11 => 208 | 13 => 201 | 12 => 209 | 23 => 222 | 24 => 223 | 14 => 226 | 15 => 227 | 16 => 228 | 17 => 229 | 18 => 230 | 19 => 231 | 20 => 206 | 21 => 232 | 22 => 233 | 25 => 239 | 26 => 235 | 27 => 236 | 28 => 240 | 29 => 241 | 30 => 202 | 31 => 243 | n => n,fun | 26 => 3 | 28 => 228 | 24 => 22 | 0 => 0 | 3 => 3 | 37 => 97 | 48 => 244 | 50 => 98 | 4 => 4 | 40 => 254 | 39 => 253 | 45 => 173 | 5 => 5 | 9 => 9 | 51 => 267 | 55 => 201 | 57 => 274 | 58 => 275 | 33 => 92 | n => n,fun | n => n⟩
theorem sortedL:Go.Proofs.SlLaysZI.n6 Tryz.prog sortedL_ren:={
 mixed:=by kernel_rfl,
 f6:=⟨Tryz.f177.name,by decide,Tryz.func177.trans (congrArg some (by kernel_rfl))⟩,
 f8:=⟨Tryz.f192.name,by decide,Tryz.func192.trans (congrArg some (by kernel_rfl))⟩,
 f11:=⟨Tryz.f208.name,by decide,Tryz.func208.trans (congrArg some (by kernel_rfl))⟩,
 t0:=Tryz.underlying0,
 a0:=Tryz.isAgg0,
 z0:=Tryz.sizeOf0,
 v0:=Tryz.zeroValue0,
 t24:=Tryz.underlying22,
 a24:=Tryz.isAgg22,
 z24:=Tryz.sizeOf22,
 v24:=Tryz.zeroValue22,
 t26:=Tryz.underlying3,
 a26:=Tryz.isAgg3,
 z26:=Tryz.sizeOf3,
 v26:=Tryz.zeroValue3,
 t28:=Tryz.underlying228,
 a28:=Tryz.isAgg228,
 z28:=Tryz.sizeOf228,
 v28:=Tryz.zeroValue228,
 i26:=by kernel_rfl }
def sortL_ren:Go.Shelf.Ren:=⟨fun | 5 => 193 | 8 => 201 | 7 => 209 | 19 => 222 | 20 => 223 | 10 => 226 | 11 => 227 | 12 => 228 | 13 => 229 | 14 => 230 | 15 => 231 | 16 => 206 | 17 => 232 | 18 => 233 | 30 => 239 | 31 => 235 | 32 => 236 | 33 => 240 | 34 => 241 | 35 => 202 | 40 => 243 | n => n,fun | 23 => 22 | 25 => 3 | 3 => 3 | 32 => 97 | 22 => 22 | 0 => 0 | 44 => 244 | 46 => 98 | 4 => 4 | 36 => 254 | 35 => 253 | 41 => 173 | 5 => 5 | 9 => 9 | 53 => 267 | 57 => 201 | 63 => 274 | 64 => 275 | n => n,fun | n => n⟩
theorem sortL:Go.Proofs.SlLaysM.n5 Tryz.prog sortL_ren:={
 mixed:=by kernel_rfl,
 f5:=⟨Tryz.f193.name,by decide,Tryz.func193.trans (congrArg some (by kernel_rfl))⟩,
 f7:=⟨Tryz.f209.name,by decide,Tryz.func209.trans (congrArg some (by kernel_rfl))⟩,
 f8:=Tryz.func201.trans (congrArg some (by kernel_rfl)),
 f10:=⟨Tryz.f226.name,by decide,Tryz.func226.trans (congrArg some (by kernel_rfl))⟩,
 f11:=⟨Tryz.f227.name,by decide,Tryz.func227.trans (congrArg some (by kernel_rfl))⟩,
 f12:=⟨Tryz.f228.name,by decide,Tryz.func228.trans (congrArg some (by kernel_rfl))⟩,
 f13:=⟨Tryz.f229.name,by decide,Tryz.func229.trans (congrArg some (by kernel_rfl))⟩,
 f14:=⟨Tryz.f230.name,by decide,Tryz.func230.trans (congrArg some (by kernel_rfl))⟩,
 f15:=⟨Tryz.f231.name,by decide,Tryz.func231.trans (congrArg some (by kernel_rfl))⟩,
 f16:=⟨Tryz.f206.name,by decide,Tryz.func206.trans (congrArg some (by kernel_rfl))⟩,
 f17:=⟨Tryz.f232.name,by decide,Tryz.func232.trans (congrArg some (by kernel_rfl))⟩,
 f18:=⟨Tryz.f233.name,by decide,Tryz.func233.trans (congrArg some (by kernel_rfl))⟩,
 f19:=Tryz.func222.trans (congrArg some (by kernel_rfl)),
 f20:=Tryz.func223.trans (congrArg some (by kernel_rfl)),
 f30:=⟨Tryz.f239.name,by decide,Tryz.func239.trans (congrArg some (by kernel_rfl))⟩,
 f31:=Tryz.func235.trans (congrArg some (by kernel_rfl)),
 f32:=Tryz.func236.trans (congrArg some (by kernel_rfl)),
 f33:=⟨Tryz.f240.name,by decide,Tryz.func240.trans (congrArg some (by kernel_rfl))⟩,
 f34:=⟨Tryz.f241.name,by decide,Tryz.func241.trans (congrArg some (by kernel_rfl))⟩,
 f35:=⟨Tryz.f202.name,by decide,Tryz.func202.trans (congrArg some (by kernel_rfl))⟩,
 f40:=⟨Tryz.f243.name,by decide,Tryz.func243.trans (congrArg some (by kernel_rfl))⟩,
 t0:=Tryz.underlying0,
 a0:=Tryz.isAgg0,
 z0:=Tryz.sizeOf0,
 v0:=Tryz.zeroValue0,
 t3:=Tryz.underlying3,
 a3:=Tryz.isAgg3,
 z3:=Tryz.sizeOf3,
 v3:=Tryz.zeroValue3,
 t4:=Tryz.underlying4,
 a4:=Tryz.isAgg4,
 z4:=Tryz.sizeOf4,
 v4:=Tryz.zeroValue4,
 t5:=Tryz.underlying5,
 a5:=Tryz.isAgg5,
 z5:=Tryz.sizeOf5,
 v5:=Tryz.zeroValue5,
 t9:=Tryz.underlying9,
 a9:=Tryz.isAgg9,
 z9:=Tryz.sizeOf9,
 v9:=Tryz.zeroValue9,
 t22:=Tryz.underlying22,
 a22:=Tryz.isAgg22,
 z22:=Tryz.sizeOf22,
 v22:=Tryz.zeroValue22,
 t23:=Tryz.underlying22,
 a23:=Tryz.isAgg22,
 z23:=Tryz.sizeOf22,
 v23:=Tryz.zeroValue22,
 t25:=Tryz.underlying3,
 a25:=Tryz.isAgg3,
 z25:=Tryz.sizeOf3,
 v25:=Tryz.zeroValue3,
 t32:=Tryz.underlying97,
 a32:=Tryz.isAgg97,
 z32:=Tryz.sizeOf97,
 v32:=Tryz.zeroValue97,
 t35:=Tryz.underlying253,
 a35:=Tryz.isAgg253,
 z35:=Tryz.sizeOf253,
 v35:=Tryz.zeroValue253,
 t36:=Tryz.underlying254,
 a36:=Tryz.isAgg254,
 z36:=Tryz.sizeOf254,
 v36:=Tryz.zeroValue254,
 t41:=Tryz.underlying173,
 a41:=Tryz.isAgg173,
 z41:=Tryz.sizeOf173,
 v41:=Tryz.zeroValue173,
 t44:=Tryz.underlying244,
 a44:=Tryz.isAgg244,
 z44:=Tryz.sizeOf244,
 v44:=Tryz.zeroValue244,
 t46:=Tryz.underlying98,
 a46:=Tryz.isAgg98,
 z46:=Tryz.sizeOf98,
 v46:=Tryz.zeroValue98,
 t53:=Tryz.underlying267,
 a53:=Tryz.isAgg267,
 z53:=Tryz.sizeOf267,
 v53:=Tryz.zeroValue267,
 t57:=Tryz.underlying201,
 a57:=Tryz.isAgg201,
 z57:=Tryz.sizeOf201,
 v57:=Tryz.zeroValue201,
 t63:=Tryz.underlying274,
 a63:=Tryz.isAgg274,
 z63:=Tryz.sizeOf274,
 v63:=Tryz.zeroValue274,
 t64:=Tryz.underlying275,
 a64:=Tryz.isAgg275,
 z64:=Tryz.sizeOf275,
 v64:=Tryz.zeroValue275 }
theorem sortsL (m:Nat):AnyZI.SortsIn Tryz.prog sortedL_ren Fence.wide m :=
 ⟨fun blk off cap ss W hH hblk hsz => callsIn_wide.2 (AnyM.slices_Sort_int sortL blk off cap ss W hH hblk hsz),
  fun p cap W => callsIn_wide.2 (AnyM.slices_Sort_int_none sortL p cap W)⟩
end Go.Proofs.YtkaifkjbmdcmlaaGreat

namespace Go.Proofs.YtkaifkjbmdcmlaaGreat
open Go.RowKit Go.Maps Go.Sort Go.Shelf
theorem MapIs.keys {w:World} {M:Nat} {ds:Defs} {D:DataW Unit} (hown:w.ownsMap Tryz.prog 3 (plainElem Tryz.prog 3) M ds.length D) (hat:∀ id z,D.atKey (.int .i64 id) z=match ds.at id with | some t => .lit (.int .i64 t) | none => z) (hn:(ds.map (·.1)).Nodup) :
  (ds.map (·.1)).Perm (intKeys D):=by
 refine CollectedI.perm (left:=fun _ => false) ⟨hn,fun x => ?_⟩ hown lawInt Tryz.underlying3 (fun _ => rfl)
 rw [MapIs.has hat x,at_some]
 simp
theorem mapsKeys (mb:Option Nat) (W:World):Calls Tryz.prog 178 #[.map mb] W fun e w' => e=.returned (.func (.func 194) #[] #[.pointer (some ⟨W.heap.size,0,none⟩)]) ∧ w'=W.alloc (.cells #[.map mb] 154) :=
 (callsIn_wide (n:=5)).1 (AnyZI.keys_in keysL Fence.wide 5 trivial rfl mb W)
theorem sortedKeys' {H:Type} (b nn:Nat) (D0:DataW H) (R:Value → Option (DataW H × List MemPlace)) (w:World) (hown:w.ownsMap Tryz.prog 3 R b nn D0) (hmax:Maps.size D0 ≤ maxLen) (hbytes:Maps.size D0 * 8 ≤ 140737488355328) :
  Calls Tryz.prog 177 #[.func (.func 194) #[] #[.pointer (some ⟨w.heap.size,0,none⟩)]] (w.alloc (.cells #[.map (some b)] 154)) fun e w' => ∃ (v:Value) (ss:List Int),e=.returned v ∧ ss.Perm (intKeys D0) ∧
   w'.ownsRow (w.alloc (.cells #[.map (some b)] 154)).heap.size 3 1 v ss.length ((ss.mergeSort (fun x y => decide (x ≤ y))).map encZ) ∧ (v=.slice none 0 0 ↔ ss=[]) ∧ Below (w.alloc (.cells #[.map (some b)] 154)).heap.size (w.alloc (.cells #[.map (some b)] 154)) w':=by
 have hbl:=hown.lt
 have hseq:SeqGives Fence.wide 2 Tryz.prog 194 #[.pointer (some ⟨w.heap.size,0,none⟩)] encZ (fun ss => ss.Perm (intKeys D0)) (Maps.size D0) (w.alloc (.cells #[.map (some b)] 154)) :=
  AnyZI.keys_gives (ρ:=keysL_ren) { keysL with } Fence.wide _ trivial rfl (by omega) w.heap.size b nn D0 _ (by simp) (by simp) (by
   obtain ⟨es,clock,hb,Ft,hs,hD⟩:=hown
   exact ⟨es,clock,(Below.heap_alloc _ _ b hbl).trans hb,Ft,hs,hD⟩)
 exact (callsIn_wide (n:=5)).1 (AnyZI.sorted_in sortedL Fence.wide 5 trivial trivial trivial trivial rfl (by omega) (sortsL _) (enters_of Tryz.func193 (by kernel_rfl) rfl) 194 #[.pointer (some ⟨w.heap.size,0,none⟩)] trivial (enters_of Tryz.func194 (by kernel_rfl) rfl) _ _ hmax hbytes _ hseq)
theorem sortedKeys {H:Type} (b nn:Nat) (D0:DataW H) (R:Value → Option (DataW H × List MemPlace)) (w:World) (n:Nat) (hn:n=w.heap.size) (hown:w.ownsMap Tryz.prog 3 R b nn D0) (hmax:Maps.size D0 ≤ maxLen) (hbytes:Maps.size D0 * 8 ≤ 140737488355328) :
  Calls Tryz.prog 177 #[.func (.func 194) #[] #[.pointer (some ⟨n,0,none⟩)]] (w.alloc (.cells #[.map (some b)] 154)) fun e w' => ∃ (v:Value) (ss:List Int),e=.returned v ∧ ss.Perm (intKeys D0) ∧
   w'.ownsRow (n + 1) 3 1 v ss.length ((ss.mergeSort (fun x y => decide (x ≤ y))).map encZ) ∧ Below (n + 1) (w.alloc (.cells #[.map (some b)] 154)) w':=by
 subst hn
 refine (sortedKeys' b nn D0 R w hown hmax hbytes).mono ?_
 rintro e w' ⟨v,ss,rfl,hS,hrow,_,hb⟩
 exact ⟨v,ss,rfl,hS,by simpa using hrow,by simpa using hb⟩
def IdsPost (f:FuncM) (w:World) (e:Ending) (w':World):Prop :=
 ∃ v,e=.returned (.tuple #[v,.int .i64 (lookM f).1]) ∧ NewInts w.heap.size w' v (idsOut f) ∧ Below w.heap.size w w'
set_option maxHeartbeats 1000000 in
theorem ids_any (f:FuncM) (B:Nat) (pv bv:Value) (w:World) (hpv:Ints w B pv f.params) (hbv:BlocksR w B bv f.blocks) (hB:B ≤ w.heap.size) (hid:∀ u ∈ usesM f,I64 u.1) :
  Calls Tryz.prog 143 #[.agg #[pv,.int .i64 f.arrays,.int .i64 f.cells,bv]] w (IdsPost f w):=by
 have HP:=hideI hpv
 have HB:=hideI hbv
 have HID:=hideI hid
 obtain ⟨P,pc,rfl,_⟩:=hpv
 obtain ⟨A,c,rfl,_⟩:=hbv
 have hk:Keeps B w (w.alloc (.cells #[.slice P f.params.length pc,.int .i64 f.arrays,.int .i64 f.cells,.slice A f.blocks.length c] 25)):=(Keeps.refl w).alloc hB _
 have HL:=hideI (lookAt_any f B _ _ _ (HP.out.keeps hk) (HB.out.keeps hk) (by simp;omega) HID.out)
 clear hid hk
 go_enter Tryz.func143,Tryz.ntmps143
 go_wp2_with fail
 refine HL.out.mono ?_
 rintro e w1 ⟨hb1,h | h⟩
 ·obtain ⟨h0,M,hM,rfl,hm⟩:=h
  have HB1:=hideI (below_one (hb1.mono (by simp)))
  obtain ⟨D,hown,hD,hwd,hat⟩:=hm
  have hnd:=formed_nodup (look_formed h0)
  have hpm:=MapIs.keys hown hat hnd
  have hsl:=hown.size_le
  have hl:=look_len h0
  have HS:=hideI (sortedKeys M _ D _ _ (w1.heap.size + 1) (by simp) (hown.alloc (.cells #[.slice P f.params.length pc,.int .i64 f.arrays,.int .i64 f.cells,.slice A f.blocks.length c,.map (some M)] 156)) (by unfold maxLen;omega) (by omega))
  have HPM:=hideI hpm
  have HLEN:=hideI hl
  have H0:=hideI h0
  clear hb1 h0 hat hwd hpm hsl hl hnd hown
  go_wp2_with (first
   | (go_at_call 178;refine (mapsKeys _ _).mono ?_;rintro e w2 ⟨rfl,rfl⟩)
   | (go_at_call 177;refine HS.out.mono ?_;rintro e w3 ⟨v,ss,rfl,hS,hrow,hb3⟩;have HR:=hideI hrow;have HSS:=hideI hS;have HB3:=hideI hb3;clear hS hrow hb3))
  go_ret2
  have e1:idsOut f=ss.mergeSort fun x y => decide (x ≤ y):=by
   unfold idsOut idsS
   rw [if_pos H0.out]
   exact mergeSort_of_perm_i (HPM.out.trans HSS.out.symm)
  refine ⟨v,by rw [H0.out];rfl,?_,?_⟩
  ·rw [e1]
   have h1:=newInts_own HR.out (by rw [List.length_mergeSort,HSS.out.length_eq,← HPM.out.length_eq,List.length_map];have:=HLEN.out;omega)
   obtain ⟨A2,c2,hv,hm2,hx2⟩:=h1
   exact ⟨A2,c2,hv,hm2,fun hp => by obtain ⟨g,cs,q1,q2,q3⟩:=hx2 hp;exact ⟨g,cs,q1,by have:=HB1.out.size;omega,q3⟩⟩
  ·exact ((HB1.out.alloc HB1.out.size _).alloc (by have:=HB1.out.size;simp;omega) _).trans (HB3.out.mono (by have:=HB1.out.size;simp;omega))
 ·obtain ⟨h0,rfl⟩:=h
  have HB1:=hideI (below_one (hb1.mono (by simp)))
  have hb:((lookM f).1 != 0)=true:=by simpa using h0
  have H0:=hideI h0
  clear hb1 h0
  go_wp2
  go_ret2
  exact ⟨_,rfl,by unfold idsOut;rw [if_neg H0.out];exact NewInts.nil _ _,HB1.out.alloc HB1.out.size _⟩
end Go.Proofs.YtkaifkjbmdcmlaaGreat

namespace Go.Proofs.YtkaifkjbmdcmlaaGreat
open Go.RowKit Go.Maps
def roomM (f:FuncM):Int:=match (idsOut f).getLast? with | some x => x + 1 | none => 0
set_option maxRecDepth 100000 in
set_option maxHeartbeats 1000000 in
theorem roomFor_any (f:FuncM) (B:Nat) (pv bv:Value) (w:World) (hpv:Ints w B pv f.params) (hbv:BlocksR w B bv f.blocks) (hB:B ≤ w.heap.size) (hid:∀ u ∈ usesM f,I64 u.1) (hr:∀ x ∈ idsOut f,0 ≤ x ∧ x ≤ 1048575) :
  Calls Tryz.prog 80 #[.agg #[pv,.int .i64 f.arrays,.int .i64 f.cells,bv]] w fun e w' => e=.returned (.int .i64 (roomM f)) ∧ Below w.heap.size w w':=by
 have HP:=hideI hpv
 have HB:=hideI hbv
 obtain ⟨P,pc,rfl,_⟩:=hpv
 obtain ⟨A,c,rfl,_⟩:=hbv
 obtain ⟨W0,hW0⟩:∃ W0:World,W0=w.alloc (.cells #[.slice P f.params.length pc,.int .i64 f.arrays,.int .i64 f.cells,.slice A f.blocks.length c] 25):=⟨_,rfl⟩
 have hb0:Below w.heap.size w W0:=by rw [hW0];exact (Below.refl _ w).alloc (Nat.le_refl _) _
 have hx0:W0.heap[w.heap.size]?=some (.cells #[.slice P f.params.length pc,.int .i64 f.arrays,.int .i64 f.cells,.slice A f.blocks.length c] 25 (0,0)):=by rw [hW0];exact heap_alloc_new w _
 have hk:Keeps B w W0:=Keeps.of_below (hb0.mono hB)
 have HC:=hideI (ids_any f B _ _ W0 (HP.out.keeps hk) (HB.out.keeps hk) (Nat.le_trans hB hb0.size) hid)
 have HB0:=hideI hb0
 have HW0:=hideI hW0
 have q:=row_cells hx0 rfl
 have q0:=q 0
 have q1:=q 1
 have q2:=q 2
 have q3:=q 3
 have HR:=hideI hr
 clear q hb0 hx0 hk hW0 hid hr
 obtain ⟨ids,hids⟩:∃ ids,ids=idsOut f:=⟨_,rfl⟩
 have HIDS:=hideI hids
 unfold IdsPost at HC
 rw [← hids] at HC HR
 clear hids
 go_enter Tryz.func80,Tryz.ntmps80
 go_upto_region 1 with fail
 rw [← HW0.out]
 cases hl:ids.getLast? with
 | none =>
  obtain rfl:ids=[]:=by simpa using hl
  have HE:Hid (roomM f=0):=hideI (by unfold roomM;rw [← HIDS.out];rfl)
  clear hl
  go_wp2_with (first | (go_at_call 143;refine HC.out.mono ?_;rintro e w1 ⟨v,rfl,⟨A1,c1,hv,_,_⟩,hb⟩;obtain rfl:v=.slice A1 0 c1:=hv;have HB1:=hideI hb;clear hb))
  go_ret
  exact ⟨by rw [HE.out];rfl,HB0.out.trans (HB1.out.mono HB0.out.size)⟩
 | some x =>
  obtain ⟨r,hr⟩:∃ r,ids=r ++ [x]:=by
   cases hl2:ids.reverse with
   | nil => have:ids=[]:=by simpa using hl2
            subst this;cases hl
   | cons a r =>
    have hle:ids=r.reverse ++ [a]:=by rw [← List.reverse_reverse ids,hl2,List.reverse_cons]
    rw [hle,List.getLast?_append] at hl
    simp at hl
    subst hl
    exact ⟨_,hle⟩
  have hxr:=HR.out x (by rw [hr];simp)
  have HE:Hid (roomM f=x + 1):=hideI (by unfold roomM;rw [← HIDS.out,hl])
  have hlen:ids.length=r.length + 1:=by rw [hr];simp
  have HLAST:Hid (ids[r.length]?.getD 0=x):=hideI (by rw [hr];simp)
  obtain ⟨n,hn⟩:∃ n,n=r.length:=⟨_,rfl⟩
  rw [← hn] at hlen HLAST
  have HLEN:=hideI hlen
  have hw:IntKind.i64.wrap (x + 1)=x + 1:=IntWalk.i64_in _ (by omega)
  have hw2:wrap64 (x + 1)=x + 1:=by unfold wrap64;omega
  clear hl hr hn hlen
  go_wp2_with (first | (go_at_call 143;refine HC.out.mono ?_;rintro e w1 ⟨v,rfl,⟨A1,c1,hv,hle,hnew⟩,hb⟩;obtain ⟨g1,cs1,rfl,_,hg1,hc1⟩:=hnew (by rw [HLEN.out];omega);rw [HLEN.out] at hv hle;obtain rfl:v=.slice (some ⟨g1,0,none⟩) (n + 1) c1:=hv;have HB1:=hideI hb;have y0:w1.cell? ⟨g1,n,none⟩=some (.int .i64 x):=(cell_of_row w1 g1 n cs1 _ (0,0) hg1).trans ((hc1 n (by rw [HLEN.out];omega)).trans (by rw [HLAST.out]));clear hb hnew hg1 hc1))
  go_ret
  exact ⟨by rw [HE.out];rfl,HB0.out.trans (HB1.out.mono HB0.out.size)⟩
end Go.Proofs.YtkaifkjbmdcmlaaGreat
