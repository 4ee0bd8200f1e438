/- What ClosedChecks rests on, part 19: RefDef, RowsU, RPreds, RBlocks, LHas, RWith9. -/
import Derived.Test.YtaehbgppfahdeaaGreatPkClosedChecks18
import Derived.Deep.QuietTactic
import Derived.BigQuiet
import Derived.Deep.LoopGhost

namespace Go.Proofs.YtaehbgppfahdeaaGreat
open Go.RowKit Go.Maps
theorem Placed.first_append (l r:Placed) (id:Int):Placed.first (l++r) id=(l.first id).or (r.first id):=by
 unfold Placed.first
 rw[List.find?_append]
 cases l.find? (fun d=>d.1==id) <;> simp
theorem Placed.first_one (a id:Int) (v:Nat×Int):Placed.first [(a,v)] id=if a=id then some v else none:=by
 unfold Placed.first
 by_cases h:a=id
 ·subst h;simp
 ·simp[h]
theorem Placed.first_none_snoc {l:Placed} {a id:Int} {v:Nat×Int} (h:l.first id=none) (hn:a≠id):Placed.first (l++[(a,v)]) id=none:=by
 rw[Placed.first_append,h,Placed.first_one,if_neg hn]
 rfl
theorem Placed.first_hit {l r:Placed} {id:Int} {v:Nat×Int} (h:l.first id=none):Placed.first (l++[(id,v)]++r) id=some v:=by
 rw[Placed.first_append,Placed.first_append,h,Placed.first_one,if_pos rfl]
 rfl
theorem placedBlocks_split (bs:List BlockM) {j:Nat} {q:BlockM} (hq:bs[j]?=some q):∀ n,j<n→∃ r,placedBlocks bs n=placedBlocks bs j++placedBlock j q++r:=by
 intro n
 induction n with
 | zero => intro h;omega
 | succ n ih =>
  intro h
  rw[placedBlocks]
  rcases Nat.lt_or_ge j n with hj|hj
  ·obtain⟨r,hr⟩:=ih hj
   exact⟨r++_,by rw[hr,List.append_assoc]⟩
  ·have:j=n:=by omega
   subst this
   rw[hq]
   exact⟨[],by simp⟩
theorem placedCode_split (b:Nat) (xs:List InstrM) {m:Nat} {x:InstrM} (hx:xs[m]?=some x):∀ n,m<n→∃ r,placedCode b xs n=placedCode b xs m++placedInstr b m x++r:=by
 intro n
 induction n with
 | zero => intro h;omega
 | succ n ih =>
  intro h
  rw[placedCode]
  rcases Nat.lt_or_ge m n with hj|hj
  ·obtain⟨r,hr⟩:=ih hj
   exact⟨r++_,by rw[hr,List.append_assoc]⟩
  ·have:m=n:=by omega
   subst this
   rw[hx]
   exact⟨[],by simp⟩
theorem placedPhis_split (b:Nat) (ps:List PhiM) {m:Nat} {p:PhiM} (hp:ps[m]?=some p):∃ r,placedPhis b ps=placedPhis b (ps.take m)++[(p.id,(b,-1))]++r:=by
 obtain⟨hm,rfl⟩:=List.getElem?_eq_some_iff.1 hp
 refine⟨placedPhis b (ps.drop (m+1)),?_⟩
 have e:ps=ps.take m++[ps[m]]++ps.drop (m+1):=by
  rw[List.append_assoc,List.singleton_append,← List.drop_eq_getElem_cons hm,List.take_append_drop]
 have e2:placedPhis b (ps.take m++[ps[m]]++ps.drop (m+1))=placedPhis b (ps.take m)++[(ps[m].id,(b,-1))]++placedPhis b (ps.drop (m+1)):=by
  unfold placedPhis
  rw[List.map_append,List.map_append]
  rfl
 rw[← e2,← e]
theorem first_phi {f:FuncM} {j m:Nat} {q:BlockM} {p:PhiM} (hq:f.blocks[j]?=some q) (hp:q.phis[m]?=some p) (h1:Placed.first (placedParams f.params.length++placedBlocks f.blocks j++placedPhis j (q.phis.take m)) p.id=none) :
  (placedM f).first p.id=some (j,-1):=by
 obtain⟨r,hr⟩:=placedBlocks_split f.blocks hq f.blocks.length (List.getElem?_eq_some_iff.1 hq).1
 obtain⟨r2,hr2⟩:=placedPhis_split j q.phis hp
 unfold placedM placedBlock at *
 rw[hr,hr2]
 have:=Placed.first_hit (r:=r2++placedCode j q.code q.code.length++r) (v:=(j,-1)) h1
 rw[← this]
 simp only[List.append_assoc]
theorem first_code {f:FuncM} {j m:Nat} {q:BlockM} {x:InstrM} (hq:f.blocks[j]?=some q) (hx:q.code[m]?=some x) (h0:0≤x.id) (h1:Placed.first (placedParams f.params.length++placedBlocks f.blocks j++(placedPhis j q.phis++placedCode j q.code m)) x.id=none) :
  (placedM f).first x.id=some (j,(m:Int)):=by
 obtain⟨r,hr⟩:=placedBlocks_split f.blocks hq f.blocks.length (List.getElem?_eq_some_iff.1 hq).1
 obtain⟨r2,hr2⟩:=placedCode_split j q.code hx q.code.length (List.getElem?_eq_some_iff.1 hx).1
 unfold placedInstr at hr2
 rw[if_pos h0]at hr2
 unfold placedM placedBlock at *
 rw[hr,hr2]
 have:=Placed.first_hit (r:=r2++r) (v:=(j,(m:Int))) h1
 rw[← this]
 simp only[List.append_assoc]
theorem first_params (n:Nat) (id:Int):Placed.first (placedParams n) id=if 0≤id∧id<n then some (0,-1)else none:=by
 induction n with
 | zero => rw [if_neg (by omega)];rfl
 | succ n ih =>
  unfold placedParams
  rw[Placed.first_append,ih,Placed.first_one]
  by_cases h1:0≤id∧id<n
  ·rw[if_pos h1,if_pos (show 0≤id∧id<((n+1:Nat):Int)by omega)];rfl
  ·rw[if_neg h1]
   by_cases h2:(n:Int)=id
   ·rw[if_pos h2,if_pos (show 0≤id∧id<((n+1:Nat):Int)by omega)];rfl
   ·rw[if_neg h2,if_neg (show ¬ (0≤id∧id<((n+1:Nat):Int))by omega)];rfl
def DefPost (l:Placed) (id:Int) (w:World) (e:Ending) (w':World):Prop :=
 ((∃ v,l.first id=some v∧e=.returned (.tuple #[.int .i64 (v.1:Int),.int .i64 v.2,.bool true]))∨(l.first id=none∧e=.returned (.tuple #[.int .i64 0,.int .i64 0,.bool false])))∧Below w.heap.size w w'
theorem defPost_some {l:Placed} {id:Int} {w w':World} {b:Nat} {a:Int} (h:l.first id=some (b,a)) (hb:Below w.heap.size w w'):DefPost l id w (.returned (.tuple #[.int .i64 (b:Int),.int .i64 a,.bool true])) w':=⟨.inl ⟨_,h,rfl⟩,hb⟩
theorem defPost_none {l:Placed} {id:Int} {w w':World} (h:l.first id=none) (hb:Below w.heap.size w w'):DefPost l id w (.returned (.tuple #[.int .i64 0,.int .i64 0,.bool false])) w':=⟨.inr ⟨h,rfl⟩,hb⟩
set_option maxRecDepth 100000 in
set_option maxHeartbeats 8000000 in
theorem refDef_any (f:FuncM) (B:Nat) (pv bv:Value) (id:Int) (w:World) (hpv:Ints w B pv f.params) (hbv:BlocksR w B bv f.blocks) (hB:B≤w.heap.size) (hfew:FewV f) (hl5:f.blocks.length≤512) :
  Calls Tryz.prog 48 #[.agg #[pv,.int .i64 f.arrays,.int .i64 f.cells,bv],.int .i64 id] w (DefPost (placedM f) id w):=by
 obtain⟨A,c,rfl,hbm,hbx⟩:=hbv
 obtain⟨P,pc,rfl,hpm,_⟩:=hpv
 have HX:=hideI hbx
 have hp16:=hfew.1
 clear hbx hfew
 obtain⟨np,hnp⟩:∃ np,np=f.params.length:=⟨_,rfl⟩
 have HNP:=hideI hnp
 rw[← hnp]at hp16 hpm ⊢
 obtain⟨nb,hnb⟩:∃ nb,nb=f.blocks.length:=⟨_,rfl⟩
 have HNB:=hideI hnb
 rw[← hnb]at hl5 hbm ⊢
 have HB0:Hid (Below w.heap.size w (w.alloc (.cells #[.slice P np pc,.int .i64 f.arrays,.int .i64 f.cells,.slice A nb c] 25))):=(Below.refl _ w).alloc (Nat.le_refl _) _
 obtain⟨W0,hW0⟩:∃ W0:World,W0=w.alloc (.cells #[.slice P np pc,.int .i64 f.arrays,.int .i64 f.cells,.slice A nb c] 25):=⟨_,rfl⟩
 have HW0:=hideI hW0
 have hk:Hid (Keeps B w W0):=by rw[hW0];exact hideI ((Keeps.refl w).alloc hB _)
 have hbox:Hid (∀ o,W0.cell? ⟨w.heap.size,o,none⟩=(#[.slice P np pc,.int .i64 f.arrays,.int .i64 f.cells,.slice A nb c]:Array Value)[o]?):=by rw[hW0];exact hideI (row_cells (heap_alloc_new w _) rfl)
 have hFP:Hid (Placed.first (placedParams f.params.length) id=if 0≤id∧id<(np:Int)then some (0,-1)else none):=by show _=_;rw[first_params,← HNP.out]
 clear hnp hnb hW0
 by_cases h1:0≤id
 ·by_cases h2:id<(np:Int)
  ·have HR:Hid ((placedM f).first id=some (0,-1)):=by
    show _=_
    unfold placedM
    rw[Placed.first_append,hFP.out,if_pos ⟨h1,h2⟩]
    rfl
   go_enter Tryz.func48,Tryz.ntmps48
   go_wp2
   go_ret3
   exact defPost_some (b:=0) HR.out HB0.out
  ·have HF0:Hid (Placed.first (placedParams f.params.length) id=none):=by show _=_;rw[hFP.out,if_neg (by omega)]
   clear hFP
   go_enter Tryz.func48,Tryz.ntmps48
   go_wp2
   rw[← HW0.out]
   go_loopw [7] (fun i wr=>∃ j:Nat,j≤nb∧i=.int .i64 j∧Hid (Placed.first (placedParams f.params.length++placedBlocks f.blocks j) id=none)∧wr=W0) (fun i _=>nb - (intOf i).toNat)
   case atStart => exact⟨0,Nat.zero_le _,rfl,by rw[placedBlocks,List.append_nil];exact HF0,rfl⟩
   case round =>
    obtain⟨j,hj,rfl,HN,hw⟩:=hrel;obtain rfl:=hw.symm
    have hx:=hbox.out
    by_cases hlt:j<nb
    ·obtain⟨q,hq⟩:∃ q,f.blocks[j]?=some q:=⟨_,List.getElem?_eq_getElem (by rw[← HNB.out];exact hlt)⟩
     obtain⟨b,off,qpv,qcv,qtv,rfl,hb,e0,e1,e2,e3,e4,e5,hpv,hcv,htv,_⟩:=HX.out j q hq
     have c0:=(hk.out b (off+j*6) hb).trans e0
     have c1:=(hk.out b (off+j*6+1) hb).trans e1
     have HQ:=hideI hq
     obtain⟨PA,pc2,rfl,hpm2,hpx⟩:=hpv
     obtain⟨CA,cc,rfl,hcm,hcx⟩:=hcv
     have HPX:=hideI hpx
     have HCX:=hideI hcx
     obtain⟨nq,hnq⟩:∃ nq,nq=q.phis.length:=⟨_,rfl⟩
     obtain⟨nc,hnc⟩:∃ nc,nc=q.code.length:=⟨_,rfl⟩
     have HNQ:=hideI hnq
     have HNC:=hideI hnc
     rw[← hnq]at c0 hpm2
     rw[← hnc]at c1 hcm
     clear e0 e1 e2 e3 e4 e5 hq hpx hcx hnq hnc
     go_wp2
     go_loopw [8] (fun i wr=>∃ m:Nat,m≤nq∧i=.int .i64 m∧Hid (Placed.first (placedParams f.params.length++placedBlocks f.blocks j++placedPhis j (q.phis.take m)) id=none)∧wr=W0) (fun i _=>nq - (intOf i).toNat)
     case atStart => exact⟨0,Nat.zero_le _,rfl,by rw[List.take_zero,show placedPhis j []=[]from rfl,List.append_nil];exact HN,rfl⟩
     case round =>
      obtain⟨m,hm,rfl,HNm,hw⟩:=hrel;obtain rfl:=hw.symm
      by_cases hlm:m<nq
      ·obtain⟨p,hp⟩:∃ p,q.phis[m]?=some p:=⟨_,List.getElem?_eq_getElem (by rw[← HNQ.out];exact hlm)⟩
       obtain⟨b2,off2,fv,vv,rfl,hb2,e0,_⟩:=HPX.out m p hp
       have d0:=(hk.out b2 (off2+m*4) hb2).trans e0
       have HP2:=hideI hp
       obtain⟨pid,hpid⟩:∃ pid,pid=p.id:=⟨_,rfl⟩
       rw[← hpid]at d0
       have HPID:=hideI hpid
       clear e0 hp hpid
       by_cases hid:pid=id
       ·subst hid
        have HR:Hid ((placedM f).first pid=some (j,-1)):=by
         have:=HNm.out
         rw[HPID.out]at this ⊢
         exact hideI (first_phi HQ.out HP2.out this)
        go_wp2
        go_ret3
        exact defPost_some HR.out (by rw[HW0.out];exact HB0.out)
       ·have HD:Hid (pid≠id):=hid
        have hib:(pid==id)=false:=beq_eq_false_iff_ne.2 hid
        clear hid
        go_wp2
        go_roundw
        case rel =>
         refine⟨m+1,by omega,by go_num,?_,by first|rfl|trivial⟩
         have e:placedPhis j (q.phis.take (m+1))=placedPhis j (q.phis.take m)++[(p.id,(j,-1))]:=by
          unfold placedPhis
          exact map_take' _ q.phis m p HP2.out
         rw[e,← List.append_assoc]
         exact hideI (Placed.first_none_snoc HNm.out (by rw[← HPID.out];exact HD.out))
        case measure => simp[intOf];omega
      ·have HNe:Hid (Placed.first (placedParams f.params.length++placedBlocks f.blocks j++placedPhis j q.phis) id=none):=by have:=HNm.out;rw[List.take_of_length_le (by rw[← HNQ.out];omega)]at this;exact hideI this
       go_wp2
       go_loopw [9] (fun i wr=>∃ m:Nat,m≤nc∧i=.int .i64 m∧Hid (Placed.first (placedParams f.params.length++placedBlocks f.blocks j++(placedPhis j q.phis++placedCode j q.code m)) id=none)∧wr=W0) (fun i _=>nc - (intOf i).toNat)
       case atStart => exact⟨0,Nat.zero_le _,rfl,by rw[placedCode,List.append_nil];exact HNe,rfl⟩
       case round =>
        obtain⟨m,hm,rfl,HNm,hw⟩:=hrel;obtain rfl:=hw.symm
        by_cases hlm:m<nc
        ·obtain⟨x,hxx⟩:∃ x,q.code[m]?=some x:=⟨_,List.getElem?_eq_getElem (by rw[← HNC.out];exact hlm)⟩
         obtain⟨b2,off2,av,rfl,hb2,_,e1,_⟩:=HCX.out m x hxx
         have d1:=(hk.out b2 (off2+m*4+1) hb2).trans e1
         have HP2:=hideI hxx
         have HSU:Hid (placedCode j q.code (m+1)=placedCode j q.code m++placedInstr j m x):=by show _=_;rw[placedCode,hxx]
         obtain⟨pid,hpid⟩:∃ pid,pid=x.id:=⟨_,rfl⟩
         rw[← hpid]at d1
         have HPID:=hideI hpid
         clear e1 hxx hpid
         have HNX:Hid (¬ (pid=id∧0≤id)→Placed.first (placedParams f.params.length++placedBlocks f.blocks j++(placedPhis j q.phis++placedCode j q.code (m+1))) id=none):=by
          refine hideI (fun hno=>?_)
          rw[HSU.out,← List.append_assoc (placedPhis j q.phis),← List.append_assoc (placedParams f.params.length++placedBlocks f.blocks j)]
          unfold placedInstr
          rw[← HPID.out]
          by_cases h0:0≤pid
          ·rw[if_pos h0]
           exact Placed.first_none_snoc HNm.out (fun e=>hno ⟨e,by rw[← e];exact h0⟩)
          ·rw[if_neg h0,List.append_nil]
           exact HNm.out
         by_cases hid:pid=id
         ·by_cases h0:0≤id
          ·subst hid
           have HR:Hid ((placedM f).first pid=some (j,(m:Int))):=by
            have:=HNm.out
            rw[HPID.out]at this h0 ⊢
            exact hideI (first_code HQ.out HP2.out h0 this)
           go_wp2
           go_ret3
           exact defPost_some HR.out (by rw[HW0.out];exact HB0.out)
          ·exact absurd h1 h0
         ·have HNN:=hideI (HNX.out (fun h=>hid h.1))
          have hib:(pid==id)=false:=beq_eq_false_iff_ne.2 hid
          clear hid
          go_wp2
          go_roundw
          case rel => exact⟨m+1,by omega,by go_num,HNN,by first|rfl|trivial⟩
          case measure => simp[intOf];omega
        ·have HNE:Hid (Placed.first (placedParams f.params.length++placedBlocks f.blocks (j+1)) id=none):=by
          have h1:=HNm.out
          have h2:m=q.code.length:=by have:=HNC.out;omega
          rw[h2]at h1
          show _=_
          rw[placedBlocks,HQ.out,← List.append_assoc]
          exact h1
         go_wp2
         go_roundw
         case rel => exact⟨j+1,by omega,by go_num,HNE,by first|rfl|trivial⟩
         case measure => simp[intOf];omega
    ·have HNE:Hid ((placedM f).first id=none):=by
      have h1:=HN.out
      have h2:j=f.blocks.length:=by have:=HNB.out;omega
      rw[h2]at h1
      exact h1
     go_wp2
     go_ret3
     exact defPost_none HNE.out (by rw[HW0.out];exact HB0.out)
 ·have HF0:Hid (Placed.first (placedParams f.params.length) id=none):=by show _=_;rw[hFP.out,if_neg (by omega)]
  clear hFP
  go_enter Tryz.func48,Tryz.ntmps48
  go_wp2
  rw[← HW0.out]
  go_loopw [7] (fun i wr=>∃ j:Nat,j≤nb∧i=.int .i64 j∧Hid (Placed.first (placedParams f.params.length++placedBlocks f.blocks j) id=none)∧wr=W0) (fun i _=>nb - (intOf i).toNat)
  case atStart => exact⟨0,Nat.zero_le _,rfl,by rw[placedBlocks,List.append_nil];exact HF0,rfl⟩
  case round =>
   obtain⟨j,hj,rfl,HN,hw⟩:=hrel;obtain rfl:=hw.symm
   have hx:=hbox.out
   by_cases hlt:j<nb
   ·obtain⟨q,hq⟩:∃ q,f.blocks[j]?=some q:=⟨_,List.getElem?_eq_getElem (by rw[← HNB.out];exact hlt)⟩
    obtain⟨b,off,qpv,qcv,qtv,rfl,hb,e0,e1,e2,e3,e4,e5,hpv,hcv,htv,_⟩:=HX.out j q hq
    have c0:=(hk.out b (off+j*6) hb).trans e0
    have c1:=(hk.out b (off+j*6+1) hb).trans e1
    have HQ:=hideI hq
    obtain⟨PA,pc2,rfl,hpm2,hpx⟩:=hpv
    obtain⟨CA,cc,rfl,hcm,hcx⟩:=hcv
    have HPX:=hideI hpx
    have HCX:=hideI hcx
    obtain⟨nq,hnq⟩:∃ nq,nq=q.phis.length:=⟨_,rfl⟩
    obtain⟨nc,hnc⟩:∃ nc,nc=q.code.length:=⟨_,rfl⟩
    have HNQ:=hideI hnq
    have HNC:=hideI hnc
    rw[← hnq]at c0 hpm2
    rw[← hnc]at c1 hcm
    clear e0 e1 e2 e3 e4 e5 hq hpx hcx hnq hnc
    go_wp2
    go_loopw [8] (fun i wr=>∃ m:Nat,m≤nq∧i=.int .i64 m∧Hid (Placed.first (placedParams f.params.length++placedBlocks f.blocks j++placedPhis j (q.phis.take m)) id=none)∧wr=W0) (fun i _=>nq - (intOf i).toNat)
    case atStart => exact⟨0,Nat.zero_le _,rfl,by rw[List.take_zero,show placedPhis j []=[]from rfl,List.append_nil];exact HN,rfl⟩
    case round =>
     obtain⟨m,hm,rfl,HNm,hw⟩:=hrel;obtain rfl:=hw.symm
     by_cases hlm:m<nq
     ·obtain⟨p,hp⟩:∃ p,q.phis[m]?=some p:=⟨_,List.getElem?_eq_getElem (by rw[← HNQ.out];exact hlm)⟩
      obtain⟨b2,off2,fv,vv,rfl,hb2,e0,_⟩:=HPX.out m p hp
      have d0:=(hk.out b2 (off2+m*4) hb2).trans e0
      have HP2:=hideI hp
      obtain⟨pid,hpid⟩:∃ pid,pid=p.id:=⟨_,rfl⟩
      rw[← hpid]at d0
      have HPID:=hideI hpid
      clear e0 hp hpid
      by_cases hid:pid=id
      ·subst hid
       have HR:Hid ((placedM f).first pid=some (j,-1)):=by
        have:=HNm.out
        rw[HPID.out]at this ⊢
        exact hideI (first_phi HQ.out HP2.out this)
       go_wp2
       go_ret3
       exact defPost_some HR.out (by rw[HW0.out];exact HB0.out)
      ·have HD:Hid (pid≠id):=hid
       have hib:(pid==id)=false:=beq_eq_false_iff_ne.2 hid
       clear hid
       go_wp2
       go_roundw
       case rel =>
        refine⟨m+1,by omega,by go_num,?_,by first|rfl|trivial⟩
        have e:placedPhis j (q.phis.take (m+1))=placedPhis j (q.phis.take m)++[(p.id,(j,-1))]:=by
         unfold placedPhis
         exact map_take' _ q.phis m p HP2.out
        rw[e,← List.append_assoc]
        exact hideI (Placed.first_none_snoc HNm.out (by rw[← HPID.out];exact HD.out))
       case measure => simp[intOf];omega
     ·have HNe:Hid (Placed.first (placedParams f.params.length++placedBlocks f.blocks j++placedPhis j q.phis) id=none):=by have:=HNm.out;rw[List.take_of_length_le (by rw[← HNQ.out];omega)]at this;exact hideI this
      go_wp2
      go_loopw [9] (fun i wr=>∃ m:Nat,m≤nc∧i=.int .i64 m∧Hid (Placed.first (placedParams f.params.length++placedBlocks f.blocks j++(placedPhis j q.phis++placedCode j q.code m)) id=none)∧wr=W0) (fun i _=>nc - (intOf i).toNat)
      case atStart => exact⟨0,Nat.zero_le _,rfl,by rw[placedCode,List.append_nil];exact HNe,rfl⟩
      case round =>
       obtain⟨m,hm,rfl,HNm,hw⟩:=hrel;obtain rfl:=hw.symm
       by_cases hlm:m<nc
       ·obtain⟨x,hxx⟩:∃ x,q.code[m]?=some x:=⟨_,List.getElem?_eq_getElem (by rw[← HNC.out];exact hlm)⟩
        obtain⟨b2,off2,av,rfl,hb2,_,e1,_⟩:=HCX.out m x hxx
        have d1:=(hk.out b2 (off2+m*4+1) hb2).trans e1
        have HP2:=hideI hxx
        have HSU:Hid (placedCode j q.code (m+1)=placedCode j q.code m++placedInstr j m x):=by show _=_;rw[placedCode,hxx]
        obtain⟨pid,hpid⟩:∃ pid,pid=x.id:=⟨_,rfl⟩
        rw[← hpid]at d1
        have HPID:=hideI hpid
        clear e1 hxx hpid
        have HNX:Hid (¬ (pid=id∧0≤id)→Placed.first (placedParams f.params.length++placedBlocks f.blocks j++(placedPhis j q.phis++placedCode j q.code (m+1))) id=none):=by
         refine hideI (fun hno=>?_)
         rw[HSU.out,← List.append_assoc (placedPhis j q.phis),← List.append_assoc (placedParams f.params.length++placedBlocks f.blocks j)]
         unfold placedInstr
         rw[← HPID.out]
         by_cases h0:0≤pid
         ·rw[if_pos h0]
          exact Placed.first_none_snoc HNm.out (fun e=>hno ⟨e,by rw[← e];exact h0⟩)
         ·rw[if_neg h0,List.append_nil]
          exact HNm.out
        by_cases hid:pid=id
        ·by_cases h0:0≤id
         ·exact absurd h1 (by omega)
         ·have HNN:=hideI (HNX.out (fun h=>h0 h.2))
          subst hid
          go_wp2
          go_roundw
          case rel => exact⟨m+1,by omega,by go_num,HNN,by first|rfl|trivial⟩
          case measure => simp[intOf];omega
        ·have HNN:=hideI (HNX.out (fun h=>hid h.1))
         have hib:(pid==id)=false:=beq_eq_false_iff_ne.2 hid
         clear hid
         go_wp2
         go_roundw
         case rel => exact⟨m+1,by omega,by go_num,HNN,by first|rfl|trivial⟩
         case measure => simp[intOf];omega
       ·have HNE:Hid (Placed.first (placedParams f.params.length++placedBlocks f.blocks (j+1)) id=none):=by
         have h1:=HNm.out
         have h2:m=q.code.length:=by have:=HNC.out;omega
         rw[h2]at h1
         show _=_
         rw[placedBlocks,HQ.out,← List.append_assoc]
         exact h1
        go_wp2
        go_roundw
        case rel => exact⟨j+1,by omega,by go_num,HNE,by first|rfl|trivial⟩
        case measure => simp[intOf];omega
   ·have HNE:Hid ((placedM f).first id=none):=by
     have h1:=HN.out
     have h2:j=f.blocks.length:=by have:=HNB.out;omega
     rw[h2]at h1
     exact h1
    go_wp2
    go_ret3
    exact defPost_none HNE.out (by rw[HW0.out];exact HB0.out)
end Go.Proofs.YtaehbgppfahdeaaGreat

namespace Go.Proofs.YtaehbgppfahdeaaGreat
open Go.RowKit Go.Maps
def rowU (r:List Int):Int×Int:=(r.getD 0 0,if r.getD 3 0<0 then r.getD 4 0 else r.getD 2 0)
theorem rowsPhi_U (b:Nat) (p:PhiM):(rowsPhi b p).map rowU=phiU p:=by
 unfold rowsPhi phiU
 rw[List.map_map]
 have h:(rowU ∘ rowPhi b p.typ)=id:=by
  funext d
  simp[rowU,rowPhi]
 rw[h,List.map_id]
theorem rowsInstr_U (b i:Nat) (x:InstrM) (hl:x.args.length=(takesS x.op).length):(rowsInstr b i x).map rowU=insU b x:=by
 unfold rowsInstr insU
 rw[List.map_map]
 have h:(rowU ∘ rowInstr b i)=fun d=>(d.1,(b:Int)):=by
  funext d
  have h0:¬ ((i:Int)<0):=by omega
  simp[rowU,rowInstr,h0]
 rw[h]
 apply List.ext_getElem?
 intro j
 rw[List.getElem?_map,List.getElem?_map]
 by_cases hj:j<x.args.length
 ·rw[List.getElem?_eq_getElem (by rw[List.length_zip];omega),List.getElem?_eq_getElem hj,List.getElem_zip]
  rfl
 ·rw[List.getElem?_eq_none (by rw[List.length_zip];omega),List.getElem?_eq_none (by omega)]
  rfl
theorem rowsCode_U (b:Nat) (xs:List InstrM) (hl:∀ x∈xs,x.args.length=(takesS x.op).length):∀ i,i≤xs.length→(rowsCode b xs i).map rowU=(xs.take i).flatMap (insU b):=by
 intro i
 induction i with
 | zero => intro _;rfl
 | succ i ih =>
  intro hi
  have hx:xs[i]?=some xs[i]:=List.getElem?_eq_getElem (by omega)
  unfold rowsCode
  rw[hx,List.map_append,ih (by omega),List.take_add_one,hx]
  simp only
  rw[rowsInstr_U b i _ (hl _ (List.getElem_mem _)),List.flatMap_append]
  simp only[Option.toList_some,List.flatMap_cons,List.flatMap_nil,List.append_nil]
theorem rowsBlock_U (b:Nat) (q:BlockM) (hl:∀ x∈q.code,x.args.length=(takesS x.op).length):(rowsBlock b q).map rowU=blkU b q:=by
 unfold rowsBlock blkU
 rw[List.map_append,List.map_append,rowsCode_U b q.code hl _ (Nat.le_refl _),List.take_length,List.map_flatMap]
 have h1:(q.phis.flatMap fun a=>(rowsPhi b a).map rowU)=q.phis.flatMap phiU:=by
  congr 1
  funext p
  exact rowsPhi_U b p
 rw[h1,List.append_assoc]
 congr 2
 unfold rowsTerm endU
 have h0:¬ ((q.code.length:Int)<0):=by omega
 by_cases h2:q.term.op=2
 ·rw[if_pos h2,if_pos (.inl h2)]
  simp[rowU,h0]
 ·rw[if_neg h2]
  by_cases h3:q.term.op=3
  ·rw[if_pos h3,if_pos (.inr h3)]
   simp[rowU,h0]
  ·rw[if_neg h3,if_neg (fun h=>h.elim h2 h3)]
   rfl
theorem rows_U (bs:List BlockM) (hl:∀ b∈bs,∀ x∈b.code,x.args.length=(takesS x.op).length):∀ n,(rowsTo bs n).map rowU=blksU bs n:=by
 intro n
 induction n with
 | zero => rfl
 | succ n ih =>
  unfold rowsTo blksU
  rw[List.map_append,ih]
  cases hb:bs[n]? with
  | none => rfl
  | some b => exact congrArg _ (rowsBlock_U n b (hl b (List.mem_of_getElem? hb)))
def SBest (S:Int→Prop) (r:Int):Prop:=(r=-1∧∀ y,¬ S y)∨(0≤r∧S r∧∀ y,S y→r≤y)
theorem SBest.congr {S S':Int→Prop} {r:Int} (h:SBest S r) (he:∀ y,S' y↔S y):SBest S' r:=by
 rcases h with⟨h1,h2⟩|⟨h1,h2,h3⟩
 ·exact .inl ⟨h1,fun y hy=>h2 y ((he y).1 hy)⟩
 ·exact .inr ⟨h1,(he r).2 h2,fun y hy=>h3 y ((he y).1 hy)⟩
theorem SBest.got {S:Int→Prop} {r x:Int} (h:SBest S r) (hx:0≤x) (hlt:r<0∨x<r):SBest (fun y=>y=x∨S y) x:=by
 refine .inr ⟨hx,.inl rfl,fun y hy=>?_⟩
 rcases hy with rfl|hy
 ·exact Int.le_refl _
 ·rcases h with⟨_,h2⟩|⟨h1,_,h3⟩
  ·exact absurd hy (h2 y)
  ·have:=h3 y hy
   omega
theorem SBest.stay {S:Int→Prop} {r x:Int} (h:SBest S r) (hr:¬ r<0) (hx:¬ x<r):SBest (fun y=>y=x∨S y) r:=by
 rcases h with⟨h1,_⟩|⟨h1,h2,h3⟩
 ·omega
 ·exact .inr ⟨h1,.inr h2,fun y hy=>hy.elim (fun e=>by omega) (h3 y)⟩
theorem SBest.one {S:Int→Prop} {r s:Int} (h:SBest S r) (k:SBest S s):r=s:=by
 rcases h with⟨h1,h2⟩|⟨h1,h2,h3⟩ <;> rcases k with⟨k1,k2⟩|⟨k1,k2,k3⟩
 ·omega
 ·exact absurd k2 (h2 s)
 ·exact absurd h2 (k2 r)
 ·have:=h3 s k2
  have:=k3 r h2
  omega
theorem zero_out {f:FuncM} {o:List Nat} {pl:Nat→Nat} {par:Nat→Option Nat} {D L:Nat→Nat→Bool} (h0:(lookM f).1=0) (hA:AllIn f.blocks o) (K:LoopOk f.blocks o pl par D L) {y:LpM} (hy:y∈loopsM f.blocks D L):0∉y.blocks:=by
 intro hz
 obtain⟨i,hi⟩:=List.getElem?_of_mem hy
 have X:=loops_at hi
 have hl:=(X.mem_blocks K 0).1 hz
 rw[K.fn.inL]at hl
 have hov:=InL.over hA (hA _ X.head_lt) hl
 have hh:y.head=0:=by
  by_cases e:y.head=0
  ·exact e
  ·exact absurd (ReachW.start (bs:=f.blocks) (gone:=(y.head:Int)) (by omega)) hov.2.2
 obtain⟨p,hp⟩:=List.exists_mem_of_length_pos X.latches_pos
 have hb:=(X.mem_latches K p).1 hp
 rw[hh]at hb
 have hs:=hb.1
 unfold succM at hs
 cases hq:f.blocks[p]? with
 | none => rw [hq] at hs;cases hs
 | some q =>
  rw[hq]at hs
  obtain⟨t,ht,e⟩:=List.mem_map.1 hs
  have:=(term_in rfl (look_term h0 q (List.mem_of_getElem? hq)) t ht).1
  omega
end Go.Proofs.YtaehbgppfahdeaaGreat

namespace Go.Proofs.YtaehbgppfahdeaaGreat
open Go.RowKit Go.Maps
def predsRow (bs:List BlockM) (n t b:Nat):List (List Nat):=(List.range n).map fun u=>if u<t then predsTo bs n u else if u=t then predsTo bs b u else []
theorem predsRow_at {bs:List BlockM} {n t b u:Nat} (h:u<n):(predsRow bs n t b)[u]?=some (if u<t then predsTo bs n u else if u=t then predsTo bs b u else []):=by
 unfold predsRow
 rw[List.getElem?_map,List.getElem?_eq_getElem (by simpa using h)]
 simp
theorem predsRow_zero (bs:List BlockM) (n:Nat):predsRow bs n 0 0=(List.range n).map fun _=>[]:=by
 unfold predsRow
 apply List.map_congr_left
 intro u _
 rw[if_neg (by omega)]
 split
 ·simp[predsTo]
 ·rfl
theorem predsRow_skip {bs:List BlockM} {n t b:Nat} (h:t∉succM bs b):predsRow bs n t (b+1)=predsRow bs n t b:=by
 unfold predsRow
 apply List.map_congr_left
 intro u _
 by_cases e:u=t
 ·subst e
  rw[predsTo_succ,if_neg h,List.append_nil]
 ·simp[e]
theorem predsRow_push {bs:List BlockM} {n t b:Nat} (h:t∈succM bs b) (_htn:t<n):(predsRow bs n t b).set t (predsTo bs b t++[b])=predsRow bs n t (b+1):=by
 apply List.ext_getElem?
 intro u
 by_cases hu:u<n
 ·rw[predsRow_at hu]
  by_cases e:t=u
  ·subst e
   rw[List.getElem?_set_self (by unfold predsRow;simpa using hu),if_neg (by omega),if_pos rfl,predsTo_succ,if_pos h]
  ·rw[List.getElem?_set_ne e,predsRow_at hu]
   have e':¬ u=t:=fun x=>e x.symm
   simp[e']
 ·rw[List.getElem?_eq_none (by rw[List.length_set];unfold predsRow;simp;omega),List.getElem?_eq_none (by unfold predsRow;simp;omega)]
theorem predsRow_next (bs:List BlockM) (n t:Nat):predsRow bs n t n=predsRow bs n (t+1) 0:=by
 unfold predsRow
 apply List.map_congr_left
 intro u _
 by_cases h1:u<t
 ·rw[if_pos h1,if_pos (by omega)]
 ·rw[if_neg h1]
  by_cases h2:u=t
  ·subst h2
   rw[if_pos rfl,if_pos (by omega)]
  ·rw[if_neg h2,if_neg (by omega)]
   split
   ·simp[predsTo]
   ·rfl
theorem predsRow_last (bs:List BlockM) (n:Nat):predsRow bs n n 0=predsAt bs n n 0:=by
 unfold predsRow predsAt
 apply List.map_congr_left
 intro u hu
 rw[if_pos (by simpa using hu)]
 simp
theorem mem_to {bs:List BlockM} {q:BlockM} {b t:Nat} (hin:EndsIn bs) (hq:bs[b]?=some q):((t:Int)∈q.term.to)↔t∈succM bs b:=by
 unfold succM
 rw[hq]
 simp only[List.mem_map]
 constructor
 ·exact fun h=>⟨(t:Int),h,by simp⟩
 ·rintro⟨x,hx,he⟩
  have:=hin q (List.mem_of_getElem? hq) x hx
  have e:x=(t:Int):=by omega
  exact e ▸ hx
set_option maxRecDepth 100000 in
set_option maxHeartbeats 4000000 in
theorem refPreds_any (bs:List BlockM) (B:Nat) (pv av cv bv:Value) (w:World) (hbv:BlocksR w B bv bs) (hB:B≤w.heap.size) (hn5:bs.length≤512) (hin:EndsIn bs) :
  Calls Tryz.prog 45 #[.agg #[pv,av,cv,bv]] w (PredsPost bs w):=by
 have HBL:=hideI hbv
 have HIN:=hideI hin
 obtain⟨A,c,rfl,hbm,_⟩:=hbv
 obtain⟨i0,hix,hz0,hz1,hz2⟩:=info_parts ints_info
 clear hin
 go_enter Tryz.func45,Tryz.ntmps45
 go_wp2_with (first
  | (at_make;go_must (refine wpList_make_full _ rfl _ _ 44 rfl (w.heap.size+1) 22 i0 (.slice none 0 0) 1 Tryz.underlying44 hix hz0 hz1 .i64 .i64 _ _ bs.length rfl rfl rfl rfl (by rw[hz2];omega) (by unfold maxLen;omega) (by simp) ?_);intro w1 hown1 hg1;rw[World.size_alloc]at hown1;go_must (have HL1:=hideI (Lists.made hown1);have HGB:=hideI ((hg1.block w.heap.size (by simp) (by simp)).trans (heap_alloc_new w _));have HB0:Hid (Below w.heap.size w w1):=((Below.refl _ _).alloc (Nat.le_refl _) _).grown hg1 (by simp) (by simp);clear hown1 hg1)))
 clear hix hz0 hz1 hz2
 rw[← predsRow_zero bs bs.length]at HL1
 go_loopw [4] (fun u wr=>∃ (t:Nat) (vs:List Value),t≤bs.length∧u=.int .i64 t∧Hid (Lists wr (w.heap.size+1) (w.heap.size+1) bs.length vs (predsRow bs bs.length t 0))∧Hid (Below w.heap.size w wr)∧Hid (Below (w.heap.size+1) w1 wr)) (fun u _=>bs.length - (intOf u).toNat)
 case atStart => exact⟨0,_,Nat.zero_le _,rfl,HL1,HB0,hideI (Below.refl _ _)⟩
 case round =>
  obtain⟨t,vs,ht,rfl,HL,HBr,HBo⟩:=hrel
  have hxr:=row_cells HGB.out (HBo.out.block w.heap.size (by omega))
  have g3:=hxr 3
  clear hxr
  by_cases hlt:t<bs.length
  ·go_wp2
   clear g3
   obtain⟨wo,rfl⟩:∃ wo:World,wo=wr:=⟨_,rfl⟩
   go_loopw [5] (fun u wr=>∃ (b:Nat) (vs:List Value),b≤bs.length∧u=.int .i64 b∧Hid (Lists wr (w.heap.size+1) (w.heap.size+1) bs.length vs (predsRow bs bs.length t b))∧Hid (Below (w.heap.size+1) wo wr)) (fun u _=>bs.length - (intOf u).toNat)
   case atStart => exact⟨0,vs,Nat.zero_le _,rfl,HL,hideI (Below.refl _ _)⟩
   case round =>
    obtain⟨b,vs2,hb,rfl,HLi,HBi⟩:=hrel
    have hxr:=row_cells HGB.out ((HBo.out.trans HBi.out).block w.heap.size (by omega))
    have g3:=hxr 3
    clear hxr
    by_cases hltb:b<bs.length
    ·obtain⟨q,hq⟩:∃ q,bs[b]?=some q:=⟨_,List.getElem?_eq_getElem hltb⟩
     obtain⟨A',c',e0,_,hbx⟩:=(HBL.out.more' hB).keeps (Keeps.of_below (HBr.out.trans (HBi.out.mono (Nat.le_succ _))))
     cases e0
     obtain⟨ab,off,pq,cq,tv,rfl,hab,x0,x1,x2,x3,x4,x5,_,_,htv,_⟩:=hbx b q hq
     have HTV:=hideI htv
     have HMEM:=hideI (mem_to (t:=t) HIN.out hq)
     obtain⟨TA,tc,rfl,htm,_⟩:=htv
     obtain⟨v,hv⟩:∃ v,vs2[t]?=some v:=⟨_,List.getElem?_eq_getElem (by rw[HLi.out.vl];exact hlt)⟩
     obtain⟨l,hl0⟩:∃ l,l=predsTo bs b t:=⟨_,rfl⟩
     have hl:(predsRow bs bs.length t b)[t]?=some l:=by rw[predsRow_at hlt,if_neg (by omega),if_pos rfl,hl0]
     have hll:l.length≤1000:=by have:=predsTo_len bs b t;rw[hl0];omega
     have q1:wr.cell? ⟨w.heap.size+1,t,none⟩=some v:=by rw[World.ownsRow.cellAt HLi.out.row t (by omega)];exact hv
     have HOWN:=hideI (HLi.out.own t v l hv hl)
     have hsz:=HLi.out.lt.2
     have HV:=hideI hv
     have HLL:=hideI hl
     have HL0:=hideI hl0
     obtain⟨tl,htl⟩:∃ tl,tl=q.term.to:=⟨_,rfl⟩
     rw[← htl]at HTV HMEM x4 htm
     clear hbx hq x0 x1 x2 x3 x5 hv hl hl0 htl
     by_cases hin2:(t:Int)∈tl
     ·have HC:Hid (decide ((t:Int)∈tl)=true):=by show _=_;simpa using hin2
      have HIN2:=hideI (HMEM.out.1 hin2)
      obtain⟨i1,hjx,hy0,hy1,hy2⟩:=info_parts int_info
      clear hin2
      go_wp2_with (first
       | (go_at_call 56;go_must (refine(has_any _ _ _ _ _ HTV.out).mono ?_);rw[HC.out];rintro e w2 ⟨rfl,rfl⟩)
       | (at_builtin;go_must (refine wpList_append_lies _ rfl _ _ _ rfl (w.heap.size+1+1) 3 i1 (.int .i64 0) 1 8 Tryz.underlying22 hjx hy0 hy1 hy2 rfl (by decide) _ _ _ rfl (HOWN.out.alloc _) ⟨wr.heap.size,0,none⟩ 1 1 [.int .i64 b] rfl rfl (one_new wr _) (by simp[Value.oneCell']) (by decide) (by simp only[maxLen];omega) (by omega) (by simp;omega) _ rfl ?_);intro g1 cap1 w3 hown1 hgrow1 hor1 _;go_must (have HP:=hideI (HLi.out.push HV.out HLL.out hown1 hgrow1 hor1);have HPB:=hideI (HLi.out.pushed (u:=.slice (some ⟨g1,0,none⟩) (l.length+1) cap1) HV.out HLL.out hgrow1 HBi.out (Nat.le_refl _));obtain⟨hc4,hf4⟩:=HLi.out.held HV.out HLL.out hgrow1;clear hown1 hgrow1 hor1 q1)))
      go_roundw
      case rel => exact⟨b+1,_,by omega,by go_num,by rw[← predsRow_push HIN2.out hlt,← HL0.out];exact HP,HPB⟩
      case measure => simp[intOf];omega
     ·have HC:Hid (decide ((t:Int)∈tl)=false):=by show _=_;simpa using hin2
      have HIN2:=hideI (fun h=>hin2 (HMEM.out.2 h))
      clear hin2
      go_wp2_with (first
       | (go_at_call 56;go_must (refine(has_any _ _ _ _ _ HTV.out).mono ?_);rw[HC.out];rintro e w2 ⟨rfl,rfl⟩))
      go_roundw
      case rel => exact⟨b+1,vs2,by omega,by go_num,by rw[predsRow_skip HIN2.out];exact HLi,HBi⟩
      case measure => simp[intOf];omega
    ·have hbn:b=bs.length:=by omega
     rw[hbn,predsRow_next]at HLi
     clear hbn
     go_wp2
     go_roundw
     case rel => exact⟨t+1,vs2,by omega,by go_num,HLi,hideI (HBr.out.trans (HBi.out.mono (Nat.le_succ _))),hideI (HBo.out.trans HBi.out)⟩
     case measure => simp[intOf];omega
  ·have hkn:t=bs.length:=by omega
   rw[hkn,predsRow_last]at HL
   clear hkn
   go_wp2
   go_ret
   exact⟨_,vs,rfl,⟨HL.out.vl,HL.out.ll,World.ownsRow.mono HL.out.row (by omega),HL.out.own,HL.out.apart⟩,HBr.out⟩
end Go.Proofs.YtaehbgppfahdeaaGreat

namespace Go.Proofs.YtaehbgppfahdeaaGreat
open Go.RowKit Go.Maps
structure BkSt (bs:List BlockM) (o:List Nat) (h:Nat) (S:List Nat):Prop where
 nodup:S.Nodup
 lt:∀ x∈S,x<bs.length
 head:h∈S
 sound:∀ x∈S,InL bs o h x
 lat:∀ p,BackP bs o h p→p∈S
def shutAt (bs:List BlockM) (h:Nat) (S:List Nat) (b:Nat):Prop:=b∈S→b≠h→∀ p,b∈succM bs p→p∈S
section
variable {bs:List BlockM} {o:List Nat} {h k j p:Nat} {S S0:List Nat} {ch:Bool}
theorem BkSt.all (B:BkSt bs o h S) (hc:∀ b,b<bs.length→shutAt bs h S b) (x:Nat):x∈S↔InL bs o h x:=by
 refine⟨B.sound x,fun m=>?_⟩
 induction m with
 | head => exact B.head
 | latch q => exact B.lat _ q
 | step _ hne e ih => exact hc _ (B.lt _ ih) ih hne _ e
theorem BkSt.add (B:BkSt bs o h S) (hk:k∈S) (hne:k≠h) (hp:p∈predsTo bs bs.length k) (hn:p∉S):BkSt bs o h (p::S):=by
 refine⟨List.nodup_cons.2 ⟨hn,B.nodup⟩,fun x hx=>?_,List.mem_cons_of_mem _ B.head,fun x hx=>?_,fun q hq=>List.mem_cons_of_mem _ (B.lat q hq)⟩
 ·rcases List.mem_cons.1 hx with rfl|hx
  ·exact predsTo_lt hp
  ·exact B.lt x hx
 ·rcases List.mem_cons.1 hx with rfl|hx
  ·exact .step (B.sound k hk) hne (mem_predsTo.1 hp)
  ·exact B.sound x hx
structure BkMid (bs:List BlockM) (o:List Nat) (h:Nat) (S0 S:List Nat) (ch:Bool) (k:Nat) (l:List Nat) (j:Nat):Prop where
 st:BkSt bs o h S
 no:ch=false→S=S0∧(∀ b,b<k→shutAt bs h S b)∧(∀ p∈l.take j,p∈S)
 yes:ch=true→S0.length<S.length
theorem BkMid.begin {l l':List Nat} (B:BkMid bs o h S0 S ch k l 0):BkMid bs o h S0 S ch k l' 0 :=
 ⟨B.st,fun e=>⟨(B.no e).1,(B.no e).2.1,fun p hp=>by simp at hp⟩,B.yes⟩
theorem BkMid.skip {l:List Nat} (B:BkMid bs o h S0 S ch k l j) (hp:l[j]?=some p) (hm:p∈S):BkMid bs o h S0 S ch k l (j+1) :=
 ⟨B.st,fun e=>⟨(B.no e).1,(B.no e).2.1,fun q hq=>by
  rw[List.take_add_one,hp]at hq
  rcases List.mem_append.1 hq with hq|hq
  ·exact(B.no e).2.2 q hq
  ·simp at hq;subst hq;exact hm⟩,B.yes⟩
theorem BkMid.add {l:List Nat} (B:BkMid bs o h S0 S ch k l j) (hp:l[j]?=some p) (hl:l=predsTo bs bs.length k) (hk:k∈S) (hne:k≠h) (hn:p∉S):BkMid bs o h S0 (p::S) true k l (j+1) :=
 ⟨B.st.add hk hne (by rw[← hl];exact List.mem_of_getElem? hp) hn,fun e=>(by cases e),fun _=>by
  rw[List.length_cons]
  cases ch with
  | false => rw [(B.no rfl).1];omega
  | true => have:=B.yes rfl;omega⟩
theorem BkMid.next {l:List Nat} (B:BkMid bs o h S0 S ch k l j) (hl:l=predsTo bs bs.length k) (hj:l.length≤j):BkMid bs o h S0 S ch (k+1) l 0 :=
 ⟨B.st,fun e=>⟨(B.no e).1,fun b hb=>by
  by_cases hbk:b=k
  ·subst hbk
   intro _ _ p hp
   exact(B.no e).2.2 p (by rw[List.take_of_length_le hj,hl];exact mem_predsTo.2 hp)
  ·exact(B.no e).2.1 b (by omega),fun p hp=>by simp at hp⟩,B.yes⟩
theorem BkMid.pass {l:List Nat} (B:BkMid bs o h S0 S ch k l 0) (hx:k∉S∨k=h):BkMid bs o h S0 S ch (k+1) l 0 :=
 ⟨B.st,fun e=>⟨(B.no e).1,fun b hb=>by
  by_cases hbk:b=k
  ·subst hbk
   intro h1 h2
   rcases hx with h3|h3
   ·exact absurd h1 h3
   ·exact absurd h3 h2
  ·exact(B.no e).2.1 b (by omega),fun p hp=>by simp at hp⟩,B.yes⟩
end
theorem exit_any {bs:List BlockM} {L:Nat→Nat→Bool} {h t:Nat}:((predsTo bs bs.length t).any fun p=>L h p)=outB bs L h t:=by
 unfold outB predsTo
 rw[Bool.eq_iff_iff,List.any_eq_true,List.any_eq_true]
 constructor
 ·rintro⟨p,hp,hl⟩
  rw[List.mem_filter]at hp
  exact⟨p,hp.1,by rw[hl,Bool.true_and];exact hp.2⟩
 ·rintro⟨p,hp,hl⟩
  rw[Bool.and_eq_true]at hl
  exact⟨p,List.mem_filter.2 ⟨hp,hl.2⟩,hl.1⟩
structure TwoR (w:World) (base:Nat) (v u:Value) (l m:List Nat):Prop where
 one:w.ownsRow base 3 1 v l.length (natInts l)
 two:w.ownsRow base 3 1 u m.length (natInts m)
 apart:∀ k,v.ownBlock=some k→u.ownBlock≠some k
section
variable {w w' w1:World} {base:Nat} {v u:Value} {l m:List Nat} {o:Obj}
theorem TwoR.swap (h:TwoR w base v u l m):TwoR w base u v m l:=⟨h.two,h.one,fun k hk e=>h.apart k e hk⟩
theorem TwoR.other {j off:Nat} (h:TwoR w base v u l m) (hj:j<base) (x:Value):TwoR (w.setCell ⟨j,off,none⟩ x) base v u l m :=
 ⟨ownsRow_setCell_other h.one (a:=⟨j,off,none⟩) (by intro e;have:=(h.one.lt j e).1;omega) x,ownsRow_setCell_other h.two (a:=⟨j,off,none⟩) (by intro e;have:=(h.two.lt j e).1;omega) x,h.apart⟩
theorem TwoR.push {g cap x:Nat} (h:TwoR w base v u l m) (hown:w1.ownsRow base 3 1 (.slice (some ⟨g,0,none⟩) (l.length+1) cap) (l.length+1) (natInts l++[.int .i64 (x:Int)])) (hg:(w.alloc o).grownBy w1 v.ownBlock) (hor:v.ownBlock=some g∨g=(w.alloc o).heap.size) :
  TwoR w1 base (.slice (some ⟨g,0,none⟩) (l.length+1) cap) u (l++[x]) m:=by
 refine⟨by rw[List.length_append,natInts_snoc];exact hown,(h.two.alloc o).kept hg ?_,fun k hk e=>?_⟩
 ·cases e:u.ownBlock with
  | none => exact .inl rfl
  | some k => exact .inr (fun e2 => h.apart k e2.symm e)
 ·have e1:g=k:=by simpa [Value.ownBlock] using hk
  subst e1
  rcases hor with h1|h1
  ·exact h.apart g h1 e
  ·have:=(h.two.lt g e).2
   simp at h1
   omega
end
structure BkAt (N G n h:Nat) (fnc:Array Value) (w wr:World) (s v1 v3:Value) (P:Nat→Bool) (l m:List Nat):Prop where
 hG:N+2<G
 box:wr.heap[N+1]?=some (.cells #[.int .i64 (h:Int),v1,s,v3,.int .i64 0] 88 (0,0))
 res:wr.heap[N+2]?=some (.cells #[.int .i64 0,.slice none 0 0,.slice none 0 0,.slice none 0 0,.int .i64 0] 88 (0,0))
 fn:wr.heap[N]?=some (.cells fnc 25 (0,0))
 row:wr.ownsRow G 4 1 (.slice (some ⟨G,0,none⟩) n n) n (boolsM n P)
 two:TwoR wr (G+1) v1 v3 l m
 bel:Below N w wr
section
variable {N G n h:Nat} {fnc:Array Value} {w wr w1:World} {s v1 v3:Value} {P:Nat→Bool} {l m:List Nat} {o:Obj}
theorem BkAt.lt (H:BkAt N G n h fnc w wr s v1 v3 P l m):G<wr.heap.size:=(H.row.lt G rfl).2
theorem BkAt.grown {v:Value} {off g len cap:Nat} (H:BkAt N G n h fnc w wr s v1 v3 P l m) (hv:∀ k,v.ownBlock=some k→G+1≤k) (hg:(wr.alloc o).grownBy w1 v.ownBlock) :
  w1.heap[N+1]?=some (.cells #[.int .i64 (h:Int),v1,s,v3,.int .i64 0] 88 (0,0)) ∧
  (w1.setCell ⟨N+1,off,none⟩ (.slice (some ⟨g,0,none⟩) len cap)).heap[N+2]?=some (.cells #[.int .i64 0,.slice none 0 0,.slice none 0 0,.slice none 0 0,.int .i64 0] 88 (0,0)) ∧
  (w1.setCell ⟨N+1,off,none⟩ (.slice (some ⟨g,0,none⟩) len cap)).heap[N]?=some (.cells fnc 25 (0,0)) ∧
  (w1.setCell ⟨N+1,off,none⟩ (.slice (some ⟨g,0,none⟩) len cap)).ownsRow G 4 1 (.slice (some ⟨G,0,none⟩) n n) n (boolsM n P) ∧
  Below N w (w1.setCell ⟨N+1,off,none⟩ (.slice (some ⟨g,0,none⟩) len cap)):=by
 have hl:=H.lt
 have hG:=H.hG
 have key:∀ j,j≤G→w1.heap[j]?=wr.heap[j]?:=fun j hj=>by
  have h1:=hg.block j (by simp;omega) (fun e=>by have:=hv j e.symm;omega)
  rw[h1]
  exact Below.heap_alloc _ _ _ (by omega)
 refine⟨(key (N+1) (by omega)).trans H.box,?_,?_,?_,?_⟩
 ·rw[heap_setCell_other w1 ⟨N+1,off,none⟩ (N+2) _ (Nat.ne_of_gt (Nat.lt_succ_self (N+1)))]
  exact(key _ (by omega)).trans H.res
 ·rw[heap_setCell_other w1 ⟨N+1,off,none⟩ N _ (Nat.ne_of_lt (Nat.lt_succ_self N))]
  exact(key _ (by omega)).trans H.fn
 ·refine ownsRow_setCell_other ?_ (a:=⟨N+1,off,none⟩) (by intro e;have e2:G=N+1:=Option.some.inj e;omega) _
  refine(H.row.alloc o).kept hg ?_
  cases e:v.ownBlock with
  | none => exact .inr (by simp [Value.ownBlock])
  | some k =>
   refine .inr (fun e2=>?_)
   have e3:G=k:=by simpa [Value.ownBlock] using e2
   have:=hv k e
   omega
 ·exact(((H.bel).alloc (by have:=H.bel.size;omega) o).grown hg (by have:=H.bel.size;simp;omega) (fun k hk=>by have:=hv k hk;omega)).setCell (Nat.le_succ N) _
theorem BkAt.push1 {g cap x:Nat} (H:BkAt N G n h fnc w wr s v1 v3 P l m) (hown:w1.ownsRow (G+1) 3 1 (.slice (some ⟨g,0,none⟩) (l.length+1) cap) (l.length+1) (natInts l++[.int .i64 (x:Int)])) (hg:(wr.alloc o).grownBy w1 v1.ownBlock) (hor:v1.ownBlock=some g∨g=(wr.alloc o).heap.size) :
  BkAt N G n h fnc w (w1.setCell ⟨N+1,1,none⟩ (.slice (some ⟨g,0,none⟩) (l.length+1) cap)) s (.slice (some ⟨g,0,none⟩) (l.length+1) cap) v3 P (l++[x]) m:=by
 obtain⟨a1,a2,a3,a4,a5⟩:=H.grown (off:=1) (g:=g) (len:=l.length+1) (cap:=cap) (fun k hk=>(H.two.one.lt k hk).1) hg
 refine⟨H.hG,?_,a2,a3,a4,(H.two.push hown hg hor).other (by have:=H.hG;omega) _,a5⟩
 rw[heap_setCell_same _ (N+1) 1 _ _ _ a1]
 rfl
theorem BkAt.push3 {g cap x:Nat} (H:BkAt N G n h fnc w wr s v1 v3 P l m) (hown:w1.ownsRow (G+1) 3 1 (.slice (some ⟨g,0,none⟩) (m.length+1) cap) (m.length+1) (natInts m++[.int .i64 (x:Int)])) (hg:(wr.alloc o).grownBy w1 v3.ownBlock) (hor:v3.ownBlock=some g∨g=(wr.alloc o).heap.size) :
  BkAt N G n h fnc w (w1.setCell ⟨N+1,3,none⟩ (.slice (some ⟨g,0,none⟩) (m.length+1) cap)) s v1 (.slice (some ⟨g,0,none⟩) (m.length+1) cap) P l (m++[x]):=by
 obtain⟨a1,a2,a3,a4,a5⟩:=H.grown (off:=3) (g:=g) (len:=m.length+1) (cap:=cap) (fun k hk=>(H.two.two.lt k hk).1) hg
 refine⟨H.hG,?_,a2,a3,a4,((H.two.swap.push hown hg hor).other (by have:=H.hG;omega) _).swap,a5⟩
 rw[heap_setCell_same _ (N+1) 3 _ _ _ a1]
 rfl
end
theorem range_more {P:Nat→Bool} {b:Nat} (h:P b=true):(List.range (b+1)).filter P=(List.range b).filter P++[b]:=by
 rw[List.range_succ,List.filter_append]
 simp[h]
theorem range_skip {P:Nat→Bool} {b:Nat} (h:P b=false):(List.range (b+1)).filter P=(List.range b).filter P:=by
 rw[List.range_succ,List.filter_append]
 simp[h]
theorem range_len {P:Nat→Bool} {b:Nat}:((List.range b).filter P).length≤b:=by
 have:=List.length_filter_le P (List.range b)
 rwa [List.length_range]at this
theorem any_next {P:Nat→Bool} {l:List Nat} {j p:Nat} (hp:l[j]?=some p):(l.take (j+1)).any P=((l.take j).any P||P p):=by
 rw[List.take_add_one,hp,List.any_append]
 simp
def RBlocksPost (n:Nat) (h:Nat) (s:Value) (L:Nat→Nat→Bool) (bs:List BlockM) (w:World) (e:Ending) (w':World):Prop :=
 ∃ b1 b3:Value,e=.returned (.agg #[.int .i64 (h:Int),b1,s,b3,.int .i64 0])∧TwoR w' w.heap.size b1 b3 (blocksM n L h) (exitsM bs L h)∧Below w.heap.size w w'
set_option maxRecDepth 100000 in
set_option maxHeartbeats 8000000 in
theorem refBlocks_any (bs:List BlockM) (o:List Nat) (pl:Nat→Nat) (par:Nat→Option Nat) (D L:Nat→Nat→Bool) (h gp B nl cs base:Nat) (As:Option Addr) (vs:List Value) (pv av cv bv:Value) (w:World) (K:LoopOk bs o pl par D L) (hh:h<bs.length) (hin:EndsIn bs) (hbv:BlocksR w B bv bs) (_hB:B≤w.heap.size) (hls:Lists w base gp bs.length vs (predsAt bs bs.length bs.length 0)) (hs:Ints w w.heap.size (.slice As nl cs) ((latchesM bs D h).map fun(x:Nat)=>(x:Int))) (_hav:∃ x,av=.int .i64 x) :
  Calls Tryz.prog 84 #[.agg #[pv,av,cv,bv],.agg #[.int .i64 (h:Int),.slice none 0 0,.slice As nl cs,.slice none 0 0,.int .i64 0],.slice (some ⟨gp,0,none⟩) bs.length bs.length] w (RBlocksPost bs.length h (.slice As nl cs) L bs w):=by
 have HK:=hideI K
 have hn5:=K.n5
 have HIN:=hideI hin
 have HLS:=hideI hls
 obtain⟨A,c,rfl,hbm,_⟩:=hbv
 obtain⟨W0,hW0⟩:∃ W0,W0=((w.alloc (.cells #[pv,av,cv,.slice A bs.length c] 25)).alloc (.cells #[.int .i64 (h:Int),.slice none 0 0,.slice As nl cs,.slice none 0 0,.int .i64 0] 88)).alloc (.cells #[.int .i64 0,.slice none 0 0,.slice none 0 0,.slice none 0 0,.int .i64 0] 88):=⟨_,rfl⟩
 have hB0:Below w.heap.size w W0:=by rw[hW0];exact(((Below.refl _ w).alloc (Nat.le_refl _) _).alloc (by simp) _).alloc (by simp;omega) _
 have hs0:W0.heap.size=w.heap.size+3:=by rw[hW0];simp
 have hb0:W0.heap[w.heap.size]?=some (.cells #[pv,av,cv,.slice A bs.length c] 25 (0,0)):=by
  rw[hW0,Below.heap_alloc _ _ _ (by simp;omega),Below.heap_alloc _ _ _ (by simp)]
  exact heap_alloc_new w _
 have hb1:W0.heap[w.heap.size+1]?=some (.cells #[.int .i64 (h:Int),.slice none 0 0,.slice As nl cs,.slice none 0 0,.int .i64 0] 88 (0,0)):=by
  rw[hW0,Below.heap_alloc _ _ _ (by simp)]
  have:=heap_alloc_new (w.alloc (.cells #[pv,av,cv,.slice A bs.length c] 25)) (.cells #[.int .i64 (h:Int),.slice none 0 0,.slice As nl cs,.slice none 0 0,.int .i64 0] 88)
  simpa using this
 have hb2:W0.heap[w.heap.size+2]?=some (.cells #[.int .i64 0,.slice none 0 0,.slice none 0 0,.slice none 0 0,.int .i64 0] 88 (0,0)):=by
  rw[hW0]
  have:=heap_alloc_new ((w.alloc (.cells #[pv,av,cv,.slice A bs.length c] 25)).alloc (.cells #[.int .i64 (h:Int),.slice none 0 0,.slice As nl cs,.slice none 0 0,.int .i64 0] 88)) (.cells #[.int .i64 0,.slice none 0 0,.slice none 0 0,.slice none 0 0,.int .i64 0] 88)
  simpa using this
 have HW0:=hideI hW0
 have HB0:=hideI hB0
 have HS0:=hideI hs0
 have HX0:=hideI hb0
 have HX1:=hideI hb1
 have HX2:=hideI hb2
 have HLS0:=hideI (HLS.out.kept hB0)
 have hnl:nl=(latchesM bs D h).length:=by
  obtain⟨_,_,e,_⟩:=hs
  rw[List.length_map]at e
  injection e
 have HNL:=hideI hnl
 obtain⟨As',_,e1,_,hpx⟩:=hs.keep hB0
 rw[List.length_map,← hnl]at hpx
 have ea:As'=As:=by injection e1 with e2 _ _;exact e2.symm
 subst ea
 have HPX:=hideI hpx
 have hnl5:nl≤512:=by
  rw[hnl]
  unfold latchesM
  exact Nat.le_trans (List.length_filter_le _ _) (Nat.le_trans (predsTo_len _ _ _) hn5)
 have g3:=(row_cells hb0 rfl) 3
 obtain⟨i0,hix,hz0,hz1,hz2⟩:=info_parts bool_info
 have hgm:w.heap.size+2<W0.heap.size:=by omega
 clear K hin hls hW0 hB0 hs0 hb0 hb1 hb2 hnl hs hpx e1
 go_enter Tryz.func84,Tryz.ntmps84
 go_upto_region 1 with fail
 rw[← HW0.out]
 go_wp2_with (at_make;go_must (refine wpList_make_full _ rfl _ _ 91 rfl W0.heap.size 4 i0 (.bool false) 1 Tryz.underlying91 hix hz0 hz1 .i64 .i64 _ _ bs.length rfl rfl rfl rfl (by rw[hz2];omega) (by unfold maxLen;omega) (Nat.le_refl _) ?_);intro w1 hown1 hg1;go_must (rw[marks_made]at hown1;have HO1:=hideI hown1;have HB1:Hid (Below W0.heap.size W0 w1):=hideI ((Below.refl _ _).grown hg1 (Nat.le_refl _) (by simp));clear hown1 hg1 g3))
 clear hix hz0 hz1 hz2
 go_loopw [8] (fun u wr=>∃ k:Nat,k≤nl∧u=.int .i64 k∧Hid (wr.ownsRow W0.heap.size 4 1 (.slice (some ⟨W0.heap.size,0,none⟩) bs.length bs.length) bs.length (marks bs.length ((latchesM bs D h).take k).reverse))∧Hid (Below W0.heap.size W0 wr)) (fun u _=>nl - (intOf u).toNat)
 case atStart => exact⟨0,Nat.zero_le _,rfl,by rw[List.take_zero,List.reverse_nil];exact HO1,HB1⟩
 case round =>
  obtain⟨k,hk,rfl,HO,HBr⟩:=hrel
  have x2:=(row_cells HX1.out (HBr.out.block _ (by omega))) 2
  by_cases hlt:k<nl
  ·obtain⟨p,hp⟩:∃ p,(latchesM bs D h)[k]?=some p:=⟨_,List.getElem?_eq_getElem (by rw[← HNL.out];exact hlt)⟩
   have hpl:p<bs.length:=lsucc_lt (HK.out.fn.mem_latches.1 (List.mem_of_getElem? hp)).1
   obtain⟨pb,po,rfl,hpb,d0⟩:=HPX.out k hlt
   rw[List.getElem?_map,hp]at d0
   simp only[Option.map_some,Option.getD_some]at d0
   have d1:=(HBr.out.cell (p:=⟨pb,po+k,none⟩) (by show pb<_;omega)).trans d0
   obtain⟨S,hS⟩:∃ S,S=((latchesM bs D h).take k).reverse:=⟨_,rfl⟩
   rw[← hS]at HO
   have HSN:Hid (((latchesM bs D h).take (k+1)).reverse=p::S):=by show _=_;rw[List.take_add_one,hp,hS];simp
   have c2:wr.cell? ⟨W0.heap.size,p,none⟩=some (.bool (decide (p∈S))):=by rw[World.ownsRow.cellAt HO.out p (by omega),marks_at hpl]
   obtain⟨old,hold⟩:∃ old:Bool,old=decide (p∈S):=⟨_,rfl⟩
   rw[← hold]at c2
   have c3:wr.frozen? ⟨W0.heap.size,p,none⟩=false:=World.ownsRow.frozenAt HO.out p
   have hst:=(World.ownsRow.stored HO.out p (.bool true)).1
   rw[marks_set]at hst
   have HST:=hideI hst
   have HBS:Hid (Below W0.heap.size W0 (wr.setCell ⟨W0.heap.size,p,none⟩ (.bool true))):=HBr.out.setCell (Nat.le_refl _) _
   clear hp d0 hS hold hst
   go_wp2
   go_roundw
   case rel => exact⟨k+1,by omega,by go_num,by rw[HSN.out];exact HST,HBS⟩
   case measure => simp[intOf];omega
  ·obtain⟨S,hS⟩:∃ S,S=(latchesM bs D h).reverse:=⟨_,rfl⟩
   have HO':Hid (wr.ownsRow W0.heap.size 4 1 (.slice (some ⟨W0.heap.size,0,none⟩) bs.length bs.length) bs.length (marks bs.length S)):=by
    have h1:=HO.out
    rw[List.take_of_length_le (by rw[← HNL.out];omega),← hS]at h1
    exact h1
   obtain⟨S1,hS1⟩:∃ S1,S1=h::S:=⟨_,rfl⟩
   have c2:wr.cell? ⟨W0.heap.size,h,none⟩=some (.bool (decide (h∈S))):=by rw[World.ownsRow.cellAt HO'.out h (by omega),marks_at hh]
   obtain⟨old,hold⟩:∃ old:Bool,old=decide (h∈S):=⟨_,rfl⟩
   rw[← hold]at c2
   have c3:wr.frozen? ⟨W0.heap.size,h,none⟩=false:=World.ownsRow.frozenAt HO'.out h
   have hst:=(World.ownsRow.stored HO'.out h (.bool true)).1
   rw[marks_set,← hS1]at hst
   have x0:=(row_cells HX1.out (HBr.out.block _ (by omega))) 0
   obtain⟨S2,hS2,hmm⟩:∃ S2,BkSt bs o h S2∧∀ x,x∈S2↔x∈S1:=by
    refine⟨h::(latchesM bs D h).filter (fun x=>decide (x≠h)),⟨?_,?_,List.mem_cons_self ..,?_,?_⟩,?_⟩
    ·refine List.nodup_cons.2 ⟨fun hm=>?_,List.Pairwise.filter _ ?_⟩
     ·rw[List.mem_filter]at hm
      simp at hm
     ·unfold latchesM predsTo
      exact List.Pairwise.filter _ (List.Pairwise.filter _ List.nodup_range)
    ·intro x hx
     rcases List.mem_cons.1 hx with rfl|hx
     ·exact hh
     ·exact lsucc_lt (HK.out.fn.mem_latches.1 (List.mem_filter.1 hx).1).1
    ·intro x hx
     rcases List.mem_cons.1 hx with rfl|hx
     ·exact .head
     ·exact .latch (HK.out.fn.mem_latches.1 (List.mem_filter.1 hx).1)
    ·intro p hp
     by_cases e:p=h
     ·exact e ▸ List.mem_cons_self ..
     ·exact List.mem_cons_of_mem _ (List.mem_filter.2 ⟨HK.out.fn.mem_latches.2 hp,by simpa using e⟩)
    ·intro x
     rw[hS1,hS,List.mem_cons,List.mem_cons,List.mem_filter,List.mem_reverse]
     constructor
     ·rintro(e|e)
      ·exact .inl e
      ·exact .inr e.1
     ·rintro(e|e)
      ·exact .inl e
      ·by_cases e2:x=h
       ·exact .inl e2
       ·exact .inr ⟨e,by simpa using e2⟩
   have HST:Hid ((wr.setCell ⟨W0.heap.size,h,none⟩ (.bool true)).ownsRow W0.heap.size 4 1 (.slice (some ⟨W0.heap.size,0,none⟩) bs.length bs.length) bs.length (marks bs.length S2)):=by
    have h1:=hst
    rw[show marks bs.length S1=marks bs.length S2 from marks_congr (fun x=>(hmm x).symm)]at h1
    exact h1
   have HBS:Hid (Below W0.heap.size W0 (wr.setCell ⟨W0.heap.size,h,none⟩ (.bool true))):=HBr.out.setCell (Nat.le_refl _) _
   have HBK:=hideI hS2
   have hS2l:=below_len _ _ hS2.nodup hS2.lt
   clear hS hS1 hold hst hS2 hmm HO HO'
   go_wp2
   clear x2 x0 c2 c3 HBr
   go_loopg [9] (2*bs.length+1) (fun gk ch wr=>∃ (S:List Nat) (cb:Bool),ch=.bool cb∧2*(bs.length - S.length)+(if cb then 1 else 0)≤gk∧gk≤2*bs.length+1∧Hid (BkSt bs o h S)∧Hid (cb=false→∀ b,b<bs.length→shutAt bs h S b)∧Hid (wr.ownsRow W0.heap.size 4 1 (.slice (some ⟨W0.heap.size,0,none⟩) bs.length bs.length) bs.length (marks bs.length S))∧Hid (Below W0.heap.size W0 wr))
   case atStart => exact⟨S2,true,rfl,by simp;omega,Nat.le_refl _,HBK,hideI (fun h=>by cases h),HST,HBS⟩
   case round =>
    clear HBK HST HBS
    obtain⟨S,cb,rfl,hgk,hgm2,HS,HC,HO,HBr⟩:=hrel
    cases cb with
    | false =>
     have HLI:Hid (∀ x,decide (x∈S)=L h x):=fun x=>by
      rw[Bool.eq_iff_iff,decide_eq_true_iff,HK.out.fn.inL]
      exact HS.out.all (HC.out (by first|rfl|trivial)) x
     have HA0:Hid (BkAt w.heap.size W0.heap.size bs.length h #[pv,av,cv,.slice A bs.length c] w wr (.slice As' nl cs) (.slice none 0 0) (.slice none 0 0) (L h) ((List.range 0).filter (L h)) ((List.range 0).filter fun t=>!L h t&&outB bs L h t)):=by
      refine⟨hgm,(HBr.out.block _ (by omega)).trans HX1.out,(HBr.out.block _ (by omega)).trans HX2.out,(HBr.out.block _ (by omega)).trans HX0.out,?_,⟨World.ownsRow_nil _ _ _ _,World.ownsRow_nil _ _ _ _,fun k hk=>by cases hk⟩,HB0.out.trans (HBr.out.mono (by omega))⟩
      have h1:=HO.out
      rw[marks_bools,boolsM_congr (Q:=L h) (fun b _=>HLI.out b)]at h1
      exact h1
     clear HO HBr HC hgk hgm2
     obtain⟨i1,hjx,hy0,hy1,hy2⟩:=info_parts int_info
     go_wp2_with fail
     go_loopw [12] (fun u wr=>∃ (b:Nat) (v1 v3:Value),b≤bs.length∧u=.int .i64 b∧Hid (BkAt w.heap.size W0.heap.size bs.length h #[pv,av,cv,.slice A bs.length c] w wr (.slice As' nl cs) v1 v3 (L h) ((List.range b).filter (L h)) ((List.range b).filter fun t=>!L h t&&outB bs L h t))) (fun u _=>bs.length - (intOf u).toNat)
     case atStart => exact⟨0,_,_,Nat.zero_le _,rfl,HA0⟩
     case round =>
      clear HA0
      obtain⟨b,v1,v3,hb,rfl,HA⟩:=hrel
      have g3:=(row_cells HA.out.fn rfl) 3
      have x1:=(row_cells HA.out.box rfl) 1
      have x3:=(row_cells HA.out.box rfl) 3
      have hGl:=HA.out.lt
      by_cases hlt:b<bs.length
      ·have cb:wr.cell? ⟨W0.heap.size,b,none⟩=some (.bool (L h b)):=by rw[World.ownsRow.cellAt HA.out.row b (by omega)];exact boolsM_at hlt
       obtain⟨l1,hl1⟩:∃ l1,l1=(List.range b).filter (L h):=⟨_,rfl⟩
       obtain⟨l3,hl3⟩:∃ l3,l3=(List.range b).filter fun t=>!L h t&&outB bs L h t:=⟨_,rfl⟩
       have hl1l:l1.length≤512:=by rw[hl1];exact Nat.le_trans range_len (by omega)
       have hl3l:l3.length≤512:=by rw[hl3];exact Nat.le_trans range_len (by omega)
       rw[← hl1,← hl3]at HA
       cases hr:L h b with
       | true =>
        rw[hr]at cb
        have HN1:Hid ((List.range (b+1)).filter (L h)=l1++[b]):=by show _=_;rw[hl1];exact range_more hr
        have HN3:Hid (((List.range (b+1)).filter fun t=>!L h t&&outB bs L h t)=l3):=by show _=_;rw[hl3];exact range_skip (by simp[hr])
        have H63:Hid (l1.length+1≤maxLen):=by show _≤_;simp only[maxLen];omega
        have HBY:Hid ((l1.length+1)*8≤140737488355328):=by show _≤_;omega
        clear hr hl1 hl3 x3
        go_wp2_with (at_builtin;go_must (refine wpList_append_lies _ rfl _ _ _ rfl (W0.heap.size+1) 3 i1 (.int .i64 0) 1 8 Tryz.underlying22 hjx hy0 hy1 hy2 rfl (by decide) _ _ _ rfl (HA.out.two.one.alloc _) ⟨wr.heap.size,0,none⟩ 1 1 [.int .i64 b] rfl rfl (one_new wr _) (by simp[Value.oneCell']) (by decide) H63.out HBY.out (by simp;omega) _ rfl ?_);intro g1 cap1 w3 hown1 hgrow1 hor1 _;go_must (have HGR:=hideI (HA.out.grown (off:=1) (g:=g1) (len:=l1.length+1) (cap:=cap1) (fun k hk=>(HA.out.two.one.lt k hk).1) hgrow1);have HPU:=hideI (HA.out.push1 hown1 hgrow1 hor1);have zz:=row_cells HGR.out.1 rfl 1;have ff:=free_rowN HGR.out.1 rfl 1;clear hown1 hgrow1 hor1))
        go_roundw
        case rel => exact⟨b+1,_,_,by omega,by go_num,by rw[HN1.out,HN3.out];exact HPU⟩
        case measure => simp[intOf];omega
       | false =>
        rw[hr]at cb
        have HN1:Hid ((List.range (b+1)).filter (L h)=l1):=by show _=_;rw[hl1];exact range_skip hr
        obtain⟨v,hv⟩:∃ v,vs[b]?=some v:=⟨_,List.getElem?_eq_getElem (by rw[HLS0.out.vl];exact hlt)⟩
        have hl:(predsAt bs bs.length bs.length 0)[b]?=some (predsTo bs bs.length b):=by rw[predsAt_at hlt];simp
        have cgp0:w.cell? ⟨gp,b,none⟩=some v:=by rw[World.ownsRow.cellAt HLS.out.row b (by omega)];exact hv
        have hgpl:=HLS.out.lt.2
        have hown:=HLS.out.own b v _ hv hl
        obtain⟨l,hll2⟩:∃ l,l=predsTo bs bs.length b:=⟨_,rfl⟩
        rw[← hll2]at hown
        have HLL:=hideI hll2
        have hlll:l.length≤512:=by rw[hll2];exact Nat.le_trans (predsTo_len _ _ _) hn5
        obtain⟨PA,pc2,e1,_,hpy⟩:=nat_ints hown (by omega)
        rw[List.length_map]at e1 hpy
        subst e1
        have HPY:=hideI hpy
        have cgp:=(HA.out.bel.cell (p:=⟨gp,b,none⟩) hgpl).trans cgp0
        have HR:=hideI hr
        have HL3:=hideI hl3
        clear hv hl hown hll2 hpy cgp0 hr hl1 hl3 x1
        go_wp2_with fail
        go_loopw [13,14] (fun ev u wr2=>∃ (j:Nat),j≤l.length∧u=.int .i64 j∧ev=.bool ((l.take j).any (L h))∧wr2=wr) (fun _ u _=>l.length - (intOf u).toNat)
        case atStart => exact⟨0,Nat.zero_le _,rfl,rfl,rfl⟩
        case round =>
         obtain⟨j,hj,rfl,rfl,hw⟩:=hrel
         obtain rfl:=hw.symm
         obtain⟨ex,hex⟩:∃ ex,ex=(l.take j).any (L h):=⟨_,rfl⟩
         rw[← hex]
         by_cases hltj:j<l.length
         ·obtain⟨p,hp⟩:∃ p,l[j]?=some p:=⟨_,List.getElem?_eq_getElem hltj⟩
          have hpl:p<bs.length:=predsTo_lt (by rw[← HLL.out];exact List.mem_of_getElem? hp)
          have HAN:Hid ((l.take (j+1)).any (L h)=(ex||L h p)):=by show _=_;rw[any_next hp,hex]
          obtain⟨pb,po,rfl,hpb,d0⟩:=HPY.out j hltj
          rw[List.getElem?_map,hp]at d0
          simp only[Option.map_some,Option.getD_some]at d0
          have d1:=(HA.out.bel.cell (p:=⟨pb,po+j,none⟩) hpb).trans d0
          have cp:wr.cell? ⟨W0.heap.size,p,none⟩=some (.bool (L h p)):=by rw[World.ownsRow.cellAt HA.out.row p (by omega)];exact boolsM_at hpl
          obtain⟨r,hr⟩:∃ r,r=L h p:=⟨_,rfl⟩
          rw[← hr]at cp HAN
          clear hp d0 hr hex
          cases ex with
          | true =>
           go_wp2_with fail
           go_roundw
           case rel => exact⟨j+1,by omega,by go_num,by rw[HAN.out];rfl,by first|rfl|trivial⟩
           case measure => simp[intOf];omega
          | false =>
           go_wp2_with fail
           go_roundw
           case rel => exact⟨j+1,by omega,by go_num,by rw[HAN.out];simp,by first|rfl|trivial⟩
           case measure => simp[intOf];omega
         ·have HEX:Hid (ex=outB bs L h b):=by
           show _=_
           rw[hex,List.take_of_length_le (by omega),HLL.out]
           exact exit_any
          clear hex
          cases ex with
          | true =>
           have HN3:Hid (((List.range (b+1)).filter fun t=>!L h t&&outB bs L h t)=l3++[b]):=by show _=_;rw[HL3.out];exact range_more (by rw[HR.out,← HEX.out];rfl)
           have H63:Hid (l3.length+1≤maxLen):=by show _≤_;simp only[maxLen];omega
           have HBY:Hid ((l3.length+1)*8≤140737488355328):=by show _≤_;omega
           go_wp2_with (at_builtin;go_must (refine wpList_append_lies _ rfl _ _ _ rfl (W0.heap.size+1) 3 i1 (.int .i64 0) 1 8 Tryz.underlying22 hjx hy0 hy1 hy2 rfl (by decide) _ _ _ rfl (HA.out.two.two.alloc _) ⟨wr.heap.size,0,none⟩ 1 1 [.int .i64 b] rfl rfl (one_new wr _) (by simp[Value.oneCell']) (by decide) H63.out HBY.out (by simp;omega) _ rfl ?_);intro g1 cap1 w3 hown1 hgrow1 hor1 _;go_must (have HGR:=hideI (HA.out.grown (off:=3) (g:=g1) (len:=l3.length+1) (cap:=cap1) (fun k hk=>(HA.out.two.two.lt k hk).1) hgrow1);have HPU:=hideI (HA.out.push3 hown1 hgrow1 hor1);have zz:=row_cells HGR.out.1 rfl 3;have ff:=free_rowN HGR.out.1 rfl 3;clear hown1 hgrow1 hor1))
           go_roundw
           case rel => exact⟨b+1,_,_,by omega,by go_num,by rw[HN1.out,HN3.out];exact HPU⟩
           case measure => simp[intOf];omega
          | false =>
           have HN3:Hid (((List.range (b+1)).filter fun t=>!L h t&&outB bs L h t)=l3):=by show _=_;rw[HL3.out];exact range_skip (by rw[HR.out,← HEX.out];rfl)
           go_wp2_with fail
           go_roundw
           case rel => exact⟨b+1,_,_,by omega,by go_num,by rw[HN1.out,HN3.out];exact HA⟩
           case measure => simp[intOf];omega
      ·have hbn:b=bs.length:=by omega
       subst hbn
       obtain⟨A1,c1,rfl⟩:=own_sl HA.out.two.one
       obtain⟨A3,c3,rfl⟩:=own_sl HA.out.two.two
       obtain⟨m1,hm1⟩:∃ m1,m1=((List.range bs.length).filter (L h)).length:=⟨_,rfl⟩
       obtain⟨m3,hm3⟩:∃ m3,m3=((List.range bs.length).filter fun t=>!L h t&&outB bs L h t).length:=⟨_,rfl⟩
       rw[← hm1,← hm3]at HA x1 x3
       have hbx:=row_cells HA.out.box rfl
       have x0:=hbx 0
       have x2:=hbx 2
       have x4:=hbx 4
       have hrs:=row_cells HA.out.res rfl
       have s0:=hrs 0
       have s1:=hrs 1
       have s2:=hrs 2
       have s3:=hrs 3
       have s4:=hrs 4
       have f0:=free_rowN HA.out.res rfl 0
       have f1:=free_rowN HA.out.res rfl 1
       have f2:=free_rowN HA.out.res rfl 2
       have f3:=free_rowN HA.out.res rfl 3
       have f4:=free_rowN HA.out.res rfl 4
       clear hbx hrs hm1 hm3
       go_wp2_with fail
       have hj:w.heap.size+2<W0.heap.size+1:=by omega
       refine bodyPost_ret (v:=.agg #[.int .i64 (h:Int),.slice A1 m1 c1,.slice As' nl cs,.slice A3 m3 c3,.int .i64 0]) (by simp[results,Tryz.results84,go_sem,s0,s1,s2,s3,s4]) rfl ⟨_,_,rfl,?_,?_⟩
       ·have h1:TwoR _ (W0.heap.size+1) _ _ _ _:=((((HA.out.two.other (j:=w.heap.size+2) (off:=0) hj (.int .i64 (h:Int))).other (j:=w.heap.size+2) (off:=1) hj (.slice A1 m1 c1)).other (j:=w.heap.size+2) (off:=2) hj (.slice As' nl cs)).other (j:=w.heap.size+2) (off:=3) hj (.slice A3 m3 c3)).other (j:=w.heap.size+2) (off:=4) hj (.int .i64 0)
        exact⟨World.ownsRow.mono h1.one (by omega),World.ownsRow.mono h1.two (by omega),h1.apart⟩
       ·exact((((HA.out.bel.setCell (by simp;omega) _).setCell (by simp;omega) _).setCell (by simp;omega) _).setCell (by simp;omega) _).setCell (by simp;omega) _
    | true =>
     clear HC
     have hgk2:2*(bs.length - S.length)+1≤gk:=by simpa using hgk
     have HGK:=hideI hgk2
     clear hgk hgk2
     go_wp2_with fail
     go_loopw [9,10] (fun ch u wr=>∃ (k:Nat) (S2:List Nat) (cb:Bool),k≤bs.length∧u=.int .i64 k∧ch=.bool cb∧Hid (BkMid bs o h S S2 cb k [] 0)∧Hid (wr.ownsRow W0.heap.size 4 1 (.slice (some ⟨W0.heap.size,0,none⟩) bs.length bs.length) bs.length (marks bs.length S2))∧Hid (Below W0.heap.size W0 wr)) (fun _ u _=>bs.length - (intOf u).toNat)
     case atStart => exact⟨0,S,false,Nat.zero_le _,rfl,rfl,hideI ⟨HS.out,fun _=>⟨rfl,fun b hb=>by omega,fun p hp=>by simp at hp⟩,fun e=>by cases e⟩,HO,HBr⟩
     case round =>
      clear HO HBr
      obtain⟨k,S2,cb,hk,rfl,rfl,HM,HO,HBr⟩:=hrel
      have g3:=(row_cells HX0.out (HBr.out.block _ (by omega))) 3
      have x0:=(row_cells HX1.out (HBr.out.block _ (by omega))) 0
      by_cases hlt:k<bs.length
      ·obtain⟨v,hv⟩:∃ v,vs[k]?=some v:=⟨_,List.getElem?_eq_getElem (by rw[HLS0.out.vl];exact hlt)⟩
       have hl:(predsAt bs bs.length bs.length 0)[k]?=some (predsTo bs bs.length k):=by rw[predsAt_at hlt];simp
       have cgp0:W0.cell? ⟨gp,k,none⟩=some v:=by rw[World.ownsRow.cellAt HLS0.out.row k (by omega)];exact hv
       have hgpl:=HLS0.out.lt.2
       have hown:=HLS0.out.own k v _ hv hl
       obtain⟨l,hll2⟩:∃ l,l=predsTo bs bs.length k:=⟨_,rfl⟩
       rw[← hll2]at hown
       have HLL:=hideI hll2
       have hlll:l.length≤512:=by rw[hll2];exact Nat.le_trans (predsTo_len _ _ _) hn5
       obtain⟨PA,pc2,e1,_,hpy⟩:=nat_ints hown (by omega)
       rw[List.length_map]at e1 hpy
       subst e1
       have HPY:=hideI hpy
       have HMK:=hideI (HM.out.begin (l':=l))
       have CGP:=hideI cgp0
       clear hv hl hown hll2 hpy cgp0
       go_wp2_with fail
       go_loopw [9,11] (fun ch u wr=>∃ (j:Nat) (S2:List Nat) (cb:Bool),j≤l.length∧u=.int .i64 j∧ch=.bool cb∧Hid (BkMid bs o h S S2 cb k l j)∧Hid (j=0∨(k∈S2∧k≠h))∧Hid (wr.ownsRow W0.heap.size 4 1 (.slice (some ⟨W0.heap.size,0,none⟩) bs.length bs.length) bs.length (marks bs.length S2))∧Hid (Below W0.heap.size W0 wr)) (fun _ u _=>l.length - (intOf u).toNat)
       case atStart => exact⟨0,S2,cb,Nat.zero_le _,rfl,rfl,HMK,hideI (.inl rfl),HO,HBr⟩
       case round =>
        clear HM HMK HO HBr g3 x0
        obtain⟨j,S2,cb,hj,rfl,rfl,HM,HJ,HO,HBr⟩:=hrel
        have x0:=(row_cells HX1.out (HBr.out.block _ (by omega))) 0
        have cgp:=(HBr.out.cell (p:=⟨gp,k,none⟩) hgpl).trans CGP.out
        have cm:wr.cell? ⟨W0.heap.size,k,none⟩=some (.bool (decide (k∈S2))):=by rw[World.ownsRow.cellAt HO.out k (by omega),marks_at hlt]
        by_cases hltj:j<l.length
        ·by_cases hkS:k∈S2
         ·rw[show decide (k∈S2)=true from by simpa using hkS]at cm
          by_cases hkh:k=h
          ·have e1:((k:Int) != (h:Int))=false:=by rw[hkh];simp
           have hj0:j=0:=by
            rcases HJ.out with e|e
            ·exact e
            ·exact absurd hkh e.2
           have HN:Hid (BkMid bs o h S S2 cb (k+1) [] 0):=by
            have h1:=HM.out
            rw[hj0]at h1
            exact(h1.pass (.inr hkh)).begin
           clear hkS hkh hj0
           go_wp2_with fail
           go_roundw
           case rel => exact⟨k+1,S2,cb,by omega,by go_num,rfl,HN,HO,HBr⟩
           case measure => simp[intOf];omega
          ·have e1:((k:Int) != (h:Int))=true:=by rw[bne_iff_ne];omega
           obtain⟨p,hp⟩:∃ p,l[j]?=some p:=⟨_,List.getElem?_eq_getElem hltj⟩
           have hpl:p<bs.length:=predsTo_lt (by rw[← HLL.out];exact List.mem_of_getElem? hp)
           obtain⟨pb,po,rfl,hpb,d0⟩:=HPY.out j hltj
           rw[List.getElem?_map,hp]at d0
           simp only[Option.map_some,Option.getD_some]at d0
           have d1:=(HBr.out.cell (p:=⟨pb,po+j,none⟩) hpb).trans d0
           have cp:wr.cell? ⟨W0.heap.size,p,none⟩=some (.bool (decide (p∈S2))):=by rw[World.ownsRow.cellAt HO.out p (by omega),marks_at hpl]
           have fp:wr.frozen? ⟨W0.heap.size,p,none⟩=false:=World.ownsRow.frozenAt HO.out p
           have HKK:Hid (k∈S2∧k≠h):=⟨hkS,hkh⟩
           by_cases hpS:p∈S2
           ·rw[show decide (p∈S2)=true from by simpa using hpS]at cp
            have HN:=hideI (HM.out.skip hp hpS)
            clear hkS hkh hp d0 hpS
            go_wp2_with fail
            go_roundw
            case rel => exact⟨j+1,S2,cb,by omega,by go_num,rfl,HN,hideI (.inr HKK.out),HO,HBr⟩
            case measure => simp[intOf];omega
           ·rw[show decide (p∈S2)=false from by simpa using hpS]at cp
            have HN:=hideI (HM.out.add hp HLL.out hkS hkh hpS)
            have hst:=(World.ownsRow.stored HO.out p (.bool true)).1
            rw[marks_set]at hst
            have HST:=hideI hst
            have HBS:Hid (Below W0.heap.size W0 (wr.setCell ⟨W0.heap.size,p,none⟩ (.bool true))):=HBr.out.setCell (Nat.le_refl _) _
            have hpne:pb≠W0.heap.size:=by omega
            have hgne:gp≠W0.heap.size:=by omega
            clear hkS hkh hp d0 hpS hst
            go_wp2_with fail
            go_roundw
            case rel => exact⟨j+1,p::S2,true,by omega,by go_num,rfl,HN,hideI (.inr ⟨List.mem_cons_of_mem _ HKK.out.1,HKK.out.2⟩),HST,HBS⟩
            case measure => simp[intOf];omega
         ·rw[show decide (k∈S2)=false from by simpa using hkS]at cm
          have hj0:j=0:=by
           rcases HJ.out with e|e
           ·exact e
           ·exact absurd e.1 hkS
          have HN:Hid (BkMid bs o h S S2 cb (k+1) [] 0):=by
           have h1:=HM.out
           rw[hj0]at h1
           exact(h1.pass (.inl hkS)).begin
          clear hkS hj0
          go_wp2_with fail
          go_roundw
          case rel => exact⟨k+1,S2,cb,by omega,by go_num,rfl,HN,HO,HBr⟩
          case measure => simp[intOf];omega
        ·have HN:=hideI ((HM.out.next HLL.out (by omega)).begin (l':=[]))
         go_wp2_with fail
         go_roundw
         case rel => exact⟨k+1,S2,cb,by omega,by go_num,rfl,HN,HO,HBr⟩
         case measure => simp[intOf];omega
      ·have hkn:k=bs.length:=by omega
       have HN2:Hid (cb=false→∀ b,b<bs.length→shutAt bs h S2 b):=fun e b hb=>(HM.out.no e).2.1 b (by omega)
       have hS2l:=below_len _ _ HM.out.st.nodup HM.out.st.lt
       have hms:2*(bs.length - S2.length)+(if cb then 1 else 0)+1≤gk:=by
        have:=HGK.out
        cases cb with
        | false => have:=(HM.out.no rfl).1;subst this;simp;omega
        | true => have:=HM.out.yes rfl;simp;omega
       have HMS:=hideI hms
       have HST:=hideI HM.out.st
       clear hkn hms
       go_wp2_with fail
       go_roundg (2*(bs.length - S2.length)+(if cb then 1 else 0))
       case rel => exact⟨S2,cb,rfl,Nat.le_refl _,by have:=HMS.out;omega,HST,HN2,HO,HBr⟩
       case measure => have:=HMS.out;omega
end Go.Proofs.YtaehbgppfahdeaaGreat

namespace Go.Proofs.YtaehbgppfahdeaaGreat
open Go.RowKit
theorem has_at {w:World} {B:Nat} {v:Value} {l:List Nat} {p:Nat} {r:Bool} (hi:Ints w B v (l.map fun(x:Nat)=>(x:Int))) (hr:decide (p∈l)=r) (a:Nat) :
  Calls Tryz.prog 56 #[v,.int .i64 (p:Int)] (w.drewN a) fun e w'=>e=.returned (.bool r)∧w'=w.drewN a:=by
 have hi2:Ints (w.drewN a) B v (l.map fun(x:Nat)=>(x:Int)):=hi
 have h1:=has_any _ B v (p:Int) (w.drewN a) hi2
 have e:decide ((p:Int)∈l.map fun(x:Nat)=>(x:Int))=r:=by rw[← hr];simp only[mem_nat]
 rw[e]at h1
 exact h1.mono fun _ _ ⟨a,b⟩=>⟨a,b.symm⟩
end Go.Proofs.YtaehbgppfahdeaaGreat

namespace Go.Proofs.YtaehbgppfahdeaaGreat
open Go.RowKit Go.Maps
theorem all_no {P:Nat→Bool} {l:List Nat} {j b:Nat} (hb:l[j]?=some b) (h:P b=false):l.all P=false:=by
 rw[List.all_eq_false]
 exact⟨b,List.mem_of_getElem? hb,by rw[h];simp⟩
theorem all_next {P:Nat→Bool} {l:List Nat} {j b:Nat} (hb:l[j]?=some b) (h:P b=true) (ha:(l.take j).all P=true):(l.take (j+1)).all P=true:=by
 rw[List.take_add_one,hb,List.all_append,ha]
 simp[h]
set_option maxRecDepth 100000 in
set_option maxHeartbeats 2000000 in
theorem refWithin_any (xs ys:List Nat) (nx ny cx cy:Nat) (Ax Ay:Option Addr) (v0 v2 v3 v4 u0 u2 u3 u4:Value) (w:World) (hx:Ints w w.heap.size (.slice Ax nx cx) (xs.map fun(x:Nat)=>(x:Int))) (hy:Ints w w.heap.size (.slice Ay ny cy) (ys.map fun(x:Nat)=>(x:Int))) (hn:nx=xs.length) (hn5:nx≤512) :
  Calls Tryz.prog 85 #[.agg #[v0,.slice Ax nx cx,v2,v3,v4],.agg #[u0,.slice Ay ny cy,u2,u3,u4]] w fun e w'=>e=.returned (.bool (xs.all fun b=>decide (b∈ys)))∧Below w.heap.size w w':=by
 obtain⟨W,hW⟩:∃ W,W=(w.alloc (.cells #[v0,.slice Ax nx cx,v2,v3,v4] 88)).alloc (.cells #[u0,.slice Ay ny cy,u2,u3,u4] 88):=⟨_,rfl⟩
 have HBW:Hid (Below w.heap.size w W):=by show Below _ _ _;rw[hW];exact((Below.refl _ w).alloc (Nat.le_refl _) _).alloc (by simp) _
 have hx1:W.heap[w.heap.size]?=some (.cells #[v0,.slice Ax nx cx,v2,v3,v4] 88 (0,0)):=by
  rw[hW,Below.heap_alloc _ _ _ (by simp)]
  exact heap_alloc_new w _
 have hx2:W.heap[w.heap.size+1]?=some (.cells #[u0,.slice Ay ny cy,u2,u3,u4] 88 (0,0)):=by
  rw[hW]
  have:=heap_alloc_new (w.alloc (.cells #[v0,.slice Ax nx cx,v2,v3,v4] 88)) (.cells #[u0,.slice Ay ny cy,u2,u3,u4] 88)
  simpa using this
 have HX1:=hideI hx1
 have HX2:=hideI hx2
 have HIX:=hideI (hx.keep HBW.out)
 have HIY:=hideI (hy.keep HBW.out)
 have HN:=hideI hn
 have HW0:=hideI hW
 obtain⟨Ax',_,e1,_,hpx⟩:=HIX.out
 have ea:Ax'=Ax:=by injection e1 with e2 _ _;exact e2.symm
 subst ea
 rw[List.length_map,← hn]at hpx
 have HPX:=hideI hpx
 have q1:=row_cells hx1 rfl 1
 have q2:=row_cells hx2 rfl 1
 clear hW hx1 hx2 hx hy hn e1 hpx
 go_enter Tryz.func85,Tryz.ntmps85
 go_upto_region 1 with fail
 rw[← HW0.out]
 go_wp2_with fail
 go_loopw [5] (fun u wr=>∃ k m:Nat,k≤nx∧u=.int .i64 k∧Hid ((xs.take k).all (fun b=>decide (b∈ys))=true)∧wr=W.drewN m) (fun u _=>nx - (intOf u).toNat)
 case atStart => exact⟨0,0,Nat.zero_le _,rfl,hideI rfl,rfl⟩
 case round =>
  obtain⟨k,m,hk,rfl,HA,hwr⟩:=hrel
  have HWR:=hideI hwr
  have r1:wr.cell? ⟨w.heap.size,1,none⟩=some (.slice Ax' nx cx):=by rw[hwr];exact q1
  have r2:wr.cell? ⟨w.heap.size+1,1,none⟩=some (.slice Ay ny cy):=by rw[hwr];exact q2
  by_cases hlt:k<nx
  ·obtain⟨b,hb⟩:∃ b,xs[k]?=some b:=⟨_,List.getElem?_eq_getElem (by have:=HN.out;omega)⟩
   obtain⟨pb,po,rfl,hpb,d0⟩:=HPX.out k hlt
   rw[List.getElem?_map,hb]at d0
   simp only[Option.map_some,Option.getD_some]at d0
   have d1:wr.cell? ⟨pb,po+k,none⟩=some (.int .i64 (b:Int)):=by rw[hwr];exact d0
   obtain⟨r,hr⟩:∃ r,r=decide (b∈ys):=⟨_,rfl⟩
   have HH:Hid (∀ a,_):=hideI (has_at (w:=wr) (p:=b) (r:=r) (by rw[hwr];exact HIY.out) hr.symm)
   cases r with
   | false =>
    have HF:Hid ((xs.all fun b=>decide (b∈ys))=false):=all_no hb hr.symm
    clear hb d0 hr hwr q1 q2
    go_wp2_with fail
    go_quiet ((go_at_call 56;exact Calls.quiet_of_same (HH.out _)))
    go_wp2_with fail
    go_ret
    refine⟨by rw[HF.out];rfl,?_⟩
    have h1:=drew_below HBW.out m
    rw[← HWR.out]at h1
    exact drew_below h1 _
   | true =>
    have HT:Hid ((xs.take (k+1)).all (fun b=>decide (b∈ys))=true):=all_next hb hr.symm HA.out
    clear hb d0 hr hwr q1 q2
    go_wp2_with fail
    go_quiet ((go_at_call 56;exact Calls.quiet_of_same (HH.out _)))
    go_wp2_with fail
    go_roundw
    case rel => exact⟨k+1,_,by omega,by go_num,HT,by rw[HWR.out];exact World.drewN_drewN ..⟩
    case measure => simp[intOf];omega
  ·have HE:Hid ((xs.all fun b=>decide (b∈ys))=true):=by
    show _=_
    have h1:=HA.out
    rwa [List.take_of_length_le (by have:=HN.out;omega)]at h1
   clear hwr q1 q2
   go_wp2_with fail
   go_ret
   refine⟨by rw[HE.out];rfl,?_⟩
   rw[HWR.out]
   exact drew_below HBW.out m
end Go.Proofs.YtaehbgppfahdeaaGreat
