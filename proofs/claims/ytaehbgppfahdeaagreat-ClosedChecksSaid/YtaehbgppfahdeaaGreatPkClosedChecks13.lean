/- What ClosedChecks rests on, part 13: LNest, LForest, InLeast, LLps, InNest, FnI, CHas, LFacts. -/
import Derived.Test.YtaehbgppfahdeaaGreatPkClosedChecks12
import Derived.Deep.LoopGhost
import Derived.Deep.QuietTactic

namespace Go.Proofs.YtaehbgppfahdeaaGreat
open Go.RowKit Go.Maps
def lp0M (bs:List BlockM) (D L:Nat→Nat→Bool) (k:Nat):List LpM:=(headsM bs D k).map (lpOf bs D L)
theorem heads_succ (bs:List BlockM) (D:Nat→Nat→Bool) (k:Nat):headsM bs D (k+1)=headsM bs D k++if (latchesM bs D k).length=0 then []else [k]:=by
 unfold headsM
 rw[List.range_succ,List.filter_append]
 cases h:latchesM bs D k <;> simp[h]
theorem lp0_skip {bs:List BlockM} {D L:Nat→Nat→Bool} {k:Nat} (h:(latchesM bs D k).length=0):lp0M bs D L (k+1)=lp0M bs D L k:=by
 unfold lp0M
 rw[heads_succ,if_pos h,List.append_nil]
theorem lp0_more {bs:List BlockM} {D L:Nat→Nat→Bool} {k:Nat} (h:(latchesM bs D k).length≠0):lp0M bs D L (k+1)=lp0M bs D L k++[lpOf bs D L k]:=by
 unfold lp0M
 rw[heads_succ,if_neg h,List.map_append]
 rfl
theorem heads_len (bs:List BlockM) (D:Nat→Nat→Bool) (k:Nat):(headsM bs D k).length≤k:=by
 unfold headsM
 have:=List.length_filter_le (fun h=>!(latchesM bs D h).isEmpty) (List.range k)
 rwa [List.length_range]at this
theorem lp0_len (bs:List BlockM) (D L:Nat→Nat→Bool) (k:Nat):(lp0M bs D L k).length≤k:=by
 unfold lp0M
 rw[List.length_map]
 exact heads_len bs D k
theorem lp0_rising (bs:List BlockM) (D L:Nat→Nat→Bool) (k:Nat) (hn:bs.length≤512):Rising (lp0M bs D L k):=by
 intro x hx
 unfold lp0M at hx
 rw[List.mem_map]at hx
 obtain⟨h,_,rfl⟩:=hx
 show(blocksM bs.length L h).Pairwise (·<·)∧(blocksM bs.length L h).length≤512
 unfold blocksM
 refine⟨List.Pairwise.filter _ List.pairwise_lt_range,?_⟩
 have:=List.length_filter_le (L h) (List.range bs.length)
 rw[List.length_range]at this
 omega
def parsTo (ls:List LpM) (j:Nat):List LpM:=(List.range ls.length).map fun i=>if i<j then { ls.getD i noLp with parent:=arM ls i ls.length } else ls.getD i noLp
theorem parsTo_len (ls:List LpM) (j:Nat):(parsTo ls j).length=ls.length:=by simp[parsTo]
theorem parsTo_at {ls:List LpM} {j i:Nat} (h:i<ls.length):(parsTo ls j)[i]?=some (if i<j then { ls.getD i noLp with parent:=arM ls i ls.length } else ls.getD i noLp):=by
 unfold parsTo
 rw[List.getElem?_map,List.getElem?_eq_getElem (by simpa using h)]
 simp
theorem parsTo_zero (ls:List LpM):parsTo ls 0=ls:=by
 apply List.ext_getElem?
 intro i
 by_cases h:i<ls.length
 ·rw[parsTo_at h,if_neg (by omega),List.getD_eq_getElem?_getD,List.getElem?_eq_getElem h]
  rfl
 ·rw[List.getElem?_eq_none (by rw[parsTo_len];omega),List.getElem?_eq_none (by omega)]
theorem parsTo_getD {ls:List LpM} {j i:Nat}:((parsTo ls j).getD i noLp).head=(ls.getD i noLp).head∧((parsTo ls j).getD i noLp).blocks=(ls.getD i noLp).blocks:=by
 rw[List.getD_eq_getElem?_getD (l:=parsTo ls j)]
 by_cases h:i<ls.length
 ·rw[parsTo_at h]
  simp only[Option.getD_some]
  split <;> exact⟨rfl,rfl⟩
 ·rw[List.getElem?_eq_none (by rw[parsTo_len];omega),List.getD_eq_getElem?_getD,List.getElem?_eq_none (by omega)]
  exact⟨rfl,rfl⟩
theorem parsTo_arM {ls:List LpM} {j i:Nat}:∀ k,arM (parsTo ls j) i k=arM ls i k
|0=>rfl
|k+1=>by
  show(if lessB (parsTo ls j) i (arM (parsTo ls j) i k) k=true then (k:Int)else arM (parsTo ls j) i k)=if lessB ls i (arM ls i k) k=true then (k:Int)else arM ls i k
  rw[parsTo_arM k]
  have:lessB (parsTo ls j) i (arM ls i k) k=lessB ls i (arM ls i k) k:=by
   unfold lessB
   rw[(parsTo_getD (ls:=ls) (j:=j) (i:=i)).1,(parsTo_getD (ls:=ls) (j:=j) (i:=k)).2,(parsTo_getD (ls:=ls) (j:=j) (i:=(arM ls i k).toNat)).2]
  rw[this]
theorem parsTo_set {ls:List LpM} {j:Nat} {x:LpM} (h:j<ls.length) (hx:(parsTo ls j)[j]?=some x):(parsTo ls j).set j { x with parent:=arM ls j ls.length }=parsTo ls (j+1):=by
 rw[parsTo_at h,if_neg (by omega)]at hx
 cases hx
 apply List.ext_getElem?
 intro i
 by_cases hi:i<ls.length
 ·by_cases e:j=i
  ·subst e
   rw[List.getElem?_set_self (by rw[parsTo_len];exact h),parsTo_at hi,if_pos (by omega)]
  ·rw[List.getElem?_set_ne e,parsTo_at hi,parsTo_at hi]
   by_cases hij:i<j
   ·rw[if_pos hij,if_pos (by omega)]
   ·rw[if_neg hij,if_neg (by omega)]
 ·rw[List.getElem?_eq_none (by rw[List.length_set,parsTo_len];omega),List.getElem?_eq_none (by rw[parsTo_len];omega)]
theorem parsTo_rising {ls:List LpM} {j:Nat} (h:Rising ls):Rising (parsTo ls j):=by
 intro x hx
 obtain⟨i,hi⟩:=List.getElem?_of_mem hx
 have hl:=(List.getElem?_eq_some_iff.1 hi).1
 rw[parsTo_len]at hl
 rw[parsTo_at hl]at hi
 have hb:x.blocks=(ls.getD i noLp).blocks:=by
  split at hi <;> cases hi <;> rfl
 rw[hb,List.getD_eq_getElem?_getD,List.getElem?_eq_getElem hl]
 exact h _ (List.getElem_mem hl)
def loopsM (bs:List BlockM) (D L:Nat→Nat→Bool):List LpM:=parsTo (lp0M bs D L bs.length) (lp0M bs D L bs.length).length
def NestPost (f:FuncM) (pv bv:Value) (w:World) (e:Ending) (w':World):Prop :=
 (∃ x y:Int,CheckIs f (x,y)∧y≠0∧e=.returned (.tuple #[.agg #[.slice none 0 0,.int .i64 0,.int .i64 0,.slice none 0 0,.slice none 0 0,.slice none 0 0,.slice none 0 0,.slice none 0 0],.int .i64 y])∧Below w.heap.size w w') ∨
 (∃ (o:List Nat) (pl:Nat→Nat) (par:Nat→Option Nat) (D L:Nat→Nat→Bool) (gp:Nat) (vs:List Value) (gi gl:Nat) (lv:Value),LoopsOf f o pl par D L∧e=.returned (.tuple #[.agg #[pv,.int .i64 f.arrays,.int .i64 f.cells,bv,.slice (some ⟨gp,0,none⟩) f.blocks.length f.blocks.length,.slice (some ⟨gi,0,none⟩) f.blocks.length f.blocks.length,.slice (some ⟨gl,0,none⟩) f.blocks.length f.blocks.length,lv],.int .i64 0])∧LfAt w' (w.heap.size+2) f.blocks o pl par gp vs gi gl∧LoopsR w' (w.heap.size+2) lv (loopsM f.blocks D L)∧Below w.heap.size w w')
set_option maxRecDepth 100000 in
set_option maxHeartbeats 8000000 in
theorem lNest_any (f:FuncM) (B:Nat) (pv bv:Value) (w:World) (hpv:Ints w B pv f.params) (hbv:BlocksR w B bv f.blocks) (hB:B≤w.heap.size) (hid:∀ u∈usesM f,I64 u.1) :
  Calls Tryz.prog 179 #[.agg #[pv,.int .i64 f.arrays,.int .i64 f.cells,bv]] w (NestPost f pv bv w):=by
 have HP:=hideI hpv
 have HBL:=hideI hbv
 have HID:=hideI hid
 obtain⟨P,pc,rfl,_⟩:=hpv
 obtain⟨A,c,rfl,hbm,_⟩:=hbv
 obtain⟨W0,hW0⟩:∃ W0,W0=(w.alloc (.cells #[.slice P f.params.length pc,.int .i64 f.arrays,.int .i64 f.cells,.slice A f.blocks.length c] 25)).alloc (.cells #[.slice none 0 0,.int .i64 0,.int .i64 0,.slice none 0 0,.slice none 0 0,.slice none 0 0,.slice none 0 0,.slice none 0 0] 248):=⟨_,rfl⟩
 have hB0:Below w.heap.size w W0:=by rw[hW0];exact((Below.refl _ w).alloc (Nat.le_refl _) _).alloc (by simp) _
 have hs0:W0.heap.size=w.heap.size+2:=by rw[hW0];simp
 have hbox:W0.heap[w.heap.size]?=some (.cells #[.slice P f.params.length pc,.int .i64 f.arrays,.int .i64 f.cells,.slice A f.blocks.length c] 25 (0,0)):=by
  rw[hW0,Below.heap_alloc _ _ _ (by simp)]
  exact heap_alloc_new w _
 have hres:W0.heap[w.heap.size+1]?=some (.cells #[.slice none 0 0,.int .i64 0,.int .i64 0,.slice none 0 0,.slice none 0 0,.slice none 0 0,.slice none 0 0,.slice none 0 0] 248 (0,0)):=by
  rw[hW0]
  have:=heap_alloc_new (w.alloc (.cells #[.slice P f.params.length pc,.int .i64 f.arrays,.int .i64 f.cells,.slice A f.blocks.length c] 25)) (.cells #[.slice none 0 0,.int .i64 0,.int .i64 0,.slice none 0 0,.slice none 0 0,.slice none 0 0,.slice none 0 0,.slice none 0 0] 248)
  simpa using this
 have HW0:=hideI hW0
 have HB0:=hideI hB0
 have HS0:=hideI hs0
 have G0:Hid (∀ W,Below W0.heap.size W0 W→(∀ o,W.cell? ⟨w.heap.size,o,none⟩=(#[.slice P f.params.length pc,.int .i64 f.arrays,.int .i64 f.cells,.slice A f.blocks.length c]:Array Value)[o]?)∧(∀ o,W.cell? ⟨w.heap.size+1,o,none⟩=(#[.slice none 0 0,.int .i64 0,.int .i64 0,.slice none 0 0,.slice none 0 0,.slice none 0 0,.slice none 0 0,.slice none 0 0]:Array Value)[o]?)∧(∀ o,W.frozen? ⟨w.heap.size+1,o,none⟩=false)):=fun W hW=>by
  have h1:=hW.block w.heap.size (by omega)
  have h2:=hW.block (w.heap.size+1) (by omega)
  exact⟨row_cells hbox h1,row_cells hres h2,fun o=>free_rowN hres h2 o⟩
 have HPW:Hid (∀ W,Below W0.heap.size W0 W→Ints W B (.slice P f.params.length pc) f.params∧BlocksR W B (.slice A f.blocks.length c) f.blocks∧Below w.heap.size w W):=fun W hW=>by
  have h1:Below w.heap.size w W:=HB0.out.trans (hW.mono (by omega))
  exact⟨HP.out.keeps (Keeps.of_below (h1.mono hB)),HBL.out.keeps (Keeps.of_below (h1.mono hB)),h1⟩
 obtain⟨q1,q2,q3⟩:=G0.out W0 (Below.refl _ _)
 have b0:=q1 0
 have b1:=q1 1
 have b2:=q1 2
 have b3:=q1 3
 have hBW0:B≤W0.heap.size:=by omega
 have HLF:=hideI (lFunc_any f B _ _ W0 (HPW.out _ (Below.refl _ _)).1 (HPW.out _ (Below.refl _ _)).2.1 hBW0 HID.out)
 clear hid hW0 hB0 hs0 hbox hres q1 q2 q3
 by_cases hst:∃ o,StrictM f o
 ·obtain⟨o0,hst⟩:=hst
  have HST:=hideI hst
  have hnb:=look_some_block hst.look
  have hn5:=hnb.2
  have HIN:=hideI (look_ends hst.look)
  clear hst hnb
  go_enter Tryz.func179,Tryz.ntmps179
  go_upto_region 1 with fail
  rw[← HW0.out]
  go_wp2_with (first
  |(go_at_call 209;go_must (refine HLF.out.mono ?_);rintro e w1 (⟨x,y,hci,hy,_⟩|⟨o,pl,par,D,L,gp,vs,gi,gl,hk,rfl,hlf,hb1⟩);(exact absurd (Prod.mk.inj (HST.out.check hci)).2 hy);have HK:=hideI hk;have HLF1:=hideI hlf;have HB1:=hideI hb1;clear hk hlf hb1 b0 b1 b2 b3))
  obtain⟨Wn,hWn⟩:∃ Wn,Wn=w1.alloc (.cells #[.slice P f.params.length pc,.int .i64 f.arrays,.int .i64 f.cells,.slice A f.blocks.length c,.slice (some ⟨gp,0,none⟩) f.blocks.length f.blocks.length,.slice (some ⟨gi,0,none⟩) f.blocks.length f.blocks.length,.slice (some ⟨gl,0,none⟩) f.blocks.length f.blocks.length] 246):=⟨_,rfl⟩
  obtain⟨W1,hW1⟩:∃ W1,W1=Wn.alloc (.cells #[.slice P f.params.length pc,.int .i64 f.arrays,.int .i64 f.cells,.slice A f.blocks.length c,.slice (some ⟨gp,0,none⟩) f.blocks.length f.blocks.length,.slice (some ⟨gi,0,none⟩) f.blocks.length f.blocks.length,.slice (some ⟨gl,0,none⟩) f.blocks.length f.blocks.length,.slice none 0 0] 248):=⟨_,rfl⟩
  obtain⟨gn,hgn⟩:∃ gn,gn=w1.heap.size+1:=⟨_,rfl⟩
  have hsn:Wn.heap.size=gn:=by rw[hWn,hgn];simp
  have HXN:Hid (W1.heap[gn]?=some (.cells #[.slice P f.params.length pc,.int .i64 f.arrays,.int .i64 f.cells,.slice A f.blocks.length c,.slice (some ⟨gp,0,none⟩) f.blocks.length f.blocks.length,.slice (some ⟨gi,0,none⟩) f.blocks.length f.blocks.length,.slice (some ⟨gl,0,none⟩) f.blocks.length f.blocks.length,.slice none 0 0] 248 (0,0))):=by show _=_;rw[hW1,← hsn];exact heap_alloc_new Wn _
  have HLN:Hid (LfAt Wn (W0.heap.size+2) f.blocks o pl par gp vs gi gl):=by show LfAt _ _ _ _ _ _ _ _ _ _;rw[hWn];exact HLF1.out.kept ((Below.refl _ _).alloc (Nat.le_refl _) _)
  have HBN:Hid (Below W0.heap.size W0 Wn):=by show Below _ _ _;rw[hWn];exact HB1.out.alloc HB1.out.size _
  have HBN1:Hid (Below gn Wn W1):=by show Below _ _ _;rw[hW1,← hsn];exact(Below.refl _ _).alloc (Nat.le_refl _) _
  have HSN:=hideI hsn
  have hgn0:W0.heap.size<gn:=by have:=HB1.out.size;omega
  have hBgn:B≤gn:=by omega
  rw[← hWn,← hW1,← hgn]
  clear hWn hW1 hgn hsn
  go_loopw [26] (fun u wr=>∃ (k:Nat) (lv:Value),k≤f.blocks.length∧u=.int .i64 k∧Hid (wr.heap[gn]?=some (.cells #[.slice P f.params.length pc,.int .i64 f.arrays,.int .i64 f.cells,.slice A f.blocks.length c,.slice (some ⟨gp,0,none⟩) f.blocks.length f.blocks.length,.slice (some ⟨gi,0,none⟩) f.blocks.length f.blocks.length,.slice (some ⟨gl,0,none⟩) f.blocks.length f.blocks.length,lv] 248 (0,0)))∧Hid (LoopsR wr (gn+1) lv (lp0M f.blocks D L k))∧Hid (Below gn Wn wr)) (fun u _=>f.blocks.length - (intOf u).toNat)
  case atStart=>exact⟨0,_,Nat.zero_le _,rfl,HXN,hideI (LoopsR.nil _ _),HBN1⟩
  case round =>
   obtain⟨k,lv,hk,rfl,HX,HLP,HBr⟩:=hrel
   have hgr:=lt_of_heap HX.out
   have HLr:Hid (LfAt wr (W0.heap.size+2) f.blocks o pl par gp vs gi gl):=HLN.out.kept (by rw[HSN.out];exact HBr.out)
   have hx:=row_cells HX.out rfl
   have q0:=hx 0
   have q1:=hx 1
   have q2:=hx 2
   have q3:=hx 3
   have q4:=hx 4
   have q5:=hx 5
   have q6:=hx 6
   have q7:=hx 7
   clear hx
   by_cases hlt:k<f.blocks.length
   ·have HLT:=hideI (lLatch_any f.blocks o pl par D L (W0.heap.size+2) gp gi gl k vs (.slice P f.params.length pc) (.int .i64 f.arrays) (.int .i64 f.cells) (.slice A f.blocks.length c) wr HK.out.ok HLr.out hlt)
    obtain⟨m,hm⟩:∃ m,m=(latchesM f.blocks D k).length:=⟨_,rfl⟩
    have HM:=hideI hm
    by_cases hm0:m=0
    ·subst hm0
     have HSK:=hideI (lp0_skip (L:=L) hm.symm)
     clear hm
     go_wp2_with (go_at_call 210;go_must (refine HLT.out.mono ?_);rintro e w2 ⟨v2,rfl,hown2,hb2⟩;(obtain⟨A2,c2,rfl⟩:=own_sl hown2);rw[← HM.out];have HX2:=hideI ((hb2.block gn hgr).trans HX.out);have HL2:=hideI (HLP.out.kept hb2);have HB2:=hideI (HBr.out.trans (hb2.mono (Nat.le_of_lt hgr)));clear hown2 hb2 q0 q1 q2 q3 q4 q5 q6 q7)
     go_roundw
     case rel=>exact⟨k+1,lv,by omega,by go_num,HX2,by rw[HSK.out];exact HL2,HB2⟩
     case measure=>simp[intOf];omega
    ·have hmp:0<m:=by omega
     have HMR:=hideI (lp0_more (L:=L) (by rw[← hm];exact hm0))
     have hlpl:=lp0_len f.blocks D L k
     clear hm hm0
     go_wp2_with (first
     |(go_at_call 210;go_must (refine HLT.out.mono ?_);rintro e w2 ⟨v2,rfl,hown2,hb2⟩;(obtain⟨A2,c2,rfl⟩:=own_sl hown2);have HO2:=hideI hown2;have HX2:=hideI ((hb2.block gn hgr).trans HX.out);have HL2:=hideI (HLP.out.kept hb2);have HF2:=hideI (HLr.out.kept hb2);have HB2:=hideI (HBr.out.trans (hb2.mono (Nat.le_of_lt hgr)));have hs2:wr.heap.size≤w2.heap.size:=hb2.size;have HSB:Hid (SubR w2 (gn+1) lv (.slice A2 (latchesM f.blocks D k).length c2) (latchesM f.blocks D k)):=⟨World.ownsRow.mono hown2 hgr,fun j hj e=>(by obtain⟨cs,hr1,_⟩:=HLP.out.ex;have h1:=(hown2.lt j hj).1;have h2:=(hr1.lt j e).2;omega)⟩;clear hown2 hb2 q0 q1 q2 q3 q4 q5 q6 q7;rw[← HM.out]at HSB ⊢)
     |(go_at_call 211;go_must (refine(lAddL_any f.blocks o pl par D L (W0.heap.size+2) gp gi gl k c B gn (gn+1) vs (.slice P f.params.length pc) (.int .i64 f.arrays) (.int .i64 f.cells) lv _ A (lp0M f.blocks D L k) w2 HK.out.ok HF2.out hlt HIN.out (HBL.out.keeps (Keeps.of_below ((HPW.out _ (HBN.out.trans (HB2.out.mono (Nat.le_of_lt hgn0)))).2.2.mono hB))) hBgn HX2.out (Nat.lt_succ_self _) (by omega) HL2.out (by omega) HSB.out).mono ?_);rintro e w3 ⟨g3,cap3,rfl,hx3,hl3,hb3⟩;have HX3:=hideI hx3;have HL3:=hideI hl3;have HB3:=hideI (HB2.out.trans hb3);clear hx3 hl3 hb3))
     go_roundw
     case rel=>exact⟨k+1,_,by omega,by go_num,HX3,by rw[HMR.out];exact HL3,HB3⟩
     case measure=>simp[intOf];omega
   ·have hkn:k=f.blocks.length:=by omega
    subst hkn
    obtain⟨ls,hls⟩:∃ ls,ls=lp0M f.blocks D L f.blocks.length:=⟨_,rfl⟩
    have HLS:=hideI hls
    have HRS:Hid (Rising ls):=by show Rising ls;rw[hls];exact lp0_rising _ _ _ _ hn5
    have hll:ls.length≤512:=by rw[hls];exact Nat.le_trans (lp0_len _ _ _ _) hn5
    rw[← hls]at HLP
    have HPT:Hid (loopsM f.blocks D L=parsTo ls ls.length):=by show _=_;rw[hls];rfl
    obtain⟨Av,cv,rfl⟩:∃ A c,lv=.slice A ls.length c:=by obtain⟨cs,h1,_⟩:=HLP.out.ex;exact own_sl h1
    have HL0:Hid (LoopsR wr (gn+1) (.slice Av ls.length cv) (parsTo ls 0)):=by show LoopsR _ _ _ _;rw[parsTo_zero];exact HLP.out
    clear hls HLP
    go_wp2
    clear q0 q1 q2 q3 q4 q5 q6 q7
    obtain⟨wo,rfl⟩:∃ wo:World,wo=wr:=⟨_,rfl⟩
    go_loopw [43] (fun u wr=>∃ j:Nat,j≤ls.length∧u=.int .i64 j∧Hid (wr.heap[gn]?=some (.cells #[.slice P f.params.length pc,.int .i64 f.arrays,.int .i64 f.cells,.slice A f.blocks.length c,.slice (some ⟨gp,0,none⟩) f.blocks.length f.blocks.length,.slice (some ⟨gi,0,none⟩) f.blocks.length f.blocks.length,.slice (some ⟨gl,0,none⟩) f.blocks.length f.blocks.length,.slice Av ls.length cv] 248 (0,0)))∧Hid (LoopsR wr (gn+1) (.slice Av ls.length cv) (parsTo ls j))∧Hid (Below gn Wn wr)) (fun u _=>ls.length - (intOf u).toNat)
    case atStart=>exact⟨0,Nat.zero_le _,rfl,HX,HL0,HBr⟩
    case round =>
     clear HX HL0 HBr HLr hgr
     obtain⟨j,hj,rfl,HX,HLP,HBr⟩:=hrel
     have hgr:=lt_of_heap HX.out
     have HLr:Hid (LfAt wr (W0.heap.size+2) f.blocks o pl par gp vs gi gl):=HLN.out.kept (by rw[HSN.out];exact HBr.out)
     have hx:=row_cells HX.out rfl
     have q0:=hx 0
     have q1:=hx 1
     have q2:=hx 2
     have q3:=hx 3
     have q4:=hx 4
     have q5:=hx 5
     have q6:=hx 6
     have q7:=hx 7
     clear hx
     by_cases hlj:j<ls.length
     ·obtain⟨x,hxj⟩:∃ x,(parsTo ls j)[j]?=some x:=⟨_,parsTo_at hlj⟩
      obtain⟨g,cap0,b1,b2,b3,hv,hgb,hgl2,k0,k1,k2,k3,k4,_,_,_,hfz⟩:=HLP.out.cells hxj
      rw[parsTo_len]at hv
      cases hv
      have HPS:=hideI (parsTo_set hlj hxj)
      have HXJ:=hideI hxj
      have z4:=hfz (j*5+4)
      have HAR:=hideI (lAround_any (parsTo ls j) j (gn+1) g cv (.slice P f.params.length pc) (.int .i64 f.arrays) (.int .i64 f.cells) (.slice A f.blocks.length c) (.slice (some ⟨gp,0,none⟩) f.blocks.length f.blocks.length) (.slice (some ⟨gi,0,none⟩) f.blocks.length f.blocks.length) (.slice (some ⟨gl,0,none⟩) f.blocks.length f.blocks.length) wr.drew (by rw[parsTo_len];exact HLP.out.kept (Below.refl _ _).drew) (by rw[parsTo_len];exact hlj) (parsTo_rising HRS.out) (by rw[parsTo_len];exact hll))
      rw[parsTo_len,parsTo_arM]at HAR
      obtain⟨pa,hpa⟩:∃ pa,pa=arM ls j ls.length:=⟨_,rfl⟩
      rw[← hpa]at HAR
      have HPA:=hideI hpa
      have HS:Hid (∀ W,Below wr.heap.size wr W→W.cell? ⟨gn,0,none⟩=some (.slice P f.params.length pc)∧W.cell? ⟨gn,1,none⟩=some (.int .i64 f.arrays)∧W.cell? ⟨gn,2,none⟩=some (.int .i64 f.cells)∧W.cell? ⟨gn,3,none⟩=some (.slice A f.blocks.length c)∧W.cell? ⟨gn,4,none⟩=some (.slice (some ⟨gp,0,none⟩) f.blocks.length f.blocks.length)∧W.cell? ⟨gn,5,none⟩=some (.slice (some ⟨gi,0,none⟩) f.blocks.length f.blocks.length)∧W.cell? ⟨gn,6,none⟩=some (.slice (some ⟨gl,0,none⟩) f.blocks.length f.blocks.length)∧W.cell? ⟨gn,7,none⟩=some (.slice (some ⟨g,0,none⟩) ls.length cv)):=fun W hW=>by
       have hx:=row_cells HX.out (hW.block gn hgr)
       exact⟨hx 0,hx 1,hx 2,hx 3,hx 4,hx 5,hx 6,hx 7⟩
      have hS0:=HS.out wr (Below.refl _ _)
      clear hxj hfz k0 k1 k2 k3 hpa
      go_upto_region 15 with fail
      refine wp_region_late (by kernel_rfl) (fun W=>W.cell? ⟨gn,0,none⟩=some (.slice P f.params.length pc)∧W.cell? ⟨gn,1,none⟩=some (.int .i64 f.arrays)∧W.cell? ⟨gn,2,none⟩=some (.int .i64 f.cells)∧W.cell? ⟨gn,3,none⟩=some (.slice A f.blocks.length c)∧W.cell? ⟨gn,4,none⟩=some (.slice (some ⟨gp,0,none⟩) f.blocks.length f.blocks.length)∧W.cell? ⟨gn,5,none⟩=some (.slice (some ⟨gi,0,none⟩) f.blocks.length f.blocks.length)∧W.cell? ⟨gn,6,none⟩=some (.slice (some ⟨gl,0,none⟩) f.blocks.length f.blocks.length)∧W.cell? ⟨gn,7,none⟩=some (.slice (some ⟨g,0,none⟩) ls.length cv)) [8] ?_
      refine wpAnyT_quiet (i:=0) (v:=?_) rfl (by kernel_rfl) (by kernel_rfl) (by kernel_rfl) (fun _ _ _ h=>h) (Or.inl ⟨by rfl,?_⟩) ?_
      rotate_left
      ·(intro w;go_simp;try with_reducible rfl)
      try simp only[Act.put,List.setIfInBounds_toArray,List.set_cons_zero,List.set_cons_succ]
      refine wpAnyT_take [8] (i:=1) (v:=?_) rfl (by kernel_rfl) (by kernel_rfl) (by kernel_rfl) (by kernel_rfl) (by kernel_rfl) (by kernel_rfl) (fun _ _ _ h=>h) hS0 (Or.inl ⟨by rfl,?_⟩) ?_
      rotate_left
      ·(intro w hSw;go_split_ands;go_simp;try with_reducible rfl)
      try simp only[Act.put,List.setIfInBounds_toArray,List.set_cons_zero,List.set_cons_succ]
      refine wpAnyT_quiet (i:=2) (v:=?_) rfl (by kernel_rfl) (by kernel_rfl) (by kernel_rfl) (fun _ _ _ h=>h) (Or.inl ⟨by rfl,?_⟩) ?_
      rotate_left
      ·(intro w;go_simp;try with_reducible rfl)
      try simp only[Act.put,List.setIfInBounds_toArray,List.set_cons_zero,List.set_cons_succ]
      refine wpAnyT_take [8] (i:=3) (v:=?_) rfl (by kernel_rfl) (by kernel_rfl) (by kernel_rfl) (by kernel_rfl) (by kernel_rfl) (by kernel_rfl) (fun _ _ _ h=>h) hS0 (Or.inl ⟨by rfl,?_⟩) ?_
      rotate_left
      ·(intro w hSw;go_split_ands;go_simp;try with_reducible rfl)
      try simp only[Act.put,List.setIfInBounds_toArray,List.set_cons_zero,List.set_cons_succ]
      refine wpAnyT_quiet (i:=4) (v:=?_) rfl (by kernel_rfl) (by kernel_rfl) (by kernel_rfl) (fun _ _ _ h=>h) (Or.inl ⟨by rfl,?_⟩) ?_
      rotate_left
      ·(intro w;go_simp;try with_reducible rfl)
      try simp only[Act.put,List.setIfInBounds_toArray,List.set_cons_zero,List.set_cons_succ]
      refine wpAnyT_ready (rs:=[5]) (by kernel_rfl) (by simp) ?_
      refine AllReadyT.cons rfl (fun K hK=>?_) ?_
      ·go_simp
       refine HAR.out.mono ?_
       rintro e w3 ⟨rfl,hb3d⟩
       have hb3:Below wr.heap.size wr w3:=⟨hb3d.os,hb3d.tape,hb3d.output,hb3d.size,hb3d.block⟩
       have HB3:=hideI hb3
       refine hK.out _ _ (fun _ _=>HS.out _ HB3.out) ?_
       clear hK K hb3d hb3
       try simp only[Act.put,List.setIfInBounds_toArray,List.set_cons_zero,List.set_cons_succ]
       have k43:=(HB3.out.cell (p:=⟨g,j*5+4,none⟩) hgl2).trans k4
       have z43:w3.frozen? ⟨g,j*5+4,none⟩=false:=(HLP.out.kept HB3.out).free _
       have HL3:=hideI ((HLP.out.kept HB3.out))
       have HX3:=hideI ((HB3.out.block gn hgr).trans HX.out)
       refine wpAnyT_quiet (i:=6) (v:=?_) rfl (by kernel_rfl) (by kernel_rfl) (by kernel_rfl) (fun _ _ _ h=>h) (Or.inl ⟨by rfl,?_⟩) ?_
       rotate_left
       ·(intro w;go_simp;try with_reducible rfl)
       try simp only[Act.put,List.setIfInBounds_toArray,List.set_cons_zero,List.set_cons_succ]
       refine wpAnyT_quiet (i:=7) (v:=?_) rfl (by kernel_rfl) (by kernel_rfl) (by kernel_rfl) (fun _ _ _ h=>h) (Or.inl ⟨by rfl,?_⟩) ?_
       rotate_left
       ·(intro w;go_simp;try with_reducible rfl)
       try simp only[Act.put,List.setIfInBounds_toArray,List.set_cons_zero,List.set_cons_succ]
       refine wpAnyT_ready (rs:=[8]) (by kernel_rfl) (by simp) ?_
       refine AllReadyT.cons rfl (fun K hK=>?_) ?_
       ·go_simp
        refine hK.out _ _ (fun h=>absurd (by simp) h) ?_
        clear hK K
        try simp only[Act.put,List.setIfInBounds_toArray,List.set_cons_zero,List.set_cons_succ]
        refine wpAnyT_done (by kernel_rfl) ?_ _
        clear hS0
        go_wp2_with fail
        have hgg:g≠gn:=by omega
        have HX4:Hid ((w3.setCell ⟨g,j*5+4,none⟩ (.int .i64 pa)).heap[gn]?=some (.cells #[.slice P f.params.length pc,.int .i64 f.arrays,.int .i64 f.cells,.slice A f.blocks.length c,.slice (some ⟨gp,0,none⟩) f.blocks.length f.blocks.length,.slice (some ⟨gi,0,none⟩) f.blocks.length f.blocks.length,.slice (some ⟨gl,0,none⟩) f.blocks.length f.blocks.length,.slice (some ⟨g,0,none⟩) ls.length cv] 248 (0,0))):=by
         show _=_
         rw[heap_setCell_other w3 ⟨g,j*5+4,none⟩ gn _ (fun e=>hgg e.symm)]
         exact HX3.out
        have HL4:Hid (LoopsR (w3.setCell ⟨g,j*5+4,none⟩ (.int .i64 pa)) (gn+1) (.slice (some ⟨g,0,none⟩) ls.length cv) (parsTo ls (j+1))):=by
         show LoopsR _ _ _ _
         have h1:LoopsR w3 (gn+1) (.slice (some ⟨g,0,none⟩) (parsTo ls j).length cv) (parsTo ls j):=by rw[parsTo_len];exact HL3.out
         have h2:=h1.parent (p:=pa) HXJ.out
         rw[parsTo_len,HPA.out,HPS.out]at h2
         rw[HPA.out]
         exact h2
        have HB4:Hid (Below gn Wn (w3.setCell ⟨g,j*5+4,none⟩ (.int .i64 pa))):=(HBr.out.trans (HB3.out.mono (Nat.le_of_lt hgr))).setCell (by show gn≤g;omega) _
        go_roundw
        case rel=>exact⟨j+1,by omega,by go_num,HX4,HL4,HB4⟩
        case measure=>simp[intOf];omega
       ·exact AllReadyT.nil
      ·exact AllReadyT.nil
     ·have hjl:j=ls.length:=by omega
      subst hjl
      have HBF:Hid (Below W0.heap.size W0 wr):=HBN.out.trans (HBr.out.mono (Nat.le_of_lt hgn0))
      obtain⟨y1,y2,y3⟩:=G0.out _ HBF.out
      have s0:=y2 0
      have s1:=y2 1
      have s2:=y2 2
      have s3:=y2 3
      have s4:=y2 4
      have s5:=y2 5
      have s6:=y2 6
      have s7:=y2 7
      have g0:=y3 0
      have g1:=y3 1
      have g2:=y3 2
      have g3:=y3 3
      have g4:=y3 4
      have g5:=y3 5
      have g6:=y3 6
      have g7:=y3 7
      have hs0:=HS0.out
      have hwn:w.heap.size+1≠gn:=by omega
      have hwl:w.heap.size+1<W0.heap.size:=by omega
      clear y1 y2 y3
      go_wp2
      refine bodyPost_ret (v:=.tuple #[.agg #[.slice P f.params.length pc,.int .i64 f.arrays,.int .i64 f.cells,.slice A f.blocks.length c,.slice (some ⟨gp,0,none⟩) f.blocks.length f.blocks.length,.slice (some ⟨gi,0,none⟩) f.blocks.length f.blocks.length,.slice (some ⟨gl,0,none⟩) f.blocks.length f.blocks.length,.slice Av ls.length cv],.int .i64 0]) (by simp[results,Tryz.results179,go_sem,s0,s1,s2,s3,s4,s5,s6,s7]) rfl (.inr ⟨o,pl,par,D,L,gp,vs,gi,gl,.slice Av ls.length cv,HK.out,rfl,?_,?_,?_⟩)
      ·have hl:w.heap.size+1<W0.heap.size+2:=by omega
       refine LfAt.mono (lo:=W0.heap.size+2) ?_ (by omega)
       exact(((((((HLr.out.other hl _).other hl _).other hl _).other hl _).other hl _).other hl _).other hl _).other hl _
      ·rw[HPT.out]
       have hl:w.heap.size+1<gn+1:=by omega
       refine LoopsR.mono (base:=gn+1) ?_ (by omega)
       exact(((((((HLP.out.other hl _).other hl _).other hl _).other hl _).other hl _).other hl _).other hl _).other hl _
      ·exact((((((((HPW.out _ HBF.out).2.2.setCell (by simp) _).setCell (by simp) _).setCell (by simp) _).setCell (by simp) _).setCell (by simp) _).setCell (by simp) _).setCell (by simp) _).setCell (by simp) _
 ·have hno:∀ x:Int,¬ CheckIs f (x,0):=fun x hx=>hst (strict_of hx).2
  have HNG:Hid (∀ o,StrictM f o→False):=fun o h=>hst ⟨o,h⟩
  have HNO:=hideI hno
  clear hst hno
  go_enter Tryz.func179,Tryz.ntmps179
  go_upto_region 1 with fail
  rw[← HW0.out]
  go_wp2_with (first
  |(go_at_call 209;go_loud (refine HLF.out.mono ?_;rintro e w1 (⟨x1,y1,hci,hy1,rfl,hb1⟩|⟨o,pl,par,D,L,gp,vs,gi,gl,hk,_⟩);rotate_left;(exact(HNG.out o hk.strict).elim);have hy:(y1 != 0)=true:=(by rw[bne_iff_ne];exact hy1);have HCI:=hideI hci;have HY:=hideI hy1;have HB1:=hideI hb1;have HBX:Hid (Below W0.heap.size W0 (w1.alloc (.cells #[.slice none 0 0,.int .i64 0,.int .i64 0,.slice none 0 0,.slice none 0 0,.slice none 0 0,.slice none 0 0] 246))):=hb1.alloc hb1.size _;obtain⟨q1,q2,q3⟩:=G0.out _ HBX.out;clear b0 b1 b2 b3;have s0:=q2 0;have s1:=q2 1;have s2:=q2 2;have s3:=q2 3;have s4:=q2 4;have s5:=q2 5;have s6:=q2 6;have s7:=q2 7;have g0:=q3 0;have g1:=q3 1;have g2:=q3 2;have g3:=q3 3;have g4:=q3 4;have g5:=q3 5;have g6:=q3 6;have g7:=q3 7;clear q1 q2 q3 hb1 hci hy1)))
  refine bodyPost_ret (v:=.tuple #[.agg #[.slice none 0 0,.int .i64 0,.int .i64 0,.slice none 0 0,.slice none 0 0,.slice none 0 0,.slice none 0 0,.slice none 0 0],.int .i64 y1]) (by simp[results,Tryz.results179,go_sem,s0,s1,s2,s3,s4,s5,s6,s7]) rfl (.inl ⟨x1,y1,HCI.out,HY.out,rfl,?_⟩)
  exact((((((((HPW.out _ HBX.out).2.2.setCell (by simp) _).setCell (by simp) _).setCell (by simp) _).setCell (by simp) _).setCell (by simp) _).setCell (by simp) _).setCell (by simp) _).setCell (by simp) _
end Go.Proofs.YtaehbgppfahdeaaGreat

namespace Go.Proofs.YtaehbgppfahdeaaGreat
open Go.RowKit Go.Maps
def ForestPost (f:FuncM) (w:World) (e:Ending) (w':World):Prop :=
 (∃ x y:Int,CheckIs f (x,y)∧y≠0∧e=.returned (.tuple #[.slice none 0 0,.int .i64 y])∧Below w.heap.size w w') ∨
 (∃ (o:List Nat) (pl:Nat→Nat) (par:Nat→Option Nat) (D L:Nat→Nat→Bool) (lv:Value),LoopsOf f o pl par D L∧e=.returned (.tuple #[lv,.int .i64 0])∧LoopsR w' w.heap.size lv (loopsM f.blocks D L)∧Below w.heap.size w w')
set_option maxRecDepth 100000 in
set_option maxHeartbeats 2000000 in
theorem lForest_any (f:FuncM) (B:Nat) (pv bv:Value) (w:World) (hpv:Ints w B pv f.params) (hbv:BlocksR w B bv f.blocks) (hB:B≤w.heap.size) (hid:∀ u∈usesM f,I64 u.1) :
  Calls Tryz.prog 122 #[.agg #[pv,.int .i64 f.arrays,.int .i64 f.cells,bv]] w (ForestPost f w):=by
 have HP:=hideI hpv
 have HBL:=hideI hbv
 have HID:=hideI hid
 obtain⟨P,pc,rfl,_⟩:=hpv
 obtain⟨A,c,rfl,hbm,_⟩:=hbv
 have HB0:Hid (Below w.heap.size w (w.alloc (.cells #[.slice P f.params.length pc,.int .i64 f.arrays,.int .i64 f.cells,.slice A f.blocks.length c] 25))):=(Below.refl _ w).alloc (Nat.le_refl _) _
 have HT:=hideI (lNest_any f B _ _ (w.alloc (.cells #[.slice P f.params.length pc,.int .i64 f.arrays,.int .i64 f.cells,.slice A f.blocks.length c] 25)) (HP.out.keeps (Keeps.of_below (HB0.out.mono hB))) (HBL.out.keeps (Keeps.of_below (HB0.out.mono hB))) (by simp;omega) HID.out)
 clear hid
 by_cases hst:∃ o,StrictM f o
 ·obtain⟨o0,hst⟩:=hst
  have HST:=hideI hst
  clear hst
  go_enter Tryz.func122,Tryz.ntmps122
  go_wp2_with (go_at_call 179;go_must (refine HT.out.mono ?_);rintro e w1 (⟨x,y,hci,hy,_⟩|⟨o,pl,par,D,L,gp,vs,gi,gl,lv,hk,rfl,hlf,hlp,hb1⟩);(exact absurd (Prod.mk.inj (HST.out.check hci)).2 hy);(obtain⟨Av,cv,rfl⟩:∃ A c,lv=.slice A (loopsM f.blocks D L).length c:=(by obtain⟨cs,h1,_⟩:=hlp.ex;exact own_sl h1));have HK:=hideI hk;have HLP:=hideI hlp;have HB1:=hideI (HB0.out.trans (hb1.mono (by simp)));clear hk hlf hlp hb1)
  go_ret2
  exact .inr ⟨o,pl,par,D,L,_,HK.out,rfl,LoopsR.mono (HLP.out.kept ((Below.refl _ _).alloc (Nat.le_refl _) _)) (by simp;omega),HB1.out.alloc HB1.out.size _⟩
 ·have HNG:Hid (∀ o,StrictM f o→False):=fun o h=>hst ⟨o,h⟩
  have HNO:Hid (∀ x:Int,¬ CheckIs f (x,0)):=fun x hx=>hst (strict_of hx).2
  clear hst
  go_enter Tryz.func122,Tryz.ntmps122
  go_wp2_with (go_at_call 179;go_must (refine HT.out.mono ?_);rintro e w1 (⟨x1,y1,hci,hy1,rfl,hb1⟩|⟨o,pl,par,D,L,gp,vs,gi,gl,lv,hk,_⟩);rotate_left;(exact(HNG.out o hk.strict).elim);have hy:(y1 != 0)=true:=(by rw[bne_iff_ne];exact hy1);have HCI:=hideI hci;have HY:=hideI hy1;have HB1:=hideI (HB0.out.trans (hb1.mono (by simp)));clear hb1 hci hy1)
  go_ret2
  exact .inl ⟨x1,y1,HCI.out,HY.out,rfl,HB1.out.alloc HB1.out.size _⟩
end Go.Proofs.YtaehbgppfahdeaaGreat

namespace Go.Proofs.YtaehbgppfahdeaaGreat
open Go.RowKit Go.Maps
def bestM (ls:List LpM) (b:Nat):Nat→Int
|0=>-1
|i+1=>match ls[i]? with
 |none=>bestM ls b i
 |some x=>if b∈x.blocks∧(bestM ls b i=-1∨x.blocks.length<(ls.getD (bestM ls b i).toNat noLp).blocks.length)then (i:Int)else bestM ls b i
structure BestOf (ls:List LpM) (b i:Nat) (x:LpM) (m:Nat):Prop where
 lt:m<i
 at_:ls[m]?=some x
 mem:b∈x.blocks
 least:∀ k y,k<i→ls[k]?=some y→b∈y.blocks→x.blocks.length≤y.blocks.length
theorem best_is (ls:List LpM) (b:Nat):∀ i,(bestM ls b i=-1∧∀ k y,k<i→ls[k]?=some y→b∉y.blocks)∨∃ (m:Nat) (x:LpM),bestM ls b i=(m:Int)∧BestOf ls b i x m:=by
 intro i
 induction i with
|zero=>exact .inl ⟨rfl,fun k y h=>by omega⟩
|succ i ih =>
  unfold bestM
  cases hx:ls[i]? with
 |none =>
   simp only
   rcases ih with⟨h1,h2⟩|⟨m,x,h1,h2⟩
   ·refine .inl ⟨h1,fun k y hk hy=>h2 k y ?_ hy⟩
    by_cases e:k=i
    ·subst e;rw[hx]at hy;cases hy
    ·omega
   ·refine .inr ⟨m,x,h1,⟨by have:=h2.lt;omega,h2.at_,h2.mem,fun k y hk hy hb=>h2.least k y ?_ hy hb⟩⟩
    by_cases e:k=i
    ·subst e;rw[hx]at hy;cases hy
    ·omega
 |some x =>
   simp only
   split
   ·rename_i hc
    refine .inr ⟨i,x,rfl,⟨by omega,hx,hc.1,fun k y hk hy hb=>?_⟩⟩
    by_cases e:k=i
    ·subst e;rw[hx]at hy;cases hy;exact Nat.le_refl _
    ·rcases ih with⟨h1,h2⟩|⟨m,z,h1,h2⟩
     ·exact absurd hb (h2 k y (by omega) hy)
     ·have h3:=h2.least k y (by omega) hy hb
      rcases hc.2 with h4|h4
      ·rw[h1]at h4;omega
      ·rw[h1,Int.toNat_natCast,List.getD_eq_getElem?_getD,h2.at_]at h4
       simp only[Option.getD_some]at h4
       omega
   ·rename_i hc
    rcases ih with⟨h1,h2⟩|⟨m,z,h1,h2⟩
    ·refine .inl ⟨h1,fun k y hk hy hb=>?_⟩
     by_cases e:k=i
     ·subst e;rw[hx]at hy;cases hy;exact hc ⟨hb,.inl h1⟩
     ·exact h2 k y (by omega) hy hb
    ·refine .inr ⟨m,z,h1,⟨by have:=h2.lt;omega,h2.at_,h2.mem,fun k y hk hy hb=>?_⟩⟩
     by_cases e:k=i
     ·subst e
      rw[hx]at hy
      cases hy
      have h4:¬ x.blocks.length<z.blocks.length:=fun h=>hc ⟨hb,.inr (by rw[h1,Int.toNat_natCast,List.getD_eq_getElem?_getD,h2.at_];simpa using h)⟩
      omega
     ·exact h2.least k y (by omega) hy hb
def leastAt (ls:List LpM) (i:Nat) (c:List Nat) (j b:Nat):Int:=if b∈c.take j then bestM ls b (i+1)else bestM ls b i
def leastR (n:Nat) (ls:List LpM) (i:Nat) (c:List Nat) (j:Nat):List Value:=(List.range n).map fun b=>.int .i64 (leastAt ls i c j b)
theorem leastR_at {n i j b:Nat} {ls:List LpM} {c:List Nat} (h:b<n):(leastR n ls i c j)[b]?=some (.int .i64 (leastAt ls i c j b)):=by
 unfold leastR
 rw[List.getElem?_map,List.getElem?_eq_getElem (by simpa using h)]
 simp
theorem leastR_begin {n i:Nat} {ls:List LpM} {c c':List Nat}:leastR n ls i c 0=leastR n ls i c' 0:=by
 unfold leastR leastAt
 simp
theorem leastR_start {n:Nat} {ls:List LpM}:leastR n ls 0 [] 0=List.replicate n (.int .i64 (-1)):=by
 unfold leastR leastAt
 apply List.ext_getElem?
 intro i
 by_cases hi:i<n
 ·rw[List.getElem?_map,List.getElem?_eq_getElem (by simpa using hi),List.getElem?_replicate,if_pos hi]
  simp[bestM]
 ·rw[List.getElem?_eq_none (by simp;omega),List.getElem?_eq_none (by simp;omega)]
theorem take_new {c:List Nat} {j t:Nat} (ht:c[j]?=some t) (hc:c.Pairwise (·<·)):t∉c.take j:=by
 intro hm
 obtain⟨k,hk⟩:=List.getElem?_of_mem hm
 rw[List.getElem?_take]at hk
 split at hk
 ·rename_i hkj
  have h1:=List.getElem?_eq_some_iff.1 hk
  have h2:=List.getElem?_eq_some_iff.1 ht
  have h3:=List.pairwise_iff_getElem.1 hc k j h1.1 h2.1 hkj
  rw[h1.2,h2.2]at h3
  omega
 ·cases hk
theorem leastAt_new {i j t:Nat} {ls:List LpM} {c:List Nat} (ht:c[j]?=some t) (hc:c.Pairwise (·<·)):leastAt ls i c j t=bestM ls t i:=by
 unfold leastAt
 rw[if_neg (take_new ht hc)]
theorem leastR_step {n i j t:Nat} {ls:List LpM} {c:List Nat} (ht:c[j]?=some t):(leastR n ls i c j).set t (.int .i64 (bestM ls t (i+1)))=leastR n ls i c (j+1):=by
 apply List.ext_getElem?
 intro b
 by_cases hb:b<n
 ·have hm:b∈c.take (j+1)↔b∈c.take j∨b=t:=by rw[List.take_add_one,ht];simp
  by_cases e:t=b
  ·subst e
   rw[List.getElem?_set_self (by unfold leastR;simpa using hb),leastR_at hb]
   unfold leastAt
   rw[if_pos (hm.2 (.inr rfl))]
  ·rw[List.getElem?_set_ne e,leastR_at hb,leastR_at hb]
   unfold leastAt
   have:b∈c.take (j+1)↔b∈c.take j:=by rw[hm];exact⟨fun h=>h.resolve_right (fun x=>e x.symm),.inl⟩
   simp only[this]
 ·rw[List.getElem?_eq_none (by rw[List.length_set];unfold leastR;simp;omega),List.getElem?_eq_none (by unfold leastR;simp;omega)]
theorem leastR_keep {n i j t:Nat} {ls:List LpM} {c:List Nat} (ht:c[j]?=some t) (hc:c.Pairwise (·<·)) (htn:t<n) (hs:bestM ls t (i+1)=bestM ls t i):leastR n ls i c j=leastR n ls i c (j+1):=by
 rw[← leastR_step (n:=n) ht,hs]
 apply List.ext_getElem?
 intro b
 by_cases e:t=b
 ·subst e
  rw[List.getElem?_set_self (by unfold leastR;simpa using htn),leastR_at htn,leastAt_new ht hc]
 ·rw[List.getElem?_set_ne e]
theorem leastR_next {n i:Nat} {ls:List LpM} {x:LpM} {c:List Nat} {j:Nat} (hx:ls[i]?=some x) (hc:c=x.blocks) (hj:c.length≤j):leastR n ls i c j=leastR n ls (i+1) [] 0:=by
 unfold leastR
 apply List.map_congr_left
 intro b _
 congr 1
 unfold leastAt
 rw[List.take_of_length_le hj]
 subst hc
 rw[if_neg (show b∉([]:List Nat).take 0 by simp)]
 by_cases h:b∈x.blocks
 ·rw[if_pos h]
 ·rw[if_neg h]
  show _=bestM ls b (i+1)
  conv=>rhs;unfold bestM
  rw[hx]
  simp only
  rw[if_neg (fun e=>h e.1)]
def LeastPost (n:Nat) (ls:List LpM) (w:World) (e:Ending) (w':World):Prop :=
 ∃ g:Nat,e=.returned (.slice (some ⟨g,0,none⟩) n n)∧w'.ownsRow w.heap.size 3 1 (.slice (some ⟨g,0,none⟩) n n) n (leastR n ls ls.length [] 0)∧Below w.heap.size w w'
set_option maxRecDepth 100000 in
set_option maxHeartbeats 8000000 in
theorem leastOf_any (ls:List LpM) (n base:Nat) (lv:Value) (w:World) (hls:LoopsR w base lv ls) (hr:Rising ls) (hlen:ls.length≤512) (hn0:0<n) (hn5:n≤512) (hin:∀ x∈ls,∀ b∈x.blocks,b<n) :
  Calls Tryz.prog 123 #[lv,.int .i64 n] w (LeastPost n ls w):=by
 have HR:=hideI hr
 have HIN:=hideI hin
 obtain⟨Av,cv,rfl⟩:∃ A c,lv=.slice A ls.length c:=by obtain⟨cs,h1,_⟩:=hls.ex;exact own_sl h1
 have HLW:=hideI hls
 obtain⟨W2,hW2⟩:∃ W2:World,W2=w.alloc (.cells #[.int .i64 (-1)] 3):=⟨_,rfl⟩
 have HB2:Hid (Below w.heap.size w W2):=by show Below _ _ _;rw[hW2];exact(Below.refl _ _).alloc (Nat.le_refl _) _
 have HREP:Hid (Calls Tryz.prog 147 #[.slice (some ⟨w.heap.size,0,none⟩) 1 1,.int .i64 n] W2 (RepPost (-1) n W2)):=by
  rw[hW2]
  exact hideI (repeat_any (-1) n w.heap.size _ hn0 (by omega) (row_cells (heap_alloc_new w _) rfl 0) (by simp))
 have HW2:=hideI hW2
 clear hls hr hin hW2
 go_enter Tryz.func123,Tryz.ntmps123
 go_wp2_with fail
 rw[← HW2.out]
 go_wp2_with (go_at_call 147;go_must (refine HREP.out.mono ?_);rintro e w3 ⟨gi,rfl,hrep,hb3⟩;have HB3:Hid (Below w.heap.size w w3):=hideI (HB2.out.trans (hb3.mono HB2.out.size));have HREP3:=hideI hrep;clear hrep hb3)
 have HO1:Hid (w3.ownsRow W2.heap.size 3 1 (.slice (some ⟨gi,0,none⟩) n n) n (leastR n ls 0 [] 0)):=by
  show World.ownsRow _ _ _ _ _ _ _
  rw[leastR_start]
  exact HREP3.out
 have hgw:w.heap.size<gi:=by
  have h1:=(HREP3.out.lt gi rfl).1
  have h2:W2.heap.size=w.heap.size+1:=by rw[HW2.out];simp
  omega
 have hbW2:w.heap.size≤W2.heap.size:=HB2.out.size
 clear HREP3
 go_loopw [15] (fun u wr=>∃ i:Nat,i≤ls.length∧u=.int .i64 i∧Hid (wr.ownsRow W2.heap.size 3 1 (.slice (some ⟨gi,0,none⟩) n n) n (leastR n ls i [] 0))∧Hid (Below w.heap.size w wr)) (fun u _=>ls.length - (intOf u).toNat)
 case atStart=>exact⟨0,Nat.zero_le _,rfl,HO1,HB3⟩
 case round =>
  clear HO1
  obtain⟨i,hi,rfl,HO,HBr⟩:=hrel
  by_cases hlt:i<ls.length
  ·obtain⟨x,hx⟩:∃ x,ls[i]?=some x:=⟨_,List.getElem?_eq_getElem hlt⟩
   have HX:=hideI hx
   obtain⟨g,cap0,b1,b2,b3,hv,hgb,hgl,k0,k1,k2,k3,k4,s1,s2,s3,_⟩:=HLW.out.cells hx
   injection hv with hv1 hv2 hv3
   subst hv1 hv3
   clear hv2
   have r0:=(HBr.out.cell (p:=⟨g,i*5,none⟩) hgl).trans k0
   have r1:=(HBr.out.cell (p:=⟨g,i*5+1,none⟩) hgl).trans k1
   have r2:=(HBr.out.cell (p:=⟨g,i*5+2,none⟩) hgl).trans k2
   have r3:=(HBr.out.cell (p:=⟨g,i*5+3,none⟩) hgl).trans k3
   have r4:=(HBr.out.cell (p:=⟨g,i*5+4,none⟩) hgl).trans k4
   clear k0 k1 k2 k3 k4
   have HRX:=hideI (HR.out x (List.mem_of_getElem? hx))
   have HINX:=hideI (HIN.out x (List.mem_of_getElem? hx))
   obtain⟨A1,c1,rfl⟩:=own_sl s1.1
   obtain⟨A2,c2,rfl⟩:=own_sl s2.1
   obtain⟨A3,c3,rfl⟩:=own_sl s3.1
   obtain⟨PA,pc2,e1,_,hpx⟩:=s1.ints (by have:=HRX.out.2;omega)
   rw[List.length_map]at e1 hpx
   injection e1 with e1 _ e3
   subst e1 e3
   have HPX:=hideI hpx
   obtain⟨cb,hcb⟩:∃ cb,cb=x.blocks:=⟨_,rfl⟩
   have HCB:=hideI hcb
   obtain⟨wa,hwa⟩:∃ wa:World,wa=wr.alloc (.cells #[.int .i64 (x.head:Int),.slice A1 cb.length c1,.slice A2 x.latches.length c2,.slice A3 x.exits.length c3,.int .i64 x.parent] 88):=⟨_,rfl⟩
   have HBA:Hid (Below wr.heap.size wr wa):=by show Below _ _ _;rw[hwa];exact(Below.refl _ _).alloc (Nat.le_refl _) _
   have HBWA:Hid (Below w.heap.size w wa):=HBr.out.trans (HBA.out.mono HBr.out.size)
   have HWA:=hideI hwa
   have hxa:wa.heap[wr.heap.size]?=some (.cells #[.int .i64 (x.head:Int),.slice A1 cb.length c1,.slice A2 x.latches.length c2,.slice A3 x.exits.length c3,.int .i64 x.parent] 88 (0,0)):=by rw[hwa];exact heap_alloc_new wr _
   obtain⟨Y,hY⟩:∃ Y,Y=wr.heap.size:=⟨_,rfl⟩
   have HY:=hideI hY
   have HXA:Hid (wa.heap[Y]?=some (.cells #[.int .i64 (x.head:Int),.slice A1 cb.length c1,.slice A2 x.latches.length c2,.slice A3 x.exits.length c3,.int .i64 x.parent] 88 (0,0))):=hideI (by rw[hY];exact hxa)
   have hgiY:gi<Y:=by rw[hY];exact(HO.out.lt gi rfl).2
   have hca:=row_cells HXA.out rfl
   have a1:=hca 1
   have HOA:Hid (wa.ownsRow W2.heap.size 3 1 (.slice (some ⟨gi,0,none⟩) n n) n (leastR n ls i cb 0)):=by
    show World.ownsRow _ _ _ _ _ _ _
    rw[leastR_begin (c':=[])]
    exact own_kept_below HO.out HBA.out (fun k hk=>(HO.out.lt k hk).2)
   rw[← hcb]at HPX HRX HINX r1
   have hcl:cb.length≤512:=HRX.out.2
   clear hwa hca hx s1 s2 s3 hpx hcb hxa HO
   go_upto_region 5 with fail
   rw[← HWA.out]
   rw[← HY.out]
   clear hY
   go_wp2
   clear r0 r1 r2 r3 r4 a1
   obtain⟨wo,rfl⟩:∃ wo:World,wo=wr:=⟨_,rfl⟩
   go_loopw [23] (fun u wr2=>∃ j:Nat,j≤cb.length∧u=.int .i64 j∧Hid (wr2.ownsRow W2.heap.size 3 1 (.slice (some ⟨gi,0,none⟩) n n) n (leastR n ls i cb j))∧Hid (Below w.heap.size w wr2)∧Hid (wr2.heap[Y]?=some (.cells #[.int .i64 (x.head:Int),.slice A1 cb.length c1,.slice A2 x.latches.length c2,.slice A3 x.exits.length c3,.int .i64 x.parent] 88 (0,0)))) (fun u _=>cb.length - (intOf u).toNat)
   case atStart=>exact⟨0,Nat.zero_le _,rfl,HOA,HBWA,HXA⟩
   case round =>
    clear HOA
    obtain⟨j,hj,rfl,HO2,HB2r,HXr⟩:=hrel
    by_cases hltj:j<cb.length
    ·obtain⟨t,ht⟩:∃ t,cb[j]?=some t:=⟨_,List.getElem?_eq_getElem hltj⟩
     have htl:=HINX.out t (List.mem_of_getElem? ht)
     have HT:=hideI ht
     obtain⟨pb,po,rfl,hpb,d0⟩:=HPX.out j hltj
     rw[List.getElem?_map,ht]at d0
     simp only[Option.map_some,Option.getD_some]at d0
     have d1:=(HB2r.out.cell (p:=⟨pb,po+j,none⟩) hpb).trans d0
     have hca:=row_cells HXr.out rfl
     have a1:=hca 1
     have h1:wr.cell? ⟨gi,t,none⟩=some (.int .i64 (bestM ls t i)):=by rw[World.ownsRow.cellAt HO2.out t (by omega),leastR_at htl,leastAt_new ht HRX.out.1]
     have f1:wr.frozen? ⟨gi,t,none⟩=false:=World.ownsRow.frozenAt HO2.out t
     have hgil:=(HO2.out.lt gi rfl).2
     have HTOOK:Hid (bestM ls t (i+1)=(i:Int)→(wr.setCell ⟨gi,t,none⟩ (.int .i64 (i:Int))).ownsRow W2.heap.size 3 1 (.slice (some ⟨gi,0,none⟩) n n) n (leastR n ls i cb (j+1))∧Below w.heap.size w (wr.setCell ⟨gi,t,none⟩ (.int .i64 (i:Int)))∧(wr.setCell ⟨gi,t,none⟩ (.int .i64 (i:Int))).heap[Y]?=some (.cells #[.int .i64 (x.head:Int),.slice (some ⟨pb,po,none⟩) cb.length c1,.slice A2 x.latches.length c2,.slice A3 x.exits.length c3,.int .i64 x.parent] 88 (0,0))):=hideI (fun e=>by
      have hst:=(World.ownsRow.stored HO2.out t (.int .i64 (i:Int))).1
      rw[← e,leastR_step ht,e]at hst
      exact⟨hst,HB2r.out.setCell (by simp;omega) _,(heap_setCell_other wr ⟨gi,t,none⟩ Y _ (by simp;omega)).trans HXr.out⟩)
     have HKEEP:Hid (bestM ls t (i+1)=bestM ls t i→wr.ownsRow W2.heap.size 3 1 (.slice (some ⟨gi,0,none⟩) n n) n (leastR n ls i cb (j+1))):=hideI (fun e=>by
      rw[← leastR_keep ht HRX.out.1 htl e]
      exact HO2.out)
     have htx:t∈x.blocks:=by rw[← HCB.out];exact List.mem_of_getElem? ht
     have hsucc:bestM ls t (i+1)=if t∈x.blocks∧(bestM ls t i=-1∨x.blocks.length<(ls.getD (bestM ls t i).toNat noLp).blocks.length)then (i:Int)else bestM ls t i:=by
      conv=>lhs;unfold bestM
      rw[HX.out]
     rcases best_is ls t i with⟨h2,_⟩|⟨m,z,h2,hz⟩
     ·have HE:=hideI (HTOOK.out (by rw[hsucc,if_pos ⟨htx,.inl h2⟩]))
      rw[h2]at h1
      clear hsucc h2 htx ht d0 hca HTOOK HKEEP
      go_wp2_with fail
      go_quiet (fail)
      go_wp2
      go_roundw
      case rel=>exact⟨j+1,by omega,by go_num,hideI HE.out.1,hideI ⟨HE.out.2.1.os,HE.out.2.1.tape,HE.out.2.1.output,HE.out.2.1.size,HE.out.2.1.block⟩,hideI HE.out.2.2⟩
      case measure=>simp[intOf];omega
     ·have hml:m<ls.length:=by have:=hz.lt;omega
      obtain⟨g',cap',z1,z2,z3,hv',_,hgl',_,y1,_,_,_,sz,_,_,_⟩:=HLW.out.cells hz.at_
      injection hv' with hv1' hv2' hv3'
      injection hv1' with hv1'
      injection hv1' with hv1' hv4'
      subst hv1'
      clear hv2' hv4'
      have l1:=(HB2r.out.cell (p:=⟨g,m*5+1,none⟩) hgl').trans y1
      obtain⟨A4,c4,rfl⟩:=own_sl sz.1
      obtain⟨nz,hnz⟩:∃ nz,nz=z.blocks.length:=⟨_,rfl⟩
      rw[← hnz]at l1
      have hnz5:nz≤512:=by rw[hnz];exact(HR.out z (List.mem_of_getElem? hz.at_)).2
      have hm1:((m:Int)==-1)=false:=by rw[beq_eq_false_iff_ne];omega
      have hgd:(ls.getD (bestM ls t i).toNat noLp).blocks.length=nz:=by rw[h2,Int.toNat_natCast,List.getD_eq_getElem?_getD,hz.at_,hnz];rfl
      rw[hgd,← HCB.out]at hsucc
      rw[← HCB.out]at htx
      rw[h2]at h1
      by_cases hlz:cb.length<nz
      ·have HE:=hideI (HTOOK.out (by rw[hsucc,if_pos ⟨htx,.inr hlz⟩]))
       clear hsucc h2 htx ht d0 hca HTOOK HKEEP hz hv3' y1 sz hnz hgd
       go_wp2_with fail
       go_quiet (fail)
       go_wp2
       go_roundw
       case rel=>exact⟨j+1,by omega,by go_num,hideI HE.out.1,hideI ⟨HE.out.2.1.os,HE.out.2.1.tape,HE.out.2.1.output,HE.out.2.1.size,HE.out.2.1.block⟩,hideI HE.out.2.2⟩
       case measure=>simp[intOf];omega
      ·have HE:=hideI (HKEEP.out (by rw[hsucc,if_neg (fun e=>e.2.elim (fun e=>by rw[h2]at e;omega) hlz)]))
       clear hsucc h2 htx ht d0 hca HTOOK HKEEP hz hv3' y1 sz hnz hgd
       go_wp2_with fail
       go_quiet (fail)
       go_wp2
       go_roundw
       case rel=>exact⟨j+1,by omega,by go_num,hideI HE.out,hideI ⟨HB2r.out.os,HB2r.out.tape,HB2r.out.output,HB2r.out.size,HB2r.out.block⟩,HXr⟩
       case measure=>simp[intOf];omega
    ·have HN:=hideI (leastR_next (n:=n) (j:=j) HX.out HCB.out (by omega))
     rw[HN.out]at HO2
     go_wp2
     go_roundw
     case rel=>exact⟨i+1,by omega,by go_num,HO2,HB2r⟩
     case measure=>simp[intOf];omega
  ·have hil:i=ls.length:=by omega
   subst hil
   go_wp2
   go_ret
   exact⟨_,rfl,World.ownsRow.mono HO.out hbW2,HBr.out⟩
end Go.Proofs.YtaehbgppfahdeaaGreat

namespace Go.Proofs.YtaehbgppfahdeaaGreat
open Go.RowKit Go.Maps
theorem loops_blocks {bs:List BlockM} {D L:Nat→Nat→Bool}:∀ x∈loopsM bs D L,∀ b∈x.blocks,b<bs.length:=by
 intro x hx b hb
 obtain⟨i,hi⟩:=List.getElem?_of_mem hx
 have hl:=(List.getElem?_eq_some_iff.1 hi).1
 unfold loopsM at hi hl
 rw[parsTo_len]at hl
 rw[parsTo_at hl]at hi
 have he:x.blocks=((lp0M bs D L bs.length).getD i noLp).blocks:=by split at hi <;> cases hi <;> rfl
 rw[he,List.getD_eq_getElem?_getD,List.getElem?_eq_getElem hl]at hb
 have hm:=List.getElem_mem hl
 obtain⟨y,hy⟩:∃ y,y=(lp0M bs D L bs.length)[i]:=⟨_,rfl⟩
 rw[← hy]at hm hb
 unfold lp0M at hm
 rw[List.mem_map]at hm
 obtain⟨h,_,rfl⟩:=hm
 have hb':b∈blocksM bs.length L h:=hb
 unfold blocksM at hb'
 simpa using (List.mem_filter.1 hb').1
theorem loops_rising {bs:List BlockM} {D L:Nat→Nat→Bool} (hn:bs.length≤512):Rising (loopsM bs D L):=parsTo_rising (lp0_rising _ _ _ _ hn)
theorem loops_len {bs:List BlockM} {D L:Nat→Nat→Bool}:(loopsM bs D L).length≤bs.length:=by
 unfold loopsM
 rw[parsTo_len]
 exact lp0_len _ _ _ _
theorem awake_loops {D L:Nat→Nat→Bool}:loopsM awakeF.blocks D L=[]:=by
 have h:lp0M awakeF.blocks D L awakeF.blocks.length=[]:=by
  unfold lp0M headsM latchesM
  rw[show awakeF.blocks.length=1 from rfl]
  rw[show List.range 1=[0]from rfl]
  have:predsTo awakeF.blocks 1 0=[]:=by decide
  simp[this]
 unfold loopsM
 rw[h]
 rfl
theorem awake_strict:∃ o,StrictM awakeF o:=(strict_of awake_checkIs).2
end Go.Proofs.YtaehbgppfahdeaaGreat

namespace Go.Proofs.YtaehbgppfahdeaaGreat
open Go.RowKit Go.Maps
def InNestPost (f:FuncM) (w:World) (e:Ending) (w':World):Prop :=
 (∃ x y:Int,CheckIs f (x,y)∧y≠0∧e=.returned (.tuple #[.agg #[.slice none 0 0,.slice none 0 0],.int .i64 y])∧Below w.heap.size w w') ∨
 (∃ (o:List Nat) (pl:Nat→Nat) (par:Nat→Option Nat) (D L:Nat→Nat→Bool) (lv:Value) (gl:Nat),LoopsOf f o pl par D L∧e=.returned (.tuple #[.agg #[lv,.slice (some ⟨gl,0,none⟩) f.blocks.length f.blocks.length],.int .i64 0])∧LoopsR w' w.heap.size lv (loopsM f.blocks D L)∧w'.ownsRow w.heap.size 3 1 (.slice (some ⟨gl,0,none⟩) f.blocks.length f.blocks.length) f.blocks.length (leastR f.blocks.length (loopsM f.blocks D L) (loopsM f.blocks D L).length [] 0)∧Below w.heap.size w w')
set_option maxRecDepth 100000 in
set_option maxHeartbeats 4000000 in
theorem inNest_any (f:FuncM) (B:Nat) (pv bv:Value) (w:World) (hpv:Ints w B pv f.params) (hbv:BlocksR w B bv f.blocks) (hB:B≤w.heap.size) (hid:∀ u∈usesM f,I64 u.1) :
  Calls Tryz.prog 73 #[.agg #[pv,.int .i64 f.arrays,.int .i64 f.cells,bv]] w (InNestPost f w):=by
 have HP:=hideI hpv
 have HBL:=hideI hbv
 have HID:=hideI hid
 obtain⟨P,pc,rfl,_⟩:=hpv
 obtain⟨A,c,rfl,hbm,_⟩:=hbv
 obtain⟨W,hW⟩:∃ W:World,W=(w.alloc (.cells #[.slice P f.params.length pc,.int .i64 f.arrays,.int .i64 f.cells,.slice A f.blocks.length c] 25)).alloc (.cells #[.slice none 0 0,.slice none 0 0] 81):=⟨_,rfl⟩
 have HB0:Hid (Below w.heap.size w W):=by show Below _ _ _;rw[hW];exact((Below.refl _ w).alloc (Nat.le_refl _) _).alloc (by simp) _
 have hx1:W.heap[w.heap.size]?=some (.cells #[.slice P f.params.length pc,.int .i64 f.arrays,.int .i64 f.cells,.slice A f.blocks.length c] 25 (0,0)):=by
  rw[hW,Below.heap_alloc _ _ _ (by simp)]
  exact heap_alloc_new w _
 have hx2:W.heap[w.heap.size+1]?=some (.cells #[.slice none 0 0,.slice none 0 0] 81 (0,0)):=by
  rw[hW]
  have:=heap_alloc_new (w.alloc (.cells #[.slice P f.params.length pc,.int .i64 f.arrays,.int .i64 f.cells,.slice A f.blocks.length c] 25)) (.cells #[.slice none 0 0,.slice none 0 0] 81)
  simpa using this
 have HX1:=hideI hx1
 have HX2:=hideI hx2
 have hBW:B≤W.heap.size:=Nat.le_trans hB HB0.out.size
 have HT:=hideI (lForest_any f B _ _ W (HP.out.keeps (Keeps.of_below (HB0.out.mono hB))) (HBL.out.keeps (Keeps.of_below (HB0.out.mono hB))) hBW HID.out)
 have HW0:=hideI hW
 have hwW:w.heap.size+1<W.heap.size:=lt_of_heap hx2
 have hqs:=row_cells hx1 rfl
 have q0:=hqs 0
 have q1:=hqs 1
 have q2:=hqs 2
 have q3:=hqs 3
 have hns:=row_cells hx2 rfl
 have n0:=hns 0
 have n1:=hns 1
 have fr:=free_rowN hx2 rfl
 have f0:=fr 0
 have f1:=fr 1
 clear hid hW hx1 hx2 hqs hns fr
 by_cases hst:∃ o,StrictM f o
 ·obtain⟨o0,hst⟩:=hst
  have HST:=hideI hst
  have HN5:=hideI (look_some_block hst.look)
  clear hst
  go_enter Tryz.func73,Tryz.ntmps73
  go_upto_region 1 with fail
  rw[← HW0.out]
  go_wp2_with (first
  |(go_at_call 122;go_must (refine HT.out.mono ?_);rintro e w1 (⟨x,y,hci,hy,_⟩|⟨o,pl,par,D,L,lv,hk,rfl,hlp,hbk⟩);(exact absurd (Prod.mk.inj (HST.out.check hci)).2 hy);(obtain⟨Av,cv,rfl⟩:∃ A c,lv=.slice A (loopsM f.blocks D L).length c:=(by obtain⟨cs,h1,_⟩:=hlp.ex;exact own_sl h1));have HK:=hideI hk;have HLP:=hideI hlp;have HB1:=hideI hbk;have HLO:=hideI (leastOf_any (loopsM f.blocks D L) f.blocks.length W.heap.size _ w1 hlp (loops_rising HN5.out.2) (Nat.le_trans loops_len HN5.out.2) HN5.out.1 HN5.out.2 loops_blocks);have hx1:=(hbk.block _ (by omega:w.heap.size<W.heap.size)).trans HX1.out;have hx2:=(hbk.block _ hwW).trans HX2.out;clear q0 q1 q2 q3 n0 n1 f0 f1;have hqs:=row_cells hx1 rfl;have q0:=hqs 0;have q1:=hqs 1;have q2:=hqs 2;have q3:=hqs 3;have hns:=row_cells hx2 rfl;have n0:=hns 0;have n1:=hns 1;have fr:=free_rowN hx2 rfl;have f0:=fr 0;have f1:=fr 1;clear hqs hns fr hx1 hx2;clear hk hlp hbk)
  |(go_at_call 123;go_must (refine HLO.out.mono ?_);rintro e w2 ⟨gl,rfl,hown,hb2⟩;have hbk:=HB1.out.trans (hb2.mono HB1.out.size);have HOW:=hideI (World.ownsRow.mono hown HB1.out.size);have HLP2:=hideI (HLP.out.kept hb2);have HB2:=hideI hbk;have hx1:=(hbk.block _ (by omega:w.heap.size<W.heap.size)).trans HX1.out;have hx2:=(hbk.block _ hwW).trans HX2.out;clear q0 q1 q2 q3 n0 n1 f0 f1;have hqs:=row_cells hx1 rfl;have q0:=hqs 0;have q1:=hqs 1;have q2:=hqs 2;have q3:=hqs 3;have hns:=row_cells hx2 rfl;have n0:=hns 0;have n1:=hns 1;have fr:=free_rowN hx2 rfl;have f0:=fr 0;have f1:=fr 1;clear hqs hns fr hx1 hx2;clear hown hb2 hbk))
  refine bodyPost_ret (v:=.tuple #[.agg #[.slice Av (loopsM f.blocks D L).length cv,.slice (some ⟨gl,0,none⟩) f.blocks.length f.blocks.length],.int .i64 0]) (by simp[results,Tryz.results73,go_sem,n0,n1]) rfl (.inr ⟨o,pl,par,D,L,_,gl,HK.out,rfl,?_,?_,?_⟩)
  ·exact LoopsR.mono ((HLP2.out.other hwW _).other hwW _) HB0.out.size
  ·have hne:(Value.slice (some ⟨gl,0,none⟩) f.blocks.length f.blocks.length).ownBlock≠some (w.heap.size+1):=fun e=>by have:=(HOW.out.lt _ e).1;omega
   exact World.ownsRow.mono (ownsRow_setCell_other (ownsRow_setCell_other HOW.out (a:=⟨w.heap.size+1,0,none⟩) hne _) (a:=⟨w.heap.size+1,1,none⟩) hne _) HB0.out.size
  ·exact(((HB0.out.trans (HB2.out.mono HB0.out.size))).setCell (by simp) _).setCell (by simp) _
 ·have HNG:Hid (∀ o,StrictM f o→False):=fun o h=>hst ⟨o,h⟩
  clear hst
  go_enter Tryz.func73,Tryz.ntmps73
  go_upto_region 1 with fail
  rw[← HW0.out]
  go_wp2_with (go_at_call 122;go_must (refine HT.out.mono ?_);rintro e w1 (⟨x1,y1,hci,hy1,rfl,hbk⟩|⟨o,pl,par,D,L,lv,hk,_⟩);rotate_left;(exact(HNG.out o hk.strict).elim);have hy:(y1 != 0)=true:=(by rw[bne_iff_ne];exact hy1);have HCI:=hideI hci;have HY:=hideI hy1;have HB1:=hideI hbk;have hx1:=(hbk.block _ (by omega:w.heap.size<W.heap.size)).trans HX1.out;have hx2:=(hbk.block _ hwW).trans HX2.out;clear q0 q1 q2 q3 n0 n1 f0 f1;have hqs:=row_cells hx1 rfl;have q0:=hqs 0;have q1:=hqs 1;have q2:=hqs 2;have q3:=hqs 3;have hns:=row_cells hx2 rfl;have n0:=hns 0;have n1:=hns 1;have fr:=free_rowN hx2 rfl;have f0:=fr 0;have f1:=fr 1;clear hqs hns fr hx1 hx2;clear hbk hci hy1)
  refine bodyPost_ret (v:=.tuple #[.agg #[.slice none 0 0,.slice none 0 0],.int .i64 y1]) (by simp[results,Tryz.results73,go_sem,n0,n1]) rfl (.inl ⟨x1,y1,HCI.out,HY.out,rfl,?_⟩)
  exact(((HB0.out.trans (HB1.out.mono HB0.out.size))).setCell (by simp) _).setCell (by simp) _
end Go.Proofs.YtaehbgppfahdeaaGreat

namespace Go.Proofs.YtaehbgppfahdeaaGreat
open Go.RowKit Go.Maps
def FirstBy {α:Type} (p:α→Bool) (l:List α) (r:Int):Prop :=
 (r=-1∧∀ x∈l,p x=false)∨∃ (k:Nat) (x:α),r=k∧l[k]?=some x∧p x=true∧∀ j y,j<k→l[j]?=some y→p y=false
def GivesOut (base q:Nat) (l:List Nat) (p:Nat→Bool) (w:World):Prop :=
 ∀ (W:World) (x:Nat),x∈l→Below base w W→Calls Tryz.prog 76 #[.int .i64 (x:Int),.pointer (some ⟨q,0,none⟩)] W fun e w'=>e=.returned (.bool (p x))∧Below W.heap.size W w'
def GivesIn (base q:Nat) (l:List Nat) (p:Nat→Bool) (w:World):Prop :=
 ∀ (W:World) (x:Nat),x∈l→Below base w W→Calls Tryz.prog 127 #[.int .i64 (x:Int),.pointer (some ⟨q,0,none⟩)] W fun e w'=>e=.returned (.bool (p x))∧Below W.heap.size W w'
def GivesSh (base q r:Nat) (l:List Nat) (p:Nat→Bool) (w:World):Prop :=
 ∀ (W:World) (x:Nat),x∈l→Below base w W→Calls Tryz.prog 78 #[.int .i64 (x:Int),.pointer (some ⟨q,0,none⟩),.pointer (some ⟨r,0,none⟩)] W fun e w'=>e=.returned (.bool (p x))∧Below W.heap.size W w'
end Go.Proofs.YtaehbgppfahdeaaGreat

namespace Go.Proofs.YtaehbgppfahdeaaGreat
open Go.RowKit Go.Maps
theorem nat_rise {l:List Nat} (h:l.Pairwise (·<·)):(l.map fun(x:Nat)=>(x:Int)).Pairwise (·<·):=by
 rw[List.pairwise_map]
 exact h.imp fun h=>by omega
set_option maxRecDepth 100000 in
set_option maxHeartbeats 2000000 in
theorem cHas_any (l:List Nat) (n c x:Nat) (A:Option Addr) (v0 v2 v3 v4:Value) (w:World) (hi:Ints w w.heap.size (.slice A n c) (l.map fun(x:Nat)=>(x:Int))) (hr:l.Pairwise (·<·)) (hl:l.length≤512) :
  Calls Tryz.prog 77 #[.agg #[v0,.slice A n c,v2,v3,v4],.int .i64 (x:Int)] w fun e w'=>e=.returned (.bool (decide (x∈l)))∧Below w.heap.size w w':=by
 have HB0:Hid (Below w.heap.size w (w.alloc (.cells #[v0,.slice A n c,v2,v3,v4] 88))):=(Below.refl _ w).alloc (Nat.le_refl _) _
 have h0:=bs_any _ _ _ (x:Int) (w.alloc (.cells #[v0,.slice A n c,v2,v3,v4] 88)) (hi.keep HB0.out) (nat_rise hr) (by rw[List.length_map];exact hl)
 unfold BsPost at h0
 simp only[mem_nat]at h0
 have HC:=hideI h0
 clear h0
 clear hi hr
 go_enter Tryz.func77,Tryz.ntmps77
 go_wp2_with (go_at_call 128;refine HC.out.mono ?_;rintro e w1 ⟨p,rfl,rfl⟩)
 go_ret
 exact⟨rfl,HB0.out⟩
structure LpBox (w:World) (q:Nat) (x:LpM):Prop where
 ex:∃ A c v0 v2 v3 v4,w.heap[q]?=some (.cells #[v0,.slice A x.blocks.length c,v2,v3,v4] 88 (0,0))∧Ints w w.heap.size (.slice A x.blocks.length c) (x.blocks.map fun(x:Nat)=>(x:Int))
end Go.Proofs.YtaehbgppfahdeaaGreat

namespace Go.Proofs.YtaehbgppfahdeaaGreat
open Go.RowKit Go.Maps
structure LpIs (bs:List BlockM) (D L:Nat→Nat→Bool) (i:Nat) (x:LpM):Prop where
 at_:(headsM bs D bs.length)[i]?=some x.head
 blocks:x.blocks=blocksM bs.length L x.head
 latches:x.latches=latchesM bs D x.head
 exits:x.exits=exitsM bs L x.head
 parent:x.parent=arM (lp0M bs D L bs.length) i (lp0M bs D L bs.length).length
section
variable {bs:List BlockM} {o:List Nat} {pl:Nat→Nat} {par:Nat→Option Nat} {D L:Nat→Nat→Bool} {i:Nat} {x:LpM}
theorem lp0_at {x:LpM} (h:(lp0M bs D L bs.length)[i]?=some x):(headsM bs D bs.length)[i]?=some x.head∧x=lpOf bs D L x.head:=by
 unfold lp0M at h
 rw[List.getElem?_map]at h
 cases e:(headsM bs D bs.length)[i]? with
|none=>rw[e]at h;cases h
|some y =>
  rw[e]at h
  cases h
  exact⟨rfl,rfl⟩
theorem loops_at (h:(loopsM bs D L)[i]?=some x):LpIs bs D L i x:=by
 have hl:=(List.getElem?_eq_some_iff.1 h).1
 unfold loopsM at h hl
 rw[parsTo_len]at hl
 rw[parsTo_at hl,if_pos hl]at h
 obtain⟨y,hy⟩:∃ y,(lp0M bs D L bs.length)[i]?=some y:=⟨_,List.getElem?_eq_getElem hl⟩
 rw[getD_some hy]at h
 cases h
 obtain⟨h1,h2⟩:=lp0_at hy
 obtain⟨hd,hhd⟩:∃ hd,hd=y.head:=⟨_,rfl⟩
 rw[← hhd]at h2 h1
 subst h2
 exact⟨h1,rfl,rfl,rfl,rfl⟩
theorem LpIs.head_lt (X:LpIs bs D L i x):x.head<bs.length:=(mem_heads.1 (List.mem_of_getElem? X.at_)).1
theorem LpIs.mem_blocks (K:LoopOk bs o pl par D L) (X:LpIs bs D L i x) (b:Nat):b∈x.blocks↔L x.head b=true:=by
 rw[X.blocks,K.fn.mem_blocks X.head_lt,K.fn.inL]
theorem LpIs.mem_latches (K:LoopOk bs o pl par D L) (X:LpIs bs D L i x) (b:Nat):b∈x.latches↔BackP bs o x.head b:=by
 rw[X.latches,K.fn.mem_latches]
theorem LpIs.latches_pos (X:LpIs bs D L i x):0<x.latches.length:=by
 have h:=(mem_heads.1 (List.mem_of_getElem? X.at_)).2
 rw[← X.latches]at h
 exact List.length_pos_iff.2 h
theorem heads_rise (bs:List BlockM) (D:Nat→Nat→Bool) (n:Nat):(headsM bs D n).Pairwise (·<·):=by
 unfold headsM
 exact List.Pairwise.filter _ List.pairwise_lt_range
theorem LpIs.rise {j:Nat} {y:LpM} (X:LpIs bs D L i x) (Y:LpIs bs D L j y) (h:j<i):y.head<x.head:=by
 have h1:=List.getElem?_eq_some_iff.1 X.at_
 have h2:=List.getElem?_eq_some_iff.1 Y.at_
 have h3:=List.pairwise_iff_getElem.1 (heads_rise bs D bs.length) j i h2.1 h1.1 h
 rw[h1.2,h2.2]at h3
 exact h3
theorem LpIs.ne {j:Nat} {y:LpM} (X:LpIs bs D L i x) (Y:LpIs bs D L j y) (h:j≠i):x.head≠y.head:=by
 rcases Nat.lt_or_gt_of_ne h with h|h
 ·have:=X.rise Y h;omega
 ·have:=Y.rise X h;omega
theorem LpIs.both (K:LoopOk bs o pl par D L) {j:Nat} {y:LpM} (X:LpIs bs D L i x) (Y:LpIs bs D L j y) (h:j≠i) :
  (x.blocks.filter fun b=>decide (b∈y.blocks)).length=0∨(x.blocks.filter fun b=>decide (b∈y.blocks)).length=x.blocks.length∨(x.blocks.filter fun b=>decide (b∈y.blocks)).length=y.blocks.length:=by
 have e:(x.blocks.filter fun b=>decide (b∈y.blocks))=(blocksM bs.length L x.head).filter (L y.head):=by
  rw[X.blocks]
  apply List.filter_congr
  intro b _
  rw[Bool.eq_iff_iff,decide_eq_true_iff]
  exact Y.mem_blocks K b
 rw[e,X.blocks,Y.blocks]
 exact K.both X.head_lt Y.head_lt (X.ne Y h)
end
end Go.Proofs.YtaehbgppfahdeaaGreat
