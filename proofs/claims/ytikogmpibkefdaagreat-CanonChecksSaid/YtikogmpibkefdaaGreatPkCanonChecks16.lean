/- What CanonChecks rests on, part 16: LNest, LForest, AwakeM, AwakeN, AwakeS, LLps, LFacts, CanonM, CShared, CFill. -/
import Derived.Test.YtikogmpibkefdaaGreatPkCanonChecks15
import Derived.BigQuiet
import Derived.Deep.QuietTactic

namespace Go.Proofs.YtikogmpibkefdaaGreat
open Go.RowKit Go.Maps
def lp0M (bs:List BlockM) (D L:Nat → Nat → Bool) (k:Nat):List LpM:=(headsM bs D k).map (lpOf bs D L)
theorem heads_succ (bs:List BlockM) (D:Nat → Nat → Bool) (k:Nat):headsM bs D (k + 1)=headsM bs D k ++ if (latchesM bs D k).length=0 then [] else [k]:=by
 unfold headsM
 rw [List.range_succ,List.filter_append]
 cases h:latchesM bs D k <;> simp [h]
theorem lp0_skip {bs:List BlockM} {D L:Nat → Nat → Bool} {k:Nat} (h:(latchesM bs D k).length=0):lp0M bs D L (k + 1)=lp0M bs D L k:=by
 unfold lp0M
 rw [heads_succ,if_pos h,List.append_nil]
theorem lp0_more {bs:List BlockM} {D L:Nat → Nat → Bool} {k:Nat} (h:(latchesM bs D k).length ≠ 0):lp0M bs D L (k + 1)=lp0M bs D L k ++ [lpOf bs D L k]:=by
 unfold lp0M
 rw [heads_succ,if_neg h,List.map_append]
 rfl
theorem heads_len (bs:List BlockM) (D:Nat → Nat → Bool) (k:Nat):(headsM bs D k).length ≤ k:=by
 unfold headsM
 have:=List.length_filter_le (fun h => !(latchesM bs D h).isEmpty) (List.range k)
 rwa [List.length_range] at this
theorem lp0_len (bs:List BlockM) (D L:Nat → Nat → Bool) (k:Nat):(lp0M bs D L k).length ≤ k:=by
 unfold lp0M
 rw [List.length_map]
 exact heads_len bs D k
theorem lp0_rising (bs:List BlockM) (D L:Nat → Nat → Bool) (k:Nat) (hn:bs.length ≤ 512):Rising (lp0M bs D L k):=by
 intro x hx
 unfold lp0M at hx
 rw [List.mem_map] at hx
 obtain ⟨h,_,rfl⟩:=hx
 show (blocksM bs.length L h).Pairwise (· < ·) ∧ (blocksM bs.length L h).length ≤ 512
 unfold blocksM
 refine ⟨List.Pairwise.filter _ List.pairwise_lt_range,?_⟩
 have:=List.length_filter_le (L h) (List.range bs.length)
 rw [List.length_range] at this
 omega
def parsTo (ls:List LpM) (j:Nat):List LpM:=(List.range ls.length).map fun i => if i < j then { ls.getD i noLp with parent:=arM ls i ls.length } else ls.getD i noLp
theorem parsTo_len (ls:List LpM) (j:Nat):(parsTo ls j).length=ls.length:=by simp [parsTo]
theorem parsTo_at {ls:List LpM} {j i:Nat} (h:i < ls.length):(parsTo ls j)[i]?=some (if i < j then { ls.getD i noLp with parent:=arM ls i ls.length } else ls.getD i noLp):=by
 unfold parsTo
 rw [List.getElem?_map,List.getElem?_eq_getElem (by simpa using h)]
 simp
theorem parsTo_zero (ls:List LpM):parsTo ls 0=ls:=by
 apply List.ext_getElem?
 intro i
 by_cases h:i < ls.length
 ·rw [parsTo_at h,if_neg (by omega),List.getD_eq_getElem?_getD,List.getElem?_eq_getElem h]
  rfl
 ·rw [List.getElem?_eq_none (by rw [parsTo_len];omega),List.getElem?_eq_none (by omega)]
theorem parsTo_getD {ls:List LpM} {j i:Nat}:((parsTo ls j).getD i noLp).head=(ls.getD i noLp).head ∧ ((parsTo ls j).getD i noLp).blocks=(ls.getD i noLp).blocks:=by
 rw [List.getD_eq_getElem?_getD (l:=parsTo ls j)]
 by_cases h:i < ls.length
 ·rw [parsTo_at h]
  simp only [Option.getD_some]
  split <;> exact ⟨rfl,rfl⟩
 ·rw [List.getElem?_eq_none (by rw [parsTo_len];omega),List.getD_eq_getElem?_getD,List.getElem?_eq_none (by omega)]
  exact ⟨rfl,rfl⟩
theorem parsTo_arM {ls:List LpM} {j i:Nat}:∀ k,arM (parsTo ls j) i k=arM ls i k
 | 0 => rfl
 | k + 1 => by
  show (if lessB (parsTo ls j) i (arM (parsTo ls j) i k) k=true then (k:Int) else arM (parsTo ls j) i k)=if lessB ls i (arM ls i k) k=true then (k:Int) else arM ls i k
  rw [parsTo_arM k]
  have:lessB (parsTo ls j) i (arM ls i k) k=lessB ls i (arM ls i k) k:=by
   unfold lessB
   rw [(parsTo_getD (ls:=ls) (j:=j) (i:=i)).1,(parsTo_getD (ls:=ls) (j:=j) (i:=k)).2,(parsTo_getD (ls:=ls) (j:=j) (i:=(arM ls i k).toNat)).2]
  rw [this]
theorem parsTo_set {ls:List LpM} {j:Nat} {x:LpM} (h:j < ls.length) (hx:(parsTo ls j)[j]?=some x):(parsTo ls j).set j { x with parent:=arM ls j ls.length }=parsTo ls (j + 1):=by
 rw [parsTo_at h,if_neg (by omega)] at hx
 cases hx
 apply List.ext_getElem?
 intro i
 by_cases hi:i < ls.length
 ·by_cases e:j=i
  ·subst e
   rw [List.getElem?_set_self (by rw [parsTo_len];exact h),parsTo_at hi,if_pos (by omega)]
  ·rw [List.getElem?_set_ne e,parsTo_at hi,parsTo_at hi]
   by_cases hij:i < j
   ·rw [if_pos hij,if_pos (by omega)]
   ·rw [if_neg hij,if_neg (by omega)]
 ·rw [List.getElem?_eq_none (by rw [List.length_set,parsTo_len];omega),List.getElem?_eq_none (by rw [parsTo_len];omega)]
theorem parsTo_rising {ls:List LpM} {j:Nat} (h:Rising ls):Rising (parsTo ls j):=by
 intro x hx
 obtain ⟨i,hi⟩:=List.getElem?_of_mem hx
 have hl:=(List.getElem?_eq_some_iff.1 hi).1
 rw [parsTo_len] at hl
 rw [parsTo_at hl] at hi
 have hb:x.blocks=(ls.getD i noLp).blocks:=by
  split at hi <;> cases hi <;> rfl
 rw [hb,List.getD_eq_getElem?_getD,List.getElem?_eq_getElem hl]
 exact h _ (List.getElem_mem hl)
def loopsM (bs:List BlockM) (D L:Nat → Nat → Bool):List LpM:=parsTo (lp0M bs D L bs.length) (lp0M bs D L bs.length).length
def NestPost (f:FuncM) (pv bv:Value) (w:World) (e:Ending) (w':World):Prop :=
 (∃ x y:Int,CheckIs f (x,y) ∧ y ≠ 0 ∧ e=.returned (.tuple #[.agg #[.slice none 0 0,.int .i64 0,.int .i64 0,.slice none 0 0,.slice none 0 0,.slice none 0 0,.slice none 0 0,.slice none 0 0],.int .i64 y]) ∧ Below w.heap.size w w') ∨
 (∃ (o:List Nat) (pl:Nat → Nat) (par:Nat → Option Nat) (D L:Nat → Nat → Bool) (gp:Nat) (vs:List Value) (gi gl:Nat) (lv:Value),LoopsOf f o pl par D L ∧ e=.returned (.tuple #[.agg #[pv,.int .i64 f.arrays,.int .i64 f.cells,bv,.slice (some ⟨gp,0,none⟩) f.blocks.length f.blocks.length,.slice (some ⟨gi,0,none⟩) f.blocks.length f.blocks.length,.slice (some ⟨gl,0,none⟩) f.blocks.length f.blocks.length,lv],.int .i64 0]) ∧ LfAt w' (w.heap.size + 2) f.blocks o pl par gp vs gi gl ∧ LoopsR w' (w.heap.size + 2) lv (loopsM f.blocks D L) ∧ Below w.heap.size w w')
set_option maxRecDepth 100000 in
set_option maxHeartbeats 8000000 in
theorem lNest_any (f:FuncM) (B:Nat) (pv bv:Value) (w:World) (hpv:Ints w B pv f.params) (hbv:BlocksR w B bv f.blocks) (hB:B ≤ w.heap.size) (hid:∀ u ∈ usesM f,I64 u.1) :
  Calls Tryz.prog 172 #[.agg #[pv,.int .i64 f.arrays,.int .i64 f.cells,bv]] w (NestPost f pv bv w):=by
 have HP:=hideI hpv
 have HBL:=hideI hbv
 have HID:=hideI hid
 obtain ⟨P,pc,rfl,_⟩:=hpv
 obtain ⟨A,c,rfl,hbm,_⟩:=hbv
 obtain ⟨W0,hW0⟩:∃ W0,W0=(w.alloc (.cells #[.slice P f.params.length pc,.int .i64 f.arrays,.int .i64 f.cells,.slice A f.blocks.length c] 25)).alloc (.cells #[.slice none 0 0,.int .i64 0,.int .i64 0,.slice none 0 0,.slice none 0 0,.slice none 0 0,.slice none 0 0,.slice none 0 0] 226):=⟨_,rfl⟩
 have hB0:Below w.heap.size w W0:=by rw [hW0];exact ((Below.refl _ w).alloc (Nat.le_refl _) _).alloc (by simp) _
 have hs0:W0.heap.size=w.heap.size + 2:=by rw [hW0];simp
 have hbox:W0.heap[w.heap.size]?=some (.cells #[.slice P f.params.length pc,.int .i64 f.arrays,.int .i64 f.cells,.slice A f.blocks.length c] 25 (0,0)):=by
  rw [hW0,Below.heap_alloc _ _ _ (by simp)]
  exact heap_alloc_new w _
 have hres:W0.heap[w.heap.size + 1]?=some (.cells #[.slice none 0 0,.int .i64 0,.int .i64 0,.slice none 0 0,.slice none 0 0,.slice none 0 0,.slice none 0 0,.slice none 0 0] 226 (0,0)):=by
  rw [hW0]
  have:=heap_alloc_new (w.alloc (.cells #[.slice P f.params.length pc,.int .i64 f.arrays,.int .i64 f.cells,.slice A f.blocks.length c] 25)) (.cells #[.slice none 0 0,.int .i64 0,.int .i64 0,.slice none 0 0,.slice none 0 0,.slice none 0 0,.slice none 0 0,.slice none 0 0] 226)
  simpa using this
 have HW0:=hideI hW0
 have HB0:=hideI hB0
 have HS0:=hideI hs0
 have G0:Hid (∀ W,Below W0.heap.size W0 W → (∀ o,W.cell? ⟨w.heap.size,o,none⟩=(#[.slice P f.params.length pc,.int .i64 f.arrays,.int .i64 f.cells,.slice A f.blocks.length c]:Array Value)[o]?) ∧ (∀ o,W.cell? ⟨w.heap.size + 1,o,none⟩=(#[.slice none 0 0,.int .i64 0,.int .i64 0,.slice none 0 0,.slice none 0 0,.slice none 0 0,.slice none 0 0,.slice none 0 0]:Array Value)[o]?) ∧ (∀ o,W.frozen? ⟨w.heap.size + 1,o,none⟩=false)):=fun W hW => by
  have h1:=hW.block w.heap.size (by omega)
  have h2:=hW.block (w.heap.size + 1) (by omega)
  exact ⟨row_cells hbox h1,row_cells hres h2,fun o => free_rowN hres h2 o⟩
 have HPW:Hid (∀ W,Below W0.heap.size W0 W → Ints W B (.slice P f.params.length pc) f.params ∧ BlocksR W B (.slice A f.blocks.length c) f.blocks ∧ Below w.heap.size w W):=fun W hW => by
  have h1:Below w.heap.size w W:=HB0.out.trans (hW.mono (by omega))
  exact ⟨HP.out.keeps (Keeps.of_below (h1.mono hB)),HBL.out.keeps (Keeps.of_below (h1.mono hB)),h1⟩
 obtain ⟨q1,q2,q3⟩:=G0.out W0 (Below.refl _ _)
 have b0:=q1 0
 have b1:=q1 1
 have b2:=q1 2
 have b3:=q1 3
 have hBW0:B ≤ W0.heap.size:=by omega
 have HLF:=hideI (lFunc_any f B _ _ W0 (HPW.out _ (Below.refl _ _)).1 (HPW.out _ (Below.refl _ _)).2.1 hBW0 HID.out)
 clear hid hW0 hB0 hs0 hbox hres q1 q2 q3
 by_cases hst:∃ o,StrictM f o
 ·obtain ⟨o0,hst⟩:=hst
  have HST:=hideI hst
  have hnb:=look_some_block hst.look
  have hn5:=hnb.2
  have HIN:=hideI (look_ends hst.look)
  clear hst hnb
  go_enter Tryz.func172,Tryz.ntmps172
  go_upto_region 1 with fail
  rw [← HW0.out]
  go_wp2_with (first
   | (go_at_call 210;go_must (refine HLF.out.mono ?_);rintro e w1 (⟨x,y,hci,hy,_⟩ | ⟨o,pl,par,D,L,gp,vs,gi,gl,hk,rfl,hlf,hb1⟩);(exact absurd (Prod.mk.inj (HST.out.check hci)).2 hy);have HK:=hideI hk;have HLF1:=hideI hlf;have HB1:=hideI hb1;clear hk hlf hb1 b0 b1 b2 b3))
  obtain ⟨Wn,hWn⟩:∃ Wn,Wn=w1.alloc (.cells #[.slice P f.params.length pc,.int .i64 f.arrays,.int .i64 f.cells,.slice A f.blocks.length c,.slice (some ⟨gp,0,none⟩) f.blocks.length f.blocks.length,.slice (some ⟨gi,0,none⟩) f.blocks.length f.blocks.length,.slice (some ⟨gl,0,none⟩) f.blocks.length f.blocks.length] 224):=⟨_,rfl⟩
  obtain ⟨W1,hW1⟩:∃ W1,W1=Wn.alloc (.cells #[.slice P f.params.length pc,.int .i64 f.arrays,.int .i64 f.cells,.slice A f.blocks.length c,.slice (some ⟨gp,0,none⟩) f.blocks.length f.blocks.length,.slice (some ⟨gi,0,none⟩) f.blocks.length f.blocks.length,.slice (some ⟨gl,0,none⟩) f.blocks.length f.blocks.length,.slice none 0 0] 226):=⟨_,rfl⟩
  obtain ⟨gn,hgn⟩:∃ gn,gn=w1.heap.size + 1:=⟨_,rfl⟩
  have hsn:Wn.heap.size=gn:=by rw [hWn,hgn];simp
  have HXN:Hid (W1.heap[gn]?=some (.cells #[.slice P f.params.length pc,.int .i64 f.arrays,.int .i64 f.cells,.slice A f.blocks.length c,.slice (some ⟨gp,0,none⟩) f.blocks.length f.blocks.length,.slice (some ⟨gi,0,none⟩) f.blocks.length f.blocks.length,.slice (some ⟨gl,0,none⟩) f.blocks.length f.blocks.length,.slice none 0 0] 226 (0,0))):=by show _=_;rw [hW1,← hsn];exact heap_alloc_new Wn _
  have HLN:Hid (LfAt Wn (W0.heap.size + 2) f.blocks o pl par gp vs gi gl):=by show LfAt _ _ _ _ _ _ _ _ _ _;rw [hWn];exact HLF1.out.kept ((Below.refl _ _).alloc (Nat.le_refl _) _)
  have HBN:Hid (Below W0.heap.size W0 Wn):=by show Below _ _ _;rw [hWn];exact HB1.out.alloc HB1.out.size _
  have HBN1:Hid (Below gn Wn W1):=by show Below _ _ _;rw [hW1,← hsn];exact (Below.refl _ _).alloc (Nat.le_refl _) _
  have HSN:=hideI hsn
  have hgn0:W0.heap.size < gn:=by have:=HB1.out.size;omega
  have hBgn:B ≤ gn:=by omega
  rw [← hWn,← hW1,← hgn]
  clear hWn hW1 hgn hsn
  go_loopw [26] (fun u wr => ∃ (k:Nat) (lv:Value),k ≤ f.blocks.length ∧ u=.int .i64 k ∧ Hid (wr.heap[gn]?=some (.cells #[.slice P f.params.length pc,.int .i64 f.arrays,.int .i64 f.cells,.slice A f.blocks.length c,.slice (some ⟨gp,0,none⟩) f.blocks.length f.blocks.length,.slice (some ⟨gi,0,none⟩) f.blocks.length f.blocks.length,.slice (some ⟨gl,0,none⟩) f.blocks.length f.blocks.length,lv] 226 (0,0))) ∧ Hid (LoopsR wr (gn + 1) lv (lp0M f.blocks D L k)) ∧ Hid (Below gn Wn wr)) (fun u _ => f.blocks.length - (intOf u).toNat)
  case atStart => exact ⟨0,_,Nat.zero_le _,rfl,HXN,hideI (LoopsR.nil _ _),HBN1⟩
  case round =>
   obtain ⟨k,lv,hk,rfl,HX,HLP,HBr⟩:=hrel
   have hgr:=lt_of_heap HX.out
   have HLr:Hid (LfAt wr (W0.heap.size + 2) f.blocks o pl par gp vs gi gl):=HLN.out.kept (by rw [HSN.out];exact HBr.out)
   have hx:=row_cells HX.out rfl
   have q0:=hx 0
   have q1:=hx 1
   have q2:=hx 2
   have q3:=hx 3
   have q4:=hx 4
   have q5:=hx 5
   have q6:=hx 6
   have q7:=hx 7
   clear hx
   by_cases hlt:k < f.blocks.length
   ·have HLT:=hideI (lLatch_any f.blocks o pl par D L (W0.heap.size + 2) gp gi gl k vs (.slice P f.params.length pc) (.int .i64 f.arrays) (.int .i64 f.cells) (.slice A f.blocks.length c) wr HK.out.ok HLr.out hlt)
    obtain ⟨m,hm⟩:∃ m,m=(latchesM f.blocks D k).length:=⟨_,rfl⟩
    have HM:=hideI hm
    by_cases hm0:m=0
    ·subst hm0
     have HSK:=hideI (lp0_skip (L:=L) hm.symm)
     clear hm
     go_wp2_with (go_at_call 211;go_must (refine HLT.out.mono ?_);rintro e w2 ⟨v2,rfl,hown2,hb2⟩;(obtain ⟨A2,c2,rfl⟩:=own_sl hown2);rw [← HM.out];have HX2:=hideI ((hb2.block gn hgr).trans HX.out);have HL2:=hideI (HLP.out.kept hb2);have HB2:=hideI (HBr.out.trans (hb2.mono (Nat.le_of_lt hgr)));clear hown2 hb2 q0 q1 q2 q3 q4 q5 q6 q7)
     go_roundw
     case rel => exact ⟨k + 1,lv,by omega,by go_num,HX2,by rw [HSK.out];exact HL2,HB2⟩
     case measure => simp [intOf];omega
    ·have hmp:0 < m:=by omega
     have HMR:=hideI (lp0_more (L:=L) (by rw [← hm];exact hm0))
     have hlpl:=lp0_len f.blocks D L k
     clear hm hm0
     go_wp2_with (first
      | (go_at_call 211;go_must (refine HLT.out.mono ?_);rintro e w2 ⟨v2,rfl,hown2,hb2⟩;(obtain ⟨A2,c2,rfl⟩:=own_sl hown2);have HO2:=hideI hown2;have HX2:=hideI ((hb2.block gn hgr).trans HX.out);have HL2:=hideI (HLP.out.kept hb2);have HF2:=hideI (HLr.out.kept hb2);have HB2:=hideI (HBr.out.trans (hb2.mono (Nat.le_of_lt hgr)));have hs2:wr.heap.size ≤ w2.heap.size:=hb2.size;have HSB:Hid (SubR w2 (gn + 1) lv (.slice A2 (latchesM f.blocks D k).length c2) (latchesM f.blocks D k)):=⟨World.ownsRow.mono hown2 hgr,fun j hj e => (by obtain ⟨cs,hr1,_⟩:=HLP.out.ex;have h1:=(hown2.lt j hj).1;have h2:=(hr1.lt j e).2;omega)⟩;clear hown2 hb2 q0 q1 q2 q3 q4 q5 q6 q7;rw [← HM.out] at HSB ⊢)
      | (go_at_call 212;go_must (refine (lAddL_any f.blocks o pl par D L (W0.heap.size + 2) gp gi gl k c B gn (gn + 1) vs (.slice P f.params.length pc) (.int .i64 f.arrays) (.int .i64 f.cells) lv _ A (lp0M f.blocks D L k) w2 HK.out.ok HF2.out hlt HIN.out (HBL.out.keeps (Keeps.of_below ((HPW.out _ (HBN.out.trans (HB2.out.mono (Nat.le_of_lt hgn0)))).2.2.mono hB))) hBgn HX2.out (Nat.lt_succ_self _) (by omega) HL2.out (by omega) HSB.out).mono ?_);rintro e w3 ⟨g3,cap3,rfl,hx3,hl3,hb3⟩;have HX3:=hideI hx3;have HL3:=hideI hl3;have HB3:=hideI (HB2.out.trans hb3);clear hx3 hl3 hb3))
     go_roundw
     case rel => exact ⟨k + 1,_,by omega,by go_num,HX3,by rw [HMR.out];exact HL3,HB3⟩
     case measure => simp [intOf];omega
   ·have hkn:k=f.blocks.length:=by omega
    subst hkn
    obtain ⟨ls,hls⟩:∃ ls,ls=lp0M f.blocks D L f.blocks.length:=⟨_,rfl⟩
    have HLS:=hideI hls
    have HRS:Hid (Rising ls):=by show Rising ls;rw [hls];exact lp0_rising _ _ _ _ hn5
    have hll:ls.length ≤ 512:=by rw [hls];exact Nat.le_trans (lp0_len _ _ _ _) hn5
    rw [← hls] at HLP
    have HPT:Hid (loopsM f.blocks D L=parsTo ls ls.length):=by show _=_;rw [hls];rfl
    obtain ⟨Av,cv,rfl⟩:∃ A c,lv=.slice A ls.length c:=by obtain ⟨cs,h1,_⟩:=HLP.out.ex;exact own_sl h1
    have HL0:Hid (LoopsR wr (gn + 1) (.slice Av ls.length cv) (parsTo ls 0)):=by show LoopsR _ _ _ _;rw [parsTo_zero];exact HLP.out
    clear hls HLP
    go_wp2
    clear q0 q1 q2 q3 q4 q5 q6 q7
    obtain ⟨wo,rfl⟩:∃ wo:World,wo=wr:=⟨_,rfl⟩
    go_loopw [43] (fun u wr => ∃ j:Nat,j ≤ ls.length ∧ u=.int .i64 j ∧ Hid (wr.heap[gn]?=some (.cells #[.slice P f.params.length pc,.int .i64 f.arrays,.int .i64 f.cells,.slice A f.blocks.length c,.slice (some ⟨gp,0,none⟩) f.blocks.length f.blocks.length,.slice (some ⟨gi,0,none⟩) f.blocks.length f.blocks.length,.slice (some ⟨gl,0,none⟩) f.blocks.length f.blocks.length,.slice Av ls.length cv] 226 (0,0))) ∧ Hid (LoopsR wr (gn + 1) (.slice Av ls.length cv) (parsTo ls j)) ∧ Hid (Below gn Wn wr)) (fun u _ => ls.length - (intOf u).toNat)
    case atStart => exact ⟨0,Nat.zero_le _,rfl,HX,HL0,HBr⟩
    case round =>
     clear HX HL0 HBr HLr hgr
     obtain ⟨j,hj,rfl,HX,HLP,HBr⟩:=hrel
     have hgr:=lt_of_heap HX.out
     have HLr:Hid (LfAt wr (W0.heap.size + 2) f.blocks o pl par gp vs gi gl):=HLN.out.kept (by rw [HSN.out];exact HBr.out)
     have hx:=row_cells HX.out rfl
     have q0:=hx 0
     have q1:=hx 1
     have q2:=hx 2
     have q3:=hx 3
     have q4:=hx 4
     have q5:=hx 5
     have q6:=hx 6
     have q7:=hx 7
     clear hx
     by_cases hlj:j < ls.length
     ·obtain ⟨x,hxj⟩:∃ x,(parsTo ls j)[j]?=some x:=⟨_,parsTo_at hlj⟩
      obtain ⟨g,cap0,b1,b2,b3,hv,hgb,hgl2,k0,k1,k2,k3,k4,_,_,_,hfz⟩:=HLP.out.cells hxj
      rw [parsTo_len] at hv
      cases hv
      have HPS:=hideI (parsTo_set hlj hxj)
      have HXJ:=hideI hxj
      have z4:=hfz (j * 5 + 4)
      have HAR:=hideI (lAround_any (parsTo ls j) j (gn + 1) g cv (.slice P f.params.length pc) (.int .i64 f.arrays) (.int .i64 f.cells) (.slice A f.blocks.length c) (.slice (some ⟨gp,0,none⟩) f.blocks.length f.blocks.length) (.slice (some ⟨gi,0,none⟩) f.blocks.length f.blocks.length) (.slice (some ⟨gl,0,none⟩) f.blocks.length f.blocks.length) wr.drew (by rw [parsTo_len];exact HLP.out.kept (Below.refl _ _).drew) (by rw [parsTo_len];exact hlj) (parsTo_rising HRS.out) (by rw [parsTo_len];exact hll))
      rw [parsTo_len,parsTo_arM] at HAR
      obtain ⟨pa,hpa⟩:∃ pa,pa=arM ls j ls.length:=⟨_,rfl⟩
      rw [← hpa] at HAR
      have HPA:=hideI hpa
      have HS:Hid (∀ W,Below wr.heap.size wr W → W.cell? ⟨gn,0,none⟩=some (.slice P f.params.length pc) ∧ W.cell? ⟨gn,1,none⟩=some (.int .i64 f.arrays) ∧ W.cell? ⟨gn,2,none⟩=some (.int .i64 f.cells) ∧ W.cell? ⟨gn,3,none⟩=some (.slice A f.blocks.length c) ∧ W.cell? ⟨gn,4,none⟩=some (.slice (some ⟨gp,0,none⟩) f.blocks.length f.blocks.length) ∧ W.cell? ⟨gn,5,none⟩=some (.slice (some ⟨gi,0,none⟩) f.blocks.length f.blocks.length) ∧ W.cell? ⟨gn,6,none⟩=some (.slice (some ⟨gl,0,none⟩) f.blocks.length f.blocks.length) ∧ W.cell? ⟨gn,7,none⟩=some (.slice (some ⟨g,0,none⟩) ls.length cv)):=fun W hW => by
       have hx:=row_cells HX.out (hW.block gn hgr)
       exact ⟨hx 0,hx 1,hx 2,hx 3,hx 4,hx 5,hx 6,hx 7⟩
      have hS0:=HS.out wr (Below.refl _ _)
      clear hxj hfz k0 k1 k2 k3 hpa
      go_upto_region 15 with fail
      refine wp_region_late (by kernel_rfl) (fun W => W.cell? ⟨gn,0,none⟩=some (.slice P f.params.length pc) ∧ W.cell? ⟨gn,1,none⟩=some (.int .i64 f.arrays) ∧ W.cell? ⟨gn,2,none⟩=some (.int .i64 f.cells) ∧ W.cell? ⟨gn,3,none⟩=some (.slice A f.blocks.length c) ∧ W.cell? ⟨gn,4,none⟩=some (.slice (some ⟨gp,0,none⟩) f.blocks.length f.blocks.length) ∧ W.cell? ⟨gn,5,none⟩=some (.slice (some ⟨gi,0,none⟩) f.blocks.length f.blocks.length) ∧ W.cell? ⟨gn,6,none⟩=some (.slice (some ⟨gl,0,none⟩) f.blocks.length f.blocks.length) ∧ W.cell? ⟨gn,7,none⟩=some (.slice (some ⟨g,0,none⟩) ls.length cv)) [8] ?_
      refine wpAnyT_quiet (i:=0) (v:=?_) rfl (by kernel_rfl) (by kernel_rfl) (by kernel_rfl) (fun _ _ _ h => h) (Or.inl ⟨by rfl,?_⟩) ?_
      rotate_left
      ·(intro w;go_simp;try with_reducible rfl)
      try simp only [Act.put,List.setIfInBounds_toArray,List.set_cons_zero,List.set_cons_succ]
      refine wpAnyT_take [8] (i:=1) (v:=?_) rfl (by kernel_rfl) (by kernel_rfl) (by kernel_rfl) (by kernel_rfl) (by kernel_rfl) (by kernel_rfl) (fun _ _ _ h => h) hS0 (Or.inl ⟨by rfl,?_⟩) ?_
      rotate_left
      ·(intro w hSw;go_split_ands;go_simp;try with_reducible rfl)
      try simp only [Act.put,List.setIfInBounds_toArray,List.set_cons_zero,List.set_cons_succ]
      refine wpAnyT_quiet (i:=2) (v:=?_) rfl (by kernel_rfl) (by kernel_rfl) (by kernel_rfl) (fun _ _ _ h => h) (Or.inl ⟨by rfl,?_⟩) ?_
      rotate_left
      ·(intro w;go_simp;try with_reducible rfl)
      try simp only [Act.put,List.setIfInBounds_toArray,List.set_cons_zero,List.set_cons_succ]
      refine wpAnyT_take [8] (i:=3) (v:=?_) rfl (by kernel_rfl) (by kernel_rfl) (by kernel_rfl) (by kernel_rfl) (by kernel_rfl) (by kernel_rfl) (fun _ _ _ h => h) hS0 (Or.inl ⟨by rfl,?_⟩) ?_
      rotate_left
      ·(intro w hSw;go_split_ands;go_simp;try with_reducible rfl)
      try simp only [Act.put,List.setIfInBounds_toArray,List.set_cons_zero,List.set_cons_succ]
      refine wpAnyT_quiet (i:=4) (v:=?_) rfl (by kernel_rfl) (by kernel_rfl) (by kernel_rfl) (fun _ _ _ h => h) (Or.inl ⟨by rfl,?_⟩) ?_
      rotate_left
      ·(intro w;go_simp;try with_reducible rfl)
      try simp only [Act.put,List.setIfInBounds_toArray,List.set_cons_zero,List.set_cons_succ]
      refine wpAnyT_ready (rs:=[5]) (by kernel_rfl) (by simp) ?_
      refine AllReadyT.cons rfl (fun K hK => ?_) ?_
      ·go_simp
       refine HAR.out.mono ?_
       rintro e w3 ⟨rfl,hb3d⟩
       have hb3:Below wr.heap.size wr w3:=⟨hb3d.os,hb3d.tape,hb3d.output,hb3d.size,hb3d.block⟩
       have HB3:=hideI hb3
       refine hK.out _ _ (fun _ _ => HS.out _ HB3.out) ?_
       clear hK K hb3d hb3
       try simp only [Act.put,List.setIfInBounds_toArray,List.set_cons_zero,List.set_cons_succ]
       have k43:=(HB3.out.cell (p:=⟨g,j * 5 + 4,none⟩) hgl2).trans k4
       have z43:w3.frozen? ⟨g,j * 5 + 4,none⟩=false:=(HLP.out.kept HB3.out).free _
       have HL3:=hideI ((HLP.out.kept HB3.out))
       have HX3:=hideI ((HB3.out.block gn hgr).trans HX.out)
       refine wpAnyT_quiet (i:=6) (v:=?_) rfl (by kernel_rfl) (by kernel_rfl) (by kernel_rfl) (fun _ _ _ h => h) (Or.inl ⟨by rfl,?_⟩) ?_
       rotate_left
       ·(intro w;go_simp;try with_reducible rfl)
       try simp only [Act.put,List.setIfInBounds_toArray,List.set_cons_zero,List.set_cons_succ]
       refine wpAnyT_quiet (i:=7) (v:=?_) rfl (by kernel_rfl) (by kernel_rfl) (by kernel_rfl) (fun _ _ _ h => h) (Or.inl ⟨by rfl,?_⟩) ?_
       rotate_left
       ·(intro w;go_simp;try with_reducible rfl)
       try simp only [Act.put,List.setIfInBounds_toArray,List.set_cons_zero,List.set_cons_succ]
       refine wpAnyT_ready (rs:=[8]) (by kernel_rfl) (by simp) ?_
       refine AllReadyT.cons rfl (fun K hK => ?_) ?_
       ·go_simp
        refine hK.out _ _ (fun h => absurd (by simp) h) ?_
        clear hK K
        try simp only [Act.put,List.setIfInBounds_toArray,List.set_cons_zero,List.set_cons_succ]
        refine wpAnyT_done (by kernel_rfl) ?_ _
        clear hS0
        go_wp2_with fail
        have hgg:g ≠ gn:=by omega
        have HX4:Hid ((w3.setCell ⟨g,j * 5 + 4,none⟩ (.int .i64 pa)).heap[gn]?=some (.cells #[.slice P f.params.length pc,.int .i64 f.arrays,.int .i64 f.cells,.slice A f.blocks.length c,.slice (some ⟨gp,0,none⟩) f.blocks.length f.blocks.length,.slice (some ⟨gi,0,none⟩) f.blocks.length f.blocks.length,.slice (some ⟨gl,0,none⟩) f.blocks.length f.blocks.length,.slice (some ⟨g,0,none⟩) ls.length cv] 226 (0,0))):=by
         show _=_
         rw [heap_setCell_other w3 ⟨g,j * 5 + 4,none⟩ gn _ (fun e => hgg e.symm)]
         exact HX3.out
        have HL4:Hid (LoopsR (w3.setCell ⟨g,j * 5 + 4,none⟩ (.int .i64 pa)) (gn + 1) (.slice (some ⟨g,0,none⟩) ls.length cv) (parsTo ls (j + 1))):=by
         show LoopsR _ _ _ _
         have h1:LoopsR w3 (gn + 1) (.slice (some ⟨g,0,none⟩) (parsTo ls j).length cv) (parsTo ls j):=by rw [parsTo_len];exact HL3.out
         have h2:=h1.parent (p:=pa) HXJ.out
         rw [parsTo_len,HPA.out,HPS.out] at h2
         rw [HPA.out]
         exact h2
        have HB4:Hid (Below gn Wn (w3.setCell ⟨g,j * 5 + 4,none⟩ (.int .i64 pa))):=(HBr.out.trans (HB3.out.mono (Nat.le_of_lt hgr))).setCell (by show gn ≤ g;omega) _
        go_roundw
        case rel => exact ⟨j + 1,by omega,by go_num,HX4,HL4,HB4⟩
        case measure => simp [intOf];omega
       ·exact AllReadyT.nil
      ·exact AllReadyT.nil
     ·have hjl:j=ls.length:=by omega
      subst hjl
      have HBF:Hid (Below W0.heap.size W0 wr):=HBN.out.trans (HBr.out.mono (Nat.le_of_lt hgn0))
      obtain ⟨y1,y2,y3⟩:=G0.out _ HBF.out
      have s0:=y2 0
      have s1:=y2 1
      have s2:=y2 2
      have s3:=y2 3
      have s4:=y2 4
      have s5:=y2 5
      have s6:=y2 6
      have s7:=y2 7
      have g0:=y3 0
      have g1:=y3 1
      have g2:=y3 2
      have g3:=y3 3
      have g4:=y3 4
      have g5:=y3 5
      have g6:=y3 6
      have g7:=y3 7
      have hs0:=HS0.out
      have hwn:w.heap.size + 1 ≠ gn:=by omega
      have hwl:w.heap.size + 1 < W0.heap.size:=by omega
      clear y1 y2 y3
      go_wp2
      refine bodyPost_ret (v:=.tuple #[.agg #[.slice P f.params.length pc,.int .i64 f.arrays,.int .i64 f.cells,.slice A f.blocks.length c,.slice (some ⟨gp,0,none⟩) f.blocks.length f.blocks.length,.slice (some ⟨gi,0,none⟩) f.blocks.length f.blocks.length,.slice (some ⟨gl,0,none⟩) f.blocks.length f.blocks.length,.slice Av ls.length cv],.int .i64 0]) (by simp [results,Tryz.results172,go_sem,s0,s1,s2,s3,s4,s5,s6,s7]) rfl (.inr ⟨o,pl,par,D,L,gp,vs,gi,gl,.slice Av ls.length cv,HK.out,rfl,?_,?_,?_⟩)
      ·have hl:w.heap.size + 1 < W0.heap.size + 2:=by omega
       refine LfAt.mono (lo:=W0.heap.size + 2) ?_ (by omega)
       exact (((((((HLr.out.other hl _).other hl _).other hl _).other hl _).other hl _).other hl _).other hl _).other hl _
      ·rw [HPT.out]
       have hl:w.heap.size + 1 < gn + 1:=by omega
       refine LoopsR.mono (base:=gn + 1) ?_ (by omega)
       exact (((((((HLP.out.other hl _).other hl _).other hl _).other hl _).other hl _).other hl _).other hl _).other hl _
      ·exact ((((((((HPW.out _ HBF.out).2.2.setCell (by simp) _).setCell (by simp) _).setCell (by simp) _).setCell (by simp) _).setCell (by simp) _).setCell (by simp) _).setCell (by simp) _).setCell (by simp) _
 ·have hno:∀ x:Int,¬ CheckIs f (x,0):=fun x hx => hst (strict_of hx).2
  have HNG:Hid (∀ o,StrictM f o → False):=fun o h => hst ⟨o,h⟩
  have HNO:=hideI hno
  clear hst hno
  go_enter Tryz.func172,Tryz.ntmps172
  go_upto_region 1 with fail
  rw [← HW0.out]
  go_wp2_with (first
   | (go_at_call 210;go_loud (refine HLF.out.mono ?_;rintro e w1 (⟨x1,y1,hci,hy1,rfl,hb1⟩ | ⟨o,pl,par,D,L,gp,vs,gi,gl,hk,_⟩);rotate_left;(exact (HNG.out o hk.strict).elim);have hy:(y1 != 0)=true:=(by rw [bne_iff_ne];exact hy1);have HCI:=hideI hci;have HY:=hideI hy1;have HB1:=hideI hb1;have HBX:Hid (Below W0.heap.size W0 (w1.alloc (.cells #[.slice none 0 0,.int .i64 0,.int .i64 0,.slice none 0 0,.slice none 0 0,.slice none 0 0,.slice none 0 0] 224))):=hb1.alloc hb1.size _;obtain ⟨q1,q2,q3⟩:=G0.out _ HBX.out;clear b0 b1 b2 b3;have s0:=q2 0;have s1:=q2 1;have s2:=q2 2;have s3:=q2 3;have s4:=q2 4;have s5:=q2 5;have s6:=q2 6;have s7:=q2 7;have g0:=q3 0;have g1:=q3 1;have g2:=q3 2;have g3:=q3 3;have g4:=q3 4;have g5:=q3 5;have g6:=q3 6;have g7:=q3 7;clear q1 q2 q3 hb1 hci hy1)))
  refine bodyPost_ret (v:=.tuple #[.agg #[.slice none 0 0,.int .i64 0,.int .i64 0,.slice none 0 0,.slice none 0 0,.slice none 0 0,.slice none 0 0,.slice none 0 0],.int .i64 y1]) (by simp [results,Tryz.results172,go_sem,s0,s1,s2,s3,s4,s5,s6,s7]) rfl (.inl ⟨x1,y1,HCI.out,HY.out,rfl,?_⟩)
  exact ((((((((HPW.out _ HBX.out).2.2.setCell (by simp) _).setCell (by simp) _).setCell (by simp) _).setCell (by simp) _).setCell (by simp) _).setCell (by simp) _).setCell (by simp) _).setCell (by simp) _
end Go.Proofs.YtikogmpibkefdaaGreat

namespace Go.Proofs.YtikogmpibkefdaaGreat
open Go.RowKit Go.Maps
def ForestPost (f:FuncM) (w:World) (e:Ending) (w':World):Prop :=
 (∃ x y:Int,CheckIs f (x,y) ∧ y ≠ 0 ∧ e=.returned (.tuple #[.slice none 0 0,.int .i64 y]) ∧ Below w.heap.size w w') ∨
 (∃ (o:List Nat) (pl:Nat → Nat) (par:Nat → Option Nat) (D L:Nat → Nat → Bool) (lv:Value),LoopsOf f o pl par D L ∧ e=.returned (.tuple #[lv,.int .i64 0]) ∧ LoopsR w' w.heap.size lv (loopsM f.blocks D L) ∧ Below w.heap.size w w')
set_option maxRecDepth 100000 in
set_option maxHeartbeats 2000000 in
theorem lForest_any (f:FuncM) (B:Nat) (pv bv:Value) (w:World) (hpv:Ints w B pv f.params) (hbv:BlocksR w B bv f.blocks) (hB:B ≤ w.heap.size) (hid:∀ u ∈ usesM f,I64 u.1) :
  Calls Tryz.prog 110 #[.agg #[pv,.int .i64 f.arrays,.int .i64 f.cells,bv]] w (ForestPost f w):=by
 have HP:=hideI hpv
 have HBL:=hideI hbv
 have HID:=hideI hid
 obtain ⟨P,pc,rfl,_⟩:=hpv
 obtain ⟨A,c,rfl,hbm,_⟩:=hbv
 have HB0:Hid (Below w.heap.size w (w.alloc (.cells #[.slice P f.params.length pc,.int .i64 f.arrays,.int .i64 f.cells,.slice A f.blocks.length c] 25))):=(Below.refl _ w).alloc (Nat.le_refl _) _
 have HT:=hideI (lNest_any f B _ _ (w.alloc (.cells #[.slice P f.params.length pc,.int .i64 f.arrays,.int .i64 f.cells,.slice A f.blocks.length c] 25)) (HP.out.keeps (Keeps.of_below (HB0.out.mono hB))) (HBL.out.keeps (Keeps.of_below (HB0.out.mono hB))) (by simp;omega) HID.out)
 clear hid
 by_cases hst:∃ o,StrictM f o
 ·obtain ⟨o0,hst⟩:=hst
  have HST:=hideI hst
  clear hst
  go_enter Tryz.func110,Tryz.ntmps110
  go_wp2_with (go_at_call 172;go_must (refine HT.out.mono ?_);rintro e w1 (⟨x,y,hci,hy,_⟩ | ⟨o,pl,par,D,L,gp,vs,gi,gl,lv,hk,rfl,hlf,hlp,hb1⟩);(exact absurd (Prod.mk.inj (HST.out.check hci)).2 hy);(obtain ⟨Av,cv,rfl⟩:∃ A c,lv=.slice A (loopsM f.blocks D L).length c:=(by obtain ⟨cs,h1,_⟩:=hlp.ex;exact own_sl h1));have HK:=hideI hk;have HLP:=hideI hlp;have HB1:=hideI (HB0.out.trans (hb1.mono (by simp)));clear hk hlf hlp hb1)
  go_ret2
  exact .inr ⟨o,pl,par,D,L,_,HK.out,rfl,LoopsR.mono (HLP.out.kept ((Below.refl _ _).alloc (Nat.le_refl _) _)) (by simp;omega),HB1.out.alloc HB1.out.size _⟩
 ·have HNG:Hid (∀ o,StrictM f o → False):=fun o h => hst ⟨o,h⟩
  have HNO:Hid (∀ x:Int,¬ CheckIs f (x,0)):=fun x hx => hst (strict_of hx).2
  clear hst
  go_enter Tryz.func110,Tryz.ntmps110
  go_wp2_with (go_at_call 172;go_must (refine HT.out.mono ?_);rintro e w1 (⟨x1,y1,hci,hy1,rfl,hb1⟩ | ⟨o,pl,par,D,L,gp,vs,gi,gl,lv,hk,_⟩);rotate_left;(exact (HNG.out o hk.strict).elim);have hy:(y1 != 0)=true:=(by rw [bne_iff_ne];exact hy1);have HCI:=hideI hci;have HY:=hideI hy1;have HB1:=hideI (HB0.out.trans (hb1.mono (by simp)));clear hb1 hci hy1)
  go_ret2
  exact .inl ⟨x1,y1,HCI.out,HY.out,rfl,HB1.out.alloc HB1.out.size _⟩
end Go.Proofs.YtikogmpibkefdaaGreat

namespace Go.Proofs.YtikogmpibkefdaaGreat
open Go.RowKit Go.Maps
def awakeF:FuncM:=⟨[],0,0,[⟨[],[⟨1,0,[],5⟩],⟨3,0,[],0⟩⟩]⟩
theorem awake_look:lookM awakeF=(0,[(0,1)]):=by decide
theorem awake_reads (w W:World) (h0:W.heap[w.heap.size]?=some (.cells #[.int .i64 1,.int .i64 0,.slice none 0 0,.int .i64 5] 68 (0,0)))
  (h1:W.heap[w.heap.size + 1]?=some (.cells #[.slice none 0 0,.slice (some ⟨w.heap.size,0,none⟩) 1 1,.int .i64 3,.int .i64 0,.slice none 0 0,.int .i64 0] 59 (0,0))) :
  BlocksR W (w.heap.size + 2) (.slice (some ⟨w.heap.size + 1,0,none⟩) 1 1) awakeF.blocks:=by
 have c0:=row_cells h0 (rfl:W.heap[w.heap.size]?=W.heap[w.heap.size]?)
 have c1:=row_cells h1 (rfl:W.heap[w.heap.size + 1]?=W.heap[w.heap.size + 1]?)
 refine ⟨_,_,rfl,by decide,fun k q hk => ?_⟩
 have hq:k=0 ∧ q=⟨[],[⟨1,0,[],5⟩],⟨3,0,[],0⟩⟩:=by
  rcases k with _ | k
  ·simp [awakeF] at hk
   exact ⟨rfl,hk.symm⟩
  ·simp [awakeF] at hk
 obtain ⟨rfl,rfl⟩:=hq
 refine ⟨_,0,_,_,_,rfl,by omega,c1 _,c1 _,c1 _,c1 _,c1 _,c1 _,⟨none,0,rfl,by decide,fun k p hp => by simp at hp⟩,⟨_,_,rfl,by decide,fun k x hx => ?_⟩,Ints.nil _ _,by unfold I64;decide,by unfold I64;decide,by unfold I64;decide⟩
 have hx':k=0 ∧ x=⟨1,0,[],5⟩:=by
  rcases k with _ | k
  ·simp at hx
   exact ⟨rfl,hx.symm⟩
  ·simp at hx
 obtain ⟨rfl,rfl⟩:=hx'
 exact ⟨_,0,_,rfl,by omega,c0 _,c0 _,c0 _,c0 _,Ints.nil _ _,by unfold I64;decide,by unfold I64;decide,by unfold I64;decide⟩
end Go.Proofs.YtikogmpibkefdaaGreat

namespace Go.Proofs.YtikogmpibkefdaaGreat
open Go.RowKit Go.Maps
theorem awake_uses:∀ u ∈ usesM awakeF,I64 u.1:=by
 intro u hu
 simp [usesM,awakeF,usesBlock,usesInstr,usesTerm,takesS,shapeS] at hu
 subst hu
 unfold I64
 decide
def awakeMade (w:World):World:=(w.alloc (.cells #[.int .i64 1,.int .i64 0,.slice none 0 0,.int .i64 5] 68)).alloc (.cells #[.slice none 0 0,.slice (some ⟨w.heap.size,0,none⟩) 1 1,.int .i64 3,.int .i64 0,.slice none 0 0,.int .i64 0] 59)
theorem awakeMade_facts (w:World):BlocksR (awakeMade w) (w.heap.size + 2) (.slice (some ⟨w.heap.size + 1,0,none⟩) 1 1) awakeF.blocks ∧ (awakeMade w).heap.size=w.heap.size + 2 ∧ Below w.heap.size w (awakeMade w):=by
 have hsz:(awakeMade w).heap.size=w.heap.size + 2:=by unfold awakeMade;simp
 have hBl:Below w.heap.size w (awakeMade w):=by unfold awakeMade;exact (((Below.refl _ w).alloc (Nat.le_refl _) _).alloc (by simp) _)
 have h0:(awakeMade w).heap[w.heap.size]?=some (.cells #[.int .i64 1,.int .i64 0,.slice none 0 0,.int .i64 5] 68 (0,0)):=by
  unfold awakeMade
  rw [Below.heap_alloc _ _ _ (by simp)]
  exact heap_alloc_new w _
 have h1:(awakeMade w).heap[w.heap.size + 1]?=some (.cells #[.slice none 0 0,.slice (some ⟨w.heap.size,0,none⟩) 1 1,.int .i64 3,.int .i64 0,.slice none 0 0,.int .i64 0] 59 (0,0)):=by
  unfold awakeMade
  have:=heap_alloc_new (w.alloc (.cells #[.int .i64 1,.int .i64 0,.slice none 0 0,.int .i64 5] 68)) (.cells #[.slice none 0 0,.slice (some ⟨w.heap.size,0,none⟩) 1 1,.int .i64 3,.int .i64 0,.slice none 0 0,.int .i64 0] 59)
  simpa using this
 exact ⟨awake_reads w _ h0 h1,hsz,hBl⟩
theorem awake_orderIs:OrderIs awakeF.blocks [0]:=by
 refine ⟨[0],[],?_,rfl⟩
 have:succM awakeF.blocks 0=[]:=rfl
 rw [this]
 exact .nil _
end Go.Proofs.YtikogmpibkefdaaGreat

namespace Go.Proofs.YtikogmpibkefdaaGreat
open Go.RowKit Go.Maps
theorem awake_placed:placedM awakeF=[(0,(0,0))]:=by decide
theorem awake_checkIs:CheckIs awakeF (0,0):=by
 refine .inr ⟨congrArg Prod.fst awake_look,[0],awake_orderIs,.inr (.inr (.inr ⟨?_,?_,?_,rfl⟩))⟩
 ·intro b hb
  have:b=0:=by have:b < 1:=hb;omega
  subst this
  simp
 ·intro b hb q hq
  have:b=0:=by have:b < 1:=hb;omega
  subst this
  simp [awakeF] at hq
  subst hq
  rfl
 ·intro b hb q hq
  have:b=0:=by have:b < 1:=hb;omega
  subst this
  simp [awakeF] at hq
  subst hq
  refine ⟨fun p hp => by simp at hp,fun i x hx => ?_,fun _ => ?_⟩
  ·rcases i with _ | i
   ·simp at hx
    subst hx
    intro id hid
    simp at hid
   ·simp at hx
  ·intro m hm
   rw [awake_placed] at hm
   have:m=(0,0):=by
    have h2:Placed.last [(0,(0,0))] 0=some (0,0):=by decide
    exact (Option.some.inj (h2.symm.trans hm)).symm
   subst this
   exact .inl ⟨rfl,by simp⟩
end Go.Proofs.YtikogmpibkefdaaGreat

namespace Go.Proofs.YtikogmpibkefdaaGreat
open Go.RowKit Go.Maps
theorem loops_rising {bs:List BlockM} {D L:Nat → Nat → Bool} (hn:bs.length ≤ 512):Rising (loopsM bs D L):=parsTo_rising (lp0_rising _ _ _ _ hn)
theorem loops_len {bs:List BlockM} {D L:Nat → Nat → Bool}:(loopsM bs D L).length ≤ bs.length:=by
 unfold loopsM
 rw [parsTo_len]
 exact lp0_len _ _ _ _
theorem awake_loops {D L:Nat → Nat → Bool}:loopsM awakeF.blocks D L=[]:=by
 have h:lp0M awakeF.blocks D L awakeF.blocks.length=[]:=by
  unfold lp0M headsM latchesM
  rw [show awakeF.blocks.length=1 from rfl]
  rw [show List.range 1=[0] from rfl]
  have:predsTo awakeF.blocks 1 0=[]:=by decide
  simp [this]
 unfold loopsM
 rw [h]
 rfl
theorem awake_strict:∃ o,StrictM awakeF o:=(strict_of awake_checkIs).2
theorem awake_check9 {r:Int × Int} (h:CheckIs awakeF r):r=(0,0):=by
 obtain ⟨o,ho⟩:=awake_strict
 exact ho.check h
end Go.Proofs.YtikogmpibkefdaaGreat

namespace Go.Proofs.YtikogmpibkefdaaGreat
open Go.RowKit Go.Maps
structure LpIs (bs:List BlockM) (D L:Nat → Nat → Bool) (i:Nat) (x:LpM):Prop where
 at_:(headsM bs D bs.length)[i]?=some x.head
 blocks:x.blocks=blocksM bs.length L x.head
 latches:x.latches=latchesM bs D x.head
 exits:x.exits=exitsM bs L x.head
 parent:x.parent=arM (lp0M bs D L bs.length) i (lp0M bs D L bs.length).length
section
variable {bs:List BlockM} {o:List Nat} {pl:Nat → Nat} {par:Nat → Option Nat} {D L:Nat → Nat → Bool} {i:Nat} {x:LpM}
theorem lp0_at {x:LpM} (h:(lp0M bs D L bs.length)[i]?=some x):(headsM bs D bs.length)[i]?=some x.head ∧ x=lpOf bs D L x.head:=by
 unfold lp0M at h
 rw [List.getElem?_map] at h
 cases e:(headsM bs D bs.length)[i]? with
 | none => rw [e] at h;cases h
 | some y =>
  rw [e] at h
  cases h
  exact ⟨rfl,rfl⟩
theorem loops_at (h:(loopsM bs D L)[i]?=some x):LpIs bs D L i x:=by
 have hl:=(List.getElem?_eq_some_iff.1 h).1
 unfold loopsM at h hl
 rw [parsTo_len] at hl
 rw [parsTo_at hl,if_pos hl] at h
 obtain ⟨y,hy⟩:∃ y,(lp0M bs D L bs.length)[i]?=some y:=⟨_,List.getElem?_eq_getElem hl⟩
 rw [getD_some hy] at h
 cases h
 obtain ⟨h1,h2⟩:=lp0_at hy
 obtain ⟨hd,hhd⟩:∃ hd,hd=y.head:=⟨_,rfl⟩
 rw [← hhd] at h2 h1
 subst h2
 exact ⟨h1,rfl,rfl,rfl,rfl⟩
theorem LpIs.head_lt (X:LpIs bs D L i x):x.head < bs.length:=(mem_heads.1 (List.mem_of_getElem? X.at_)).1
theorem heads_rise (bs:List BlockM) (D:Nat → Nat → Bool) (n:Nat):(headsM bs D n).Pairwise (· < ·):=by
 unfold headsM
 exact List.Pairwise.filter _ List.pairwise_lt_range
end
end Go.Proofs.YtikogmpibkefdaaGreat

namespace Go.Proofs.YtikogmpibkefdaaGreat
open Go.RowKit Go.Maps
def entriesM (bs:List BlockM) (x:LpM):List Nat:=(predsTo bs bs.length x.head).filter fun p => !decide (p ∈ x.blocks)
def jumpB (bs:List BlockM) (p:Nat):Bool:=match bs[p]? with
 | some q => q.term.op == 1
 | none => false
def sharedB (bs:List BlockM) (x:LpM) (e:Nat):Bool:=(predsTo bs bs.length e).any fun p => !decide (p ∈ x.blocks)
def plainB (bs:List BlockM) (x:LpM):Bool :=
 (match entriesM bs x with | [p] => jumpB bs p | _ => false) && x.latches.length == 1 && !(x.exits.any (sharedB bs x))
def firstM (bs:List BlockM) (ls:List LpM) (r:Int):Prop :=
 (r=-1 ∧ ∀ x ∈ ls,plainB bs x=true) ∨ ∃ (k:Nat) (x:LpM),r=k ∧ ls[k]?=some x ∧ plainB bs x=false ∧ ∀ j y,j < k → ls[j]?=some y → plainB bs y=true
theorem plain_no {bs:List BlockM} {x:LpM} (h:(entriesM bs x).length ≠ 1):plainB bs x=false:=by
 unfold plainB
 split
 ·rename_i p e;rw [e] at h;exact absurd rfl h
 ·simp
theorem plain_one {bs:List BlockM} {x:LpM} {p:Nat} (h:entriesM bs x=[p]):plainB bs x=(jumpB bs p && x.latches.length == 1 && !(x.exits.any (sharedB bs x))):=by
 unfold plainB
 rw [h]
end Go.Proofs.YtikogmpibkefdaaGreat

namespace Go.Proofs.YtikogmpibkefdaaGreat
open Go.RowKit Go.Maps
structure NestBox (w:World) (lo q gp:Nat) (vs:List Value) (bs:List BlockM):Prop where
 ex:∃ p0 p1 p2 bv lv,w.heap[q]?=some (.cells #[p0,p1,p2,bv,lv,.slice (some ⟨gp,0,none⟩) bs.length bs.length] 107 (0,0))
 preds:Lists w lo gp bs.length vs (predsAt bs bs.length bs.length 0)
theorem preds_list {w:World} {lo gp b:Nat} {vs:List Value} {bs:List BlockM} (h:Lists w lo gp bs.length vs (predsAt bs bs.length bs.length 0)) (hb:b < bs.length) (hn5:bs.length ≤ 512) :
  ∃ v,w.cell? ⟨gp,b,none⟩=some v ∧ gp < w.heap.size ∧ Ints w w.heap.size v ((predsTo bs bs.length b).map fun (x:Nat) => (x:Int)):=by
 obtain ⟨v,hv⟩:∃ v,vs[b]?=some v:=⟨_,List.getElem?_eq_getElem (by rw [h.vl];exact hb)⟩
 have hl:(predsAt bs bs.length bs.length 0)[b]?=some (predsTo bs bs.length b):=by rw [predsAt_at hb];simp
 refine ⟨v,?_,h.lt.2,nat_ints (h.own b v _ hv hl) (by have:=predsTo_len bs bs.length b;omega)⟩
 rw [World.ownsRow.cellAt h.row b (by omega),hv]
set_option maxRecDepth 100000 in
set_option maxHeartbeats 4000000 in
theorem cShared_any (bs:List BlockM) (x:LpM) (lo q r ql gp b:Nat) (vs:List Value) (w:World) (hN:NestBox w lo q gp vs bs) (hL:LpBox w ql x) (hr:x.blocks.Pairwise (· < ·)) (hl:x.blocks.length ≤ 512) (hn5:bs.length ≤ 512) (hbn:b < bs.length)
  (hR:w.heap[r]?=some (.cells #[.func (.func 113) #[] #[.pointer (some ⟨ql,0,none⟩)]] 177 (0,0))) :
  Calls Tryz.prog 115 #[.int .i64 (b:Int),.pointer (some ⟨q,0,none⟩),.pointer (some ⟨r,0,none⟩)] w fun e w' => e=.returned (.bool (sharedB bs x b)) ∧ Below w.heap.size w w':=by
 obtain ⟨v,hv1,hgp,hv2⟩:=preds_list hN.preds hbn hn5
 obtain ⟨p0,p1,p2,bv,lv,hq⟩:=hN.ex
 have hLd:LpBox w.drew ql x:=⟨hL.ex⟩
 have hv2d:Ints w.drew w.drew.heap.size v ((predsTo bs bs.length b).map fun (x:Nat) => (x:Int)):=hv2
 have h0:=hasOut_any (predsTo bs bs.length b) w.drew.heap.size ql v _ w.drew hv2d (Nat.le_refl _) (givesOut _ hLd hr hl (Nat.le_refl _))
 have HC:Hid (Calls Tryz.prog 116 #[v,.func (.func 113) #[] #[.pointer (some ⟨ql,0,none⟩)]] w.drew fun e w' => e=.returned (.bool (sharedB bs x b)) ∧ Below w.drew.heap.size w.drew w'):=h0
 have hql:=lt_of_heap hq
 have hrl:=lt_of_heap hR
 have HS:Hid (∀ W,Below w.heap.size w W → W.cell? ⟨q,5,none⟩=some (.slice (some ⟨gp,0,none⟩) bs.length bs.length) ∧ W.cell? ⟨gp,b,none⟩=some v ∧ W.cell? ⟨r,0,none⟩=some (.func (.func 113) #[] #[.pointer (some ⟨ql,0,none⟩)])):=fun W hW => by
  have hx1:=row_cells hq (hW.block q hql)
  have hx2:=row_cells hR (hW.block r hrl)
  exact ⟨hx1 5,(hW.cell (p:=⟨gp,b,none⟩) hgp).trans hv1,hx2 0⟩
 have hS0:=HS.out w (Below.refl _ _)
 clear hN hL hR hq hv1 hv2 hv2d hLd h0 hr hl
 go_enter Tryz.func115,Tryz.ntmps115
 go_upto_region 1 with fail
 refine wp_region_late (by kernel_rfl) (fun W => W.cell? ⟨q,5,none⟩=some (.slice (some ⟨gp,0,none⟩) bs.length bs.length) ∧ W.cell? ⟨gp,b,none⟩=some v ∧ W.cell? ⟨r,0,none⟩=some (.func (.func 113) #[] #[.pointer (some ⟨ql,0,none⟩)])) [] ?_
 refine wpAnyT_quiet (i:=0) (v:=?_) rfl (by kernel_rfl) (by kernel_rfl) (by kernel_rfl) (fun _ _ _ h => h) (Or.inl ⟨by rfl,?_⟩) ?_
 rotate_left
 ·(intro w;go_simp;try with_reducible rfl)
 try simp only [Act.put,List.setIfInBounds_toArray,List.set_cons_zero,List.set_cons_succ]
 refine wpAnyT_take [] (i:=1) (v:=?_) rfl (by kernel_rfl) (by kernel_rfl) (by kernel_rfl) (by kernel_rfl) (by kernel_rfl) (by kernel_rfl) (fun _ _ _ h => h) hS0 (Or.inl ⟨by rfl,?_⟩) ?_
 rotate_left
 ·(intro w hSw;go_split_ands;go_simp;try with_reducible rfl)
 try simp only [Act.put,List.setIfInBounds_toArray,List.set_cons_zero,List.set_cons_succ]
 refine wpAnyT_quiet (i:=2) (v:=?_) rfl (by kernel_rfl) (by kernel_rfl) (by kernel_rfl) (fun _ _ _ h => h) (Or.inl ⟨by rfl,?_⟩) ?_
 rotate_left
 ·(intro w;go_simp;try with_reducible rfl)
 try simp only [Act.put,List.setIfInBounds_toArray,List.set_cons_zero,List.set_cons_succ]
 refine wpAnyT_quiet (i:=3) (v:=?_) rfl (by kernel_rfl) (by kernel_rfl) (by kernel_rfl) (fun _ _ _ h => h) (Or.inl ⟨by rfl,?_⟩) ?_
 rotate_left
 ·(intro w;go_simp;try with_reducible rfl)
 try simp only [Act.put,List.setIfInBounds_toArray,List.set_cons_zero,List.set_cons_succ]
 refine wpAnyT_take [] (i:=4) (v:=?_) rfl (by kernel_rfl) (by kernel_rfl) (by kernel_rfl) (by kernel_rfl) (by kernel_rfl) (by kernel_rfl) (fun _ _ _ h => h) hS0 (Or.inl ⟨by rfl,?_⟩) ?_
 rotate_left
 ·(intro w hSw;go_split_ands;go_simp;try with_reducible rfl)
 try simp only [Act.put,List.setIfInBounds_toArray,List.set_cons_zero,List.set_cons_succ]
 refine wpAnyT_take [] (i:=5) (v:=?_) rfl (by kernel_rfl) (by kernel_rfl) (by kernel_rfl) (by kernel_rfl) (by kernel_rfl) (by kernel_rfl) (fun _ _ _ h => h) hS0 (Or.inl ⟨by rfl,?_⟩) ?_
 rotate_left
 ·(intro w hSw;go_split_ands;go_simp;try with_reducible rfl)
 try simp only [Act.put,List.setIfInBounds_toArray,List.set_cons_zero,List.set_cons_succ]
 refine wpAnyT_ready (rs:=[6]) (by kernel_rfl) (by simp) ?_
 refine AllReadyT.cons rfl (fun K hK => ?_) ?_
 ·-- 6 the call
  go_simp
  refine HC.out.mono ?_
  rintro e w3 ⟨rfl,hb3d⟩
  have HB3:Hid (Below w.heap.size w w3):=hideI ⟨hb3d.os,hb3d.tape,hb3d.output,hb3d.size,hb3d.block⟩
  clear hb3d
  refine hK.out _ _ (fun _ _ => HS.out _ HB3.out) ?_
  clear hK K
  try simp only [Act.put,List.setIfInBounds_toArray,List.set_cons_zero,List.set_cons_succ]
  refine wpAnyT_quiet (i:=7) (v:=?_) rfl (by kernel_rfl) (by kernel_rfl) (by kernel_rfl) (fun _ _ _ h => h) (Or.inl ⟨by rfl,?_⟩) ?_
  rotate_left
  ·(intro w;go_simp;try with_reducible rfl)
  try simp only [Act.put,List.setIfInBounds_toArray,List.set_cons_zero,List.set_cons_succ]
  refine wpAnyT_done (by kernel_rfl) ?_ _
  go_wp2_with fail
  go_ret
  exact ⟨rfl,HB3.out⟩
 ·exact AllReadyT.nil
end Go.Proofs.YtikogmpibkefdaaGreat

namespace Go.Proofs.YtikogmpibkefdaaGreat
open Go.RowKit Go.Maps
section
variable {w:World} {sa:Nat} {u0 u1 u2 u3 u4 u5 u6 u7 u8 u9 u10 u11:Value}
theorem fill_row (h:w.heap[sa]?=some (.cells #[.slice none 0 0,.int .i64 0,.int .i64 0,.slice none 0 0,.slice none 0 0,.slice none 0 0,.slice none 0 0,.int .i64 0,.int .i64 0,.slice none 0 0,.int .i64 0,.slice none 0 0] 184 (0,0))):((((((((((((w.setCell ⟨sa,0,none⟩ u0).setCell ⟨sa,1,none⟩ u1).setCell ⟨sa,2,none⟩ u2).setCell ⟨sa,3,none⟩ u3).setCell ⟨sa,4,none⟩ u4).setCell ⟨sa,5,none⟩ u5).setCell ⟨sa,6,none⟩ u6).setCell ⟨sa,7,none⟩ u7).setCell ⟨sa,8,none⟩ u8).setCell ⟨sa,9,none⟩ u9).setCell ⟨sa,10,none⟩ u10).setCell ⟨sa,11,none⟩ u11).heap[sa]?=some (.cells #[u0,u1,u2,u3,u4,u5,u6,u7,u8,u9,u10,u11] 184 (0,0)):=by
 have h0:(w.setCell ⟨sa,0,none⟩ u0).heap[sa]?=some (.cells #[u0,.int .i64 0,.int .i64 0,.slice none 0 0,.slice none 0 0,.slice none 0 0,.slice none 0 0,.int .i64 0,.int .i64 0,.slice none 0 0,.int .i64 0,.slice none 0 0] 184 (0,0)):=by
  have e:=heap_setCell_same _ sa 0 _ _ u0 h
  simpa using e
 have h1:((w.setCell ⟨sa,0,none⟩ u0).setCell ⟨sa,1,none⟩ u1).heap[sa]?=some (.cells #[u0,u1,.int .i64 0,.slice none 0 0,.slice none 0 0,.slice none 0 0,.slice none 0 0,.int .i64 0,.int .i64 0,.slice none 0 0,.int .i64 0,.slice none 0 0] 184 (0,0)):=by
  have e:=heap_setCell_same _ sa 1 _ _ u1 h0
  simpa using e
 have h2:(((w.setCell ⟨sa,0,none⟩ u0).setCell ⟨sa,1,none⟩ u1).setCell ⟨sa,2,none⟩ u2).heap[sa]?=some (.cells #[u0,u1,u2,.slice none 0 0,.slice none 0 0,.slice none 0 0,.slice none 0 0,.int .i64 0,.int .i64 0,.slice none 0 0,.int .i64 0,.slice none 0 0] 184 (0,0)):=by
  have e:=heap_setCell_same _ sa 2 _ _ u2 h1
  simpa using e
 have h3:((((w.setCell ⟨sa,0,none⟩ u0).setCell ⟨sa,1,none⟩ u1).setCell ⟨sa,2,none⟩ u2).setCell ⟨sa,3,none⟩ u3).heap[sa]?=some (.cells #[u0,u1,u2,u3,.slice none 0 0,.slice none 0 0,.slice none 0 0,.int .i64 0,.int .i64 0,.slice none 0 0,.int .i64 0,.slice none 0 0] 184 (0,0)):=by
  have e:=heap_setCell_same _ sa 3 _ _ u3 h2
  simpa using e
 have h4:(((((w.setCell ⟨sa,0,none⟩ u0).setCell ⟨sa,1,none⟩ u1).setCell ⟨sa,2,none⟩ u2).setCell ⟨sa,3,none⟩ u3).setCell ⟨sa,4,none⟩ u4).heap[sa]?=some (.cells #[u0,u1,u2,u3,u4,.slice none 0 0,.slice none 0 0,.int .i64 0,.int .i64 0,.slice none 0 0,.int .i64 0,.slice none 0 0] 184 (0,0)):=by
  have e:=heap_setCell_same _ sa 4 _ _ u4 h3
  simpa using e
 have h5:((((((w.setCell ⟨sa,0,none⟩ u0).setCell ⟨sa,1,none⟩ u1).setCell ⟨sa,2,none⟩ u2).setCell ⟨sa,3,none⟩ u3).setCell ⟨sa,4,none⟩ u4).setCell ⟨sa,5,none⟩ u5).heap[sa]?=some (.cells #[u0,u1,u2,u3,u4,u5,.slice none 0 0,.int .i64 0,.int .i64 0,.slice none 0 0,.int .i64 0,.slice none 0 0] 184 (0,0)):=by
  have e:=heap_setCell_same _ sa 5 _ _ u5 h4
  simpa using e
 have h6:(((((((w.setCell ⟨sa,0,none⟩ u0).setCell ⟨sa,1,none⟩ u1).setCell ⟨sa,2,none⟩ u2).setCell ⟨sa,3,none⟩ u3).setCell ⟨sa,4,none⟩ u4).setCell ⟨sa,5,none⟩ u5).setCell ⟨sa,6,none⟩ u6).heap[sa]?=some (.cells #[u0,u1,u2,u3,u4,u5,u6,.int .i64 0,.int .i64 0,.slice none 0 0,.int .i64 0,.slice none 0 0] 184 (0,0)):=by
  have e:=heap_setCell_same _ sa 6 _ _ u6 h5
  simpa using e
 have h7:((((((((w.setCell ⟨sa,0,none⟩ u0).setCell ⟨sa,1,none⟩ u1).setCell ⟨sa,2,none⟩ u2).setCell ⟨sa,3,none⟩ u3).setCell ⟨sa,4,none⟩ u4).setCell ⟨sa,5,none⟩ u5).setCell ⟨sa,6,none⟩ u6).setCell ⟨sa,7,none⟩ u7).heap[sa]?=some (.cells #[u0,u1,u2,u3,u4,u5,u6,u7,.int .i64 0,.slice none 0 0,.int .i64 0,.slice none 0 0] 184 (0,0)):=by
  have e:=heap_setCell_same _ sa 7 _ _ u7 h6
  simpa using e
 have h8:(((((((((w.setCell ⟨sa,0,none⟩ u0).setCell ⟨sa,1,none⟩ u1).setCell ⟨sa,2,none⟩ u2).setCell ⟨sa,3,none⟩ u3).setCell ⟨sa,4,none⟩ u4).setCell ⟨sa,5,none⟩ u5).setCell ⟨sa,6,none⟩ u6).setCell ⟨sa,7,none⟩ u7).setCell ⟨sa,8,none⟩ u8).heap[sa]?=some (.cells #[u0,u1,u2,u3,u4,u5,u6,u7,u8,.slice none 0 0,.int .i64 0,.slice none 0 0] 184 (0,0)):=by
  have e:=heap_setCell_same _ sa 8 _ _ u8 h7
  simpa using e
 have h9:((((((((((w.setCell ⟨sa,0,none⟩ u0).setCell ⟨sa,1,none⟩ u1).setCell ⟨sa,2,none⟩ u2).setCell ⟨sa,3,none⟩ u3).setCell ⟨sa,4,none⟩ u4).setCell ⟨sa,5,none⟩ u5).setCell ⟨sa,6,none⟩ u6).setCell ⟨sa,7,none⟩ u7).setCell ⟨sa,8,none⟩ u8).setCell ⟨sa,9,none⟩ u9).heap[sa]?=some (.cells #[u0,u1,u2,u3,u4,u5,u6,u7,u8,u9,.int .i64 0,.slice none 0 0] 184 (0,0)):=by
  have e:=heap_setCell_same _ sa 9 _ _ u9 h8
  simpa using e
 have h10:(((((((((((w.setCell ⟨sa,0,none⟩ u0).setCell ⟨sa,1,none⟩ u1).setCell ⟨sa,2,none⟩ u2).setCell ⟨sa,3,none⟩ u3).setCell ⟨sa,4,none⟩ u4).setCell ⟨sa,5,none⟩ u5).setCell ⟨sa,6,none⟩ u6).setCell ⟨sa,7,none⟩ u7).setCell ⟨sa,8,none⟩ u8).setCell ⟨sa,9,none⟩ u9).setCell ⟨sa,10,none⟩ u10).heap[sa]?=some (.cells #[u0,u1,u2,u3,u4,u5,u6,u7,u8,u9,u10,.slice none 0 0] 184 (0,0)):=by
  have e:=heap_setCell_same _ sa 10 _ _ u10 h9
  simpa using e
 have h11:((((((((((((w.setCell ⟨sa,0,none⟩ u0).setCell ⟨sa,1,none⟩ u1).setCell ⟨sa,2,none⟩ u2).setCell ⟨sa,3,none⟩ u3).setCell ⟨sa,4,none⟩ u4).setCell ⟨sa,5,none⟩ u5).setCell ⟨sa,6,none⟩ u6).setCell ⟨sa,7,none⟩ u7).setCell ⟨sa,8,none⟩ u8).setCell ⟨sa,9,none⟩ u9).setCell ⟨sa,10,none⟩ u10).setCell ⟨sa,11,none⟩ u11).heap[sa]?=some (.cells #[u0,u1,u2,u3,u4,u5,u6,u7,u8,u9,u10,u11] 184 (0,0)):=by
  have e:=heap_setCell_same _ sa 11 _ _ u11 h10
  simpa using e
 exact h11
theorem fill_own {base:Nat} {f:FuncM} {v1:Vals} (h:OwnG w base (rowOf f v1) v1 (EE f f.blocks.length)) (hno:∀ t,EE f f.blocks.length t → (v1 t).ownBlock ≠ some sa):OwnG ((((((((((((w.setCell ⟨sa,0,none⟩ u0).setCell ⟨sa,1,none⟩ u1).setCell ⟨sa,2,none⟩ u2).setCell ⟨sa,3,none⟩ u3).setCell ⟨sa,4,none⟩ u4).setCell ⟨sa,5,none⟩ u5).setCell ⟨sa,6,none⟩ u6).setCell ⟨sa,7,none⟩ u7).setCell ⟨sa,8,none⟩ u8).setCell ⟨sa,9,none⟩ u9).setCell ⟨sa,10,none⟩ u10).setCell ⟨sa,11,none⟩ u11) base (rowOf f v1) v1 (EE f f.blocks.length) :=
 (OwnG.other (OwnG.other (OwnG.other (OwnG.other (OwnG.other (OwnG.other (OwnG.other (OwnG.other (OwnG.other (OwnG.other (OwnG.other (OwnG.other h hno) hno) hno) hno) hno) hno) hno) hno) hno) hno) hno) hno)
theorem fill_below {B:Nat} {a:World} (h:Below B a w) (hsa:B ≤ sa):Below B a ((((((((((((w.setCell ⟨sa,0,none⟩ u0).setCell ⟨sa,1,none⟩ u1).setCell ⟨sa,2,none⟩ u2).setCell ⟨sa,3,none⟩ u3).setCell ⟨sa,4,none⟩ u4).setCell ⟨sa,5,none⟩ u5).setCell ⟨sa,6,none⟩ u6).setCell ⟨sa,7,none⟩ u7).setCell ⟨sa,8,none⟩ u8).setCell ⟨sa,9,none⟩ u9).setCell ⟨sa,10,none⟩ u10).setCell ⟨sa,11,none⟩ u11) :=
 (Below.setCell (Below.setCell (Below.setCell (Below.setCell (Below.setCell (Below.setCell (Below.setCell (Below.setCell (Below.setCell (Below.setCell (Below.setCell (Below.setCell h hsa _) hsa _) hsa _) hsa _) hsa _) hsa _) hsa _) hsa _) hsa _) hsa _) hsa _) hsa _)
end
end Go.Proofs.YtikogmpibkefdaaGreat
