/- What EditBackUpto rests on, part 2: Instr, Term, Block, Size, Params, Formed, Frame, EachC, Uses. -/
import Derived.Test.YtaehbgppfahdeaaGreatPkEditBackUpto1

namespace Go.Proofs.YtaehbgppfahdeaaGreat
open Go.RowKit Go.Maps
theorem instrStep_no {f:FuncM} {ds:Defs} {x:InstrM} (h:instrB f x=false):instrStep f ds x=none:=by
 unfold instrStep
 rw [h]
 rfl
theorem instrStep_none {f:FuncM} {ds:Defs} {x:InstrM} (h:instrB f x=true) (hm:makesS x.op=0):instrStep f ds x=if x.id=-1 then some ds else none:=by
 unfold instrStep
 rw [h,if_pos rfl,if_pos hm]
theorem instrStep_ok {f:FuncM} {ds:Defs} {x:InstrM} (h:instrB f x=true) (hm:makesS x.op ≠ 0):instrStep f ds x=addDef f.params.length ds x.id (makesS x.op):=by
 unfold instrStep
 rw [h,if_pos rfl,if_neg hm]
theorem makesS_wf (op:Int):I64 (makesS op):=by
 rcases op_cases op with h | h | h
 ·rcases h with rfl | rfl | rfl | rfl | rfl | rfl | rfl | rfl | rfl | rfl | rfl | rfl | rfl <;> (unfold I64;decide)
 ·rcases h with rfl | rfl | rfl | rfl | rfl | rfl | rfl | rfl | rfl | rfl | rfl | rfl <;> (unfold I64;decide)
 ·unfold makesS;rw [shapeS_none h];unfold I64;decide
theorem len_ne' {a b:Nat} (h:((a:Int) != b)=true):(a == b)=false:=beq_eq_false_iff_ne.2 fun e => by rw [e] at h;simp at h
theorem len_eq' {a b:Nat} (h:((a:Int) != b)=false):(a == b)=true:=beq_iff_eq.2 (by have:=bne_eq_false_iff_eq.1 h;omega)
theorem two_lt {w w1:World} {o o2:Obj} {B:Nat} (hb:Below B ((w.alloc o).alloc o2) w1):w.heap.size + 1 < w1.heap.size:=by
 have:=hb.size
 simp at this
 omega
theorem defines_end {M:Nat} {w w1:World} {r:Option Defs} {b:Bool} (hb:b=r.isSome) (hg:w.grownBy w1 (some M)) (h:∀ ds,r=some ds → MapIs w1 M ds):Defines r M w (.returned (.bool b)) w1:=by
 subst hb
 exact ⟨rfl,hg,h⟩
set_option maxHeartbeats 1000000 in
theorem instr_any (f:FuncM) (x:InstrM) (ds:Defs) (P A:Option Addr) (pc c M B:Nat) (av:Value) (w:World) (hav:Ints w B av x.args) (_hBM:B ≤ M) (hM:MapIs w M ds)
  (hn:ds.length < 100000) (hi:I64 x.id) (ha:0 ≤ f.arrays) (ha':f.arrays ≤ 8) (hc:0 ≤ f.cells) (hc':f.cells ≤ 64) :
  Calls Tryz.prog 203 #[.agg #[.slice P f.params.length pc,.int .i64 f.arrays,.int .i64 f.cells,.slice A f.blocks.length c,.map (some M)],.agg #[.int .i64 x.op,.int .i64 x.id,av,.int .i64 x.n]] w (Defines (instrStep f ds x) M w):=by
 have hMl:=hM.lt
 have HM:=hideI hM
 have HI:=hideI hi
 obtain ⟨AA,ac,hvv,hvm,_⟩:=hav
 subst hvv
 clear hM hi
 cases c1:isOp x.op
 ·have HC:=hideI c1
  go_enter Tryz.func203,Tryz.ntmps203
  go_wp2_with (go_at_call 140;refine (irArgs_any _ _).mono ?_;rintro e w1 ⟨v,rfl,hv1,hb1⟩;obtain ⟨TA,tc,rfl,_⟩:=hv1;obtain ⟨hcl,hfl⟩:=bcell hb1;have hz1:=two_lt hb1;have hz0:=Nat.lt_of_succ_lt hz1;have HB1:=hideI hb1;clear hb1)
  go_ret
  exact defines_after (instrStep_no (by unfold instrB;rw [HC.out];rfl)) HB1.out
 have HC:=hideI c1
 cases c2:!((x.args.length:Int) != (takesS x.op).length)
 ·simp only [Bool.not_eq_false'] at c2
  have HC2:=hideI c2
  go_enter Tryz.func203,Tryz.ntmps203
  go_wp2_with (go_at_call 140;refine (irArgs_any _ _).mono ?_;rintro e w1 ⟨v,rfl,hv1,hb1⟩;obtain ⟨TA,tc,rfl,_⟩:=hv1;obtain ⟨hcl,hfl⟩:=bcell hb1;have hz1:=two_lt hb1;have hz0:=Nat.lt_of_succ_lt hz1;have HB1:=hideI hb1;clear hb1)
  go_ret
  exact defines_after (instrStep_no (by unfold instrB;rw [len_ne' HC2.out];simp)) HB1.out
 simp only [Bool.not_eq_true'] at c2
 have HC2:=hideI c2
 cases c3:fitsB f x.op x.n
 ·have HC3:=hideI c3
  go_enter Tryz.func203,Tryz.ntmps203
  go_wp2_with (first
   | (go_at_call 140;refine (irArgs_any _ _).mono ?_;rintro e w1 ⟨v,rfl,hv1,hb1⟩;obtain ⟨TA,tc,rfl,_⟩:=hv1;obtain ⟨hcl,hfl⟩:=bcell hb1;have hz1:=two_lt hb1;have hz0:=Nat.lt_of_succ_lt hz1;have HB1:=hideI hb1;clear hb1)
   | (go_at_call 230;refine (fitsN_any f _ _ _ _ _ _ ha ha' hc hc' HC.out).mono ?_;rintro e w2 ⟨rfl,hb2⟩;obtain ⟨hcl2,hfl2⟩:=bcell hb2;have HB2:=hideI hb2;clear hb2))
  go_ret
  exact defines_end (by rw [instrStep_no (by unfold instrB;rw [HC3.out];simp)];rfl) ((((World.grownBy_alloc _ _ _).trans_grown (World.grownBy_alloc _ _ _)).trans_grown (below_grown HB1.out rfl)).trans_grown (below_grown HB2.out rfl)) (by rw [instrStep_no (by unfold instrB;rw [HC3.out];simp)];simp)
 have HC3:=hideI c3
 have hB:instrB f x=true:=by unfold instrB;rw [HC.out,len_eq' HC2.out,HC3.out];rfl
 have HBB:=hideI hB
 clear hB
 cases c4:(makesS x.op == 0)
 ·have HC4:=hideI c4
  go_enter Tryz.func203,Tryz.ntmps203
  go_wp2_with (first
   | (go_at_call 140;refine (irArgs_any _ _).mono ?_;rintro e w1 ⟨v,rfl,hv1,hb1⟩;obtain ⟨TA,tc,rfl,_⟩:=hv1;obtain ⟨hcl,hfl⟩:=bcell hb1;have hz1:=two_lt hb1;have hz0:=Nat.lt_of_succ_lt hz1;have HB1:=hideI hb1;clear hb1)
   | (go_at_call 230;refine (fitsN_any f _ _ _ _ _ _ ha ha' hc hc' HC.out).mono ?_;rintro e w2 ⟨rfl,hb2⟩;obtain ⟨hcl2,hfl2⟩:=bcell hb2;have HB2:=hideI hb2;clear hb2)
   | (go_at_call 229;refine (define_any _ _ _ _ _ _ M ds _ _ _ ((((HM.out.alloc _).alloc _).below HB1.out (by simp;omega)).below HB2.out (by have:=HB1.out.size;simp at this;omega)) hn HI.out (makesS_wf _)).mono ?_;rintro e w3 ⟨rfl,hg3,hm3⟩))
  go_ret
  have hne:makesS x.op ≠ 0:=by simpa using HC4.out
  rw [instrStep_ok HBB.out hne]
  exact ⟨rfl,((((World.grownBy_alloc _ _ _).trans_grown (World.grownBy_alloc _ _ _)).trans_grown (below_grown HB1.out rfl)).trans_grown (below_grown HB2.out rfl)).trans_grown hg3,hm3⟩
 ·have HC4:=hideI c4
  go_enter Tryz.func203,Tryz.ntmps203
  go_wp2_with (first
   | (go_at_call 140;refine (irArgs_any _ _).mono ?_;rintro e w1 ⟨v,rfl,hv1,hb1⟩;obtain ⟨TA,tc,rfl,_⟩:=hv1;obtain ⟨hcl,hfl⟩:=bcell hb1;have hz1:=two_lt hb1;have hz0:=Nat.lt_of_succ_lt hz1;have HB1:=hideI hb1;clear hb1)
   | (go_at_call 230;refine (fitsN_any f _ _ _ _ _ _ ha ha' hc hc' HC.out).mono ?_;rintro e w2 ⟨rfl,hb2⟩;obtain ⟨hcl2,hfl2⟩:=bcell hb2;have HB2:=hideI hb2;clear hb2))
  go_ret
  have hz:makesS x.op=0:=by simpa using HC4.out
  have hm2:=(((HM.out.alloc (.cells #[.slice P f.params.length pc,.int .i64 f.arrays,.int .i64 f.cells,.slice A f.blocks.length c,.map (some M)] 129)).alloc (.cells #[.int .i64 x.op,.int .i64 x.id,.slice AA x.args.length ac,.int .i64 x.n] 68)).below HB1.out (by simp;omega)).below HB2.out (by omega)
  rw [instrStep_none HBB.out hz]
  refine defines_end ?_ ((((World.grownBy_alloc _ _ _).trans_grown (World.grownBy_alloc _ _ _)).trans_grown (below_grown HB1.out rfl)).trans_grown (below_grown HB2.out rfl)) ?_
  ·by_cases e:x.id=-1 <;> simp [e]
  ·intro ds' h
   by_cases e:x.id=-1
   ·rw [if_pos e] at h
    injection h with h
    subst h
    exact hm2
   ·rw [if_neg e] at h
    cases h
end Go.Proofs.YtaehbgppfahdeaaGreat

namespace Go.Proofs.YtaehbgppfahdeaaGreat
open Go.RowKit Go.Maps
theorem says_box2 {b b':Bool} {w w1:World} {o o2:Obj} (h:b=b') (hb:Below ((w.alloc o).alloc o2).heap.size ((w.alloc o).alloc o2) w1):Says b' w (.returned (.bool b)) w1:=by
 subst h
 exact ⟨rfl,((((Below.refl _ _).alloc (Nat.le_refl _) _).alloc (by simp) _)).trans (hb.mono (by simp;omega))⟩
theorem termB_no {f:FuncM} {t:TermM} (h:targetsB f.blocks.length t.to=false):termB f t=false:=by
 unfold termB
 rw [h]
 rfl
def endB (t:TermM):Bool :=
 if t.op=1 then t.to.length == 1 && (t.val == -1 && t.n == 0) else
 if t.op=2 then t.to.length == 2 && t.n == 0 else
 if t.op=3 then t.to.length == 0 && t.n == 0 else
 if t.op=4 then t.to.length == 0 && (t.val == -1 && decide (0 ≤ t.n)) else false
theorem termB_yes {f:FuncM} {t:TermM} (h:targetsB f.blocks.length t.to=true):termB f t=endB t:=by
 unfold termB
 rw [h]
 rfl
set_option maxHeartbeats 1000000 in
theorem term_any (f:FuncM) (t:TermM) (P A:Option Addr) (pc c:Nat) (mv tv:Value) (w:World) (htv:Ints w w.heap.size tv t.to) (h1:1 ≤ f.blocks.length) (h2:f.blocks.length ≤ 512) :
  Calls Tryz.prog 204 #[.agg #[.slice P f.params.length pc,.int .i64 f.arrays,.int .i64 f.cells,.slice A f.blocks.length c,mv],.agg #[.int .i64 t.op,.int .i64 t.val,tv,.int .i64 t.n]] w (Says (termB f t) w):=by
 have HV:=hideI htv
 obtain ⟨TA,tc,hvv,hvm,_⟩:=htv
 subst hvv
 cases c1:targetsB f.blocks.length t.to
 ·have HC:=hideI c1
  go_enter Tryz.func204,Tryz.ntmps204
  go_wp2_with (go_at_call 231;refine (areTargets_any _ _ _ _ _ _ _ _ _ _ (((HV.out.alloc (Nat.le_refl _) _).alloc (by simp) _).more (by simp;omega)) h1 h2).mono ?_;rintro e w1 ⟨rfl,hb1⟩;have HB1:=hideI hb1;obtain ⟨hcl,hfl⟩:=bcell hb1;clear hb1)
  go_ret
  exact says_box2 (termB_no HC.out).symm HB1.out
 have HC:=hideI c1
 rw [termB_yes c1]
 have hop:t.op=1 ∨ t.op=2 ∨ t.op=3 ∨ t.op=4 ∨ (t.op ≠ 1 ∧ t.op ≠ 2 ∧ t.op ≠ 3 ∧ t.op ≠ 4):=by omega
 obtain ⟨op,val,to,n⟩:=t
 simp only at *
 rcases hop with rfl | rfl | rfl | rfl | ⟨g1,g2,g3,g4⟩
 all_goals
  go_enter Tryz.func204,Tryz.ntmps204
  go_wp2_with (go_at_call 231;refine (areTargets_any _ _ _ _ _ _ _ _ _ _ (((HV.out.alloc (Nat.le_refl _) _).alloc (by simp) _).more (by simp;omega)) h1 h2).mono ?_;rintro e w1 ⟨rfl,hb1⟩;have HB1:=hideI hb1;obtain ⟨hcl,hfl⟩:=bcell hb1;clear hb1)
  all_goals
   go_ret
   refine says_box2 ?_ HB1.out
   rw [Bool.eq_iff_iff]
   simp [endB, *]
   try omega
end Go.Proofs.YtaehbgppfahdeaaGreat

namespace Go.Proofs.YtaehbgppfahdeaaGreat
open Go.RowKit Go.Maps
theorem phis_drop (f:FuncM) (d:Defs) (l:List PhiM) (k:Nat) (p:PhiM) (h:l[k]?=some p):phisStep f d (l.drop k)=(phiStep f d p).bind fun d' => phisStep f d' (l.drop (k + 1)):=by
 obtain ⟨hk,rfl⟩:=List.getElem?_eq_some_iff.1 h
 rw [List.drop_eq_getElem_cons hk]
 rfl
theorem code_drop (f:FuncM) (d:Defs) (l:List InstrM) (k:Nat) (p:InstrM) (h:l[k]?=some p):codeStep f d (l.drop k)=(instrStep f d p).bind fun d' => codeStep f d' (l.drop (k + 1)):=by
 obtain ⟨hk,rfl⟩:=List.getElem?_eq_some_iff.1 h
 rw [List.drop_eq_getElem_cons hk]
 rfl
theorem addDef_len {np:Nat} {ds d:Defs} {id typ:Int} (h:addDef np ds id typ=some d):d.length=ds.length + 1:=by
 unfold addDef at h
 split at h
 ·injection h with h;subst h;simp
 ·cases h
theorem phiStep_len {f:FuncM} {ds d:Defs} {p:PhiM} (h:phiStep f ds p=some d):d.length=ds.length + 1:=by
 unfold phiStep at h
 split at h
 ·exact addDef_len h
 ·cases h
theorem instrStep_len {f:FuncM} {ds d:Defs} {p:InstrM} (h:instrStep f ds p=some d):d.length ≤ ds.length + 1:=by
 unfold instrStep at h
 split at h
 ·split at h
  ·split at h
   ·injection h with h;subst h;omega
   ·cases h
  ·have:=addDef_len h;omega
 ·cases h
theorem block_grown {w W0 wr w1:World} {o1 o2 o3:Obj} {M:Nat} (h0:W0=(w.alloc o1).alloc o2) (h:W0.grownBy wr (some M)) (h1:(wr.alloc o3).grownBy w1 (some M)):w.grownBy w1 (some M):=by
 subst h0
 exact ((((World.grownBy_alloc _ _ _).trans_grown (World.grownBy_alloc _ _ _)).trans_grown h).trans_grown (World.grownBy_alloc _ _ _)).trans_grown h1
set_option maxHeartbeats 1000000 in
theorem block_any (f:FuncM) (q:BlockM) (ds:Defs) (P A:Option Addr) (pc c M B:Nat) (pv cv tv:Value) (w:World) (hpv:PhisR w B pv q.phis) (hcv:CodeR w B cv q.code) (htv:Ints w B tv q.term.to)
  (hBM:B ≤ M) (hM:MapIs w M ds) (hn:ds.length + q.phis.length + q.code.length < 50000)
  (h1:1 ≤ f.blocks.length) (h2:f.blocks.length ≤ 512) (ha:0 ≤ f.arrays) (ha':f.arrays ≤ 8) (hc:0 ≤ f.cells) (hc':f.cells ≤ 64) :
  Calls Tryz.prog 160 #[.agg #[.slice P f.params.length pc,.int .i64 f.arrays,.int .i64 f.cells,.slice A f.blocks.length c,.map (some M)],.agg #[pv,cv,.int .i64 q.term.op,.int .i64 q.term.val,tv,.int .i64 q.term.n]] w (Defines (blockStep f ds q) M w):=by
 have hMl:=hM.lt
 have HM:=hideI hM
 have HP:=hideI hpv
 have HC:=hideI hcv
 have HT:=hideI htv
 obtain ⟨PA,pc2,hpe,hpm,hpx⟩:=hpv
 obtain ⟨CA,cc2,hce,hcm,hcx⟩:=hcv
 subst hpe hce
 have HPX:=hideI hpx
 have HCX:=hideI hcx
 clear hpx hcx hM htv
 go_enter Tryz.func160,Tryz.ntmps160
 go_wp2
 obtain ⟨W0,hW0⟩:∃ W0:World,W0=(w.alloc (.cells #[.slice P f.params.length pc,.int .i64 f.arrays,.int .i64 f.cells,.slice A f.blocks.length c,.map (some M)] 129)).alloc (.cells #[.slice PA q.phis.length pc2,.slice CA q.code.length cc2,.int .i64 q.term.op,.int .i64 q.term.val,tv,.int .i64 q.term.n] 62):=⟨_,rfl⟩
 rw [← hW0]
 have HW0:=hideI hW0
 clear hW0
 go_loopw [12] (fun i wr => ∃ (k:Nat) (d:Defs),k ≤ q.phis.length ∧ i=.int .i64 k ∧ phisStep f ds q.phis=phisStep f d (q.phis.drop k) ∧ d.length ≤ ds.length + k ∧ MapIs wr M d ∧ W0.grownBy wr (some M)) (fun i _ => q.phis.length - (intOf i).toNat)
 case atStart => exact ⟨0,ds,Nat.zero_le _,rfl,rfl,Nat.le_refl _,by rw [HW0.out];exact (HM.out.alloc _).alloc _,World.grownBy.refl W0 _⟩
 case round =>
  obtain ⟨k,d,hk,rfl,ht,hdl,hMd,hg⟩:=hrel
  have hg':=hg
  rw [HW0.out] at hg'
  obtain ⟨hx1,hx2,hz1⟩:=two_cells hg' hMl
  have hz0:=Nat.lt_of_succ_lt hz1
  have hks:Keeps B w wr:=(((Keeps.refl w).alloc (by omega) _).alloc (by simp;omega) _).trans (Keeps.of_grown hg' hBM (by simp;omega))
  have HK:=hideI hks
  have HG:=hideI hg
  have HD:=hideI hMd
  have HT':=hideI ht
  clear hg' hks hg hMd ht
  by_cases hlt:k < q.phis.length
  ·obtain ⟨p,hp⟩:∃ p,q.phis[k]?=some p:=⟨_,List.getElem?_eq_getElem hlt⟩
   obtain ⟨b,off,fv,vv,rfl,hb,e0,e1,e2,e3,hf,hv,hi,htt⟩:=HPX.out k p hp
   have c0:=(HK.out b (off + k * 4) hb).trans e0
   have c1:=(HK.out b (off + k * 4 + 1) hb).trans e1
   have c2:=(HK.out b (off + k * 4 + 2) hb).trans e2
   have c3:=(HK.out b (off + k * 4 + 3) hb).trans e3
   have HF:=hideI (hf.keeps HK.out)
   have HV:=hideI (hv.keeps HK.out)
   have HI:=hideI hi
   have HTY:=hideI htt
   have HPP:=hideI hp
   obtain ⟨FA,fc,hfe,_⟩:=hf
   obtain ⟨VA,vc,hve,_⟩:=hv
   subst hfe hve
   clear e0 e1 e2 e3 hp hi htt
   cases hs:phiStep f d p with
   | none =>
    have HS:=hideI hs
    go_wp2_with (go_at_call 202;refine (phi_any f p d _ _ _ _ M B _ _ _ (HF.out.alloc (by omega) _) (HV.out.alloc (by omega) _) hBM (HD.out.alloc _) (by omega) HI.out HTY.out h1 h2).mono ?_;rintro e w1 ⟨rfl,hg1,hm1⟩;rw [HS.out];have HG1:=hideI hg1;clear hg1 hm1)
    go_ret
    have hno:blockStep f ds q=none:=by
     unfold blockStep
     rw [HT'.out,phis_drop f d q.phis k p HPP.out,HS.out]
     rfl
    exact defines_end (by rw [hno];rfl) (block_grown HW0.out HG.out HG1.out) (by rw [hno];simp)
   | some d' =>
    have HS:=hideI hs
    go_wp2_with (go_at_call 202;refine (phi_any f p d _ _ _ _ M B _ _ _ (HF.out.alloc (by omega) _) (HV.out.alloc (by omega) _) hBM (HD.out.alloc _) (by omega) HI.out HTY.out h1 h2).mono ?_;rintro e w1 ⟨rfl,hg1,hm1⟩;rw [HS.out];have HG1:=hideI hg1;have HM1:=hideI hm1;clear hg1 hm1)
    go_roundw
    case rel => exact ⟨k + 1,d',by omega,by go_num,by rw [HT'.out,phis_drop f d q.phis k p HPP.out,HS.out];rfl,by have:=phiStep_len HS.out;omega,HM1.out d' HS.out,(HG.out.trans_grown (World.grownBy_alloc _ _ _)).trans_grown HG1.out⟩
    case measure => simp [intOf];omega
  ·have hke:phisStep f ds q.phis=some d:=by rw [HT'.out,List.drop_of_length_le (by omega)];rfl
   have HKE:=hideI hke
   have hdl2:d.length ≤ ds.length + q.phis.length:=by omega
   clear hke HPX
   go_wp2
   obtain ⟨wo,rfl⟩:∃ wo:World,wo=wr:=⟨_,rfl⟩
   clear hx1 hx2 hz0 hz1 HK HT'
   go_loopw [24] (fun i wr => ∃ (k:Nat) (d2:Defs),k ≤ q.code.length ∧ i=.int .i64 k ∧ codeStep f d q.code=codeStep f d2 (q.code.drop k) ∧ d2.length ≤ ds.length + q.phis.length + k ∧ MapIs wr M d2 ∧ W0.grownBy wr (some M)) (fun i _ => q.code.length - (intOf i).toNat)
   case atStart => exact ⟨0,d,Nat.zero_le _,rfl,rfl,by omega,HD.out,HG.out⟩
   case round =>
    obtain ⟨k2,d2,hk2,rfl,ht2,hdl3,hMd2,hg2⟩:=hrel
    have hg':=hg2
    rw [HW0.out] at hg'
    obtain ⟨hx1,hx2,hz1⟩:=two_cells hg' hMl
    have hz0:=Nat.lt_of_succ_lt hz1
    have hks:Keeps B w wr:=(((Keeps.refl w).alloc (by omega) _).alloc (by simp;omega) _).trans (Keeps.of_grown hg' hBM (by simp;omega))
    have HK:=hideI hks
    have HG2:=hideI hg2
    have HD2:=hideI hMd2
    have HT2:=hideI ht2
    clear hg' hks hg2 hMd2 ht2
    by_cases hlt:k2 < q.code.length
    ·obtain ⟨x,hp⟩:∃ x,q.code[k2]?=some x:=⟨_,List.getElem?_eq_getElem hlt⟩
     obtain ⟨b,off,av,rfl,hb,e0,e1,e2,e3,hf,_,hi,_⟩:=HCX.out k2 x hp
     have c0:=(HK.out b (off + k2 * 4) hb).trans e0
     have c1:=(HK.out b (off + k2 * 4 + 1) hb).trans e1
     have c2:=(HK.out b (off + k2 * 4 + 2) hb).trans e2
     have c3:=(HK.out b (off + k2 * 4 + 3) hb).trans e3
     have HF:=hideI (hf.keeps HK.out)
     have HI:=hideI hi
     have HPP:=hideI hp
     obtain ⟨FA,fc,hfe,_⟩:=hf
     subst hfe
     clear e0 e1 e2 e3 hp hi
     cases hs:instrStep f d2 x with
     | none =>
      have HS:=hideI hs
      go_wp2_with (go_at_call 203;refine (instr_any f x d2 _ _ _ _ M B _ _ (HF.out.alloc (by omega) _) hBM (HD2.out.alloc _) (by omega) HI.out ha ha' hc hc').mono ?_;rintro e w1 ⟨rfl,hg1,hm1⟩;rw [HS.out];have HG1:=hideI hg1;clear hg1 hm1)
      go_ret
      have hno:blockStep f ds q=none:=by
       unfold blockStep
       rw [HKE.out,Option.bind_some,HT2.out,code_drop f d2 q.code k2 x HPP.out,HS.out]
       rfl
      exact defines_end (by rw [hno];rfl) (block_grown HW0.out HG2.out HG1.out) (by rw [hno];simp)
     | some d' =>
      have HS:=hideI hs
      go_wp2_with (go_at_call 203;refine (instr_any f x d2 _ _ _ _ M B _ _ (HF.out.alloc (by omega) _) hBM (HD2.out.alloc _) (by omega) HI.out ha ha' hc hc').mono ?_;rintro e w1 ⟨rfl,hg1,hm1⟩;rw [HS.out];have HG1:=hideI hg1;have HM1:=hideI hm1;clear hg1 hm1)
      go_roundw
      case rel => exact ⟨k2 + 1,d',by omega,by go_num,by rw [HT2.out,code_drop f d2 q.code k2 x HPP.out,HS.out];rfl,by have:=instrStep_len HS.out;omega,HM1.out d' HS.out,(HG2.out.trans_grown (World.grownBy_alloc _ _ _)).trans_grown HG1.out⟩
      case measure => simp [intOf];omega
    ·have hce:blockStep f ds q=if termB f q.term then some d2 else none:=by
      unfold blockStep
      rw [HKE.out,Option.bind_some,HT2.out,List.drop_of_length_le (by omega)]
      rfl
     have HCE:=hideI hce
     clear hce HCX HT2
     obtain ⟨TA,tc,hte,_⟩:=HT.out
     subst hte
     have HTT:=hideI ((HT.out.keeps HK.out).more (B':=wr.heap.size) (by omega))
     go_wp2_with (go_at_call 204;refine (term_any f q.term _ _ _ _ _ _ _ HTT.out h1 h2).mono ?_;rintro e w1 ⟨rfl,hb1⟩;have HB1:=hideI hb1;clear hb1)
     go_ret
     have hm1:=HD2.out.below HB1.out (by omega)
     have hgg:w.grownBy w1 (some M):=((((World.grownBy_alloc _ _ _).trans_grown (World.grownBy_alloc _ _ _)).trans_grown (HW0.out ▸ HG2.out)).trans_grown (below_grown HB1.out rfl))
     refine defines_end ?_ hgg ?_
     ·rw [HCE.out]
      cases termB f q.term <;> rfl
     ·intro ds' h
      rw [HCE.out] at h
      split at h
      ·injection h with h
       subst h
       exact hm1
      ·cases h
end Go.Proofs.YtaehbgppfahdeaaGreat

namespace Go.Proofs.YtaehbgppfahdeaaGreat
open Go.RowKit Go.Maps
theorem size_take (bs:List BlockM) (k:Nat) (q:BlockM) (h:bs[k]?=some q):((bs.take (k + 1)).map sizeB).sum=((bs.take k).map sizeB).sum + (q.phis.length + q.code.length + 1):=by
 obtain ⟨hk,rfl⟩:=List.getElem?_eq_some_iff.1 h
 rw [List.take_succ_eq_append_getElem hk,List.map_append,List.sum_append]
 rfl
set_option maxHeartbeats 1000000 in
theorem lookSize_any (bs:List BlockM) (B:Nat) (pv av cv bv mv:Value) (w:World) (hbv:BlocksR w B bv bs) (hB:B ≤ w.heap.size) (h2:bs.length ≤ 512) :
  Calls Tryz.prog 196 #[.agg #[pv,av,cv,bv,mv]] w fun e w' => e=.returned (.int .i64 ((bs.map sizeB).sum:Nat)) ∧ Below w.heap.size w w':=by
 have HB:=hideI hbv
 obtain ⟨A,c,rfl,hbm,hbx⟩:=hbv
 have HX:=hideI hbx
 clear hbx
 go_enter Tryz.func196,Tryz.ntmps196
 go_wp2
 go_loopw [3,10] (fun n i wr => ∃ k S:Nat,k ≤ bs.length ∧ i=.int .i64 k ∧ n=.int .i64 S ∧ S=((bs.take k).map sizeB).sum ∧ S ≤ k * 281474976702465 ∧ Below (w.heap.size + 1) (w.alloc (.cells #[pv,av,cv,.slice A bs.length c,mv] 129)) wr) (fun _ i _ => bs.length - (intOf i).toNat)
 case atStart => exact ⟨0,0,Nat.zero_le _,rfl,rfl,rfl,Nat.le_refl _,Below.refl _ _⟩
 case round =>
  obtain ⟨k,S,hk,rfl,rfl,hS,hSb,hBe⟩:=hrel
  obtain ⟨hx1,hz1⟩:=one_cells hBe
  have hks:=hideI (keeps_one hBe hB)
  have HBe:=hideI hBe
  have HS:=hideI hS
  clear hBe hS
  by_cases hlt:k < bs.length
  ·obtain ⟨q,hq⟩:∃ q,bs[k]?=some q:=⟨_,List.getElem?_eq_getElem hlt⟩
   obtain ⟨b,off,pv,cv,tv,rfl,hb,e0,e1,e2,e3,e4,e5,hpv,hcv,htv,_⟩:=HX.out k q hq
   have c0:=(hks.out b (off + k * 6) hb).trans e0
   have c1:=(hks.out b (off + k * 6 + 1) hb).trans e1
   have c2:=(hks.out b (off + k * 6 + 2) hb).trans e2
   have c3:=(hks.out b (off + k * 6 + 3) hb).trans e3
   have c4:=(hks.out b (off + k * 6 + 4) hb).trans e4
   have c5:=(hks.out b (off + k * 6 + 5) hb).trans e5
   obtain ⟨PA,pc,hpe,hpm,_⟩:=hpv
   obtain ⟨CA,cc,hce,hcm,_⟩:=hcv
   obtain ⟨TA,tc,hte,htm,_⟩:=htv
   subst hpe hce hte
   have HQ:=hideI hq
   clear e0 e1 e2 e3 e4 e5 hq
   go_wp2
   go_roundw
   case rel => exact ⟨k + 1,S + (q.phis.length + q.code.length + 1),by omega,by go_num,by go_num,by rw [size_take _ _ _ HQ.out,← HS.out],by omega,HBe.out.alloc (by omega) _⟩
   case measure => simp [intOf];omega
  ·go_wp2
   go_ret
   refine ⟨?_,below_one HBe.out⟩
   rw [HS.out,List.take_of_length_le (by omega)]
   rfl
set_option maxHeartbeats 1000000 in
theorem limits_any (f:FuncM) (B:Nat) (P:Option Addr) (pc:Nat) (bv mv:Value) (w:World) (hbv:BlocksR w B bv f.blocks) (hB:B ≤ w.heap.size) :
  Calls Tryz.prog 158 #[.agg #[.slice P f.params.length pc,.int .i64 f.arrays,.int .i64 f.cells,bv,mv]] w (Says (limitsB f) w):=by
 have HB:=hideI hbv
 obtain ⟨A,c,rfl,hbm,hbx⟩:=hbv
 clear hbx
 have W1:=hideI ((HB.out.keeps ((Keeps.refl w).alloc hB (.cells #[.slice P f.params.length pc,.int .i64 f.arrays,.int .i64 f.cells,.slice A f.blocks.length c,mv] 129))))
 unfold limitsB
 by_cases c1:f.params.length ≤ 16
 ·cases c2:withinB f.arrays 0 8
  ·go_enter Tryz.func158,Tryz.ntmps158
   go_wp2_with (go_at_call 200;refine (within_any _ _ _ _).mono ?_;rintro e w' ⟨rfl,rfl⟩)
   go_ret
   exact says_new (by simp)
  cases c3:withinB f.cells 0 64
  ·go_enter Tryz.func158,Tryz.ntmps158
   go_wp2_with (go_at_call 200;refine (within_any _ _ _ _).mono ?_;rintro e w' ⟨rfl,rfl⟩)
   go_ret
   exact says_new (by simp)
  cases c4:withinB f.blocks.length 1 512
  ·go_enter Tryz.func158,Tryz.ntmps158
   go_wp2_with (go_at_call 200;refine (within_any _ _ _ _).mono ?_;rintro e w' ⟨rfl,rfl⟩)
   go_ret
   exact says_new (by simp)
  have hb5:f.blocks.length ≤ 512:=by have:=within_bd c4;omega
  have HL:=hideI (lookSize_any f.blocks B (.slice P f.params.length pc) (.int .i64 f.arrays) (.int .i64 f.cells) (.slice A f.blocks.length c) mv _ W1.out (by simp;omega) hb5)
  go_enter Tryz.func158,Tryz.ntmps158
  go_wp2_with (first
   | (go_at_call 200;refine (within_any _ _ _ _).mono ?_;rintro e w' ⟨rfl,rfl⟩)
   | (go_at_call 196;refine HL.out.mono ?_;rintro e w1 ⟨rfl,hb1⟩;have HB1:=hideI hb1;clear hb1))
  go_ret
  refine ⟨?_,((Below.refl _ _).alloc (Nat.le_refl _) _).trans (HB1.out.mono (by simp))⟩
  have h:decide ((((f.blocks.map sizeB).sum:Nat):Int) ≤ 4096)=decide (sizeM f ≤ 4096):=by
   unfold sizeM
   rw [decide_eq_decide]
   omega
  simp only [Array.getD_eq_getD_getElem?]
  simp [c1,h]
 ·go_enter Tryz.func158,Tryz.ntmps158
  go_wp2_with (go_at_call 200;refine (within_any _ _ _ _).mono ?_;rintro e w' ⟨rfl,rfl⟩)
  go_ret
  exact says_new (by simp)
end Go.Proofs.YtaehbgppfahdeaaGreat

namespace Go.Proofs.YtaehbgppfahdeaaGreat
open Go.RowKit Go.Maps
theorem paramDefs_snoc (l:List Int) (t:Int):∀ j,paramDefs j (l ++ [t])=paramDefs j l ++ [(((j + l.length:Nat):Int),t)]:=by
 induction l with
 | nil => intro j;rfl
 | cons a l ih =>
  intro j
  show _ :: paramDefs (j + 1) (l ++ [t])=_ :: (paramDefs (j + 1) l ++ _)
  rw [ih (j + 1)]
  simp only [List.length_cons]
  rw [show j + 1 + l.length=j + (l.length + 1) from by omega]
theorem paramDefs_len (l:List Int):∀ j,(paramDefs j l).length=l.length:=by
 induction l with
 | nil => intro j;rfl
 | cons a l ih => intro j;simp [paramDefs,ih]
theorem paramDefs_at (l:List Int):∀ (j:Nat) (k:Int),(j + l.length:Nat) ≤ k → (paramDefs j l).at k=none:=by
 induction l with
 | nil => intro j k _;rfl
 | cons a l ih =>
  intro j k h
  simp only [List.length_cons] at h
  have:=ih (j + 1) k (by omega)
  unfold Defs.at at this ⊢
  rw [paramDefs,List.find?_cons]
  rw [show ((j:Int) == k)=false from by simp;omega]
  exact this
def paramsStep (f:FuncM):Option Defs:=if f.params.all isTypeB then some (paramDefs 0 f.params) else none
theorem isType_cases {t:Int} (h:isTypeB t=true):t=1 ∨ t=2:=by
 unfold isTypeB at h
 simpa using h
set_option maxHeartbeats 1000000 in
theorem params_any (f:FuncM) (B M:Nat) (pv av cv bv:Value) (w:World) (hpv:Ints w B pv f.params) (hBM:B ≤ M) (hM:MapIs w M []) (hp:f.params.length ≤ 16) :
  Calls Tryz.prog 159 #[.agg #[pv,av,cv,bv,.map (some M)]] w (Defines (paramsStep f) M w):=by
 have hMl:=hM.lt
 have HM:=hideI hM
 obtain ⟨P,c,rfl,hbm,hbx⟩:=hpv
 have HX:=hideI hbx
 clear hbx hM
 go_enter Tryz.func159,Tryz.ntmps159
 go_wp2
 obtain ⟨W0,hW0⟩:∃ W0:World,W0=w.alloc (.cells #[.slice P f.params.length c,av,cv,bv,.map (some M)] 129):=⟨_,rfl⟩
 rw [← hW0]
 have HW0:=hideI hW0
 clear hW0
 go_loopw [9] (fun i wr => ∃ k:Nat,k ≤ f.params.length ∧ i=.int .i64 k ∧ (f.params.take k).all isTypeB=true ∧ MapIs wr M (paramDefs 0 (f.params.take k)) ∧ W0.grownBy wr (some M)) (fun i _ => f.params.length - (intOf i).toNat)
 case atStart => exact ⟨0,Nat.zero_le _,rfl,rfl,by rw [HW0.out];exact HM.out.alloc _,World.grownBy.refl W0 _⟩
 case round =>
  obtain ⟨k,hk,rfl,ht,hMd,hg⟩:=hrel
  have hg':=hg
  rw [HW0.out] at hg'
  have hx:∀ o,wr.cell? ⟨w.heap.size,o,none⟩=(#[.slice P f.params.length c,av,cv,bv,.map (some M)]:Array Value)[o]?:=row_cells (heap_alloc_new w _) (hg'.block _ (by simp) (by simp;omega))
  have hks:Keeps B w wr:=((Keeps.refl w).alloc (by omega) _).trans (Keeps.of_grown hg' hBM (by simp;omega))
  have HK:=hideI hks
  have HG:=hideI hg
  have HT':=hideI ht
  obtain ⟨D,hown,hD,hwd,hat⟩:=hMd
  have HAT:=hideI hat
  have HWD:=hideI hwd
  clear hg' hks hg ht hat hwd
  by_cases hlt:k < f.params.length
  ·obtain ⟨b,off,rfl,hb,hc0⟩:=HX.out k hlt
   obtain ⟨t,ht⟩:∃ t,f.params[k]=t:=⟨_,rfl⟩
   have hc:=(HK.out b (off + k) hb).trans hc0
   rw [getD_of hlt,ht] at hc
   have HTT:=hideI ht
   clear hc0 ht
   cases c1:isTypeB t
   ·have HC:=hideI c1
    go_wp2_with (go_at_call 201;refine (isType_any _ _).mono ?_;rintro e w' ⟨rfl,rfl⟩)
    go_ret
    have hno:paramsStep f=none:=by
     unfold paramsStep
     rw [if_neg]
     intro h
     have:=List.all_eq_true.1 h _ (List.getElem_mem hlt)
     rw [HTT.out,HC.out] at this
     cases this
    exact defines_end (by rw [hno];rfl) (by have:=HG.out;rw [HW0.out] at this;exact (World.grownBy_alloc _ _ _).trans_grown this) (by rw [hno];simp)
   ·have HC:=hideI c1
    have hI:I64 t:=by rcases isType_cases c1 with rfl | rfl <;> (unfold I64;decide)
    have hIk:I64 k:=by unfold I64;exact WalkArith.wf_i64 (by omega)
    go_wp2_with (first
     | (go_at_call 201;refine (isType_any _ _).mono ?_;rintro e w' ⟨rfl,rfl⟩)
     | (at_mapUpdate;refine wpList_mapUpdate_own _ rfl _ _ _ 127 rfl 3 3 lawInt Tryz.underlying127 _ M _ _ rfl hown (by unfold maxLen;rw [paramDefs_len,List.length_take];omega) _ _ _ rfl rfl (keyOf_int_mk Tryz.underlying3 hIk) _ [] (plainElem_int Tryz.underlying3 hI) ?_;intro w1 hown1 hgrow1))
    go_roundw
    case rel =>
     refine ⟨k + 1,by omega,by go_num,by rw [all_take_succ _ _ _ hlt,HT'.out,HTT.out,HC.out];rfl,?_,HG.out.trans_grown hgrow1⟩
     rw [List.take_succ_eq_append_getElem hlt,HTT.out,paramDefs_snoc,List.length_take,Nat.min_eq_left (by omega),Nat.zero_add]
     exact MapIs.put hown1 hD HWD.out hIk hI (paramDefs_at _ _ _ (by rw [List.length_take];omega)) HAT.out
    case measure => simp [intOf];omega
  ·go_wp2
   go_ret
   have hall:f.params.all isTypeB=true:=by have:=HT'.out;rwa [List.take_of_length_le (by omega)] at this
   have hyes:paramsStep f=some (paramDefs 0 f.params):=by unfold paramsStep;rw [if_pos hall]
   refine defines_end (by rw [hyes];rfl) (by have:=HG.out;rw [HW0.out] at this;exact (World.grownBy_alloc _ _ _).trans_grown this) ?_
   intro ds h
   rw [hyes] at h
   injection h with h
   subst h
   rw [List.take_of_length_le (by omega)] at hown
   have h1:=HWD.out
   have h2:=HAT.out
   rw [List.take_of_length_le (by omega)] at h1 h2
   exact ⟨D,hown,hD,h1,h2⟩
end Go.Proofs.YtaehbgppfahdeaaGreat

namespace Go.Proofs.YtaehbgppfahdeaaGreat
open Go.RowKit Go.Maps
theorem formedM_no {f:FuncM} (h:limitsB f=false):formedM f=none:=by
 unfold formedM
 rw [h]
 rfl
theorem formedM_params {f:FuncM} (h:paramsStep f=none):formedM f=none:=by
 unfold paramsStep at h
 unfold formedM
 split at h
 ·cases h
 ·rename_i hn
  have:f.params.all isTypeB=false:=by simpa using hn
  rw [this]
  simp
theorem formedM_head {f:FuncM} {q:BlockM} (hq:f.blocks[0]?=some q) (h:q.phis ≠ []):formedM f=none:=by
 unfold formedM
 have h1:f.blocks.headD ⟨[],[],⟨0,0,[],0⟩⟩=q:=by
  cases hb:f.blocks with
  | nil => rw [hb] at hq;cases hq
  | cons a l => rw [hb] at hq;simpa using hq
 have h2:q.phis.isEmpty=false:=by simpa using h
 rw [h1,h2]
 simp
theorem formedM_yes {f:FuncM} {q:BlockM} {d:Defs} (hl:limitsB f=true) (hp:paramsStep f=some d) (hq:f.blocks[0]?=some q) (h:q.phis=[]):formedM f=blocksStep f d f.blocks:=by
 unfold formedM
 have h1:f.blocks.headD ⟨[],[],⟨0,0,[],0⟩⟩=q:=by
  cases hb:f.blocks with
  | nil => rw [hb] at hq;cases hq
  | cons a l => rw [hb] at hq;simpa using hq
 unfold paramsStep at hp
 split at hp
 ·rename_i ha
  injection hp with hp
  subst hp
  rw [hl,ha,h1,h]
  rfl
 ·cases hp
theorem blocks_drop (f:FuncM) (d:Defs) (l:List BlockM) (k:Nat) (p:BlockM) (h:l[k]?=some p):blocksStep f d (l.drop k)=(blockStep f d p).bind fun d' => blocksStep f d' (l.drop (k + 1)):=by
 obtain ⟨hk,rfl⟩:=List.getElem?_eq_some_iff.1 h
 rw [List.drop_eq_getElem_cons hk]
 rfl
theorem phisStep_len {f:FuncM}:∀ {l:List PhiM} {ds d:Defs},phisStep f ds l=some d → d.length=ds.length + l.length:=by
 intro l
 induction l with
 | nil => intro ds d h;injection h with h;subst h;rfl
 | cons p l ih =>
  intro ds d h
  unfold phisStep at h
  rw [Option.bind_eq_some_iff] at h
  obtain ⟨d1,h1,h2⟩:=h
  have:=ih h2
  have:=phiStep_len h1
  simp only [List.length_cons]
  omega
theorem codeStep_len {f:FuncM}:∀ {l:List InstrM} {ds d:Defs},codeStep f ds l=some d → d.length ≤ ds.length + l.length:=by
 intro l
 induction l with
 | nil => intro ds d h;injection h with h;subst h;exact Nat.le_refl _
 | cons p l ih =>
  intro ds d h
  unfold codeStep at h
  rw [Option.bind_eq_some_iff] at h
  obtain ⟨d1,h1,h2⟩:=h
  have:=ih h2
  have:=instrStep_len h1
  simp only [List.length_cons]
  omega
theorem blockStep_len {f:FuncM} {q:BlockM} {ds d:Defs} (h:blockStep f ds q=some d):d.length ≤ ds.length + (q.phis.length + q.code.length + 1):=by
 unfold blockStep at h
 rw [Option.bind_eq_some_iff] at h
 obtain ⟨d1,h1,h2⟩:=h
 rw [Option.bind_eq_some_iff] at h2
 obtain ⟨d2,h3,h4⟩:=h2
 split at h4
 ·injection h4 with h4
  subst h4
  have:=phisStep_len h1
  have:=codeStep_len h3
  omega
 ·cases h4
theorem sum_take_le (l:List Nat) (k:Nat):(l.take k).sum ≤ l.sum:=by
 conv => rhs;rw [← List.take_append_drop k l,List.sum_append]
 omega
theorem size_take_le (bs:List BlockM) (k:Nat) (q:BlockM) (h:bs[k]?=some q):((bs.take k).map sizeB).sum + (q.phis.length + q.code.length + 1) ≤ (bs.map sizeB).sum:=by
 rw [← size_take bs k q h,List.map_take]
 exact sum_take_le _ _
theorem limits_bd {f:FuncM} (h:limitsB f=true):f.params.length ≤ 16 ∧ 0 ≤ f.arrays ∧ f.arrays ≤ 8 ∧ 0 ≤ f.cells ∧ f.cells ≤ 64 ∧ 1 ≤ f.blocks.length ∧ f.blocks.length ≤ 512 ∧ (f.blocks.map sizeB).sum ≤ 4096:=by
 unfold limitsB withinB sizeM at h
 simp only [Bool.and_eq_true,decide_eq_true_eq] at h
 omega
theorem grown_row {w w':World} {g M:Nat} {cs:Array Value} {t:TypeId} (h:w.heap[g]?=some (.cells cs t (0,0))) (hg:w.grownBy w' (some M)) (hM:g ≠ M):∀ o,w'.cell? ⟨g,o,none⟩=cs[o]? :=
 row_cells h (hg.block _ (Array.getElem?_eq_some_iff.1 h).1 (by simpa using hM))
set_option maxHeartbeats 1000000 in
theorem formed_any (f:FuncM) (B M:Nat) (pv bv:Value) (w:World) (hpv:Ints w B pv f.params) (hbv:BlocksR w B bv f.blocks) (hBM:B ≤ M) (hM:MapIs w M []) :
  Calls Tryz.prog 109 #[.agg #[pv,.int .i64 f.arrays,.int .i64 f.cells,bv,.map (some M)]] w (Defines (formedM f) M w):=by
 have hMl:=hM.lt
 have HM:=hideI hM
 have HP:=hideI hpv
 have HB:=hideI hbv
 obtain ⟨P,c,rfl,hpm,_⟩:=hpv
 obtain ⟨A,c2,rfl,hbm,hbx⟩:=hbv
 have HX:=hideI hbx
 clear hbx hM
 obtain ⟨W0,hW0⟩:∃ W0:World,W0=w.alloc (.cells #[.slice P f.params.length c,.int .i64 f.arrays,.int .i64 f.cells,.slice A f.blocks.length c2,.map (some M)] 129):=⟨_,rfl⟩
 have hbox:W0.heap[w.heap.size]?=some (.cells #[.slice P f.params.length c,.int .i64 f.arrays,.int .i64 f.cells,.slice A f.blocks.length c2,.map (some M)] 129 (0,0)):=by rw [hW0];exact heap_alloc_new w _
 have hsz0:W0.heap.size=w.heap.size + 1:=by rw [hW0];simp
 have hbB:BlocksR W0 B (.slice A f.blocks.length c2) f.blocks:=by rw [hW0];exact HB.out.keeps ((Keeps.refl w).alloc (by omega) _)
 have hpB:Ints W0 B (.slice P f.params.length c) f.params:=by rw [hW0];exact HP.out.alloc (by omega) _
 have hmB:MapIs W0 M []:=by rw [hW0];exact HM.out.alloc _
 have HbB:=hideI hbB
 have HpB:=hideI hpB
 have HmB:=hideI hmB
 have hgw:w.grownBy W0 (some M):=by rw [hW0];exact World.grownBy_alloc _ _ _
 have HGW:=hideI hgw
 have HBOX:=hideI hbox
 clear hbB hpB hmB hgw hbox hsz0
 subst hW0
 cases c1:limitsB f
 ·have HC:=hideI c1
  go_enter Tryz.func109,Tryz.ntmps109
  go_wp2_with (go_at_call 158;refine (limits_any f B _ _ _ _ _ HbB.out (by simp;omega)).mono ?_;rintro e w1 ⟨rfl,hb1⟩;have HB1:=hideI hb1;clear hb1)
  go_ret
  exact defines_end (by rw [formedM_no HC.out];rfl) (HGW.out.trans_grown (below_grown HB1.out rfl)) (by rw [formedM_no HC.out];simp)
 have HC:=hideI c1
 obtain ⟨l1,l2,l3,l4,l5,l6,l7,l8⟩:=limits_bd c1
 have HL8:=hideI l8
 clear l8
 cases c2:paramsStep f with
 | none =>
  have HC2:=hideI c2
  go_enter Tryz.func109,Tryz.ntmps109
  go_wp2_with (first
   | (go_at_call 158;refine (limits_any f B _ _ _ _ _ HbB.out (by simp;omega)).mono ?_;rintro e w1 ⟨rfl,hb1⟩;obtain ⟨hcl,hfl⟩:=bcell hb1;have HB1:=hideI hb1;clear hb1)
   | (go_at_call 159;refine (params_any f B M _ _ _ _ _ (HpB.out.keep (HB1.out.mono (by simp;omega))) hBM (HmB.out.below HB1.out (by simp;omega)) l1).mono ?_;rintro e w2 ⟨rfl,hg2,hm2⟩;have HG2:=hideI hg2;have HM2:=hideI hm2;clear hg2 hm2;rw [HC2.out]))
  go_ret
  exact defines_end (by rw [formedM_params HC2.out];rfl) ((HGW.out.trans_grown (below_grown HB1.out rfl)).trans_grown HG2.out) (by rw [formedM_params HC2.out];simp)
 | some d0 =>
  have HC2:=hideI c2
  obtain ⟨q0,hq0⟩:∃ q,f.blocks[0]?=some q:=⟨_,List.getElem?_eq_getElem (by omega)⟩
  obtain ⟨b,off,pv0,cv0,tv0,rfl,hb,e0,_,_,_,_,_,hpv0,_⟩:=HX.out 0 q0 hq0
  obtain ⟨A0,c0,rfl,hm0,_⟩:=hpv0
  have HQ0:=hideI hq0
  simp only [Nat.zero_mul,Nat.add_zero] at e0
  clear hq0
  cases hne:((q0.phis.length:Int) != 0)
  case true =>
   have hne':=hideI hne
   go_enter Tryz.func109,Tryz.ntmps109
   go_wp2_with (first
    | (go_at_call 158;refine (limits_any f B _ _ _ _ _ HbB.out (by simp;omega)).mono ?_;rintro e w1 ⟨rfl,hb1⟩;obtain ⟨hcl,hfl⟩:=bcell hb1;have HB1:=hideI hb1;clear hb1)
    | (go_at_call 159;refine (params_any f B M _ _ _ _ _ (HpB.out.keep (HB1.out.mono (by simp;omega))) hBM (HmB.out.below HB1.out (by simp;omega)) l1).mono ?_;rintro e w2 ⟨rfl,hg2,hm2⟩;have HG2:=hideI ((below_grown HB1.out rfl).trans_grown hg2);have HM2:=hideI (hm2 _ HC2.out);clear hg2 hm2;rw [HC2.out];have hx2:=grown_row HBOX.out HG2.out (by omega);have hks2:=hideI (Keeps.of_grown HG2.out hBM (by simp;omega));have e02:=(hks2.out b off hb).trans ((Keeps.refl w).alloc (by omega) _ b off hb |>.trans e0)))
   go_ret
   have hno:formedM f=none:=formedM_head HQ0.out (by intro e;have hne:=hne'.out;rw [e] at hne;simp at hne)
   exact defines_end (by rw [hno];rfl) (HGW.out.trans_grown HG2.out) (by rw [hno];simp)
  case false =>
   have heq:=hideI hne
   go_enter Tryz.func109,Tryz.ntmps109
   go_wp2_with (first
    | (go_at_call 158;refine (limits_any f B _ _ _ _ _ HbB.out (by simp;omega)).mono ?_;rintro e w1 ⟨rfl,hb1⟩;obtain ⟨hcl,hfl⟩:=bcell hb1;have HB1:=hideI hb1;clear hb1)
    | (go_at_call 159;refine (params_any f B M _ _ _ _ _ (HpB.out.keep (HB1.out.mono (by simp;omega))) hBM (HmB.out.below HB1.out (by simp;omega)) l1).mono ?_;rintro e w2 ⟨rfl,hg2,hm2⟩;have HG2:=hideI ((below_grown HB1.out rfl).trans_grown hg2);have HM2:=hideI (hm2 _ HC2.out);clear hg2 hm2;rw [HC2.out];have hx2:=grown_row HBOX.out HG2.out (by omega);have hks2:=hideI (Keeps.of_grown HG2.out hBM (by simp;omega));have e02:=(hks2.out b off hb).trans ((Keeps.refl w).alloc (by omega) _ b off hb |>.trans e0)))
   have hyes:=hideI (formedM_yes HC.out HC2.out HQ0.out (by have:=bne_eq_false_iff_eq.1 heq.out;exact List.eq_nil_of_length_eq_zero (by omega)))
   have hd0:d0.length ≤ 16:=by
    have h:=HC2.out
    unfold paramsStep at h
    split at h
    ·injection h with h;subst h;rw [paramDefs_len];exact l1
    ·cases h
   clear hx2 e02 e0 hks2
   go_loopw [25] (fun i wr => ∃ (k:Nat) (d:Defs),k ≤ f.blocks.length ∧ i=.int .i64 k ∧ blocksStep f d0 f.blocks=blocksStep f d (f.blocks.drop k) ∧ d.length ≤ 16 + ((f.blocks.take k).map sizeB).sum ∧ MapIs wr M d ∧ w2.grownBy wr (some M)) (fun i _ => f.blocks.length - (intOf i).toNat)
   case atStart => exact ⟨0,d0,Nat.zero_le _,rfl,rfl,by simpa using hd0,HM2.out,World.grownBy.refl w2 _⟩
   case round =>
    obtain ⟨k,d,hk,rfl,ht,hdl,hMd,hg⟩:=hrel
    have HT:=hideI ht
    have HDL:=hideI hdl
    have HD:=hideI hMd
    have HG:=hideI (HG2.out.trans_grown hg)
    have HGr:=hideI hg
    clear ht hdl hMd hg
    have hx:=grown_row HBOX.out HG.out (by omega)
    have hsz:w.heap.size < wr.heap.size:=by have:=HG.out.size;simp at this;omega
    have HK:=hideI (((Keeps.refl w).alloc (by omega) _).trans (Keeps.of_grown HG.out hBM (by simp;omega)))
    by_cases hlt:k < f.blocks.length
    ·obtain ⟨q,hq⟩:∃ q,f.blocks[k]?=some q:=⟨_,List.getElem?_eq_getElem hlt⟩
     obtain ⟨b',off',pv,cv,tv,hbe,hb',e0,e1,e2,e3,e4,e5,hpv,hcv,htv,_⟩:=HX.out k q hq
     injection hbe with hbe
     injection hbe with hb1 hb2
     subst hb1 hb2
     have c0':=(HK.out b (off + k * 6) hb').trans e0
     have c1':=(HK.out b (off + k * 6 + 1) hb').trans e1
     have c2':=(HK.out b (off + k * 6 + 2) hb').trans e2
     have c3':=(HK.out b (off + k * 6 + 3) hb').trans e3
     have c4':=(HK.out b (off + k * 6 + 4) hb').trans e4
     have c5':=(HK.out b (off + k * 6 + 5) hb').trans e5
     have HP':=hideI (hpv.keeps HK.out)
     have HC':=hideI (hcv.keeps HK.out)
     have HT':=hideI (htv.keeps HK.out)
     have HQ:=hideI hq
     have hsl:d.length + q.phis.length + q.code.length < 50000:=by
      have h1:=size_take_le _ _ _ hq
      have h2:=HL8.out
      have h3:=HDL.out
      omega
     have HSL:=hideI hsl
     obtain ⟨PA,pc,rfl,_⟩:=hpv
     obtain ⟨CA,cc,rfl,_⟩:=hcv
     obtain ⟨TA,tc,rfl,_⟩:=htv
     clear e0 e1 e2 e3 e4 e5 hq hsl
     cases hs:blockStep f d q with
     | none =>
      have HS:=hideI hs
      go_wp2_with (go_at_call 160;refine (block_any f q d _ _ _ _ M B _ _ _ _ (HP'.out.keeps ((Keeps.refl _).alloc (by omega) _)) (HC'.out.keeps ((Keeps.refl _).alloc (by omega) _)) (HT'.out.keeps ((Keeps.refl _).alloc (by omega) _)) hBM (HD.out.alloc _) HSL.out l6 l7 l2 l3 l4 l5).mono ?_;rintro e w3 ⟨rfl,hg3,hm3⟩;rw [HS.out];have HG3:=hideI hg3;clear hg3 hm3)
      go_ret
      have hno:formedM f=none:=by
       rw [hyes.out,HT.out,blocks_drop f d f.blocks k q HQ.out,HS.out]
       rfl
      exact defines_end (by rw [hno];rfl) (((HGW.out.trans_grown HG.out).trans_grown (World.grownBy_alloc _ _ _)).trans_grown HG3.out) (by rw [hno];simp)
     | some d' =>
      have HS:=hideI hs
      go_wp2_with (go_at_call 160;refine (block_any f q d _ _ _ _ M B _ _ _ _ (HP'.out.keeps ((Keeps.refl _).alloc (by omega) _)) (HC'.out.keeps ((Keeps.refl _).alloc (by omega) _)) (HT'.out.keeps ((Keeps.refl _).alloc (by omega) _)) hBM (HD.out.alloc _) HSL.out l6 l7 l2 l3 l4 l5).mono ?_;rintro e w3 ⟨rfl,hg3,hm3⟩;rw [HS.out];have HG3:=hideI hg3;have HM3:=hideI (hm3 _ HS.out);clear hg3 hm3)
      go_roundw
      case rel =>
       refine ⟨k + 1,d',by omega,by go_num,by rw [HT.out,blocks_drop f d f.blocks k q HQ.out,HS.out];rfl,?_,HM3.out,(HGr.out.trans_grown (World.grownBy_alloc _ _ _)).trans_grown HG3.out⟩
       have h1:=blockStep_len HS.out
       have h2:=HDL.out
       rw [size_take _ _ _ HQ.out]
       omega
      case measure => simp [intOf];omega
    ·have hke:formedM f=some d:=by rw [hyes.out,HT.out,List.drop_of_length_le (by omega)];rfl
     have HKE:=hideI hke
     clear hke
     go_wp2
     go_ret
     refine defines_end (by rw [HKE.out];rfl) (HGW.out.trans_grown HG.out) ?_
     intro ds h
     rw [HKE.out] at h
     injection h with h
     subst h
     exact HD.out
end Go.Proofs.YtaehbgppfahdeaaGreat

namespace Go.Proofs.YtaehbgppfahdeaaGreat
open Go.RowKit Go.Maps
structure Fr (S:List Nat) (N B:Nat) (w w':World):Prop where
 os:w'.os=w.os
 tape:w'.tape=w.tape
 output:w'.output=w.output
 size:w.heap.size ≤ w'.heap.size
 high:∀ b,N ≤ b → b < w.heap.size → w'.heap[b]?=w.heap[b]?
 low:∀ b,b < B → w'.heap[b]?=w.heap[b]?
 rest:∀ b,b < w.heap.size → b ∉ S → w'.heap[b]?=w.heap[b]?
variable {S:List Nat} {N B:Nat} {w w' w2:World}
theorem Fr.refl (w:World):Fr S N B w w:=⟨rfl,rfl,rfl,Nat.le_refl _,fun _ _ _ => rfl,fun _ _ => rfl,fun _ _ _ => rfl⟩
theorem Fr.trans (h:Fr S N B w w') (k:Fr S N B w' w2):Fr S N B w w2 :=
 ⟨k.os.trans h.os,k.tape.trans h.tape,k.output.trans h.output,Nat.le_trans h.size k.size,fun b hb hs => (k.high b hb (Nat.lt_of_lt_of_le hs h.size)).trans (h.high b hb hs),fun b hb => (k.low b hb).trans (h.low b hb),
  fun b hs hb => (k.rest b (Nat.lt_of_lt_of_le hs h.size) hb).trans (h.rest b hs hb)⟩
theorem Fr.of_below (h:Below w.heap.size w w') (hB:B ≤ w.heap.size):Fr S N B w w' :=
 ⟨h.os,h.tape,h.output,h.size,fun b _ hs => h.block b hs,fun b hb => h.block b (by omega),fun b hs _ => h.block b hs⟩
theorem Fr.alloc (h:Fr S N B w w') (hB:B ≤ w'.heap.size) (o:Obj):Fr S N B w (w'.alloc o):=h.trans (Fr.of_below ((Below.refl _ _).alloc (Nat.le_refl _) o) hB)
theorem Fr.keeps (h:Fr S N B w w'):Keeps B w w':=fun b o hb => World.cell?_of_block (a:=⟨b,o,none⟩) (h.low b hb)
theorem Fr.row {g:Nat} {cs:Array Value} {t:TypeId} (h:Fr S N B w w') (hg:w.heap[g]?=some (.cells cs t (0,0))) (hN:N ≤ g):∀ o,w'.cell? ⟨g,o,none⟩=cs[o]? :=
 row_cells hg (h.high g hN (Array.getElem?_eq_some_iff.1 hg).1)
end Go.Proofs.YtaehbgppfahdeaaGreat

namespace Go.Proofs.YtaehbgppfahdeaaGreat.each3
open Go.RowKit Go.Maps
theorem flat_take {α β:Type} (g:α → List β) (l:List α) (k:Nat) (a:α) (h:l[k]?=some a):(l.take (k + 1)).flatMap g=(l.take k).flatMap g ++ g a:=by
 obtain ⟨hk,rfl⟩:=List.getElem?_eq_some_iff.1 h
 rw [List.take_succ_eq_append_getElem hk,List.flatMap_append]
 simp
theorem map_take_at {α β:Type} (g:α → β) (l:List α) (k:Nat) (a:α) (h:l[k]?=some a):(l.take (k + 1)).map g=(l.take k).map g ++ [g a]:=by
 obtain ⟨hk,rfl⟩:=List.getElem?_eq_some_iff.1 h
 rw [List.take_succ_eq_append_getElem hk,List.map_append]
 rfl
theorem zip_take_at {α β:Type} (l:List α) (r:List β) (k:Nat) (a:α) (b:β) (h:l[k]?=some a) (h2:r[k]?=some b):(l.take (k + 1)).zip (r.take (k + 1))=(l.take k).zip (r.take k) ++ [(a,b)]:=by
 obtain ⟨hk,rfl⟩:=List.getElem?_eq_some_iff.1 h
 obtain ⟨hk2,rfl⟩:=List.getElem?_eq_some_iff.1 h2
 rw [List.take_succ_eq_append_getElem hk,List.take_succ_eq_append_getElem hk2,List.zip_append (by simp;omega)]
 rfl
theorem mem_block {bs:List BlockM} {k:Nat} {q:BlockM} {u:Int × Int} (hq:bs[k]?=some q) (h:u ∈ usesBlock q):u ∈ bs.flatMap usesBlock :=
 List.mem_flatMap.2 ⟨q,List.mem_of_getElem? hq,h⟩
theorem mem_phi {bs:List BlockM} {k j m:Nat} {q:BlockM} {p:PhiM} {v:Int} (hq:bs[k]?=some q) (hp:q.phis[j]?=some p) (hv:p.vals[m]?=some v):(v,p.typ) ∈ bs.flatMap usesBlock :=
 mem_block hq (List.mem_append.2 (.inl (List.mem_flatMap.2 ⟨p,List.mem_of_getElem? hp,List.mem_map.2 ⟨v,List.mem_of_getElem? hv,rfl⟩⟩)))
theorem mem_instr {bs:List BlockM} {k j m:Nat} {q:BlockM} {x:InstrM} {v t:Int} (hq:bs[k]?=some q) (hp:q.code[j]?=some x) (hv:x.args[m]?=some v) (ht:(takesS x.op)[m]?=some t):(v,t) ∈ bs.flatMap usesBlock:=by
 refine mem_block hq (List.mem_append.2 (.inr (List.mem_append.2 (.inl (List.mem_flatMap.2 ⟨x,List.mem_of_getElem? hp,?_⟩)))))
 unfold usesInstr
 exact List.mem_of_getElem? (i:=m) (by rw [List.getElem?_zip_eq_some];exact ⟨hv,ht⟩)
theorem mem_term {bs:List BlockM} {k:Nat} {q:BlockM} {u:Int × Int} (hq:bs[k]?=some q) (hu:u ∈ usesTerm q.term):u ∈ bs.flatMap usesBlock :=
 mem_block hq (List.mem_append.2 (.inr (List.mem_append.2 (.inr hu))))
def Sees (S:List Nat) (N B:Nat) (I:List (Int × Int) → World → Prop) (a1 a2 a3:Addr):Prop :=
 ∀ us id taken w,I64 id → I us w → N ≤ w.heap.size → Calls Tryz.prog 162 #[.int .i64 id,.int .i64 taken,.pointer (some a1),.pointer (some a2),.pointer (some a3)] w fun e w' => e=.returned (.tuple #[]) ∧ I (us ++ [(id,taken)]) w' ∧ Fr S N B w w'
def Stays (I:List (Int × Int) → World → Prop):Prop:=∀ us w w',I us w → Below w.heap.size w w' → I us w'
theorem Stays.alloc {I:List (Int × Int) → World → Prop} (h:Stays I) {us:List (Int × Int)} {w:World} (hI:I us w) (o:Obj):I us (w.alloc o):=h us w _ hI ((Below.refl _ _).alloc (Nat.le_refl _) o)
set_option maxRecDepth 100000 in
set_option maxHeartbeats 4000000 in
theorem each_any (S:List Nat) (bs:List BlockM) (I:List (Int × Int) → World → Prop) (a1 a2 a3:Addr) (B:Nat) (pv xv cv bv mv:Value) (us0:List (Int × Int)) (w:World) (hbv:BlocksR w B bv bs) (hB:B ≤ w.heap.size)
  (hI:I us0 w) (hs:Sees S w.heap.size B I a1 a2 a3) (hst:Stays I) (hform:∀ b ∈ bs,∀ x ∈ b.code,x.args.length=(takesS x.op).length) (hid:∀ u ∈ bs.flatMap usesBlock,I64 u.1) :
  Calls Tryz.prog 161 #[.agg #[pv,xv,cv,bv,mv],.func (.func 162) #[] #[.pointer (some a1),.pointer (some a2),.pointer (some a3)]] w fun e w' => e=.returned (.tuple #[]) ∧ I (us0 ++ bs.flatMap usesBlock) w' ∧ Fr S w.heap.size B w w':=by
 have HI:=hideI hI
 have HS:=hideI hs
 have HST:=hideI hst
 have HFO:=hideI hform
 have HID:=hideI hid
 have HBB:=hideI hbv
 obtain ⟨A,c,rfl,hbm,hbx⟩:=hbv
 have HX:=hideI hbx
 clear hbx hI hs hst hform hid
 obtain ⟨W0,hW0⟩:∃ W0:World,W0=w.alloc (.cells #[pv,xv,cv,.slice A bs.length c,mv] 129):=⟨_,rfl⟩
 have hF0:Hid (Fr S w.heap.size B w W0):=by rw [hW0];exact (Fr.refl w).alloc hB _
 have hbox0:Hid (W0.heap[w.heap.size]?=some (.cells #[pv,xv,cv,.slice A bs.length c,mv] 129 (0,0))):=by rw [hW0];exact heap_alloc_new w _
 have hI0:Hid (I us0 W0):=by rw [hW0];exact HST.out.alloc HI.out _
 have HW0:=hideI hW0
 clear hW0
 go_enter Tryz.func161,Tryz.ntmps161
 go_wp2
 rw [← HW0.out]
 go_loopw [21] (fun i wr => ∃ k:Nat,k ≤ bs.length ∧ i=.int .i64 k ∧ I (us0 ++ (bs.take k).flatMap usesBlock) wr ∧ Fr S w.heap.size B W0 wr) (fun i _ => bs.length - (intOf i).toNat)
 case atStart => exact ⟨0,Nat.zero_le _,rfl,by simpa using hI0.out,Fr.refl _⟩
 case round =>
  obtain ⟨k,hk,rfl,hIk,hFk⟩:=hrel
  have HIk:=hideI hIk
  have HFk:=hideI hFk
  have hx:=hFk.row hbox0.out (Nat.le_refl _)
  have hsz:w.heap.size < wr.heap.size:=by have h1:=hFk.size;have h2:=(Array.getElem?_eq_some_iff.1 hbox0.out).1;omega
  have HK:=hideI (hF0.out.trans hFk).keeps
  clear hIk hFk
  by_cases hlt:k < bs.length
  ·obtain ⟨q,hq⟩:∃ q,bs[k]?=some q:=⟨_,List.getElem?_eq_getElem hlt⟩
   obtain ⟨b,off,qpv,qcv,qtv,rfl,hb,e0,e1,e2,e3,e4,e5,hpv,hcv,htv,_⟩:=HX.out k q hq
   have c0:=(HK.out b (off + k * 6) hb).trans e0
   have c1:=(HK.out b (off + k * 6 + 1) hb).trans e1
   have c2:=(HK.out b (off + k * 6 + 2) hb).trans e2
   have c3:=(HK.out b (off + k * 6 + 3) hb).trans e3
   have c4:=(HK.out b (off + k * 6 + 4) hb).trans e4
   have c5:=(HK.out b (off + k * 6 + 5) hb).trans e5
   have HQ:=hideI hq
   obtain ⟨PA,pc,rfl,hpm,hpx⟩:=hpv
   obtain ⟨CA,cc,rfl,hcm,hcx⟩:=hcv
   obtain ⟨TA,tc,rfl,_⟩:=htv
   have HPX:=hideI hpx
   have HCX:=hideI hcx
   clear e0 e1 e2 e3 e4 e5 hq hpx hcx
   obtain ⟨wo,rfl⟩:∃ wo:World,wo=wr:=⟨_,rfl⟩
   obtain ⟨W1,hW1⟩:∃ W1:World,W1=wo.alloc (.cells #[.slice PA q.phis.length pc,.slice CA q.code.length cc,.int .i64 q.term.op,.int .i64 q.term.val,.slice TA q.term.to.length tc,.int .i64 q.term.n] 62):=⟨_,rfl⟩
   have HF1:Hid (Fr S w.heap.size B W0 W1):=by rw [hW1];exact HFk.out.alloc (by omega) _
   have HI1:Hid (I (us0 ++ (bs.take k).flatMap usesBlock) W1):=by rw [hW1];exact HST.out.alloc HIk.out _
   have HB1:Hid (W1.heap[wo.heap.size]?=some (.cells #[.slice PA q.phis.length pc,.slice CA q.code.length cc,.int .i64 q.term.op,.int .i64 q.term.val,.slice TA q.term.to.length tc,.int .i64 q.term.n] 62 (0,0))):=by rw [hW1];exact heap_alloc_new wo _
   have HW1:=hideI hW1
   clear hW1
   obtain ⟨us1,hus1⟩:∃ us1,us1=us0 ++ (bs.take k).flatMap usesBlock:=⟨_,rfl⟩
   rw [← hus1] at HI1
   have HU1:=hideI hus1
   clear hus1
   go_wp2
   rw [← HW1.out]
   go_loopw [28] (fun i wr => ∃ j:Nat,j ≤ q.phis.length ∧ i=.int .i64 j ∧ I (us1 ++ (q.phis.take j).flatMap usesPhi) wr ∧ Fr S w.heap.size B W1 wr) (fun i _ => q.phis.length - (intOf i).toNat)
   case atStart => exact ⟨0,Nat.zero_le _,rfl,by simpa using HI1.out,Fr.refl _⟩
   case round =>
    obtain ⟨j,hj,rfl,hIj,hFj⟩:=hrel
    have HIj:=hideI hIj
    have HFj:=hideI hFj
    have hx1:=hFj.row HB1.out (by omega)
    have hsz1:wo.heap.size < wr.heap.size:=by have h1:=hFj.size;have h2:=(Array.getElem?_eq_some_iff.1 HB1.out).1;omega
    have HK1:=hideI ((hF0.out.trans HF1.out).trans hFj).keeps
    clear hIj hFj
    by_cases hlj:j < q.phis.length
    ·obtain ⟨p,hp⟩:∃ p,q.phis[j]?=some p:=⟨_,List.getElem?_eq_getElem hlj⟩
     obtain ⟨b2,off2,fv,vv,rfl,hb2,e0,e1,e2,e3,hf,hv,_⟩:=HPX.out j p hp
     have d0:=(HK1.out b2 (off2 + j * 4) hb2).trans e0
     have d1:=(HK1.out b2 (off2 + j * 4 + 1) hb2).trans e1
     have d2:=(HK1.out b2 (off2 + j * 4 + 2) hb2).trans e2
     have d3:=(HK1.out b2 (off2 + j * 4 + 3) hb2).trans e3
     have HQ2:=hideI hp
     obtain ⟨FA,fc,rfl,_⟩:=hf
     obtain ⟨VA,vc,rfl,hvm,hvx⟩:=hv
     have HVX:=hideI hvx
     clear e0 e1 e2 e3 hp hvx
     obtain ⟨wi,rfl⟩:∃ wi:World,wi=wr:=⟨_,rfl⟩
     obtain ⟨W2,hW2⟩:∃ W2:World,W2=wi.alloc (.cells #[.int .i64 p.id,.int .i64 p.typ,.slice FA p.fr.length fc,.slice VA p.vals.length vc] 76):=⟨_,rfl⟩
     have HF2:Hid (Fr S w.heap.size B W1 W2):=by rw [hW2];exact HFj.out.alloc (by omega) _
     have HI2:Hid (I (us1 ++ (q.phis.take j).flatMap usesPhi) W2):=by rw [hW2];exact HST.out.alloc HIj.out _
     have HB2:Hid (W2.heap[wi.heap.size]?=some (.cells #[.int .i64 p.id,.int .i64 p.typ,.slice FA p.fr.length fc,.slice VA p.vals.length vc] 76 (0,0))):=by rw [hW2];exact heap_alloc_new wi _
     have HW2:=hideI hW2
     clear hW2
     obtain ⟨us2,hus2⟩:∃ us2,us2=us1 ++ (q.phis.take j).flatMap usesPhi:=⟨_,rfl⟩
     rw [← hus2] at HI2
     have HU2:=hideI hus2
     clear hus2
     go_wp2
     rw [← HW2.out]
     go_loopw [35] (fun i wr => ∃ m:Nat,m ≤ p.vals.length ∧ i=.int .i64 m ∧ I (us2 ++ (p.vals.take m).map fun v => (v,p.typ)) wr ∧ Fr S w.heap.size B W2 wr) (fun i _ => p.vals.length - (intOf i).toNat)
     case atStart => exact ⟨0,Nat.zero_le _,rfl,by simpa using HI2.out,Fr.refl _⟩
     case round =>
      obtain ⟨m,hm,rfl,hIm,hFm⟩:=hrel
      have HIm:=hideI hIm
      have HFm:=hideI hFm
      have hx2:=hFm.row HB2.out (by omega)
      have HK2:=hideI (((hF0.out.trans HF1.out).trans HF2.out).trans hFm).keeps
      have hsz2:w.heap.size ≤ wr.heap.size:=by have h1:=hFm.size;have h2:=(Array.getElem?_eq_some_iff.1 HB2.out).1;omega
      clear hIm hFm
      by_cases hlm:m < p.vals.length
      ·obtain ⟨b3,off3,rfl,hb3,e3⟩:=HVX.out m hlm
       obtain ⟨v,hv⟩:∃ v,p.vals[m]?=some v:=⟨_,List.getElem?_eq_getElem hlm⟩
       rw [hv] at e3
       have f3:=(HK2.out b3 (off3 + m) hb3).trans e3
       simp only [Option.getD_some] at f3
       have HV:=hideI hv
       have HIV:Hid (I64 v):=HID.out _ (mem_phi HQ.out HQ2.out hv)
       clear e3 hv
       go_wp2_with (go_at_call 162;refine (HS.out _ v p.typ _ HIV.out HIm.out hsz2).mono ?_;rintro e w3 ⟨rfl,hI3,hF3⟩;have HI3:=hideI hI3;have HF3:=hideI hF3;clear hI3 hF3)
       go_roundw
       case rel => exact ⟨m + 1,by omega,by go_num,by rw [map_take_at _ _ _ _ HV.out,← List.append_assoc];exact HI3.out,HFm.out.trans HF3.out⟩
       case measure => simp [intOf];omega
      ·have HIend:Hid (I (us2 ++ usesPhi p) wr):=by have:=HIm.out;rw [List.take_of_length_le (by omega)] at this;exact this
       go_wp2
       go_roundw
       case rel => exact ⟨j + 1,by omega,by go_num,by rw [flat_take _ _ _ _ HQ2.out,← List.append_assoc,← HU2.out];exact HIend.out,HF2.out.trans HFm.out⟩
       case measure => simp [intOf];omega
    ·have HIend:Hid (I (us1 ++ q.phis.flatMap usesPhi) wr):=by have:=HIj.out;rw [List.take_of_length_le (by omega)] at this;exact this
     go_wp2
     obtain ⟨wp,rfl⟩:∃ wp:World,wp=wr:=⟨_,rfl⟩
     clear hx1 hsz1 HK1 hlj
     obtain ⟨us3,hus3⟩:∃ us3,us3=us1 ++ q.phis.flatMap usesPhi:=⟨_,rfl⟩
     rw [← hus3] at HIend
     have HU3:=hideI hus3
     clear hus3
     go_loopw [49] (fun i wr => ∃ j:Nat,j ≤ q.code.length ∧ i=.int .i64 j ∧ I (us3 ++ (q.code.take j).flatMap usesInstr) wr ∧ Fr S w.heap.size B W1 wr) (fun i _ => q.code.length - (intOf i).toNat)
     case atStart => exact ⟨0,Nat.zero_le _,rfl,by simpa using HIend.out,HFj.out⟩
     case round =>
      obtain ⟨j2,hj2,rfl,hIj2,hFj2⟩:=hrel
      have HIj2:=hideI hIj2
      have HFj2:=hideI hFj2
      have hx1:=hFj2.row HB1.out (by omega)
      have hsz1:wo.heap.size < wr.heap.size:=by have h1:=hFj2.size;have h2:=(Array.getElem?_eq_some_iff.1 HB1.out).1;omega
      have HK1:=hideI ((hF0.out.trans HF1.out).trans hFj2).keeps
      clear hIj2 hFj2
      by_cases hlj2:j2 < q.code.length
      ·obtain ⟨x,hp⟩:∃ x,q.code[j2]?=some x:=⟨_,List.getElem?_eq_getElem hlj2⟩
       have hxl:Hid (x.args.length=(takesS x.op).length):=HFO.out q (List.mem_of_getElem? HQ.out) x (List.mem_of_getElem? hp)
       obtain ⟨b2,off2,av,rfl,hb2,e0,e1,e2,e3,hf,_⟩:=HCX.out j2 x hp
       have d0:=(HK1.out b2 (off2 + j2 * 4) hb2).trans e0
       have d1:=(HK1.out b2 (off2 + j2 * 4 + 1) hb2).trans e1
       have d2:=(HK1.out b2 (off2 + j2 * 4 + 2) hb2).trans e2
       have d3:=(HK1.out b2 (off2 + j2 * 4 + 3) hb2).trans e3
       have HQ2:=hideI hp
       obtain ⟨AA,ac,rfl,ham,hax⟩:=hf
       have HAX:=hideI hax
       clear e0 e1 e2 e3 hp hax
       obtain ⟨wi,rfl⟩:∃ wi:World,wi=wr:=⟨_,rfl⟩
       go_wp2_with (go_at_call 140;refine (irArgs_any _ _).mono ?_;rintro e w3 ⟨tv,rfl,htv,hbA⟩;obtain ⟨TK,tkc,rfl,htm,htx⟩:=htv;have HTX:=hideI htx;have HBA:=hideI hbA;have hB3:Hid (w3.heap[wi.heap.size]?=some (.cells #[.int .i64 x.op,.int .i64 x.id,.slice AA x.args.length ac,.int .i64 x.n] 68 (0,0))):=(hbA.block _ (by simp)).trans (heap_alloc_new wi _);have hx3:=row_cells hB3.out rfl;clear htx hbA)
       have HF3:Hid (Fr S w.heap.size B W1 w3):=(HFj2.out.alloc (by omega) _).trans (Fr.of_below HBA.out (by simp;omega))
       have HI3:Hid (I (us3 ++ (q.code.take j2).flatMap usesInstr) w3):=HST.out _ _ _ (HST.out.alloc HIj2.out _) HBA.out
       obtain ⟨us4,hus4⟩:∃ us4,us4=us3 ++ (q.code.take j2).flatMap usesInstr:=⟨_,rfl⟩
       rw [← hus4] at HI3
       have HU4:=hideI hus4
       clear hus4 hx3 hx1
       go_loopw [63] (fun i wr => ∃ m:Nat,m ≤ x.args.length ∧ i=.int .i64 m ∧ I (us4 ++ (x.args.take m).zip ((takesS x.op).take m)) wr ∧ Fr S w.heap.size B w3 wr) (fun i _ => x.args.length - (intOf i).toNat)
       case atStart => exact ⟨0,Nat.zero_le _,rfl,by simpa using HI3.out,Fr.refl _⟩
       case round =>
        obtain ⟨m,hm,rfl,hIm,hFm⟩:=hrel
        have HIm:=hideI hIm
        have HFm:=hideI hFm
        have hx2:=hFm.row hB3.out (by omega)
        have HK2:=hideI ((hF0.out.trans HF1.out).trans (HF3.out.trans hFm)).keeps
        have hsz2:w.heap.size ≤ wr.heap.size:=by have h1:=hFm.size;have h2:=(Array.getElem?_eq_some_iff.1 hB3.out).1;omega
        clear hIm hFm
        by_cases hlm:m < x.args.length
        ·obtain ⟨b3,off3,rfl,hb3,e3⟩:=HAX.out m hlm
         obtain ⟨v,hv⟩:∃ v,x.args[m]?=some v:=⟨_,List.getElem?_eq_getElem hlm⟩
         have hlt2:m < (takesS x.op).length:=by rw [← hxl.out];exact hlm
         obtain ⟨t,ht⟩:∃ t,(takesS x.op)[m]?=some t:=⟨_,List.getElem?_eq_getElem hlt2⟩
         obtain ⟨g,cs,rfl,hg,hgb,hgc⟩:=HTX.out (by omega)
         have hgx:=(HFm.out.row hgb (by simp at hg;omega) m).trans (hgc m hlt2)
         rw [hv] at e3
         rw [ht] at hgx
         have f3:=(HK2.out b3 (off3 + m) hb3).trans e3
         simp only [Option.getD_some] at f3 hgx
         have HV:=hideI hv
         have HT2:=hideI ht
         have HIV:Hid (I64 v):=HID.out _ (mem_instr HQ.out HQ2.out hv ht)
         clear e3 hv ht hgb hgc
         go_wp2_with (go_at_call 162;refine (HS.out _ v t _ HIV.out HIm.out hsz2).mono ?_;rintro e w4 ⟨rfl,hI4,hF4⟩;have HI4:=hideI hI4;have HF4:=hideI hF4;clear hI4 hF4)
         go_roundw
         case rel => exact ⟨m + 1,by omega,by go_num,by rw [zip_take_at _ _ _ _ _ HV.out HT2.out,← List.append_assoc];exact HI4.out,HFm.out.trans HF4.out⟩
         case measure => simp [intOf];omega
        ·have HIe:Hid (I (us4 ++ usesInstr x) wr):=by
          have:=HIm.out
          rw [List.take_of_length_le (by omega),List.take_of_length_le (by rw [← hxl.out];omega)] at this
          exact this
         go_wp2
         go_roundw
         case rel => exact ⟨j2 + 1,by omega,by go_num,by rw [flat_take _ _ _ _ HQ2.out,← List.append_assoc,← HU4.out];exact HIe.out,HF3.out.trans HFm.out⟩
         case measure => simp [intOf];omega
      ·have HIe:Hid (I (us3 ++ q.code.flatMap usesInstr) wr):=by have:=HIj2.out;rw [List.take_of_length_le (by omega)] at this;exact this
       have HUB:Hid (us0 ++ (bs.take (k + 1)).flatMap usesBlock=(us3 ++ q.code.flatMap usesInstr) ++ usesTerm q.term):=by
        show _=_
        rw [flat_take _ _ _ _ HQ.out,HU3.out,HU1.out]
        simp only [usesBlock,List.append_assoc]
       have hszr:w.heap.size ≤ wr.heap.size:=by omega
       cases h2:q.term.op == 2
       ·cases h3:q.term.op == 3
        ·have hu:usesTerm q.term=[]:=by
          unfold usesTerm
          rw [if_neg (by simpa using h2),if_neg (by simpa using h3)]
         have HU:=hideI hu
         clear hu
         go_wp2
         go_roundw
         case rel => exact ⟨k + 1,by omega,by go_num,by rw [HUB.out,HU.out,List.append_nil];exact HIe.out,HF1.out.trans HFj2.out⟩
         case measure => simp [intOf];omega
        ·have hu:usesTerm q.term=[(q.term.val,0)]:=by
          unfold usesTerm
          rw [if_neg (by simpa using h2),if_pos (by simpa using h3)]
         have HU:=hideI hu
         have HIT:Hid (I64 q.term.val):=HID.out (q.term.val,0) (mem_term HQ.out (by rw [hu];exact List.mem_singleton.2 rfl))
         clear hu
         go_wp2_with (go_at_call 162;refine (HS.out _ _ _ _ HIT.out HIe.out hszr).mono ?_;rintro e w4 ⟨rfl,hI4,hF4⟩;have HI4:=hideI hI4;have HF4:=hideI hF4;clear hI4 hF4)
         go_roundw
         case rel => exact ⟨k + 1,by omega,by go_num,by rw [HUB.out,HU.out];exact HI4.out,(HF1.out.trans HFj2.out).trans HF4.out⟩
         case measure => simp [intOf];omega
       ·have hu:usesTerm q.term=[(q.term.val,2)]:=by
         unfold usesTerm
         rw [if_pos (by simpa using h2)]
        have HU:=hideI hu
        have HIT:Hid (I64 q.term.val):=HID.out (q.term.val,2) (mem_term HQ.out (by rw [hu];exact List.mem_singleton.2 rfl))
        clear hu
        go_wp2_with (go_at_call 162;refine (HS.out _ _ _ _ HIT.out HIe.out hszr).mono ?_;rintro e w4 ⟨rfl,hI4,hF4⟩;have HI4:=hideI hI4;have HF4:=hideI hF4;clear hI4 hF4)
        go_roundw
        case rel => exact ⟨k + 1,by omega,by go_num,by rw [HUB.out,HU.out];exact HI4.out,(HF1.out.trans HFj2.out).trans HF4.out⟩
        case measure => simp [intOf];omega
  ·go_wp2
   go_end0
   refine ⟨rfl,?_,hF0.out.trans HFk.out⟩
   have:=HIk.out
   rw [List.take_of_length_le (by omega)] at this
   exact this
end Go.Proofs.YtaehbgppfahdeaaGreat.each3

namespace Go.Proofs.YtaehbgppfahdeaaGreat
open Go.RowKit Go.Maps
structure SeenC (ds:Defs) (cs:Array Value) (M LB UB FB:Nat) (us:List (Int × Int)) (w:World):Prop where
 map:MapIs w M ds
 look:w.heap[LB]?=some (.cells cs 129 (0,0))
 unk:w.heap[UB]?=some (.cells #[.bool (unknownB ds us)] 4 (0,0))
 unf:w.heap[FB]?=some (.cells #[.bool (unfitB ds us)] 4 (0,0))
theorem lt_of_heap {w:World} {b:Nat} {o:Obj} (h:w.heap[b]?=some o):b < w.heap.size:=(Array.getElem?_eq_some_iff.1 h).1
theorem SeenC.stays {ds:Defs} {cs:Array Value} {M LB UB FB:Nat}:each3.Stays (SeenC ds cs M LB UB FB):=fun _ _ _ h hb =>
 ⟨h.map.below hb h.map.lt,(hb.block _ (lt_of_heap h.look)).trans h.look,(hb.block _ (lt_of_heap h.unk)).trans h.unk,(hb.block _ (lt_of_heap h.unf)).trans h.unf⟩
theorem unknown_snoc (ds:Defs) (us:List (Int × Int)) (id t:Int):unknownB ds (us ++ [(id,t)])=(unknownB ds us || !(ds.at id).isSome):=by
 unfold unknownB
 rw [List.any_append]
 simp
theorem unfit_snoc (ds:Defs) (us:List (Int × Int)) (id t:Int):unfitB ds (us ++ [(id,t)])=(unfitB ds us || (match ds.at id with | some k => t != 0 && k != t | none => false)):=by
 unfold unfitB
 rw [List.any_append,List.any_cons,List.any_nil,Bool.or_false]
 rfl
theorem MapIs.set_ {w:World} {M:Nat} {ds:Defs} (h:MapIs w M ds) {p:Addr} (u:Value) (hp:p.block ≠ M):MapIs (w.setCell p u) M ds:=by
 obtain ⟨D,⟨es,clock,hg,r⟩,q⟩:=h
 exact ⟨D,⟨es,clock,(Below.heap_setCell _ _ _ _ (by omega)).trans hg,r⟩,q⟩
theorem one_set {w:World} {g:Nat} {v u:Value} {t:TypeId} (h:w.heap[g]?=some (.cells #[v] t (0,0))):(w.setCell ⟨g,0,none⟩ u).heap[g]?=some (.cells #[u] t (0,0)):=one_setCell h
theorem Fr.set_ {S:List Nat} {N B:Nat} {w:World} {p:Addr} (u:Value) (h1:B ≤ p.block) (h2:p.block < N) (h3:p.block ∈ S):Fr S N B w (w.setCell p u) :=
 ⟨rfl,rfl,rfl,by simp [World.setCell],fun b hb _ => Below.heap_setCell _ _ _ _ (by omega),fun b hb => Below.heap_setCell _ _ _ _ (by omega),fun b _ hb => Below.heap_setCell _ _ _ _ (fun e => hb (e ▸ h3))⟩
theorem sees_some {ds:Defs} {cs:Array Value} {M LB UB FB:Nat} {us:List (Int × Int)} {w:World} {id taken t:Int} (h:SeenC ds cs M LB UB FB us w) (hd:ds.at id=some t) (hf:(taken != 0 && t != taken)=false) :
  SeenC ds cs M LB UB FB (us ++ [(id,taken)]) w :=
 ⟨h.map,h.look,by rw [unknown_snoc,hd];simpa using h.unk,by rw [unfit_snoc,hd];simp only [hf,Bool.or_false];exact h.unf⟩
theorem sees_unfit {ds:Defs} {cs:Array Value} {M LB UB FB:Nat} {us:List (Int × Int)} {w:World} {id taken t:Int} (h:SeenC ds cs M LB UB FB us w) (hd:ds.at id=some t) (hf:(taken != 0 && t != taken)=true)
  (h1:FB ≠ M) (h2:FB ≠ LB) (h3:FB ≠ UB):SeenC ds cs M LB UB FB (us ++ [(id,taken)]) (w.setCell ⟨FB,0,none⟩ (.bool true)) :=
 ⟨h.map.set_ _ h1,(Below.heap_setCell _ _ _ _ (by simpa using h2.symm)).trans h.look,by rw [unknown_snoc,hd,Below.heap_setCell _ _ _ _ (by simpa using h3.symm)];simpa using h.unk,by rw [unfit_snoc,hd];simp only [hf,Bool.or_true];exact one_set h.unf⟩
theorem sees_none {ds:Defs} {cs:Array Value} {M LB UB FB:Nat} {us:List (Int × Int)} {w:World} {id taken:Int} (h:SeenC ds cs M LB UB FB us w) (hd:ds.at id=none)
  (h1:UB ≠ M) (h2:UB ≠ LB) (h3:UB ≠ FB):SeenC ds cs M LB UB FB (us ++ [(id,taken)]) (w.setCell ⟨UB,0,none⟩ (.bool true)) :=
 ⟨h.map.set_ _ h1,(Below.heap_setCell _ _ _ _ (by simpa using h2.symm)).trans h.look,by rw [unknown_snoc,hd];simp only [Option.isSome_none,Bool.not_false,Bool.or_true];exact one_set h.unk,by rw [unfit_snoc,hd,Below.heap_setCell _ _ _ _ (by simpa using h3.symm)];simpa using h.unf⟩
set_option maxHeartbeats 1000000 in
theorem seesC (ds:Defs) (pv av cv bv:Value) (M LB UB FB N B:Nat) (_hMB:B ≤ M) (_hMN:M < N) (hU:B ≤ UB) (hUN:UB < N) (hF:B ≤ FB) (hFN:FB < N) (h1:FB ≠ M) (h2:FB ≠ LB) (h3:FB ≠ UB) (h4:UB ≠ M) (h5:UB ≠ LB) :
  each3.Sees [UB,FB] N B (SeenC ds #[pv,av,cv,bv,.map (some M)] M LB UB FB) ⟨LB,0,none⟩ ⟨UB,0,none⟩ ⟨FB,0,none⟩:=by
 intro us id taken w hid hS hN
 obtain ⟨D,hown,hD,hwd,hat⟩:=hS.map
 have hh:=MapIs.has hat id
 have ha:=hat id (.lit (.int .i64 0))
 have hl:=row_cells hS.look rfl
 have hu:=row_cells hS.unk rfl
 have hf:=row_cells hS.unf rfl
 have hfu:=free_of_one hS.unk
 have hff:=free_of_one hS.unf
 have HS:=hideI hS
 have HI:=hideI hid
 have HA:=hideI ha
 clear hS hat hwd hid ha
 cases hd:ds.at id with
 | none =>
  rw [hd] at hh
  have HDD:=hideI hd
  clear hd
  go_enter Tryz.func162,Tryz.ntmps162
  go_wp2_with (at_lookup;refine wpList_lookup_own_ok_int _ rfl _ _ 127 rfl 3 3 .i64 lawInt Tryz.underlying127 Tryz.underlying3 (zeroInt _) M ds.length D rfl hown _ _ rfl (keyOf_int_mk Tryz.underlying3 HI.out) ?_;intro c1 hat1 hwc1)
  go_end0
  exact ⟨rfl,sees_none HS.out HDD.out h4 h5 h3.symm,Fr.set_ _ hU hUN (by simp)⟩
 | some t =>
  rw [hd] at hh
  have HDD:=hideI hd
  rw [hd] at HA
  clear hd
  cases c1:(taken != 0)
  ·go_enter Tryz.func162,Tryz.ntmps162
   go_wp2_with (at_lookup;refine wpList_lookup_own_ok_int _ rfl _ _ 127 rfl 3 3 .i64 lawInt Tryz.underlying127 Tryz.underlying3 (zeroInt _) M ds.length D rfl hown _ _ rfl (keyOf_int_mk Tryz.underlying3 HI.out) ?_;intro c1 hat1 hwc1;rw [HA.out] at hat1;injection hat1 with hat1;injection hat1 with _ hat1;subst hat1)
   go_end0
   exact ⟨rfl,sees_some HS.out HDD.out (by rw [c1];rfl),Fr.refl _⟩
  ·cases c2:(t != taken)
   ·go_enter Tryz.func162,Tryz.ntmps162
    go_wp2_with (at_lookup;refine wpList_lookup_own_ok_int _ rfl _ _ 127 rfl 3 3 .i64 lawInt Tryz.underlying127 Tryz.underlying3 (zeroInt _) M ds.length D rfl hown _ _ rfl (keyOf_int_mk Tryz.underlying3 HI.out) ?_;intro c1 hat1 hwc1;rw [HA.out] at hat1;injection hat1 with hat1;injection hat1 with _ hat1;subst hat1)
    go_end0
    exact ⟨rfl,sees_some HS.out HDD.out (by rw [c2];simp),Fr.refl _⟩
   ·go_enter Tryz.func162,Tryz.ntmps162
    go_wp2_with (at_lookup;refine wpList_lookup_own_ok_int _ rfl _ _ 127 rfl 3 3 .i64 lawInt Tryz.underlying127 Tryz.underlying3 (zeroInt _) M ds.length D rfl hown _ _ rfl (keyOf_int_mk Tryz.underlying3 HI.out) ?_;intro c1 hat1 hwc1;rw [HA.out] at hat1;injection hat1 with hat1;injection hat1 with _ hat1;subst hat1)
    go_end0
    exact ⟨rfl,sees_unfit HS.out HDD.out (by rw [c1,c2];rfl) h1 h2 h3,Fr.set_ _ hF hFN (by simp)⟩
def usesErr (ds:Defs) (us:List (Int × Int)):Int:=if unknownB ds us then 6 else if unfitB ds us then 3 else 0
set_option maxHeartbeats 1000000 in
theorem checkUses_any (f:FuncM) (ds:Defs) (B M:Nat) (pv av cv bv:Value) (w:World) (hbv:BlocksR w B bv f.blocks) (hBM:B ≤ M) (hM:MapIs w M ds)
  (hform:∀ b ∈ f.blocks,∀ x ∈ b.code,x.args.length=(takesS x.op).length) (hid:∀ u ∈ usesM f,I64 u.1) :
  Calls Tryz.prog 110 #[.agg #[pv,av,cv,bv,.map (some M)]] w fun e w' => e=.returned (.int .i64 (usesErr ds (usesM f))) ∧ Below w.heap.size w w':=by
 have hMl:=hM.lt
 have HM:=hideI hM
 have HB:=hideI hbv
 have HFO:=hideI hform
 have HID:=hideI hid
 obtain ⟨A,c,rfl,_⟩:=hbv
 clear hM hform hid
 have W3:∃ W3:World,W3=((w.alloc (.cells #[pv,av,cv,.slice A f.blocks.length c,.map (some M)] 129)).alloc (.cells #[.bool false] 4)).alloc (.cells #[.bool false] 4):=⟨_,rfl⟩
 obtain ⟨W3,hW3⟩:=W3
 have hsz:W3.heap.size=w.heap.size + 3:=by rw [hW3];simp
 have hBl:Below w.heap.size w W3:=by rw [hW3];exact ((((Below.refl _ w).alloc (Nat.le_refl _) _).alloc (by simp) _).alloc (by simp;omega) _)
 have h0:W3.heap[w.heap.size]?=some (.cells #[pv,av,cv,.slice A f.blocks.length c,.map (some M)] 129 (0,0)):=by
  rw [hW3,Below.heap_alloc _ _ _ (by simp;omega),Below.heap_alloc _ _ _ (by simp)]
  exact heap_alloc_new w _
 have h1:W3.heap[w.heap.size + 1]?=some (.cells #[.bool false] 4 (0,0)):=by
  rw [hW3,Below.heap_alloc _ _ _ (by simp)]
  have:=heap_alloc_new (w.alloc (.cells #[pv,av,cv,.slice A f.blocks.length c,.map (some M)] 129)) (.cells #[.bool false] 4)
  simpa using this
 have h2:W3.heap[w.heap.size + 1 + 1]?=some (.cells #[.bool false] 4 (0,0)):=by
  rw [hW3]
  have:=heap_alloc_new ((w.alloc (.cells #[pv,av,cv,.slice A f.blocks.length c,.map (some M)] 129)).alloc (.cells #[.bool false] 4)) (.cells #[.bool false] 4)
  simpa using this
 have hSee:SeenC ds #[pv,av,cv,.slice A f.blocks.length c,.map (some M)] M w.heap.size (w.heap.size + 1) (w.heap.size + 1 + 1) [] W3 :=
  ⟨HM.out.below hBl hMl,h0,h1,h2⟩
 have HC:=hideI (each3.each_any [w.heap.size + 1,w.heap.size + 1 + 1] f.blocks (SeenC ds #[pv,av,cv,.slice A f.blocks.length c,.map (some M)] M w.heap.size (w.heap.size + 1) (w.heap.size + 1 + 1)) ⟨w.heap.size,0,none⟩ ⟨w.heap.size + 1,0,none⟩ ⟨w.heap.size + 1 + 1,0,none⟩ B pv av cv (.slice A f.blocks.length c) (.map (some M)) [] W3
  (HB.out.keeps (Keeps.of_below (hBl.mono (by omega)))) (by omega) hSee (seesC ds pv av cv _ M _ _ _ _ B hBM (by omega) (by omega) (by omega) (by omega) (by omega) (by omega) (by omega) (by omega) (by omega) (by omega)) SeenC.stays HFO.out HID.out)
 have HSZ:=hideI hsz
 have HBl:=hideI hBl
 clear h0 h1 h2 hSee hsz hBl
 subst hW3
 have hend:∀ w4,SeenC ds #[pv,av,cv,.slice A f.blocks.length c,.map (some M)] M w.heap.size (w.heap.size + 1) (w.heap.size + 1 + 1) (usesM f) w4 → (∀ o,w4.cell? ⟨w.heap.size + 1,o,none⟩=(#[Value.bool (unknownB ds (usesM f))]:Array Value)[o]?) ∧ (∀ o,w4.cell? ⟨w.heap.size + 1 + 1,o,none⟩=(#[Value.bool (unfitB ds (usesM f))]:Array Value)[o]?) :=
  fun w4 h => ⟨row_cells h.unk rfl,row_cells h.unf rfl⟩
 have HEND:=hideI hend
 clear hend
 cases c1:unknownB ds (usesM f) <;> cases c2:unfitB ds (usesM f)
 all_goals
  have HC1:=hideI c1
  have HC2:=hideI c2
  go_enter Tryz.func110,Tryz.ntmps110
  go_wp2_with (go_at_call 161;refine HC.out.mono ?_;rintro e w4 ⟨rfl,hS4,hF4⟩;obtain ⟨k1,k2⟩:=HEND.out w4 hS4;have HF4:=hideI hF4;clear hS4 hF4)
  go_ret
  refine ⟨by unfold usesErr;rw [HC1.out,HC2.out];rfl,HBl.out.trans ⟨HF4.out.os,HF4.out.tape,HF4.out.output,HF4.out.size,fun b hb => HF4.out.rest b (by rw [HSZ.out];omega) (by simp;omega)⟩⟩
end Go.Proofs.YtaehbgppfahdeaaGreat
