/- What is proved: for every function f, in whatever memory it lies, ClosedChecks answers true: closed.Check tells the least value that leaves a loop openly, as the reference does. No condition. -/
import Derived.Test.YtaehbgppfahdeaaGreatPkClosedChecks23
import Derived.IntWalk
import Derived.BigQuiet
import Derived.Deep.QuietTactic
namespace Go.Proofs.YtaehbgppfahdeaaGreat.closedChecks
open Go.ChangeShapes Go.WideShapes Go.ChangeAt Go.RowKit Go.Maps
def ResM (S:Int→Prop) (h c:Int):Prop :=
 ((∀ y,¬ S y)∧h=0∧c=0)∨(SBest S h∧0≤h∧c=11)
theorem open_nn {f:FuncM} {D L:Nat→Nat→Bool} (h0:(lookM f).1=0) (hid:∀ u∈usesM f,I64 u.1) {id:Int} (h:OpenF f D L id):0≤id:=by
 have hfh:=form_hyps h0
 obtain⟨j,r,_,hj,e,_⟩:=(open_rows hfh.1 id).1 h
 obtain⟨x,b,a,ma,hk⟩:=row_known h0 hid hfh.1 (List.mem_of_getElem? hj)
 rw[← e,hk.id_]
 exact hk.nn
set_option maxRecDepth 100000 in
set_option maxHeartbeats 2000000 in
theorem walk_no (f:FuncM) (pv bv:Value) (w:World) (hF:FnIn w f pv bv) (hno:¬ ∃ o,StrictM f o) :
  Calls Tryz.prog 6 #[.agg #[pv,.int .i64 f.arrays,.int .i64 f.cells,bv]] w fun e w'=>e=.returned (.bool true)∧Below w.heap.size w w':=by
 have HF:=hideI hF
 have HID:=hideI (uses_i64 hF.ok)
 obtain⟨P,pc,hpv,_⟩:=hF.par
 obtain⟨A,cc,hbv,_⟩:=hF.blk
 subst hpv hbv
 have HB:Hid (Below w.heap.size w (w.alloc (.cells #[.slice P f.params.length pc,.int .i64 f.arrays,.int .i64 f.cells,.slice A f.blocks.length cc] 25))):=(Below.refl _ w).alloc (Nat.le_refl _) _
 have HX:=hideI (heap_alloc_new w (.cells #[.slice P f.params.length pc,.int .i64 f.arrays,.int .i64 f.cells,.slice A f.blocks.length cc] 25))
 have HNG:Hid (∀ o,StrictM f o→False):=fun o h=>hno ⟨o,h⟩
 clear hF hno
 go_enter Tryz.func6,Tryz.ntmps6
 go_wp2_with (first
  | (go_at_call 20;go_must (refine(clCheck_any f w.heap.size _ _ _ (HF.out.par.keeps (Keeps.of_below HB.out)) (HF.out.blk.keeps (Keeps.of_below HB.out)) HB.out.size HID.out (fun h=>form_fewv (form_bd (look_formed h)))).mono ?_);rintro e w1 (⟨x,y,hci,hy,rfl,hb⟩|⟨o,_,_,_,_,hk,_⟩);rotate_left;(exact(HNG.out o hk.strict).elim);have hyb:(y != 0)=true:=(by rw[bne_iff_ne];exact hy);have hyy:(y==y)=true:=(by simp);have HCI:=hideI hci;replace HX:=hideI ((hb.block _ (lt_of_heap HX.out)).trans HX.out);have hx:=row_cells HX.out rfl;have q0:=hx 0;have q1:=hx 1;have q2:=hx 2;have q3:=hx 3;clear hx;replace HB:=hideI (HB.out.trans (hb.mono HB.out.size));clear hb hci hy)
  | (go_at_call 17;go_must (refine(refStrict_any f w.heap.size _ _ _ (HF.out.par.keeps (Keeps.of_below HB.out)) (HF.out.blk.keeps (Keeps.of_below HB.out)) HB.out.size HID.out order_exists).mono ?_);rintro e w2 ⟨x2,y2,rfl,hci,hb⟩;obtain⟨rfl,rfl⟩:=Prod.mk.inj (hci.one HCI.out);replace HB:=hideI (HB.out.trans (hb.mono HB.out.size));clear hb hci)
  | (go_at_call 21;refine(awake11_any _).mono ?_;rintro e w5 ⟨rfl,hb⟩;replace HB:=hideI (HB.out.trans (hb.mono HB.out.size));clear hb))
 go_ret
 exact⟨rfl,HB.out⟩
set_option maxRecDepth 100000 in
set_option maxHeartbeats 4000000 in
theorem walk_yes (f:FuncM) (o0:List Nat) (pv bv:Value) (w:World) (hF:FnIn w f pv bv) (hs:StrictM f o0) :
  Calls Tryz.prog 6 #[.agg #[pv,.int .i64 f.arrays,.int .i64 f.cells,bv]] w fun e w'=>e=.returned (.bool true)∧Below w.heap.size w w':=by
 have HF:=hideI hF
 have HID:=hideI (uses_i64 hF.ok)
 obtain⟨P,pc,hpv,_⟩:=hF.par
 obtain⟨A,cc,hbv,_⟩:=hF.blk
 subst hpv hbv
 have HB:Hid (Below w.heap.size w (w.alloc (.cells #[.slice P f.params.length pc,.int .i64 f.arrays,.int .i64 f.cells,.slice A f.blocks.length cc] 25))):=(Below.refl _ w).alloc (Nat.le_refl _) _
 have HX:=hideI (heap_alloc_new w (.cells #[.slice P f.params.length pc,.int .i64 f.arrays,.int .i64 f.cells,.slice A f.blocks.length cc] 25))
 have HS:=hideI hs
 have HN5:=hideI (look_some_block hs.look).2
 have HN0:=hideI (look_some_block hs.look).1
 have HIN:=hideI (look_ends hs.look)
 clear hF hs
 go_enter Tryz.func6,Tryz.ntmps6
 go_upto_region 7 with(first
  | (go_at_call 20;go_must (refine(clCheck_any f w.heap.size _ _ _ (HF.out.par.keeps (Keeps.of_below HB.out)) (HF.out.blk.keeps (Keeps.of_below HB.out)) HB.out.size HID.out (fun h=>form_fewv (form_bd (look_formed h)))).mono ?_);rintro e w1 (⟨x,y,hci,hy,_⟩|⟨o,pl,par,D,L,hk,hres,hb⟩);(exact absurd (Prod.mk.inj (HS.out.check hci)).2 hy);(obtain⟨h,c,rfl,hr⟩:∃ h c:Int,e=.returned (.tuple #[.int .i64 h,.int .i64 c])∧ResM (OpenF f D L) h c:=(by rcases hres with⟨hall,rfl⟩|⟨x,hx,hle,rfl⟩;exact⟨0,0,rfl,.inl ⟨hall,rfl,rfl⟩⟩;have h0x:=open_nn HS.out.look HID.out hx;exact⟨x,11,rfl,.inr ⟨.inr ⟨h0x,hx,hle⟩,h0x,rfl⟩⟩));have HK:=hideI hk;have HR:=hideI hr;replace HX:=hideI ((hb.block _ (lt_of_heap HX.out)).trans HX.out);have hx:=row_cells HX.out rfl;have q0:=hx 0;have q1:=hx 1;have q2:=hx 2;have q3:=hx 3;clear hx;replace HB:=hideI (HB.out.trans (hb.mono HB.out.size));clear hb hk hres hr)
  | (go_at_call 17;go_must (refine(refStrict_any f w.heap.size _ _ _ (HF.out.par.keeps (Keeps.of_below HB.out)) (HF.out.blk.keeps (Keeps.of_below HB.out)) HB.out.size HID.out order_exists).mono ?_);rintro e w2 ⟨x2,y2,rfl,hci,hb⟩;obtain⟨rfl,rfl⟩:=Prod.mk.inj (HS.out.check hci);clear q0 q1 q2 q3;replace HX:=hideI ((hb.block _ (lt_of_heap HX.out)).trans HX.out);have hx:=row_cells HX.out rfl;have q0:=hx 0;have q1:=hx 1;have q2:=hx 2;have q3:=hx 3;clear hx;replace HB:=hideI (HB.out.trans (hb.mono HB.out.size));clear hb hci)
  | (go_at_call 21;refine(awake11_any _).mono ?_;rintro e w5 ⟨rfl,hb⟩;clear q0 q1 q2 q3;replace HX:=hideI ((hb.block _ (lt_of_heap HX.out)).trans HX.out);have hx:=row_cells HX.out rfl;have q0:=hx 0;have q1:=hx 1;have q2:=hx 2;have q3:=hx 3;clear hx;replace HB:=hideI (HB.out.trans (hb.mono HB.out.size));clear hb))
 rcases HR.out with⟨hr,rfl,rfl⟩|⟨hr,h0,rfl⟩
 ·have HFR:Hid (SBest (OpenF f D L) (-1)):=hideI (.inl ⟨rfl,hr⟩)
  clear hr
  go_wp2_with (go_at_call 22;go_must (refine(refFirst11_any f o pl par D L w.heap.size _ _ _ _ _ _ _ HK.out HID.out (form_fewv (form_bd (look_formed HS.out.look))) (form_few (look_formed HS.out.look)) (HF.out.par.keeps (Keeps.of_below HB.out)) (HF.out.blk.keeps (Keeps.of_below HB.out)) HB.out.size rfl rfl).mono ?_);rintro e w6 ⟨r,rfl,hr2,hb⟩;obtain rfl:=hr2.one HFR.out;replace HB:=hideI (HB.out.trans (hb.mono HB.out.size));clear hb hr2 q0 q1 q2 q3)
  go_ret
  exact⟨rfl,HB.out⟩
 ·have HFR:=hideI hr
  have hn:¬ (h<0):=by omega
  have hhh:(h==h)=true:=by simp
  clear hr
  go_wp2_with (go_at_call 22;go_must (refine(refFirst11_any f o pl par D L w.heap.size _ _ _ _ _ _ _ HK.out HID.out (form_fewv (form_bd (look_formed HS.out.look))) (form_few (look_formed HS.out.look)) (HF.out.par.keeps (Keeps.of_below HB.out)) (HF.out.blk.keeps (Keeps.of_below HB.out)) HB.out.size rfl rfl).mono ?_);rintro e w6 ⟨r,rfl,hr2,hb⟩;obtain rfl:=hr2.one HFR.out;replace HB:=hideI (HB.out.trans (hb.mono HB.out.size));clear hb hr2 q0 q1 q2 q3)
  go_ret
  exact⟨rfl,HB.out⟩
theorem walk (f:FuncM) (pv bv:Value) (w:World) (hF:FnIn w f pv bv) :
  Calls Tryz.prog 6 #[.agg #[pv,.int .i64 f.arrays,.int .i64 f.cells,bv]] w fun e w'=>e=.returned (.bool true)∧Below w.heap.size w w':=by
 by_cases h:∃ o,StrictM f o
 ·obtain⟨o,ho⟩:=h
  exact walk_yes f o pv bv w hF ho
 ·exact walk_no f pv bv w hF h
set_option maxRecDepth 100000 in
theorem lifted (os:Os) (started:os.Started) (H:Type) (enc:TypeId×Value→H) :
  ReturnsInHanded {} Tryz.checked os 6 .any (Rows.closedChecksSpec.pre6 enc Tryz.prog Tryz.f6 Rows.closedChecksRow.domain false) (Rows.closedChecksSpec.post enc Tryz.prog Tryz.f6 false true false false):=by
 refine returnsInHanded_of_change_sized (C:=Tryz.checked) own started (by kernel_rfl) Tryz.func6
  (ChangeSpec.witness6 (enc:=enc) (C:=Tryz.checked) false ⟨#[],#[.agg #[.slice none 0 0,.int .i64 0,.int .i64 0,.slice none 0 0]],[]⟩ 8 (by kernel_rfl) (by kernel_rfl) (by kernel_rfl) (by kernel_rfl)) ?_
 intro W base args ds gs before hval0 hW hcnd hsz _
 have hval:∀ (j:Nat) t v,Tryz.f6.params[j]?=some t→args[j]?=some v→Value.okWide Tryz.prog W .any base t v:=hval0
 have hW':=hW
 obtain⟨p,q,hA0,hV,rfl,hfz,hnd⟩:=hW
 have hA:DataW.TrodAll enc Tryz.prog W 0 (fun _=>true) true Tryz.f6.params.toList args.toList ds p:=hA0
 rw[Tryz.params6]at hA hval
 obtain⟨v0,vs0,d0,ds0,p0,q0,hargs,rfl,rfl,h0,r0⟩:=trodAll_cons hA
 obtain⟨rfl,rfl,rfl⟩:=trodAll_nil r0
 obtain rfl:args=#[v0]:=by cases args;simp_all
 obtain⟨rfl,rfl⟩:=trodVars_none hV
 obtain⟨f,pv,bv,rfl,hF⟩:=open_func (hval 0 25 v0 rfl rfl) h0 hsz (j:=0) rfl rfl
 clear hA0 hval0
 refine(walk f pv bv W hF).mono fun e W' ⟨he,hg⟩=>?_
 subst he
 exact⟨_,rfl,law_post (by kernel_rfl) hW' rfl (by kernel_rfl) Tryz.underlying4 rfl rfl rfl (by rw[Tryz.params6];decide +kernel) hg⟩
theorem over:Rows.closedChecksRow.holds Tryz.pinned (OpenSpec.ofChange Rows.closedChecksSpec) :=
 OpenClaim.holds_of_wide 6 Tryz.f6 rfl rfl rfl rfl rfl rfl rfl ⟨rfl,rfl,rfl,rfl,rfl⟩ rfl rfl rfl rfl rfl (by kernel_rfl) Tryz.func6 (by kernel_rfl)
  (of_decide_eq_true (by kernel_rfl)) (by unfold Func.isWrapper;first|(rw[if_pos (by decide +kernel)];kernel_rfl)|(rw[if_neg (by decide +kernel)];exact⟨rfl,rfl⟩))
  (fun os started H enc _=>lifted os started H enc)
theorem proved:Rows.ClosedChecksSaid:=over
#print axioms proved
end Go.Proofs.YtaehbgppfahdeaaGreat.closedChecks
