/- What is proved: for every function f and every two values, in whatever memory f lies, EditReplaces answers true: edit.Replace makes what the reference's Replace makes. No condition. -/
import Derived.Test.YtaehbgppfahdeaaGreatPkEditReplaces22
import Derived.IntWalk
import Derived.BigQuiet
import Derived.Deep.QuietTactic
namespace Go.Proofs.YtaehbgppfahdeaaGreat.editReplaces
open Go.ChangeShapes Go.WideShapes Go.ChangeAt Go.RowKit Go.Maps
theorem blocksNil (w:World):BlocksR w 0 (.slice none 0 0) []:=⟨none,0,rfl,by simp,fun k q hq => by simp at hq⟩
set_option maxRecDepth 100000 in
set_option maxHeartbeats 4000000 in
theorem walk_zero (f:FuncM) (pv bv:Value) (old now:Int) (w:World) (hF:FnIn w f pv bv) (Q:Int → Prop) (hQ:∀ y z,Q y → Q z → y=z) (he:∀ W,Below w.heap.size w W → Calls Tryz.prog 9 #[.agg #[pv,.int .i64 f.arrays,.int .i64 f.cells,bv],.int .i64 old,.int .i64 now] W fun e w' => ∃ y,Q y ∧ e=.returned (.tuple #[.agg #[.slice none 0 0,.int .i64 0,.int .i64 0,.slice none 0 0],.int .i64 y]) ∧ Below W.heap.size W w') (hr:∀ W,Below w.heap.size w W → Calls Tryz.prog 10 #[.agg #[pv,.int .i64 f.arrays,.int .i64 f.cells,bv],.int .i64 old,.int .i64 now] W fun e w' => ∃ y,Q y ∧ e=.returned (.tuple #[.agg #[.slice none 0 0,.int .i64 0,.int .i64 0,.slice none 0 0],.int .i64 y]) ∧ Below W.heap.size W w') :
  Calls Tryz.prog 3 #[.agg #[pv,.int .i64 f.arrays,.int .i64 f.cells,bv],.int .i64 old,.int .i64 now] w fun e w' => e=.returned (.bool true) ∧ Below w.heap.size w w':=by
 have HF:=hideI hF
 have HE:=hideI he
 have HR:=hideI hr
 have HQ:=hideI hQ
 clear he hr hQ
 obtain ⟨P,pc,hpv,_⟩:=hF.par
 obtain ⟨A,cc,hbv,_⟩:=hF.blk
 subst hpv hbv
 have HB:Hid (Below w.heap.size w (w.alloc (.cells #[.slice P f.params.length pc,.int .i64 f.arrays,.int .i64 f.cells,.slice A f.blocks.length cc] 25))):=(Below.refl _ w).alloc (Nat.le_refl _) _
 have HX:=hideI (heap_alloc_new w (.cells #[.slice P f.params.length pc,.int .i64 f.arrays,.int .i64 f.cells,.slice A f.blocks.length cc] 25))
 clear hF
 go_enter Tryz.func3,Tryz.ntmps3
 go_upto_region 2 with (go_at_call 9;go_must (refine (HE.out _ HB.out).mono ?_);rintro e w1 ⟨y,hy,rfl,hb⟩;have HPY:=hideI hy;clear hy;replace HX:=hideI ((hb.block _ (lt_of_heap HX.out)).trans HX.out);replace HB:=hideI (HB.out.trans (hb.mono HB.out.size));clear hb)
 obtain ⟨W2,hW2⟩:∃ W2,W2=w1.alloc (.cells #[.slice none 0 0,.int .i64 0,.int .i64 0,.slice none 0 0] 25):=⟨_,rfl⟩
 have hb2:Below w1.heap.size w1 W2:=by rw [hW2];exact (Below.refl _ w1).alloc (Nat.le_refl _) _
 have HY:Hid (W2.heap[w1.heap.size]?=some (.cells #[.slice none 0 0,.int .i64 0,.int .i64 0,.slice none 0 0] 25 (0,0))):=hideI (by rw [hW2];exact heap_alloc_new w1 _)
 rw [← hW2]
 obtain ⟨g2,hg2⟩:∃ g,g=w1.heap.size:=⟨_,rfl⟩
 rw [← hg2] at HY ⊢
 replace HX:=hideI ((hb2.block _ (lt_of_heap HX.out)).trans HX.out)
 replace HB:=hideI (HB.out.trans (hb2.mono HB.out.size))
 have HB2:=hideI hb2
 clear hW2 hb2 hg2
 have hx:=row_cells HX.out rfl
 have q0:=hx 0
 have q1:=hx 1
 have q2:=hx 2
 have q3:=hx 3
 clear hx
 go_upto_region 3 with (go_at_call 10;go_must (refine (HR.out _ HB.out).mono ?_);rintro e w3 ⟨z,hz,rfl,hb⟩;obtain rfl:=HQ.out _ _ HPY.out hz;have hyy:(y == y)=true:=(by simp);clear hz;replace HY:=hideI ((hb.block _ (lt_of_heap HY.out)).trans HY.out);have HB3:=hideI hb;replace HB:=hideI (HB.out.trans (hb.mono HB.out.size));clear hb q0 q1 q2 q3)
 obtain ⟨W4,hW4⟩:∃ W4,W4=w3.alloc (.cells #[.slice none 0 0,.int .i64 0,.int .i64 0,.slice none 0 0] 25):=⟨_,rfl⟩
 have hb4:Below w3.heap.size w3 W4:=by rw [hW4];exact (Below.refl _ w3).alloc (Nat.le_refl _) _
 have HZ:Hid (W4.heap[w3.heap.size]?=some (.cells #[.slice none 0 0,.int .i64 0,.int .i64 0,.slice none 0 0] 25 (0,0))):=hideI (by rw [hW4];exact heap_alloc_new w3 _)
 rw [← hW4]
 obtain ⟨g4,hg4⟩:∃ g,g=w3.heap.size:=⟨_,rfl⟩
 rw [← hg4] at HZ ⊢
 replace HY:=hideI ((hb4.block _ (lt_of_heap HY.out)).trans HY.out)
 replace HB:=hideI (HB.out.trans (hb4.mono HB.out.size))
 have HB4:=hideI hb4
 clear hW4 hb4 hg4
 go_wp2_with (first
  | (go_at_call 11;refine (awake7_any _).mono ?_;rintro e w5 ⟨rfl,hb⟩;have HB5:=hideI hb;have hy:=row_cells ((hb.block _ (lt_of_heap HY.out)).trans HY.out) rfl;have q0:=hy 0;have q1:=hy 1;have q2:=hy 2;have q3:=hy 3;have hz:=row_cells ((hb.block _ (lt_of_heap HZ.out)).trans HZ.out) rfl;have r0:=hz 0;have r1:=hz 1;have r2:=hz 2;have r3:=hz 3;clear hy hz hb)
  | (go_at_call 12;refine (same_yes ⟨[],0,0,[]⟩ 0 _ _ _ _ _ (Ints.nil _ _) (blocksNil _) (Ints.nil _ _) (blocksNil _) (Nat.zero_le _)).mono ?_;rintro e w6 ⟨rfl,hb⟩;have HB6:=hideI (HB5.out.trans (hb.mono HB5.out.size));clear hb))
 go_ret
 exact ⟨rfl,HB.out.trans (HB6.out.mono HB.out.size)⟩
set_option maxRecDepth 100000 in
set_option maxHeartbeats 4000000 in
theorem walk_ok (f:FuncM) (pv bv:Value) (old now:Int) (w:World) (hF:FnIn w f pv bv) (G:FuncM) (he:(∀ W,Below w.heap.size w W → Calls Tryz.prog 9 #[.agg #[pv,.int .i64 f.arrays,.int .i64 f.cells,bv],.int .i64 old,.int .i64 now] W fun e w' => ∃ (P1 A1:Option Addr) (n1 c1 m1 d1:Nat),e=.returned (.tuple #[.agg #[.slice P1 n1 c1,.int .i64 G.arrays,.int .i64 G.cells,.slice A1 m1 d1],.int .i64 0]) ∧ Ints w' w'.heap.size (.slice P1 n1 c1) G.params ∧ BlocksR w' w'.heap.size (.slice A1 m1 d1) G.blocks ∧ Below W.heap.size W w')) (hr:(∀ W,Below w.heap.size w W → Calls Tryz.prog 10 #[.agg #[pv,.int .i64 f.arrays,.int .i64 f.cells,bv],.int .i64 old,.int .i64 now] W fun e w' => ∃ (P1 A1:Option Addr) (n1 c1 m1 d1:Nat),e=.returned (.tuple #[.agg #[.slice P1 n1 c1,.int .i64 G.arrays,.int .i64 G.cells,.slice A1 m1 d1],.int .i64 0]) ∧ Ints w' w'.heap.size (.slice P1 n1 c1) G.params ∧ BlocksR w' w'.heap.size (.slice A1 m1 d1) G.blocks ∧ Below W.heap.size W w')) :
  Calls Tryz.prog 3 #[.agg #[pv,.int .i64 f.arrays,.int .i64 f.cells,bv],.int .i64 old,.int .i64 now] w fun e w' => e=.returned (.bool true) ∧ Below w.heap.size w w':=by
 have HF:=hideI hF
 have HE:=hideI he
 have HR:=hideI hr
 clear he hr
 obtain ⟨P,pc,hpv,_⟩:=hF.par
 obtain ⟨A,cc,hbv,_⟩:=hF.blk
 subst hpv hbv
 have HB:Hid (Below w.heap.size w (w.alloc (.cells #[.slice P f.params.length pc,.int .i64 f.arrays,.int .i64 f.cells,.slice A f.blocks.length cc] 25))):=(Below.refl _ w).alloc (Nat.le_refl _) _
 have HX:=hideI (heap_alloc_new w (.cells #[.slice P f.params.length pc,.int .i64 f.arrays,.int .i64 f.cells,.slice A f.blocks.length cc] 25))
 clear hF
 go_enter Tryz.func3,Tryz.ntmps3
 go_upto_region 2 with (go_at_call 9;go_must (refine (HE.out _ HB.out).mono ?_);rintro e w1 ⟨P1,A1,n1,c1,m1,d1,rfl,hi,hbl,hb⟩;have H1:=hideI (And.intro hi hbl);clear hi hbl;replace HX:=hideI ((hb.block _ (lt_of_heap HX.out)).trans HX.out);replace HB:=hideI (HB.out.trans (hb.mono HB.out.size));clear hb)
 obtain ⟨W2,hW2⟩:∃ W2,W2=w1.alloc (.cells #[.slice P1 n1 c1,.int .i64 G.arrays,.int .i64 G.cells,.slice A1 m1 d1] 25):=⟨_,rfl⟩
 have hb2:Below w1.heap.size w1 W2:=by rw [hW2];exact (Below.refl _ w1).alloc (Nat.le_refl _) _
 have HY:Hid (W2.heap[w1.heap.size]?=some (.cells #[.slice P1 n1 c1,.int .i64 G.arrays,.int .i64 G.cells,.slice A1 m1 d1] 25 (0,0))):=hideI (by rw [hW2];exact heap_alloc_new w1 _)
 rw [← hW2]
 obtain ⟨g2,hg2⟩:∃ g,g=w1.heap.size:=⟨_,rfl⟩
 rw [← hg2] at HY ⊢
 replace HX:=hideI ((hb2.block _ (lt_of_heap HX.out)).trans HX.out)
 replace HB:=hideI (HB.out.trans (hb2.mono HB.out.size))
 have HB2:=hideI hb2
 clear hW2 hb2 hg2
 have hx:=row_cells HX.out rfl
 have q0:=hx 0
 have q1:=hx 1
 have q2:=hx 2
 have q3:=hx 3
 clear hx
 go_upto_region 3 with (go_at_call 10;go_must (refine (HR.out _ HB.out).mono ?_);rintro e w3 ⟨P2,A2,n2,c2,m2,d2,rfl,hi,hbl,hb⟩;have H2:=hideI (And.intro hi hbl);clear hi hbl;replace HY:=hideI ((hb.block _ (lt_of_heap HY.out)).trans HY.out);have HB3:=hideI hb;replace HB:=hideI (HB.out.trans (hb.mono HB.out.size));clear hb q0 q1 q2 q3)
 obtain ⟨W4,hW4⟩:∃ W4,W4=w3.alloc (.cells #[.slice P2 n2 c2,.int .i64 G.arrays,.int .i64 G.cells,.slice A2 m2 d2] 25):=⟨_,rfl⟩
 have hb4:Below w3.heap.size w3 W4:=by rw [hW4];exact (Below.refl _ w3).alloc (Nat.le_refl _) _
 have HZ:Hid (W4.heap[w3.heap.size]?=some (.cells #[.slice P2 n2 c2,.int .i64 G.arrays,.int .i64 G.cells,.slice A2 m2 d2] 25 (0,0))):=hideI (by rw [hW4];exact heap_alloc_new w3 _)
 rw [← hW4]
 obtain ⟨g4,hg4⟩:∃ g,g=w3.heap.size:=⟨_,rfl⟩
 rw [← hg4] at HZ ⊢
 replace HY:=hideI ((hb4.block _ (lt_of_heap HY.out)).trans HY.out)
 replace HB:=hideI (HB.out.trans (hb4.mono HB.out.size))
 have HB4:=hideI hb4
 clear hW4 hb4 hg4
 go_wp2_with (first
  | (go_at_call 11;refine (awake7_any _).mono ?_;rintro e w5 ⟨rfl,hb⟩;have HB5:=hideI hb;have hy:=row_cells ((hb.block _ (lt_of_heap HY.out)).trans HY.out) rfl;have q0:=hy 0;have q1:=hy 1;have q2:=hy 2;have q3:=hy 3;have hz:=row_cells ((hb.block _ (lt_of_heap HZ.out)).trans HZ.out) rfl;have r0:=hz 0;have r1:=hz 1;have r2:=hz 2;have r3:=hz 3;clear hy hz hb)
  | (go_at_call 12;have b13:=HB2.out.trans (HB3.out.mono HB2.out.size);have b14:=b13.trans (HB4.out.mono b13.size);have b15:=b14.trans (HB5.out.mono b14.size);have b35:=HB4.out.trans (HB5.out.mono HB4.out.size);refine (same_yes G w5.heap.size _ _ _ _ w5 ((H1.out.1.keeps (Keeps.of_below b15)).more b15.size) ((H1.out.2.keeps (Keeps.of_below b15)).more' b15.size) ((H2.out.1.keeps (Keeps.of_below b35)).more b35.size) ((H2.out.2.keeps (Keeps.of_below b35)).more' b35.size) (Nat.le_refl _)).mono ?_;clear b13 b14 b15 b35;rintro e w6 ⟨rfl,hb⟩;have HB6:=hideI (HB5.out.trans (hb.mono HB5.out.size));clear hb))
 go_ret
 exact ⟨rfl,HB.out.trans (HB6.out.mono HB.out.size)⟩
theorem repl_fits (old now:Int) (hn:I64 now):∀ x,I64 x → I64 (replM old now x):=fun x hx => by
 unfold replM
 split
 ·exact hn
 ·exact hx
theorem walk (f:FuncM) (pv bv:Value) (old now:Int) (w:World) (hF:FnIn w f pv bv) (ho:I64 old) (hn:I64 now) :
  Calls Tryz.prog 3 #[.agg #[pv,.int .i64 f.arrays,.int .i64 f.cells,bv],.int .i64 old,.int .i64 now] w fun e w' => e=.returned (.bool true) ∧ Below w.heap.size w w':=by
 have hu:=uses_i64 hF.ok
 have hE:∀ W,Below w.heap.size w W → Calls Tryz.prog 9 #[.agg #[pv,.int .i64 f.arrays,.int .i64 f.cells,bv],.int .i64 old,.int .i64 now] W (EReplPost f old now W):=fun W hW =>
  eReplace_any f w.heap.size pv bv old now W (hF.par.keeps (Keeps.of_below hW)) (hF.blk.keeps (Keeps.of_below hW)) hW.size hu ho hn
 by_cases h:∃ o,StrictM f o
 ·obtain ⟨o,hst⟩:=h
  have hR:∀ W,Below w.heap.size w W → Calls Tryz.prog 10 #[.agg #[pv,.int .i64 f.arrays,.int .i64 f.cells,bv],.int .i64 old,.int .i64 now] W (fun e w' => (replErr f old now ≠ 0 ∧ RErr (replErr f old now) W e w') ∨ (replErr f old now=0 ∧ RReplOk f old now W e w')):=fun W hW =>
   refReplace_any f o w.heap.size pv bv old now W (hF.par.keeps (Keeps.of_below hW)) (hF.blk.keeps (Keeps.of_below hW)) hW.size hu hst
  have hno:∀ x y:Int,CheckIs f (x,y) → y ≠ 0 → False:=fun x y hc hy => hy (Prod.mk.inj (hst.check hc)).2
  by_cases hz:replErr f old now=0
  ·have hsm:=look_small hst.look
   have hft:=hF.blk.fits
   refine walk_ok f pv bv old now w hF (mapF (replM old now) f) (fun W hW => (hE W hW).mono ?_) (fun W hW => (hR W hW).mono ?_)
   ·rintro e w' (⟨x,y,hc,hy,_⟩ | ⟨_,hz',_⟩ | ⟨_,_,v1,base,P,pc,A,c,rfl,hp,hv,how,_,hb⟩)
    ·exact (hno x y hc hy).elim
    ·exact absurd hz hz'
    ·obtain ⟨r1,r2⟩:=mapF_reads how hsm hft (repl_fits old now hn)
     rw [hp] at r1
     rw [hv] at r2
     exact ⟨P,A,_,pc,_,c,rfl,r1,r2,hb⟩
   ·rintro e w' (⟨hz',_⟩ | ⟨_,v1,P,pc,A,c,rfl,hp,hv,how,hb⟩)
    ·exact absurd hz hz'
    ·rw [to_repl] at how
     obtain ⟨r1,r2⟩:=mapF_reads how hsm hft (repl_fits old now hn)
     rw [hp] at r1
     rw [hv] at r2
     exact ⟨P,A,_,pc,_,c,rfl,r1,r2,hb⟩
  ·refine walk_zero f pv bv old now w hF (fun y => y=replErr f old now) (fun y z h1 h2 => h1.trans h2.symm) (fun W hW => (hE W hW).mono ?_) (fun W hW => (hR W hW).mono ?_)
   ·rintro e w' (⟨x,y,hc,hy,_⟩ | ⟨_,_,rfl,hb⟩ | ⟨_,hz',_⟩)
    ·exact (hno x y hc hy).elim
    ·exact ⟨_,rfl,rfl,hb⟩
    ·exact absurd hz' hz
   ·rintro e w' (⟨_,rfl,hb⟩ | ⟨hz',_⟩)
    ·exact ⟨_,rfl,rfl,hb⟩
    ·exact absurd hz' hz
 ·refine walk_zero f pv bv old now w hF (fun y => ∃ x,CheckIs f (x,y)) (fun y z ⟨a,h1⟩ ⟨b,h2⟩ => (Prod.mk.inj (h1.one h2)).2) (fun W hW => (hE W hW).mono ?_) (fun W hW => (refReplace_bad f w.heap.size pv bv old now W (hF.par.keeps (Keeps.of_below hW)) (hF.blk.keeps (Keeps.of_below hW)) hW.size hu h).mono ?_)
  ·rintro e w' (⟨x,y,hc,hy,rfl,hb⟩ | ⟨ho',_⟩ | ⟨ho',_⟩)
   ·exact ⟨y,⟨x,hc⟩,rfl,hb⟩
   ·exact absurd ho' h
   ·exact absurd ho' h
  ·rintro e w' ⟨x,y,hc,hy,rfl,hb⟩
   exact ⟨y,⟨x,hc⟩,rfl,hb⟩
set_option maxRecDepth 100000 in
theorem lifted (os:Os) (started:os.Started) (H:Type) (enc:TypeId × Value → H) :
  ReturnsInHanded {} Tryz.checked os 3 .any (Rows.editReplacesSpec.pre6 enc Tryz.prog Tryz.f3 Rows.editReplacesRow.domain false) (Rows.editReplacesSpec.post enc Tryz.prog Tryz.f3 false true false false):=by
 refine returnsInHanded_of_change_sized (C:=Tryz.checked) own started (by kernel_rfl) Tryz.func3
  (ChangeSpec.witness6 (enc:=enc) (C:=Tryz.checked) false ⟨#[],#[.agg #[.slice none 0 0,.int .i64 0,.int .i64 0,.slice none 0 0],.int .i64 0,.int .i64 0],[]⟩ 8 (by kernel_rfl) (by kernel_rfl) (by kernel_rfl) (by kernel_rfl)) ?_
 intro W base args ds gs before hval0 hW hcnd hsz _
 have hval:∀ (j:Nat) t v,Tryz.f3.params[j]?=some t → args[j]?=some v → Value.okWide Tryz.prog W .any base t v:=hval0
 have hW':=hW
 obtain ⟨p,q,hA0,hV,rfl,hfz,hnd⟩:=hW
 have hA:DataW.TrodAll enc Tryz.prog W 0 (fun _ => true) true Tryz.f3.params.toList args.toList ds p:=hA0
 rw [Tryz.params3] at hA hval
 obtain ⟨v0,vs0,d0,ds0,p0,q0,hargs,rfl,rfl,h0,r0⟩:=trodAll_cons hA
 obtain ⟨v1,vs1,d1,ds1,p1,q1,rfl,rfl,rfl,h1,r1⟩:=trodAll_cons r0
 obtain ⟨v2,vs2,d2,ds2,p2,q2,rfl,rfl,rfl,h2,r2⟩:=trodAll_cons r1
 obtain ⟨rfl,rfl,rfl⟩:=trodAll_nil r2
 obtain rfl:args=#[v0,v1,v2]:=by cases args;simp_all
 obtain ⟨rfl,rfl⟩:=trodVars_none hV
 obtain ⟨f,pv,bv,rfl,hF⟩:=open_func (hval 0 25 v0 rfl rfl) h0 hsz (j:=0) rfl rfl
 obtain ⟨x,rfl,_,_,w1⟩:=open_int Tryz.underlying3 (hval 1 3 v1 rfl rfl) h1
 obtain ⟨y,rfl,_,_,w2⟩:=open_int Tryz.underlying3 (hval 2 3 v2 rfl rfl) h2
 clear hA0 hval0
 refine (walk f pv bv x y W hF w1 w2).mono fun e W' ⟨he,hg⟩ => ?_
 subst he
 exact ⟨_,rfl,law_post (by kernel_rfl) hW' rfl (by kernel_rfl) Tryz.underlying4 rfl rfl rfl (by rw [Tryz.params3];decide +kernel) hg⟩
theorem over:Rows.editReplacesRow.holds Tryz.pinned (OpenSpec.ofChange Rows.editReplacesSpec) :=
 OpenClaim.holds_of_wide 3 Tryz.f3 rfl rfl rfl rfl rfl rfl rfl ⟨rfl,rfl,rfl,rfl,rfl⟩ rfl rfl rfl rfl rfl (by kernel_rfl) Tryz.func3 (by kernel_rfl)
  (of_decide_eq_true (by kernel_rfl)) (by unfold Func.isWrapper;first | (rw [if_pos (by decide +kernel)];kernel_rfl) | (rw [if_neg (by decide +kernel)];exact ⟨rfl,rfl⟩))
  (fun os started H enc _ => lifted os started H enc)
theorem proved:Rows.EditReplacesSaid:=over
#print axioms proved
end Go.Proofs.YtaehbgppfahdeaaGreat.editReplaces
