/- InterpSplits: for every strict function, every input and every edge, a block in the middle of the edge changes nothing that the run does, if that ends, but how many steps it takes: at most twice as many. No condition. -/
import Derived.Test.YtglbepdjahddmaaGreatPkInterpSplits22
import Derived.Deep.DeepCutAuto
namespace Go.Proofs.YtglbepdjahddmaaGreat.interpSplits
open Go.ChangeShapes Go.WideShapes Go.ChangeAt Go.RowKit Go.Maps
theorem runs_at {f:FuncM} {I:InM} {pv bv av rv:Value} {w:World} (hF:FnIn w f pv bv) (hI:InIn w I av rv) (F:Nat) (W:World) (hW:Below w.heap.size w W) :
  Calls Tryz.prog 17 #[.agg #[pv,.int .i64 f.arrays,.int .i64 f.cells,bv],.agg #[av,rv],.int .i64 F] W (RunT f I F W) :=
 irun_laid f I w.heap.size pv bv av rv F W (hF.par.keeps (Keeps.of_below hW)) (hF.blk.keeps (Keeps.of_below hW)) hW.size (uses_i64 hF.ok) (hI.args.keeps (Keeps.of_below hW)) (hI.arrs.keeps (Keeps.of_below hW))
theorem ints_upto {w:World} {B B':Nat} {v:Value} {xs:List Int} (h:Ints w B v xs) (hB:B ≤ B'):Ints w B' v xs:=by
 obtain ⟨A,c,h1,h2,h3⟩:=h
 exact ⟨A,c,h1,h2,fun k hk => by
  obtain ⟨b,off,a1,a2,a3⟩:=h3 k hk
  exact ⟨b,off,a1,by omega,a3⟩⟩
theorem arrs_upto {w:World} {B B':Nat} {v:Value} {xs:List (List Int)} (h:ArrsR w B v xs) (hB:B ≤ B'):ArrsR w B' v xs:=by
 obtain ⟨A,c,h1,h2,h3⟩:=h
 exact ⟨A,c,h1,h2,fun k l hk => by
  obtain ⟨b,off,lv,a1,a2,a3,a4,a5⟩:=h3 k l hk
  exact ⟨b,off,lv,a1,by omega,a3,ints_upto a4 hB,a5⟩⟩
def places:TwoP where
 c:=fun j => if j then 5 else 2
 s:=fun j => if j then 44 else 41
 a:=fun j => if j then 7 else 6
 t:=fun j => if j then 14 else 13
 p:=fun j => if j then 9 else 8
 known:=[(0,39),(1,40),(3,42),(4,43)]
theorem places_ok:places.Ok:=TwoP.ok_of (by decide)
def known (fv iv gv:Value):Nat → Value:=fun d => if d=39 then fv else if d=42 then gv else iv
theorem runs_split {f:FuncM} {i j:Nat} {q:BlockM} {I:InM} {s t:StM} {en em:EndM} (hchk:CheckIs f (0,0)) (hg:CheckIs (splitM f i j) (0,0)) (hq:f.blocks[i]?=some q) (hj:j < q.term.to.length) (h:Runs f I 1000 s en) (k:Runs (splitM f i j) I 2000 t em) (hne:en.1 ≠ 3):SameS s t ∧ en=em:=by
 obtain ⟨hl,_⟩:=check_zero hchk
 rcases h with ⟨_,h⟩ | ⟨hn,_⟩
 ·rcases k with ⟨_,k⟩ | ⟨hn,_⟩
  ·have h:EndIs f I 1000 s en:=h
   have k:EndIs (splitM f i j) I 2000 t em:=k
   exact ends_same (strict_fok hchk) (fun b hb p hp => ((formed_all (look_formed hl)).1 b hb).1 p hp) (fun q hq x hx => (term_in rfl (look_term hl q hq) x hx).1) hq hj (by decide) (by decide) h k hne
  ·exact absurd hg hn
 ·exact absurd hchk hn
set_option maxRecDepth 100000 in
set_option maxHeartbeats 4000000 in
theorem walk (f:FuncM) (I:InM) (a:Nat) (kb:Bool) (pv bv av rv:Value) (w:World) (hF:FnIn w f pv bv) (hI:InIn w I av rv) (ha:a < 65536) :
  Calls Tryz.prog 8 #[.agg #[pv,.int .i64 f.arrays,.int .i64 f.cells,bv],.agg #[av,rv],.int .u16 a,.bool kb] w fun e w' => e=.returned (.bool true) ∧ Below w.heap.size w w':=by
 have HFI:=hideI hF
 have HII:=hideI hI
 have HID:=hideI (uses_i64 hF.ok)
 have HFT:Hid (FnFits f):=BlocksR.fits hF.blk
 obtain ⟨W2,hW2⟩:∃ W2,W2=((w.alloc (.cells #[pv,.int .i64 f.arrays,.int .i64 f.cells,bv] 25)).alloc (.cells #[av,rv] 41)):=⟨_,rfl⟩
 have hb2:Below w.heap.size w W2:=by rw [hW2];exact below_two w _ _
 have hs2:W2.heap.size=w.heap.size + 2:=by rw [hW2];simp
 have hf0:W2.heap[w.heap.size]?=some (.cells #[pv,.int .i64 f.arrays,.int .i64 f.cells,bv] 25 (0,0)):=by
  rw [hW2,Below.heap_alloc _ _ _ (by simp)]
  exact heap_alloc_new w _
 have hf1:W2.heap[w.heap.size + 1]?=some (.cells #[av,rv] 41 (0,0)):=by
  rw [hW2]
  have:=heap_alloc_new (w.alloc (.cells #[pv,.int .i64 f.arrays,.int .i64 f.cells,bv] 25)) (.cells #[av,rv] 41)
  simpa using this
 have HC0:Hid (∀ W,Below W2.heap.size W2 W → ∀ o,W.cell? ⟨w.heap.size,o,none⟩=(#[pv,.int .i64 f.arrays,.int .i64 f.cells,bv]:Array Value)[o]?):=hideI fun W hW => row_cells hf0 (hW.block _ (by omega))
 have HC1:Hid (∀ W,Below W2.heap.size W2 W → ∀ o,W.cell? ⟨w.heap.size + 1,o,none⟩=(#[av,rv]:Array Value)[o]?):=hideI fun W hW => row_cells hf1 (hW.block _ (by omega))
 have HBW:Hid (∀ W,Below W2.heap.size W2 W → Below w.heap.size w W):=hideI fun W hW => hb2.trans (hW.mono (by omega))
 have HR:Hid (∀ (F:Nat) W,Below W2.heap.size W2 W → Calls Tryz.prog 17 #[.agg #[pv,.int .i64 f.arrays,.int .i64 f.cells,bv],.agg #[av,rv],.int .i64 F] W (RunT f I F W)):=hideI fun F W hW => runs_at hF hI F W (HBW.out W hW)
 have HIS:Hid (∀ W,Below W2.heap.size W2 W → Calls Tryz.prog 23 #[.agg #[pv,.int .i64 f.arrays,.int .i64 f.cells,bv]] W fun e w' => ∃ z:Bool,e=.returned (.bool z) ∧ (z=true ↔ CheckIs f (0,0)) ∧ Below W.heap.size W w'):=hideI fun W hW =>
  refIs_any f w.heap.size pv bv W (hF.par.keeps (Keeps.of_below (HBW.out W hW))) (hF.blk.keeps (Keeps.of_below (HBW.out W hW))) (HBW.out W hW).size HID.out
 have HSP:Hid (∀ (x k:Int) W,Below W2.heap.size W2 W → Calls Tryz.prog 24 #[.agg #[pv,.int .i64 f.arrays,.int .i64 f.cells,bv],.int .i64 x,.int .i64 k] W (GSplitPost f x k W)):=hideI fun x k W hW =>
  gSplit_any f x k w.heap.size pv bv W (hF.par.keeps (Keeps.of_below (HBW.out W hW))) (hF.blk.keeps (Keeps.of_below (HBW.out W hW))) (HBW.out W hW).size HID.out
 have HW2:=hideI hW2
 have HS2:=hideI hs2
 obtain ⟨Ab,cb,hbv,_,_⟩:=hF.blk
 have HBVE:=hideI hbv
 clear hF hI hW2 hb2 hs2 hf0 hf1 hbv
 by_cases hchk:CheckIs f (0,0)
 ·have h0:=(check_zero hchk).1
  obtain ⟨hn0,hn5⟩:=look_some_block h0
  obtain ⟨nn,hnn⟩:∃ nn,nn=f.blocks.length:=⟨_,rfl⟩
  obtain ⟨x,hx⟩:∃ x,x=a % nn:=⟨_,rfl⟩
  have hxl:x < nn:=by rw [hx];exact Nat.mod_lt _ (by omega)
  have r1:Int.tmod (a:Int) (nn:Int)=(x:Int):=by rw [hx];rfl
  have s1:(a:Int) % (nn:Int)=(x:Int):=by rw [hx];omega
  have hd1:((nn:Int) == 0)=false:=by rw [beq_eq_false_iff_ne];omega
  have hn512:nn ≤ 512:=by rw [hnn];exact hn5
  have HCHK:=hideI hchk
  have HL0:=hideI h0
  have HXL:=hideI hxl
  have HNN:=hideI hnn
  rw [← hnn] at HBVE hn0 hn5
  clear hchk h0 hx hnn
  go_enter Tryz.func8,Tryz.ntmps8
  go_upto_region 1 with fail
  rw [← HW2.out]
  go_upto_if 29 with (first
   | (go_at_call 20;refine (awake6_any _).mono ?_;rintro e w5 ⟨rfl,hb⟩;have HB5:=hideI hb;clear hb;have r:=HC0.out w5 HB5.out;have p0:=r 0;have p1:=r 1;have p2:=r 2;have p3:=r 3;clear r)
   | (go_at_call 23;go_must (refine (HIS.out _ HB5.out).mono ?_);rintro e w6 ⟨z,rfl,hz,hb⟩;have HB6:=hideI (HB5.out.trans (hb.mono HB5.out.size));obtain rfl:z=true:=hz.2 HCHK.out;clear hb hz p0 p1 p2 p3;have r:=HC0.out w6 HB6.out;have p0:=r 0;have p1:=r 1;have p2:=r 2;have p3:=r 3;rw [HBVE.out] at p3;clear r))
  obtain ⟨n,hn⟩:∃ n:Nat,n=if kb then 1 else 0:=⟨_,rfl⟩
  go_cut [10] (fun s10 wx => s10=.int .i64 n ∧ wx=w6)
  case first =>
   cases kb
   ·rw [if_neg (by decide)] at hn
    subst hn
    go_wp2_with fail
    all_goals (go_meet;exact ⟨by go_num,rfl⟩)
   ·rw [if_pos rfl] at hn
    subst hn
    go_wp2_with fail
    all_goals (go_meet;exact ⟨by go_num,rfl⟩)
  case rest =>
   clear hn
   obtain ⟨rfl,hwc⟩:=hcut
   rw [hwc]
   rw [HBVE.out] at HSP HR HIS HC0
   clear hwc r1 s1 hd1
   go_wp2_with fail
   refine (HSP.out x n _ HB6.out).mono ?_
   rintro e w7 (⟨c1,hc1,hce,rfl,hb7⟩ | ⟨hs1,i,j,v1,base,A1,d1,A2,d2,hi,hj,rfl,k1,k2,ho,hbs,hbs2,hb7⟩)
   ·have hne:(c1 != 0)=true:=by simpa using hc1
    have HB7:=hideI (HB6.out.trans (hb7.mono HB6.out.size))
    clear hb7 hce hc1 p0 p1 p2 p3
    go_wp2
    first | go_ret | refine bodyPost_ret (results_tmp rfl _ _ _) (by rfl) ?_
    exact ⟨rfl,(HBW.out _ HB7.out).alloc (HBW.out _ HB7.out).size _⟩
   ·obtain rfl:x=i:=by omega
    obtain rfl:n=j:=by omega
    obtain ⟨hl0,hhas,hl512,hl4096⟩:=splitErr_zero hs1
    obtain ⟨i',j',q,e1,e2,hq,hjq⟩:=hasM_yes hhas
    obtain rfl:x=i':=by omega
    obtain rfl:n=j':=by omega
    have hg0:(lookM (splitM f x n)).1=0:=look_split hl0 hq hjq hl512 hl4096
    have hrd:=Owned.reads ho hg0 (split_fits HFT.out)
    rw [k1,k2] at hrd
    have HRD:=hideI hrd
    have HB7:=hideI (HB6.out.trans (hb7.mono HB6.out.size))
    have hgchk:CheckIs (splitM f x n) (0,0):=by
     obtain ⟨_,o,hso⟩:=strict_of HCHK.out
     obtain ⟨o',ho'⟩:=order_exists hg0
     have hg:=hso.split hq hjq hg0 ho'
     exact .inr ⟨hg0,o',ho',.inr (.inr (.inr ⟨hg.come,hg.phis,hg.uses,rfl⟩))⟩
    have HSAME:Hid (∀ {s t:StM} {en em:EndM},Runs f I 1000 s en → Runs (splitM f x n) I 2000 t em → en.1 ≠ 3 → SameS s t ∧ en=em):=fun h k hne => runs_split HCHK.out hgchk hq hjq h k hne
    have HIDG:Hid (∀ u ∈ usesM (splitM f x n),I64 u.1):=fun u hu => HID.out u (split_uses HL0.out u hu)
    clear hb7 p0 p1 p2 p3 ho hs1 hi hj e1 e2 hl0 hhas hl512 hl4096 hjq hg0 hrd hq k1 k2 hbs hbs2 hgchk
    go_upto_region 10 with fail
    obtain ⟨W8,hW8⟩:∃ W8,W8=w7.alloc (.cells #[.slice A1 f.params.length d1,.int .i64 f.arrays,.int .i64 f.cells,.slice A2 (f.blocks.length + 1) d2] 25):=⟨_,rfl⟩
    rw [← hW8]
    have hb8:Below w7.heap.size w7 W8:=by rw [hW8];exact (Below.refl _ w7).alloc (Nat.le_refl _) _
    have hs8:W8.heap.size=w7.heap.size + 1:=by rw [hW8];simp
    have hf8:W8.heap[w7.heap.size]?=some (.cells #[.slice A1 f.params.length d1,.int .i64 f.arrays,.int .i64 f.cells,.slice A2 (f.blocks.length + 1) d2] 25 (0,0)):=by rw [hW8];exact heap_alloc_new w7 _
    have HB8:Hid (Below W2.heap.size W2 W8):=hideI (HB7.out.trans (hb8.mono HB7.out.size))
    have HU:Hid (∀ W,Below W8.heap.size W8 W → Below W2.heap.size W2 W):=hideI fun W hW => HB8.out.trans (hW.mono HB8.out.size)
    have HC0':Hid (∀ W,Below W8.heap.size W8 W → ∀ o,W.cell? ⟨w.heap.size,o,none⟩=(#[pv,.int .i64 f.arrays,.int .i64 f.cells,.slice Ab nn cb]:Array Value)[o]?):=hideI fun W hW => HC0.out W (HU.out W hW)
    have HC1':Hid (∀ W,Below W8.heap.size W8 W → ∀ o,W.cell? ⟨w.heap.size + 1,o,none⟩=(#[av,rv]:Array Value)[o]?):=hideI fun W hW => HC1.out W (HU.out W hW)
    have HC2':Hid (∀ W,Below W8.heap.size W8 W → ∀ o,W.cell? ⟨w7.heap.size,o,none⟩=(#[.slice A1 f.params.length d1,.int .i64 f.arrays,.int .i64 f.cells,.slice A2 (f.blocks.length + 1) d2]:Array Value)[o]?):=hideI fun W hW => row_cells hf8 (hW.block _ (by omega))
    have HR1:Hid (∀ W,Below W8.heap.size W8 W → Calls Tryz.prog 17 #[.agg #[pv,.int .i64 f.arrays,.int .i64 f.cells,.slice Ab nn cb],.agg #[av,rv],.int .i64 1000] W (RunT f I 1000 W)):=hideI fun W hW => HR.out 1000 W (HU.out W hW)
    have HR2:Hid (∀ W,Below W8.heap.size W8 W → Calls Tryz.prog 17 #[.agg #[.slice A1 f.params.length d1,.int .i64 f.arrays,.int .i64 f.cells,.slice A2 (f.blocks.length + 1) d2],.agg #[av,rv],.int .i64 2000] W (RunT (splitM f x n) I 2000 W)):=hideI fun W hW => by
     have h7:Below w7.heap.size w7 W:=hb8.trans (hW.mono (by omega))
     have hw:=HBW.out W (HU.out W hW)
     have hw7:w.heap.size ≤ w7.heap.size:=(HBW.out _ HB7.out).size
     exact irun_laid (splitM f x n) I w7.heap.size _ _ av rv 2000 W (HRD.out.1.keeps (Keeps.of_below h7)) (HRD.out.2.keeps (Keeps.of_below h7)) h7.size HIDG.out (ints_upto (HII.out.args.keeps (Keeps.of_below hw)) hw7) (arrs_upto (HII.out.arrs.keeps (Keeps.of_below hw)) hw7)
    have HWB:Hid (Below w.heap.size w W8):=hideI (HBW.out _ HB8.out)
    clear hW8 hb8 hs8 hf8
    refine wp_region_env (by kernel_rfl) [39,40,41,42,43,44,13,14] (RunsF 10 places (known (.agg #[pv,.int .i64 f.arrays,.int .i64 f.cells,.slice Ab nn cb]) (.agg #[av,rv]) (.agg #[.slice A1 f.params.length d1,.int .i64 f.arrays,.int .i64 f.cells,.slice A2 (f.blocks.length + 1) d2])) (fun j s en => if j then Runs (splitM f x n) I 2000 s en else Runs f I 1000 s en) W8) 75 rfl (by decide) (by kernel_rfl) (by kernel_rfl) (by kernel_rfl) (fun e => ?_) (fun L L' e w h => ?_) ?_ (fun e W4 h => ?_)
    ·exact TwoF.start W8
    ·intro k
     unfold RunsF at k ⊢
     rw [mask_congr (n:=10) fun i hi => (h i hi).symm]
     exact k
    ·refine And.intro ?_ (And.intro ?_ (And.intro ?_ (And.intro ?_ (And.intro ?_ (And.intro ?_ (And.intro ?_ (And.intro ?_ (And.intro ?_ (And.intro ?_ trivial)))))))))
     ·exact step_known places_ok (d:=39) (by decide) (by decide) rfl rfl fun a W hW hout => load_func a.eval W _ 4 39 _ _ _ _ _ _ _ _ (hout 4 (by decide)) (HC0'.out W hW)
     ·exact step_known places_ok (d:=40) (by decide) (by decide) rfl rfl fun a W hW hout => load_input a.eval W _ 5 40 _ _ _ _ _ _ (hout 5 (by decide)) (HC1'.out W hW)
     ·exact step_runC places_ok (j:=false) (t1:=39) (t2:=40) (k1:=0) (k2:=1) (by decide) rfl rfl rfl (by rfl) (by decide) (by decide) (by decide) fun W hW => HR1.out W hW
     ·exact step_known places_ok (d:=42) (by decide) (by decide) rfl rfl fun a W hW hout => load_func a.eval W _ 11 42 _ _ _ _ _ _ _ _ (hout 11 (by decide)) (HC2'.out W hW)
     ·exact step_known places_ok (d:=43) (by decide) (by decide) rfl rfl fun a W hW hout => load_input a.eval W _ 5 43 _ _ _ _ _ _ (hout 5 (by decide)) (HC1'.out W hW)
     ·exact step_runC places_ok (j:=true) (t1:=42) (t2:=43) (k1:=3) (k2:=4) (by decide) rfl rfl rfl (by rfl) (by decide) (by decide) (by decide) fun W hW => HR2.out W hW
     ·exact step_make places_ok (j:=false) (by decide) rfl rfl rfl
     ·exact step_make places_ok (j:=true) (by decide) rfl rfl rfl
     ·exact step_store places_ok (j:=false) (by decide) rfl rfl rfl (by rfl) (by decide)
     ·exact step_store places_ok (j:=true) (by decide) rfl rfl rfl (by rfl) (by decide)
    ·have dd0:=TwoF.done h (j:=false) (by rfl) (by rfl) (by rfl)
     have dd1:=TwoF.done h (j:=true) (by rfl) (by rfl) (by rfl)
     obtain ⟨g1,s,en,lo1,cs1,e1,_,hg1,hr1,ht1,hc1⟩:=dd0
     obtain ⟨g2,t,em,lo2,cs2,e2,_,hg2,hr2,ht2,hc2⟩:=dd1
     have e1:e 13=.pointer (some ⟨g1,0,none⟩):=e1
     have e2:e 14=.pointer (some ⟨g2,0,none⟩):=e2
     have hr1:Runs f I 1000 s en:=hr1
     have hr2:Runs (splitM f x n) I 2000 t em:=hr2
     have hb4:=h.below
     obtain ⟨ov,av1,vv,he1,i1,_,_⟩:=hr1.reads ht1
     obtain ⟨ov2,av2,vv2,he2,i2,_,_⟩:=hr2.reads ht2
     have hrd1:=hr1.reads ht1
     have hrd2:=hr2.reads ht2
     have hst:=hr1.short.2.2.2.2.1
     obtain ⟨e0,e3,e4⟩:=en
     injection he1 with he1
     injection he2 with he2
     subst he1 he2
     obtain ⟨Ao1,co1,rfl,_,_⟩:=i1
     obtain ⟨Ao2,co2,rfl,_,_⟩:=i2
     have HB4:=hideI hb4
     have HRD2:=hideI (And.intro hrd1 hrd2)
     have HRS:=hideI (And.intro hr1 hr2)
     have HX1:Hid (∀ W,Below W4.heap.size W4 W → ∀ o,W.cell? ⟨g1,o,none⟩=(#[.int .i64 e0,.int .i64 e3,.int .i64 e4,.slice Ao1 s.out.length co1,av1,.int .i64 s.steps,.int .i64 s.checks,vv]:Array Value)[o]?):=hideI fun W hW => row_cells hc1 (hW.block _ hg1)
     have HX2:Hid (∀ W,Below W4.heap.size W4 W → ∀ o,W.cell? ⟨g2,o,none⟩=(#[.int .i64 em.1,.int .i64 em.2.1,.int .i64 em.2.2,.slice Ao2 t.out.length co2,av2,.int .i64 t.steps,.int .i64 t.checks,vv2]:Array Value)[o]?):=hideI fun W hW => row_cells hc2 (hW.block _ hg2)
     have hmul:IntKind.i64.wrap (2 * (s.steps:Int))=2 * (s.steps:Int):=IntWalk.i64_in _ (by omega)
     clear h ht1 ht2 hc1 hc2 hrd1 hrd2 hr1 hr2 hb4 hst
     simp only [putEnv,Act.put,List.setIfInBounds_toArray,List.set_cons_zero,List.set_cons_succ,e1,e2]
     clear e1 e2
     obtain ⟨y39,h39⟩:∃ x,x=e 39:=⟨_,rfl⟩
     obtain ⟨y40,h40⟩:∃ x,x=e 40:=⟨_,rfl⟩
     obtain ⟨y41,h41⟩:∃ x,x=e 41:=⟨_,rfl⟩
     obtain ⟨y42,h42⟩:∃ x,x=e 42:=⟨_,rfl⟩
     obtain ⟨y43,h43⟩:∃ x,x=e 43:=⟨_,rfl⟩
     obtain ⟨y44,h44⟩:∃ x,x=e 44:=⟨_,rfl⟩
     rw [← h39,← h40,← h41,← h42,← h43,← h44]
     clear h39 h40 h41 h42 h43 h44
     by_cases h3:e0=3
     ·subst h3
      have f0:((3:Int) == 3)=true:=by decide
      have q:=HX1.out W4 (Below.refl _ _)
      have q0:=q 0
      clear q
      go_wp2_with fail
      first | go_ret | refine bodyPost_ret (results_tmp rfl _ _ _) (by rfl) ?_
      exact ⟨rfl,HWB.out.trans (HB4.out.mono HWB.out.size)⟩
     ·obtain ⟨hsm,hee⟩:=HSAME.out HRS.out.1 HRS.out.2 h3
      subst hee
      have f0:(e0 == 3)=false:=by simpa using h3
      have f1:(s.checks == t.checks)=true:=by rw [hsm.checks];simp
      have f2:s.steps ≤ t.steps:=hsm.low
      have f3:t.steps ≤ 2 * s.steps:=hsm.high
      have HA:Hid (∀ W,Below W4.heap.size W4 W → Calls Tryz.prog 25 #[.agg #[.int .i64 e0,.int .i64 e3,.int .i64 e4,.slice Ao1 s.out.length co1,av1,.int .i64 s.steps,.int .i64 s.checks,vv],.agg #[.int .i64 e0,.int .i64 e3,.int .i64 e4,.slice Ao2 t.out.length co2,av2,.int .i64 t.steps,.int .i64 t.checks,vv2]] W fun e w' => e=.returned (.bool true) ∧ Below W.heap.size W w'):=hideI fun W hW =>
       alike_yes W W4.heap.size _ _ s t _ (HRD2.out.1.keeps (Keeps.of_below hW)) (HRD2.out.2.keeps (Keeps.of_below hW)) hW.size hsm.out.symm hsm.arrs.symm
      have q:=HX1.out W4 (Below.refl _ _)
      have q0:=q 0
      have q1:=q 1
      have q2:=q 2
      have q3:=q 3
      have q4:=q 4
      have q5:=q 5
      have q6:=q 6
      have q7:=q 7
      have r:=HX2.out W4 (Below.refl _ _)
      have r0:=r 0
      have r1:=r 1
      have r2:=r 2
      have r3:=r 3
      have r4:=r 4
      have r5:=r 5
      have r6:=r 6
      have r7:=r 7
      clear q r hsm h3
      go_wp2_with (first
       | (go_at_call 25;go_must (refine (HA.out _ (Below.refl _ _)).mono ?_);rintro e w9 ⟨rfl,hb⟩;have HB9:=hideI hb;clear q0 q1 q2 q3 q4 q5 q6 q7 r0 r1 r2 r3 r4 r5 r6 r7;have q:=HX1.out w9 hb;have q5:=q 5;have q6:=q 6;have r:=HX2.out w9 hb;have r5:=r 5;have r6:=r 6;clear q r hb))
      first | go_ret | refine bodyPost_ret (results_tmp rfl _ _ _) (by rfl) ?_
      exact ⟨by simp;omega,HWB.out.trans ((HB4.out.trans (HB9.out.mono HB4.out.size)).mono HWB.out.size)⟩
 ·have HCHK:=hideI hchk
  clear hchk
  go_enter Tryz.func8,Tryz.ntmps8
  go_upto_region 1 with fail
  rw [← HW2.out]
  go_wp2_with (first
   | (go_at_call 20;refine (awake6_any _).mono ?_;rintro e w5 ⟨rfl,hb⟩;(first | (have HB7:=hideI (HB6.out.trans (hb.mono HB6.out.size))) | (have HB5:=hideI hb;have r:=HC0.out w5 HB5.out;have p0:=r 0;have p1:=r 1;have p2:=r 2;have p3:=r 3;clear r));clear hb)
   | (go_at_call 23;go_must (refine (HIS.out _ HB5.out).mono ?_);rintro e w6 ⟨z,rfl,hz,hb⟩;have HB6:=hideI (HB5.out.trans (hb.mono HB5.out.size));obtain rfl:z=false:=(by cases z;rfl;exact absurd (hz.1 rfl) HCHK.out);clear hb hz p0 p1 p2 p3))
  first | go_ret | refine bodyPost_ret (results_tmp rfl _ _ _) (by rfl) ?_
  exact ⟨rfl,HBW.out _ HB7.out⟩
theorem u16_nat {x:Int} (h:(Lit.int .u16 x).wf=true):∃ a:Nat,x=(a:Int) ∧ a < 65536:=by
 have h3:IntKind.u16.min ≤ x ∧ x ≤ IntKind.u16.max:=by simpa [Lit.wf] using h
 have h1:(0:Int) ≤ x:=h3.1
 have h2:x ≤ 65535:=h3.2
 exact ⟨x.toNat,by omega,by omega⟩
set_option maxRecDepth 100000 in
theorem lifted (os:Os) (started:os.Started) (H:Type) (enc:TypeId × Value → H) :
  ReturnsInHanded {} Tryz.checked os 8 .any (Rows.interpSplitsSpec.pre6 enc Tryz.prog Tryz.f8 Rows.interpSplitsRow.domain false) (Rows.interpSplitsSpec.post enc Tryz.prog Tryz.f8 false true false false):=by
 refine returnsInHanded_of_change_sized (C:=Tryz.checked) own started (by kernel_rfl) Tryz.func8
  (ChangeSpec.witness6 (enc:=enc) (C:=Tryz.checked) false ⟨#[],#[.agg #[.slice none 0 0,.int .i64 0,.int .i64 0,.slice none 0 0],.agg #[.slice none 0 0,.slice none 0 0],.int .u16 0,.bool false],[]⟩ 8 (by kernel_rfl) (by kernel_rfl) (by kernel_rfl) (by kernel_rfl)) ?_
 intro W base args ds gs before hval0 hW hcnd hsz _
 have hval:∀ (j:Nat) t v,Tryz.f8.params[j]?=some t → args[j]?=some v → Value.okWide Tryz.prog W .any base t v:=hval0
 have hW':=hW
 obtain ⟨p,q,hA0,hV,rfl,hfz,hnd⟩:=hW
 have hA:DataW.TrodAll enc Tryz.prog W 0 (fun _ => true) true Tryz.f8.params.toList args.toList ds p:=hA0
 rw [Tryz.params8] at hA hval
 obtain ⟨v0,vs0,d0,ds0,p0,q0,hargs,rfl,rfl,h0,r0⟩:=trodAll_cons hA
 obtain ⟨v1,vs1,d1,ds1,p1,q1,rfl,rfl,rfl,h1,r1⟩:=trodAll_cons r0
 obtain ⟨v2,vs2,d2,ds2,p2,q2,rfl,rfl,rfl,h2,r2⟩:=trodAll_cons r1
 obtain ⟨v3,vs3,d3,ds3,p3,q3,rfl,rfl,rfl,h3,r3⟩:=trodAll_cons r2
 obtain ⟨rfl,rfl,rfl⟩:=trodAll_nil r3
 obtain rfl:args=#[v0,v1,v2,v3]:=by cases args;simp_all
 obtain ⟨rfl,rfl⟩:=trodVars_none hV
 obtain ⟨f,pv,bv,rfl,hF⟩:=open_func (hval 0 25 v0 rfl rfl) h0 hsz (j:=0) rfl rfl
 obtain ⟨I,av,rv,rfl,hI⟩:=open_input (hval 1 41 v1 rfl rfl) h1 hsz (j:=1) rfl rfl
 obtain ⟨x2,rfl,_,_,w2⟩:=open_int Tryz.underlying49 (hval 2 49 v2 rfl rfl) h2
 obtain ⟨a,rfl,ha⟩:=u16_nat w2
 obtain ⟨kb,hk3⟩:=open_bool Tryz.underlying4 (hval 3 4 v3 rfl rfl) h3
 obtain ⟨rfl,_⟩:=hk3
 clear hA0 hval0
 refine (walk f I a kb pv bv av rv W hF hI ha).mono fun e W' ⟨he,hg⟩ => ?_
 subst he
 exact ⟨_,rfl,law_post (by kernel_rfl) hW' rfl (by kernel_rfl) Tryz.underlying4 rfl rfl rfl (by rw [Tryz.params8];decide +kernel) hg⟩
theorem over:Rows.interpSplitsRow.holds Tryz.pinned (OpenSpec.ofChange Rows.interpSplitsSpec) :=
 OpenClaim.holds_of_wide 8 Tryz.f8 rfl rfl rfl rfl rfl rfl rfl ⟨rfl,rfl,rfl,rfl,rfl⟩ rfl rfl rfl rfl rfl (by kernel_rfl) Tryz.func8 (by kernel_rfl)
  (of_decide_eq_true (by kernel_rfl)) (by unfold Func.isWrapper;first | (rw [if_pos (by decide +kernel)];kernel_rfl) | (rw [if_neg (by decide +kernel)];exact ⟨rfl,rfl⟩))
  (fun os started H enc _ => lifted os started H enc)
theorem proved:Rows.InterpSplitsSaid:=over
#print axioms proved
end Go.Proofs.YtglbepdjahddmaaGreat.interpSplits
