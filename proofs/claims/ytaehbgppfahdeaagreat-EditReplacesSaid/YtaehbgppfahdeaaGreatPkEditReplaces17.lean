/- What EditReplaces rests on, part 17: LNest, LForest, LLps, EAw6, RCopyI, OwnC. -/
import Derived.Test.YtaehbgppfahdeaaGreatPkEditReplaces16

namespace Go.Proofs.YtaehbgppfahdeaaGreat
open Go.RowKit Go.Maps
def lp0M (bs:List BlockM) (D L:Nat → Nat → Bool) (k:Nat):List LpM:=(headsM bs D k).map (lpOf bs D L)
def parsTo (ls:List LpM) (j:Nat):List LpM:=(List.range ls.length).map fun i => if i < j then { ls.getD i noLp with parent:=arM ls i ls.length } else ls.getD i noLp
def loopsM (bs:List BlockM) (D L:Nat → Nat → Bool):List LpM:=parsTo (lp0M bs D L bs.length) (lp0M bs D L bs.length).length
def NestPost (f:FuncM) (pv bv:Value) (w:World) (e:Ending) (w':World):Prop :=
 (∃ x y:Int,CheckIs f (x,y) ∧ y ≠ 0 ∧ e=.returned (.tuple #[.agg #[.slice none 0 0,.int .i64 0,.int .i64 0,.slice none 0 0,.slice none 0 0,.slice none 0 0,.slice none 0 0,.slice none 0 0],.int .i64 y]) ∧ Below w.heap.size w w') ∨
 (∃ (o:List Nat) (pl:Nat → Nat) (par:Nat → Option Nat) (D L:Nat → Nat → Bool) (gp:Nat) (vs:List Value) (gi gl:Nat) (lv:Value),LoopsOf f o pl par D L ∧ e=.returned (.tuple #[.agg #[pv,.int .i64 f.arrays,.int .i64 f.cells,bv,.slice (some ⟨gp,0,none⟩) f.blocks.length f.blocks.length,.slice (some ⟨gi,0,none⟩) f.blocks.length f.blocks.length,.slice (some ⟨gl,0,none⟩) f.blocks.length f.blocks.length,lv],.int .i64 0]) ∧ LfAt w' (w.heap.size + 2) f.blocks o pl par gp vs gi gl ∧ LoopsR w' (w.heap.size + 2) lv (loopsM f.blocks D L) ∧ Below w.heap.size w w')
end Go.Proofs.YtaehbgppfahdeaaGreat

namespace Go.Proofs.YtaehbgppfahdeaaGreat
open Go.RowKit Go.Maps
def ForestPost (f:FuncM) (w:World) (e:Ending) (w':World):Prop :=
 (∃ x y:Int,CheckIs f (x,y) ∧ y ≠ 0 ∧ e=.returned (.tuple #[.slice none 0 0,.int .i64 y]) ∧ Below w.heap.size w w') ∨
 (∃ (o:List Nat) (pl:Nat → Nat) (par:Nat → Option Nat) (D L:Nat → Nat → Bool) (lv:Value),LoopsOf f o pl par D L ∧ e=.returned (.tuple #[lv,.int .i64 0]) ∧ LoopsR w' w.heap.size lv (loopsM f.blocks D L) ∧ Below w.heap.size w w')
end Go.Proofs.YtaehbgppfahdeaaGreat

namespace Go.Proofs.YtaehbgppfahdeaaGreat
open Go.RowKit Go.Maps
theorem awake_strict:∃ o,StrictM awakeF o:=(strict_of awake_checkIs).2
theorem awake_check9 {r:Int × Int} (h:CheckIs awakeF r):r=(0,0):=by
 obtain ⟨o,ho⟩:=awake_strict
 exact ho.check h
end Go.Proofs.YtaehbgppfahdeaaGreat

namespace Go.Proofs.YtaehbgppfahdeaaGreat
open Go.RowKit Go.Maps
def AwRen (w:World) (e:Ending) (w':World):Prop :=
 ∃ (val:Vals) (base:Nat) (P:Option Addr) (pc g c:Nat),e=.returned (.tuple #[.agg #[.slice P 0 pc,.int .i64 0,.int .i64 0,.slice (some ⟨g,0,none⟩) 1 c],.int .i64 0]) ∧ val .params=.slice P 0 pc ∧ val .blocks=.slice (some ⟨g,0,none⟩) 1 c ∧ AwO w' base val ∧ Below w.heap.size w w'
set_option maxRecDepth 100000 in
set_option maxHeartbeats 4000000 in
theorem rename_aw (B pc c:Nat) (P A:Option Addr) (w:World) (hpv:Ints w B (.slice P 0 pc) awakeF.params) (hbv:BlocksR w B (.slice A 1 c) awakeF.blocks) (hB:B ≤ w.heap.size) :
  Calls Tryz.prog 33 #[.agg #[.slice P 0 pc,.int .i64 0,.int .i64 0,.slice A 1 c]] w (AwRen w):=by
 obtain ⟨W,hW⟩:∃ W:World,W=(w.alloc (.cells #[.slice P 0 pc,.int .i64 0,.int .i64 0,.slice A 1 c] 25)).alloc (.cells #[.slice none 0 0,.int .i64 0,.int .i64 0,.slice none 0 0] 25):=⟨_,rfl⟩
 have HB0:Hid (Below w.heap.size w W):=by show Below _ _ _;rw [hW];exact ((Below.refl _ w).alloc (Nat.le_refl _) _).alloc (by simp) _
 have hx1:W.heap[w.heap.size]?=some (.cells #[.slice P 0 pc,.int .i64 0,.int .i64 0,.slice A 1 c] 25 (0,0)):=by
  rw [hW,Below.heap_alloc _ _ _ (by simp)]
  exact heap_alloc_new w _
 have hx2:W.heap[w.heap.size + 1]?=some (.cells #[.slice none 0 0,.int .i64 0,.int .i64 0,.slice none 0 0] 25 (0,0)):=by
  rw [hW]
  have:=heap_alloc_new (w.alloc (.cells #[.slice P 0 pc,.int .i64 0,.int .i64 0,.slice A 1 c] 25)) (.cells #[.slice none 0 0,.int .i64 0,.int .i64 0,.slice none 0 0] 25)
  simpa using this
 have HX1:=hideI hx1
 have HX2:=hideI hx2
 have hwW:w.heap.size + 1 < W.heap.size:=lt_of_heap hx2
 have hBW:B ≤ W.heap.size:=Nat.le_trans hB HB0.out.size
 have hk:Keeps B w W:=Keeps.of_below (HB0.out.mono hB)
 have HPW:=hideI (hpv.keeps hk)
 have HBV:=hideI (hbv.keeps hk)
 have HSC:Hid (Calls Tryz.prog 27 #[.agg #[.slice P 0 pc,.int .i64 0,.int .i64 0,.slice A 1 c]] W (CheckPost awakeF W)):=hideI (sCheck_any awakeF B _ _ W HPW.out HBV.out hBW awake_uses)
 have HW0:=hideI hW
 have hqs:=row_cells hx1 rfl
 have q0:=hqs 0
 have q1:=hqs 1
 have q2:=hqs 2
 have q3:=hqs 3
 clear hqs hx1 hx2 hW hk hpv hbv
 go_enter Tryz.func33,Tryz.ntmps33
 go_upto_region 1 with fail
 rw [← HW0.out]
 go_wp2_with (first
  | (go_at_call 27;go_must (refine HSC.out.mono ?_);rintro e w1 ⟨x,y,rfl,hci,hb⟩;obtain ⟨rfl,rfl⟩:=Prod.mk.inj (awake_check9 hci);have HB1:=hideI hb;have hqs:=row_cells ((hb.block _ (by omega)).trans HX1.out) rfl;clear q0 q1 q2 q3;have q0:=hqs 0;have q1:=hqs 1;have q2:=hqs 2;have q3:=hqs 3;have HGO:Hid (Calls Tryz.prog 69 #[.agg #[.slice P 0 pc,.int .i64 0,.int .i64 0,.slice A 1 c]] w1 fun e w' => ∃ (o:List Nat) (g cap:Nat),e=.returned (.tuple #[.slice (some ⟨g,0,none⟩) o.length cap,.int .i64 0]) ∧ OrderIs awakeF.blocks o ∧ 0 < o.length ∧ o.length ≤ awakeF.blocks.length ∧ w'.ownsRow w1.heap.size 3 1 (.slice (some ⟨g,0,none⟩) o.length cap) o.length (natInts o) ∧ Below w1.heap.size w1 w'):=hideI (gOrder_yes awakeF B _ _ w1 (HPW.out.keeps (Keeps.of_below (hb.mono hBW))) (HBV.out.keeps (Keeps.of_below (hb.mono hBW))) (Nat.le_trans hBW hb.size) awake_uses (by rw [awake_look]));clear hci hb hqs)
  | (go_at_call 69;go_must (refine HGO.out.mono ?_);rintro e w2 ⟨o,g,cap,rfl,ho,_,_,hown,hb⟩;obtain rfl:=ho.one awake_orderIs;have HB2:=hideI (HB1.out.trans (hb.mono HB1.out.size));have hg:=(hown.lt g rfl).2;have hoc:w2.cell? ⟨g,0,none⟩=some (.int .i64 0):=(by rw [World.ownsRow.cellAt hown 0 (by show 0 < 1 * 1;omega)];rfl);have HRN:=hideI (renamed_aw B g cap pc c P A w2 (HPW.out.keeps (Keeps.of_below (HB2.out.mono hBW))) (HBV.out.keeps (Keeps.of_below (HB2.out.mono hBW))) (Nat.le_trans hBW HB2.out.size) hg hoc);have hqs:=row_cells ((HB2.out.block _ (by omega)).trans HX1.out) rfl;clear q0 q1 q2 q3;have q0:=hqs 0;have q1:=hqs 1;have q2:=hqs 2;have q3:=hqs 3;clear hqs hb hown ho hg hoc)
  | (go_at_call 70;go_must (refine HRN.out.mono ?_);rintro e w3 ⟨val,base,P1,pc1,A1,c1,rfl,hp1,hv1,how,hlo,hb⟩;(obtain ⟨g1,c2,hg2,_⟩:=how.slice (tp:=.blocks) (.inr (.inl rfl)) rfl (Nat.lt_succ_self 0));have hg3:val .blocks=.slice (some ⟨g1,0,none⟩) 1 c2:=hg2;rw [hv1] at hg3;injection hg3 with e1 _ e3;subst e1 e3;have HP1:=hideI hp1;have HV1:=hideI hv1;have HOW:=hideI how;have HLO:=hideI hlo;have HB3:=hideI (HB2.out.trans (hb.mono HB2.out.size));clear q0 q1 q2 q3;have hx2:=(HB3.out.block _ hwW).trans HX2.out;have hns:=row_cells hx2 rfl;have n0:=hns 0;have n1:=hns 1;have n2:=hns 2;have n3:=hns 3;have fr:=free_rowN hx2 rfl;have f0:=fr 0;have f1:=fr 1;have f2:=fr 2;have f3:=fr 3;clear hns fr hx2 hp1 hv1 how hlo hb hg2))
 have hno:∀ t,EE awakeF 1 t → (val t).ownBlock ≠ some (w.heap.size + 1):=fun t ht e => by
  have h1:=(HOW.out.lt ht e).1
  have h2:=HLO.out
  have h3:=HB2.out.size
  omega
 refine bodyPost_ret (v:=.tuple #[.agg #[.slice P1 0 pc1,.int .i64 0,.int .i64 0,.slice (some ⟨g1,0,none⟩) 1 c1],.int .i64 0]) (by simp [results,Tryz.results33,go_sem,n0,n1,n2,n3]) rfl ⟨val,base,P1,pc1,g1,c1,rfl,HP1.out,HV1.out,?_,?_⟩
 ·exact (((OwnG.other HOW.out hno).other hno).other hno).other hno
 ·exact ((((HB0.out.trans (HB3.out.mono HB0.out.size)).setCell (by simp) _).setCell (by simp) _).setCell (by simp) _).setCell (by simp) _
set_option maxRecDepth 100000 in
set_option maxHeartbeats 4000000 in
theorem alike_aw (B pc c:Nat) (P A:Option Addr) (w:World) (hpv:Ints w B (.slice P 0 pc) awakeF.params) (hbv:BlocksR w B (.slice A 1 c) awakeF.blocks) (hB:B ≤ w.heap.size) :
  Calls Tryz.prog 34 #[.agg #[.slice P 0 pc,.int .i64 0,.int .i64 0,.slice A 1 c],.agg #[.slice P 0 pc,.int .i64 0,.int .i64 0,.slice A 1 c]] w fun e w' => e=.returned (.bool true) ∧ Below w.heap.size w w':=by
 obtain ⟨W,hW⟩:∃ W:World,W=(w.alloc (.cells #[.slice P 0 pc,.int .i64 0,.int .i64 0,.slice A 1 c] 25)).alloc (.cells #[.slice P 0 pc,.int .i64 0,.int .i64 0,.slice A 1 c] 25):=⟨_,rfl⟩
 have HB0:Hid (Below w.heap.size w W):=by show Below _ _ _;rw [hW];exact ((Below.refl _ w).alloc (Nat.le_refl _) _).alloc (by simp) _
 have hx1:W.heap[w.heap.size]?=some (.cells #[.slice P 0 pc,.int .i64 0,.int .i64 0,.slice A 1 c] 25 (0,0)):=by
  rw [hW,Below.heap_alloc _ _ _ (by simp)]
  exact heap_alloc_new w _
 have hx2:W.heap[w.heap.size + 1]?=some (.cells #[.slice P 0 pc,.int .i64 0,.int .i64 0,.slice A 1 c] 25 (0,0)):=by
  rw [hW]
  have:=heap_alloc_new (w.alloc (.cells #[.slice P 0 pc,.int .i64 0,.int .i64 0,.slice A 1 c] 25)) (.cells #[.slice P 0 pc,.int .i64 0,.int .i64 0,.slice A 1 c] 25)
  simpa using this
 have HX2:=hideI hx2
 have hwW:w.heap.size + 1 < W.heap.size:=lt_of_heap hx2
 have hBW:B ≤ W.heap.size:=Nat.le_trans hB HB0.out.size
 have hk:Keeps B w W:=Keeps.of_below (HB0.out.mono hB)
 have HPW:=hideI (hpv.keeps hk)
 have HBV:=hideI (hbv.keeps hk)
 have HR1:=hideI (rename_aw B pc c P A W HPW.out HBV.out hBW)
 have HW0:=hideI hW
 have hqs:=row_cells hx1 rfl
 have q0:=hqs 0
 have q1:=hqs 1
 have q2:=hqs 2
 have q3:=hqs 3
 clear hqs hx1 hx2 hW hk hpv hbv
 go_enter Tryz.func34,Tryz.ntmps34
 go_upto_region 1 with fail
 rw [← HW0.out]
 go_upto_region 4 with (go_at_call 33;go_must (refine HR1.out.mono ?_);rintro e w1 ⟨v1,b1,P1,pc1,g1,c1,rfl,hp1,hv1,how,hb⟩;have HRD:=hideI (AwO.rd how hv1);have HB1:=hideI hb;clear hp1 hv1 how hb q0 q1 q2 q3)
 obtain ⟨w2,hw2⟩:∃ w2:World,w2=w1.alloc (.cells #[.slice P1 0 pc1,.int .i64 0,.int .i64 0,.slice (some ⟨g1,0,none⟩) 1 c1] 25):=⟨_,rfl⟩
 rw [← hw2]
 have hb2:Below w1.heap.size w1 w2:=by rw [hw2];exact (Below.refl _ w1).alloc (Nat.le_refl _) _
 have hx4:w2.heap[w1.heap.size]?=some (.cells #[.slice P1 0 pc1,.int .i64 0,.int .i64 0,.slice (some ⟨g1,0,none⟩) 1 c1] 25 (0,0)):=by
  rw [hw2]
  exact heap_alloc_new w1 _
 have HX4:=hideI hx4
 have HB2:Hid (Below W.heap.size W w2):=HB1.out.trans (hb2.mono HB1.out.size)
 have HRD2:=hideI (HRD.out.kept hb2)
 have HR2:=hideI (rename_aw B pc c P A w2 (HPW.out.keeps (Keeps.of_below (HB2.out.mono hBW))) (HBV.out.keeps (Keeps.of_below (HB2.out.mono hBW))) (Nat.le_trans hBW HB2.out.size))
 have hqs:=row_cells ((HB2.out.block _ hwW).trans HX2.out) rfl
 have q0:=hqs 0
 have q1:=hqs 1
 have q2:=hqs 2
 have q3:=hqs 3
 clear hqs hx4 hw2 hb2
 go_upto_region 5 with (go_at_call 33;go_must (refine HR2.out.mono ?_);rintro e w3 ⟨v3,b3,P3,pc3,g3,c3,rfl,hp3,hv3,how,hb⟩;have HRD3:=hideI (AwO.rd how hv3);have HRDk:=hideI (HRD2.out.kept hb);have HB3:=hideI (HB2.out.trans (hb.mono HB2.out.size));have hx5:=(hb.block _ (lt_of_heap HX4.out)).trans HX4.out;have HX5:=hideI hx5;clear hp3 hv3 how hb q0 q1 q2 q3 hx5)
 obtain ⟨w4,hw4⟩:∃ w4:World,w4=w3.alloc (.cells #[.slice P3 0 pc3,.int .i64 0,.int .i64 0,.slice (some ⟨g3,0,none⟩) 1 c3] 25):=⟨_,rfl⟩
 rw [← hw4]
 have hb4:Below w3.heap.size w3 w4:=by rw [hw4];exact (Below.refl _ w3).alloc (Nat.le_refl _) _
 have hx6:w4.heap[w3.heap.size]?=some (.cells #[.slice P3 0 pc3,.int .i64 0,.int .i64 0,.slice (some ⟨g3,0,none⟩) 1 c3] 25 (0,0)):=by
  rw [hw4]
  exact heap_alloc_new w3 _
 have HB4:Hid (Below W.heap.size W w4):=HB3.out.trans (hb4.mono HB3.out.size)
 have HS:=hideI (same_aw g1 g3 c1 c3 pc1 pc3 P1 P3 w4 (HRDk.out.kept hb4) (HRD3.out.kept hb4))
 have hqs:=row_cells ((hb4.block _ (lt_of_heap HX5.out)).trans HX5.out) rfl
 have q0:=hqs 0
 have q1:=hqs 1
 have q2:=hqs 2
 have q3:=hqs 3
 have hrs:=row_cells hx6 rfl
 have r0:=hrs 0
 have r1:=hrs 1
 have r2:=hrs 2
 have r3:=hrs 3
 clear hqs hrs hx6 hw4 hb4
 go_wp2_with (go_at_call 71;go_must (refine HS.out.mono ?_);rintro e w5 ⟨rfl,hb⟩;have HB5:=hideI (HB4.out.trans (hb.mono HB4.out.size));clear hb)
 go_ret
 exact ⟨rfl,HB0.out.trans (HB5.out.mono HB0.out.size)⟩
set_option maxRecDepth 100000 in
set_option maxHeartbeats 4000000 in
theorem awake7_any (w:World):Calls Tryz.prog 11 #[] w fun e w' => e=.returned (.bool true) ∧ Below w.heap.size w w':=by
 obtain ⟨W,hW⟩:∃ W:World,W=(awakeMade w).alloc (.cells #[.slice none 0 0,.int .i64 0,.int .i64 0,.slice (some ⟨w.heap.size + 1,0,none⟩) 1 1] 25):=⟨_,rfl⟩
 obtain ⟨m1,m2,m3⟩:=awakeMade_facts w
 have hb0:Below (awakeMade w).heap.size (awakeMade w) W:=by rw [hW];exact (Below.refl _ _).alloc (Nat.le_refl _) _
 have HB0:Hid (Below w.heap.size w W):=m3.trans (hb0.mono (by omega))
 have hx1:W.heap[w.heap.size + 2]?=some (.cells #[.slice none 0 0,.int .i64 0,.int .i64 0,.slice (some ⟨w.heap.size + 1,0,none⟩) 1 1] 25 (0,0)):=by
  rw [hW,← m2]
  exact heap_alloc_new _ _
 have HX1:=hideI hx1
 have hBW:w.heap.size + 2 ≤ W.heap.size:=Nat.le_of_lt (lt_of_heap hx1)
 have HBV:=hideI (BlocksR.keeps m1 (Keeps.of_below (hb0.mono (by omega))))
 have HR1:=hideI (rename_aw (w.heap.size + 2) 0 1 none (some ⟨w.heap.size + 1,0,none⟩) W (Ints.nil _ _) HBV.out hBW)
 have HW0:=hideI hW
 have hx1':W.heap[w.heap.size + 1 + 1]?=_:=hx1
 have hqs:=row_cells hx1' rfl
 have q0:=hqs 0
 have q1:=hqs 1
 have q2:=hqs 2
 have q3:=hqs 3
 clear hqs hx1 hx1' hW m1 m2 m3 hb0
 unfold awakeMade at HW0
 go_enter Tryz.func11,Tryz.ntmps11
 go_upto_region 2 with fail
 rw [← HW0.out]
 go_upto_region 3 with (go_at_call 33;go_must (refine HR1.out.mono ?_);rintro e w1 ⟨v1,b1,P1,pc1,g1,c1,rfl,hp1,hv1,how,hb⟩;have HP1:=hideI hp1;have HV1:=hideI hv1;have HOW:=hideI how;have HB1:=hideI hb;clear hp1 hv1 how hb q0 q1 q2 q3)
 obtain ⟨w2,hw2⟩:∃ w2:World,w2=w1.alloc (.cells #[.slice P1 0 pc1,.int .i64 0,.int .i64 0,.slice (some ⟨g1,0,none⟩) 1 c1] 25):=⟨_,rfl⟩
 rw [← hw2]
 have hb2:Below w1.heap.size w1 w2:=by rw [hw2];exact (Below.refl _ w1).alloc (Nat.le_refl _) _
 have hx4:w2.heap[w1.heap.size]?=some (.cells #[.slice P1 0 pc1,.int .i64 0,.int .i64 0,.slice (some ⟨g1,0,none⟩) 1 c1] 25 (0,0)):=by
  rw [hw2]
  exact heap_alloc_new w1 _
 have HB2:Hid (Below W.heap.size W w2):=HB1.out.trans (hb2.mono HB1.out.size)
 have hrd:=OwnG.rd (HOW.out.below hb2) aw_small
 have hi1:=hrd.params
 have hb1:=hrd.blocks aw_fits
 rw [HP1.out] at hi1
 rw [HV1.out] at hb1
 have hbo:=(HBV.out.keeps (Keeps.of_below (HB2.out.mono hBW))).more' (Nat.le_trans hBW HB2.out.size)
 have HSM:Hid (Calls Tryz.prog 12 #[.agg #[.slice none 0 0,.int .i64 0,.int .i64 0,.slice (some ⟨w.heap.size + 1,0,none⟩) 1 1],.agg #[.slice P1 0 pc1,.int .i64 0,.int .i64 0,.slice (some ⟨g1,0,none⟩) 1 c1]] w2 fun e w' => e=.returned (.bool true) ∧ Below w2.heap.size w2 w'):=hideI (same_yes awakeF w2.heap.size _ _ _ _ w2 (Ints.nil _ _) hbo hi1 hb1 (Nat.le_refl _))
 have HAL:Hid (∀ w',Below W.heap.size W w' → Calls Tryz.prog 34 #[.agg #[.slice none 0 0,.int .i64 0,.int .i64 0,.slice (some ⟨w.heap.size + 1,0,none⟩) 1 1],.agg #[.slice none 0 0,.int .i64 0,.int .i64 0,.slice (some ⟨w.heap.size + 1,0,none⟩) 1 1]] w' fun e w2 => e=.returned (.bool true) ∧ Below w'.heap.size w' w2):=hideI fun w' hw' =>
  alike_aw (w.heap.size + 2) 0 1 none (some ⟨w.heap.size + 1,0,none⟩) w' (Ints.nil _ _) (HBV.out.keeps (Keeps.of_below (hw'.mono hBW))) (Nat.le_trans hBW hw'.size)
 have hx1:=(HB2.out.block _ (lt_of_heap HX1.out)).trans HX1.out
 have hx1':w2.heap[w.heap.size + 1 + 1]?=_:=hx1
 have hqs:=row_cells hx1' rfl
 have q0:=hqs 0
 have q1:=hqs 1
 have q2:=hqs 2
 have q3:=hqs 3
 have hrs:=row_cells hx4 rfl
 have r0:=hrs 0
 have r1:=hrs 1
 have r2:=hrs 2
 have r3:=hrs 3
 clear hqs hrs hx4 hx1 hx1' hw2 hb2 hrd hi1 hb1 hbo
 go_wp2_with (first
  | (go_at_call 12;go_must (refine HSM.out.mono ?_);rintro e w3 ⟨rfl,hb⟩;have HB3:=hideI (HB2.out.trans (hb.mono HB2.out.size));have hx3:=(HB3.out.block _ (lt_of_heap HX1.out)).trans HX1.out;have hx3':w3.heap[w.heap.size + 1 + 1]?=_:=hx3;have hqs:=row_cells hx3' rfl;clear q0 q1 q2 q3 r0 r1 r2 r3;have q0:=hqs 0;have q1:=hqs 1;have q2:=hqs 2;have q3:=hqs 3;have HAL3:=hideI (HAL.out w3 HB3.out);clear hqs hx3 hx3' hb)
  | (go_at_call 34;go_must (refine HAL3.out.mono ?_);rintro e w4 ⟨rfl,hb⟩;have HB4:=hideI (HB3.out.trans (hb.mono HB3.out.size));clear hb))
 go_ret
 exact ⟨rfl,HB0.out.trans (HB4.out.mono HB0.out.size)⟩
end Go.Proofs.YtaehbgppfahdeaaGreat

namespace Go.Proofs.YtaehbgppfahdeaaGreat
open Go.RowKit
theorem append_none (w:World) (g c ty:Nat) (_hpure:Sem.run Tryz.prog (pure (#[]:Array Value)) w=.ok #[] w):(Builtin.append_ #[22,22] ty #[.slice (some ⟨g,0,none⟩) 0 0,.slice none 0 c]).run Tryz.prog w=.ok (.slice (some ⟨g,0,none⟩) 0 0) w:=by
 go_simp
set_option maxRecDepth 100000 in
theorem run_copy (w:World) (B g ty:Nat) (v:Value) (xs:List Int) (hi:Ints w B v xs) (hg:w.heap[g]?=some (.cells #[] 3 (0,0))) (hn:xs.length ≤ 100000) (base:Nat) (hb:base ≤ g) :
  ∃ A' c' w',(Builtin.append_ #[22,22] ty #[.slice (some ⟨g,0,none⟩) 0 0,v]).run Tryz.prog w=.ok (.slice A' xs.length c') w' ∧ w'.ownsRow base 3 1 (.slice A' xs.length c') xs.length (xs.map (Value.int .i64)) ∧ w.grownBy w' (some g) ∧
   (∀ k,(Value.slice A' xs.length c').ownBlock=some k → k=g ∨ k=w.heap.size):=by
 have hgl:g < w.heap.size:=(Array.getElem?_eq_some_iff.1 hg).1
 have hown0:w.ownsRow base 3 1 (.slice (some ⟨g,0,none⟩) 0 0) 0 []:=⟨rfl,.inr ⟨g,0,#[],rfl,hb,hg,Nat.le_refl _,by unfold maxLen;omega,rfl,rfl⟩⟩
 obtain ⟨A,c,rfl,_,hat⟩:=hi
 cases A with
 | none =>
  have h0:xs.length=0:=by
   rcases Nat.eq_zero_or_pos xs.length with h | h
   ·exact h
   ·obtain ⟨_,_,e,_⟩:=hat 0 h
    cases e
  have hx:xs=[]:=List.eq_nil_of_length_eq_zero h0
  subst hx
  exact ⟨_,_,w,append_none w g c ty rfl,hown0,World.grownBy.refl w (some g),fun k hk => .inl (by simpa [Value.ownBlock] using hk.symm)⟩
 | some ad =>
  obtain ⟨i0,hix,hz0,hz1,hz2⟩:=info_parts int_info
  have hnews:∀ j u,(xs.map (Value.int .i64))[j]?=some u → w.cell? (ad.add j)=some u:=fun j u hu => by
   rw [List.getElem?_map] at hu
   cases hj:xs[j]? with
   | none => rw [hj] at hu;cases hu
   | some y =>
    rw [hj] at hu
    injection hu with hu
    obtain ⟨b,off,e,_,hc⟩:=hat j (List.getElem?_eq_some_iff.1 hj).1
    injection e with e
    subst e
    rw [Go.WideShapes.add_plain,hc,hj,← hu]
    rfl
  obtain ⟨v',w',hr,h2,h3,_,h5⟩:=run_append_own_at (P:=Tryz.prog) w base 22 ty 3 i0 _ 1 8 Tryz.underlying22 hix hz0 hz1 hz2 rfl (by decide) _ 0 [] hown0 ad xs.length c (xs.map (Value.int .i64)) (by simp) hnews (fun u hu => by
   obtain ⟨y,_,rfl⟩:=List.mem_map.1 hu
   rfl) (by unfold maxLen;omega) (by omega) (by omega)
  rw [Nat.zero_add,List.nil_append] at h2
  obtain ⟨A',c',rfl⟩:∃ A' c',v'=.slice A' xs.length c':=by
   rcases h2.2 with ⟨e,e0⟩ | ⟨g2,cap,cur,e,_⟩
   ·exact ⟨none,0,by rw [e,e0]⟩
   ·exact ⟨_,_,e⟩
  refine ⟨A',c',w',hr,h2,h3,fun k hk => ?_⟩
  rcases h5 with h5 | h5
  ·rw [h5] at hk
   exact .inl (by simpa [Value.ownBlock] using hk.symm)
  ·rw [h5] at hk
   exact .inr (by simpa using hk.symm)
theorem wpList_copy {ops:Array Oper} {rest:List Oper} {o:Oper} {a:Act} {Q:Exit → Act → World → Prop} {w:World} (hgd:o.guard=none) (s x:Operand) (ho:o.op=.call { callee:=.builtin .append,args:=#[s,x],argTypes:=#[22,22] })
  (B g:Nat) (v:Value) (xs:List Int) (hs:a.eval s=.slice (some ⟨g,0,none⟩) 0 0) (hx:a.eval x=v) (hi:Ints w B v xs) (hg:w.heap[g]?=some (.cells #[] 3 (0,0))) (hn:xs.length ≤ 100000) (base:Nat) (hb:base ≤ g)
  (h:∀ A' c' w',w'.ownsRow base 3 1 (.slice A' xs.length c') xs.length (xs.map (Value.int .i64)) → w.grownBy w' (some g) → (∀ k,(Value.slice A' xs.length c').ownBlock=some k → k=g ∨ k=w.heap.size) → wpList Tryz.prog ops Q rest (a.put o.dst (.slice A' xs.length c')) w'):wpList Tryz.prog ops Q (o :: rest) a w :=
 wpList_plain hgd fun _ hK => by
  obtain ⟨A',c',w',hr,h1,h2,h3⟩:=run_copy w B g o.type v xs hi hg hn base hb
  unfold Oper.wp execOp
  simp only [ho,resolve,invoke,builtin,Sem.run_bind,Sem.run_pure,Result.andThen_ok,List.map_toArray,List.map_cons,List.map_nil,hs,hx,hr]
  exact hK _ _ (h A' c' w' h1 h2 h3)
end Go.Proofs.YtaehbgppfahdeaaGreat

namespace Go.Proofs.YtaehbgppfahdeaaGreat
open Go.RowKit
theorem owns_stay {w w':World} {base:Nat} {e:TypeId} {size:Nat} {v:Value} {n:Nat} {xs:List Value} (h:w.ownsRow base e size v n xs) (hk:∀ g,v.ownBlock=some g → w'.heap[g]?=w.heap[g]?):w'.ownsRow base e size v n xs:=by
 refine ⟨h.1,?_⟩
 rcases h.2 with h2 | ⟨g,cap,cur,hv,hb,hg,r⟩
 ·exact .inl h2
 ·exact .inr ⟨g,cap,cur,hv,hb,(hk g (by rw [hv];rfl)).trans hg,r⟩
theorem own_form {w:World} {base:Nat} {e:TypeId} {size:Nat} {v:Value} {n:Nat} {xs:List Value} (h:w.ownsRow base e size v n xs):∃ A cp,v=.slice A n cp:=by
 rcases h.2 with ⟨e,e0⟩ | ⟨g,cap,cur,e,_⟩
 ·exact ⟨none,0,by rw [e,e0]⟩
 ·exact ⟨_,_,e⟩
abbrev VarD:=Nat × Array Value × TypeId
structure OwnC (w0 w:World) (row:Rows) (val:Vals) (D:Tag → Prop) (bl:List VarD):Prop where
 own:OwnG w w0.heap.size row val D
 cells:∀ x ∈ bl,w.heap[x.1]?=some (.cells x.2.1 x.2.2 (0,0)) ∧ w0.heap.size ≤ x.1
 off:∀ x ∈ bl,∀ t,D t → (val t).ownBlock ≠ some x.1
 dis:(bl.map (·.1)).Nodup
 below:Below w0.heap.size w0 w
section
variable {w0 w w1:World} {row row':Rows} {val val':Vals} {D D':Tag → Prop} {bl:List VarD}
theorem OwnC.nothing (w0:World) (row:Rows) (val:Vals):OwnC w0 w0 row val (fun _ => False) [] :=
 ⟨OwnG.nothing _ _ _ _,(fun _ h => by cases h),(fun _ h => by cases h),List.nodup_nil,Below.refl _ _⟩
theorem OwnC.lt (h:OwnC w0 w row val D bl) {x:VarD} (hx:x ∈ bl):x.1 < w.heap.size:=(Array.getElem?_eq_some_iff.1 (h.cells x hx).1).1
theorem OwnC.make (h:OwnC w0 w row val D bl) (cs:Array Value) (T:TypeId):OwnC w0 (w.alloc (.cells cs T)) row val D ((w.heap.size,cs,T) :: bl):=by
 have hb:Below w.heap.size w (w.alloc (.cells cs T)):=(Below.refl _ w).alloc (Nat.le_refl _) _
 refine ⟨h.own.below hb,fun x hx => ?_,fun x hx t ht he => ?_,?_,h.below.alloc h.below.size _⟩
 ·rcases List.mem_cons.1 hx with rfl | hx
  ·exact ⟨heap_alloc_new w _,h.below.size⟩
  ·obtain ⟨h1,h2⟩:=h.cells x hx
   exact ⟨(hb.block _ (h.lt hx)).trans h1,h2⟩
 ·rcases List.mem_cons.1 hx with rfl | hx
  ·have:=(h.own.lt ht he).2
   exact absurd this (Nat.lt_irrefl _)
  ·exact h.off x hx t ht he
 ·rw [List.map_cons,List.nodup_cons]
  refine ⟨fun hm => ?_,h.dis⟩
  obtain ⟨x,hx,e⟩:=List.mem_map.1 hm
  have h1:=h.lt hx
  have e:x.1=w.heap.size:=e
  omega
theorem OwnC.grows (h:OwnC w0 w row val D bl) (hb:Below w.heap.size w w1):OwnC w0 w1 row val D bl :=
 ⟨h.own.below hb,fun x hx => ⟨(hb.block _ (h.lt hx)).trans (h.cells x hx).1,(h.cells x hx).2⟩,h.off,h.dis,h.below.trans (hb.mono h.below.size)⟩
theorem OwnC.drop {bl':List VarD} (h:OwnC w0 w row val D bl) (hs:bl'.Sublist bl):OwnC w0 w row val D bl' :=
 ⟨h.own,fun x hx => h.cells x (hs.subset hx),fun x hx => h.off x (hs.subset hx),(hs.map _).nodup h.dis,h.below⟩
theorem OwnC.store {g j:Nat} {cs:Array Value} {T:TypeId} {r:List VarD} (h:OwnC w0 w row val D ((g,cs,T) :: r)) (u:Value):OwnC w0 (w.setCell ⟨g,j,none⟩ u) row val D ((g,cs.setIfInBounds j u,T) :: r):=by
 obtain ⟨hg,hlo⟩:=h.cells _ (List.mem_cons_self ..)
 have hd:=h.dis
 rw [List.map_cons,List.nodup_cons] at hd
 refine ⟨h.own.other fun t ht => h.off _ (List.mem_cons_self ..) t ht,fun x hx => ?_,fun x hx => ?_,h.dis,h.below.setCell (p:=⟨g,j,none⟩) hlo u⟩
 ·rcases List.mem_cons.1 hx with rfl | hx
  ·exact ⟨heap_setCell_same w g j _ _ u hg,hlo⟩
  ·have hne:x.1 ≠ g:=fun e => hd.1 (List.mem_map.2 ⟨x,hx,e⟩)
   exact ⟨(Below.heap_setCell _ _ _ _ hne).trans (h.cells x (List.mem_cons_of_mem _ hx)).1,(h.cells x (List.mem_cons_of_mem _ hx)).2⟩
 ·rcases List.mem_cons.1 hx with rfl | hx
  ·exact h.off (g,cs,T) (List.mem_cons_self ..)
  ·exact h.off x (List.mem_cons_of_mem _ hx)
theorem OwnC.perm {bl':List VarD} (h:OwnC w0 w row val D bl) (hp:bl'.Perm bl):OwnC w0 w row val D bl' :=
 ⟨h.own,fun x hx => h.cells x (hp.mem_iff.1 hx),fun x hx => h.off x (hp.mem_iff.1 hx),((hp.map _).nodup_iff).2 h.dis,h.below⟩
theorem OwnC.comes {g:Nat} {cs:Array Value} {T:TypeId} {r:List VarD} {t0:Tag} {d:RowD} {v:Value} (h:OwnC w0 w row val D ((g,cs,T) :: r)) (hn:¬ D t0) (hg:w.grownBy w1 (some g)) (hown:w1.ownsRow w0.heap.size d.elem d.size v d.len d.cells)
  (hv:∀ k,v.ownBlock=some k → k=g ∨ k=w.heap.size):OwnC w0 w1 (upd row t0 (some d)) (upd val t0 v) (fun t => D t ∨ t=t0) r:=by
 obtain ⟨_,hlo⟩:=h.cells _ (List.mem_cons_self ..)
 have hd:=h.dis
 rw [List.map_cons,List.nodup_cons] at hd
 have hkeep:∀ t b,D t → (val t).ownBlock=some b → w1.heap[b]?=w.heap[b]?:=fun t b ht hb => hg.block b (h.own.lt ht hb).2 fun e => h.off _ (List.mem_cons_self ..) t ht (by rw [hb,e])
 have hnew:∀ t b,D t → (val t).ownBlock=some b → v.ownBlock ≠ some b:=fun t b ht hb e => by
  rcases hv b e with h1 | h1
  ·exact h.off _ (List.mem_cons_self ..) t ht (by rw [hb,h1])
  ·have:=(h.own.lt ht hb).2
   omega
 refine ⟨⟨fun t ht => ?_,fun t d' ht hd' => ?_,fun t t' b ht ht' e1 e2 => ?_⟩,fun x hx => ?_,fun x hx t ht e => ?_,hd.2,?_⟩
 ·by_cases e:t=t0
  ·subst e;rw [upd_same];rfl
  ·rw [upd_ne _ _ e];exact h.own.has t (ht.resolve_right e)
 ·by_cases e:t=t0
  ·subst e
   rw [upd_same] at hd' ⊢
   cases hd'
   exact hown
  ·rw [upd_ne _ _ e] at hd' ⊢
   exact owns_stay (h.own.rows t d' (ht.resolve_right e) hd') fun b hb => hkeep t b (ht.resolve_right e) hb
 ·by_cases e:t=t0
  ·by_cases e':t'=t0
   ·rw [e,e']
   ·subst e
    rw [upd_same] at e1
    rw [upd_ne _ _ e'] at e2
    exact absurd e1 (hnew t' b (ht'.resolve_right e') e2)
  ·by_cases e':t'=t0
   ·subst e'
    rw [upd_same] at e2
    rw [upd_ne _ _ e] at e1
    exact absurd e2 (hnew t b (ht.resolve_right e) e1)
   ·rw [upd_ne _ _ e] at e1
    rw [upd_ne _ _ e'] at e2
    exact h.own.apart t t' b (ht.resolve_right e) (ht'.resolve_right e') e1 e2
 ·have hne:x.1 ≠ g:=fun e => hd.1 (List.mem_map.2 ⟨x,hx,e⟩)
  have hx':=List.mem_cons_of_mem (g,cs,T) hx
  exact ⟨(hg.block x.1 (h.lt hx') fun e => hne (by simpa using e)).trans (h.cells x hx').1,(h.cells x hx').2⟩
 ·have hne:x.1 ≠ g:=fun e => hd.1 (List.mem_map.2 ⟨x,hx,e⟩)
  have hx':=List.mem_cons_of_mem (g,cs,T) hx
  by_cases e2:t=t0
  ·subst e2
   rw [upd_same] at e
   rcases hv x.1 e with h1 | h1
   ·exact hne h1
   ·have:=h.lt hx'
    omega
  ·rw [upd_ne _ _ e2] at e
   exact h.off x hx' t (ht.resolve_right e2) e
 ·refine ⟨hg.os.trans h.below.os,hg.tape.trans h.below.tape,hg.output.trans h.below.output,Nat.le_trans h.below.size hg.size,fun k hk => ?_⟩
  exact (hg.block k (Nat.lt_of_lt_of_le hk h.below.size) fun e => by have e:k=g:=(by simpa using e);have hlo:w0.heap.size ≤ g:=hlo;omega).trans (h.below.block k hk)
theorem OwnC.grow {t0:Tag} {d:RowD} {v:Value} {g1:Nat} (h:OwnC w0 w row val D bl) (ht0:D t0) (hown:w1.ownsRow w0.heap.size d.elem d.size v d.len d.cells) (hg:w.grownBy w1 (val t0).ownBlock)
  (hv:v.ownBlock=some g1) (hor:(val t0).ownBlock=some g1 ∨ g1=w.heap.size):OwnC w0 w1 (upd row t0 (some d)) (upd val t0 v) D bl:=by
 refine ⟨h.own.grow ht0 hown hg hv hor,fun x hx => ?_,fun x hx t ht e => ?_,h.dis,?_⟩
 ·exact ⟨(hg.block x.1 (h.lt hx) fun e => h.off x hx t0 ht0 e.symm).trans (h.cells x hx).1,(h.cells x hx).2⟩
 ·by_cases e2:t=t0
  ·subst e2
   rw [upd_same,hv] at e
   injection e with e
   rcases hor with h1 | h1
   ·exact h.off x hx t ht0 (by rw [h1,e])
   ·have:=h.lt hx
    omega
  ·rw [upd_ne _ _ e2] at e
   exact h.off x hx t ht e
 ·refine ⟨hg.os.trans h.below.os,hg.tape.trans h.below.tape,hg.output.trans h.below.output,Nat.le_trans h.below.size hg.size,fun k hk => ?_⟩
  exact (hg.block k (Nat.lt_of_lt_of_le hk h.below.size) fun e => by have:=(h.own.lt ht0 e.symm).1;omega).trans (h.below.block k hk)
theorem OwnC.congr (h:OwnC w0 w row val D bl) (hr:∀ t,D' t → row' t=row t) (hv:∀ t,D' t → val' t=val t) (hD:∀ t,D' t → D t):OwnC w0 w row' val' D' bl :=
 ⟨h.own.congr hr hv hD,h.cells,fun x hx t ht => by rw [hv t ht];exact h.off x hx t (hD t ht),h.dis,h.below⟩
theorem OwnC.put {tp:Tag} {d:RowD} {g n cap j:Nat} {u:Value} (h:OwnC w0 w row val D bl) (hp:D tp) (hd:row tp=some d) (hv:val tp=.slice (some ⟨g,0,none⟩) n cap) (hn:d.len=n) :
  OwnC w0 (w.setCell ⟨g,j,none⟩ u) (upd row tp (some { d with cells:=d.cells.set j u })) val D bl:=by
 have hg:(val tp).ownBlock=some g:=by rw [hv];rfl
 refine ⟨h.own.set hp hd hv hn,fun x hx => ⟨?_,(h.cells x hx).2⟩,h.off,h.dis,h.below.setCell (p:=⟨g,j,none⟩) (h.own.lt hp hg).1 u⟩
 have hne:x.1 ≠ g:=fun e => h.off x hx tp hp (by rw [hg,e])
 exact (Below.heap_setCell _ _ _ _ hne).trans (h.cells x hx).1
theorem OwnC.of (h:OwnC w0 w row val D bl) (own:OwnG w1 w0.heap.size row' val' D') (hk:∀ x ∈ bl,w1.heap[x.1]?=w.heap[x.1]?) (hoff:∀ t g,D' t → (val' t).ownBlock=some g → (∃ t',D t' ∧ (val t').ownBlock=some g) ∨ w.heap.size ≤ g) (hb:Below w0.heap.size w w1):OwnC w0 w1 row' val' D' bl:=by
 refine ⟨own,fun x hx => ⟨(hk x hx).trans (h.cells x hx).1,(h.cells x hx).2⟩,fun x hx t ht e => ?_,h.dis,h.below.trans hb⟩
 rcases hoff t _ ht e with ⟨t',ht',e'⟩ | h2
 ·exact h.off x hx t' ht' e'
 ·have:=h.lt hx
  omega
theorem OwnC.cell {tp:Tag} {d:RowD} {g n cap j:Nat} (h:OwnC w0 w row val D bl) (hp:D tp) (hd:row tp=some d) (hv:val tp=.slice (some ⟨g,0,none⟩) n cap) (hn:d.len=n) (hj:j < n * d.size) :
  w.cell? ⟨g,j,none⟩=d.cells[j]? ∧ w.frozen? ⟨g,j,none⟩=false:=h.own.cell hp hd hv hn hj
end
end Go.Proofs.YtaehbgppfahdeaaGreat
