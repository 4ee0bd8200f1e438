/- What EditBackUpto rests on, part 17: LNest, LForest, LLps, EAw6, RCopyI, OwnC. -/
import Derived.Test.YtaehbgppfahdeaaGreatPkEditBackUpto16

namespace Go.Proofs.YtaehbgppfahdeaaGreat
open Go.RowKit Go.Maps
def lp0M (bs:List BlockM) (D L:Nat → Nat → Bool) (k:Nat):List LpM:=(headsM bs D k).map (lpOf bs D L)
def parsTo (ls:List LpM) (j:Nat):List LpM:=(List.range ls.length).map fun i => if i < j then { ls.getD i noLp with parent:=arM ls i ls.length } else ls.getD i noLp
def loopsM (bs:List BlockM) (D L:Nat → Nat → Bool):List LpM:=parsTo (lp0M bs D L bs.length) (lp0M bs D L bs.length).length
def NestPost (f:FuncM) (pv bv:Value) (w:World) (e:Ending) (w':World):Prop :=
 (∃ x y:Int,CheckIs f (x,y) ∧ y ≠ 0 ∧ e=.returned (.tuple #[.agg #[.slice none 0 0,.int .i64 0,.int .i64 0,.slice none 0 0,.slice none 0 0,.slice none 0 0,.slice none 0 0,.slice none 0 0],.int .i64 y]) ∧ Below w.heap.size w w') ∨
 (∃ (o:List Nat) (pl:Nat → Nat) (par:Nat → Option Nat) (D L:Nat → Nat → Bool) (gp:Nat) (vs:List Value) (gi gl:Nat) (lv:Value),LoopsOf f o pl par D L ∧ e=.returned (.tuple #[.agg #[pv,.int .i64 f.arrays,.int .i64 f.cells,bv,.slice (some ⟨gp,0,none⟩) f.blocks.length f.blocks.length,.slice (some ⟨gi,0,none⟩) f.blocks.length f.blocks.length,.slice (some ⟨gl,0,none⟩) f.blocks.length f.blocks.length,lv],.int .i64 0]) ∧ LfAt w' (w.heap.size + 2) f.blocks o pl par gp vs gi gl ∧ LoopsR w' (w.heap.size + 2) lv (loopsM f.blocks D L) ∧ Below w.heap.size w w')
end Go.Proofs.YtaehbgppfahdeaaGreat

namespace Go.Proofs.YtaehbgppfahdeaaGreat
open Go.RowKit Go.Maps
def ForestPost (f:FuncM) (w:World) (e:Ending) (w':World):Prop :=
 (∃ x y:Int,CheckIs f (x,y) ∧ y ≠ 0 ∧ e=.returned (.tuple #[.slice none 0 0,.int .i64 y]) ∧ Below w.heap.size w w') ∨
 (∃ (o:List Nat) (pl:Nat → Nat) (par:Nat → Option Nat) (D L:Nat → Nat → Bool) (lv:Value),LoopsOf f o pl par D L ∧ e=.returned (.tuple #[lv,.int .i64 0]) ∧ LoopsR w' w.heap.size lv (loopsM f.blocks D L) ∧ Below w.heap.size w w')
end Go.Proofs.YtaehbgppfahdeaaGreat

namespace Go.Proofs.YtaehbgppfahdeaaGreat
open Go.RowKit Go.Maps
theorem awake_strict:∃ o,StrictM awakeF o:=(strict_of awake_checkIs).2
theorem awake_check9 {r:Int × Int} (h:CheckIs awakeF r):r=(0,0):=by
 obtain ⟨o,ho⟩:=awake_strict
 exact ho.check h
end Go.Proofs.YtaehbgppfahdeaaGreat

namespace Go.Proofs.YtaehbgppfahdeaaGreat
open Go.RowKit Go.Maps
def AwRen (w:World) (e:Ending) (w':World):Prop :=
 ∃ (val:Vals) (base:Nat) (P:Option Addr) (pc g c:Nat),e=.returned (.tuple #[.agg #[.slice P 0 pc,.int .i64 0,.int .i64 0,.slice (some ⟨g,0,none⟩) 1 c],.int .i64 0]) ∧ val .params=.slice P 0 pc ∧ val .blocks=.slice (some ⟨g,0,none⟩) 1 c ∧ AwO w' base val ∧ Below w.heap.size w w'
set_option maxRecDepth 100000 in
set_option maxHeartbeats 4000000 in
theorem rename_aw (B pc c:Nat) (P A:Option Addr) (w:World) (hpv:Ints w B (.slice P 0 pc) awakeF.params) (hbv:BlocksR w B (.slice A 1 c) awakeF.blocks) (hB:B ≤ w.heap.size) :
  Calls Tryz.prog 33 #[.agg #[.slice P 0 pc,.int .i64 0,.int .i64 0,.slice A 1 c]] w (AwRen w):=by
 obtain ⟨W,hW⟩:∃ W:World,W=(w.alloc (.cells #[.slice P 0 pc,.int .i64 0,.int .i64 0,.slice A 1 c] 25)).alloc (.cells #[.slice none 0 0,.int .i64 0,.int .i64 0,.slice none 0 0] 25):=⟨_,rfl⟩
 have HB0:Hid (Below w.heap.size w W):=by show Below _ _ _;rw [hW];exact ((Below.refl _ w).alloc (Nat.le_refl _) _).alloc (by simp) _
 have hx1:W.heap[w.heap.size]?=some (.cells #[.slice P 0 pc,.int .i64 0,.int .i64 0,.slice A 1 c] 25 (0,0)):=by
  rw [hW,Below.heap_alloc _ _ _ (by simp)]
  exact heap_alloc_new w _
 have hx2:W.heap[w.heap.size + 1]?=some (.cells #[.slice none 0 0,.int .i64 0,.int .i64 0,.slice none 0 0] 25 (0,0)):=by
  rw [hW]
  have:=heap_alloc_new (w.alloc (.cells #[.slice P 0 pc,.int .i64 0,.int .i64 0,.slice A 1 c] 25)) (.cells #[.slice none 0 0,.int .i64 0,.int .i64 0,.slice none 0 0] 25)
  simpa using this
 have HX1:=hideI hx1
 have HX2:=hideI hx2
 have hwW:w.heap.size + 1 < W.heap.size:=lt_of_heap hx2
 have hBW:B ≤ W.heap.size:=Nat.le_trans hB HB0.out.size
 have hk:Keeps B w W:=Keeps.of_below (HB0.out.mono hB)
 have HPW:=hideI (hpv.keeps hk)
 have HBV:=hideI (hbv.keeps hk)
 have HSC:Hid (Calls Tryz.prog 27 #[.agg #[.slice P 0 pc,.int .i64 0,.int .i64 0,.slice A 1 c]] W (CheckPost awakeF W)):=hideI (sCheck_any awakeF B _ _ W HPW.out HBV.out hBW awake_uses)
 have HW0:=hideI hW
 have hqs:=row_cells hx1 rfl
 have q0:=hqs 0
 have q1:=hqs 1
 have q2:=hqs 2
 have q3:=hqs 3
 clear hqs hx1 hx2 hW hk hpv hbv
 go_enter Tryz.func33,Tryz.ntmps33
 go_upto_region 1 with fail
 rw [← HW0.out]
 go_wp2_with (first
  | (go_at_call 27;go_must (refine HSC.out.mono ?_);rintro e w1 ⟨x,y,rfl,hci,hb⟩;obtain ⟨rfl,rfl⟩:=Prod.mk.inj (awake_check9 hci);have HB1:=hideI hb;have hqs:=row_cells ((hb.block _ (by omega)).trans HX1.out) rfl;clear q0 q1 q2 q3;have q0:=hqs 0;have q1:=hqs 1;have q2:=hqs 2;have q3:=hqs 3;have HGO:Hid (Calls Tryz.prog 69 #[.agg #[.slice P 0 pc,.int .i64 0,.int .i64 0,.slice A 1 c]] w1 fun e w' => ∃ (o:List Nat) (g cap:Nat),e=.returned (.tuple #[.slice (some ⟨g,0,none⟩) o.length cap,.int .i64 0]) ∧ OrderIs awakeF.blocks o ∧ 0 < o.length ∧ o.length ≤ awakeF.blocks.length ∧ w'.ownsRow w1.heap.size 3 1 (.slice (some ⟨g,0,none⟩) o.length cap) o.length (natInts o) ∧ Below w1.heap.size w1 w'):=hideI (gOrder_yes awakeF B _ _ w1 (HPW.out.keeps (Keeps.of_below (hb.mono hBW))) (HBV.out.keeps (Keeps.of_below (hb.mono hBW))) (Nat.le_trans hBW hb.size) awake_uses (by rw [awake_look]));clear hci hb hqs)
  | (go_at_call 69;go_must (refine HGO.out.mono ?_);rintro e w2 ⟨o,g,cap,rfl,ho,_,_,hown,hb⟩;obtain rfl:=ho.one awake_orderIs;have HB2:=hideI (HB1.out.trans (hb.mono HB1.out.size));have hg:=(hown.lt g rfl).2;have hoc:w2.cell? ⟨g,0,none⟩=some (.int .i64 0):=(by rw [World.ownsRow.cellAt hown 0 (by show 0 < 1 * 1;omega)];rfl);have HRN:=hideI (renamed_aw B g cap pc c P A w2 (HPW.out.keeps (Keeps.of_below (HB2.out.mono hBW))) (HBV.out.keeps (Keeps.of_below (HB2.out.mono hBW))) (Nat.le_trans hBW HB2.out.size) hg hoc);have hqs:=row_cells ((HB2.out.block _ (by omega)).trans HX1.out) rfl;clear q0 q1 q2 q3;have q0:=hqs 0;have q1:=hqs 1;have q2:=hqs 2;have q3:=hqs 3;clear hqs hb hown ho hg hoc)
  | (go_at_call 70;go_must (refine HRN.out.mono ?_);rintro e w3 ⟨val,base,P1,pc1,A1,c1,rfl,hp1,hv1,how,hlo,hb⟩;(obtain ⟨g1,c2,hg2,_⟩:=how.slice (tp:=.blocks) (.inr (.inl rfl)) rfl (Nat.lt_succ_self 0));have hg3:val .blocks=.slice (some ⟨g1,0,none⟩) 1 c2:=hg2;rw [hv1] at hg3;injection hg3 with e1 _ e3;subst e1 e3;have HP1:=hideI hp1;have HV1:=hideI hv1;have HOW:=hideI how;have HLO:=hideI hlo;have HB3:=hideI (HB2.out.trans (hb.mono HB2.out.size));clear q0 q1 q2 q3;have hx2:=(HB3.out.block _ hwW).trans HX2.out;have hns:=row_cells hx2 rfl;have n0:=hns 0;have n1:=hns 1;have n2:=hns 2;have n3:=hns 3;have fr:=free_rowN hx2 rfl;have f0:=fr 0;have f1:=fr 1;have f2:=fr 2;have f3:=fr 3;clear hns fr hx2 hp1 hv1 how hlo hb hg2))
 have hno:∀ t,EE awakeF 1 t → (val t).ownBlock ≠ some (w.heap.size + 1):=fun t ht e => by
  have h1:=(HOW.out.lt ht e).1
  have h2:=HLO.out
  have h3:=HB2.out.size
  omega
 refine bodyPost_ret (v:=.tuple #[.agg #[.slice P1 0 pc1,.int .i64 0,.int .i64 0,.slice (some ⟨g1,0,none⟩) 1 c1],.int .i64 0]) (by simp [results,Tryz.results33,go_sem,n0,n1,n2,n3]) rfl ⟨val,base,P1,pc1,g1,c1,rfl,HP1.out,HV1.out,?_,?_⟩
 ·exact (((OwnG.other HOW.out hno).other hno).other hno).other hno
 ·exact ((((HB0.out.trans (HB3.out.mono HB0.out.size)).setCell (by simp) _).setCell (by simp) _).setCell (by simp) _).setCell (by simp) _
set_option maxRecDepth 100000 in
set_option maxHeartbeats 4000000 in
theorem alike_aw (B pc c:Nat) (P A:Option Addr) (w:World) (hpv:Ints w B (.slice P 0 pc) awakeF.params) (hbv:BlocksR w B (.slice A 1 c) awakeF.blocks) (hB:B ≤ w.heap.size) :
  Calls Tryz.prog 34 #[.agg #[.slice P 0 pc,.int .i64 0,.int .i64 0,.slice A 1 c],.agg #[.slice P 0 pc,.int .i64 0,.int .i64 0,.slice A 1 c]] w fun e w' => e=.returned (.bool true) ∧ Below w.heap.size w w':=by
 obtain ⟨W,hW⟩:∃ W:World,W=(w.alloc (.cells #[.slice P 0 pc,.int .i64 0,.int .i64 0,.slice A 1 c] 25)).alloc (.cells #[.slice P 0 pc,.int .i64 0,.int .i64 0,.slice A 1 c] 25):=⟨_,rfl⟩
 have HB0:Hid (Below w.heap.size w W):=by show Below _ _ _;rw [hW];exact ((Below.refl _ w).alloc (Nat.le_refl _) _).alloc (by simp) _
 have hx1:W.heap[w.heap.size]?=some (.cells #[.slice P 0 pc,.int .i64 0,.int .i64 0,.slice A 1 c] 25 (0,0)):=by
  rw [hW,Below.heap_alloc _ _ _ (by simp)]
  exact heap_alloc_new w _
 have hx2:W.heap[w.heap.size + 1]?=some (.cells #[.slice P 0 pc,.int .i64 0,.int .i64 0,.slice A 1 c] 25 (0,0)):=by
  rw [hW]
  have:=heap_alloc_new (w.alloc (.cells #[.slice P 0 pc,.int .i64 0,.int .i64 0,.slice A 1 c] 25)) (.cells #[.slice P 0 pc,.int .i64 0,.int .i64 0,.slice A 1 c] 25)
  simpa using this
 have HX2:=hideI hx2
 have hwW:w.heap.size + 1 < W.heap.size:=lt_of_heap hx2
 have hBW:B ≤ W.heap.size:=Nat.le_trans hB HB0.out.size
 have hk:Keeps B w W:=Keeps.of_below (HB0.out.mono hB)
 have HPW:=hideI (hpv.keeps hk)
 have HBV:=hideI (hbv.keeps hk)
 have HR1:=hideI (rename_aw B pc c P A W HPW.out HBV.out hBW)
 have HW0:=hideI hW
 have hqs:=row_cells hx1 rfl
 have q0:=hqs 0
 have q1:=hqs 1
 have q2:=hqs 2
 have q3:=hqs 3
 clear hqs hx1 hx2 hW hk hpv hbv
 go_enter Tryz.func34,Tryz.ntmps34
 go_upto_region 1 with fail
 rw [← HW0.out]
 go_upto_region 4 with (go_at_call 33;go_must (refine HR1.out.mono ?_);rintro e w1 ⟨v1,b1,P1,pc1,g1,c1,rfl,hp1,hv1,how,hb⟩;have HRD:=hideI (AwO.rd how hv1);have HB1:=hideI hb;clear hp1 hv1 how hb q0 q1 q2 q3)
 obtain ⟨w2,hw2⟩:∃ w2:World,w2=w1.alloc (.cells #[.slice P1 0 pc1,.int .i64 0,.int .i64 0,.slice (some ⟨g1,0,none⟩) 1 c1] 25):=⟨_,rfl⟩
 rw [← hw2]
 have hb2:Below w1.heap.size w1 w2:=by rw [hw2];exact (Below.refl _ w1).alloc (Nat.le_refl _) _
 have hx4:w2.heap[w1.heap.size]?=some (.cells #[.slice P1 0 pc1,.int .i64 0,.int .i64 0,.slice (some ⟨g1,0,none⟩) 1 c1] 25 (0,0)):=by
  rw [hw2]
  exact heap_alloc_new w1 _
 have HX4:=hideI hx4
 have HB2:Hid (Below W.heap.size W w2):=HB1.out.trans (hb2.mono HB1.out.size)
 have HRD2:=hideI (HRD.out.kept hb2)
 have HR2:=hideI (rename_aw B pc c P A w2 (HPW.out.keeps (Keeps.of_below (HB2.out.mono hBW))) (HBV.out.keeps (Keeps.of_below (HB2.out.mono hBW))) (Nat.le_trans hBW HB2.out.size))
 have hqs:=row_cells ((HB2.out.block _ hwW).trans HX2.out) rfl
 have q0:=hqs 0
 have q1:=hqs 1
 have q2:=hqs 2
 have q3:=hqs 3
 clear hqs hx4 hw2 hb2
 go_upto_region 5 with (go_at_call 33;go_must (refine HR2.out.mono ?_);rintro e w3 ⟨v3,b3,P3,pc3,g3,c3,rfl,hp3,hv3,how,hb⟩;have HRD3:=hideI (AwO.rd how hv3);have HRDk:=hideI (HRD2.out.kept hb);have HB3:=hideI (HB2.out.trans (hb.mono HB2.out.size));have hx5:=(hb.block _ (lt_of_heap HX4.out)).trans HX4.out;have HX5:=hideI hx5;clear hp3 hv3 how hb q0 q1 q2 q3 hx5)
 obtain ⟨w4,hw4⟩:∃ w4:World,w4=w3.alloc (.cells #[.slice P3 0 pc3,.int .i64 0,.int .i64 0,.slice (some ⟨g3,0,none⟩) 1 c3] 25):=⟨_,rfl⟩
 rw [← hw4]
 have hb4:Below w3.heap.size w3 w4:=by rw [hw4];exact (Below.refl _ w3).alloc (Nat.le_refl _) _
 have hx6:w4.heap[w3.heap.size]?=some (.cells #[.slice P3 0 pc3,.int .i64 0,.int .i64 0,.slice (some ⟨g3,0,none⟩) 1 c3] 25 (0,0)):=by
  rw [hw4]
  exact heap_alloc_new w3 _
 have HB4:Hid (Below W.heap.size W w4):=HB3.out.trans (hb4.mono HB3.out.size)
 have HS:=hideI (same_aw g1 g3 c1 c3 pc1 pc3 P1 P3 w4 (HRDk.out.kept hb4) (HRD3.out.kept hb4))
 have hqs:=row_cells ((hb4.block _ (lt_of_heap HX5.out)).trans HX5.out) rfl
 have q0:=hqs 0
 have q1:=hqs 1
 have q2:=hqs 2
 have q3:=hqs 3
 have hrs:=row_cells hx6 rfl
 have r0:=hrs 0
 have r1:=hrs 1
 have r2:=hrs 2
 have r3:=hrs 3
 clear hqs hrs hx6 hw4 hb4
 go_wp2_with (go_at_call 71;go_must (refine HS.out.mono ?_);rintro e w5 ⟨rfl,hb⟩;have HB5:=hideI (HB4.out.trans (hb.mono HB4.out.size));clear hb)
 go_ret
 exact ⟨rfl,HB0.out.trans (HB5.out.mono HB0.out.size)⟩
set_option maxRecDepth 100000 in
set_option maxHeartbeats 4000000 in
theorem awake7_any (w:World):Calls Tryz.prog 11 #[] w fun e w' => e=.returned (.bool true) ∧ Below w.heap.size w w':=by
 obtain ⟨W,hW⟩:∃ W:World,W=(awakeMade w).alloc (.cells #[.slice none 0 0,.int .i64 0,.int .i64 0,.slice (some ⟨w.heap.size + 1,0,none⟩) 1 1] 25):=⟨_,rfl⟩
 obtain ⟨m1,m2,m3⟩:=awakeMade_facts w
 have hb0:Below (awakeMade w).heap.size (awakeMade w) W:=by rw [hW];exact (Below.refl _ _).alloc (Nat.le_refl _) _
 have HB0:Hid (Below w.heap.size w W):=m3.trans (hb0.mono (by omega))
 have hx1:W.heap[w.heap.size + 2]?=some (.cells #[.slice none 0 0,.int .i64 0,.int .i64 0,.slice (some ⟨w.heap.size + 1,0,none⟩) 1 1] 25 (0,0)):=by
  rw [hW,← m2]
  exact heap_alloc_new _ _
 have HX1:=hideI hx1
 have hBW:w.heap.size + 2 ≤ W.heap.size:=Nat.le_of_lt (lt_of_heap hx1)
 have HBV:=hideI (BlocksR.keeps m1 (Keeps.of_below (hb0.mono (by omega))))
 have HR1:=hideI (rename_aw (w.heap.size + 2) 0 1 none (some ⟨w.heap.size + 1,0,none⟩) W (Ints.nil _ _) HBV.out hBW)
 have HW0:=hideI hW
 have hx1':W.heap[w.heap.size + 1 + 1]?=_:=hx1
 have hqs:=row_cells hx1' rfl
 have q0:=hqs 0
 have q1:=hqs 1
 have q2:=hqs 2
 have q3:=hqs 3
 clear hqs hx1 hx1' hW m1 m2 m3 hb0
 unfold awakeMade at HW0
 go_enter Tryz.func11,Tryz.ntmps11
 go_upto_region 2 with fail
 rw [← HW0.out]
 go_upto_region 3 with (go_at_call 33;go_must (refine HR1.out.mono ?_);rintro e w1 ⟨v1,b1,P1,pc1,g1,c1,rfl,hp1,hv1,how,hb⟩;have HP1:=hideI hp1;have HV1:=hideI hv1;have HOW:=hideI how;have HB1:=hideI hb;clear hp1 hv1 how hb q0 q1 q2 q3)
 obtain ⟨w2,hw2⟩:∃ w2:World,w2=w1.alloc (.cells #[.slice P1 0 pc1,.int .i64 0,.int .i64 0,.slice (some ⟨g1,0,none⟩) 1 c1] 25):=⟨_,rfl⟩
 rw [← hw2]
 have hb2:Below w1.heap.size w1 w2:=by rw [hw2];exact (Below.refl _ w1).alloc (Nat.le_refl _) _
 have hx4:w2.heap[w1.heap.size]?=some (.cells #[.slice P1 0 pc1,.int .i64 0,.int .i64 0,.slice (some ⟨g1,0,none⟩) 1 c1] 25 (0,0)):=by
  rw [hw2]
  exact heap_alloc_new w1 _
 have HB2:Hid (Below W.heap.size W w2):=HB1.out.trans (hb2.mono HB1.out.size)
 have hrd:=OwnG.rd (HOW.out.below hb2) aw_small
 have hi1:=hrd.params
 have hb1:=hrd.blocks aw_fits
 rw [HP1.out] at hi1
 rw [HV1.out] at hb1
 have hbo:=(HBV.out.keeps (Keeps.of_below (HB2.out.mono hBW))).more' (Nat.le_trans hBW HB2.out.size)
 have HSM:Hid (Calls Tryz.prog 12 #[.agg #[.slice none 0 0,.int .i64 0,.int .i64 0,.slice (some ⟨w.heap.size + 1,0,none⟩) 1 1],.agg #[.slice P1 0 pc1,.int .i64 0,.int .i64 0,.slice (some ⟨g1,0,none⟩) 1 c1]] w2 fun e w' => e=.returned (.bool true) ∧ Below w2.heap.size w2 w'):=hideI (same_yes awakeF w2.heap.size _ _ _ _ w2 (Ints.nil _ _) hbo hi1 hb1 (Nat.le_refl _))
 have HAL:Hid (∀ w',Below W.heap.size W w' → Calls Tryz.prog 34 #[.agg #[.slice none 0 0,.int .i64 0,.int .i64 0,.slice (some ⟨w.heap.size + 1,0,none⟩) 1 1],.agg #[.slice none 0 0,.int .i64 0,.int .i64 0,.slice (some ⟨w.heap.size + 1,0,none⟩) 1 1]] w' fun e w2 => e=.returned (.bool true) ∧ Below w'.heap.size w' w2):=hideI fun w' hw' =>
  alike_aw (w.heap.size + 2) 0 1 none (some ⟨w.heap.size + 1,0,none⟩) w' (Ints.nil _ _) (HBV.out.keeps (Keeps.of_below (hw'.mono hBW))) (Nat.le_trans hBW hw'.size)
 have hx1:=(HB2.out.block _ (lt_of_heap HX1.out)).trans HX1.out
 have hx1':w2.heap[w.heap.size + 1 + 1]?=_:=hx1
 have hqs:=row_cells hx1' rfl
 have q0:=hqs 0
 have q1:=hqs 1
 have q2:=hqs 2
 have q3:=hqs 3
 have hrs:=row_cells hx4 rfl
 have r0:=hrs 0
 have r1:=hrs 1
 have r2:=hrs 2
 have r3:=hrs 3
 clear hqs hrs hx4 hx1 hx1' hw2 hb2 hrd hi1 hb1 hbo
 go_wp2_with (first
  | (go_at_call 12;go_must (refine HSM.out.mono ?_);rintro e w3 ⟨rfl,hb⟩;have HB3:=hideI (HB2.out.trans (hb.mono HB2.out.size));have hx3:=(HB3.out.block _ (lt_of_heap HX1.out)).trans HX1.out;have hx3':w3.heap[w.heap.size + 1 + 1]?=_:=hx3;have hqs:=row_cells hx3' rfl;clear q0 q1 q2 q3 r0 r1 r2 r3;have q0:=hqs 0;have q1:=hqs 1;have q2:=hqs 2;have q3:=hqs 3;have HAL3:=hideI (HAL.out w3 HB3.out);clear hqs hx3 hx3' hb)
  | (go_at_call 34;go_must (refine HAL3.out.mono ?_);rintro e w4 ⟨rfl,hb⟩;have HB4:=hideI (HB3.out.trans (hb.mono HB3.out.size));clear hb))
 go_ret
 exact ⟨rfl,HB0.out.trans (HB4.out.mono HB0.out.size)⟩
end Go.Proofs.YtaehbgppfahdeaaGreat

namespace Go.Proofs.YtaehbgppfahdeaaGreat
open Go.RowKit
end Go.Proofs.YtaehbgppfahdeaaGreat

namespace Go.Proofs.YtaehbgppfahdeaaGreat
open Go.RowKit
abbrev VarD:=Nat × Array Value × TypeId
structure OwnC (w0 w:World) (row:Rows) (val:Vals) (D:Tag → Prop) (bl:List VarD):Prop where
 own:OwnG w w0.heap.size row val D
 cells:∀ x ∈ bl,w.heap[x.1]?=some (.cells x.2.1 x.2.2 (0,0)) ∧ w0.heap.size ≤ x.1
 off:∀ x ∈ bl,∀ t,D t → (val t).ownBlock ≠ some x.1
 dis:(bl.map (·.1)).Nodup
 below:Below w0.heap.size w0 w
section
variable {w0 w w1:World} {row row':Rows} {val val':Vals} {D D':Tag → Prop} {bl:List VarD}
end
end Go.Proofs.YtaehbgppfahdeaaGreat
