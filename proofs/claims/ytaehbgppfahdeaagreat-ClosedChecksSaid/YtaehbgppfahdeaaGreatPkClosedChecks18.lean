/- What ClosedChecks rests on, part 18: ClNest, ClCheck, CAwFacts, ClAwake, RefUses5. -/
import Derived.Test.YtaehbgppfahdeaaGreatPkClosedChecks17

namespace Go.Proofs.YtaehbgppfahdeaaGreat
open Go.RowKit Go.Maps
structure CloK (f:FuncM) (base gl:Nat) (lv:Value) (D L:Nat→Nat→Bool) (W w':World):Prop where
 loops:LoopsR w' base lv (loopsM f.blocks D L)
 least:w'.ownsRow base 3 1 (.slice (some ⟨gl,0,none⟩) f.blocks.length f.blocks.length) f.blocks.length (leastR f.blocks.length (loopsM f.blocks D L) (loopsM f.blocks D L).length [] 0)
 below:Below W.heap.size W w'
section
variable {f:FuncM} {base gl:Nat} {lv:Value} {D L:Nat→Nat→Bool} {W w' w'':World}
theorem CloK.kept (h:CloK f base gl lv D L W w') (hb:Below w'.heap.size w' w''):CloK f base gl lv D L W w'' :=
 ⟨h.loops.kept hb,own_kept_below h.least hb (fun k hk=>(h.least.lt k hk).2),h.below.trans (hb.mono h.below.size)⟩
end
theorem PlacesAt.set {w:World} {M j off:Nat} {l:Placed} (h:PlacesAt w M l) (hj:j≠M) (u:Value):PlacesAt (w.setCell ⟨j,off,none⟩ u) M l:=by
 obtain⟨D,⟨es,clock,hg,r⟩,q⟩:=h
 exact⟨D,⟨es,clock,(heap_setCell_other w ⟨j,off,none⟩ M u (fun e=>hj e.symm)).trans hg,r⟩,q⟩
def CloNestPost (f:FuncM) (pv bv:Value) (w:World) (e:Ending) (w':World):Prop :=
 (∃ x y:Int,CheckIs f (x,y)∧y≠0∧e=.returned (.tuple #[.agg #[.slice none 0 0,.int .i64 0,.int .i64 0,.slice none 0 0,.slice none 0 0,.slice none 0 0,.slice none 0 0,.slice none 0 0,.slice none 0 0,.map none],.int .i64 y])∧Below w.heap.size w w') ∨
 (∃ (o:List Nat) (pl:Nat→Nat) (par:Nat→Option Nat) (D L:Nat→Nat→Bool) (lv:Value) (gl go co gp gi M lo:Nat),LoopsOf f o pl par D L∧e=.returned (.tuple #[.agg #[pv,.int .i64 f.arrays,.int .i64 f.cells,bv,lv,.slice (some ⟨gl,0,none⟩) f.blocks.length f.blocks.length,.slice (some ⟨go,0,none⟩) lo co,.slice (some ⟨gp,0,none⟩) f.blocks.length f.blocks.length,.slice (some ⟨gi,0,none⟩) f.blocks.length f.blocks.length,.map (some M)],.int .i64 0])∧LoopsR w' w.heap.size lv (loopsM f.blocks D L)∧w'.ownsRow w.heap.size 3 1 (.slice (some ⟨gl,0,none⟩) f.blocks.length f.blocks.length) f.blocks.length (leastR f.blocks.length (loopsM f.blocks D L) (loopsM f.blocks D L).length [] 0)∧w.heap.size≤M∧PlacesAt w' M (defsM f)∧Below w.heap.size w w')
set_option maxRecDepth 100000 in
set_option maxHeartbeats 4000000 in
theorem cloNest_any (f:FuncM) (B:Nat) (pv bv:Value) (w:World) (hpv:Ints w B pv f.params) (hbv:BlocksR w B bv f.blocks) (hB:B≤w.heap.size) (hid:∀ u∈usesM f,I64 u.1) (hfew:(lookM f).1=0→FewV f) :
  Calls Tryz.prog 52 #[.agg #[pv,.int .i64 f.arrays,.int .i64 f.cells,bv]] w (CloNestPost f pv bv w):=by
 have HP:=hideI hpv
 have HBL:=hideI hbv
 have HID:=hideI hid
 obtain⟨P,pc,rfl,_⟩:=hpv
 obtain⟨A,c,rfl,hbm,_⟩:=hbv
 obtain⟨W,hW⟩:∃ W:World,W=(w.alloc (.cells #[.slice P f.params.length pc,.int .i64 f.arrays,.int .i64 f.cells,.slice A f.blocks.length c] 25)).alloc (.cells #[.slice none 0 0,.int .i64 0,.int .i64 0,.slice none 0 0,.slice none 0 0,.slice none 0 0,.slice none 0 0,.slice none 0 0,.slice none 0 0,.map none] 103):=⟨_,rfl⟩
 have HB0:Hid (Below w.heap.size w W):=by show Below _ _ _;rw[hW];exact((Below.refl _ w).alloc (Nat.le_refl _) _).alloc (by simp) _
 have hx1:W.heap[w.heap.size]?=some (.cells #[.slice P f.params.length pc,.int .i64 f.arrays,.int .i64 f.cells,.slice A f.blocks.length c] 25 (0,0)):=by
  rw[hW,Below.heap_alloc _ _ _ (by simp)]
  exact heap_alloc_new w _
 have hx2:W.heap[w.heap.size+1]?=some (.cells #[.slice none 0 0,.int .i64 0,.int .i64 0,.slice none 0 0,.slice none 0 0,.slice none 0 0,.slice none 0 0,.slice none 0 0,.slice none 0 0,.map none] 103 (0,0)):=by
  rw[hW]
  have:=heap_alloc_new (w.alloc (.cells #[.slice P f.params.length pc,.int .i64 f.arrays,.int .i64 f.cells,.slice A f.blocks.length c] 25)) (.cells #[.slice none 0 0,.int .i64 0,.int .i64 0,.slice none 0 0,.slice none 0 0,.slice none 0 0,.slice none 0 0,.slice none 0 0,.slice none 0 0,.map none] 103)
  simpa using this
 have HX1:=hideI hx1
 have HX2:=hideI hx2
 have hBW:B≤W.heap.size:=Nat.le_trans hB HB0.out.size
 have HT:=hideI (inNest_any f B _ _ W (HP.out.keeps (Keeps.of_below (HB0.out.mono hB))) (HBL.out.keeps (Keeps.of_below (HB0.out.mono hB))) hBW HID.out)
 have HW0:=hideI hW
 have hwW:w.heap.size+1<W.heap.size:=lt_of_heap hx2
 have hqs:=row_cells hx1 rfl
 have q0:=hqs 0
 have q1:=hqs 1
 have q2:=hqs 2
 have q3:=hqs 3
 have hns:=row_cells hx2 rfl
 have n0:=hns 0
 have n1:=hns 1
 have n2:=hns 2
 have n3:=hns 3
 have n4:=hns 4
 have n5:=hns 5
 have n6:=hns 6
 have n7:=hns 7
 have n8:=hns 8
 have n9:=hns 9
 have fr:=free_rowN hx2 rfl
 have f0:=fr 0
 have f1:=fr 1
 have f2:=fr 2
 have f3:=fr 3
 have f4:=fr 4
 have f5:=fr 5
 have f6:=fr 6
 have f7:=fr 7
 have f8:=fr 8
 have f9:=fr 9
 clear hid hW hx1 hx2 hqs hns fr
 by_cases hst:∃ o,StrictM f o
 ·obtain⟨o0,hst⟩:=hst
  have HST:=hideI hst
  have HN5:=hideI (look_some_block hst.look)
  have HFEW:=hideI (hfew hst.look)
  clear hst hfew
  go_enter Tryz.func52,Tryz.ntmps52
  go_upto_region 1 with fail
  rw[← HW0.out]
  go_upto_region 2 with(go_at_call 73;go_must (refine HT.out.mono ?_);rintro e w1 (⟨x,y,hci,hy,_⟩|⟨o,pl,par,D,L,lv,gl,hk,rfl,hlp,hle,hbk⟩);(exact absurd (Prod.mk.inj (HST.out.check hci)).2 hy);(obtain⟨Av,cv,rfl⟩:∃ A c,lv=.slice A (loopsM f.blocks D L).length c:=(by obtain⟨cs,h1,_⟩:=hlp.ex;exact own_sl h1));have HK:=hideI hk;have HC0:Hid (CloK f W.heap.size gl (.slice Av (loopsM f.blocks D L).length cv) D L W w1):=hideI ⟨hlp,hle,hbk⟩;clear hk hlp hle hbk)
  obtain⟨w1a,hw1a⟩:∃ w1a:World,w1a=w1.alloc (.cells #[.slice Av (loopsM f.blocks D L).length cv,.slice (some ⟨gl,0,none⟩) f.blocks.length f.blocks.length] 81):=⟨_,rfl⟩
  rw[← hw1a]
  have hk1:Below w1.heap.size w1 w1a:=by rw[hw1a];exact(Below.refl _ w1).alloc (Nat.le_refl _) _
  have hX4:w1a.heap[w1.heap.size]?=some (.cells #[.slice Av (loopsM f.blocks D L).length cv,.slice (some ⟨gl,0,none⟩) f.blocks.length f.blocks.length] 81 (0,0)):=by rw[hw1a];exact heap_alloc_new w1 _
  obtain⟨Y,hY⟩:∃ Y,Y=w1.heap.size:=⟨_,rfl⟩
  have HCK:=hideI (HC0.out.kept hk1)
  have hbk:=HCK.out.below
  rw[← hY]at hX4 ⊢
  have HX4:=hideI hX4
  have hY1:Y<w1a.heap.size:=lt_of_heap hX4
  have HOR:=hideI (gOrder_any f B _ _ w1a (HP.out.keeps (Keeps.of_below ((HB0.out.trans (HCK.out.below.mono HB0.out.size)).mono hB))) (HBL.out.keeps (Keeps.of_below ((HB0.out.trans (HCK.out.below.mono HB0.out.size)).mono hB))) (Nat.le_trans hBW HCK.out.below.size) HID.out)
  have hx1:=(hbk.block _ (by omega:w.heap.size<W.heap.size)).trans HX1.out
  have hx2:=(hbk.block _ hwW).trans HX2.out
  clear q0 q1 q2 q3 n0 n1 n2 n3 n4 n5 n6 n7 n8 n9 f0 f1 f2 f3 f4 f5 f6 f7 f8 f9
  have hqs:=row_cells hx1 rfl
  have q0:=hqs 0
  have q1:=hqs 1
  have q2:=hqs 2
  have q3:=hqs 3
  have hns:=row_cells hx2 rfl
  have n0:=hns 0
  have n1:=hns 1
  have n2:=hns 2
  have n3:=hns 3
  have n4:=hns 4
  have n5:=hns 5
  have n6:=hns 6
  have n7:=hns 7
  have n8:=hns 8
  have n9:=hns 9
  have fr:=free_rowN hx2 rfl
  have f0:=fr 0
  have f1:=fr 1
  have f2:=fr 2
  have f3:=fr 3
  have f4:=fr 4
  have f5:=fr 5
  have f6:=fr 6
  have f7:=fr 7
  have f8:=fr 8
  have f9:=fr 9
  clear hqs hns fr hx1 hx2
  have hys:=row_cells hX4 rfl
  have y0:=hys 0
  have y1:=hys 1
  clear hbk hw1a hk1 hX4 hY hys
  go_upto_region 6 with(first
   | (go_at_call 69;go_must (refine HOR.out.mono ?_);rintro e w2 (⟨h0,_⟩|⟨_,od,go,co,rfl,_,_,_,hod,hb2⟩);(exact absurd HST.out.look h0);have hys:=row_cells ((hb2.block _ hY1).trans HX4.out) rfl;clear y0 y1;have y0:=hys 0;have y1:=hys 1;clear hys; have hY2:Y<w2.heap.size:=Nat.lt_of_lt_of_le hY1 hb2.size;have hZ2:=(hb2.block _ hY1).trans HX4.out;clear HX4 hY1;have HX4:=hideI hZ2;have hY1:=hY2;clear hY2 hZ2;have HCK2:=hideI (HCK.out.kept hb2);clear HCK;have HCK:=HCK2;clear HCK2;have hbk:=HCK.out.below;have hx1:=(hbk.block _ (by omega:w.heap.size<W.heap.size)).trans HX1.out;have hx2:=(hbk.block _ hwW).trans HX2.out;clear q0 q1 q2 q3 n0 n1 n2 n3 n4 n5 n6 n7 n8 n9 f0 f1 f2 f3 f4 f5 f6 f7 f8 f9;have hqs:=row_cells hx1 rfl;have q0:=hqs 0;have q1:=hqs 1;have q2:=hqs 2;have q3:=hqs 3;have hns:=row_cells hx2 rfl;have n0:=hns 0;have n1:=hns 1;have n2:=hns 2;have n3:=hns 3;have n4:=hns 4;have n5:=hns 5;have n6:=hns 6;have n7:=hns 7;have n8:=hns 8;have n9:=hns 9;have fr:=free_rowN hx2 rfl;have f0:=fr 0;have f1:=fr 1;have f2:=fr 2;have f3:=fr 3;have f4:=fr 4;have f5:=fr 5;have f6:=fr 6;have f7:=fr 7;have f8:=fr 8;have f9:=fr 9;clear hqs hns fr hx1 hx2;clear hb2 hbk hod;have HPR:=hideI (gPreds_any f B _ _ w2 (HP.out.keeps (Keeps.of_below ((HB0.out.trans (HCK.out.below.mono HB0.out.size)).mono hB))) (HBL.out.keeps (Keeps.of_below ((HB0.out.trans (HCK.out.below.mono HB0.out.size)).mono hB))) (Nat.le_trans hBW HCK.out.below.size) HID.out))
   | (go_at_call 74;go_must (refine HPR.out.mono ?_);rintro e w3 (⟨h0,_⟩|⟨_,gp,vs,rfl,_,hb2⟩);(exact absurd HST.out.look h0);have hys:=row_cells ((hb2.block _ hY1).trans HX4.out) rfl;clear y0 y1;have y0:=hys 0;have y1:=hys 1;clear hys; have hY2:Y<w3.heap.size:=Nat.lt_of_lt_of_le hY1 hb2.size;have hZ2:=(hb2.block _ hY1).trans HX4.out;clear HX4 hY1;have HX4:=hideI hZ2;have hY1:=hY2;clear hY2 hZ2;have HCK2:=hideI (HCK.out.kept hb2);clear HCK;have HCK:=HCK2;clear HCK2;have hbk:=HCK.out.below;have hx1:=(hbk.block _ (by omega:w.heap.size<W.heap.size)).trans HX1.out;have hx2:=(hbk.block _ hwW).trans HX2.out;clear q0 q1 q2 q3 n0 n1 n2 n3 n4 n5 n6 n7 n8 n9 f0 f1 f2 f3 f4 f5 f6 f7 f8 f9;have hqs:=row_cells hx1 rfl;have q0:=hqs 0;have q1:=hqs 1;have q2:=hqs 2;have q3:=hqs 3;have hns:=row_cells hx2 rfl;have n0:=hns 0;have n1:=hns 1;have n2:=hns 2;have n3:=hns 3;have n4:=hns 4;have n5:=hns 5;have n6:=hns 6;have n7:=hns 7;have n8:=hns 8;have n9:=hns 9;have fr:=free_rowN hx2 rfl;have f0:=fr 0;have f1:=fr 1;have f2:=fr 2;have f3:=fr 3;have f4:=fr 4;have f5:=fr 5;have f6:=fr 6;have f7:=fr 7;have f8:=fr 8;have f9:=fr 9;clear hqs hns fr hx1 hx2;clear hb2 hbk;have HDI:=hideI (idoms_any f B _ _ w3 (HP.out.keeps (Keeps.of_below ((HB0.out.trans (HCK.out.below.mono HB0.out.size)).mono hB))) (HBL.out.keeps (Keeps.of_below ((HB0.out.trans (HCK.out.below.mono HB0.out.size)).mono hB))) (Nat.le_trans hBW HCK.out.below.size) HID.out)))
  go_wp2_with fail
  refine HDI.out.mono ?_
  rintro e w4 (⟨h0,_⟩|⟨_,od2,pl2,par2,capo,gi,rfl,_,_,_,hb2⟩)
  ·exact absurd HST.out.look h0
  have hys:=row_cells ((hb2.block _ hY1).trans HX4.out) rfl
  clear y0 y1
  have y0:=hys 0
  have y1:=hys 1
  clear hys
  have hY2:Y<w4.heap.size:=Nat.lt_of_lt_of_le hY1 hb2.size
  have hZ2:=(hb2.block _ hY1).trans HX4.out
  clear HX4 hY1
  have HX4:=hideI hZ2
  have hY1:=hY2
  clear hY2 hZ2
  have HCK2:=hideI (HCK.out.kept hb2)
  clear HCK
  have HCK:=HCK2
  clear HCK2
  have hbk:=HCK.out.below
  have hx1:=(hbk.block _ (by omega:w.heap.size<W.heap.size)).trans HX1.out
  have hx2:=(hbk.block _ hwW).trans HX2.out
  clear q0 q1 q2 q3 n0 n1 n2 n3 n4 n5 n6 n7 n8 n9 f0 f1 f2 f3 f4 f5 f6 f7 f8 f9
  have hqs:=row_cells hx1 rfl
  have q0:=hqs 0
  have q1:=hqs 1
  have q2:=hqs 2
  have q3:=hqs 3
  have hns:=row_cells hx2 rfl
  have n0:=hns 0
  have n1:=hns 1
  have n2:=hns 2
  have n3:=hns 3
  have n4:=hns 4
  have n5:=hns 5
  have n6:=hns 6
  have n7:=hns 7
  have n8:=hns 8
  have n9:=hns 9
  have fr:=free_rowN hx2 rfl
  have f0:=fr 0
  have f1:=fr 1
  have f2:=fr 2
  have f3:=fr 3
  have f4:=fr 4
  have f5:=fr 5
  have f6:=fr 6
  have f7:=fr 7
  have f8:=fr 8
  have f9:=fr 9
  clear hqs hns fr hx1 hx2
  clear hb2 hbk
  have HDF:=hideI (defs_any f B _ _ w4.drew (HP.out.keeps (Keeps.of_below (Below.drew ((HB0.out.trans (HCK.out.below.mono HB0.out.size)).mono hB)))) (HBL.out.keeps (Keeps.of_below (Below.drew ((HB0.out.trans (HCK.out.below.mono HB0.out.size)).mono hB)))) (Nat.le_trans hBW HCK.out.below.size) HFEW.out HN5.out.2)
  go_upto_region 7 with fail
  have hS0:w4.cell? ⟨w.heap.size,0,none⟩=some (.slice P f.params.length pc)∧w4.cell? ⟨w.heap.size,1,none⟩=some (.int .i64 f.arrays)∧w4.cell? ⟨w.heap.size,2,none⟩=some (.int .i64 f.cells)∧w4.cell? ⟨w.heap.size,3,none⟩=some (.slice A f.blocks.length c)∧w4.cell? ⟨Y,0,none⟩=some (.slice Av (loopsM f.blocks D L).length cv)∧w4.cell? ⟨Y,1,none⟩=some (.slice (some ⟨gl,0,none⟩) f.blocks.length f.blocks.length):=⟨q0,q1,q2,q3,y0,y1⟩
  refine wp_region_late (by kernel_rfl) (fun W'=>W'.cell? ⟨w.heap.size,0,none⟩=some (.slice P f.params.length pc)∧W'.cell? ⟨w.heap.size,1,none⟩=some (.int .i64 f.arrays)∧W'.cell? ⟨w.heap.size,2,none⟩=some (.int .i64 f.cells)∧W'.cell? ⟨w.heap.size,3,none⟩=some (.slice A f.blocks.length c)∧W'.cell? ⟨Y,0,none⟩=some (.slice Av (loopsM f.blocks D L).length cv)∧W'.cell? ⟨Y,1,none⟩=some (.slice (some ⟨gl,0,none⟩) f.blocks.length f.blocks.length)) [8] ?_
  refine wpAnyT_take [8] (i:=0) (v:=?_) rfl (by kernel_rfl) (by kernel_rfl) (by kernel_rfl) (by kernel_rfl) (by kernel_rfl) (by kernel_rfl) (fun _ _ _ h=>h) hS0 (Or.inl ⟨by rfl,?_⟩) ?_
  rotate_left
  ·(intro w;intro hSw;go_split_ands;go_simp;try with_reducible rfl)
  try simp only[Act.put,List.setIfInBounds_toArray,List.set_cons_zero,List.set_cons_succ]
  refine wpAnyT_take [8] (i:=1) (v:=?_) rfl (by kernel_rfl) (by kernel_rfl) (by kernel_rfl) (by kernel_rfl) (by kernel_rfl) (by kernel_rfl) (fun _ _ _ h=>h) hS0 (Or.inl ⟨by rfl,?_⟩) ?_
  rotate_left
  ·(intro w;intro hSw;go_split_ands;go_simp;try with_reducible rfl)
  try simp only[Act.put,List.setIfInBounds_toArray,List.set_cons_zero,List.set_cons_succ]
  refine wpAnyT_quiet (i:=2) (v:=?_) rfl (by kernel_rfl) (by kernel_rfl) (by kernel_rfl) (fun _ _ _ h=>h) (Or.inl ⟨by rfl,?_⟩) ?_
  rotate_left
  ·(intro w;go_simp;try with_reducible rfl)
  try simp only[Act.put,List.setIfInBounds_toArray,List.set_cons_zero,List.set_cons_succ]
  refine wpAnyT_quiet (i:=3) (v:=?_) rfl (by kernel_rfl) (by kernel_rfl) (by kernel_rfl) (fun _ _ _ h=>h) (Or.inl ⟨by rfl,?_⟩) ?_
  rotate_left
  ·(intro w;go_simp;try with_reducible rfl)
  try simp only[Act.put,List.setIfInBounds_toArray,List.set_cons_zero,List.set_cons_succ]
  refine wpAnyT_quiet (i:=4) (v:=?_) rfl (by kernel_rfl) (by kernel_rfl) (by kernel_rfl) (fun _ _ _ h=>h) (Or.inl ⟨by rfl,?_⟩) ?_
  rotate_left
  ·(intro w;go_simp;try with_reducible rfl)
  try simp only[Act.put,List.setIfInBounds_toArray,List.set_cons_zero,List.set_cons_succ]
  refine wpAnyT_take [8] (i:=5) (v:=?_) rfl (by kernel_rfl) (by kernel_rfl) (by kernel_rfl) (by kernel_rfl) (by kernel_rfl) (by kernel_rfl) (fun _ _ _ h=>h) hS0 (Or.inl ⟨by rfl,?_⟩) ?_
  rotate_left
  ·(intro w;intro hSw;go_split_ands;go_simp;try with_reducible rfl)
  try simp only[Act.put,List.setIfInBounds_toArray,List.set_cons_zero,List.set_cons_succ]
  refine wpAnyT_ready (rs:=[6]) (by kernel_rfl) (by simp) ?_
  refine AllReadyT.cons rfl (fun K hK=>?_) ?_
  ·-- 6 call Defs
   go_simp
   refine HDF.out.mono ?_
   rintro e w5 ⟨M,rfl,hMl,hpl,hb5⟩
   have hb5':Below w4.heap.size w4 w5:=⟨hb5.os,hb5.tape,hb5.output,hb5.size,hb5.block⟩
   have hbk:Below W.heap.size W w5:=HCK.out.below.trans (hb5'.mono HCK.out.below.size)
   have HCK5:=hideI (HCK.out.kept hb5')
   have HPL:=hideI hpl
   have HML:=hideI (Nat.le_trans HCK.out.below.size hMl)
   have hys:=row_cells ((hb5'.block _ hY1).trans HX4.out) rfl
   clear y0 y1
   have y0:=hys 0
   have y1:=hys 1
   clear hys
   have hx1:=(hbk.block _ (by omega:w.heap.size<W.heap.size)).trans HX1.out
   have hx2:=(hbk.block _ hwW).trans HX2.out
   clear q0 q1 q2 q3 n0 n1 n2 n3 n4 n5 n6 n7 n8 n9 f0 f1 f2 f3 f4 f5 f6 f7 f8 f9
   have hqs:=row_cells hx1 rfl
   have q0:=hqs 0
   have q1:=hqs 1
   have q2:=hqs 2
   have q3:=hqs 3
   have hns:=row_cells hx2 rfl
   have n0:=hns 0
   have n1:=hns 1
   have n2:=hns 2
   have n3:=hns 3
   have n4:=hns 4
   have n5:=hns 5
   have n6:=hns 6
   have n7:=hns 7
   have n8:=hns 8
   have n9:=hns 9
   have fr:=free_rowN hx2 rfl
   have f0:=fr 0
   have f1:=fr 1
   have f2:=fr 2
   have f3:=fr 3
   have f4:=fr 4
   have f5:=fr 5
   have f6:=fr 6
   have f7:=fr 7
   have f8:=fr 8
   have f9:=fr 9
   clear hqs hns fr hx1 hx2
   clear hb5 hb5' hbk hpl hMl
   refine hK.out _ _ (fun _ _=>⟨q0,q1,q2,q3,y0,y1⟩) ?_
   clear hK K
   try simp only[Act.put,List.setIfInBounds_toArray,List.set_cons_zero,List.set_cons_succ]
   refine wpAnyT_quiet (i:=7) (v:=?_) rfl (by kernel_rfl) (by kernel_rfl) (by kernel_rfl) (fun _ _ _ h=>h) (Or.inl ⟨by rfl,?_⟩) ?_
   rotate_left
   ·(intro w;go_simp;try with_reducible rfl)
   try simp only[Act.put,List.setIfInBounds_toArray,List.set_cons_zero,List.set_cons_succ]
   refine wpAnyT_ready (rs:=[8]) (by kernel_rfl) (by simp) ?_
   refine AllReadyT.cons rfl (fun K hK=>?_) ?_
   ·-- 8 store
    go_simp
    refine hK.out _ _ (fun h=>absurd (by simp) h) ?_
    clear hK K
    try simp only[Act.put,List.setIfInBounds_toArray,List.set_cons_zero,List.set_cons_succ]
    refine wpAnyT_quiet (i:=9) (v:=?_) rfl (by kernel_rfl) (by kernel_rfl) (by kernel_rfl) (fun _ _ _ h=>h) (Or.inl ⟨by rfl,?_⟩) ?_
    rotate_left
    ·(intro w;go_simp;try with_reducible rfl)
    try simp only[Act.put,List.setIfInBounds_toArray,List.set_cons_zero,List.set_cons_succ]
    refine wpAnyT_done (by kernel_rfl) ?_ _
    go_wp2_with fail
    refine bodyPost_ret (v:=.tuple #[.agg #[.slice P f.params.length pc,.int .i64 f.arrays,.int .i64 f.cells,.slice A f.blocks.length c,.slice Av (loopsM f.blocks D L).length cv,.slice (some ⟨gl,0,none⟩) f.blocks.length f.blocks.length,.slice (some ⟨go,0,none⟩) od.length co,.slice (some ⟨gp,0,none⟩) f.blocks.length f.blocks.length,.slice (some ⟨gi,0,none⟩) f.blocks.length f.blocks.length,.map (some M)],.int .i64 0]) (by simp[results,Tryz.results52,go_sem,n0,n1,n2,n3,n4,n5,n6,n7,n8,n9]) rfl (.inr ⟨o,pl,par,D,L,_,gl,go,co,gp,gi,M,od.length,HK.out,rfl,?_,?_,?_,?_,?_⟩)
    ·exact LoopsR.mono (((((((((((HCK5.out.loops.other hwW _).other hwW _).other hwW _).other hwW _).other hwW _).other hwW _).other hwW _).other hwW _).other hwW _).other hwW _)) HB0.out.size
    ·have hne:(Value.slice (some ⟨gl,0,none⟩) f.blocks.length f.blocks.length).ownBlock≠some (w.heap.size+1):=fun e=>by have:=(HCK5.out.least.lt _ e).1;omega
     exact World.ownsRow.mono (ownsRow_setCell_other (ownsRow_setCell_other (ownsRow_setCell_other (ownsRow_setCell_other (ownsRow_setCell_other (ownsRow_setCell_other (ownsRow_setCell_other (ownsRow_setCell_other (ownsRow_setCell_other (ownsRow_setCell_other HCK5.out.least (a:=⟨w.heap.size+1,0,none⟩) hne _) (a:=⟨w.heap.size+1,1,none⟩) hne _) (a:=⟨w.heap.size+1,2,none⟩) hne _) (a:=⟨w.heap.size+1,3,none⟩) hne _) (a:=⟨w.heap.size+1,4,none⟩) hne _) (a:=⟨w.heap.size+1,5,none⟩) hne _) (a:=⟨w.heap.size+1,6,none⟩) hne _) (a:=⟨w.heap.size+1,7,none⟩) hne _) (a:=⟨w.heap.size+1,8,none⟩) hne _) (a:=⟨w.heap.size+1,9,none⟩) hne _) HB0.out.size
    ·have h1:=HML.out
     have h2:=HB0.out.size
     omega
    ·exact(PlacesAt.set (PlacesAt.set (PlacesAt.set (PlacesAt.set (PlacesAt.set (PlacesAt.set (PlacesAt.set (PlacesAt.set (PlacesAt.set (PlacesAt.set HPL.out (by have h1:=HML.out;omega) _) (by have h1:=HML.out;omega) _) (by have h1:=HML.out;omega) _) (by have h1:=HML.out;omega) _) (by have h1:=HML.out;omega) _) (by have h1:=HML.out;omega) _) (by have h1:=HML.out;omega) _) (by have h1:=HML.out;omega) _) (by have h1:=HML.out;omega) _) (by have h1:=HML.out;omega) _)
    ·exact(((((((((((HB0.out.trans (HCK5.out.below.mono HB0.out.size))).setCell (by simp) _).setCell (by simp) _).setCell (by simp) _).setCell (by simp) _).setCell (by simp) _).setCell (by simp) _).setCell (by simp) _).setCell (by simp) _).setCell (by simp) _).setCell (by simp) _
   ·exact AllReadyT.nil
  ·exact AllReadyT.nil
 ·have HNG:Hid (∀ o,StrictM f o→False):=fun o h=>hst ⟨o,h⟩
  clear hst hfew
  go_enter Tryz.func52,Tryz.ntmps52
  go_upto_region 1 with fail
  rw[← HW0.out]
  go_upto_region 2 with(go_at_call 73;go_must (refine HT.out.mono ?_);rintro e w1 (⟨x1,y1,hci,hy1,rfl,hbk⟩|⟨o,pl,par,D,L,lv,gl,hk,_⟩);rotate_left;(exact(HNG.out o hk.strict).elim);have hy:(y1 != 0)=true:=(by rw[bne_iff_ne];exact hy1);have HCI:=hideI hci;have HY:=hideI hy1;have HB1:=hideI hbk;have hx1:=(hbk.block _ (by omega:w.heap.size<W.heap.size)).trans HX1.out;have hx2:=(hbk.block _ hwW).trans HX2.out;clear q0 q1 q2 q3 n0 n1 n2 n3 n4 n5 n6 n7 n8 n9 f0 f1 f2 f3 f4 f5 f6 f7 f8 f9;have hqs:=row_cells hx1 rfl;have q0:=hqs 0;have q1:=hqs 1;have q2:=hqs 2;have q3:=hqs 3;have hns:=row_cells hx2 rfl;have n0:=hns 0;have n1:=hns 1;have n2:=hns 2;have n3:=hns 3;have n4:=hns 4;have n5:=hns 5;have n6:=hns 6;have n7:=hns 7;have n8:=hns 8;have n9:=hns 9;have fr:=free_rowN hx2 rfl;have f0:=fr 0;have f1:=fr 1;have f2:=fr 2;have f3:=fr 3;have f4:=fr 4;have f5:=fr 5;have f6:=fr 6;have f7:=fr 7;have f8:=fr 8;have f9:=fr 9;clear hqs hns fr hx1 hx2;clear hbk hci hy1)
  obtain⟨w1a,hw1a⟩:∃ w1a:World,w1a=w1.alloc (.cells #[.slice none 0 0,.slice none 0 0] 81):=⟨_,rfl⟩
  rw[← hw1a]
  have hk1:Below w1.heap.size w1 w1a:=by rw[hw1a];exact(Below.refl _ w1).alloc (Nat.le_refl _) _
  have hbk:Below W.heap.size W w1a:=HB1.out.trans (hk1.mono HB1.out.size)
  have HB1a:=hideI hbk
  have hx1:=(hbk.block _ (by omega:w.heap.size<W.heap.size)).trans HX1.out
  have hx2:=(hbk.block _ hwW).trans HX2.out
  clear q0 q1 q2 q3 n0 n1 n2 n3 n4 n5 n6 n7 n8 n9 f0 f1 f2 f3 f4 f5 f6 f7 f8 f9
  have hqs:=row_cells hx1 rfl
  have q0:=hqs 0
  have q1:=hqs 1
  have q2:=hqs 2
  have q3:=hqs 3
  have hns:=row_cells hx2 rfl
  have n0:=hns 0
  have n1:=hns 1
  have n2:=hns 2
  have n3:=hns 3
  have n4:=hns 4
  have n5:=hns 5
  have n6:=hns 6
  have n7:=hns 7
  have n8:=hns 8
  have n9:=hns 9
  have fr:=free_rowN hx2 rfl
  have f0:=fr 0
  have f1:=fr 1
  have f2:=fr 2
  have f3:=fr 3
  have f4:=fr 4
  have f5:=fr 5
  have f6:=fr 6
  have f7:=fr 7
  have f8:=fr 8
  have f9:=fr 9
  clear hqs hns fr hx1 hx2
  clear hbk hw1a hk1
  go_wp2
  refine bodyPost_ret (v:=.tuple #[.agg #[.slice none 0 0,.int .i64 0,.int .i64 0,.slice none 0 0,.slice none 0 0,.slice none 0 0,.slice none 0 0,.slice none 0 0,.slice none 0 0,.map none],.int .i64 y1]) (by simp[results,Tryz.results52,go_sem,n0,n1,n2,n3,n4,n5,n6,n7,n8,n9]) rfl (.inl ⟨x1,y1,HCI.out,HY.out,rfl,?_⟩)
  exact(((((((((((HB0.out.trans (HB1a.out.mono HB0.out.size))).setCell (by simp) _).setCell (by simp) _).setCell (by simp) _).setCell (by simp) _).setCell (by simp) _).setCell (by simp) _).setCell (by simp) _).setCell (by simp) _).setCell (by simp) _).setCell (by simp) _
end Go.Proofs.YtaehbgppfahdeaaGreat

namespace Go.Proofs.YtaehbgppfahdeaaGreat
open Go.RowKit Go.Maps Go.Sort
abbrev OpenF (f:FuncM) (D L:Nat→Nat→Bool) (id:Int):Prop:=OpenK f (loopsM f.blocks D L) (blksU f.blocks f.blocks.length) id
def ClCheckPost (f:FuncM) (w:World) (e:Ending) (w':World):Prop :=
 (∃ x y:Int,CheckIs f (x,y)∧y≠0∧e=.returned (.tuple #[.int .i64 0,.int .i64 y])∧Below w.heap.size w w') ∨
 (∃ (o:List Nat) (pl:Nat→Nat) (par:Nat→Option Nat) (D L:Nat→Nat→Bool),LoopsOf f o pl par D L ∧
  (((∀ id,¬ OpenF f D L id)∧e=.returned (.tuple #[.int .i64 0,.int .i64 0]))∨∃ id:Int,OpenF f D L id∧(∀ id',OpenF f D L id'→id≤id')∧e=.returned (.tuple #[.int .i64 id,.int .i64 11]))∧Below w.heap.size w w')
theorem sort_head {ss:List Int} {x:Int} {r:List Int} (h:(ss.mergeSort fun x y=>decide (x≤y))=x::r):x∈ss∧∀ y∈ss,x≤y:=by
 have hm:∀ y,y∈(ss.mergeSort fun x y=>decide (x≤y))↔y∈ss:=fun y=>(List.mergeSort_perm ss _).mem_iff
 have hp:(ss.mergeSort fun x y=>decide (x≤y)).Pairwise (fun a b=>decide (a≤b)=true):=List.pairwise_mergeSort (fun a b c h1 h2=>by simp only[decide_eq_true_eq]at *;exact Int.le_trans h1 h2) (fun a b=>by simp only[Bool.or_eq_true,decide_eq_true_eq];exact Int.le_total a b) ss
 rw[h]at hp hm
 refine⟨(hm x).1 (by simp),fun y hy=>?_⟩
 rcases List.mem_cons.1 ((hm y).2 hy)with rfl|hr
 ·exact Int.le_refl _
 ·have:=(List.pairwise_cons.1 hp).1 y hr
  simpa using this
set_option maxRecDepth 100000 in
set_option maxHeartbeats 2000000 in
theorem clCheck_any (f:FuncM) (B:Nat) (pv bv:Value) (w:World) (hpv:Ints w B pv f.params) (hbv:BlocksR w B bv f.blocks) (hB:B≤w.heap.size) (hid:∀ u∈usesM f,I64 u.1) (hfew:(lookM f).1=0→FewV f) :
  Calls Tryz.prog 20 #[.agg #[pv,.int .i64 f.arrays,.int .i64 f.cells,bv]] w (ClCheckPost f w):=by
 have HP:=hideI hpv
 have HBL:=hideI hbv
 have HID:=hideI hid
 obtain⟨P,pc,rfl,_⟩:=hpv
 obtain⟨A,c,rfl,hbm,_⟩:=hbv
 obtain⟨W,hW⟩:∃ W:World,W=w.alloc (.cells #[.slice P f.params.length pc,.int .i64 f.arrays,.int .i64 f.cells,.slice A f.blocks.length c] 25):=⟨_,rfl⟩
 have HB0:Hid (Below w.heap.size w W):=by show Below _ _ _;rw[hW];exact(Below.refl _ w).alloc (Nat.le_refl _) _
 have hx1:W.heap[w.heap.size]?=some (.cells #[.slice P f.params.length pc,.int .i64 f.arrays,.int .i64 f.cells,.slice A f.blocks.length c] 25 (0,0)):=by
  rw[hW]
  exact heap_alloc_new w _
 have hBW:B≤W.heap.size:=Nat.le_trans hB HB0.out.size
 have HPW:=hideI (HP.out.keeps (Keeps.of_below (HB0.out.mono hB)))
 have HBW:=hideI (HBL.out.keeps (Keeps.of_below (HB0.out.mono hB)))
 have HW0:=hideI hW
 have hqs:=row_cells hx1 rfl
 have q0:=hqs 0
 have q1:=hqs 1
 have q2:=hqs 2
 have q3:=hqs 3
 clear hid hW hx1 hqs
 by_cases hst:∃ o,StrictM f o
 ·obtain⟨o0,hst⟩:=hst
  have HST:=hideI hst
  have HN5:=hideI (look_some_block hst.look).2
  have HT:=hideI (cloNest_any f B _ _ W HPW.out HBW.out hBW HID.out hfew)
  clear hst hfew
  go_enter Tryz.func20,Tryz.ntmps20
  go_upto_region 1 with fail
  rw[← HW0.out]
  go_upto_region 4 with(go_at_call 52;go_must (refine HT.out.mono ?_);rintro e w1 (⟨x,y,hci,hy,_⟩|⟨o,pl,par,D,L,lv,gl,go,co,gp,gi,Md,lo,hk,rfl,hlp,hle,hMl,hpl,hb⟩);(exact absurd (Prod.mk.inj (HST.out.check hci)).2 hy);(obtain⟨Av,cv,rfl⟩:∃ A c,lv=.slice A (loopsM f.blocks D L).length c:=(by obtain⟨cs,h1,_⟩:=hlp.ex;exact own_sl h1));have HK:=hideI hk;have HLP:=hideI hlp;have HLE:=hideI hle;have HPL:=hideI hpl;have HB1:=hideI hb;clear hk hlp hle hMl hpl hb q0 q1 q2 q3)
  obtain⟨m0,hm0⟩:∃ m0,m0=(loopsM f.blocks D L).length:=⟨_,rfl⟩
  have HM0:=hideI hm0
  rw[← hm0]
  obtain⟨w2,hw2⟩:∃ w2:World,w2=w1.alloc (.cells #[.slice P f.params.length pc,.int .i64 f.arrays,.int .i64 f.cells,.slice A f.blocks.length c,.slice Av m0 cv,.slice (some ⟨gl,0,none⟩) f.blocks.length f.blocks.length,.slice (some ⟨go,0,none⟩) lo co,.slice (some ⟨gp,0,none⟩) f.blocks.length f.blocks.length,.slice (some ⟨gi,0,none⟩) f.blocks.length f.blocks.length,.map (some Md)] 103):=⟨_,rfl⟩
  rw[← hw2]
  have hX2:w2.heap[w1.heap.size]?=some (.cells #[.slice P f.params.length pc,.int .i64 f.arrays,.int .i64 f.cells,.slice A f.blocks.length c,.slice Av m0 cv,.slice (some ⟨gl,0,none⟩) f.blocks.length f.blocks.length,.slice (some ⟨go,0,none⟩) lo co,.slice (some ⟨gp,0,none⟩) f.blocks.length f.blocks.length,.slice (some ⟨gi,0,none⟩) f.blocks.length f.blocks.length,.map (some Md)] 103 (0,0)):=by
   rw[hw2]
   exact heap_alloc_new w1 _
  have hK2:Below w1.heap.size w1 w2:=by rw[hw2];exact(Below.refl _ w1).alloc (Nat.le_refl _) _
  have hB2:Below W.heap.size W w2:=HB1.out.trans (hK2.mono HB1.out.size)
  have HB2:Hid (Below w.heap.size w w2):=hideI (HB0.out.trans (hB2.mono HB0.out.size))
  have hkw:Keeps B W w2:=Keeps.of_below (hB2.mono hBW)
  have HOP:=hideI (clOpen_any f (loopsM f.blocks D L) B gl cv Md m0 W.heap.size Av _ _ (.int .i64 f.arrays) (.int .i64 f.cells) (.slice (some ⟨go,0,none⟩) lo co) (.slice (some ⟨gp,0,none⟩) f.blocks.length f.blocks.length) (.slice (some ⟨gi,0,none⟩) f.blocks.length f.blocks.length) w2 (HPW.out.keeps hkw) (HBW.out.keeps hkw) (Nat.le_trans hBW hB2.size) (HLP.out.kept hK2) (own_kept_below HLE.out hK2 (fun k hk=>(HLE.out.lt k hk).2)) (loops_rising HN5.out) (HPL.out.below hK2 HPL.out.lt) HST.out.look HID.out (Nat.le_trans loops_len HN5.out) HM0)
  have hqs:=row_cells hX2 rfl
  have q0:=hqs 0
  have q1:=hqs 1
  have q2:=hqs 2
  have q3:=hqs 3
  have q4:=hqs 4
  have q5:=hqs 5
  have q6:=hqs 6
  have q7:=hqs 7
  have q8:=hqs 8
  have q9:=hqs 9
  clear hqs hX2 hw2 hm0 hK2 hB2 hkw
  go_upto_region 5 with(first
   | (go_at_call 55;go_must (refine HOP.out.mono ?_);rintro e w3 ⟨rfl,⟨nn,F,hnn,⟨Dm,hown,_,hat⟩,hF⟩,hb3⟩;have hsz:=hown.size_le;have HMEM:Hid (∀ id,id∈intKeys Dm↔OpenF f D L id):=hideI (fun id=>(mem_intKeys hown id).trans (by rw[MapV.has hat id];exact hF id));have HSO:=hideI (sortedKeysV (w2.heap.size+1) nn Dm _ w3 w3.heap.size rfl hown (by unfold maxLen;omega) (by omega));have HB3:=hideI hb3;clear hown hat hF hb3 hsz hnn)
   | (go_at_call 54;refine(mapsKeysV _ _).mono ?_;rintro e w4 ⟨rfl,rfl⟩)
   | (go_at_call 53;go_must (refine HSO.out.mono ?_);rintro e w5 ⟨v,ss,rfl,hss,hrow,hb5⟩;have HSS:=hideI hss;have HROW:=hideI hrow;have HB5:=hideI hb5;(obtain⟨As,cs,rfl⟩:=own_sl hrow);clear hss hrow hb5))
  have HBE:Hid (Below w.heap.size w w5):=hideI (by
   have h1:=HB2.out.trans (HB3.out.mono HB2.out.size)
   exact(h1.alloc h1.size _).trans (HB5.out.mono (by have:=h1.size;omega)))
  cases hms:(ss.mergeSort fun x y=>decide (x≤y))with
  | nil =>
   have hl:=(List.mergeSort_perm ss (fun x y=>decide (x≤y))).length_eq
   rw[hms]at hl
   have he:ss=[]:=List.eq_nil_of_length_eq_zero hl.symm
   subst he
   have HNO:Hid (∀ id,¬ OpenF f D L id):=hideI fun id h=>by
    have h1:=HSS.out.mem_iff.2 ((HMEM.out id).2 h)
    cases h1
   clear hl hms
   go_wp2
   go_ret2
   exact .inr ⟨o,pl,par,D,L,HK.out,.inl ⟨HNO.out,rfl⟩,HBE.out⟩
  | cons x r =>
   have HH:=hideI (sort_head hms)
   have hl:=(List.mergeSort_perm ss (fun x y=>decide (x≤y))).length_eq
   rw[hms]at hl
   have hlp:0<ss.length:=by rw[← hl];simp
   have hro:=HROW.out
   rw[hms]at hro
   obtain⟨g,cap,e1,_,_⟩:∃ g cap,Value.slice As ss.length cs=.slice (some ⟨g,0,none⟩) ss.length cap∧w3.heap.size+1≤g∧g<w5.heap.size:=by
    rcases hro.2 with⟨e,e0⟩|⟨g,cap,cur,e,hb,hg,_⟩
    ·omega
    ·exact⟨g,cap,e,hb,lt_of_heap hg⟩
   injection e1 with e1 _ e3
   subst e1 e3
   have c0:w5.cell? ⟨g,0,none⟩=some (.int .i64 x):=by
    rw[World.ownsRow.cellAt hro 0 (by omega)]
    rfl
   obtain⟨ns,hns⟩:∃ ns,ns=ss.length:=⟨_,rfl⟩
   rw[← hns]at hlp ⊢
   clear hl hms hro hns
   go_wp2
   go_ret2
   exact .inr ⟨o,pl,par,D,L,HK.out,.inr ⟨x,(HMEM.out x).1 (HSS.out.mem_iff.1 HH.out.1),fun id' h=>HH.out.2 id' (HSS.out.mem_iff.2 ((HMEM.out id').2 h)),rfl⟩,HBE.out⟩
 ·have HNG:Hid (∀ o,StrictM f o→False):=fun o h=>hst ⟨o,h⟩
  have HT:=hideI (cloNest_any f B _ _ W HPW.out HBW.out hBW HID.out hfew)
  clear hst hfew
  go_enter Tryz.func20,Tryz.ntmps20
  go_upto_region 1 with fail
  rw[← HW0.out]
  go_wp2_with (go_at_call 52;go_must (refine HT.out.mono ?_);rintro e w1 (⟨x1,y1,hci,hy1,rfl,hb⟩|⟨o,pl,par,D,L,lv,gl,go,co,gp,gi,Md,lo,hk,_⟩);rotate_left;(exact(HNG.out o hk.strict).elim);have hy:(y1 != 0)=true:=(by rw[bne_iff_ne];exact hy1);have HCI:=hideI hci;have HY:=hideI hy1;have HB1:=hideI hb;clear hb hci hy1)
  go_ret2
  exact .inl ⟨x1,y1,HCI.out,HY.out,rfl,(HB0.out.trans (HB1.out.mono HB0.out.size)).alloc (Nat.le_trans HB0.out.size HB1.out.size) _⟩
end Go.Proofs.YtaehbgppfahdeaaGreat

namespace Go.Proofs.YtaehbgppfahdeaaGreat
open Go.RowKit Go.Maps
theorem awake_fits:FnFits awakeF:=by
 refine⟨fun b hb p hp=>?_,fun b hb x hx=>?_,fun b hb=>?_⟩
 ·simp[awakeF]at hb
  subst hb
  simp at hp
 ·simp[awakeF]at hb
  subst hb
  simp at hx
  subst hx
  exact⟨by unfold I64;decide,by unfold I64;decide,by unfold I64;decide⟩
 ·simp[awakeF]at hb
  subst hb
  exact⟨by unfold I64;decide,by unfold I64;decide,by unfold I64;decide⟩
theorem awake_ids10:idsOut awakeF=[0]:=by
 unfold idsOut idsS
 rw[awake_look]
 simp
theorem awake_idsOut:∀ x∈idsOut awakeF,0≤x∧x≤1048575:=by
 intro x hx
 rw[awake_ids10]at hx
 simp at hx
 omega
end Go.Proofs.YtaehbgppfahdeaaGreat

namespace Go.Proofs.YtaehbgppfahdeaaGreat
open Go.RowKit Go.Maps
set_option maxRecDepth 100000 in
set_option maxHeartbeats 4000000 in
theorem close0_any (f:FuncM) (o0:List Nat) (B:Nat) (pv bv:Value) (w:World) (hpv:Ints w B pv f.params) (hbv:BlocksR w B bv f.blocks) (hB:B≤w.heap.size) (hid:∀ u∈usesM f,I64 u.1) (hst:StrictM f o0) (hfew:FewV f) (hr:∀ x∈idsOut f,0≤x∧x≤1048575) (hf:FnFits f) (hroom:0≤roomM f∧roomM f≤1048576) (hso:sizeOut f=(sizeM f:Int)) (hno:∀ D L id,¬ OpenF f D L id) :
  Calls Tryz.prog 23 #[.agg #[pv,.int .i64 f.arrays,.int .i64 f.cells,bv]] w fun e w'=>∃ (P:Option Addr) (pc:Nat) (A:Option Addr) (c:Nat),e=.returned (.tuple #[.agg #[.slice P f.params.length pc,.int .i64 f.arrays,.int .i64 f.cells,.slice A f.blocks.length c],.int .i64 0])∧Below w.heap.size w w':=by
 have HP:=hideI hpv
 have HBL:=hideI hbv
 obtain⟨P,pc,rfl,_⟩:=hpv
 obtain⟨A,c,rfl,hbm,_⟩:=hbv
 obtain⟨W,hW⟩:∃ W:World,W=(w.alloc (.cells #[.slice P f.params.length pc,.int .i64 f.arrays,.int .i64 f.cells,.slice A f.blocks.length c] 25)).alloc (.cells #[.slice none 0 0,.int .i64 0,.int .i64 0,.slice none 0 0] 25):=⟨_,rfl⟩
 have HB0:Hid (Below w.heap.size w W):=by show Below _ _ _;rw[hW];exact((Below.refl _ w).alloc (Nat.le_refl _) _).alloc (by simp) _
 have hx1:W.heap[w.heap.size]?=some (.cells #[.slice P f.params.length pc,.int .i64 f.arrays,.int .i64 f.cells,.slice A f.blocks.length c] 25 (0,0)):=by
  rw[hW,Below.heap_alloc _ _ _ (by simp)]
  exact heap_alloc_new w _
 have hx2:W.heap[w.heap.size+1]?=some (.cells #[.slice none 0 0,.int .i64 0,.int .i64 0,.slice none 0 0] 25 (0,0)):=by
  rw[hW]
  have:=heap_alloc_new (w.alloc (.cells #[.slice P f.params.length pc,.int .i64 f.arrays,.int .i64 f.cells,.slice A f.blocks.length c] 25)) (.cells #[.slice none 0 0,.int .i64 0,.int .i64 0,.slice none 0 0] 25)
  simpa using this
 have HX2:=hideI hx2
 have hwW:w.heap.size+1<W.heap.size:=lt_of_heap hx2
 have hBW:B≤W.heap.size:=Nat.le_trans hB HB0.out.size
 have hk:Keeps B w W:=Keeps.of_below (HB0.out.mono hB)
 have HPW:=hideI (HP.out.keeps hk)
 have HBW:=hideI (HBL.out.keeps hk)
 have HT:=hideI (cloNest_any f B _ _ W HPW.out HBW.out hBW hid (fun _=>hfew))
 have HID:=hideI hid
 have HST:=hideI hst
 have HN5:=hideI (look_some_block hst.look).2
 have HRR:=hideI hr
 have HFF:=hideI hf
 have HRO:=hideI hroom
 have HSO:=hideI hso
 have HNO:=hideI hno
 have HW0:=hideI hW
 have hqs:=row_cells hx1 rfl
 have q0:=hqs 0
 have q1:=hqs 1
 have q2:=hqs 2
 have q3:=hqs 3
 clear hid hst hfew hr hf hroom hso hno hW hx1 hx2 hqs hk
 go_enter Tryz.func23,Tryz.ntmps23
 go_upto_region 1 with fail
 rw[← HW0.out]
 go_upto_region 4 with(go_at_call 52;go_must (refine HT.out.mono ?_);rintro e w1 (⟨x,y,hci,hy,_⟩|⟨o,pl,par,D,L,lv,gl,go,co,gp,gi,Md,lo,hk,rfl,hlp,hle,hMl,hpl,hb⟩);(exact absurd (Prod.mk.inj (HST.out.check hci)).2 hy);(obtain⟨Av,cv,rfl⟩:∃ A c,lv=.slice A (loopsM f.blocks D L).length c:=(by obtain⟨cs,h1,_⟩:=hlp.ex;exact own_sl h1));have HLP:=hideI hlp;have HLE:=hideI hle;have HPL:=hideI hpl;have HB1:=hideI hb;clear hk hlp hle hMl hpl hb q0 q1 q2 q3)
 obtain⟨m0,hm0⟩:∃ m0,m0=(loopsM f.blocks D L).length:=⟨_,rfl⟩
 have HM0:=hideI hm0
 rw[← hm0]
 obtain⟨w2,hw2⟩:∃ w2:World,w2=w1.alloc (.cells #[.slice P f.params.length pc,.int .i64 f.arrays,.int .i64 f.cells,.slice A f.blocks.length c,.slice Av m0 cv,.slice (some ⟨gl,0,none⟩) f.blocks.length f.blocks.length,.slice (some ⟨go,0,none⟩) lo co,.slice (some ⟨gp,0,none⟩) f.blocks.length f.blocks.length,.slice (some ⟨gi,0,none⟩) f.blocks.length f.blocks.length,.map (some Md)] 103):=⟨_,rfl⟩
 rw[← hw2]
 have hX2:w2.heap[w1.heap.size]?=some (.cells #[.slice P f.params.length pc,.int .i64 f.arrays,.int .i64 f.cells,.slice A f.blocks.length c,.slice Av m0 cv,.slice (some ⟨gl,0,none⟩) f.blocks.length f.blocks.length,.slice (some ⟨go,0,none⟩) lo co,.slice (some ⟨gp,0,none⟩) f.blocks.length f.blocks.length,.slice (some ⟨gi,0,none⟩) f.blocks.length f.blocks.length,.map (some Md)] 103 (0,0)):=by
  rw[hw2]
  exact heap_alloc_new w1 _
 have hK2:Below w1.heap.size w1 w2:=by rw[hw2];exact(Below.refl _ w1).alloc (Nat.le_refl _) _
 have HB2:Hid (Below W.heap.size W w2):=hideI (HB1.out.trans (hK2.mono HB1.out.size))
 have hkw:Keeps B W w2:=Keeps.of_below (HB2.out.mono hBW)
 have HCL:=hideI (closed0_any f (loopsM f.blocks D L) B gl cv Md m0 W.heap.size pc c P A Av (.slice (some ⟨go,0,none⟩) lo co) (.slice (some ⟨gp,0,none⟩) f.blocks.length f.blocks.length) (.slice (some ⟨gi,0,none⟩) f.blocks.length f.blocks.length) w2 (HPW.out.keeps hkw) (HBW.out.keeps hkw) (Nat.le_trans hBW HB2.out.size) (HLP.out.kept hK2) (own_kept_below HLE.out hK2 (fun k hk=>(HLE.out.lt k hk).2)) (loops_rising HN5.out) (HPL.out.below hK2 HPL.out.lt) HST.out.look HID.out (Nat.le_trans loops_len HN5.out) HM0 HRR.out HFF.out HRO.out HSO.out (HNO.out D L))
 have hqs:=row_cells hX2 rfl
 have q0:=hqs 0
 have q1:=hqs 1
 have q2:=hqs 2
 have q3:=hqs 3
 have q4:=hqs 4
 have q5:=hqs 5
 have q6:=hqs 6
 have q7:=hqs 7
 have q8:=hqs 8
 have q9:=hqs 9
 clear hqs hX2 hw2 hm0 hK2 hkw
 go_wp2_with (go_at_call 57;go_must (refine HCL.out.mono ?_);rintro e w3 ⟨v1,base,P1,pc1,A1,c1,rfl,_,_,_,_,hb3⟩;have HB3:=hideI (HB2.out.trans (hb3.mono HB2.out.size));have hx2:=(HB3.out.block _ hwW).trans HX2.out;have hns:=row_cells hx2 rfl;have n0:=hns 0;have n1:=hns 1;have n2:=hns 2;have n3:=hns 3;have fr:=free_rowN hx2 rfl;have f0:=fr 0;have f1:=fr 1;have f2:=fr 2;have f3:=fr 3;clear hns fr hx2 hb3 q0 q1 q2 q3 q4 q5 q6 q7 q8 q9)
 refine bodyPost_ret (v:=.tuple #[.agg #[.slice P1 f.params.length pc1,.int .i64 f.arrays,.int .i64 f.cells,.slice A1 f.blocks.length c1],.int .i64 0]) (by simp[results,Tryz.results23,go_sem,n0,n1,n2,n3]) rfl ⟨P1,pc1,A1,c1,rfl,?_⟩
 exact((((HB0.out.trans (HB3.out.mono HB0.out.size)).setCell (by simp) _).setCell (by simp) _).setCell (by simp) _).setCell (by simp) _
theorem goesOut_nil (b a:Nat):goesOut [] b a=false:=rfl
theorem awake_noOpen (D L:Nat→Nat→Bool) (id:Int):¬ OpenF awakeF D L id:=by
 rintro⟨a,_,m,_,h⟩
 rw[awake_loops,goesOut_nil]at h
 cases h
theorem awake_few:FewV awakeF:=by
 unfold FewV
 exact⟨by decide,by decide⟩
theorem awake_room:0≤roomM awakeF∧roomM awakeF≤1048576:=by
 unfold roomM
 rw[awake_ids10]
 decide
theorem awake_close (w:World):Calls Tryz.prog 23 #[.agg #[.slice none 0 0,.int .i64 0,.int .i64 0,.slice (some ⟨w.heap.size+1,0,none⟩) 1 1]] (awakeMade w) fun e w'=>∃ (P:Option Addr) (pc:Nat) (A:Option Addr) (c:Nat),e=.returned (.tuple #[.agg #[.slice P 0 pc,.int .i64 0,.int .i64 0,.slice A 1 c],.int .i64 0])∧Below w.heap.size w w':=by
 obtain⟨h1,h2,h3⟩:=awakeMade_facts w
 refine(close0_any awakeF awake_strict.choose (w.heap.size+2) (.slice none 0 0) _ (awakeMade w) (Ints.nil _ _) h1 (by omega) awake_uses awake_strict.choose_spec awake_few awake_idsOut awake_fits awake_room (by unfold sizeOut;rw[awake_look];rfl) awake_noOpen).mono ?_
 rintro e w1 ⟨P,pc,A,c,rfl,hb⟩
 exact⟨P,pc,A,c,rfl,h3.trans (hb.mono (by omega))⟩
theorem awake_check11 (w:World):Calls Tryz.prog 20 #[.agg #[.slice none 0 0,.int .i64 0,.int .i64 0,.slice (some ⟨w.heap.size+1,0,none⟩) 1 1]] (awakeMade w) fun e w'=>e=.returned (.tuple #[.int .i64 0,.int .i64 0])∧Below w.heap.size w w':=by
 obtain⟨h1,h2,h3⟩:=awakeMade_facts w
 refine(clCheck_any awakeF (w.heap.size+2) (.slice none 0 0) _ (awakeMade w) (Ints.nil _ _) h1 (by omega) awake_uses (fun _=>awake_few)).mono ?_
 rintro e w1 (⟨x,y,hc,hy,_⟩|⟨o,pl,par,D,L,hk,h,hb⟩)
 ·exact absurd (Prod.mk.inj (awake_strict.choose_spec.check hc)).2 hy
 ·rcases h with⟨_,rfl⟩|⟨id,ho,_⟩
  ·exact⟨rfl,h3.trans (hb.mono (by omega))⟩
  ·exact absurd ho (awake_noOpen D L id)
set_option maxRecDepth 100000 in
set_option maxHeartbeats 1000000 in
theorem awake11_any (w:World):Calls Tryz.prog 21 #[] w fun e w'=>e=.returned (.bool true)∧Below w.heap.size w w':=by
 have HI:=hideI (awake_check11 w)
 have HD:Hid (∀ w,_):=hideI (fun w=>awake_close w)
 unfold awakeMade at HI
 go_enter Tryz.func21,Tryz.ntmps21
 go_wp2_with (first
  | (go_at_call 20;go_must (refine HI.out.mono ?_);rintro e w1 ⟨rfl,hb⟩;have HB1:=hideI hb;have HDW:=hideI (HD.out w1);unfold awakeMade at HDW;clear hb)
  | (go_at_call 23;go_must (refine HDW.out.mono ?_);rintro e w2 ⟨P,pc,A,c,rfl,hb⟩;have HB2:=hideI (HB1.out.trans (hb.mono HB1.out.size));clear hb))
 go_ret
 exact⟨rfl,HB2.out.alloc HB2.out.size _⟩
end Go.Proofs.YtaehbgppfahdeaaGreat

namespace Go.Proofs.YtaehbgppfahdeaaGreat
open Go.RowKit
def rowPhi (b:Nat) (t:Int) (d:Int×Int):List Int:=[d.1,t,(b:Int),-1,d.2]
def rowInstr (b i:Nat) (d:Int×Int):List Int:=[d.1,d.2,(b:Int),(i:Int),0]
def rowsPhi (b:Nat) (p:PhiM):List (List Int):=(p.vals.zip p.fr).map (rowPhi b p.typ)
def rowsInstr (b i:Nat) (x:InstrM):List (List Int):=(x.args.zip (takesS x.op)).map (rowInstr b i)
def rowsCode (b:Nat) (xs:List InstrM):Nat→List (List Int)
 | 0 => []
 | i + 1 => rowsCode b xs i ++ match xs[i]? with | some x => rowsInstr b i x | none => []
def rowsTerm (b:Nat) (q:BlockM):List (List Int) :=
 if q.term.op=2 then [[q.term.val,2,(b:Int),(q.code.length:Int),0]]else if q.term.op=3 then [[q.term.val,0,(b:Int),(q.code.length:Int),0]]else []
def rowsBlock (b:Nat) (q:BlockM):List (List Int):=q.phis.flatMap (rowsPhi b)++(rowsCode b q.code q.code.length++rowsTerm b q)
def rowsTo (bs:List BlockM):Nat→List (List Int)
 | 0 => []
 | b + 1 => rowsTo bs b ++ match bs[b]? with | some q => rowsBlock b q | none => []
def RU5 (w:World) (base:Nat) (v:Value) (us:List (Int×Int)) (rows:List (List Int)):Prop :=
 rows.map (fun r=>(r.getD 0 0,r.getD 1 0))=us∧(∀ r∈rows,r.length=5)∧w.ownsRow base 39 5 v us.length (rows.flatten.map (Value.int .i64))
theorem RU5.push {w':World} {base:Nat} {v':Value} {us:List (Int×Int)} {rows:List (List Int)} (h1:rows.map (fun r=>(r.getD 0 0,r.getD 1 0))=us) (h2:∀ r∈rows,r.length=5) {a b c d e:Int}
  (h:w'.ownsRow base 39 5 v' (us.length+1) (rows.flatten.map (Value.int .i64)++[.int .i64 a,.int .i64 b,.int .i64 c,.int .i64 d,.int .i64 e])):RU5 w' base v' (us++[(a,b)]) (rows++[[a,b,c,d,e]]):=by
 refine⟨by rw[List.map_append,h1];rfl,?_,?_⟩
 ·intro r hr
  rcases List.mem_append.1 hr with hr|hr
  ·exact h2 r hr
  ·simp at hr
   subst hr
   rfl
 ·simpa using h
theorem RU5.alloc {w:World} {base:Nat} {v:Value} {us:List (Int×Int)} {rows:List (List Int)} (h:RU5 w base v us rows) (o:Obj):RU5 (w.alloc o) base v us rows:=⟨h.1,h.2.1,h.2.2.alloc o⟩
theorem RU5.below {w w':World} {base:Nat} {v:Value} {us:List (Int×Int)} {rows:List (List Int)} (h:RU5 w base v us rows) (hb:Below w.heap.size w w'):RU5 w' base v us rows:=by
 obtain⟨h1,h2,h3⟩:=h
 exact⟨h1,h2,h3.kept (row:=none) ⟨hb.os,hb.tape,hb.output,hb.size,fun k hk _=>hb.block k hk⟩ (by
  cases hv:v.ownBlock with
  | none => exact .inl rfl
  | some k => exact .inr (by simp))⟩
set_option maxRecDepth 100000 in
set_option maxHeartbeats 8000000 in
theorem refUses5_any (bs:List BlockM) (B:Nat) (pv xv cv bv:Value) (w:World) (hbv:BlocksR w B bv bs) (hB:B≤w.heap.size) (hfew:Few bs) (hl5:bs.length≤512)
  (hform:∀ b∈bs,∀ x∈b.code,x.args.length=(takesS x.op).length) (hphi:∀ b∈bs,∀ p∈b.phis,p.vals.length=p.fr.length) :
  Calls Tryz.prog 15 #[.agg #[pv,xv,cv,bv]] w fun e w'=>∃ v,e=.returned v∧RU5 w' w.heap.size v (bs.flatMap usesBlock) (rowsTo bs bs.length)∧Below w.heap.size w w':=by
 have HFEW:=hideI hfew
 have HFO:=hideI hform
 have HPH:=hideI hphi
 have HBB:=hideI hbv
 obtain⟨i0,hi,hz0,hz1,hz2⟩:=info_parts use_info
 obtain⟨A,c,rfl,hbm,hbx⟩:=hbv
 have HX:=hideI hbx
 clear hbx hfew hform hphi
 obtain⟨W0,hW0⟩:∃ W0:World,W0=(w.alloc (.cells #[pv,xv,cv,.slice A bs.length c] 25)).alloc (.cells #[] 39):=⟨_,rfl⟩
 have hK0:Hid (Ka w.heap.size w W0):=by rw[hW0];exact((Ka.refl _ w).alloc (Nat.le_refl _) _).alloc (by simp) _
 have hbox0:Hid (W0.heap[w.heap.size]?=some (.cells #[pv,xv,cv,.slice A bs.length c] 25 (0,0))):=by
  show _=_
  rw[hW0,Below.heap_alloc _ _ _ (by simp)]
  exact heap_alloc_new w _
 have hR0:Hid (RU5 W0 w.heap.size (.slice (some ⟨w.heap.size+1,0,none⟩) 0 0) [] []):=by
  have:=World.ownsRow_made (base:=w.heap.size) (e:=39) (size:=5) (w.alloc (.cells #[pv,xv,cv,.slice A bs.length c] 25)) #[] 0 (by simp) (by decide) rfl
  show RU5 W0 _ _ _ _
  rw[hW0]
  exact⟨rfl,(fun _ h=>by cases h),by simpa using this⟩
 have HW0:=hideI hW0
 clear hW0
 go_enter Tryz.func15,Tryz.ntmps15
 go_wp2
 rw[← HW0.out]
 go_loopw [3,4] (fun o i wr=>∃ k:Nat,k≤bs.length∧i=.int .i64 k∧RU5 wr w.heap.size o ((bs.take k).flatMap usesBlock) (rowsTo bs k)∧Ka w.heap.size W0 wr) (fun _ i _=>bs.length - (intOf i).toNat)
 case atStart => exact⟨0,Nat.zero_le _,rfl,by simpa [rowsTo] using hR0.out,Ka.refl _ _⟩
 case round =>
  obtain⟨k,hk,rfl,hIk,hFk⟩:=hrel
  obtain⟨u3,rfl⟩:∃ u3':Value,u3'=u3:=⟨_,rfl⟩
  have HIk:=hideI hIk
  have HFk:=hideI hFk
  have hx:=hFk.row hbox0.out (by decide)
  have hsz:w.heap.size<wr.heap.size:=by have h1:=hFk.size;have h2:=lt_of_heap hbox0.out;omega
  have HK:=hideI (Keeps.mono' (hK0.out.trans hFk).keeps hB)
  clear hIk hFk
  by_cases hlt:k<bs.length
  ·obtain⟨q,hq⟩:∃ q,bs[k]?=some q:=⟨_,List.getElem?_eq_getElem hlt⟩
   obtain⟨b,off,qpv,qcv,qtv,rfl,hb,e0,e1,e2,e3,e4,e5,hpv,hcv,htv,_⟩:=HX.out k q hq
   have c0:=(HK.out b (off+k*6) hb).trans e0
   have c1:=(HK.out b (off+k*6+1) hb).trans e1
   have c2:=(HK.out b (off+k*6+2) hb).trans e2
   have c3:=(HK.out b (off+k*6+3) hb).trans e3
   have c4:=(HK.out b (off+k*6+4) hb).trans e4
   have c5:=(HK.out b (off+k*6+5) hb).trans e5
   have HQ:=hideI hq
   obtain⟨PA,pc,rfl,hpm,hpx⟩:=hpv
   obtain⟨CA,cc,rfl,hcm,hcx⟩:=hcv
   obtain⟨TA,tc,rfl,_⟩:=htv
   have HPX:=hideI hpx
   have HCX:=hideI hcx
   clear e0 e1 e2 e3 e4 e5 hq hpx hcx
   obtain⟨wo,rfl⟩:∃ wo:World,wo=wr:=⟨_,rfl⟩
   obtain⟨W1,hW1⟩:∃ W1:World,W1=wo.alloc (.cells #[.slice PA q.phis.length pc,.slice CA q.code.length cc,.int .i64 q.term.op,.int .i64 q.term.val,.slice TA q.term.to.length tc,.int .i64 q.term.n] 62):=⟨_,rfl⟩
   have HF1:Hid (Ka w.heap.size W0 W1):=by rw[hW1];exact HFk.out.alloc (by omega) _
   have HI1:Hid (RU5 W1 w.heap.size u3 ((bs.take k).flatMap usesBlock) (rowsTo bs k)):=by rw[hW1];exact HIk.out.alloc _
   have HB1:Hid (W1.heap[wo.heap.size]?=some (.cells #[.slice PA q.phis.length pc,.slice CA q.code.length cc,.int .i64 q.term.op,.int .i64 q.term.val,.slice TA q.term.to.length tc,.int .i64 q.term.n] 62 (0,0))):=by rw[hW1];exact heap_alloc_new wo _
   have HW1:=hideI hW1
   clear hW1
   obtain⟨us1,hus1⟩:∃ us1,us1=(bs.take k).flatMap usesBlock:=⟨_,rfl⟩
   obtain⟨rs1,hrs1⟩:∃ rs1,rs1=rowsTo bs k:=⟨_,rfl⟩
   rw[← hus1,← hrs1]at HI1
   have HU1:=hideI hus1
   have HRS1:=hideI hrs1
   clear hus1 hrs1
   go_wp2
   rw[← HW1.out]
   go_loopw [3,6] (fun o i wr=>∃ j:Nat,j≤q.phis.length∧i=.int .i64 j∧RU5 wr w.heap.size o (us1++(q.phis.take j).flatMap usesPhi) (rs1++(q.phis.take j).flatMap (rowsPhi k))∧Ka w.heap.size W1 wr) (fun _ i _=>q.phis.length - (intOf i).toNat)
   case atStart => exact⟨0,Nat.zero_le _,rfl,by simpa using HI1.out,Ka.refl _ _⟩
   case round =>
    obtain⟨j,hj,rfl,hIj,hFj⟩:=hrel
    have HIj:=hideI hIj
    have HFj:=hideI hFj
    have hx1:=hFj.row HB1.out (by decide)
    have hsz1:wo.heap.size<wr.heap.size:=by have h1:=hFj.size;have h2:=lt_of_heap HB1.out;omega
    have HK1:=hideI (Keeps.mono' ((hK0.out.trans HF1.out).trans hFj).keeps hB)
    clear hIj hFj
    by_cases hlj:j<q.phis.length
    ·obtain⟨p,hp⟩:∃ p,q.phis[j]?=some p:=⟨_,List.getElem?_eq_getElem hlj⟩
     obtain⟨b2,off2,fv,vv,rfl,hb2,e0,e1,e2,e3,hf,hv,_⟩:=HPX.out j p hp
     have HQ2:=hideI hp
     have hpl:Hid (p.vals.length=p.fr.length):=HPH.out q (List.mem_of_getElem? HQ.out) p (List.mem_of_getElem? hp)
     obtain⟨FA,fc,rfl,hfm,hfx⟩:=hf
     obtain⟨VA,vc,rfl,hvm,hvx⟩:=hv
     have HVX:=hideI hvx
     have HFX:=hideI hfx
     have HE:=hideI (And.intro e1 (And.intro e2 e3))
     have d3:=(HK1.out b2 (off2+j*4+3) hb2).trans e3
     obtain⟨wi,rfl⟩:∃ wi:World,wi=wr:=⟨_,rfl⟩
     obtain⟨us2,hus2⟩:∃ us2,us2=us1++(q.phis.take j).flatMap usesPhi:=⟨_,rfl⟩
     obtain⟨rs2,hrs2⟩:∃ rs2,rs2=rs1++(q.phis.take j).flatMap (rowsPhi k):=⟨_,rfl⟩
     rw[← hus2,← hrs2]at HIj
     have HU2:=hideI hus2
     have HRS2:=hideI hrs2
     clear e0 e1 e2 e3 hp hvx hfx hus2 hrs2
     go_wp2
     clear d3
     go_loopw [3,7] (fun o i wr=>∃ m:Nat,m≤p.vals.length∧i=.int .i64 m∧RU5 wr w.heap.size o (us2++(p.vals.take m).map fun v=>(v,p.typ)) (rs2++((p.vals.zip p.fr).take m).map (rowPhi k p.typ))∧Ka w.heap.size wi wr) (fun _ i _=>p.vals.length - (intOf i).toNat)
     case atStart => exact⟨0,Nat.zero_le _,rfl,by simpa using HIj.out,Ka.refl _ _⟩
     case round =>
      obtain⟨m,hm,rfl,hIm,hFm⟩:=hrel
      have hx2:=(HFj.out.trans hFm).row HB1.out (by decide)
      have HK2:=hideI (Keeps.mono' (((hK0.out.trans HF1.out).trans HFj.out).trans hFm).keeps hB)
      have hsz2:w.heap.size≤wr.heap.size:=by have h1:=hFm.size;omega
      have d1:=(HK2.out b2 (off2+j*4+1) hb2).trans HE.out.1
      have d2:=(HK2.out b2 (off2+j*4+2) hb2).trans HE.out.2.1
      have d3:=(HK2.out b2 (off2+j*4+3) hb2).trans HE.out.2.2
      have HIm:=hideI hIm
      have HFm:=hideI hFm
      clear hIm hFm
      by_cases hlm:m<p.vals.length
      ·obtain⟨b3,off3,rfl,hb3,e3⟩:=HVX.out m hlm
       obtain⟨v,hv⟩:∃ v,p.vals[m]?=some v:=⟨_,List.getElem?_eq_getElem hlm⟩
       have hlf:m<p.fr.length:=by rw[← hpl.out];exact hlm
       obtain⟨b4,off4,rfl,hb4,e4⟩:=HFX.out m hlf
       obtain⟨fr,hfr⟩:∃ fr,p.fr[m]?=some fr:=⟨_,List.getElem?_eq_getElem hlf⟩
       rw[hv]at e3
       rw[hfr]at e4
       have f3:=(HK2.out b3 (off3+m) hb3).trans e3
       have f4:=(HK2.out b4 (off4+m) hb4).trans e4
       simp only[Option.getD_some]at f3 f4
       have HV:=hideI hv
       have HZ:Hid ((p.vals.zip p.fr)[m]?=some (v,fr)):=hideI (List.getElem?_zip_eq_some.2 ⟨hv,hfr⟩)
       have hfw:=few_phi HFEW.out HQ.out HQ2.out hlm us1 us2 HU1.out HU2.out
       obtain⟨uu,huu⟩:∃ uu,uu=us2++(p.vals.take m).map fun v=>(v,p.typ):=⟨_,rfl⟩
       obtain⟨rows,hrows⟩:∃ rows,rows=rs2++((p.vals.zip p.fr).take m).map (rowPhi k p.typ):=⟨_,rfl⟩
       rw[← huu]at hfw HIm
       rw[← hrows]at HIm
       have HUU:=hideI huu
       have HRW:=hideI hrows
       clear e3 e4 hv hfr huu hrows
       have g0:wr.cell? ⟨wo.heap.size,0,none⟩=some (.slice (some ⟨b2,off2,none⟩) q.phis.length pc):=hx2 0
       clear hx2
       obtain⟨hrw1,hrw2,hown⟩:=HIm.out
       have HR1:=hideI hrw1
       have HR2:=hideI hrw2
       clear hrw1 hrw2
       have G0:Hid (∀ W,Ka w.heap.size wr W→W.cell? ⟨wo.heap.size,0,none⟩=some (.slice (some ⟨b2,off2,none⟩) q.phis.length pc)∧W.cell? ⟨b2,off2+j*4+1,none⟩=some (.int .i64 p.typ)∧W.cell? ⟨b2,off2+j*4+2,none⟩=some (.slice (some ⟨b4,off4,none⟩) p.fr.length fc)∧W.cell? ⟨b2,off2+j*4+3,none⟩=some (.slice (some ⟨b3,off3,none⟩) p.vals.length vc)∧W.cell? ⟨b3,off3+m,none⟩=some (.int .i64 v)∧W.cell? ⟨b4,off4+m,none⟩=some (.int .i64 fr)) :=
        fun W hW=>⟨((HFj.out.trans HFm.out).trans hW).row HB1.out (by decide) 0,(hW.keeps _ _ (by omega)).trans d1,(hW.keeps _ _ (by omega)).trans d2,(hW.keeps _ _ (by omega)).trans d3,(hW.keeps _ _ (by omega)).trans f3,(hW.keeps _ _ (by omega)).trans f4⟩
       go_wp2
       go_region_held3 (fun w'=>w'.cell? ⟨wo.heap.size,0,none⟩=some (.slice (some ⟨b2,off2,none⟩) q.phis.length pc)∧w'.cell? ⟨b2,off2+j*4+1,none⟩=some (.int .i64 p.typ)∧w'.cell? ⟨b2,off2+j*4+2,none⟩=some (.slice (some ⟨b4,off4,none⟩) p.fr.length fc)∧w'.cell? ⟨b2,off2+j*4+3,none⟩=some (.slice (some ⟨b3,off3,none⟩) p.vals.length vc)∧w'.cell? ⟨b3,off3+m,none⟩=some (.int .i64 v)∧w'.cell? ⟨b4,off4+m,none⟩=some (.int .i64 fr)) (first|go_keep|exact G0.out _ ((((Ka.refl _ wr).alloc hsz2 _).drew).trans hka)|exact G0.out _ (((Ka.refl _ wr).alloc hsz2 _).trans hka))
        (first|(refine step_append_lies _ rfl (.tmp 44) (.tmp 71) _ rfl w.heap.size 39 i0 _ 5 40 Tryz.underlying36 hi hz0 hz1 hz2 rfl (by decide) _ _ _ rfl (hown.alloc _) ⟨wr.heap.size,0,none⟩ 1 1 [.int .i64 v,.int .i64 p.typ,.int .i64 k,.int .i64 (-1),.int .i64 fr] rfl rfl (five_new _ _ _) (by simp[Value.oneCell']) (by decide) (by unfold maxLen;omega) (by omega) (by simp;omega) _ rfl ?_;intro g1 cap1 w4 hown1 hgrow1 hor hgl1;have hka:=Ka.grown hgrow1 (hown.alloc _) (by simp;omega)))
       have HIN:Hid (RU5 w4 w.heap.size (.slice (some ⟨g1,0,none⟩) (uu.length+1) cap1) (us2++(p.vals.take (m+1)).map fun v=>(v,p.typ)) (rs2++((p.vals.zip p.fr).take (m+1)).map (rowPhi k p.typ))):=by
        have:=RU5.push (b:=p.typ) HR1.out HR2.out hown1
        rw[map_take' (fun v=>(v,p.typ)) p.vals m v HV.out,← List.append_assoc,← HUU.out,map_take' (rowPhi k p.typ) (p.vals.zip p.fr) m (v,fr) HZ.out,← List.append_assoc,← HRW.out]
        exact this
       have HFN:Hid (Ka w.heap.size wi w4):=(HFm.out.trans (((Ka.refl _ wr).alloc hsz2 _).drew)).trans hka
       clear hown1 hgrow1 hor hgl1 hka
       go_wp2
       go_roundw
       case rel => exact⟨m+1,by omega,by go_num,HIN.out,HFN.out⟩
       case measure => simp[intOf];omega
      ·have HIend:Hid (RU5 wr w.heap.size u3 (us2++usesPhi p) (rs2++rowsPhi k p)):=by have:=HIm.out;rw[List.take_of_length_le (l:=p.vals) (by omega),List.take_of_length_le (l:=p.vals.zip p.fr) (by rw[List.length_zip];omega)]at this;exact this
       go_wp2
       go_roundw
       case rel => exact⟨j+1,by omega,by go_num,by rw[flat_take' _ _ _ _ HQ2.out,flat_take' _ _ _ _ HQ2.out,← List.append_assoc,← List.append_assoc,← HU2.out,← HRS2.out];exact HIend.out,HFj.out.trans HFm.out⟩
       case measure => simp[intOf];omega
    ·have HIend:Hid (RU5 wr w.heap.size u3 (us1++q.phis.flatMap usesPhi) (rs1++q.phis.flatMap (rowsPhi k))):=by have:=HIj.out;rw[List.take_of_length_le (by omega)]at this;exact this
     go_wp2
     obtain⟨wp,rfl⟩:∃ wp:World,wp=wr:=⟨_,rfl⟩
     clear hx1 hsz1 HK1 hlj
     obtain⟨us3,hus3⟩:∃ us3,us3=us1++q.phis.flatMap usesPhi:=⟨_,rfl⟩
     obtain⟨rs3,hrs3⟩:∃ rs3,rs3=rs1++q.phis.flatMap (rowsPhi k):=⟨_,rfl⟩
     rw[← hus3,← hrs3]at HIend
     have HU3:=hideI hus3
     have HRS3:=hideI hrs3
     clear hus3 hrs3
     go_loopw [3,8] (fun o i wr=>∃ j:Nat,j≤q.code.length∧i=.int .i64 j∧RU5 wr w.heap.size o (us3++(q.code.take j).flatMap usesInstr) (rs3++rowsCode k q.code j)∧Ka w.heap.size W1 wr) (fun _ i _=>q.code.length - (intOf i).toNat)
     case atStart => exact⟨0,Nat.zero_le _,rfl,by simpa [rowsCode] using HIend.out,HFj.out⟩
     case round =>
      obtain⟨j2,hj2,rfl,hIj2,hFj2⟩:=hrel
      have HIj2:=hideI hIj2
      have HFj2:=hideI hFj2
      have hx1:=hFj2.row HB1.out (by decide)
      have hsz1:wo.heap.size<wr.heap.size:=by have h1:=hFj2.size;have h2:=lt_of_heap HB1.out;omega
      have hsz0:w.heap.size≤wr.heap.size:=by omega
      have HK1:=hideI (Keeps.mono' ((hK0.out.trans HF1.out).trans hFj2).keeps hB)
      clear hIj2 hFj2
      by_cases hlj2:j2<q.code.length
      ·obtain⟨x,hp⟩:∃ x,q.code[j2]?=some x:=⟨_,List.getElem?_eq_getElem hlj2⟩
       have hxl:Hid (x.args.length=(takesS x.op).length):=HFO.out q (List.mem_of_getElem? HQ.out) x (List.mem_of_getElem? hp)
       obtain⟨b2,off2,av,rfl,hb2,e0,e1,e2,e3,hf,_⟩:=HCX.out j2 x hp
       have d0:=(HK1.out b2 (off2+j2*4) hb2).trans e0
       have HE2:=hideI e2
       have HQ2:=hideI hp
       obtain⟨AA,ac,rfl,ham,hax⟩:=hf
       have HAX:=hideI hax
       clear e0 e1 e2 e3 hp hax
       obtain⟨wi,rfl⟩:∃ wi:World,wi=wr:=⟨_,rfl⟩
       go_wp2_with (go_at_call 38;refine(refArgs_any _ _).mono ?_;rintro e w3 ⟨tv,rfl,htv,hbA⟩;obtain⟨TK,tkc,rfl,htm,htx⟩:=htv;have HTX:=hideI htx;have HBA:=hideI hbA;clear htx hbA)
       have HF3:Hid (Ka w.heap.size W1 w3):=HFj2.out.trans (Ka.of_below HBA.out hsz0)
       have HI3:Hid (RU5 w3 w.heap.size u3 (us3++(q.code.take j2).flatMap usesInstr) (rs3++rowsCode k q.code j2)):=HIj2.out.below HBA.out
       obtain⟨us4,hus4⟩:∃ us4,us4=us3++(q.code.take j2).flatMap usesInstr:=⟨_,rfl⟩
       obtain⟨rs4,hrs4⟩:∃ rs4,rs4=rs3++rowsCode k q.code j2:=⟨_,rfl⟩
       rw[← hus4,← hrs4]at HI3
       have HU4:=hideI hus4
       have HRS4:Hid (rs3++rowsCode k q.code (j2+1)=rs4++rowsInstr k j2 x):=by show _=_;rw[rowsCode,HQ2.out,hrs4,List.append_assoc]
       clear hrs4
       have hsz3:wi.heap.size≤w3.heap.size:=HBA.out.size
       clear hus4 hx1 d0
       go_loopw [3,12] (fun o i wr=>∃ m:Nat,m≤(takesS x.op).length∧i=.int .i64 m∧RU5 wr w.heap.size o (us4++(x.args.take m).zip ((takesS x.op).take m)) (rs4++((x.args.zip (takesS x.op)).take m).map (rowInstr k j2))∧Ka w.heap.size w3 wr) (fun _ i _=>(takesS x.op).length - (intOf i).toNat)
       case atStart => exact⟨0,Nat.zero_le _,rfl,by simpa using HI3.out,Ka.refl _ _⟩
       case round =>
        obtain⟨m,hm,rfl,hIm,hFm⟩:=hrel
        have HIm:=hideI hIm
        have HFm:=hideI hFm
        have HK2:=hideI (Keeps.mono' ((hK0.out.trans HF1.out).trans (HF3.out.trans hFm)).keeps hB)
        have hsz2:w.heap.size≤wr.heap.size:=by have h1:=hFm.size;omega
        clear hIm hFm
        by_cases hlm:m<(takesS x.op).length
        ·have hla:m<x.args.length:=by rw[hxl.out];exact hlm
         obtain⟨b3,off3,rfl,hb3,e3⟩:=HAX.out m hla
         obtain⟨v,hv⟩:∃ v,x.args[m]?=some v:=⟨_,List.getElem?_eq_getElem hla⟩
         obtain⟨t,ht⟩:∃ t,(takesS x.op)[m]?=some t:=⟨_,List.getElem?_eq_getElem hlm⟩
         obtain⟨g,cs,rfl,hg,hgb,hgc⟩:=HTX.out (by omega)
         have hgx:=(HFm.out.row hgb (by decide) m).trans (hgc m hlm)
         rw[hv]at e3
         rw[ht]at hgx
         have f3:=(HK2.out b3 (off3+m) hb3).trans e3
         have d2:=(HK2.out b2 (off2+j2*4+2) hb2).trans HE2.out
         simp only[Option.getD_some]at f3 hgx
         have HV:=hideI hv
         have HT2:=hideI ht
         have HZ:Hid ((x.args.zip (takesS x.op))[m]?=some (v,t)):=hideI (List.getElem?_zip_eq_some.2 ⟨hv,ht⟩)
         have HGB:=hideI (And.intro hgb (hgc m hlm))
         have hfw:=few_instr HFEW.out HQ.out HQ2.out hla hxl.out us1 us3 us4 HU1.out HU3.out HU4.out
         obtain⟨uu,huu⟩:∃ uu,uu=us4++(x.args.take m).zip ((takesS x.op).take m):=⟨_,rfl⟩
         obtain⟨rows,hrows⟩:∃ rows,rows=rs4++((x.args.zip (takesS x.op)).take m).map (rowInstr k j2):=⟨_,rfl⟩
         rw[← huu]at hfw HIm
         rw[← hrows]at HIm
         have HUU:=hideI huu
         have HRW:=hideI hrows
         clear hrows
         obtain⟨hrw1,hrw2,hown⟩:=HIm.out
         have HR1:=hideI hrw1
         have HR2:=hideI hrw2
         have g0:wr.cell? ⟨wo.heap.size,1,none⟩=some (.slice (some ⟨b2,off2,none⟩) q.code.length cc):=((HF3.out.trans HFm.out).row HB1.out (by decide) 1)
         clear e3 hv ht hgb hgc huu hrw1 hrw2
         have G0:Hid (∀ W,Ka w.heap.size wr W→W.cell? ⟨wo.heap.size,1,none⟩=some (.slice (some ⟨b2,off2,none⟩) q.code.length cc)∧W.cell? ⟨b2,off2+j2*4+2,none⟩=some (.slice (some ⟨b3,off3,none⟩) x.args.length ac)∧W.cell? ⟨b3,off3+m,none⟩=some (.int .i64 v)∧W.cell? ⟨g,m,none⟩=some (.int .i64 t)) :=
          fun W hW=>⟨((HF3.out.trans HFm.out).trans hW).row HB1.out (by decide) 1,(hW.keeps _ _ (by omega)).trans d2,(hW.keeps _ _ (by omega)).trans f3,(by rw[((HFm.out.trans hW).row HGB.out.1 (by decide) m),← hgx,HFm.out.row HGB.out.1 (by decide) m])⟩
         go_wp2
         go_region_held3 (fun w'=>w'.cell? ⟨wo.heap.size,1,none⟩=some (.slice (some ⟨b2,off2,none⟩) q.code.length cc)∧w'.cell? ⟨b2,off2+j2*4+2,none⟩=some (.slice (some ⟨b3,off3,none⟩) x.args.length ac)∧w'.cell? ⟨b3,off3+m,none⟩=some (.int .i64 v)∧w'.cell? ⟨g,m,none⟩=some (.int .i64 t)) (first|go_keep|exact G0.out _ ((((Ka.refl _ wr).alloc hsz2 _).drew).trans hka)|exact G0.out _ (((Ka.refl _ wr).alloc hsz2 _).trans hka))
          (first|(refine step_append_lies _ rfl (.tmp 97) (.tmp 114) _ rfl w.heap.size 39 i0 _ 5 40 Tryz.underlying36 hi hz0 hz1 hz2 rfl (by decide) _ _ _ rfl (hown.alloc _) ⟨wr.heap.size,0,none⟩ 1 1 [.int .i64 v,.int .i64 t,.int .i64 k,.int .i64 j2,.int .i64 0] rfl rfl (five_new _ _ _) (by simp[Value.oneCell']) (by decide) (by unfold maxLen;omega) (by omega) (by simp;omega) _ rfl ?_;intro g1 cap1 w4 hown1 hgrow1 hor hgl1;have hka:=Ka.grown hgrow1 (hown.alloc _) (by simp;omega)))
         have HIN:Hid (RU5 w4 w.heap.size (.slice (some ⟨g1,0,none⟩) (uu.length+1) cap1) (us4++(x.args.take (m+1)).zip ((takesS x.op).take (m+1))) (rs4++((x.args.zip (takesS x.op)).take (m+1)).map (rowInstr k j2))):=by
          have:=RU5.push (b:=t) HR1.out HR2.out hown1
          rw[zip_take' _ _ _ _ _ HV.out HT2.out,← List.append_assoc,← HUU.out,map_take' (rowInstr k j2) (x.args.zip (takesS x.op)) m (v,t) HZ.out,← List.append_assoc,← HRW.out]
          exact this
         have HFN:Hid (Ka w.heap.size w3 w4):=(HFm.out.trans (((Ka.refl _ wr).alloc hsz2 _).drew)).trans hka
         clear hown1 hgrow1 hor hgl1 hka
         go_wp2
         go_roundw
         case rel => exact⟨m+1,by omega,by go_num,HIN.out,HFN.out⟩
         case measure => simp[intOf];omega
        ·have HIe:Hid (RU5 wr w.heap.size u3 (us4++usesInstr x) (rs4++rowsInstr k j2 x)):=by
          have:=HIm.out
          rw[List.take_of_length_le (l:=x.args) (by rw[hxl.out];omega),List.take_of_length_le (l:=takesS x.op) (by omega),List.take_of_length_le (l:=x.args.zip (takesS x.op)) (by rw[List.length_zip];omega)]at this
          exact this
         go_wp2
         go_roundw
         case rel => exact⟨j2+1,by omega,by go_num,by rw[flat_take' _ _ _ _ HQ2.out,← List.append_assoc,← HU4.out,HRS4.out];exact HIe.out,HF3.out.trans HFm.out⟩
         case measure => simp[intOf];omega
      ·have HIe:Hid (RU5 wr w.heap.size u3 (us3++q.code.flatMap usesInstr) (rs3++rowsCode k q.code q.code.length)):=by have:=HIj2.out;rw[List.take_of_length_le (by omega),show j2=q.code.length by omega]at this;exact this
       have HUB:Hid ((bs.take (k+1)).flatMap usesBlock=(us3++q.code.flatMap usesInstr)++usesTerm q.term):=by
        show _=_
        rw[flat_take' _ _ _ _ HQ.out,HU3.out,HU1.out]
        simp only[usesBlock,List.append_assoc]
       have HRB:Hid (rowsTo bs (k+1)=(rs3++rowsCode k q.code q.code.length)++rowsTerm k q):=by
        show _=_
        rw[rowsTo,HQ.out,HRS3.out,HRS1.out]
        simp only[rowsBlock,List.append_assoc]
       cases h2:q.term.op==2
       ·cases h3:q.term.op==3
        ·have hu:usesTerm q.term=[]:=by
          unfold usesTerm
          rw[if_neg (by simpa using h2),if_neg (by simpa using h3)]
         have HU:=hideI hu
         have HRT:Hid (rowsTerm k q=[]):=by
          show _=_
          unfold rowsTerm
          rw[if_neg (by simpa using h2),if_neg (by simpa using h3)]
         clear hu
         go_wp2
         go_roundw
         case rel => exact⟨k+1,by omega,by go_num,by rw[HUB.out,HU.out,List.append_nil,HRB.out,HRT.out,List.append_nil];exact HIe.out,HF1.out.trans HFj2.out⟩
         case measure => simp[intOf];omega
        ·have hu:usesTerm q.term=[(q.term.val,0)]:=by
          unfold usesTerm
          rw[if_neg (by simpa using h2),if_pos (by simpa using h3)]
         have HU:=hideI hu
         have HRT:Hid (rowsTerm k q=[[q.term.val,0,(k:Int),(q.code.length:Int),0]]):=by
          show _=_
          unfold rowsTerm
          rw[if_neg (by simpa using h2),if_pos (by simpa using h3)]
         have hfw:=few_term HFEW.out HQ.out (by rw[hu];exact Nat.zero_lt_one) us1 us3 HU1.out HU3.out
         clear hu
         obtain⟨uu,huu⟩:∃ uu,uu=us3++q.code.flatMap usesInstr:=⟨_,rfl⟩
         obtain⟨rows,hrows⟩:∃ rows,rows=rs3++rowsCode k q.code q.code.length:=⟨_,rfl⟩
         rw[← huu]at hfw HIe HUB
         rw[← hrows]at HIe HRB
         clear huu hrows
         obtain⟨hrw1,hrw2,hown⟩:=HIe.out
         have HR1:=hideI hrw1
         have HR2:=hideI hrw2
         clear hrw1 hrw2
         go_wp2_with (at_builtin;refine wpList_append_lies _ rfl _ _ _ rfl w.heap.size 39 i0 _ 5 40 Tryz.underlying36 hi hz0 hz1 hz2 rfl (by decide) _ _ _ rfl (hown.alloc _) ⟨wr.heap.size,0,none⟩ 1 1 [.int .i64 q.term.val,.int .i64 0,.int .i64 k,.int .i64 q.code.length,.int .i64 0] rfl rfl (five_new _ _ _) (by simp[Value.oneCell']) (by decide) (by unfold maxLen;omega) (by omega) (by simp;omega) _ rfl ?_;intro g1 cap1 w4 hown1 hgrow1 hor hgl1;have hka:=hideI (Ka.grown hgrow1 (hown.alloc _) (by simp;omega));have HO1:=hideI hown1;clear hown1 hgrow1 hor hgl1)
         go_roundw
         case rel => exact⟨k+1,by omega,by go_num,by rw[HUB.out,HU.out,HRB.out,HRT.out];exact RU5.push HR1.out HR2.out HO1.out,(HF1.out.trans (HFj2.out.alloc hsz0 _)).trans hka.out⟩
         case measure => simp[intOf];omega
       ·have hu:usesTerm q.term=[(q.term.val,2)]:=by
         unfold usesTerm
         rw[if_pos (by simpa using h2)]
        have HU:=hideI hu
        have HRT:Hid (rowsTerm k q=[[q.term.val,2,(k:Int),(q.code.length:Int),0]]):=by
         show _=_
         unfold rowsTerm
         rw[if_pos (by simpa using h2)]
        have hfw:=few_term HFEW.out HQ.out (by rw[hu];exact Nat.zero_lt_one) us1 us3 HU1.out HU3.out
        clear hu
        have h3:(q.term.op==3)=false:=by
         have:q.term.op=2:=by simpa using h2
         rw[this];rfl
        obtain⟨uu,huu⟩:∃ uu,uu=us3++q.code.flatMap usesInstr:=⟨_,rfl⟩
        obtain⟨rows,hrows⟩:∃ rows,rows=rs3++rowsCode k q.code q.code.length:=⟨_,rfl⟩
        rw[← huu]at hfw HIe HUB
        rw[← hrows]at HIe HRB
        clear huu hrows
        obtain⟨hrw1,hrw2,hown⟩:=HIe.out
        have HR1:=hideI hrw1
        have HR2:=hideI hrw2
        clear hrw1 hrw2
        go_wp2_with (at_builtin;refine wpList_append_lies _ rfl _ _ _ rfl w.heap.size 39 i0 _ 5 40 Tryz.underlying36 hi hz0 hz1 hz2 rfl (by decide) _ _ _ rfl (hown.alloc _) ⟨wr.heap.size,0,none⟩ 1 1 [.int .i64 q.term.val,.int .i64 2,.int .i64 k,.int .i64 q.code.length,.int .i64 0] rfl rfl (five_new _ _ _) (by simp[Value.oneCell']) (by decide) (by unfold maxLen;omega) (by omega) (by simp;omega) _ rfl ?_;intro g1 cap1 w4 hown1 hgrow1 hor hgl1;have hka:=hideI (Ka.grown hgrow1 (hown.alloc _) (by simp;omega));have HO1:=hideI hown1;have hx4:=((HFj2.out.alloc hsz0 _).trans hka.out).row HB1.out (by decide);clear hown1 hgrow1 hor hgl1)
        go_roundw
        case rel => exact⟨k+1,by omega,by go_num,by rw[HUB.out,HU.out,HRB.out,HRT.out];exact RU5.push HR1.out HR2.out HO1.out,(HF1.out.trans (HFj2.out.alloc hsz0 _)).trans hka.out⟩
        case measure => simp[intOf];omega
  ·go_wp2
   go_ret
   refine⟨_,rfl,?_,(hK0.out.trans HFk.out).below⟩
   have:=HIk.out
   rw[List.take_of_length_le (by omega),show k=bs.length by omega]at this
   exact this
end Go.Proofs.YtaehbgppfahdeaaGreat
