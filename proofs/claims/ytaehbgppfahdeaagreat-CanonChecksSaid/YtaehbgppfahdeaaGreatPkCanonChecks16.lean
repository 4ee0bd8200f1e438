/- What CanonChecks rests on, part 16: CFill, CShaped, RCopyI, FnD, FnE, CEntries. -/
import Derived.Test.YtaehbgppfahdeaaGreatPkCanonChecks15
import Derived.Lib.SliceRun
import Derived.Lib.LazyBuf
import Derived.Laws.IdiomCopy

namespace Go.Proofs.YtaehbgppfahdeaaGreat
open Go.RowKit Go.Maps
section
variable {w:World} {sa:Nat} {u0 u1 u2 u3 u4 u5 u6 u7 u8 u9 u10 u11:Value}
theorem fill_row (h:w.heap[sa]?=some (.cells #[.slice none 0 0,.int .i64 0,.int .i64 0,.slice none 0 0,.slice none 0 0,.slice none 0 0,.slice none 0 0,.slice none 0 0,.int .i64 0,.int .i64 0,.slice none 0 0,.int .i64 0] 202 (0,0))):((((((((((((w.setCell ⟨sa,0,none⟩ u0).setCell ⟨sa,1,none⟩ u1).setCell ⟨sa,2,none⟩ u2).setCell ⟨sa,3,none⟩ u3).setCell ⟨sa,4,none⟩ u4).setCell ⟨sa,5,none⟩ u5).setCell ⟨sa,6,none⟩ u6).setCell ⟨sa,7,none⟩ u7).setCell ⟨sa,8,none⟩ u8).setCell ⟨sa,9,none⟩ u9).setCell ⟨sa,10,none⟩ u10).setCell ⟨sa,11,none⟩ u11).heap[sa]?=some (.cells #[u0,u1,u2,u3,u4,u5,u6,u7,u8,u9,u10,u11] 202 (0,0)):=by
 have h0:(w.setCell ⟨sa,0,none⟩ u0).heap[sa]?=some (.cells #[u0,.int .i64 0,.int .i64 0,.slice none 0 0,.slice none 0 0,.slice none 0 0,.slice none 0 0,.slice none 0 0,.int .i64 0,.int .i64 0,.slice none 0 0,.int .i64 0] 202 (0,0)):=by
  have e:=heap_setCell_same _ sa 0 _ _ u0 h
  simpa using e
 have h1:((w.setCell ⟨sa,0,none⟩ u0).setCell ⟨sa,1,none⟩ u1).heap[sa]?=some (.cells #[u0,u1,.int .i64 0,.slice none 0 0,.slice none 0 0,.slice none 0 0,.slice none 0 0,.slice none 0 0,.int .i64 0,.int .i64 0,.slice none 0 0,.int .i64 0] 202 (0,0)):=by
  have e:=heap_setCell_same _ sa 1 _ _ u1 h0
  simpa using e
 have h2:(((w.setCell ⟨sa,0,none⟩ u0).setCell ⟨sa,1,none⟩ u1).setCell ⟨sa,2,none⟩ u2).heap[sa]?=some (.cells #[u0,u1,u2,.slice none 0 0,.slice none 0 0,.slice none 0 0,.slice none 0 0,.slice none 0 0,.int .i64 0,.int .i64 0,.slice none 0 0,.int .i64 0] 202 (0,0)):=by
  have e:=heap_setCell_same _ sa 2 _ _ u2 h1
  simpa using e
 have h3:((((w.setCell ⟨sa,0,none⟩ u0).setCell ⟨sa,1,none⟩ u1).setCell ⟨sa,2,none⟩ u2).setCell ⟨sa,3,none⟩ u3).heap[sa]?=some (.cells #[u0,u1,u2,u3,.slice none 0 0,.slice none 0 0,.slice none 0 0,.slice none 0 0,.int .i64 0,.int .i64 0,.slice none 0 0,.int .i64 0] 202 (0,0)):=by
  have e:=heap_setCell_same _ sa 3 _ _ u3 h2
  simpa using e
 have h4:(((((w.setCell ⟨sa,0,none⟩ u0).setCell ⟨sa,1,none⟩ u1).setCell ⟨sa,2,none⟩ u2).setCell ⟨sa,3,none⟩ u3).setCell ⟨sa,4,none⟩ u4).heap[sa]?=some (.cells #[u0,u1,u2,u3,u4,.slice none 0 0,.slice none 0 0,.slice none 0 0,.int .i64 0,.int .i64 0,.slice none 0 0,.int .i64 0] 202 (0,0)):=by
  have e:=heap_setCell_same _ sa 4 _ _ u4 h3
  simpa using e
 have h5:((((((w.setCell ⟨sa,0,none⟩ u0).setCell ⟨sa,1,none⟩ u1).setCell ⟨sa,2,none⟩ u2).setCell ⟨sa,3,none⟩ u3).setCell ⟨sa,4,none⟩ u4).setCell ⟨sa,5,none⟩ u5).heap[sa]?=some (.cells #[u0,u1,u2,u3,u4,u5,.slice none 0 0,.slice none 0 0,.int .i64 0,.int .i64 0,.slice none 0 0,.int .i64 0] 202 (0,0)):=by
  have e:=heap_setCell_same _ sa 5 _ _ u5 h4
  simpa using e
 have h6:(((((((w.setCell ⟨sa,0,none⟩ u0).setCell ⟨sa,1,none⟩ u1).setCell ⟨sa,2,none⟩ u2).setCell ⟨sa,3,none⟩ u3).setCell ⟨sa,4,none⟩ u4).setCell ⟨sa,5,none⟩ u5).setCell ⟨sa,6,none⟩ u6).heap[sa]?=some (.cells #[u0,u1,u2,u3,u4,u5,u6,.slice none 0 0,.int .i64 0,.int .i64 0,.slice none 0 0,.int .i64 0] 202 (0,0)):=by
  have e:=heap_setCell_same _ sa 6 _ _ u6 h5
  simpa using e
 have h7:((((((((w.setCell ⟨sa,0,none⟩ u0).setCell ⟨sa,1,none⟩ u1).setCell ⟨sa,2,none⟩ u2).setCell ⟨sa,3,none⟩ u3).setCell ⟨sa,4,none⟩ u4).setCell ⟨sa,5,none⟩ u5).setCell ⟨sa,6,none⟩ u6).setCell ⟨sa,7,none⟩ u7).heap[sa]?=some (.cells #[u0,u1,u2,u3,u4,u5,u6,u7,.int .i64 0,.int .i64 0,.slice none 0 0,.int .i64 0] 202 (0,0)):=by
  have e:=heap_setCell_same _ sa 7 _ _ u7 h6
  simpa using e
 have h8:(((((((((w.setCell ⟨sa,0,none⟩ u0).setCell ⟨sa,1,none⟩ u1).setCell ⟨sa,2,none⟩ u2).setCell ⟨sa,3,none⟩ u3).setCell ⟨sa,4,none⟩ u4).setCell ⟨sa,5,none⟩ u5).setCell ⟨sa,6,none⟩ u6).setCell ⟨sa,7,none⟩ u7).setCell ⟨sa,8,none⟩ u8).heap[sa]?=some (.cells #[u0,u1,u2,u3,u4,u5,u6,u7,u8,.int .i64 0,.slice none 0 0,.int .i64 0] 202 (0,0)):=by
  have e:=heap_setCell_same _ sa 8 _ _ u8 h7
  simpa using e
 have h9:((((((((((w.setCell ⟨sa,0,none⟩ u0).setCell ⟨sa,1,none⟩ u1).setCell ⟨sa,2,none⟩ u2).setCell ⟨sa,3,none⟩ u3).setCell ⟨sa,4,none⟩ u4).setCell ⟨sa,5,none⟩ u5).setCell ⟨sa,6,none⟩ u6).setCell ⟨sa,7,none⟩ u7).setCell ⟨sa,8,none⟩ u8).setCell ⟨sa,9,none⟩ u9).heap[sa]?=some (.cells #[u0,u1,u2,u3,u4,u5,u6,u7,u8,u9,.slice none 0 0,.int .i64 0] 202 (0,0)):=by
  have e:=heap_setCell_same _ sa 9 _ _ u9 h8
  simpa using e
 have h10:(((((((((((w.setCell ⟨sa,0,none⟩ u0).setCell ⟨sa,1,none⟩ u1).setCell ⟨sa,2,none⟩ u2).setCell ⟨sa,3,none⟩ u3).setCell ⟨sa,4,none⟩ u4).setCell ⟨sa,5,none⟩ u5).setCell ⟨sa,6,none⟩ u6).setCell ⟨sa,7,none⟩ u7).setCell ⟨sa,8,none⟩ u8).setCell ⟨sa,9,none⟩ u9).setCell ⟨sa,10,none⟩ u10).heap[sa]?=some (.cells #[u0,u1,u2,u3,u4,u5,u6,u7,u8,u9,u10,.int .i64 0] 202 (0,0)):=by
  have e:=heap_setCell_same _ sa 10 _ _ u10 h9
  simpa using e
 have h11:((((((((((((w.setCell ⟨sa,0,none⟩ u0).setCell ⟨sa,1,none⟩ u1).setCell ⟨sa,2,none⟩ u2).setCell ⟨sa,3,none⟩ u3).setCell ⟨sa,4,none⟩ u4).setCell ⟨sa,5,none⟩ u5).setCell ⟨sa,6,none⟩ u6).setCell ⟨sa,7,none⟩ u7).setCell ⟨sa,8,none⟩ u8).setCell ⟨sa,9,none⟩ u9).setCell ⟨sa,10,none⟩ u10).setCell ⟨sa,11,none⟩ u11).heap[sa]?=some (.cells #[u0,u1,u2,u3,u4,u5,u6,u7,u8,u9,u10,u11] 202 (0,0)):=by
  have e:=heap_setCell_same _ sa 11 _ _ u11 h10
  simpa using e
 exact h11
theorem fill_own {base:Nat} {f:FuncM} {v1:Vals} (h:OwnG w base (rowOf f v1) v1 (EE f f.blocks.length)) (hno:∀ t,EE f f.blocks.length t → (v1 t).ownBlock ≠ some sa):OwnG ((((((((((((w.setCell ⟨sa,0,none⟩ u0).setCell ⟨sa,1,none⟩ u1).setCell ⟨sa,2,none⟩ u2).setCell ⟨sa,3,none⟩ u3).setCell ⟨sa,4,none⟩ u4).setCell ⟨sa,5,none⟩ u5).setCell ⟨sa,6,none⟩ u6).setCell ⟨sa,7,none⟩ u7).setCell ⟨sa,8,none⟩ u8).setCell ⟨sa,9,none⟩ u9).setCell ⟨sa,10,none⟩ u10).setCell ⟨sa,11,none⟩ u11) base (rowOf f v1) v1 (EE f f.blocks.length) :=
 (OwnG.other (OwnG.other (OwnG.other (OwnG.other (OwnG.other (OwnG.other (OwnG.other (OwnG.other (OwnG.other (OwnG.other (OwnG.other (OwnG.other h hno) hno) hno) hno) hno) hno) hno) hno) hno) hno) hno) hno)
theorem fill_below {B:Nat} {a:World} (h:Below B a w) (hsa:B ≤ sa):Below B a ((((((((((((w.setCell ⟨sa,0,none⟩ u0).setCell ⟨sa,1,none⟩ u1).setCell ⟨sa,2,none⟩ u2).setCell ⟨sa,3,none⟩ u3).setCell ⟨sa,4,none⟩ u4).setCell ⟨sa,5,none⟩ u5).setCell ⟨sa,6,none⟩ u6).setCell ⟨sa,7,none⟩ u7).setCell ⟨sa,8,none⟩ u8).setCell ⟨sa,9,none⟩ u9).setCell ⟨sa,10,none⟩ u10).setCell ⟨sa,11,none⟩ u11) :=
 (Below.setCell (Below.setCell (Below.setCell (Below.setCell (Below.setCell (Below.setCell (Below.setCell (Below.setCell (Below.setCell (Below.setCell (Below.setCell (Below.setCell h hsa _) hsa _) hsa _) hsa _) hsa _) hsa _) hsa _) hsa _) hsa _) hsa _) hsa _) hsa _)
end
end Go.Proofs.YtaehbgppfahdeaaGreat

namespace Go.Proofs.YtaehbgppfahdeaaGreat
open Go.RowKit Go.Maps
structure ShapedS (f:FuncM) (W wx:World) (sa:Nat) (P A Al P1 A1 A5:Option Addr) (pc c cl gp pc1 c1 n5 c5 base:Nat) (nx:Int) (v1:Vals):Prop where
 box:wx.heap[sa]?=some (.cells #[.slice P f.params.length pc,.int .i64 f.arrays,.int .i64 f.cells,.slice A f.blocks.length c,.slice Al 0 cl,.slice A5 n5 c5,.slice (some ⟨gp,0,none⟩) f.blocks.length f.blocks.length,.slice P1 f.params.length pc1,.int .i64 f.arrays,.int .i64 f.cells,.slice A1 f.blocks.length c1,.int .i64 nx] 202 (0,0))
 e1:v1 .params=.slice P1 f.params.length pc1
 e2:v1 .blocks=.slice A1 f.blocks.length c1
 own:OwnG wx base (rowOf f v1) v1 (EE f f.blocks.length)
 base_:W.heap.size ≤ base
 below:Below W.heap.size W wx
def ShapedPost (f:FuncM) (w:World) (e:Ending) (w':World):Prop :=
 ∃ (v1:Vals) (base:Nat) (P:Option Addr) (pc:Nat) (A:Option Addr) (c:Nat),e=.returned (.agg #[.slice P f.params.length pc,.int .i64 f.arrays,.int .i64 f.cells,.slice A f.blocks.length c]) ∧ v1 .params=.slice P f.params.length pc ∧ v1 .blocks=.slice A f.blocks.length c ∧ OwnG w' base (rowOf f v1) v1 (EE f f.blocks.length) ∧ w.heap.size ≤ base ∧ Below w.heap.size w w'
set_option maxRecDepth 100000 in
set_option maxHeartbeats 1000000 in
theorem shapedNone_any (f:FuncM) (B lo gp pc c cl n5 c5:Nat) (P A Al A5:Option Addr) (vs:List Value) (w:World) (hpv:Ints w B (.slice P f.params.length pc) f.params) (hbv:BlocksR w B (.slice A f.blocks.length c) f.blocks) (hB:B ≤ w.heap.size) (hN:Lists w lo gp f.blocks.length vs (predsAt f.blocks f.blocks.length f.blocks.length 0)) (hid:∀ u ∈ usesM f,I64 u.1) (hr:∀ x ∈ idsOut f,0 ≤ x ∧ x ≤ 1048575) (h0:(lookM f).1=0) (hf:FnFits f) (hone:f.blocks.length=1) (hpr:predsTo f.blocks f.blocks.length 0=[]) :
  Calls Tryz.prog 82 #[.agg #[.slice P f.params.length pc,.int .i64 f.arrays,.int .i64 f.cells,.slice A f.blocks.length c,.slice Al 0 cl,.slice A5 n5 c5,.slice (some ⟨gp,0,none⟩) f.blocks.length f.blocks.length]] w (ShapedPost f w):=by
 obtain ⟨W,hW⟩:∃ W:World,W=(w.alloc (.cells #[.slice P f.params.length pc,.int .i64 f.arrays,.int .i64 f.cells,.slice A f.blocks.length c,.slice Al 0 cl,.slice A5 n5 c5,.slice (some ⟨gp,0,none⟩) f.blocks.length f.blocks.length] 83)).alloc (.cells #[.slice none 0 0,.int .i64 0,.int .i64 0,.slice none 0 0] 25):=⟨_,rfl⟩
 have HB0:Hid (Below w.heap.size w W):=by show Below _ _ _;rw [hW];exact ((Below.refl _ w).alloc (Nat.le_refl _) _).alloc (by simp) _
 have hx1:W.heap[w.heap.size]?=some (.cells #[.slice P f.params.length pc,.int .i64 f.arrays,.int .i64 f.cells,.slice A f.blocks.length c,.slice Al 0 cl,.slice A5 n5 c5,.slice (some ⟨gp,0,none⟩) f.blocks.length f.blocks.length] 83 (0,0)):=by
  rw [hW,Below.heap_alloc _ _ _ (by simp)]
  exact heap_alloc_new w _
 have hx2:W.heap[w.heap.size + 1]?=some (.cells #[.slice none 0 0,.int .i64 0,.int .i64 0,.slice none 0 0] 25 (0,0)):=by
  rw [hW]
  have:=heap_alloc_new (w.alloc (.cells #[.slice P f.params.length pc,.int .i64 f.arrays,.int .i64 f.cells,.slice A f.blocks.length c,.slice Al 0 cl,.slice A5 n5 c5,.slice (some ⟨gp,0,none⟩) f.blocks.length f.blocks.length] 83)) (.cells #[.slice none 0 0,.int .i64 0,.int .i64 0,.slice none 0 0] 25)
  simpa using this
 have HX1:=hideI hx1
 have HX2:=hideI hx2
 have hwW:w.heap.size + 1 < W.heap.size:=lt_of_heap hx2
 have hBW:B ≤ W.heap.size:=Nat.le_trans hB HB0.out.size
 have hk:Keeps B w W:=Keeps.of_below (HB0.out.mono hB)
 have HNW:=hideI (hN.kept HB0.out)
 obtain ⟨vp,hp1,hgp,hp2⟩:=preds_list HNW.out (by omega:0 < f.blocks.length) (by omega)
 rw [hpr] at hp2
 obtain ⟨Ap,cp,hvp,_,_⟩:=hp2
 have hvp':vp=.slice Ap 0 cp:=hvp
 subst hvp'
 have HP1:=hideI hp1
 have HCH:Hid (∀ W',Below W.heap.size W W' → Calls Tryz.prog 134 #[.agg #[.slice P f.params.length pc,.int .i64 f.arrays,.int .i64 f.cells,.slice A f.blocks.length c]] W' (ChangedPost f W')):=fun W' hW' =>
  changed_any f B _ _ W' ((hpv.keeps hk).keeps (Keeps.of_below (hW'.mono hBW))) ((hbv.keeps hk).keeps (Keeps.of_below (hW'.mono hBW))) (Nat.le_trans hBW hW'.size) hid hr h0 hf
 have HS:Hid (∀ W':World,Below W.heap.size W W' → W'.cell? ⟨w.heap.size,0,none⟩=some (.slice P f.params.length pc) ∧ W'.cell? ⟨w.heap.size,1,none⟩=some (.int .i64 f.arrays) ∧ W'.cell? ⟨w.heap.size,2,none⟩=some (.int .i64 f.cells) ∧ W'.cell? ⟨w.heap.size,3,none⟩=some (.slice A f.blocks.length c) ∧ W'.cell? ⟨w.heap.size,4,none⟩=some (.slice Al 0 cl) ∧ W'.cell? ⟨w.heap.size,5,none⟩=some (.slice A5 n5 c5) ∧ W'.cell? ⟨w.heap.size,6,none⟩=some (.slice (some ⟨gp,0,none⟩) f.blocks.length f.blocks.length)):=fun W' hW' => by
  have hq:=row_cells ((hW'.block _ (by omega)).trans HX1.out) rfl
  exact ⟨hq 0,hq 1,hq 2,hq 3,hq 4,hq 5,hq 6⟩
 have hS0:=HS.out W (Below.refl _ _)
 have HBD:Hid (Below W.heap.size W W.drew):=by
  have h:=Below.refl W.heap.size W
  exact ⟨h.os,h.tape,h.output,h.size,h.block⟩
 have HW0:=hideI hW
 have HONE:=hideI hone
 have HSM:=hideI (look_small h0)
 clear hx1 hx2 hk hid hr h0 hf hW hN hpv hbv hpr hp1 hvp hone
 go_enter Tryz.func82,Tryz.ntmps82
 go_upto_region 1 with fail
 rw [← HW0.out]
 go_cut [3] (fun s3 wx => ∃ (sa:Nat) (v1:Vals) (base:Nat) (P1:Option Addr) (pc1:Nat) (A1:Option Addr) (c1:Nat) (nx:Int),s3=.pointer (some ⟨sa,0,none⟩) ∧ Hid (ShapedS f W wx sa P A Al P1 A1 A5 pc c cl gp pc1 c1 n5 c5 base nx v1))
 case first =>
  refine wp_region_late (by kernel_rfl) (fun W' => W'.cell? ⟨w.heap.size,0,none⟩=some (.slice P f.params.length pc) ∧ W'.cell? ⟨w.heap.size,1,none⟩=some (.int .i64 f.arrays) ∧ W'.cell? ⟨w.heap.size,2,none⟩=some (.int .i64 f.cells) ∧ W'.cell? ⟨w.heap.size,3,none⟩=some (.slice A f.blocks.length c) ∧ W'.cell? ⟨w.heap.size,4,none⟩=some (.slice Al 0 cl) ∧ W'.cell? ⟨w.heap.size,5,none⟩=some (.slice A5 n5 c5) ∧ W'.cell? ⟨w.heap.size,6,none⟩=some (.slice (some ⟨gp,0,none⟩) f.blocks.length f.blocks.length)) [6] ?_
  refine wpAnyT_take [6] (i:=0) (v:=?_) rfl (by kernel_rfl) (by kernel_rfl) (by kernel_rfl) (by kernel_rfl) (by kernel_rfl) (by kernel_rfl) (fun _ _ _ h => h) hS0 (Or.inl ⟨by rfl,?_⟩) ?_
  rotate_left
  ·(intro w hSw;go_split_ands;go_simp;try with_reducible rfl)
  try simp only [Act.put,List.setIfInBounds_toArray,List.set_cons_zero,List.set_cons_succ]
  refine wpAnyT_quiet (i:=1) (v:=?_) rfl (by kernel_rfl) (by kernel_rfl) (by kernel_rfl) (fun _ _ _ h => h) (Or.inl ⟨by rfl,?_⟩) ?_
  rotate_left
  ·(intro w;go_simp;try with_reducible rfl)
  try simp only [Act.put,List.setIfInBounds_toArray,List.set_cons_zero,List.set_cons_succ]
  refine wpAnyT_take [6] (i:=2) (v:=?_) rfl (by kernel_rfl) (by kernel_rfl) (by kernel_rfl) (by kernel_rfl) (by kernel_rfl) (by kernel_rfl) (fun _ _ _ h => h) hS0 (Or.inl ⟨by rfl,?_⟩) ?_
  rotate_left
  ·(intro w hSw;go_split_ands;go_simp;try with_reducible rfl)
  try simp only [Act.put,List.setIfInBounds_toArray,List.set_cons_zero,List.set_cons_succ]
  refine wpAnyT_ready (rs:=[3,5]) (by kernel_rfl) (by simp) ?_
  refine AllReadyT.cons rfl (fun K hK => ?_) (AllReadyT.cons rfl (fun K hK => ?_) AllReadyT.nil)
  ·go_simp
   refine (HCH.out _ HBD.out).mono ?_
   rintro e x1 ⟨v1,base,P1,pc1,A1,c1,nx,rfl,e1,e2,ho,hlo,hb1⟩
   have HX1:Hid (Below W.heap.size W x1):=hideI (HBD.out.trans (hb1.mono HBD.out.size))
   have HY1:=hideI hb1
   have HE1:=hideI e1
   have HE2:=hideI e2
   have HO1:=hideI ho
   have HLO:=hideI hlo
   have HBB:Hid (W.heap.size ≤ W.drew.heap.size):=hideI HBD.out.size
   clear e1 e2 ho hlo hb1
   refine hK.out _ _ (fun _ _ => HS.out _ HX1.out) ?_
   clear hK K
   try simp only [Act.put,List.setIfInBounds_toArray,List.set_cons_zero,List.set_cons_succ]
   refine wpAnyT_quiet (i:=4) (v:=?_) rfl (by kernel_rfl) (by kernel_rfl) (by kernel_rfl) (fun _ _ _ h => h) (Or.inl ⟨by rfl,?_⟩) ?_
   rotate_left
   ·(intro w;go_simp;try with_reducible rfl)
   try simp only [Act.put,List.setIfInBounds_toArray,List.set_cons_zero,List.set_cons_succ]
   refine wpAnyT_ready (rs:=[5]) (by kernel_rfl) (by simp) ?_
   refine AllReadyT.cons rfl (fun K hK => ?_) AllReadyT.nil
   go_simp
   refine hK.out _ _ (fun _ _ => HS.out _ (HX1.out.alloc HX1.out.size _)) ?_
   clear hK K
   try simp only [Act.put,List.setIfInBounds_toArray,List.set_cons_zero,List.set_cons_succ]
   refine wpAnyT_ready (rs:=[6]) (by kernel_rfl) (by simp) ?_
   refine AllReadyT.cons rfl (fun K hK => ?_) AllReadyT.nil
   go_simp
   refine hK.out _ _ (fun h => absurd (by simp) h) ?_
   clear hK K
   try simp only [Act.put,List.setIfInBounds_toArray,List.set_cons_zero,List.set_cons_succ]
   refine wpAnyT_done (by kernel_rfl) ?_ _
   go_wp2_with fail
   go_meet
   exact ⟨x1.heap.size,v1,base,P1,pc1,A1,c1,nx,rfl,hideI ⟨heap_alloc_new x1 _,HE1.out,HE2.out,OwnG.below HO1.out ((Below.refl _ x1).alloc (Nat.le_refl _) _),Nat.le_trans HBD.out.size HLO.out,Below.alloc HX1.out HX1.out.size _⟩⟩
  ·have hdw:W.drew.heap.size=W.heap.size:=rfl
   go_simp
   refine hK.out _ _ (fun _ _ => HS.out _ (HBD.out.alloc HBD.out.size _)) ?_
   clear hK K
   try simp only [Act.put,List.setIfInBounds_toArray,List.set_cons_zero,List.set_cons_succ]
   refine wpAnyT_ready (rs:=[3]) (by kernel_rfl) (by simp) ?_
   refine AllReadyT.cons rfl (fun K hK => ?_) AllReadyT.nil
   go_simp
   refine (HCH.out _ (HBD.out.alloc HBD.out.size _)).mono ?_
   rintro e x1 ⟨v1,base,P1,pc1,A1,c1,nx,rfl,e1,e2,ho,hlo,hb1⟩
   have HX1:Hid (Below W.heap.size W x1):=hideI ((HBD.out.alloc HBD.out.size _).trans (hb1.mono (by simp)))
   have HY1:=hideI hb1
   have HE1:=hideI e1
   have HE2:=hideI e2
   have HO1:=hideI ho
   have HLO:=hideI hlo
   have HBB:=hideI (HBD.out.alloc HBD.out.size (.cells #[.slice none 0 0,.int .i64 0,.int .i64 0,.slice none 0 0,.slice none 0 0,.slice none 0 0,.slice none 0 0,.slice none 0 0,.int .i64 0,.int .i64 0,.slice none 0 0,.int .i64 0] 202)).size
   clear e1 e2 ho hlo hb1
   refine hK.out _ _ (fun _ _ => HS.out _ HX1.out) ?_
   clear hK K
   try simp only [Act.put,List.setIfInBounds_toArray,List.set_cons_zero,List.set_cons_succ]
   refine wpAnyT_quiet (i:=4) (v:=?_) rfl (by kernel_rfl) (by kernel_rfl) (by kernel_rfl) (fun _ _ _ h => h) (Or.inl ⟨by rfl,?_⟩) ?_
   rotate_left
   ·(intro w;go_simp;try with_reducible rfl)
   try simp only [Act.put,List.setIfInBounds_toArray,List.set_cons_zero,List.set_cons_succ]
   refine wpAnyT_ready (rs:=[6]) (by kernel_rfl) (by simp) ?_
   refine AllReadyT.cons rfl (fun K hK => ?_) AllReadyT.nil
   have hs1:=HX1.out.size
   have hs12:=HY1.out.size
   simp at hs12
   have HOX:=HO1
   have hz:x1.heap[W.heap.size]?=some (.cells #[.slice none 0 0,.int .i64 0,.int .i64 0,.slice none 0 0,.slice none 0 0,.slice none 0 0,.slice none 0 0,.slice none 0 0,.int .i64 0,.int .i64 0,.slice none 0 0,.int .i64 0] 202 (0,0)):=(HY1.out.block _ (by simp)).trans (heap_alloc_new W.drew (.cells #[.slice none 0 0,.int .i64 0,.int .i64 0,.slice none 0 0,.slice none 0 0,.slice none 0 0,.slice none 0 0,.slice none 0 0,.int .i64 0,.int .i64 0,.slice none 0 0,.int .i64 0] 202))
   have hns:=row_cells hz rfl
   have n0:=hns 0
   have n1:=hns 1
   have n2:=hns 2
   have n3:=hns 3
   have n4:=hns 4
   have n5:=hns 5
   have n6:=hns 6
   have n7:=hns 7
   have n8:=hns 8
   have n9:=hns 9
   have n10:=hns 10
   have n11:=hns 11
   have fr:=free_rowN hz rfl
   have f0:=fr 0
   have f1:=fr 1
   have f2:=fr 2
   have f3:=fr 3
   have f4:=fr 4
   have f5:=fr 5
   have f6:=fr 6
   have f7:=fr 7
   have f8:=fr 8
   have f9:=fr 9
   have f10:=fr 10
   have f11:=fr 11
   have HZ:=hideI hz
   clear hns fr hz
   go_simp
   refine hK.out _ _ (fun h => absurd (by simp) h) ?_
   clear hK K
   try simp only [Act.put,List.setIfInBounds_toArray,List.set_cons_zero,List.set_cons_succ]
   clear n0 f0 n1 f1 n2 f2 n3 f3 n4 f4 n5 f5 n6 f6 n7 f7 n8 f8 n9 f9 n10 f10 n11 f11
   refine wpAnyT_done (by kernel_rfl) ?_ _
   go_wp2_with fail
   go_meet
   have hno:∀ t,EE f f.blocks.length t → (v1 t).ownBlock ≠ some (W.heap.size):=fun t ht e => by
    have h1:=HOX.out.lt ht e
    have h2:=HLO.out;simp at h2;omega
   have hsa:W.heap.size ≤ W.heap.size:=by omega
   exact ⟨W.heap.size,v1,base,P1,pc1,A1,c1,nx,rfl,hideI ⟨(fill_row HZ.out),HE1.out,HE2.out,(fill_own HO1.out hno),Nat.le_trans HBB.out HLO.out,(fill_below HX1.out hsa)⟩⟩
 case rest =>
  obtain ⟨sa,v1,base,P1,pc1,A1,c1,nx,rfl,HSX⟩:=hcut
  clear hS0
  obtain ⟨wx,rfl⟩:∃ wx:World,wx=wc:=⟨_,rfl⟩
  obtain ⟨q0,q1,q2,q3,q4,q5,q6⟩:=HS.out wx HSX.out.below
  go_wp2
  clear q0 q1 q2 q3 q4 q5 q6
  go_loopw [16] (fun u wr => ∃ k:Nat,k ≤ 1 ∧ u=.int .i64 k ∧ Hid (Below wx.heap.size wx wr)) (fun u _ => 1 - (intOf u).toNat)
  case atStart => exact ⟨0,Nat.zero_le _,rfl,hideI (Below.refl _ _)⟩
  case round =>
   obtain ⟨k,hk,rfl,HBr⟩:=hrel
   have hbw:Below W.heap.size W wr:=HSX.out.below.trans (HBr.out.mono HSX.out.below.size)
   have HBW:=hideI hbw
   obtain ⟨q0,q1,q2,q3,q4,q5,q6⟩:=HS.out wr hbw
   by_cases hk0:k=0
   ·subst hk0
    have HN1:=hideI (idxNone_any Al cl (.func (.func 135) #[] #[.pointer (some ⟨wr.heap.size,0,none⟩)]) (wr.alloc (.cells #[.int .i64 0] 3)))
    have hn1:(0:Int) < (f.blocks.length:Int):=by have:=HONE.out;omega
    have hn1':0 < f.blocks.length:=by have:=HONE.out;omega
    clear q0 q1 q2 q3 q4 q5 q6
    obtain ⟨q0,q1,q2,q3,q4,q5,q6⟩:=HS.out (wr.alloc (.cells #[.int .i64 0] 3)) (hbw.alloc hbw.size _)
    go_upto_region 8 with (go_at_call 40;refine HN1.out.mono ?_;rintro e w3 ⟨rfl,rfl⟩)
    clear q0 q1 q2 q3 q4 q5 q6
    have HS8:Hid (∀ W':World,Below (wr.alloc (.cells #[.int .i64 0] 3)).heap.size (wr.alloc (.cells #[.int .i64 0] 3)) W' → W'.cell? ⟨wr.heap.size,0,none⟩=some (.int .i64 0) ∧ W'.cell? ⟨w.heap.size,6,none⟩=some (.slice (some ⟨gp,0,none⟩) f.blocks.length f.blocks.length) ∧ W'.cell? ⟨gp,0,none⟩=some (.slice Ap 0 cp)):=fun W' hW' => by
     have hb1:Below wr.heap.size wr W':=((Below.refl _ wr).alloc (Nat.le_refl _) (.cells #[.int .i64 0] 3)).trans (hW'.mono (by simp))
     have hb2:Below W.heap.size W W':=HBW.out.trans (hb1.mono HBW.out.size)
     have hq:=row_cells ((hb2.block _ (by omega)).trans HX1.out) rfl
     have hc:=row_cells ((hW'.block wr.heap.size (by simp)).trans (heap_alloc_new wr (.cells #[.int .i64 0] 3))) rfl
     exact ⟨hc 0,hq 6,(hb2.cell (p:=⟨gp,0,none⟩) hgp).trans HP1.out⟩
    have hS0:=HS8.out _ (Below.refl _ _)
    refine wp_region_late (by kernel_rfl) (fun W' => W'.cell? ⟨wr.heap.size,0,none⟩=some (.int .i64 0) ∧ W'.cell? ⟨w.heap.size,6,none⟩=some (.slice (some ⟨gp,0,none⟩) f.blocks.length f.blocks.length) ∧ W'.cell? ⟨gp,0,none⟩=some (.slice Ap 0 cp)) [] ?_
    refine wpAnyT_take [] (i:=0) (v:=?_) rfl (by kernel_rfl) (by kernel_rfl) (by kernel_rfl) (by kernel_rfl) (by kernel_rfl) (by kernel_rfl) (fun _ _ _ h => h) hS0 (Or.inl ⟨by rfl,?_⟩) ?_
    rotate_left
    ·(intro w hSw;go_split_ands;go_simp;try with_reducible rfl)
    try simp only [Act.put,List.setIfInBounds_toArray,List.set_cons_zero,List.set_cons_succ]
    refine wpAnyT_quiet (i:=1) (v:=?_) rfl (by kernel_rfl) (by kernel_rfl) (by kernel_rfl) (fun _ _ _ h => h) (Or.inl ⟨by rfl,?_⟩) ?_
    rotate_left
    ·(intro w;go_simp;try with_reducible rfl)
    try simp only [Act.put,List.setIfInBounds_toArray,List.set_cons_zero,List.set_cons_succ]
    refine wpAnyT_take [] (i:=2) (v:=?_) rfl (by kernel_rfl) (by kernel_rfl) (by kernel_rfl) (by kernel_rfl) (by kernel_rfl) (by kernel_rfl) (fun _ _ _ h => h) hS0 (Or.inl ⟨by rfl,?_⟩) ?_
    rotate_left
    ·(intro w hSw;go_split_ands;go_simp;try with_reducible rfl)
    try simp only [Act.put,List.setIfInBounds_toArray,List.set_cons_zero,List.set_cons_succ]
    refine wpAnyT_take [] (i:=3) (v:=?_) rfl (by kernel_rfl) (by kernel_rfl) (by kernel_rfl) (by kernel_rfl) (by kernel_rfl) (by kernel_rfl) (fun _ _ _ h => h) hS0 (Or.inl ⟨by rfl,?_⟩) ?_
    rotate_left
    ·(intro w hSw;go_split_ands;go_simp;try with_reducible rfl)
    try simp only [Act.put,List.setIfInBounds_toArray,List.set_cons_zero,List.set_cons_succ]
    refine wpAnyT_quiet (i:=4) (v:=?_) rfl (by kernel_rfl) (by kernel_rfl) (by kernel_rfl) (fun _ _ _ h => h) (Or.inl ⟨by rfl,?_⟩) ?_
    rotate_left
    ·(intro w;go_simp;try with_reducible rfl)
    try simp only [Act.put,List.setIfInBounds_toArray,List.set_cons_zero,List.set_cons_succ]
    refine wpAnyT_take [] (i:=5) (v:=?_) rfl (by kernel_rfl) (by kernel_rfl) (by kernel_rfl) (by kernel_rfl) (by kernel_rfl) (by kernel_rfl) (fun _ _ _ h => h) hS0 (Or.inl ⟨by rfl,?_⟩) ?_
    rotate_left
    ·(intro w hSw;go_split_ands;go_simp;try with_reducible rfl)
    try simp only [Act.put,List.setIfInBounds_toArray,List.set_cons_zero,List.set_cons_succ]
    refine wpAnyT_ready (rs:=[6]) (by kernel_rfl) (by simp) ?_
    refine AllReadyT.cons rfl (fun K hK => ?_) ?_
    ·-- 6 call 137
     go_simp
     refine (partsNone_any Ap cp _ 0 (wr.alloc (.cells #[.int .i64 0] 3)).drew).mono ?_
     rintro e w3 ⟨cl3,rfl,hm3,hb3d⟩
     have HM3:=hideI hm3
     have HB3:Hid (Below wr.heap.size wr w3):=hideI (((Below.refl _ wr).alloc (Nat.le_refl _) (.cells #[.int .i64 0] 3)).trans (Below.mono (⟨hb3d.os,hb3d.tape,hb3d.output,hb3d.size,hb3d.block⟩:Below (wr.alloc (.cells #[.int .i64 0] 3)).heap.size (wr.alloc (.cells #[.int .i64 0] 3)) w3) (by simp)))
     have HB3a:Hid (Below (wr.alloc (.cells #[.int .i64 0] 3)).heap.size (wr.alloc (.cells #[.int .i64 0] 3)) w3):=hideI ⟨hb3d.os,hb3d.tape,hb3d.output,hb3d.size,hb3d.block⟩
     clear hm3 hb3d
     refine hK.out _ _ (fun _ _ => HS8.out _ HB3a.out) ?_
     clear hK K
     try simp only [Act.put,List.setIfInBounds_toArray,List.set_cons_zero,List.set_cons_succ]
     refine wpAnyT_quiet (i:=7) (v:=?_) rfl (by kernel_rfl) (by kernel_rfl) (by kernel_rfl) (fun _ _ _ h => h) (Or.inl ⟨by rfl,?_⟩) ?_
     rotate_left
     ·(intro w;go_simp;try with_reducible rfl)
     try simp only [Act.put,List.setIfInBounds_toArray,List.set_cons_zero,List.set_cons_succ]
     refine wpAnyT_done (by kernel_rfl) ?_ _
     have hm3:w3.heap[wr.heap.size + 1]?=some (.map #[] cl3):=by have h:=HM3.out;simpa using h
     have hlen:∀ ty,(Builtin.len_ #[110] ty #[.map (some (wr.heap.size + 1))]).run Tryz.prog w3=.ok (.int .i64 0) w3:=fun ty => run_len_map (P:=Tryz.prog) w3 110 ty (wr.heap.size + 1) #[] cl3 (by kernel_rfl) hm3
     go_wp2_with fail
     go_roundw
     case rel => exact ⟨1,Nat.le_refl _,by go_num,HBr.out.trans (HB3.out.mono HBr.out.size)⟩
     case measure => simp [intOf]
    ·exact AllReadyT.nil
   ·have hk1:k=1:=by omega
    subst hk1
    clear q0 q1 q2 q3 q4 q5 q6
    have hsa:=row_cells ((HBr.out.block _ (lt_of_heap HSX.out.box)).trans HSX.out.box) rfl
    have s7:=hsa 7
    have s8:=hsa 8
    have s9:=hsa 9
    have s10:=hsa 10
    have hx2:=(hbw.block _ hwW).trans HX2.out
    have hns:=row_cells hx2 rfl
    have n0:=hns 0
    have n1:=hns 1
    have n2:=hns 2
    have n3:=hns 3
    have fr:=free_rowN hx2 rfl
    have f0:=fr 0
    have f1:=fr 1
    have f2:=fr 2
    have f3:=fr 3
    clear hsa hns fr hx2 hk0 hbw
    have hn1:¬ ((1:Int) < (f.blocks.length:Int)):=by have:=HONE.out;omega
    have hn1':¬ (1 < f.blocks.length):=by have:=HONE.out;omega
    go_wp2
    have hno:∀ t,EE f f.blocks.length t → (v1 t).ownBlock ≠ some (w.heap.size + 1):=fun t ht e => by
     have h1:=HSX.out.own.lt ht e
     have h2:=HSX.out.base_
     omega
    refine bodyPost_ret (v:=.agg #[.slice P1 f.params.length pc1,.int .i64 f.arrays,.int .i64 f.cells,.slice A1 f.blocks.length c1]) (by simp [results,Tryz.results82,go_sem,n0,n1,n2,n3]) rfl ⟨v1,base,P1,pc1,A1,c1,rfl,HSX.out.e1,HSX.out.e2,?_,Nat.le_trans HB0.out.size HSX.out.base_,?_⟩
    ·exact (((OwnG.other (HSX.out.own.below HBr.out) hno).other hno).other hno).other hno
    ·exact ((((HB0.out.trans (HBW.out.mono HB0.out.size)).setCell (by simp) _).setCell (by simp) _).setCell (by simp) _).setCell (by simp) _
end Go.Proofs.YtaehbgppfahdeaaGreat

namespace Go.Proofs.YtaehbgppfahdeaaGreat
open Go.RowKit
theorem append_none (w:World) (g c ty:Nat) (_hpure:Sem.run Tryz.prog (pure (#[]:Array Value)) w=.ok #[] w):(Builtin.append_ #[22,22] ty #[.slice (some ⟨g,0,none⟩) 0 0,.slice none 0 c]).run Tryz.prog w=.ok (.slice (some ⟨g,0,none⟩) 0 0) w:=by
 go_simp
set_option maxRecDepth 100000 in
theorem run_copy (w:World) (B g ty:Nat) (v:Value) (xs:List Int) (hi:Ints w B v xs) (hg:w.heap[g]?=some (.cells #[] 3 (0,0))) (hn:xs.length ≤ 100000) (base:Nat) (hb:base ≤ g) :
  ∃ A' c' w',(Builtin.append_ #[22,22] ty #[.slice (some ⟨g,0,none⟩) 0 0,v]).run Tryz.prog w=.ok (.slice A' xs.length c') w' ∧ w'.ownsRow base 3 1 (.slice A' xs.length c') xs.length (xs.map (Value.int .i64)) ∧ w.grownBy w' (some g) ∧
   (∀ k,(Value.slice A' xs.length c').ownBlock=some k → k=g ∨ k=w.heap.size):=by
 have hgl:g < w.heap.size:=(Array.getElem?_eq_some_iff.1 hg).1
 have hown0:w.ownsRow base 3 1 (.slice (some ⟨g,0,none⟩) 0 0) 0 []:=⟨rfl,.inr ⟨g,0,#[],rfl,hb,hg,Nat.le_refl _,by unfold maxLen;omega,rfl,rfl⟩⟩
 obtain ⟨A,c,rfl,_,hat⟩:=hi
 cases A with
 | none =>
  have h0:xs.length=0:=by
   rcases Nat.eq_zero_or_pos xs.length with h | h
   ·exact h
   ·obtain ⟨_,_,e,_⟩:=hat 0 h
    cases e
  have hx:xs=[]:=List.eq_nil_of_length_eq_zero h0
  subst hx
  exact ⟨_,_,w,append_none w g c ty rfl,hown0,World.grownBy.refl w (some g),fun k hk => .inl (by simpa [Value.ownBlock] using hk.symm)⟩
 | some ad =>
  obtain ⟨i0,hix,hz0,hz1,hz2⟩:=info_parts int_info
  have hnews:∀ j u,(xs.map (Value.int .i64))[j]?=some u → w.cell? (ad.add j)=some u:=fun j u hu => by
   rw [List.getElem?_map] at hu
   cases hj:xs[j]? with
   | none => rw [hj] at hu;cases hu
   | some y =>
    rw [hj] at hu
    injection hu with hu
    obtain ⟨b,off,e,_,hc⟩:=hat j (List.getElem?_eq_some_iff.1 hj).1
    injection e with e
    subst e
    rw [Go.WideShapes.add_plain,hc,hj,← hu]
    rfl
  obtain ⟨v',w',hr,h2,h3,_,h5⟩:=run_append_own_at (P:=Tryz.prog) w base 22 ty 3 i0 _ 1 8 Tryz.underlying22 hix hz0 hz1 hz2 rfl (by decide) _ 0 [] hown0 ad xs.length c (xs.map (Value.int .i64)) (by simp) hnews (fun u hu => by
   obtain ⟨y,_,rfl⟩:=List.mem_map.1 hu
   rfl) (by unfold maxLen;omega) (by omega) (by omega)
  rw [Nat.zero_add,List.nil_append] at h2
  obtain ⟨A',c',rfl⟩:∃ A' c',v'=.slice A' xs.length c':=by
   rcases h2.2 with ⟨e,e0⟩ | ⟨g2,cap,cur,e,_⟩
   ·exact ⟨none,0,by rw [e,e0]⟩
   ·exact ⟨_,_,e⟩
  refine ⟨A',c',w',hr,h2,h3,fun k hk => ?_⟩
  rcases h5 with h5 | h5
  ·rw [h5] at hk
   exact .inl (by simpa [Value.ownBlock] using hk.symm)
  ·rw [h5] at hk
   exact .inr (by simpa using hk.symm)
theorem wpList_copy {ops:Array Oper} {rest:List Oper} {o:Oper} {a:Act} {Q:Exit → Act → World → Prop} {w:World} (hgd:o.guard=none) (s x:Operand) (ho:o.op=.call { callee:=.builtin .append,args:=#[s,x],argTypes:=#[22,22] })
  (B g:Nat) (v:Value) (xs:List Int) (hs:a.eval s=.slice (some ⟨g,0,none⟩) 0 0) (hx:a.eval x=v) (hi:Ints w B v xs) (hg:w.heap[g]?=some (.cells #[] 3 (0,0))) (hn:xs.length ≤ 100000) (base:Nat) (hb:base ≤ g)
  (h:∀ A' c' w',w'.ownsRow base 3 1 (.slice A' xs.length c') xs.length (xs.map (Value.int .i64)) → w.grownBy w' (some g) → (∀ k,(Value.slice A' xs.length c').ownBlock=some k → k=g ∨ k=w.heap.size) → wpList Tryz.prog ops Q rest (a.put o.dst (.slice A' xs.length c')) w'):wpList Tryz.prog ops Q (o :: rest) a w :=
 wpList_plain hgd fun _ hK => by
  obtain ⟨A',c',w',hr,h1,h2,h3⟩:=run_copy w B g o.type v xs hi hg hn base hb
  unfold Oper.wp execOp
  simp only [ho,resolve,invoke,builtin,Sem.run_bind,Sem.run_pure,Result.andThen_ok,List.map_toArray,List.map_cons,List.map_nil,hs,hx,hr]
  exact hK _ _ (h A' c' w' h1 h2 h3)
end Go.Proofs.YtaehbgppfahdeaaGreat

namespace Go.Proofs.YtaehbgppfahdeaaGreat
open Go.RowKit Go.Maps
def OwnL (w:World) (base:Nat) (v:Value) (l:List Nat):Prop :=
 ∃ A c,v=.slice A l.length c ∧ (l=[] ∨ w.ownsRow base 3 1 v l.length (natInts l))
theorem OwnL.ints {w:World} {base:Nat} {v:Value} {l:List Nat} (h:OwnL w base v l) (hl:l.length ≤ 100000):Ints w w.heap.size v (l.map fun (x:Nat) => (x:Int)):=by
 obtain ⟨A,c,rfl,h⟩:=h
 rcases h with h | h
 ·subst h
  exact ⟨A,c,rfl,by simp,fun k hk => by simp at hk⟩
 ·exact nat_ints h hl
theorem natInts_ints (l:List Nat):natInts l=(l.map fun (x:Nat) => (x:Int)).map (Value.int .i64):=by
 unfold natInts
 rw [List.map_map]
 rfl
set_option maxRecDepth 100000 in
set_option maxHeartbeats 2000000 in
theorem clone_any (l:List Nat) (B:Nat) (v:Value) (w:World) (hv:Ints w B v (l.map fun (x:Nat) => (x:Int))) (hB:B ≤ w.heap.size) (hl:l.length ≤ 100000) :
  Calls Tryz.prog 126 #[v] w fun e w' => ∃ u,e=.returned u ∧ OwnL w' w.heap.size u l ∧ Below w.heap.size w w':=by
 have HV:=hideI hv
 have q22:∀ (w:World) (a:Option Addr) (n c n' c':Nat),(binOp .eql 22 (.slice a n c) (.slice none n' c')).run Tryz.prog w=.ok (.bool a.isNone) w:=fun w a n c n' c' => Lib.run_eql_slice_nil w _ _ a n c n' c' Tryz.underlying22
 obtain ⟨A,c,rfl,hm,hx⟩:=hv
 rw [List.length_map] at hm hx ⊢
 cases A with
 | none =>
  have hnil:l=[]:=by
   cases l with
   | nil => rfl
   | cons y r =>
    obtain ⟨_,_,e,_⟩:=hx 0 (by simp)
    cases e
  subst hnil
  clear hx HV hm
  go_enter Tryz.func126,Tryz.ntmps126
  go_wp2
  go_ret
  exact ⟨_,rfl,⟨none,0,rfl,.inl rfl⟩,Below.refl _ _⟩
 | some ad =>
  rw [show (Value.slice (some ad) (l.map fun (x:Nat) => (x:Int)).length c)=.slice (some ad) l.length c by rw [List.length_map]] at HV
  have HB0:Hid (Below w.heap.size w (w.alloc (.cells #[] 3))):=(Below.refl _ w).alloc (Nat.le_refl _) _
  have HG:=hideI (heap_alloc_new w (.cells #[] 3))
  have hgs:(w.alloc (.cells #[] 3)).heap.size=w.heap.size + 1:=by simp
  clear hx
  go_enter Tryz.func126,Tryz.ntmps126
  go_wp2_with (at_builtin;go_must (refine wpList_copy rfl _ _ rfl B w.heap.size _ (l.map fun (x:Nat) => (x:Int)) rfl rfl (HV.out.keep (HB0.out.mono hB)) HG.out (by rw [List.length_map];omega) w.heap.size (Nat.le_refl _) ?_);intro A' c' w' hown hgr _;rw [List.length_map] at hown;have HO:=hideI hown;have HB1:=hideI (HB0.out.grown hgr (by omega) (fun k hk => by cases hk;exact Nat.le_refl _));clear hown hgr)
  go_ret
  refine ⟨.slice A' l.length c',rfl,⟨A',c',rfl,.inr ?_⟩,HB1.out⟩
  rw [natInts_ints]
  exact HO.out
structure KeptR (p:Nat → Bool) (l r:List Nat) (i j:Nat):Prop where
 len:r.length=l.length
 low:r.take i=(l.take j).filter fun x => !p x
 high:r.drop j=l.drop j
 lt:i < j
 le:j ≤ l.length
section
variable {p:Nat → Bool} {l r:List Nat} {i j k x:Nat}
theorem KeptR.start (hk:l[k]?=some x) (hx:p x=true) (hb:∀ j y,j < k → l[j]?=some y → p y=false):KeptR p l l k (k + 1):=by
 have hkl:=(List.getElem?_eq_some_iff.1 hk).1
 refine ⟨rfl,?_,rfl,by omega,by omega⟩
 rw [List.take_add_one,hk,List.filter_append]
 have h1:(l.take k).filter (fun x => !p x)=l.take k:=by
  rw [List.filter_eq_self]
  intro y hy
  obtain ⟨j,hj⟩:=List.getElem?_of_mem hy
  rw [List.getElem?_take] at hj
  split at hj
  ·rename_i hjk
   rw [hb j y hjk hj]
   rfl
  ·cases hj
 rw [h1]
 simp [hx]
theorem KeptR.keep (h:KeptR p l r i j) (hj:l[j]?=some x) (hx:p x=false):KeptR p l (r.set i x) (i + 1) (j + 1):=by
 have hjl:=(List.getElem?_eq_some_iff.1 hj).1
 have:=h.lt
 have:=h.len
 refine ⟨by rw [List.length_set];exact h.len,?_,?_,by omega,by omega⟩
 ·rw [List.take_add_one,List.take_add_one,hj,List.filter_append,← h.low,List.take_set_of_le (Nat.le_refl _),List.getElem?_set_self (by omega)]
  simp [hx]
 ·rw [List.drop_set_of_lt (by omega)]
  have h1:=congrArg (List.drop 1) h.high
  rwa [List.drop_drop,List.drop_drop] at h1
theorem KeptR.skip (h:KeptR p l r i j) (hj:l[j]?=some x) (hx:p x=true):KeptR p l r i (j + 1):=by
 have hjl:=(List.getElem?_eq_some_iff.1 hj).1
 have:=h.lt
 refine ⟨h.len,?_,?_,by omega,by omega⟩
 ·rw [List.take_add_one,hj,List.filter_append,← h.low]
  simp [hx]
 ·have h1:=congrArg (List.drop 1) h.high
  rwa [List.drop_drop,List.drop_drop] at h1
theorem KeptR.at_ (h:KeptR p l r i j) (hj:l[j]?=some x):r[j]?=some x:=by
 have h1:=congrArg (fun t => t[0]?) h.high
 simpa [List.getElem?_drop,hj] using h1
theorem KeptR.done (h:KeptR p l r i l.length):r.take i=l.filter fun x => !p x:=by
 rw [h.low,List.take_length]
theorem natInts_set (r:List Nat) (i x:Nat):(natInts r).set i (.int .i64 (x:Int))=natInts (r.set i x):=by
 unfold natInts
 rw [List.map_set]
theorem natInts_get (hx:r[i]?=some x):(natInts r)[i]?=some (.int .i64 (x:Int)):=by
 unfold natInts
 rw [List.getElem?_map,hx]
 rfl
end
def DelPost (base:Nat) (l:List Nat) (w:World) (e:Ending) (w':World):Prop :=
 ∃ v,e=.returned v ∧ Ints w' w'.heap.size v (l.map fun (x:Nat) => (x:Int)) ∧ Below base w w'
theorem int_zero (w:World):(zeroValue 3).run Tryz.prog w=.ok (.int .i64 0) w:=by go_simp
set_option maxRecDepth 100000 in
set_option maxHeartbeats 4000000 in
theorem delIn_no (l:List Nat) (base q:Nat) (v:Value) (p:Nat → Bool) (w:World) (hv:OwnL w base v l) (hl:l.length ≤ 512) (hbw:base ≤ w.heap.size) (hp:GivesIn base q l p w) (hall:∀ x ∈ l,p x=false) :
  Calls Tryz.prog 125 #[v,.func (.func 127) #[] #[.pointer (some ⟨q,0,none⟩)]] w (DelPost base l w):=by
 have HI:=hideI (idxIn_any l w.heap.size q v p w (hv.ints (by omega)) (Nat.le_refl _) (hp.later (Below.refl _ _) hbw))
 have HO:=hideI (hv.ints (by omega))
 have HALL:=hideI hall
 obtain ⟨A,c,rfl,_⟩:=hv
 clear hp hall
 go_enter Tryz.func125,Tryz.ntmps125
 go_wp2_with (go_at_call 129;refine HI.out.mono ?_;rintro e w1 ⟨r,rfl,hr,hb⟩;obtain rfl:r=-1:=hr.one (.inl ⟨rfl,HALL.out⟩);have HB:=hideI hb;clear hr hb)
 go_ret
 exact ⟨_,rfl,(HO.out.keep HB.out).more HB.out.size,HB.out.mono hbw⟩
end Go.Proofs.YtaehbgppfahdeaaGreat

namespace Go.Proofs.YtaehbgppfahdeaaGreat
open Go.RowKit Go.Maps
set_option maxRecDepth 100000 in
set_option maxHeartbeats 8000000 in
theorem delIn_some (l:List Nat) (base q g0 n c k0 x0:Nat) (p:Nat → Bool) (w:World) (hv:w.ownsRow base 3 1 (.slice (some ⟨g0,0,none⟩) n c) n (natInts l)) (hn:n=l.length) (hl:n ≤ 512) (hnc:n ≤ c) (hbw:base ≤ w.heap.size) (hp:GivesIn base q l p w) (hk:l[k0]?=some x0) (hx:p x0=true) (hb:∀ j y,j < k0 → l[j]?=some y → p y=false) :
  Calls Tryz.prog 125 #[.slice (some ⟨g0,0,none⟩) n c,.func (.func 127) #[] #[.pointer (some ⟨q,0,none⟩)]] w (DelPost base (l.filter fun x => !p x) w):=by
 have hi:Ints w w.heap.size (.slice (some ⟨g0,0,none⟩) n c) (l.map fun (x:Nat) => (x:Int)):=nat_ints hv (by omega)
 have HI:=hideI (idxIn_any l w.heap.size q _ p w hi (Nat.le_refl _) (hp.later (Below.refl _ _) hbw))
 have HP:=hideI hp
 have HV:=hideI hv
 have HN:=hideI hn
 have HF:Hid (FirstBy p l (k0:Int)):=.inr ⟨k0,x0,rfl,hk,hx,hb⟩
 have HK0:=hideI (KeptR.start hk hx hb)
 have hk0:k0 < n:=by rw [hn];exact (List.getElem?_eq_some_iff.1 hk).1
 have hne:((k0:Int) == -1)=false:=beq_eq_false_iff_ne.2 (by omega)
 have hg0:=hv.lt g0 rfl
 clear hp hk hx hb hi hv hn
 go_enter Tryz.func125,Tryz.ntmps125
 go_wp2_with (go_at_call 129;refine HI.out.mono ?_;rintro e w1 ⟨r,rfl,hr,hb⟩;obtain rfl:=hr.one HF.out;have HB1:=hideI (hb.mono hbw);have HO1:=hideI (own_kept_below HV.out hb (fun k hk => (HV.out.lt k hk).2));clear hr hb)
 go_loopg [5,6,7] n (fun gg s5 s6 _ wr => ∃ (i j:Nat) (r:List Nat),s5=.int .i64 i ∧ s6=.int .i64 j ∧ j ≤ n ∧ i < j ∧ n - j ≤ gg ∧ Hid (KeptR p l r i j) ∧ Hid (wr.ownsRow base 3 1 (.slice (some ⟨g0,0,none⟩) n c) n (natInts r)) ∧ Hid (Below base w wr))
 case atStart => exact ⟨k0,k0 + 1,l,rfl,by go_num,by omega,by omega,by omega,HK0,HO1,HB1⟩
 case round =>
  clear HO1 HB1
  obtain ⟨i,j,r,rfl,rfl,hjn,hij,hgg,HK,HO,HBr⟩:=hrel
  by_cases hlt:j < n
  ·obtain ⟨x,hxj⟩:∃ x,l[j]?=some x:=⟨_,List.getElem?_eq_getElem (by have:=HN.out;omega)⟩
   have hxr:=HK.out.at_ hxj
   have c1:wr.cell? ⟨g0,j,none⟩=some (.int .i64 (x:Int)):=by rw [World.ownsRow.cellAt HO.out j (by omega)];exact natInts_get hxr
   have HC:=hideI (HP.out wr x (List.mem_of_getElem? hxj) HBr.out)
   have HXJ:=hideI hxj
   clear hxj hxr
   cases hq:p x with
   | false =>
    rw [hq] at HC
    have HQ:=hideI hq
    clear hq
    obtain ⟨y,hy⟩:∃ y,r[i]?=some y:=⟨_,List.getElem?_eq_getElem (by have:=HN.out;have:=HK.out.len;omega)⟩
    have HY:=hideI hy
    clear hy
    go_wp2_with (go_at_call 127;refine HC.out.mono ?_;rintro e w2 ⟨rfl,hb⟩;have HO2:=hideI (own_kept_below HO.out hb (fun k hk => (HO.out.lt k hk).2));have HB2:=hideI (HBr.out.trans (hb.mono (Nat.le_trans hbw HBr.out.size)));clear hb c1;have c2:w2.cell? ⟨g0,i,none⟩=some (.int .i64 (y:Int)):=(by rw [World.ownsRow.cellAt HO2.out i (by omega)];exact natInts_get HY.out);have f2:w2.frozen? ⟨g0,i,none⟩=false:=World.ownsRow.frozenAt HO2.out i)
    have HO3:=hideI ((World.ownsRow.stored HO2.out i (.int .i64 (x:Int))).1)
    rw [natInts_set] at HO3
    have HB3:=hideI (HB2.out.setCell (p:=⟨g0,i,none⟩) hg0.1 (.int .i64 (x:Int)))
    go_roundg (n - (j + 1))
    case measure => omega
    case rel => exact ⟨i + 1,j + 1,r.set i x,by go_num,by go_num,by omega,by omega,Nat.le_refl _,HK.out.keep HXJ.out HQ.out,HO3,HB3⟩
   | true =>
    rw [hq] at HC
    have HQ:=hideI hq
    clear hq
    go_wp2_with (go_at_call 127;refine HC.out.mono ?_;rintro e w2 ⟨rfl,hb⟩;have HO2:=hideI (own_kept_below HO.out hb (fun k hk => (HO.out.lt k hk).2));have HB2:=hideI (HBr.out.trans (hb.mono (Nat.le_trans hbw HBr.out.size)));clear hb c1)
    go_roundg (n - (j + 1))
    case measure => omega
    case rel => exact ⟨i,j + 1,r,rfl,by go_num,by omega,by omega,Nat.le_refl _,HK.out.skip HXJ.out HQ.out,HO2,HB2⟩
  ·have hjn':j=n:=by omega
   subst hjn'
   have hcl:∀ ty,(Builtin.clear_ #[22] ty #[.slice (some ⟨g0,i,none⟩) (j - i) (c - i)]).run Tryz.prog wr=.ok (.tuple #[]) (wr.setCells g0 i (List.replicate (j - i) (.int .i64 0))):=fun ty =>
    Lib.run_clear_slice wr _ _ ty _ Tryz.underlying22 int_zero rfl rfl g0 i _ _ (by omega) (fun t ht => by
     obtain ⟨y,hy⟩:∃ y,r[i + t]?=some y:=⟨_,List.getElem?_eq_getElem (by have:=HN.out;have:=HK.out.len;omega)⟩
     rw [World.ownsRow.cellAt HO.out (i + t) (by omega),natInts_get hy]
     rfl) (fun t ht => World.ownsRow.frozenAt HO.out (i + t))
   go_wp2
   go_ret
   have hfl:=HK.out
   rw [show j=l.length from HN.out] at hfl
   have hd:=hfl.done
   have hil:(l.filter fun x => !p x).length=i:=by rw [← hd,List.length_take,hfl.len];have:=HN.out;omega
   have hBB:=_root_.Go.below_setCells hg0.1 (List.replicate (j - i) (Value.int .i64 0)) i wr HBr.out
   refine ⟨.slice (some ⟨g0,0,none⟩) i c,rfl,⟨some ⟨g0,0,none⟩,c,by rw [List.length_map,hil],by rw [List.length_map,hil];omega,fun t ht => ?_⟩,hBB⟩
   have htf:t < (l.filter fun x => !p x).length:=by simpa using ht
   obtain ⟨y,hy⟩:∃ y,r[t]?=some y:=⟨_,List.getElem?_eq_getElem (by have:=HN.out;rw [hfl.len];omega)⟩
   have hfy:(l.filter fun x => !p x)[t]?=some y:=by rw [← hd,List.getElem?_take,if_pos (by omega)];exact hy
   refine ⟨g0,0,rfl,?_,?_⟩
   ·exact Nat.lt_of_lt_of_le hg0.2 hBB.size
   ·rw [World.cell?_setCells_out _ _ _ _ _ (fun _ _ => .inl (by simp;omega)),Nat.zero_add,World.ownsRow.cellAt HO.out t (by omega),natInts_get hy,List.getElem?_map,hfy]
    rfl
theorem delIn_any (l:List Nat) (base q:Nat) (v:Value) (p:Nat → Bool) (w:World) (hv:OwnL w base v l) (hl:l.length ≤ 512) (hbw:base ≤ w.heap.size) (hp:GivesIn base q l p w) :
  Calls Tryz.prog 125 #[v,.func (.func 127) #[] #[.pointer (some ⟨q,0,none⟩)]] w (DelPost base (l.filter fun x => !p x) w):=by
 by_cases hall:∀ x ∈ l,p x=false
 ·have hf:(l.filter fun x => !p x)=l:=by
   rw [List.filter_eq_self]
   intro y hy
   rw [hall y hy]
   rfl
  rw [hf]
  exact delIn_no l base q v p w hv hl hbw hp hall
 ·obtain ⟨k,x,hk,hx,hb⟩:=first_some hall
  obtain ⟨A,c,rfl,h⟩:=hv
  rcases h with h | h
  ·rw [h] at hk;cases hk
  ·have h':=h
   rcases h.2 with ⟨e,e0⟩ | ⟨g,cap,cur,e,_,_,hnc,_⟩
   ·have:=(List.getElem?_eq_some_iff.1 hk).1
    omega
   ·injection e with e1 e2 e3
    subst e1 e3
    exact delIn_some l base q g l.length c k x p w h' rfl hl (by omega) hbw hp hk hx hb
end Go.Proofs.YtaehbgppfahdeaaGreat

namespace Go.Proofs.YtaehbgppfahdeaaGreat
open Go.RowKit Go.Maps
set_option maxRecDepth 100000 in
set_option maxHeartbeats 4000000 in
theorem cEntries_any (bs:List BlockM) (x:LpM) (n lo gp m c:Nat) (A:Option Addr) (vs:List Value) (p0 p1 p2 bv lv lm v2 v3 v4:Value) (w:World) (hN:Lists w lo gp bs.length vs (predsAt bs bs.length bs.length 0)) (hi:Ints w w.heap.size (.slice A m c) (x.blocks.map fun (x:Nat) => (x:Int))) (hm:m=x.blocks.length) (hr:x.blocks.Pairwise (· < ·)) (hl:x.blocks.length ≤ 512) (hn5:n ≤ 512) (hn:n=bs.length) (hh:x.head < n) :
  Calls Tryz.prog 75 #[.agg #[p0,p1,p2,bv,lv,lm,.slice (some ⟨gp,0,none⟩) n n],.agg #[.int .i64 (x.head:Int),.slice A m c,v2,v3,v4]] w (DelPost w.heap.size (entriesM bs x) w):=by
 obtain ⟨W,hW⟩:∃ W,W=(w.alloc (.cells #[p0,p1,p2,bv,lv,lm,.slice (some ⟨gp,0,none⟩) n n] 83)).alloc (.cells #[.int .i64 (x.head:Int),.slice A m c,v2,v3,v4] 88):=⟨_,rfl⟩
 have HBW:Hid (Below w.heap.size w W):=by show Below _ _ _;rw [hW];exact ((Below.refl _ w).alloc (Nat.le_refl _) _).alloc (by simp) _
 have hx1:W.heap[w.heap.size]?=some (.cells #[p0,p1,p2,bv,lv,lm,.slice (some ⟨gp,0,none⟩) n n] 83 (0,0)):=by
  rw [hW,Below.heap_alloc _ _ _ (by simp)]
  exact heap_alloc_new w _
 have hx2:W.heap[w.heap.size + 1]?=some (.cells #[.int .i64 (x.head:Int),.slice A m c,v2,v3,v4] 88 (0,0)):=by
  rw [hW]
  have:=heap_alloc_new (w.alloc (.cells #[p0,p1,p2,bv,lv,lm,.slice (some ⟨gp,0,none⟩) n n] 83)) (.cells #[.int .i64 (x.head:Int),.slice A m c,v2,v3,v4] 88)
  simpa using this
 have hiW:=(hi.keep HBW.out).more HBW.out.size
 have HLB:Hid (LpBox W (w.heap.size + 1) x):=⟨⟨A,c,.int .i64 (x.head:Int),v2,v3,v4,by rw [← hm];exact hx2,by rw [← hm];exact hiW⟩⟩
 have HNW:=hideI (hN.kept HBW.out)
 obtain ⟨v,hv1,hgp,hv2⟩:=preds_list HNW.out (by omega:x.head < bs.length) (by omega)
 have HV2:=hideI hv2
 have HR:=hideI hr
 have HL:=hideI hl
 have HW0:=hideI hW
 have HN:=hideI hn
 have HPL:Hid ((predsTo bs bs.length x.head).length ≤ 512):=Nat.le_trans (predsTo_len _ _ _) (by omega)
 have HCL:=hideI (clone_any (predsTo bs bs.length x.head) W.heap.size v W hv2 (Nat.le_refl _) (by have:=HPL.out;omega))
 have HGI:=hideI (givesIn (base:=W.heap.size) (predsTo bs bs.length x.head) HLB.out hr hl (Nat.le_refl _))
 have hc1:=row_cells hx1 rfl 6
 have hc2:=row_cells hx2 rfl 0
 obtain ⟨hd,hhd⟩:∃ hd,hd=x.head:=⟨_,rfl⟩
 have HHD:=hideI hhd
 rw [← hhd] at hv1 hh hc2 HW0 ⊢
 clear hN hi hm hr hl hn hW hx1 hx2 hiW hv2 hhd
 go_enter Tryz.func75,Tryz.ntmps75
 go_upto_region 1 with fail
 rw [← HW0.out]
 go_wp2_with (first
  | (go_at_call 126;go_must (refine HCL.out.mono ?_);rintro e w1 ⟨u,rfl,ho,hb⟩;have HB1:=hideI hb;have HDE:=hideI (delIn_any (predsTo bs bs.length x.head) W.heap.size (w.heap.size + 1) u _ w1 ho HPL.out hb.size (HGI.out.later hb (Nat.le_refl _)));clear ho hb)
  | (go_at_call 125;go_must (refine HDE.out.mono ?_);rintro e w2 ⟨u2,rfl,hi2,hb2⟩;have HI2:=hideI hi2;have HB2:=hideI (HB1.out.trans hb2);clear hi2 hb2))
 go_ret
 exact ⟨_,rfl,HI2.out,HBW.out.trans (HB2.out.mono HBW.out.size)⟩
end Go.Proofs.YtaehbgppfahdeaaGreat
