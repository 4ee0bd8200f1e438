/- What EditBackUpto rests on, part 14: ENow1, ENow2, EAw1, EAw2, LoopM, LfM, LDom, LLatch, LPend. -/
import Derived.Test.YtaehbgppfahdeaaGreatPkEditBackUpto13
import Derived.BigQuiet
import Derived.Deep.QuietTactic
import Derived.Maps.AppendAt

namespace Go.Proofs.YtaehbgppfahdeaaGreat
open Go.RowKit Go.Maps
def nowM (ds:Defs) (x:Int):Int:=match ds.at x with | some v => v | none => x
def NowAt (w:World) (q qm M:Nat) (ds:Defs):Prop :=
 w.cell? ⟨q,0,none⟩=some (.func (.func 170) #[] #[.pointer (some ⟨qm,0,none⟩)]) ∧ w.cell? ⟨qm,0,none⟩=some (.map (some M)) ∧ MapIs w M ds
theorem NowAt.kept {w w':World} {B q qm M:Nat} {ds:Defs} (h:NowAt w q qm M ds) (hb:Below B w w') (hq:q < B ∧ qm < B ∧ M < B):NowAt w' q qm M ds :=
 ⟨(hb.cell (p:=⟨q,0,none⟩) hq.1).trans h.1,(hb.cell (p:=⟨qm,0,none⟩) hq.2.1).trans h.2.1,h.2.2.below hb hq.2.2⟩
set_option maxHeartbeats 1000000 in
theorem now_any (qm M:Nat) (x:Int) (ds:Defs) (w:World) (h2:w.cell? ⟨qm,0,none⟩=some (.map (some M))) (hm:MapIs w M ds) (hi:I64 x) :
  Calls Tryz.prog 170 #[.int .i64 x,.pointer (some ⟨qm,0,none⟩)] w fun e w' => e=.returned (.int .i64 (nowM ds x)) ∧ w=w':=by
 obtain ⟨D,hown,hD,hwd,hat⟩:=hm
 have hh:=MapIs.has hat x
 have ha:=hat x (.lit (.int .i64 0))
 have HA:=hideI ha
 have HI:=hideI hi
 clear ha hwd hat hi
 cases hd:ds.at x with
 | none =>
  rw [hd] at hh
  have HR:Hid (nowM ds x=x):=hideI (by unfold nowM;rw [hd])
  clear hd
  go_enter Tryz.func170,Tryz.ntmps170
  go_wp2_with (at_lookup;refine wpList_lookup_own_ok_int _ rfl _ _ 127 rfl 3 3 .i64 lawInt Tryz.underlying127 Tryz.underlying3 (zeroInt _) M _ D rfl hown _ _ rfl (keyOf_int_mk Tryz.underlying3 HI.out) ?_;intro c1 hat1 hwc1)
  go_ret
  exact ⟨by rw [HR.out];rfl,rfl⟩
 | some t =>
  rw [hd] at hh
  have HR:Hid (nowM ds x=t):=hideI (by unfold nowM;rw [hd])
  rw [hd] at HA
  clear hd
  go_enter Tryz.func170,Tryz.ntmps170
  go_wp2_with (at_lookup;refine wpList_lookup_own_ok_int _ rfl _ _ 127 rfl 3 3 .i64 lawInt Tryz.underlying127 Tryz.underlying3 (zeroInt _) M _ D rfl hown _ _ rfl (keyOf_int_mk Tryz.underlying3 HI.out) ?_;intro c1 hat1 hwc1;rw [HA.out] at hat1;injection hat1 with hat1;injection hat1 with _ hat1;subst hat1)
  go_ret
  exact ⟨by rw [HR.out];rfl,rfl⟩
set_option maxRecDepth 100000 in
set_option maxHeartbeats 2000000 in
theorem chUseN_any (q qm M g j:Nat) (x:Int) (ds:Defs) (w:World) (hix:I64 x) (hr:NowAt w q qm M ds) (hx:w.cell? ⟨g,j,none⟩=some (.int .i64 x)) (hf:w.frozen? ⟨g,j,none⟩=false) :
  Calls Tryz.prog 115 #[.pointer (some ⟨g,j,none⟩),.pointer (some ⟨q,0,none⟩)] w fun e w' => e=.returned (.tuple #[]) ∧ w'=(w.setCell ⟨g,j,none⟩ (.int .i64 (nowM ds x))).drew:=by
 obtain ⟨h1,h2,h3⟩:=hr
 have HC:Hid (Calls Tryz.prog 170 #[.int .i64 x,.pointer (some ⟨qm,0,none⟩)] w.drew fun e w' => e=.returned (.int .i64 (nowM ds x)) ∧ w.drew=w'):=now_any qm M x ds w.drew h2 h3 hix
 have hS0:w.cell? ⟨q,0,none⟩=some (.func (.func 170) #[] #[.pointer (some ⟨qm,0,none⟩)]) ∧ w.cell? ⟨g,j,none⟩=some (.int .i64 x):=⟨h1,hx⟩
 have hS1:w.drew.cell? ⟨q,0,none⟩=some (.func (.func 170) #[] #[.pointer (some ⟨qm,0,none⟩)]) ∧ w.drew.cell? ⟨g,j,none⟩=some (.int .i64 x):=hS0
 have hxd:w.drew.cell? ⟨g,j,none⟩=some (.int .i64 x):=hx
 have hfd:w.drew.frozen? ⟨g,j,none⟩=false:=hf
 generalize nowM ds x=y at HC ⊢
 clear h1 h2 h3 hf hix
 go_enter Tryz.func115,Tryz.ntmps115
 refine wp_region_late (by kernel_rfl) (fun W' => W'.cell? ⟨q,0,none⟩=some (.func (.func 170) #[] #[.pointer (some ⟨qm,0,none⟩)]) ∧ W'.cell? ⟨g,j,none⟩=some (.int .i64 x)) [7] ?_
 refine wpAnyT_quiet (i:=0) (v:=?_) rfl (by kernel_rfl) (by kernel_rfl) (by kernel_rfl) (fun _ _ _ h => h) (Or.inl ⟨by rfl,?_⟩) ?_
 rotate_left
 ·(intro w;go_simp;try with_reducible rfl)
 try simp only [Act.put,List.setIfInBounds_toArray,List.set_cons_zero,List.set_cons_succ]
 refine wpAnyT_take [7] (i:=1) (v:=?_) rfl (by kernel_rfl) (by kernel_rfl) (by kernel_rfl) (by kernel_rfl) (by kernel_rfl) (by kernel_rfl) (fun _ _ _ h => h) hS0 (Or.inl ⟨by rfl,?_⟩) ?_
 rotate_left
 ·(intro w hSw;go_split_ands;go_simp;try with_reducible rfl)
 try simp only [Act.put,List.setIfInBounds_toArray,List.set_cons_zero,List.set_cons_succ]
 refine wpAnyT_quiet (i:=2) (v:=?_) rfl (by kernel_rfl) (by kernel_rfl) (by kernel_rfl) (fun _ _ _ h => h) (Or.inl ⟨by rfl,?_⟩) ?_
 rotate_left
 ·(intro w;go_simp;try with_reducible rfl)
 try simp only [Act.put,List.setIfInBounds_toArray,List.set_cons_zero,List.set_cons_succ]
 refine wpAnyT_quiet (i:=3) (v:=?_) rfl (by kernel_rfl) (by kernel_rfl) (by kernel_rfl) (fun _ _ _ h => h) (Or.inl ⟨by rfl,?_⟩) ?_
 rotate_left
 ·(intro w;go_simp;try with_reducible rfl)
 try simp only [Act.put,List.setIfInBounds_toArray,List.set_cons_zero,List.set_cons_succ]
 refine wpAnyT_take [7] (i:=4) (v:=?_) rfl (by kernel_rfl) (by kernel_rfl) (by kernel_rfl) (by kernel_rfl) (by kernel_rfl) (by kernel_rfl) (fun _ _ _ h => h) hS0 (Or.inl ⟨by rfl,?_⟩) ?_
 rotate_left
 ·(intro w hSw;go_split_ands;go_simp;try with_reducible rfl)
 try simp only [Act.put,List.setIfInBounds_toArray,List.set_cons_zero,List.set_cons_succ]
 refine wpAnyT_ready (rs:=[5]) (by kernel_rfl) (by simp) ?_
 refine AllReadyT.cons rfl (fun K hK => ?_) ?_
 ·-- 5 call value
  go_simp
  refine HC.out.mono ?_
  rintro e w3 ⟨rfl,rfl⟩
  refine hK.out _ _ (fun _ _ => hS1) ?_
  clear hK K
  try simp only [Act.put,List.setIfInBounds_toArray,List.set_cons_zero,List.set_cons_succ]
  refine wpAnyT_quiet (i:=6) (v:=?_) rfl (by kernel_rfl) (by kernel_rfl) (by kernel_rfl) (fun _ _ _ h => h) (Or.inl ⟨by rfl,?_⟩) ?_
  rotate_left
  ·(intro w;go_simp;try with_reducible rfl)
  try simp only [Act.put,List.setIfInBounds_toArray,List.set_cons_zero,List.set_cons_succ]
  refine wpAnyT_ready (rs:=[7]) (by kernel_rfl) (by simp) ?_
  refine AllReadyT.cons rfl (fun K hK => ?_) ?_
  ·-- 7 store
   go_simp
   refine hK.out _ _ (fun h => absurd (by simp) h) ?_
   clear hK K
   try simp only [Act.put,List.setIfInBounds_toArray,List.set_cons_zero,List.set_cons_succ]
   refine wpAnyT_done (by kernel_rfl) ?_ _
   go_wp2_with fail
   go_end0
   exact ⟨rfl,rfl⟩
  ·exact AllReadyT.nil
 ·exact AllReadyT.nil
end Go.Proofs.YtaehbgppfahdeaaGreat

namespace Go.Proofs.YtaehbgppfahdeaaGreat
open Go.RowKit Go.Maps
theorem MapIs.same {w w':World} {M:Nat} {ds:Defs} (h:MapIs w M ds) (hk:w'.heap[M]?=w.heap[M]?):MapIs w' M ds:=by
 obtain ⟨D,⟨es,clock,hb,r⟩,k⟩:=h
 exact ⟨D,⟨es,clock,hk.trans hb,r⟩,k⟩
set_option maxRecDepth 100000 in
set_option maxHeartbeats 4000000 in
theorem eachUseN_any (f:FuncM) (val:Vals) (base q qm M g n cap:Nat) (ds:Defs) (w:World) (hown:OwnG w base (rowOf f val) val (EE f f.blocks.length)) (hv:val .blocks=.slice (some ⟨g,0,none⟩) n cap) (hn:n=f.blocks.length) (hr:NowAt w q qm M ds) (hq:q < w.heap.size ∧ qm < w.heap.size ∧ M < w.heap.size) (hfar:∀ t,EE f f.blocks.length t → (val t).ownBlock ≠ some q ∧ (val t).ownBlock ≠ some qm ∧ (val t).ownBlock ≠ some M) (hbase:base ≤ w.heap.size) (hs:SmallF f) (hus:∀ b ∈ f.blocks,(∀ p ∈ b.phis,∀ x ∈ p.vals,I64 x) ∧ (∀ i ∈ b.code,∀ x ∈ i.args,I64 x) ∧ I64 b.term.val) (hn5:n ≤ 512) (hfr:∀ b ∈ f.blocks,∀ p ∈ b.phis,p.vals.length ≤ p.fr.length) :
  Calls Tryz.prog 114 #[.slice (some ⟨g,0,none⟩) n cap,.func (.func 115) #[] #[.pointer (some ⟨q,0,none⟩)]] w fun e w' => e=.returned (.tuple #[]) ∧ OwnG w' base (rowOf (mapF (nowM ds) f) val) val (EE f f.blocks.length) ∧ Below base w w' ∧ FarK val (EE f f.blocks.length) w w':=by
 obtain ⟨W,hW⟩:∃ W:World,W=w.alloc (.cells #[.func (.func 115) #[] #[.pointer (some ⟨q,0,none⟩)]] 180):=⟨_,rfl⟩
 have hbW:Below w.heap.size w W:=by rw [hW];exact (Below.refl _ w).alloc (Nat.le_refl _) _
 have hx:W.heap[w.heap.size]?=some (.cells #[.func (.func 115) #[] #[.pointer (some ⟨q,0,none⟩)]] 180 (0,0)):=by
  rw [hW]
  exact heap_alloc_new w _
 have hwW:=lt_of_heap hx
 have hlt:∀ t,EE f f.blocks.length t → ∀ g,(val t).ownBlock=some g → g < W.heap.size:=fun t ht g0 e => by
  have:=(hown.lt ht e).2
  omega
 have hR:Reads (fun w' => w'.cell? ⟨w.heap.size,0,none⟩=some (.func (.func 115) #[] #[.pointer (some ⟨q,0,none⟩)]) ∧ NowAt w' q qm M ds) W (fun b => b=w.heap.size ∨ b=q ∨ b=qm ∨ b=M) f val :=
  ⟨fun w1 w2 h hk => ⟨(World.cell?_of_block (hk _ (.inl rfl))).trans h.1,(World.cell?_of_block (hk _ (.inr (.inl rfl)))).trans h.2.1,(World.cell?_of_block (hk _ (.inr (.inr (.inl rfl))))).trans h.2.2.1,h.2.2.2.same (hk _ (.inr (.inr (.inr rfl))))⟩,
   fun b hb => by rcases hb with rfl | rfl | rfl | rfl <;> omega,
   fun b hb t ht e => by
    rcases hb with rfl | rfl | rfl | rfl
    ·have:=(hown.lt ht e).2
     omega
    ·exact (hfar t ht).1 e
    ·exact (hfar t ht).2.1 e
    ·exact (hfar t ht).2.2 e⟩
 have hseer:=wr_seer (h:=nowM ds) (base:=base) (Pu:=I64) (C:=fun p u v P => Calls Tryz.prog 165 #[p,u,.pointer (some ⟨w.heap.size,0,none⟩)] v P) hR hlt (Nat.le_trans hbase hbW.size) (fun b hb => ⟨(hus b hb).1,(hus b hb).2.1,fun _ => (hus b hb).2.2⟩) (fun _ _ _ _ _ h hm => h.mono hm) (fun w1 g1 j x u hs1 hix hc hf => by
  exact seeCh_any w.heap.size q g1 j u w1 (fun w2 => Below (w1.setCell ⟨g1,j,none⟩ (.int .i64 (nowM ds x))).heap.size (w1.setCell ⟨g1,j,none⟩ (.int .i64 (nowM ds x))) w2) hs1.1 ((chUseN_any q qm M g1 j x ds w1 hix hs1.2 hc hf).mono fun e w2 h => ⟨h.1,by rw [h.2];exact Below.drew (Below.refl _ _)⟩))
 have hi0:WInv (nowM ds) f val base (fun w' => w'.cell? ⟨w.heap.size,0,none⟩=some (.func (.func 115) #[] #[.pointer (some ⟨q,0,none⟩)]) ∧ NowAt w' q qm M ds) W 0 0 0 0 W.heap.size W:=⟨(hown.below hbW).congr (fun t _ => (rowI_zero t).trans (stF_start t)) (fun _ _ => rfl) (fun _ ht => ht),⟨row_cells hx rfl 0,hr.kept hbW hq⟩,FarK.refl _ _ _,Below.refl _ _,Nat.le_refl _⟩
 have HEA:=hideI (eachAt1_any f val n cap W.heap.size w.heap.size _ _ W hv hn hn5 hs hfr hseer hi0)
 have HBW:=hideI hbW
 have HW0:=hideI hW
 have HN:=hideI hn
 clear hown hv hn hr hq hfar hs hfr hW hbW hx hlt hR hseer hi0
 go_enter Tryz.func114,Tryz.ntmps114
 go_upto_region 1 with fail
 rw [← HW0.out]
 go_wp2_with (go_at_call 91;go_must (refine HEA.out.mono ?_);rintro e w1 ⟨rfl,X,hi⟩;have HI:=hideI hi;clear hi)
 go_end0
 refine ⟨rfl,HI.out.own.congr (fun t _ => ?_) (fun _ _ => rfl) (fun _ ht => ht),(HBW.out.mono hbase).trans HI.out.below,((FarK.refl _ _ _).below HBW.out).trans HI.out.far⟩
 rw [rowI_zero,HN.out]
 rfl
end Go.Proofs.YtaehbgppfahdeaaGreat

namespace Go.Proofs.YtaehbgppfahdeaaGreat
open Go.RowKit Go.Maps
abbrev AwO (w:World) (base:Nat) (val:Vals):Prop:=OwnG w base (rowOf awakeF val) val (EE awakeF 1)
theorem OwnG.farM {w w1:World} {base M:Nat} {row:Rows} {val:Vals} {D:Tag → Prop} (h:OwnG w base row val D) (hg:w.grownBy w1 (some M)) (hf:∀ t,D t → (val t).ownBlock ≠ some M):OwnG w1 base row val D :=
 ⟨h.has,fun t d ht hd => by
  cases ho:(val t).ownBlock with
  | none => exact (h.rows t d ht hd).kept hg (.inl ho)
  | some b => exact (h.rows t d ht hd).kept hg (.inr fun e => hf t ht e),h.apart⟩
theorem aw_code (val:Vals):rowOf awakeF val (.code 0)=some ⟨68,4,1,[.int .i64 1,.int .i64 0,val (.args 0 0),.int .i64 5]⟩:=rfl
theorem aw_blocks (val:Vals):rowOf awakeF val .blocks=some ⟨62,6,1,[val (.phis 0),val (.code 0),.int .i64 3,.int .i64 0,val (.ends 0),.int .i64 0]⟩:=rfl
theorem aw_phis (val:Vals):rowOf awakeF val (.phis 0)=some ⟨76,4,0,[]⟩:=rfl
theorem aw_ends (val:Vals):rowOf awakeF val (.ends 0)=some ⟨3,1,0,[]⟩:=rfl
theorem aw_set {w:World} {base gC cC:Nat} {val:Vals} (h:AwO w base val) (hv:val (.code 0)=.slice (some ⟨gC,0,none⟩) 1 cC):AwO (w.setCell ⟨gC,1,none⟩ (.int .i64 0)) base val :=
 (h.set (tp:=.code 0) (j:=1) (u:=.int .i64 0) (EE.all (aw_code val)) (aw_code val) hv rfl).congr (fun t _ => by
  by_cases e:t=.code 0
  ·subst e;rw [upd_same];rfl
  ·rw [upd_ne _ _ e]) (fun _ _ => rfl) (fun _ ht => ht)
structure FarX (M:Nat) (val:Vals) (D:Tag → Prop) (w w':World):Prop where
 os:w'.os=w.os
 tape:w'.tape=w.tape
 output:w'.output=w.output
 size:w.heap.size ≤ w'.heap.size
 block:∀ b,b < w.heap.size → b ≠ M → (∀ t,D t → (val t).ownBlock ≠ some b) → w'.heap[b]?=w.heap[b]?
set_option maxRecDepth 100000 in
set_option maxHeartbeats 2000000 in
theorem eachMade_aw (val:Vals) (base q0 qm M g cap:Nat) (w:World) (hown:AwO w base val) (hv:val .blocks=.slice (some ⟨g,0,none⟩) 1 cap) (hm:w.ownsMap Tryz.prog 3 (plainElem Tryz.prog 3) M 0 (.map []:DataW Unit)) (h1:w.cell? ⟨q0,0,none⟩=some (.int .i64 0)) (h2:w.cell? ⟨qm,0,none⟩=some (.map (some M))) (hl:q0 < w.heap.size ∧ qm < w.heap.size ∧ qm ≠ M) (hfar:∀ t,EE awakeF 1 t → (val t).ownBlock ≠ some q0 ∧ (val t).ownBlock ≠ some qm ∧ (val t).ownBlock ≠ some M) :
  Calls Tryz.prog 168 #[.slice (some ⟨g,0,none⟩) 1 cap,.func (.func 169) #[] #[.pointer (some ⟨q0,0,none⟩),.pointer (some ⟨qm,0,none⟩)]] w fun e w' => e=.returned (.tuple #[]) ∧ AwO w' base val ∧ MapIs w' M [(0,0)] ∧ FarX M val (EE awakeF 1) w w':=by
 obtain ⟨Ap,cp,hvp⟩:=own_slice (hown.rows (.phis 0) _ (EE.all (aw_phis val)) (aw_phis val))
 obtain ⟨gC,cC,hvc,hgb,hgl⟩:=hown.slice (EE.all (aw_code val)) (aw_code val) (Nat.lt_succ_self 0)
 obtain ⟨Ae,ce,hve⟩:=own_slice (hown.rows (.ends 0) _ (EE.all (aw_ends val)) (aw_ends val))
 have hvp':val (.phis 0)=.slice Ap 0 cp:=hvp
 have hvc':val (.code 0)=.slice (some ⟨gC,0,none⟩) 1 cC:=hvc
 have hve':val (.ends 0)=.slice Ae 0 ce:=hve
 have hb0:=hown.rows .blocks _ (.inr (.inl rfl)) (aw_blocks val)
 rw [hv] at hb0
 have hbc:∀ r u,[val (.phis 0),val (.code 0),.int .i64 3,.int .i64 0,val (.ends 0),.int .i64 0][r]?=some u → w.cell? ⟨g,r,none⟩=some u:=fun r u hu => by
  have hr:=(List.getElem?_eq_some_iff.1 hu).1
  rw [World.ownsRow.cellAt hb0 r (by simpa using hr)]
  exact hu
 have c0:w.cell? ⟨g,0,none⟩=some (.slice Ap 0 cp):=by rw [← hvp'];exact hbc 0 _ rfl
 have c1:w.cell? ⟨g,1,none⟩=some (.slice (some ⟨gC,0,none⟩) 1 cC):=by rw [← hvc'];exact hbc 1 _ rfl
 have c2:w.cell? ⟨g,2,none⟩=some (.int .i64 3):=hbc 2 _ rfl
 have c3:w.cell? ⟨g,3,none⟩=some (.int .i64 0):=hbc 3 _ rfl
 have c4:w.cell? ⟨g,4,none⟩=some (.slice Ae 0 ce):=by rw [← hve'];exact hbc 4 _ rfl
 have c5:w.cell? ⟨g,5,none⟩=some (.int .i64 0):=hbc 5 _ rfl
 have HOWN:=hideI hown
 have HM:=hideI hm
 have HL:=hideI hl
 have HFAR:=hideI hfar
 have HVC:=hideI hvc'
 have HH:=hideI (And.intro h1 h2)
 have HGC:Hid (gC < w.heap.size ∧ gC ≠ M ∧ gC ≠ q0 ∧ gC ≠ qm):=hideI (by
  have h:=hfar (.code 0) (EE.all (aw_code val))
  rw [hvc'] at h
  exact ⟨hgl,fun e => h.2.2 (by rw [e];rfl),fun e => h.1 (by rw [e];rfl),fun e => h.2.1 (by rw [e];rfl)⟩)
 obtain ⟨wa,hwa⟩:∃ wa:World,wa=w.alloc (.cells #[.slice Ap 0 cp,.slice (some ⟨gC,0,none⟩) 1 cC,.int .i64 3,.int .i64 0,.slice Ae 0 ce,.int .i64 0] 62):=⟨_,rfl⟩
 have hba:Below w.heap.size w wa:=by rw [hwa];exact (Below.refl _ w).alloc (Nat.le_refl _) _
 have hga:w.grownBy wa none:=⟨hba.os,hba.tape,hba.output,hba.size,fun k hk _ => hba.block k hk⟩
 have HWA:=hideI hwa
 have HBA:=hideI hba
 have HOA:=hideI (hown.below hba)
 have HMA:=hideI (hm.kept hga (by simp))
 clear hown hv hm h1 h2 hl hfar hvp hvc hve hvp' hvc' hve' hb0 hbc hgb hgl hwa hba hga
 go_enter Tryz.func168,Tryz.ntmps168
 go_wp2
 go_loopg [11] 1 (fun gg s wr => (s=.int .i64 0 ∧ 1 ≤ gg ∧ wr=w) ∨ (s=.int .i64 1 ∧ Hid (AwO wr base val ∧ MapIs wr M [(0,0)] ∧ FarX M val (EE awakeF 1) w wr)))
 case atStart => exact .inl ⟨rfl,Nat.le_refl _,rfl⟩
 case round =>
  rcases hrel with ⟨rfl,hgg,hw⟩ | ⟨rfl,HEND⟩
  ·obtain rfl:=hw.symm
   go_upto_region 3 with fail
   rw [← HWA.out]
   have hxb:=row_cells (by rw [HWA.out];exact heap_alloc_new w _:wa.heap[w.heap.size]?=some (.cells #[.slice Ap 0 cp,.slice (some ⟨gC,0,none⟩) 1 cC,.int .i64 3,.int .i64 0,.slice Ae 0 ce,.int .i64 0] 62 (0,0))) rfl
   have b0:=hxb 0
   have b1:=hxb 1
   clear hxb c0 c1 c2 c3 c4 c5
   go_wp2
   go_loopg [18] 0 (fun gg s wr2 => s=.int .i64 0 ∧ wr2=wa)
   case atStart => exact ⟨rfl,rfl⟩
   case round =>
    obtain ⟨rfl,hw2⟩:=hrel
    obtain rfl:=hw2.symm
    go_wp2
    go_loopg [32] 1 (fun gg3 s wr3 => (s=.int .i64 0 ∧ 1 ≤ gg3 ∧ wr3=wa) ∨ (s=.int .i64 1 ∧ Hid (AwO wr3 base val ∧ MapIs wr3 M [(0,0)] ∧ FarX M val (EE awakeF 1) w wr3)))
    case atStart => exact .inl ⟨rfl,Nat.le_refl _,rfl⟩
    case round =>
     rcases hrel with ⟨rfl,hg3,hw3⟩ | ⟨rfl,HEND⟩
     ·obtain rfl:=hw3.symm
      have hcc:=HOA.out.cell (tp:=.code 0) (j:=1) (EE.all (aw_code val)) (aw_code val) HVC.out rfl (by show 1 < 1 * 4;omega)
      have d1:wa.cell? ⟨gC,1,none⟩=some (.int .i64 0):=hcc.1
      have HC:=hideI (made1_any gC 1 q0 qm M 0 0 0 0 0 (.map []) wa HMA.out ⟨[],rfl⟩ rfl (by omega) (by unfold I64;decide) (by decide) (by decide) d1 hcc.2 ((HBA.out.cell (p:=⟨q0,0,none⟩) HL.out.1).trans HH.out.1) ((HBA.out.cell (p:=⟨qm,0,none⟩) HL.out.2.1).trans HH.out.2) ⟨Nat.lt_of_lt_of_le HGC.out.1 HBA.out.size,Nat.lt_of_lt_of_le HL.out.2.1 HBA.out.size,HGC.out.2.1,HL.out.2.2⟩)
      clear hcc
      go_wp2_with (go_at_call 169;refine HC.out.mono ?_;rintro e w2 ⟨rfl,w1,hg1,ho1,rfl⟩;have HG1:=hideI hg1;have HO1:=hideI ho1;clear hg1 ho1)
      have HEND:Hid (AwO (w1.setCell ⟨gC,1,none⟩ (.int .i64 0)).drew base val ∧ MapIs (w1.setCell ⟨gC,1,none⟩ (.int .i64 0)).drew M [(0,0)] ∧ FarX M val (EE awakeF 1) w (w1.setCell ⟨gC,1,none⟩ (.int .i64 0)).drew):=by
       have hb0:Below 0 w1 (w1.setCell ⟨gC,1,none⟩ (.int .i64 0)):=(Below.refl 0 w1).setCell (Nat.zero_le _) _
       refine hideI ⟨?_,?_,?_⟩
       ·exact OwnG.below (aw_set (HOA.out.farM HG1.out (fun t ht => (HFAR.out t ht).2.2)) HVC.out) (Below.drew (Below.refl _ _))
       ·have h1:MapIs w1 M ([] ++ [(0,0)]):=MapIs.put (ds:=[]) HO1.out ⟨[],rfl⟩ (by simp) (by unfold I64;decide) (by unfold I64;decide) rfl (fun _ _ => rfl)
        exact MapIs.kept h1 (grown_cell (World.grownBy.refl w1 (some gC))) (fun e => HGC.out.2.1 (Option.some.inj e).symm)
       ·refine ⟨hb0.os.trans (HG1.out.os.trans HBA.out.os),hb0.tape.trans (HG1.out.tape.trans HBA.out.tape),hb0.output.trans (HG1.out.output.trans HBA.out.output),Nat.le_trans HBA.out.size (Nat.le_trans HG1.out.size hb0.size),fun b hbl hbM hno => ?_⟩
        have hbg:b ≠ gC:=fun e => hno (.code 0) (EE.all (aw_code val)) (by rw [HVC.out,e];rfl)
        exact (heap_setCell_other w1 ⟨gC,1,none⟩ b _ hbg).trans ((HG1.out.block b (Nat.lt_of_lt_of_le hbl HBA.out.size) (fun e => hbM (Option.some.inj e))).trans (HBA.out.block b hbl))
      go_roundg 0
      case measure => omega
      case rel => exact .inr ⟨by go_num,HEND⟩
     ·go_wp2
      go_roundg 0
      case measure => omega
      case rel => exact .inr ⟨by go_num,HEND⟩
  ·go_wp2
   go_end0
   exact ⟨rfl,HEND.out⟩
set_option maxRecDepth 100000 in
set_option maxHeartbeats 2000000 in
theorem renumBlocks_aw (g:Nat) (Ap Ae:Option Addr) (cp ce:Nat) (pv:Value) (w:World) (c0:w.cell? ⟨g,0,none⟩=some (.slice Ap 0 cp)) (c4:w.cell? ⟨g,4,none⟩=some (.slice Ae 0 ce)) :
  Calls Tryz.prog 118 #[.pointer (some ⟨g,0,none⟩),pv] w fun e w' => e=.returned (.tuple #[]) ∧ w'=w:=by
 go_enter Tryz.func118,Tryz.ntmps118
 go_wp2
 go_loopg [15] 0 (fun gg s wr2 => s=.int .i64 0 ∧ wr2=w)
 case atStart => exact ⟨rfl,rfl⟩
 case round =>
  obtain ⟨rfl,hw2⟩:=hrel
  obtain rfl:=hw2.symm
  go_wp2
  go_loopg [37] 0 (fun gg s wr2 => s=.int .i64 0 ∧ wr2=w)
  case atStart => exact ⟨rfl,rfl⟩
  case round =>
   obtain ⟨rfl,hw2⟩:=hrel
   obtain rfl:=hw2.symm
   go_wp2
   go_end0
   exact ⟨rfl,rfl⟩
end Go.Proofs.YtaehbgppfahdeaaGreat

namespace Go.Proofs.YtaehbgppfahdeaaGreat
open Go.RowKit Go.Maps
theorem aw_map:mapF (nowM [(0,0)]) awakeF=awakeF:=by rfl
theorem aw_small:SmallF awakeF:=look_small (by rw [awake_look])
theorem aw_uses:∀ b ∈ awakeF.blocks,(∀ p ∈ b.phis,∀ x ∈ p.vals,I64 x) ∧ (∀ i ∈ b.code,∀ x ∈ i.args,I64 x) ∧ I64 b.term.val:=by
 intro b hb
 simp [awakeF] at hb
 subst hb
 refine ⟨fun p hp => by simp at hp,fun i hi x hx => ?_,by unfold I64;decide⟩
 simp at hi
 subst hi
 simp at hx
set_option maxRecDepth 100000 in
set_option maxHeartbeats 2000000 in
theorem changeUsesN_aw (val:Vals) (base qm M g cap:Nat) (w:World) (hown:AwO w base val) (hv:val .blocks=.slice (some ⟨g,0,none⟩) 1 cap) (h2:w.cell? ⟨qm,0,none⟩=some (.map (some M))) (hm:MapIs w M [(0,0)]) (hq:qm < w.heap.size) (hfar:∀ t,EE awakeF 1 t → (val t).ownBlock ≠ some qm ∧ (val t).ownBlock ≠ some M) (hbase:base ≤ w.heap.size) :
  Calls Tryz.prog 65 #[.slice (some ⟨g,0,none⟩) 1 cap,.func (.func 170) #[] #[.pointer (some ⟨qm,0,none⟩)]] w fun e w' => e=.returned (.tuple #[]) ∧ AwO w' base val ∧ FarK val (EE awakeF 1) w w':=by
 obtain ⟨W,hW⟩:∃ W:World,W=w.alloc (.cells #[.func (.func 170) #[] #[.pointer (some ⟨qm,0,none⟩)]] 134):=⟨_,rfl⟩
 have hbW:Below w.heap.size w W:=by rw [hW];exact (Below.refl _ w).alloc (Nat.le_refl _) _
 have hx:W.heap[w.heap.size]?=some (.cells #[.func (.func 170) #[] #[.pointer (some ⟨qm,0,none⟩)]] 134 (0,0)):=by
  rw [hW]
  exact heap_alloc_new w _
 have hM:=hm.lt
 have hr:NowAt W w.heap.size qm M [(0,0)]:=⟨row_cells hx rfl 0,(hbW.cell (p:=⟨qm,0,none⟩) hq).trans h2,hm.below hbW hM⟩
 have hwW:=lt_of_heap hx
 have h0:=eachUseN_any awakeF val base w.heap.size qm M g 1 cap [(0,0)] W (hown.below hbW) hv rfl hr ⟨hwW,by omega,by omega⟩ (fun t ht => ⟨fun e => by have:=(hown.lt ht e).2;omega,(hfar t ht).1,(hfar t ht).2⟩) (Nat.le_trans hbase hbW.size) aw_small aw_uses (by omega) (fun b hb p hp => by simp [awakeF] at hb;subst hb;simp at hp)
 rw [aw_map] at h0
 have HEU:=hideI h0
 have HBW:=hideI hbW
 have HW0:=hideI hW
 clear hown hv h2 hm hfar hr hx hW hbW h0
 go_enter Tryz.func65,Tryz.ntmps65
 go_upto_region 1 with fail
 rw [← HW0.out]
 go_wp2_with (go_at_call 114;go_must (refine HEU.out.mono ?_);rintro e w1 ⟨rfl,ho,hb,hfk⟩;have HO:=hideI ho;have HFK:=hideI hfk;clear ho hb hfk)
 go_end0
 exact ⟨rfl,HO.out,⟨HFK.out.os.trans HBW.out.os,HFK.out.tape.trans HBW.out.tape,HFK.out.output.trans HBW.out.output,Nat.le_trans HBW.out.size HFK.out.size,fun b hl hn => (HFK.out.block b (Nat.lt_of_lt_of_le hl HBW.out.size) hn).trans (HBW.out.block b hl)⟩⟩
set_option maxRecDepth 100000 in
set_option maxHeartbeats 2000000 in
theorem renumValues_aw (val:Vals) (base g cap:Nat) (w:World) (hown:AwO w base val) (hv:val .blocks=.slice (some ⟨g,0,none⟩) 1 cap) (hbase:base ≤ w.heap.size) :
  Calls Tryz.prog 117 #[.slice (some ⟨g,0,none⟩) 1 cap,.int .i64 0] w fun e w' => (∃ v,e=.returned v) ∧ AwO w' base val ∧ FarK val (EE awakeF 1) w w':=by
 have hmm:=@run_makeMap Tryz.prog
 obtain ⟨W,hW⟩:∃ W:World,W=((w.alloc (.cells #[.int .i64 0] 3)).alloc (.map #[] 0)).alloc (.cells #[.map (some (w.heap.size + 1))] 127):=⟨_,rfl⟩
 have hsz:W.heap.size=w.heap.size + 3:=by rw [hW];simp
 have hbW:Below w.heap.size w W:=by rw [hW];exact (((Below.refl _ w).alloc (Nat.le_refl _) _).alloc (by simp) _).alloc (by simp;omega) _
 have hx0:W.heap[w.heap.size]?=some (.cells #[.int .i64 0] 3 (0,0)):=by
  rw [hW,Below.heap_alloc _ _ _ (by simp;omega),Below.heap_alloc _ _ _ (by simp)]
  exact heap_alloc_new w _
 have hx2:W.heap[w.heap.size + 2]?=some (.cells #[.map (some (w.heap.size + 1))] 127 (0,0)):=by
  rw [hW]
  have:=heap_alloc_new ((w.alloc (.cells #[.int .i64 0] 3)).alloc (.map #[] 0)) (.cells #[.map (some (w.heap.size + 1))] 127)
  simpa using this
 have hm1:((w.alloc (.cells #[.int .i64 0] 3)).alloc (.map #[] 0)).ownsMap Tryz.prog 3 (plainElem Tryz.prog 3) (w.heap.size + 1) 0 (.map []:DataW Unit):=by
  have h:=World.ownsMap_made (H:=Unit) (w.alloc (.cells #[.int .i64 0] 3)) Tryz.prog 3 (plainElem Tryz.prog 3)
  simpa using h
 have hm:W.ownsMap Tryz.prog 3 (plainElem Tryz.prog 3) (w.heap.size + 1) 0 (.map []:DataW Unit):=by
  rw [hW]
  exact hm1.alloc _
 have hne:∀ t,EE awakeF 1 t → ∀ b,w.heap.size ≤ b → (val t).ownBlock ≠ some b:=fun t ht b hb e => by
  have:=(hown.lt ht e).2
  omega
 have HEM:=hideI (eachMade_aw val base w.heap.size (w.heap.size + 2) (w.heap.size + 1) g cap W (hown.below hbW) hv hm (row_cells hx0 rfl 0) (row_cells hx2 rfl 0) (by omega) (fun t ht => ⟨hne t ht _ (Nat.le_refl _),hne t ht _ (by omega),hne t ht _ (by omega)⟩))
 have HCU:Hid (∀ w1,AwO w1 base val → MapIs w1 (w.heap.size + 1) [(0,0)] → FarX (w.heap.size + 1) val (EE awakeF 1) W w1 → Calls Tryz.prog 65 #[.slice (some ⟨g,0,none⟩) 1 cap,.func (.func 170) #[] #[.pointer (some ⟨w.heap.size + 2,0,none⟩)]] w1 fun e w' => e=.returned (.tuple #[]) ∧ AwO w' base val ∧ FarK val (EE awakeF 1) w1 w'):=hideI fun w1 ho1 hm1 hf1 => by
  have hb:=(hf1.block (w.heap.size + 2) (by omega) (by omega) (fun t ht => hne t ht _ (by omega))).trans hx2
  exact changeUsesN_aw val base (w.heap.size + 2) (w.heap.size + 1) g cap w1 ho1 hv (row_cells hb rfl 0) hm1 (by have:=hf1.size;omega) (fun t ht => ⟨hne t ht _ (by omega),hne t ht _ (by omega)⟩) (by have:=hf1.size;omega)
 have HBW:=hideI hbW
 have HW0:=hideI hW
 clear hown hv hx0 hx2 hm hm1 hne hW hbW
 go_enter Tryz.func117,Tryz.ntmps117
 go_upto_region 2 with fail
 rw [← HW0.out]
 go_wp2_with (first
  | (go_at_call 168;go_must (refine HEM.out.mono ?_);rintro e w1 ⟨rfl,ho,hm,hfx⟩;have HCU1:=hideI (HCU.out w1 ho hm hfx);have HFX:=hideI hfx;clear ho hm hfx)
  | (go_at_call 65;go_must (refine HCU1.out.mono ?_);rintro e w2 ⟨rfl,ho,hfk⟩;have HO:=hideI ho;have HFK:=hideI hfk;clear ho hfk))
 go_ret
 refine ⟨⟨_,rfl⟩,HO.out,⟨HFK.out.os.trans (HFX.out.os.trans HBW.out.os),HFK.out.tape.trans (HFX.out.tape.trans HBW.out.tape),HFK.out.output.trans (HFX.out.output.trans HBW.out.output),Nat.le_trans HBW.out.size (Nat.le_trans HFX.out.size HFK.out.size),fun b hl hn => ?_⟩⟩
 have h1:=HBW.out.size
 have h2:=HFX.out.size
 exact (HFK.out.block b (by omega) hn).trans ((HFX.out.block b (by omega) (by omega) hn).trans (HBW.out.block b hl))
end Go.Proofs.YtaehbgppfahdeaaGreat

namespace Go.Proofs.YtaehbgppfahdeaaGreat
open Go.RowKit Go.Maps
def BackP (bs:List BlockM) (o:List Nat) (h p:Nat):Prop:=h ∈ succM bs p ∧ OverP bs o h p
inductive InL (bs:List BlockM) (o:List Nat) (h:Nat):Nat → Prop
 | head:InL bs o h h
 | latch {p:Nat} (k:BackP bs o h p):InL bs o h p
 | step {b p:Nat} (k:InL bs o h b) (hne:b ≠ h) (e:b ∈ succM bs p):InL bs o h p
def AllIn (bs:List BlockM) (o:List Nat):Prop:=∀ b,b < bs.length → b ∈ o
section
variable {bs:List BlockM} {o:List Nat} {h k b p:Nat}
end
structure LoopF (bs:List BlockM) (o:List Nat) (D L:Nat → Nat → Bool):Prop where
 dom:∀ a b,D a b=true ↔ OverP bs o a b
 inL:∀ h b,L h b=true ↔ InL bs o h b
def latchesM (bs:List BlockM) (D:Nat → Nat → Bool) (h:Nat):List Nat:=(predsTo bs bs.length h).filter (D h)
def blocksM (n:Nat) (L:Nat → Nat → Bool) (h:Nat):List Nat:=(List.range n).filter (L h)
def outB (bs:List BlockM) (L:Nat → Nat → Bool) (h t:Nat):Bool:=(List.range bs.length).any fun b => L h b && decide (t ∈ succM bs b)
def exitsM (bs:List BlockM) (L:Nat → Nat → Bool) (h:Nat):List Nat:=(List.range bs.length).filter fun t => !L h t && outB bs L h t
def headsM (bs:List BlockM) (D:Nat → Nat → Bool) (k:Nat):List Nat:=(List.range k).filter fun h => !(latchesM bs D h).isEmpty
def lsizeM (n:Nat) (L:Nat → Nat → Bool) (h:Nat):Nat:=(blocksM n L h).length
def aroundM (n:Nat) (L:Nat → Nat → Bool) (hs:List Nat) (i:Nat):Nat → Int
 | 0 => -1
 | k + 1 =>
  let a:=aroundM n L hs i k
  if k ≠ i ∧ L (hs.getD k 0) (hs.getD i 0)=true ∧ (a=-1 ∨ lsizeM n L (hs.getD k 0) < lsizeM n L (hs.getD a.toNat 0)) then (k:Int) else a
def depthM (L:Nat → Nat → Bool) (hs:List Nat) (b:Nat):Nat:=(hs.filter fun h => L h b).length
def oddB (bs:List BlockM) (D:Nat → Nat → Bool) (pl:Nat → Nat) (b:Nat):Bool:=(predsTo bs bs.length b).any fun p => decide (pl b ≤ pl p) && !D b p
def oddsM (bs:List BlockM) (D:Nat → Nat → Bool) (pl:Nat → Nat):List Nat:=(List.range bs.length).filter (oddB bs D pl)
section
variable {bs:List BlockM} {o:List Nat} {D L:Nat → Nat → Bool} {h k b p:Nat}
end
structure LoopOk (bs:List BlockM) (o:List Nat) (pl:Nat → Nat) (par:Nat → Option Nat) (D L:Nat → Nat → Bool):Prop where
 ord:Ord (succM bs) o pl
 done:Done (succM bs) o pl par
 all:AllIn bs o
 lt:∀ x ∈ o,x < bs.length
 n5:bs.length ≤ 512
 fn:LoopF bs o D L
section
variable {bs:List BlockM} {o:List Nat} {pl:Nat → Nat} {par:Nat → Option Nat} {D L:Nat → Nat → Bool} {h k b p:Nat}
end
structure LWk (bs:List BlockM) (o:List Nat) (h:Nat) (S ws:List Nat):Prop where
 nodup:S.Nodup
 lt:∀ x ∈ S,x < bs.length
 head:h ∈ S
 sound:∀ x ∈ S,InL bs o h x
 ok:∀ x ∈ ws,InL bs o h x ∧ x < bs.length
 closed:∀ x ∈ S,x ≠ h → ∀ p,x ∈ succM bs p → p ∈ S ∨ p ∈ ws
 lat:∀ p,BackP bs o h p → p ∈ S ∨ p ∈ ws
section
variable {bs:List BlockM} {o:List Nat} {h b:Nat} {S ws:List Nat}
end
end Go.Proofs.YtaehbgppfahdeaaGreat

namespace Go.Proofs.YtaehbgppfahdeaaGreat
open Go.RowKit Go.Maps
def plcs (n:Nat) (o:List Nat) (pl:Nat → Nat):List Value:=(List.range n).map fun b => .int .i64 (if b ∈ o then ((pl b:Nat):Int) else 0)
structure LfAt (w:World) (lo:Nat) (bs:List BlockM) (o:List Nat) (pl:Nat → Nat) (par:Nat → Option Nat) (gp:Nat) (vs:List Value) (gi gl:Nat):Prop where
 preds:Lists w lo gp bs.length vs (predsAt bs bs.length bs.length 0)
 idoms:w.ownsRow lo 3 1 (.slice (some ⟨gi,0,none⟩) bs.length bs.length) bs.length (tops bs.length par)
 place:w.ownsRow lo 3 1 (.slice (some ⟨gl,0,none⟩) bs.length bs.length) bs.length (plcs bs.length o pl)
section
variable {w w':World} {lo lo':Nat} {bs:List BlockM} {o:List Nat} {pl:Nat → Nat} {par:Nat → Option Nat} {gp:Nat} {vs:List Value} {gi gl:Nat}
end
end Go.Proofs.YtaehbgppfahdeaaGreat

namespace Go.Proofs.YtaehbgppfahdeaaGreat
open Go.RowKit Go.Maps
end Go.Proofs.YtaehbgppfahdeaaGreat

namespace Go.Proofs.YtaehbgppfahdeaaGreat
open Go.RowKit Go.Maps
def RowPost (l:List Nat) (w:World) (e:Ending) (w':World):Prop :=
 ∃ v,e=.returned v ∧ w'.ownsRow w.heap.size 3 1 v l.length (natInts l) ∧ Below w.heap.size w w'
end Go.Proofs.YtaehbgppfahdeaaGreat

namespace Go.Proofs.YtaehbgppfahdeaaGreat
open Go.RowKit Go.Maps
def PendAt (w:World) (gk:Nat) (ws:List Nat):Prop :=
 ∃ v,w.heap[gk]?=some (.cells #[v] 306 (0,0)) ∧ w.ownsRow (gk + 1) 3 1 v ws.length (natInts ws)
def AddPost' (gk:Nat) (ws:List Nat) (w:World) (e:Ending) (w':World):Prop:=e=.returned (.tuple #[]) ∧ PendAt w' gk ws ∧ Below gk w w'
def TakePost (gk:Nat) (ws:List Nat) (w:World) (e:Ending) (w':World):Prop :=
 (ws=[] ∧ e=.returned (.tuple #[.int .i64 0,.bool false]) ∧ PendAt w' gk [] ∧ Below gk w w') ∨
 ∃ (ws0:List Nat) (b:Nat),ws=ws0 ++ [b] ∧ e=.returned (.tuple #[.int .i64 b,.bool true]) ∧ PendAt w' gk ws0 ∧ Below gk w w'
def lastOr (ws0:List Nat) (b:Nat) (okb:Bool):List Nat:=if okb=true then ws0 ++ [b] else ws0
end Go.Proofs.YtaehbgppfahdeaaGreat
