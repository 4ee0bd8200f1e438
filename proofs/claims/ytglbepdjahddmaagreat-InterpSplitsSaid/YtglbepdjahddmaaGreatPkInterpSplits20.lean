/- What InterpSplits rests on, part 20: ComeG. -/
import Derived.Test.YtglbepdjahddmaaGreatPkInterpSplits19
import Derived.Deep.RegionHeld3

namespace Go.Proofs.YtglbepdjahddmaaGreat
open Go.RowKit Go.Maps
theorem idx_of {xs:List Int} {x r:Int} (h:IdxIs xs x r) (hm:x ∈ xs):∃ k:Nat,r=k ∧ xs[k]?=some x ∧ k < xs.length ∧ decide ((k:Int) < 0)=false:=by
 rcases h with ⟨_,h⟩ | ⟨k,h1,h2,_⟩
 ·exact absurd hm h
 ·exact ⟨k,h1,h2,(List.getElem?_eq_some_iff.1 h2).1,by simp⟩
structure CS (w:World) (base gf gv:Nat) (W:World) (F:Value) (lf:List Int) (V:Value) (lv:List Int):Prop where
 f:W.ownsRow base 3 1 F lf.length (lf.map (Value.int .i64))
 v:W.ownsRow base 3 1 V lv.length (lv.map (Value.int .i64))
 ap:F.ownBlock ≠ V.ownBlock
 fo:F.ownBlock=some gf ∨ ∃ k,F.ownBlock=some k ∧ w.heap.size ≤ k
 vo:V.ownBlock=some gv ∨ ∃ k,V.ownBlock=some k ∧ w.heap.size ≤ k
 keep:∀ b,b < w.heap.size → b ≠ gf → b ≠ gv → W.heap[b]?=w.heap[b]?
 sz:w.heap.size ≤ W.heap.size
 same:W.os=w.os ∧ W.tape=w.tape ∧ W.output=w.output
section
variable {w W W':World} {base gf gv:Nat} {F V:Value} {lf lv:List Int}
theorem CS.alloc (h:CS w base gf gv W F lf V lv) (o:Obj):CS w base gf gv (W.alloc o) F lf V lv:=by
 refine ⟨h.f.alloc o,h.v.alloc o,h.ap,h.fo,h.vo,fun b hb h1 h2 => ?_,by have:=h.sz;simp;omega,h.same⟩
 have hs:=h.sz
 rw [← h.keep b hb h1 h2]
 exact Below.heap_alloc W o b (by omega)
theorem CS.growF (h:CS w base gf gv W F lf V lv) {x:Int} {g1 c1:Nat} (hown:W'.ownsRow base 3 1 (.slice (some ⟨g1,0,none⟩) (lf.length + 1) c1) (lf.length + 1) (lf.map (Value.int .i64) ++ [.int .i64 x])) (hg:W.grownBy W' F.ownBlock) (hor:F.ownBlock=some g1 ∨ g1=W.heap.size) :
  CS w base gf gv W' (.slice (some ⟨g1,0,none⟩) (lf.length + 1) c1) (lf ++ [x]) V lv:=by
 have hs:=h.sz
 refine ⟨by simpa using hown,h.v.kept hg (.inr (Ne.symm h.ap)),?_,?_,h.vo,fun b hb h1 h2 => ?_,Nat.le_trans h.sz hg.size,⟨hg.os.trans h.same.1,hg.tape.trans h.same.2.1,hg.output.trans h.same.2.2⟩⟩
 ·intro e
  rcases hor with h1 | h1
  ·exact h.ap (h1.trans e)
  ·have:=(h.v.lt g1 e.symm).2
   omega
 ·rcases hor with h1 | h1
  ·rcases h.fo with h2 | ⟨k,h2,h3⟩
   ·exact .inl (h1.symm.trans h2)
   ·exact .inr ⟨k,h1.symm.trans h2,h3⟩
  ·exact .inr ⟨g1,rfl,by omega⟩
 ·rw [hg.block b (by omega) ?_,h.keep b hb h1 h2]
  intro e
  rcases h.fo with h3 | ⟨k,h3,h4⟩
  ·rw [h3] at e;cases e;exact h1 rfl
  ·rw [h3] at e;cases e;omega
theorem CS.growV (h:CS w base gf gv W F lf V lv) {x:Int} {g1 c1:Nat} (hown:W'.ownsRow base 3 1 (.slice (some ⟨g1,0,none⟩) (lv.length + 1) c1) (lv.length + 1) (lv.map (Value.int .i64) ++ [.int .i64 x])) (hg:W.grownBy W' V.ownBlock) (hor:V.ownBlock=some g1 ∨ g1=W.heap.size) :
  CS w base gf gv W' F lf (.slice (some ⟨g1,0,none⟩) (lv.length + 1) c1) (lv ++ [x]):=by
 have hs:=h.sz
 refine ⟨h.f.kept hg (.inr h.ap),by simpa using hown,?_,h.fo,?_,fun b hb h1 h2 => ?_,Nat.le_trans h.sz hg.size,⟨hg.os.trans h.same.1,hg.tape.trans h.same.2.1,hg.output.trans h.same.2.2⟩⟩
 ·intro e
  rcases hor with h1 | h1
  ·exact h.ap (e.trans h1.symm)
  ·have:=(h.f.lt g1 e).2
   omega
 ·rcases hor with h1 | h1
  ·rcases h.vo with h2 | ⟨k,h2,h3⟩
   ·exact .inl (h1.symm.trans h2)
   ·exact .inr ⟨k,h1.symm.trans h2,h3⟩
  ·exact .inr ⟨g1,rfl,by omega⟩
 ·rw [hg.block b (by omega) ?_,h.keep b hb h1 h2]
  intro e
  rcases h.vo with h3 | ⟨k,h3,h4⟩
  ·rw [h3] at e;cases e;exact h2 rfl
  ·rw [h3] at e;cases e;omega
end
theorem news_at {W:World} {b:Nat} {x:Int} {t:TypeId} (h:W.heap[b]?=some (.cells #[.int .i64 x] t (0,0))):∀ (j:Nat) (u:Value),[Value.int .i64 x][j]?=some u → W.cell? ((⟨b,0,none⟩:Addr).add j)=some u :=
 fun j u hu => World.news_of_block h j u (by simpa using hu)
set_option maxRecDepth 100000 in
set_option maxHeartbeats 2000000 in
theorem come_stays (fr vals:List Int) (from_ mid:Int) (B base g i gf fc gv vc:Nat) (w:World) (hfi:Ints w B (.slice (some ⟨gf,0,none⟩) fr.length fc) fr)
  (c2:w.cell? ⟨g,i * 4 + 2,none⟩=some (.slice (some ⟨gf,0,none⟩) fr.length fc)) (c3:w.cell? ⟨g,i * 4 + 3,none⟩=some (.slice (some ⟨gv,0,none⟩) vals.length vc))
  (k2:w.frozen? ⟨g,i * 4 + 2,none⟩=false) (k3:w.frozen? ⟨g,i * 4 + 3,none⟩=false)
  (hF:w.ownsRow base 3 1 (.slice (some ⟨gf,0,none⟩) fr.length fc) fr.length (fr.map (Value.int .i64))) (hV:w.ownsRow base 3 1 (.slice (some ⟨gv,0,none⟩) vals.length vc) vals.length (vals.map (Value.int .i64)))
  (hln:vals.length=fr.length) (h512:fr.length ≤ 512) (hgl:g < w.heap.size) (hgf:g ≠ gf) (hgv:g ≠ gv) (hne:gf ≠ gv) (hb:base ≤ w.heap.size) (hm:from_ ∈ fr) :
  Calls Tryz.prog 102 #[.pointer (some ⟨g,i * 4,none⟩),.int .i64 from_,.int .i64 mid,.bool true] w (fun e w' => ∃ (W:World) (g1 d1 g2 d2:Nat) (y:Int),e=.returned (.tuple #[]) ∧ CS w base gf gv W (.slice (some ⟨g1,0,none⟩) (fr.length + 1) d1) (fr ++ [mid]) (.slice (some ⟨g2,0,none⟩) (vals.length + 1) d2) (vals ++ [y]) ∧ (∃ k:Nat,IdxIs fr from_ k ∧ vals[k]?=some y) ∧ w'=(W.setCell ⟨g,i * 4 + 2,none⟩ (.slice (some ⟨g1,0,none⟩) (fr.length + 1) d1)).setCell ⟨g,i * 4 + 3,none⟩ (.slice (some ⟨g2,0,none⟩) (vals.length + 1) d2)):=by
 have HFI:=hideI hfi
 have HF:=hideI hF
 have HV:=hideI hV
 have HM:=hideI hm
 have HLN:=hideI hln
 have hgfl:gf < w.heap.size:=(hF.lt gf rfl).2
 have hv512:vals.length ≤ 512:=by omega
 clear hfi hF hV hm hln
 go_enter Tryz.func102,Tryz.ntmps102
 go_wp2_with (first | (go_at_call 119;go_must (refine (index_any fr B _ _ _ HFI.out).mono ?_);rintro e w2 ⟨r,rfl,hr,rfl⟩;obtain ⟨at_,rfl,ha,hal,h0⟩:=idx_of hr HM.out;have HA:=hideI hr;clear hr ha))
 obtain ⟨y,hy⟩:∃ y,vals[at_]?=some y:=⟨_,List.getElem?_eq_getElem (by have:=HLN.out;omega)⟩
 have c4:w.cell? ⟨gv,at_,none⟩=some (.int .i64 y):=by rw [World.ownsRow.cellAt HV.out at_ (by have:=HLN.out;omega),List.getElem?_map,hy];rfl
 have hv1:at_ < vals.length:=(List.getElem?_eq_some_iff.1 hy).1
 have HY:=hideI hy
 clear hy
 have hS0:w.drew.cell? ⟨g,i * 4 + 2,none⟩=some (.slice (some ⟨gf,0,none⟩) fr.length fc) ∧ w.drew.cell? ⟨g,i * 4 + 3,none⟩=some (.slice (some ⟨gv,0,none⟩) vals.length vc) ∧ w.drew.cell? ⟨gv,at_,none⟩=some (.int .i64 y):=⟨c2,c3,c4⟩
 have C0:CS w base gf gv w.drew (.slice (some ⟨gf,0,none⟩) fr.length fc) fr (.slice (some ⟨gv,0,none⟩) vals.length vc) vals:=⟨HF.out,HV.out,by simp [Value.ownBlock];exact hne,.inl rfl,.inl rfl,fun _ _ _ _ => rfl,Nat.le_refl _,⟨rfl,rfl,rfl⟩⟩
 have HS:Hid (∀ W F lf,CS w base gf gv W F lf (.slice (some ⟨gv,0,none⟩) vals.length vc) vals → W.cell? ⟨g,i * 4 + 2,none⟩=some (.slice (some ⟨gf,0,none⟩) fr.length fc) ∧ W.cell? ⟨g,i * 4 + 3,none⟩=some (.slice (some ⟨gv,0,none⟩) vals.length vc) ∧ W.cell? ⟨gv,at_,none⟩=some (.int .i64 y)):=fun W F lf h =>
  ⟨(World.cell?_of_block (a:=⟨g,i * 4 + 2,none⟩) (h.keep g hgl hgf hgv)).trans c2,(World.cell?_of_block (a:=⟨g,i * 4 + 3,none⟩) (h.keep g hgl hgf hgv)).trans c3,by rw [World.ownsRow.cellAt h.v at_ (by omega),List.getElem?_map,HY.out];rfl⟩
 obtain ⟨i0,hix,hz0,hz1,hz2⟩:=info_parts int_info
 refine wp_region_late (by kernel_rfl) (fun W => W.cell? ⟨g,i * 4 + 2,none⟩=some (.slice (some ⟨gf,0,none⟩) fr.length fc) ∧ W.cell? ⟨g,i * 4 + 3,none⟩=some (.slice (some ⟨gv,0,none⟩) vals.length vc) ∧ W.cell? ⟨gv,at_,none⟩=some (.int .i64 y)) [21,24,25,26,27] ?_
 refine wpAnyT_quiet (i:=0) (v:=?_) rfl (by kernel_rfl) (by kernel_rfl) (by kernel_rfl) (fun _ _ _ h => h) (Or.inl ⟨by rfl,?_⟩) ?_
 rotate_left
 ·(intro w;go_simp;try with_reducible rfl)
 simp only [Act.put,List.setIfInBounds_toArray,List.set_cons_zero,List.set_cons_succ]
 refine wpAnyT_quiet (i:=1) (v:=?_) rfl (by kernel_rfl) (by kernel_rfl) (by kernel_rfl) (fun _ _ _ h => h) (Or.inl ⟨by rfl,?_⟩) ?_
 rotate_left
 ·(intro w;go_simp;try with_reducible rfl)
 simp only [Act.put,List.setIfInBounds_toArray,List.set_cons_zero,List.set_cons_succ]
 refine wpAnyT_quiet (i:=2) (v:=?_) rfl (by kernel_rfl) (by kernel_rfl) (by kernel_rfl) (fun _ _ _ h => h) (Or.inl ⟨by rfl,?_⟩) ?_
 rotate_left
 ·(intro w;go_simp;try with_reducible rfl)
 simp only [Act.put,List.setIfInBounds_toArray,List.set_cons_zero,List.set_cons_succ]
 refine wpAnyT_quiet (i:=3) (v:=?_) rfl (by kernel_rfl) (by kernel_rfl) (by kernel_rfl) (fun _ _ _ h => h) (Or.inl ⟨by rfl,?_⟩) ?_
 rotate_left
 ·(intro w;go_simp;try with_reducible rfl)
 simp only [Act.put,List.setIfInBounds_toArray,List.set_cons_zero,List.set_cons_succ]
 refine wpAnyT_quiet (i:=4) (v:=?_) rfl (by kernel_rfl) (by kernel_rfl) (by kernel_rfl) (fun _ _ _ h => h) (Or.inl ⟨by rfl,?_⟩) ?_
 rotate_left
 ·(intro w;go_simp;try with_reducible rfl)
 simp only [Act.put,List.setIfInBounds_toArray,List.set_cons_zero,List.set_cons_succ]
 refine wpAnyT_take [8,21,24,25,26,27] (i:=5) (v:=?_) rfl (by kernel_rfl) (by kernel_rfl) (by kernel_rfl) (by kernel_rfl) (by kernel_rfl) (by kernel_rfl) (fun _ _ _ h => h) hS0 (Or.inl ⟨by rfl,?_⟩) ?_
 rotate_left
 ·(intro w hSw;go_split_ands;go_simp;try with_reducible rfl)
 simp only [Act.put,List.setIfInBounds_toArray,List.set_cons_zero,List.set_cons_succ]
 refine wpAnyT_quiet (i:=6) (v:=?_) rfl (by kernel_rfl) (by kernel_rfl) (by kernel_rfl) (fun _ _ _ h => h) (Or.inl ⟨by rfl,?_⟩) ?_
 rotate_left
 ·(intro w;go_simp;try with_reducible rfl)
 simp only [Act.put,List.setIfInBounds_toArray,List.set_cons_zero,List.set_cons_succ]
 refine wpAnyT_quiet (i:=9) (v:=?_) rfl (by kernel_rfl) (by kernel_rfl) (by kernel_rfl) (fun _ _ _ h => h) (Or.inl ⟨by rfl,?_⟩) ?_
 rotate_left
 ·(intro w;go_simp;try with_reducible rfl)
 simp only [Act.put,List.setIfInBounds_toArray,List.set_cons_zero,List.set_cons_succ]
 refine wpAnyT_quiet (i:=10) (v:=?_) rfl (by kernel_rfl) (by kernel_rfl) (by kernel_rfl) (fun _ _ _ h => h) (Or.inl ⟨by rfl,?_⟩) ?_
 rotate_left
 ·(intro w;go_simp;try with_reducible rfl)
 simp only [Act.put,List.setIfInBounds_toArray,List.set_cons_zero,List.set_cons_succ]
 refine wpAnyT_quiet (i:=11) (v:=?_) rfl (by kernel_rfl) (by kernel_rfl) (by kernel_rfl) (fun _ _ _ h => h) (Or.inl ⟨by rfl,?_⟩) ?_
 rotate_left
 ·(intro w;go_simp;try with_reducible rfl)
 simp only [Act.put,List.setIfInBounds_toArray,List.set_cons_zero,List.set_cons_succ]
 refine wpAnyT_take [21,24,25,26,27] (i:=12) (v:=?_) rfl (by kernel_rfl) (by kernel_rfl) (by kernel_rfl) (by kernel_rfl) (by kernel_rfl) (by kernel_rfl) (fun _ _ _ h => h) hS0 (Or.inl ⟨by rfl,?_⟩) ?_
 rotate_left
 ·(intro w hSw;go_split_ands;go_simp;try with_reducible rfl)
 simp only [Act.put,List.setIfInBounds_toArray,List.set_cons_zero,List.set_cons_succ]
 refine wpAnyT_quiet (i:=13) (v:=?_) rfl (by kernel_rfl) (by kernel_rfl) (by kernel_rfl) (fun _ _ _ h => h) (Or.inl ⟨by rfl,?_⟩) ?_
 rotate_left
 ·(intro w;go_simp;try with_reducible rfl)
 simp only [Act.put,List.setIfInBounds_toArray,List.set_cons_zero,List.set_cons_succ]
 refine wpAnyT_quiet (i:=14) (v:=?_) rfl (by kernel_rfl) (by kernel_rfl) (by kernel_rfl) (fun _ _ _ h => h) (Or.inl ⟨by rfl,?_⟩) ?_
 rotate_left
 ·(intro w;go_simp;try with_reducible rfl)
 simp only [Act.put,List.setIfInBounds_toArray,List.set_cons_zero,List.set_cons_succ]
 refine wpAnyT_quiet (i:=15) (v:=?_) rfl (by kernel_rfl) (by kernel_rfl) (by kernel_rfl) (fun _ _ _ h => h) (Or.inl ⟨by rfl,?_⟩) ?_
 rotate_left
 ·(intro w;go_simp;try with_reducible rfl)
 simp only [Act.put,List.setIfInBounds_toArray,List.set_cons_zero,List.set_cons_succ]
 refine wpAnyT_take [18,19,20,21,24,25,26,27] (i:=16) (v:=?_) rfl (by kernel_rfl) (by kernel_rfl) (by kernel_rfl) (by kernel_rfl) (by kernel_rfl) (by kernel_rfl) (fun _ _ _ h => h) hS0 (Or.inl ⟨by rfl,?_⟩) ?_
 rotate_left
 ·(intro w hSw;go_split_ands;go_simp;try with_reducible rfl)
 simp only [Act.put,List.setIfInBounds_toArray,List.set_cons_zero,List.set_cons_succ]
 refine wpAnyT_quiet (i:=17) (v:=?_) rfl (by kernel_rfl) (by kernel_rfl) (by kernel_rfl) (fun _ _ _ h => h) (Or.inl ⟨by rfl,?_⟩) ?_
 rotate_left
 ·(intro w;go_simp;try with_reducible rfl)
 simp only [Act.put,List.setIfInBounds_toArray,List.set_cons_zero,List.set_cons_succ]
 refine wpAnyT_quiet (i:=18) (v:=?_) rfl (by kernel_rfl) (by kernel_rfl) (by kernel_rfl) (fun _ _ _ h => h) (Or.inl ⟨by rfl,?_⟩) ?_
 rotate_left
 ·(intro w;go_simp;try with_reducible rfl)
 simp only [Act.put,List.setIfInBounds_toArray,List.set_cons_zero,List.set_cons_succ]
 refine wpAnyT_take [20,21,24,25,26,27] (i:=19) (v:=?_) rfl (by kernel_rfl) (by kernel_rfl) (by kernel_rfl) (by kernel_rfl) (by kernel_rfl) (by kernel_rfl) (fun _ _ _ h => h) hS0 (Or.inl ⟨by rfl,?_⟩) ?_
 rotate_left
 ·(intro w hSw;go_split_ands;go_simp;try with_reducible rfl)
 simp only [Act.put,List.setIfInBounds_toArray,List.set_cons_zero,List.set_cons_succ]
 refine wpAnyT_ready (rs:=[7,20]) (by kernel_rfl) (by simp) ?_
 refine AllReadyT.cons rfl (fun K hK => ?_) ?_
 ·go_simp
  have C1:=C0.alloc (.cells #[.int .i64 mid] 3)
  refine hK.out _ _ (fun _ _ => HS.out _ _ _ C1) ?_
  clear hK K
  try simp only [Act.put,List.setIfInBounds_toArray,List.set_cons_zero,List.set_cons_succ]
  refine wpAnyT_ready (rs:=[8,20]) (by kernel_rfl) (by simp) ?_
  refine AllReadyT.cons rfl (fun K hK => ?_) ?_
  ·refine step_append_lies _ rfl (.tmp 32) (.tmp 34) _ rfl base 3 i0 (.int .i64 0) 1 8 Tryz.underlying22 hix hz0 hz1 hz2 rfl (by decide) _ _ _ rfl C1.f ⟨w.heap.size,0,none⟩ 1 1 [.int .i64 mid] rfl rfl (news_at (heap_alloc_new w _)) (by simp [Value.oneCell']) (by decide) (by simp only [maxLen];omega) (by omega) (Nat.le_trans hb C1.sz) _ rfl ?_
   intro g1 cap1 w2 hown1 hgrow1 hor1 _
   have C2:=C1.growF hown1 hgrow1 hor1
   refine hK.out _ _ (fun _ _ => HS.out _ _ _ C2) ?_
   clear hK K hown1 hgrow1 hor1
   try simp only [Act.put,List.setIfInBounds_toArray,List.set_cons_zero,List.set_cons_succ]
   refine wpAnyT_ready (rs:=[20]) (by kernel_rfl) (by simp) ?_
   refine AllReadyT.cons rfl (fun K hK => ?_) ?_
   ·go_simp
    have C3:=C2.alloc (.cells #[.int .i64 y] 3)
    refine hK.out _ _ (fun _ _ => HS.out _ _ _ C3) ?_
    clear hK K
    try simp only [Act.put,List.setIfInBounds_toArray,List.set_cons_zero,List.set_cons_succ]
    refine wpAnyT_ready (rs:=[21]) (by kernel_rfl) (by simp) ?_
    refine AllReadyT.cons rfl (fun K hK => ?_) ?_
    ·refine step_append_lies _ rfl (.tmp 39) (.tmp 47) _ rfl base 3 i0 (.int .i64 0) 1 8 Tryz.underlying22 hix hz0 hz1 hz2 rfl (by decide) _ _ _ rfl C3.v ⟨w2.heap.size,0,none⟩ 1 1 [.int .i64 y] rfl rfl (news_at (heap_alloc_new w2 _)) (by simp [Value.oneCell']) (by decide) (by simp only [maxLen];omega) (by omega) (Nat.le_trans hb C3.sz) _ rfl ?_
     intro g2 cap2 w3 hown1 hgrow1 hor1 _
     have C4:=C3.growV hown1 hgrow1 hor1
     refine hK.out _ _ (fun h => absurd (by simp) h) ?_
     clear hK K hown1 hgrow1 hor1
     try simp only [Act.put,List.setIfInBounds_toArray,List.set_cons_zero,List.set_cons_succ]
     refine wpAnyT_quiet (i:=22) (v:=?_) rfl (by kernel_rfl) (by kernel_rfl) (by kernel_rfl) (fun _ _ _ h => h) (Or.inl ⟨by rfl,?_⟩) ?_
     rotate_left
     ·(intro w;go_simp;try with_reducible rfl)
     try simp only [Act.put,List.setIfInBounds_toArray,List.set_cons_zero,List.set_cons_succ]
     refine wpAnyT_quiet (i:=23) (v:=?_) rfl (by kernel_rfl) (by kernel_rfl) (by kernel_rfl) (fun _ _ _ h => h) (Or.inl ⟨by rfl,?_⟩) ?_
     rotate_left
     ·(intro w;go_simp;try with_reducible rfl)
     try simp only [Act.put,List.setIfInBounds_toArray,List.set_cons_zero,List.set_cons_succ]
     have e2:w3.cell? ⟨g,i * 4 + 2,none⟩=some (.slice (some ⟨gf,0,none⟩) fr.length fc):=(World.cell?_of_block (a:=⟨g,i * 4 + 2,none⟩) (C4.keep g hgl hgf hgv)).trans c2
     have e3:w3.cell? ⟨g,i * 4 + 3,none⟩=some (.slice (some ⟨gv,0,none⟩) vals.length vc):=(World.cell?_of_block (a:=⟨g,i * 4 + 3,none⟩) (C4.keep g hgl hgf hgv)).trans c3
     have m2:w3.frozen? ⟨g,i * 4 + 2,none⟩=false:=(World.frozen?_of_block (a:=⟨g,i * 4 + 2,none⟩) (C4.keep g hgl hgf hgv)).trans k2
     have m3:w3.frozen? ⟨g,i * 4 + 3,none⟩=false:=(World.frozen?_of_block (a:=⟨g,i * 4 + 3,none⟩) (C4.keep g hgl hgf hgv)).trans k3
     refine wpAnyT_ready (rs:=[24]) (by kernel_rfl) (by simp) ?_
     refine AllReadyT.cons rfl (fun K hK => ?_) ?_
     ·go_simp
      refine hK.out _ _ (fun h => absurd (by simp) h) ?_
      clear hK K
      try simp only [Act.put,List.setIfInBounds_toArray,List.set_cons_zero,List.set_cons_succ]
      refine wpAnyT_quiet (i:=25) (v:=?_) rfl (by kernel_rfl) (by kernel_rfl) (by kernel_rfl) (fun _ _ _ h => h) (Or.inl ⟨by rfl,?_⟩) ?_
      rotate_left
      ·(intro w;go_simp;try with_reducible rfl)
      try simp only [Act.put,List.setIfInBounds_toArray,List.set_cons_zero,List.set_cons_succ]
      refine wpAnyT_quiet (i:=26) (v:=?_) rfl (by kernel_rfl) (by kernel_rfl) (by kernel_rfl) (fun _ _ _ h => h) (Or.inl ⟨by rfl,?_⟩) ?_
      rotate_left
      ·(intro w;go_simp;try with_reducible rfl)
      try simp only [Act.put,List.setIfInBounds_toArray,List.set_cons_zero,List.set_cons_succ]
      refine wpAnyT_ready (rs:=[27]) (by kernel_rfl) (by simp) ?_
      refine AllReadyT.cons rfl (fun K hK => ?_) ?_
      ·go_simp
       refine hK.out _ _ (fun h => absurd (by simp) h) ?_
       clear hK K
       try simp only [Act.put,List.setIfInBounds_toArray,List.set_cons_zero,List.set_cons_succ]
       refine wpAnyT_done (by kernel_rfl) ?_ _
       simp only [Exit.inBlock]
       exact bodyPost_end (results_none rfl _ _ _) rfl ⟨_,_,_,_,_,_,rfl,C4,⟨_,HA.out,HY.out⟩,rfl⟩
      ·exact AllReadyT.nil
     ·exact AllReadyT.nil
    ·exact AllReadyT.nil
   ·exact AllReadyT.nil
  refine AllReadyT.cons rfl (fun K hK => ?_) ?_
  ·go_simp
   have C2:=C1.alloc (.cells #[.int .i64 y] 3)
   refine hK.out _ _ (fun _ _ => HS.out _ _ _ C2) ?_
   clear hK K
   try simp only [Act.put,List.setIfInBounds_toArray,List.set_cons_zero,List.set_cons_succ]
   refine wpAnyT_ready (rs:=[8]) (by kernel_rfl) (by simp) ?_
   refine AllReadyT.cons rfl (fun K hK => ?_) ?_
   ·refine step_append_lies _ rfl (.tmp 32) (.tmp 34) _ rfl base 3 i0 (.int .i64 0) 1 8 Tryz.underlying22 hix hz0 hz1 hz2 rfl (by decide) _ _ _ rfl C2.f ⟨w.heap.size,0,none⟩ 1 1 [.int .i64 mid] rfl rfl (news_at (Eq.trans (Below.heap_alloc _ _ _ (by simp)) (heap_alloc_new w _))) (by simp [Value.oneCell']) (by decide) (by simp only [maxLen];omega) (by omega) (Nat.le_trans hb C2.sz) _ rfl ?_
    intro g1 cap1 w2 hown1 hgrow1 hor1 _
    have C3:=C2.growF hown1 hgrow1 hor1
    refine hK.out _ _ (fun _ _ => HS.out _ _ _ C3) ?_
    have hgr:∀ b,b < (((w.alloc (.cells #[.int .i64 mid] 3)).alloc (.cells #[.int .i64 y] 3))).heap.size → b ≠ gf → w2.heap[b]?=(((w.alloc (.cells #[.int .i64 mid] 3)).alloc (.cells #[.int .i64 y] 3))).heap[b]?:=fun b h1 h2 => hgrow1.block b h1 (by first | exact fun e => h2 (Option.some.inj e) | exact fun e => h2 (Option.some.inj e).symm)
    clear hK K hown1 hgrow1 hor1
    try simp only [Act.put,List.setIfInBounds_toArray,List.set_cons_zero,List.set_cons_succ]
    refine wpAnyT_ready (rs:=[21]) (by kernel_rfl) (by simp) ?_
    refine AllReadyT.cons rfl (fun K hK => ?_) ?_
    ·refine step_append_lies _ rfl (.tmp 39) (.tmp 47) _ rfl base 3 i0 (.int .i64 0) 1 8 Tryz.underlying22 hix hz0 hz1 hz2 rfl (by decide) _ _ _ rfl C3.v ⟨(w.heap.size + 1),0,none⟩ 1 1 [.int .i64 y] rfl rfl (news_at (Eq.trans (hgr (w.heap.size + 1) (by simp) (by simp;omega)) (heap_alloc2_new w _ _))) (by simp [Value.oneCell']) (by decide) (by simp only [maxLen];omega) (by omega) (Nat.le_trans hb C3.sz) _ rfl ?_
     intro g2 cap2 w3 hown1 hgrow1 hor1 _
     have C4:=C3.growV hown1 hgrow1 hor1
     refine hK.out _ _ (fun h => absurd (by simp) h) ?_
     clear hK K hown1 hgrow1 hor1
     try simp only [Act.put,List.setIfInBounds_toArray,List.set_cons_zero,List.set_cons_succ]
     refine wpAnyT_quiet (i:=22) (v:=?_) rfl (by kernel_rfl) (by kernel_rfl) (by kernel_rfl) (fun _ _ _ h => h) (Or.inl ⟨by rfl,?_⟩) ?_
     rotate_left
     ·(intro w;go_simp;try with_reducible rfl)
     try simp only [Act.put,List.setIfInBounds_toArray,List.set_cons_zero,List.set_cons_succ]
     refine wpAnyT_quiet (i:=23) (v:=?_) rfl (by kernel_rfl) (by kernel_rfl) (by kernel_rfl) (fun _ _ _ h => h) (Or.inl ⟨by rfl,?_⟩) ?_
     rotate_left
     ·(intro w;go_simp;try with_reducible rfl)
     try simp only [Act.put,List.setIfInBounds_toArray,List.set_cons_zero,List.set_cons_succ]
     have e2:w3.cell? ⟨g,i * 4 + 2,none⟩=some (.slice (some ⟨gf,0,none⟩) fr.length fc):=(World.cell?_of_block (a:=⟨g,i * 4 + 2,none⟩) (C4.keep g hgl hgf hgv)).trans c2
     have e3:w3.cell? ⟨g,i * 4 + 3,none⟩=some (.slice (some ⟨gv,0,none⟩) vals.length vc):=(World.cell?_of_block (a:=⟨g,i * 4 + 3,none⟩) (C4.keep g hgl hgf hgv)).trans c3
     have m2:w3.frozen? ⟨g,i * 4 + 2,none⟩=false:=(World.frozen?_of_block (a:=⟨g,i * 4 + 2,none⟩) (C4.keep g hgl hgf hgv)).trans k2
     have m3:w3.frozen? ⟨g,i * 4 + 3,none⟩=false:=(World.frozen?_of_block (a:=⟨g,i * 4 + 3,none⟩) (C4.keep g hgl hgf hgv)).trans k3
     refine wpAnyT_ready (rs:=[24]) (by kernel_rfl) (by simp) ?_
     refine AllReadyT.cons rfl (fun K hK => ?_) ?_
     ·go_simp
      refine hK.out _ _ (fun h => absurd (by simp) h) ?_
      clear hK K
      try simp only [Act.put,List.setIfInBounds_toArray,List.set_cons_zero,List.set_cons_succ]
      refine wpAnyT_quiet (i:=25) (v:=?_) rfl (by kernel_rfl) (by kernel_rfl) (by kernel_rfl) (fun _ _ _ h => h) (Or.inl ⟨by rfl,?_⟩) ?_
      rotate_left
      ·(intro w;go_simp;try with_reducible rfl)
      try simp only [Act.put,List.setIfInBounds_toArray,List.set_cons_zero,List.set_cons_succ]
      refine wpAnyT_quiet (i:=26) (v:=?_) rfl (by kernel_rfl) (by kernel_rfl) (by kernel_rfl) (fun _ _ _ h => h) (Or.inl ⟨by rfl,?_⟩) ?_
      rotate_left
      ·(intro w;go_simp;try with_reducible rfl)
      try simp only [Act.put,List.setIfInBounds_toArray,List.set_cons_zero,List.set_cons_succ]
      refine wpAnyT_ready (rs:=[27]) (by kernel_rfl) (by simp) ?_
      refine AllReadyT.cons rfl (fun K hK => ?_) ?_
      ·go_simp
       refine hK.out _ _ (fun h => absurd (by simp) h) ?_
       clear hK K
       try simp only [Act.put,List.setIfInBounds_toArray,List.set_cons_zero,List.set_cons_succ]
       refine wpAnyT_done (by kernel_rfl) ?_ _
       simp only [Exit.inBlock]
       exact bodyPost_end (results_none rfl _ _ _) rfl ⟨_,_,_,_,_,_,rfl,C4,⟨_,HA.out,HY.out⟩,rfl⟩
      ·exact AllReadyT.nil
     ·exact AllReadyT.nil
    ·exact AllReadyT.nil
   ·exact AllReadyT.nil
  ·exact AllReadyT.nil
 refine AllReadyT.cons rfl (fun K hK => ?_) ?_
 ·go_simp
  have C1:=C0.alloc (.cells #[.int .i64 y] 3)
  refine hK.out _ _ (fun _ _ => HS.out _ _ _ C1) ?_
  clear hK K
  try simp only [Act.put,List.setIfInBounds_toArray,List.set_cons_zero,List.set_cons_succ]
  refine wpAnyT_ready (rs:=[7]) (by kernel_rfl) (by simp) ?_
  refine AllReadyT.cons rfl (fun K hK => ?_) ?_
  ·go_simp
   have C2:=C1.alloc (.cells #[.int .i64 mid] 3)
   refine hK.out _ _ (fun _ _ => HS.out _ _ _ C2) ?_
   clear hK K
   try simp only [Act.put,List.setIfInBounds_toArray,List.set_cons_zero,List.set_cons_succ]
   refine wpAnyT_ready (rs:=[8]) (by kernel_rfl) (by simp) ?_
   refine AllReadyT.cons rfl (fun K hK => ?_) ?_
   ·refine step_append_lies _ rfl (.tmp 32) (.tmp 34) _ rfl base 3 i0 (.int .i64 0) 1 8 Tryz.underlying22 hix hz0 hz1 hz2 rfl (by decide) _ _ _ rfl C2.f ⟨(w.heap.size + 1),0,none⟩ 1 1 [.int .i64 mid] rfl rfl (news_at (heap_alloc2_new w _ _)) (by simp [Value.oneCell']) (by decide) (by simp only [maxLen];omega) (by omega) (Nat.le_trans hb C2.sz) _ rfl ?_
    intro g1 cap1 w2 hown1 hgrow1 hor1 _
    have C3:=C2.growF hown1 hgrow1 hor1
    refine hK.out _ _ (fun _ _ => HS.out _ _ _ C3) ?_
    have hgr:∀ b,b < (((w.alloc (.cells #[.int .i64 y] 3)).alloc (.cells #[.int .i64 mid] 3))).heap.size → b ≠ gf → w2.heap[b]?=(((w.alloc (.cells #[.int .i64 y] 3)).alloc (.cells #[.int .i64 mid] 3))).heap[b]?:=fun b h1 h2 => hgrow1.block b h1 (by first | exact fun e => h2 (Option.some.inj e) | exact fun e => h2 (Option.some.inj e).symm)
    clear hK K hown1 hgrow1 hor1
    try simp only [Act.put,List.setIfInBounds_toArray,List.set_cons_zero,List.set_cons_succ]
    refine wpAnyT_ready (rs:=[21]) (by kernel_rfl) (by simp) ?_
    refine AllReadyT.cons rfl (fun K hK => ?_) ?_
    ·refine step_append_lies _ rfl (.tmp 39) (.tmp 47) _ rfl base 3 i0 (.int .i64 0) 1 8 Tryz.underlying22 hix hz0 hz1 hz2 rfl (by decide) _ _ _ rfl C3.v ⟨w.heap.size,0,none⟩ 1 1 [.int .i64 y] rfl rfl (news_at (Eq.trans (hgr w.heap.size (by simp;omega) (by omega)) (Eq.trans (Below.heap_alloc _ _ _ (by simp)) (heap_alloc_new w _)))) (by simp [Value.oneCell']) (by decide) (by simp only [maxLen];omega) (by omega) (Nat.le_trans hb C3.sz) _ rfl ?_
     intro g2 cap2 w3 hown1 hgrow1 hor1 _
     have C4:=C3.growV hown1 hgrow1 hor1
     refine hK.out _ _ (fun h => absurd (by simp) h) ?_
     clear hK K hown1 hgrow1 hor1
     try simp only [Act.put,List.setIfInBounds_toArray,List.set_cons_zero,List.set_cons_succ]
     refine wpAnyT_quiet (i:=22) (v:=?_) rfl (by kernel_rfl) (by kernel_rfl) (by kernel_rfl) (fun _ _ _ h => h) (Or.inl ⟨by rfl,?_⟩) ?_
     rotate_left
     ·(intro w;go_simp;try with_reducible rfl)
     try simp only [Act.put,List.setIfInBounds_toArray,List.set_cons_zero,List.set_cons_succ]
     refine wpAnyT_quiet (i:=23) (v:=?_) rfl (by kernel_rfl) (by kernel_rfl) (by kernel_rfl) (fun _ _ _ h => h) (Or.inl ⟨by rfl,?_⟩) ?_
     rotate_left
     ·(intro w;go_simp;try with_reducible rfl)
     try simp only [Act.put,List.setIfInBounds_toArray,List.set_cons_zero,List.set_cons_succ]
     have e2:w3.cell? ⟨g,i * 4 + 2,none⟩=some (.slice (some ⟨gf,0,none⟩) fr.length fc):=(World.cell?_of_block (a:=⟨g,i * 4 + 2,none⟩) (C4.keep g hgl hgf hgv)).trans c2
     have e3:w3.cell? ⟨g,i * 4 + 3,none⟩=some (.slice (some ⟨gv,0,none⟩) vals.length vc):=(World.cell?_of_block (a:=⟨g,i * 4 + 3,none⟩) (C4.keep g hgl hgf hgv)).trans c3
     have m2:w3.frozen? ⟨g,i * 4 + 2,none⟩=false:=(World.frozen?_of_block (a:=⟨g,i * 4 + 2,none⟩) (C4.keep g hgl hgf hgv)).trans k2
     have m3:w3.frozen? ⟨g,i * 4 + 3,none⟩=false:=(World.frozen?_of_block (a:=⟨g,i * 4 + 3,none⟩) (C4.keep g hgl hgf hgv)).trans k3
     refine wpAnyT_ready (rs:=[24]) (by kernel_rfl) (by simp) ?_
     refine AllReadyT.cons rfl (fun K hK => ?_) ?_
     ·go_simp
      refine hK.out _ _ (fun h => absurd (by simp) h) ?_
      clear hK K
      try simp only [Act.put,List.setIfInBounds_toArray,List.set_cons_zero,List.set_cons_succ]
      refine wpAnyT_quiet (i:=25) (v:=?_) rfl (by kernel_rfl) (by kernel_rfl) (by kernel_rfl) (fun _ _ _ h => h) (Or.inl ⟨by rfl,?_⟩) ?_
      rotate_left
      ·(intro w;go_simp;try with_reducible rfl)
      try simp only [Act.put,List.setIfInBounds_toArray,List.set_cons_zero,List.set_cons_succ]
      refine wpAnyT_quiet (i:=26) (v:=?_) rfl (by kernel_rfl) (by kernel_rfl) (by kernel_rfl) (fun _ _ _ h => h) (Or.inl ⟨by rfl,?_⟩) ?_
      rotate_left
      ·(intro w;go_simp;try with_reducible rfl)
      try simp only [Act.put,List.setIfInBounds_toArray,List.set_cons_zero,List.set_cons_succ]
      refine wpAnyT_ready (rs:=[27]) (by kernel_rfl) (by simp) ?_
      refine AllReadyT.cons rfl (fun K hK => ?_) ?_
      ·go_simp
       refine hK.out _ _ (fun h => absurd (by simp) h) ?_
       clear hK K
       try simp only [Act.put,List.setIfInBounds_toArray,List.set_cons_zero,List.set_cons_succ]
       refine wpAnyT_done (by kernel_rfl) ?_ _
       simp only [Exit.inBlock]
       exact bodyPost_end (results_none rfl _ _ _) rfl ⟨_,_,_,_,_,_,rfl,C4,⟨_,HA.out,HY.out⟩,rfl⟩
      ·exact AllReadyT.nil
     ·exact AllReadyT.nil
    ·exact AllReadyT.nil
   ·exact AllReadyT.nil
  ·exact AllReadyT.nil
 ·exact AllReadyT.nil
end Go.Proofs.YtglbepdjahddmaaGreat
namespace Go.Proofs.YtglbepdjahddmaaGreat
open Go.RowKit
def TI (f:FuncM) (t:Tag):Prop:=(rowOf f (fun _ => .bool false) t).isSome=true
theorem TI.of {f:FuncM} {val:Vals} {t:Tag} {d:RowD} (h:rowOf f val t=some d):TI f t:=by
 unfold TI
 rw [rowOf_some f _ val t,h]
 rfl
theorem TI.row {f:FuncM} {t:Tag} (h:TI f t) (val:Vals):∃ d,rowOf f val t=some d:=by
 unfold TI at h
 rw [rowOf_some f _ val t] at h
 exact Option.isSome_iff_exists.1 h
abbrev Owned (w:World) (base:Nat) (f:FuncM) (val:Vals):Prop:=OwnG w base (rowOf f val) val (TI f)
theorem Owned.of {w:World} {base:Nat} {f:FuncM} {val:Vals} (h:OwnG w base (rowOf f val) val (EE f f.blocks.length)):Owned w base f val :=
 h.congr (fun _ _ => rfl) (fun _ _ => rfl) (fun t ht => by obtain ⟨d,hd⟩:=TI.row ht val;exact EE.all hd)
theorem Owned.ee {w:World} {base:Nat} {f:FuncM} {val:Vals} (h:Owned w base f val) (hee:∀ t,EE f f.blocks.length t → TI f t):OwnG w base (rowOf f val) val (EE f f.blocks.length) :=
 h.congr (fun _ _ => rfl) (fun _ _ => rfl) hee
theorem EE.ti {f:FuncM} {t:Tag} (h:EE f f.blocks.length t):TI f t:=by
 rcases h with rfl | rfl | ⟨k,q,hk,hq,h⟩
 ·rfl
 ·rfl
 ·rcases h with rfl | rfl | rfl | ⟨i,hi,rfl | rfl⟩ | ⟨i,hi,rfl⟩
  ·unfold TI;simp [rowOf,hq]
  ·unfold TI;simp [rowOf,hq]
  ·unfold TI;simp [rowOf,hq]
  ·unfold TI;simp [rowOf,hq,List.getElem?_eq_getElem hi]
  ·unfold TI;simp [rowOf,hq,List.getElem?_eq_getElem hi]
  ·unfold TI;simp [rowOf,hq,List.getElem?_eq_getElem hi]
def putPhi (i:Nat) (p1:PhiM) (b:BlockM):BlockM:={ b with phis:=b.phis.set i p1 }
def setPhi (f:FuncM) (t i:Nat) (p1:PhiM):FuncM:={ f with blocks:=f.blocks.modify t (putPhi i p1) }
theorem setPhi_block {f:FuncM} {t i:Nat} {p1:PhiM} (k:Nat):(setPhi f t i p1).blocks[k]?=if k=t then f.blocks[k]?.map (putPhi i p1) else f.blocks[k]?:=by
 show (f.blocks.modify t (putPhi i p1))[k]?=_
 rw [List.getElem?_modify]
 by_cases e:t=k
 ·rw [if_pos e.symm];simp [e]
 ·rw [if_neg (fun h => e h.symm)];simp [e]
section
variable {α:Type} {g g':Nat → α → List Value}
theorem cellsOf_zip:∀ (l l':List α) (i:Nat),l.length=l'.length → (∀ k a a',l[k]?=some a → l'[k]?=some a' → g (i + k) a=g' (i + k) a') → cellsOf g i l=cellsOf g' i l':=by
 intro l
 induction l with
 | nil =>
  intro l' i hl _
  have:l'=[]:=List.eq_nil_of_length_eq_zero (by simpa using hl.symm)
  subst this
  rfl
 | cons a l ih =>
  intro l' i hl h
  cases l' with
  | nil => simp at hl
  | cons a' l' =>
   rw [cellsOf,cellsOf,ih l' (i + 1) (by simpa using hl) (fun k b b' hb hb' => by have:=h (k + 1) b b' (by simpa using hb) (by simpa using hb');rwa [show i + (k + 1)=i + 1 + k by omega] at this)]
   rw [show g i a=g' i a' from by simpa using h 0 a a' rfl rfl]
end
section
variable {f:FuncM} {val val1:Vals} {t i:Nat} {q:BlockM} {p p1:PhiM}
theorem setPhi_row (_hq:f.blocks[t]?=some q) (_hp:q.phis[i]?=some p) (_hid:p1.id=p.id) (_htyp:p1.typ=p.typ) (hv:∀ tag,tag ≠ .fr t i → tag ≠ .vals t i → val1 tag=val tag) (tag:Tag) (h1:tag ≠ .fr t i) (h2:tag ≠ .vals t i) (h3:tag ≠ .phis t) :
  rowOf (setPhi f t i p1) val1 tag=rowOf f val tag:=by
 cases tag with
 | params => rfl
 | blocks =>
  show some _=some _
  congr 2
  ·show (f.blocks.modify t _).length=_
   rw [List.length_modify]
  ·refine cellsOf_zip _ _ 0 (by show (f.blocks.modify t _).length=_;rw [List.length_modify]) fun k a a' ha ha' => ?_
   rw [setPhi_block,ha'] at ha
   rw [Nat.zero_add]
   unfold blockCells
   rw [hv (.phis k) (by simp) (by simp),hv (.code k) (by simp) (by simp),hv (.ends k) (by simp) (by simp)]
   split at ha
   ·simp only [Option.map_some,Option.some.injEq] at ha;subst ha;rfl
   ·cases ha;rfl
 | phis k =>
  have hk:k ≠ t:=fun e => h3 (by rw [e])
  simp only [rowOf]
  rw [setPhi_block,if_neg hk]
  refine congrArg (fun F => Option.map F f.blocks[k]?) (funext fun b => ?_)
  congr 1
  refine cellsOf_congr _ 0 fun j a _ => ?_
  unfold phiCells
  rw [hv _ (by simp [hk]) (by simp),hv _ (by simp) (by simp [hk])]
 | code k =>
  simp only [rowOf]
  rw [setPhi_block]
  have hc:∀ b:BlockM,(⟨89,4,b.code.length,cellsOf (instrCells val1 k) 0 b.code⟩:RowD)=⟨89,4,b.code.length,cellsOf (instrCells val k) 0 b.code⟩:=fun b => by
   congr 1
   refine cellsOf_congr _ 0 fun j a _ => ?_
   unfold instrCells
   rw [hv _ (by simp) (by simp)]
  split
  ·cases f.blocks[k]? with
   | none => rfl
   | some b => simp only [Option.map_some,Option.some.injEq];exact hc b
  ·cases f.blocks[k]? with
   | none => rfl
   | some b => simp only [Option.map_some,Option.some.injEq];exact hc b
 | ends k =>
  simp only [rowOf]
  rw [setPhi_block]
  split
  ·cases f.blocks[k]? <;> rfl
  ·rfl
 | args k j =>
  simp only [rowOf]
  rw [setPhi_block]
  split
  ·cases f.blocks[k]? <;> rfl
  ·rfl
 | fr k j =>
  simp only [rowOf]
  rw [setPhi_block]
  by_cases e:k=t
  ·rw [if_pos e]
   subst e
   have hj:i ≠ j:=fun e => h1 (by rw [e])
   cases f.blocks[k]? with
   | none => rfl
   | some b => simp only [Option.map_some,Option.bind_some];show ((b.phis.set i p1)[j]?).map _=_;rw [List.getElem?_set_ne hj]
  ·rw [if_neg e]
 | vals k j =>
  simp only [rowOf]
  rw [setPhi_block]
  by_cases e:k=t
  ·rw [if_pos e]
   subst e
   have hj:i ≠ j:=fun e => h2 (by rw [e])
   cases f.blocks[k]? with
   | none => rfl
   | some b => simp only [Option.map_some,Option.bind_some];show ((b.phis.set i p1)[j]?).map _=_;rw [List.getElem?_set_ne hj]
  ·rw [if_neg e]
theorem setPhi_fr (hq:f.blocks[t]?=some q) (hp:q.phis[i]?=some p):rowOf (setPhi f t i p1) val1 (.fr t i)=some (intsRow p1.fr):=by
 simp only [rowOf]
 rw [setPhi_block,if_pos rfl,hq]
 simp only [Option.map_some,Option.bind_some]
 show ((q.phis.set i p1)[i]?).map _=_
 rw [List.getElem?_set_self (List.getElem?_eq_some_iff.1 hp).1]
 rfl
theorem setPhi_vals (hq:f.blocks[t]?=some q) (hp:q.phis[i]?=some p):rowOf (setPhi f t i p1) val1 (.vals t i)=some (intsRow p1.vals):=by
 simp only [rowOf]
 rw [setPhi_block,if_pos rfl,hq]
 simp only [Option.map_some,Option.bind_some]
 show ((q.phis.set i p1)[i]?).map _=_
 rw [List.getElem?_set_self (List.getElem?_eq_some_iff.1 hp).1]
 rfl
theorem setPhi_phis (hq:f.blocks[t]?=some q):rowOf (setPhi f t i p1) val1 (.phis t)=some ⟨128,4,q.phis.length,cellsOf (phiCells val1 t) 0 (q.phis.set i p1)⟩:=by
 simp only [rowOf]
 rw [setPhi_block,if_pos rfl,hq]
 simp only [Option.map_some,Option.some.injEq]
 congr 1
 show (q.phis.set i p1).length=_
 rw [List.length_set]
theorem row_fr (hq:f.blocks[t]?=some q) (hp:q.phis[i]?=some p):rowOf f val (.fr t i)=some (intsRow p.fr):=by simp [rowOf,hq,hp]
theorem row_vals (hq:f.blocks[t]?=some q) (hp:q.phis[i]?=some p):rowOf f val (.vals t i)=some (intsRow p.vals):=by simp [rowOf,hq,hp]
theorem setPhi_ti (hq:f.blocks[t]?=some q) (hp:q.phis[i]?=some p) (hid:p1.id=p.id) (htyp:p1.typ=p.typ) (tag:Tag):TI (setPhi f t i p1) tag ↔ TI f tag:=by
 by_cases h1:tag=.fr t i
 ·subst h1;exact ⟨fun _ => TI.of (row_fr (val:=fun _ => .bool false) hq hp),fun _ => TI.of (setPhi_fr (val1:=fun _ => .bool false) hq hp)⟩
 by_cases h2:tag=.vals t i
 ·subst h2;exact ⟨fun _ => TI.of (row_vals (val:=fun _ => .bool false) hq hp),fun _ => TI.of (setPhi_vals (val1:=fun _ => .bool false) hq hp)⟩
 by_cases h3:tag=.phis t
 ·subst h3;exact ⟨fun _ => TI.of (row_phis (val:=fun _ => .bool false) hq),fun _ => TI.of (setPhi_phis (val1:=fun _ => .bool false) hq)⟩
 ·have:=setPhi_row (val:=fun _ => .bool false) (val1:=fun _ => .bool false) hq hp hid htyp (fun _ _ _ => rfl) tag h1 h2 h3
  unfold TI
  rw [this]
theorem setPhi_self (hq:f.blocks[t]?=some q) (hp:q.phis[i]?=some p):setPhi f t i p=f:=by
 have:f.blocks.modify t (putPhi i p)=f.blocks:=by
  apply List.ext_getElem?
  intro k
  have:=setPhi_block (f:=f) (t:=t) (i:=i) (p1:=p) k
  rw [show (f.blocks.modify t (putPhi i p))[k]?=(setPhi f t i p).blocks[k]? from rfl,this]
  split
  ·rename_i e
   subst e
   rw [hq]
   simp only [Option.map_some,Option.some.injEq]
   unfold putPhi
   have:q.phis.set i p=q.phis:=by
    apply List.ext_getElem?
    intro j
    by_cases e:i=j
    ·subst e;rw [List.getElem?_set_self (List.getElem?_eq_some_iff.1 hp).1,hp]
    ·rw [List.getElem?_set_ne e]
   rw [this]
  ·rfl
 unfold setPhi
 rw [this]
end
theorem idx_none {xs:List Int} {x r:Int} (h:IdxIs xs x r) (hm:x ∉ xs):r=-1:=by
 rcases h with ⟨h,_⟩ | ⟨k,_,h,_⟩
 ·exact h
 ·exact absurd (List.mem_of_getElem? h) hm
theorem idx_first {xs:List Int} {x:Int} {k:Nat} (h:IdxIs xs x k):xs.idxOf x=k:=by
 rcases h with ⟨h,_⟩ | ⟨k',h1,h2,h3⟩
 ·omega
 ·have e:k=k':=by omega
  subst e
  have hk:=(List.getElem?_eq_some_iff.1 h2).1
  have hx:=(List.getElem?_eq_some_iff.1 h2).2
  have hd:xs=xs.take k ++ x :: xs.drop (k + 1):=by
   rw [← hx,List.getElem_cons_drop,List.take_append_drop]
  rw [hd,List.idxOf_append,if_neg h3]
  simp
  omega
set_option maxRecDepth 100000 in
set_option maxHeartbeats 1000000 in
theorem come_none (xs:List Int) (from_ mid:Int) (stays:Bool) (B g i:Nat) (v:Value) (w:World) (hfi:Ints w B v xs) (c2:w.cell? ⟨g,i * 4 + 2,none⟩=some v) (hm:from_ ∉ xs) :
  Calls Tryz.prog 102 #[.pointer (some ⟨g,i * 4,none⟩),.int .i64 from_,.int .i64 mid,.bool stays] w (fun e w' => e=.returned (.tuple #[]) ∧ w'.heap=w.heap ∧ Below w.heap.size w w'):=by
 have HFI:=hideI hfi
 obtain ⟨A,c,rfl,_,_⟩:=hfi
 have HM:=hideI hm
 clear hm
 go_enter Tryz.func102,Tryz.ntmps102
 go_wp2_with (first | (go_at_call 119;go_must (refine (index_any xs B _ _ _ HFI.out).mono ?_);rintro e w2 ⟨r,rfl,hr,rfl⟩;obtain rfl:r=-1:=idx_none hr HM.out;clear hr))
 go_end0
 exact ⟨rfl,rfl,rfl,rfl,rfl,Nat.le_refl _,fun _ _ => rfl⟩
set_option maxRecDepth 100000 in
set_option maxHeartbeats 1000000 in
theorem come_put (xs:List Int) (from_ mid:Int) (B g i gf fc:Nat) (w:World) (hfi:Ints w B (.slice (some ⟨gf,0,none⟩) xs.length fc) xs) (c2:w.cell? ⟨g,i * 4 + 2,none⟩=some (.slice (some ⟨gf,0,none⟩) xs.length fc))
  (hc:∀ k,k < xs.length → w.cell? ⟨gf,k,none⟩=(xs.map (Value.int .i64))[k]? ∧ w.frozen? ⟨gf,k,none⟩=false) (hm:from_ ∈ xs) :
  Calls Tryz.prog 102 #[.pointer (some ⟨g,i * 4,none⟩),.int .i64 from_,.int .i64 mid,.bool false] w (fun e w' => ∃ k:Nat,e=.returned (.tuple #[]) ∧ IdxIs xs from_ k ∧ k < xs.length ∧ ∃ W:World,W.heap=w.heap ∧ Below w.heap.size w W ∧ w'=W.setCell ⟨gf,k,none⟩ (.int .i64 mid)):=by
 have HFI:=hideI hfi
 have HC:=hideI hc
 have HM:=hideI hm
 clear hfi hc hm
 go_enter Tryz.func102,Tryz.ntmps102
 go_wp2_with (first | (go_at_call 119;go_must (refine (index_any xs B _ _ _ HFI.out).mono ?_);rintro e w2 ⟨r,rfl,hr,rfl⟩;obtain ⟨at_,rfl,ha,hal,h0⟩:=idx_of hr HM.out;have HA:=hideI hr;obtain ⟨k1,k2⟩:=HC.out at_ hal;rw [List.getElem?_map,ha] at k1;simp only [Option.map_some] at k1;clear hr ha))
 go_end0
 exact ⟨_,rfl,HA.out,hal,_,rfl,⟨rfl,rfl,rfl,Nat.le_refl _,fun _ _ => rfl⟩,rfl⟩
theorem row_read {w:World} {base:Nat} {v:Value} {d:RowD} (hown:w.ownsRow base d.elem d.size v d.len d.cells) (hl:d.len ≤ 100000):RowR w w.heap.size v d:=by
 rcases hown.2 with ⟨hv,h0⟩ | ⟨g,cap,cur,hv,hb,hg,r⟩
 ·refine ⟨none,0,by rw [hv,h0],by omega,fun j u hu => ?_⟩
  have h1:=hown.1
  have h2:=(List.getElem?_eq_some_iff.1 hu).1
  rw [h1,h0] at h2
  omega
 ·refine ⟨some ⟨g,0,none⟩,cap,hv,by omega,fun j u hu => ⟨g,0,rfl,(Array.getElem?_eq_some_iff.1 hg).1,?_⟩⟩
  rw [hv] at hown
  have hj:=(List.getElem?_eq_some_iff.1 hu).1
  rw [hown.1] at hj
  rw [Nat.zero_add,World.ownsRow.cellAt hown j hj,hu]
theorem own_same {w W:World} {base e s n:Nat} {v:Value} {cs:List Value} (h:w.ownsRow base e s v n cs) (hk:∀ b,v.ownBlock=some b → b < w.heap.size → W.heap[b]?=w.heap[b]?):W.ownsRow base e s v n cs:=by
 refine ⟨h.1,?_⟩
 rcases h.2 with h2 | ⟨g,cap,cur,hv,hb,hg,r⟩
 ·exact .inl h2
 ·exact .inr ⟨g,cap,cur,hv,hb,(hk g (by rw [hv];rfl) (Array.getElem?_eq_some_iff.1 hg).1).trans hg,r⟩
theorem OwnG.swap2 {w W:World} {base:Nat} {row:Rows} {val:Vals} {D:Tag → Prop} {ta tb:Tag} {da db:RowD} {va vb:Value} (h:OwnG w base row val D) (hab:ta ≠ tb)
  (ha:W.ownsRow base da.elem da.size va da.len da.cells) (hb:W.ownsRow base db.elem db.size vb db.len db.cells) (hDa:D ta) (hDb:D tb)
  (hap:va.ownBlock ≠ vb.ownBlock) (hak:∀ g,va.ownBlock=some g → (val ta).ownBlock=some g ∨ w.heap.size ≤ g) (hbk:∀ g,vb.ownBlock=some g → (val tb).ownBlock=some g ∨ w.heap.size ≤ g)
  (hk:∀ b,b < w.heap.size → (val ta).ownBlock ≠ some b → (val tb).ownBlock ≠ some b → W.heap[b]?=w.heap[b]?) :
  OwnG W base (upd (upd row ta (some da)) tb (some db)) (upd (upd val ta va) tb vb) D:=by
 have hlt:∀ t g,D t → (val t).ownBlock=some g → g < w.heap.size:=fun t g ht hg => (h.lt ht hg).2
 refine ⟨fun t ht => ?_,fun t d ht hd => ?_,fun t t' g ht ht' h1 h2 => ?_⟩
 ·by_cases e:t=tb
  ·subst e;rw [upd_same];rfl
  ·rw [upd_ne _ _ e]
   by_cases e:t=ta
   ·subst e;rw [upd_same];rfl
   ·rw [upd_ne _ _ e];exact h.has t ht
 ·by_cases e:t=tb
  ·subst e;rw [upd_same] at hd ⊢;cases hd;exact hb
  ·rw [upd_ne _ _ e] at hd ⊢
   by_cases e2:t=ta
   ·subst e2;rw [upd_same] at hd ⊢;cases hd;exact ha
   ·rw [upd_ne _ _ e2] at hd ⊢
    exact own_same (h.rows t d ht hd) fun b hb1 hb2 => hk b hb2 (fun e3 => e2 (h.apart t ta b ht hDa hb1 e3)) (fun e3 => e (h.apart t tb b ht hDb hb1 e3))
 ·by_cases e:t=tb
  ·by_cases e':t'=tb
   ·rw [e,e']
   ·subst e
    rw [upd_same] at h1
    rw [upd_ne _ _ e'] at h2
    by_cases e2:t'=ta
    ·subst e2;rw [upd_same] at h2;exact absurd (h2.trans h1.symm) hap
    ·rw [upd_ne _ _ e2] at h2
     rcases hbk g h1 with h3 | h3
     ·exact h.apart t t' g ht ht' h3 h2
     ·have:=hlt t' g ht' h2;omega
  ·rw [upd_ne _ _ e] at h1
   by_cases e2:t=ta
   ·subst e2
    rw [upd_same] at h1
    by_cases e':t'=tb
    ·subst e';rw [upd_same] at h2;exact absurd (h1.trans h2.symm) hap
    ·rw [upd_ne _ _ e'] at h2
     by_cases e3:t'=t
     ·exact e3.symm
     ·rw [upd_ne _ _ e3] at h2
      rcases hak g h1 with h3 | h3
      ·exact h.apart t t' g ht ht' h3 h2
      ·have:=hlt t' g ht' h2;omega
   ·rw [upd_ne _ _ e2] at h1
    by_cases e':t'=tb
    ·subst e'
     rw [upd_same] at h2
     rcases hbk g h2 with h3 | h3
     ·exact h.apart t t' g ht ht' h1 h3
     ·have:=hlt t g ht h1;omega
    ·rw [upd_ne _ _ e'] at h2
     by_cases e3:t'=ta
     ·subst e3
      rw [upd_same] at h2
      rcases hak g h2 with h3 | h3
      ·exact h.apart t t' g ht ht' h1 h3
      ·have:=hlt t g ht h1;omega
     ·rw [upd_ne _ _ e3] at h2
      exact h.apart t t' g ht ht' h1 h2
def ComePost (f:FuncM) (val:Vals) (t i:Nat) (p1:PhiM) (base:Nat) (w:World) (e:Ending) (w':World):Prop :=
 ∃ val1:Vals,e=.returned (.tuple #[]) ∧ Owned w' base (setPhi f t i p1) val1 ∧ (∀ tag,tag ≠ .fr t i → tag ≠ .vals t i → val1 tag=val tag) ∧
  (∀ tag g,TI f tag → (val1 tag).ownBlock=some g → (val tag).ownBlock=some g ∨ w.heap.size ≤ g) ∧
  (∀ b,b < w.heap.size → (∀ tag,TI f tag → (val tag).ownBlock ≠ some b) → w'.heap[b]?=w.heap[b]?) ∧ Below base w w'
theorem phi_cell {val:Vals} {t i r:Nat} {l:List PhiM} {p:PhiM} (hp:l[i]?=some p) (hr:r < 4):(cellsOf (phiCells val t) 0 l)[i * 4 + r]?=(phiCells val t i p)[r]?:=by
 have:=cellsOf_at (phiCells_len val t) l 0 i r p hp hr
 rwa [Nat.zero_add] at this
theorem phis_same {val:Vals} {t i:Nat} {l:List PhiM} {p p1:PhiM} (hp:l[i]?=some p) (hid:p1.id=p.id) (htyp:p1.typ=p.typ):cellsOf (phiCells val t) 0 (l.set i p1)=cellsOf (phiCells val t) 0 l:=by
 refine cellsOf_zip _ _ 0 (by rw [List.length_set]) fun k a a' ha ha' => ?_
 by_cases e:i=k
 ·subst e
  rw [List.getElem?_set_self (List.getElem?_eq_some_iff.1 hp).1] at ha
  rw [hp] at ha'
  cases ha;cases ha'
  unfold phiCells
  rw [hid,htyp]
 ·rw [List.getElem?_set_ne e,ha'] at ha
  cases ha
  rfl
theorem phis_grown {val:Vals} {t i:Nat} {l:List PhiM} {F V:Value} (hi:i < l.length) :
  cellsOf (phiCells (upd (upd val (.fr t i) F) (.vals t i) V) t) 0 l=((cellsOf (phiCells val t) 0 l).set (i * 4 + 2) F).set (i * 4 + 3) V:=by
 have e1:(cellsOf (phiCells val t) 0 l).set (i * 4 + 2) F=cellsOf (phiCells (upd val (.fr t i) F) t) 0 l:=by
  refine cellsOf_set (phiCells_len _ t) (phiCells_len _ t) hi (by omega) (fun k a _ hk => ?_) (fun a _ => ?_)
  ·unfold phiCells
   rw [upd_ne _ _ (by simp [hk]),upd_ne _ _ (by simp)]
  ·unfold phiCells
   rw [upd_same,upd_ne _ _ (by simp)]
   rfl
 rw [e1]
 symm
 refine cellsOf_set (phiCells_len _ t) (phiCells_len _ t) hi (by omega) (fun k a _ hk => ?_) (fun a _ => ?_)
 ·unfold phiCells
  rw [upd_ne _ _ (show Tag.fr t k ≠ .vals t i by simp),upd_ne _ _ (show Tag.vals t k ≠ .vals t i by simp [hk])]
 ·unfold phiCells
  rw [upd_same,upd_ne _ _ (show Tag.fr t i ≠ .vals t i by simp)]
  rfl
theorem come_any {f:FuncM} {val:Vals} {t i base:Nat} {q:BlockM} {p:PhiM} {gp cp:Nat} (from_ mid:Int) (stays:Bool) (w:World) (ho:Owned w base f val) (hq:f.blocks[t]?=some q) (hp:q.phis[i]?=some p)
  (hvp:val (.phis t)=.slice (some ⟨gp,0,none⟩) q.phis.length cp) (hl:p.vals.length=p.fr.length) (h512:p.fr.length ≤ 512) (hb:base ≤ w.heap.size) :
  Calls Tryz.prog 102 #[.pointer (some ⟨gp,i * 4,none⟩),.int .i64 from_,.int .i64 mid,.bool stays] w (ComePost f val t i (comeM from_ mid stays p) base w):=by
 have hi:=(List.getElem?_eq_some_iff.1 hp).1
 have tiF:TI f (.fr t i):=TI.of (row_fr (val:=val) hq hp)
 have tiV:TI f (.vals t i):=TI.of (row_vals (val:=val) hq hp)
 have tiP:TI f (.phis t):=TI.of (row_phis (val:=val) hq)
 have rF:=row_fr (val:=val) hq hp
 have rV:=row_vals (val:=val) hq hp
 have rP:=row_phis (val:=val) hq
 have oF:=ho.rows _ _ tiF rF
 have oV:=ho.rows _ _ tiV rV
 have hcP:∀ r u,r < 4 → (phiCells val t i p)[r]?=some u → w.cell? ⟨gp,i * 4 + r,none⟩=some u ∧ w.frozen? ⟨gp,i * 4 + r,none⟩=false:=fun r u hr hu => by
  have:=ho.cell tiP rP hvp rfl (j:=i * 4 + r) (by show _ < q.phis.length * 4;omega)
  rw [phi_cell hp hr,hu] at this
  exact this
 obtain ⟨c2,k2⟩:=hcP 2 _ (by omega) rfl
 obtain ⟨c3,k3⟩:=hcP 3 _ (by omega) rfl
 have hints:Ints w w.heap.size (val (.fr t i)) p.fr:=(row_read oF (by show p.fr.length ≤ _;omega)).ints
 have hgp:=ho.lt tiP (g:=gp) (by rw [hvp];rfl)
 by_cases hm:from_ ∈ p.fr
 ·have hpos:0 < p.fr.length:=List.length_pos_of_mem hm
  obtain ⟨gf,fc,hvF,hgf1,hgf2⟩:=ho.slice tiF rF hpos
  obtain ⟨gv,vc,hvV,hgv1,hgv2⟩:=ho.slice tiV rV (by show 0 < p.vals.length;omega)
  have hvF':val (.fr t i)=.slice (some ⟨gf,0,none⟩) p.fr.length fc:=hvF
  have hvV':val (.vals t i)=.slice (some ⟨gv,0,none⟩) p.vals.length vc:=hvV
  have hgF:(val (.fr t i)).ownBlock=some gf:=by rw [hvF];rfl
  have hgV:(val (.vals t i)).ownBlock=some gv:=by rw [hvV];rfl
  have hgP:(val (.phis t)).ownBlock=some gp:=by rw [hvp];rfl
  have n1:gp ≠ gf:=fun e => by have:=ho.apart _ _ gp tiP tiF hgP (e ▸ hgF);cases this
  have n2:gp ≠ gv:=fun e => by have:=ho.apart _ _ gp tiP tiV hgP (e ▸ hgV);cases this
  have n3:gf ≠ gv:=fun e => by have:=ho.apart _ _ gf tiF tiV hgF (e ▸ hgV);cases this
  cases stays with
  | true =>
   rw [hvF'] at hints c2 oF
   rw [hvV'] at c3 oV
   refine (come_stays p.fr p.vals from_ mid w.heap.size base gp i gf fc gv vc w hints c2 c3 k2 k3 oF oV hl h512 hgp.2 n1 n2 n3 hb hm).mono ?_
   rintro e w' ⟨W,g1,d1,g2,d2,y,rfl,hcs,⟨k,hk,hy⟩,rfl⟩
   have hcm:comeM from_ mid true p={ p with fr:=p.fr ++ [mid],vals:=p.vals ++ [y] }:=by
    unfold comeM
    rw [if_pos hm,idx_first hk,hy]
    rfl
   rw [hcm]
   obtain ⟨p1,hp1⟩:∃ p1:PhiM,p1={ p with fr:=p.fr ++ [mid],vals:=p.vals ++ [y] }:=⟨_,rfl⟩
   rw [← hp1]
   have hid:p1.id=p.id:=by rw [hp1]
   have htyp:p1.typ=p.typ:=by rw [hp1]
   have hfr:p1.fr=p.fr ++ [mid]:=by rw [hp1]
   have hva:p1.vals=p.vals ++ [y]:=by rw [hp1]
   obtain ⟨F,hF⟩:∃ F,F=Value.slice (some ⟨g1,0,none⟩) (p.fr.length + 1) d1:=⟨_,rfl⟩
   obtain ⟨V,hV⟩:∃ V,V=Value.slice (some ⟨g2,0,none⟩) (p.vals.length + 1) d2:=⟨_,rfl⟩
   rw [← hF,← hV] at hcs ⊢
   have fo:∀ g,F.ownBlock=some g → (val (.fr t i)).ownBlock=some g ∨ w.heap.size ≤ g:=fun g hg => by
    rcases hcs.fo with h | ⟨k,h,h2⟩
    ·rw [hg] at h;cases h;exact .inl hgF
    ·rw [hg] at h;cases h;exact .inr h2
   have vo:∀ g,V.ownBlock=some g → (val (.vals t i)).ownBlock=some g ∨ w.heap.size ≤ g:=fun g hg => by
    rcases hcs.vo with h | ⟨k,h,h2⟩
    ·rw [hg] at h;cases h;exact .inl hgV
    ·rw [hg] at h;cases h;exact .inr h2
   have o1:=ho.swap2 (W:=W) (ta:=.fr t i) (tb:=.vals t i) (da:=intsRow p1.fr) (db:=intsRow p1.vals) (va:=F) (vb:=V) (by simp) (by rw [hfr];exact hcs.f) (by rw [hva];exact hcs.v) tiF tiV hcs.ap fo vo
    (fun b hb h1 h2 => hcs.keep b hb (fun e => h1 (e ▸ hgF)) (fun e => h2 (e ▸ hgV)))
   have hv1:upd (upd val (.fr t i) F) (.vals t i) V (.phis t)=.slice (some ⟨gp,0,none⟩) q.phis.length cp:=by rw [upd_ne _ _ (by simp),upd_ne _ _ (by simp)];exact hvp
   have o2:=o1.set (tp:=.phis t) (d:=⟨128,4,q.phis.length,cellsOf (phiCells val t) 0 q.phis⟩) (j:=i * 4 + 2) (u:=F) tiP (by rw [upd_ne _ _ (by simp),upd_ne _ _ (by simp)];exact rP) hv1 rfl
   have o3:=o2.set (tp:=.phis t) (j:=i * 4 + 3) (u:=V) tiP (upd_same _ _ _) hv1 rfl
   have hval:∀ tag,tag ≠ .fr t i → tag ≠ .vals t i → upd (upd val (.fr t i) F) (.vals t i) V tag=val tag:=fun tag h1 h2 => by rw [upd_ne _ _ h2,upd_ne _ _ h1]
   refine ⟨upd (upd val (.fr t i) F) (.vals t i) V,rfl,o3.congr (fun tag htag => ?_) (fun _ _ => rfl) (fun tag htag => (setPhi_ti hq hp hid htyp tag).1 htag),hval,fun tag g htag hg => ?_,fun b hb hn => ?_,?_⟩
   ·by_cases h3:tag=.phis t
    ·subst h3
     rw [upd_same,setPhi_phis hq,phis_same hp hid htyp,phis_grown hi]
    ·rw [upd_ne _ _ h3,upd_ne _ _ h3]
     by_cases h2:tag=.vals t i
     ·subst h2;rw [upd_same,setPhi_vals hq hp]
     ·rw [upd_ne _ _ h2]
      by_cases h1:tag=.fr t i
      ·subst h1;rw [upd_same,setPhi_fr hq hp]
      ·rw [upd_ne _ _ h1]
       exact setPhi_row hq hp hid htyp hval tag h1 h2 h3
   ·by_cases h2:tag=.vals t i
    ·subst h2;rw [upd_same] at hg;exact vo g hg
    ·rw [upd_ne _ _ h2] at hg
     by_cases h1:tag=.fr t i
     ·subst h1;rw [upd_same] at hg;exact fo g hg
     ·rw [upd_ne _ _ h1] at hg;exact .inl hg
   ·have hbp:b ≠ gp:=fun e => hn _ tiP (e ▸ hgP)
    rw [heap_setCell_other _ _ _ _ (by simpa using hbp),heap_setCell_other _ _ _ _ (by simpa using hbp)]
    exact hcs.keep b hb (fun e => hn _ tiF (e ▸ hgF)) (fun e => hn _ tiV (e ▸ hgV))
   ·have hB:Below base w W:=⟨hcs.same.1,hcs.same.2.1,hcs.same.2.2,hcs.sz,fun b hb2 => hcs.keep b (by omega) (by omega) (by omega)⟩
    exact (hB.setCell hgp.1 _).setCell hgp.1 _
  | false =>
   rw [hvF'] at hints c2
   refine (come_put p.fr from_ mid w.heap.size gp i gf fc w hints c2 (fun k hk => ho.cell tiF rF hvF rfl (by show k < p.fr.length * 1;omega)) hm).mono ?_
   rintro e w' ⟨k,rfl,hk,hkl,W,hW,hWB,rfl⟩
   have hcm:comeM from_ mid false p={ p with fr:=p.fr.set k mid }:=by
    unfold comeM
    rw [if_pos hm,idx_first hk]
    rfl
   rw [hcm]
   obtain ⟨p1,hp1⟩:∃ p1:PhiM,p1={ p with fr:=p.fr.set k mid }:=⟨_,rfl⟩
   rw [← hp1]
   have hid:p1.id=p.id:=by rw [hp1]
   have htyp:p1.typ=p.typ:=by rw [hp1]
   have hfr:p1.fr=p.fr.set k mid:=by rw [hp1]
   have hva:p1.vals=p.vals:=by rw [hp1]
   have o1:Owned W base f val:=ho.kept fun b _ _ => by rw [hW]
   have o2:=o1.set (tp:=.fr t i) (j:=k) (u:=.int .i64 mid) tiF rF hvF rfl
   refine ⟨val,rfl,o2.congr (fun tag htag => ?_) (fun _ _ => rfl) (fun tag htag => (setPhi_ti hq hp hid htyp tag).1 htag),fun _ _ _ => rfl,fun tag g _ hg => .inl hg,fun b hb hn => ?_,?_⟩
   ·by_cases h1:tag=.fr t i
    ·subst h1
     rw [upd_same,setPhi_fr hq hp,hfr]
     unfold intsRow
     simp only [List.length_set,List.map_set]
    ·rw [upd_ne _ _ h1]
     by_cases h2:tag=.vals t i
     ·subst h2;rw [setPhi_vals hq hp,hva,rV]
     ·by_cases h3:tag=.phis t
      ·subst h3;rw [setPhi_phis hq,phis_same hp hid htyp,rP]
      ·exact setPhi_row hq hp hid htyp (fun _ _ _ => rfl) tag h1 h2 h3
   ·have hbf:b ≠ gf:=fun e => hn _ tiF (e ▸ hgF)
    rw [heap_setCell_other _ _ _ _ (by simpa using hbf),hW]
   ·exact (hWB.mono hb).setCell hgf1 _
 ·have hcm:comeM from_ mid stays p=p:=by unfold comeM;rw [if_neg hm]
  rw [hcm]
  refine (come_none p.fr from_ mid stays w.heap.size gp i _ w hints c2 hm).mono ?_
  rintro e w' ⟨rfl,hW,hWB⟩
  refine ⟨val,rfl,?_,fun _ _ _ => rfl,fun _ _ _ h => .inl h,fun b _ _ => by rw [hW],hWB.mono hb⟩
  rw [setPhi_self hq hp]
  exact ho.kept fun b _ _ => by rw [hW]
end Go.Proofs.YtglbepdjahddmaaGreat
