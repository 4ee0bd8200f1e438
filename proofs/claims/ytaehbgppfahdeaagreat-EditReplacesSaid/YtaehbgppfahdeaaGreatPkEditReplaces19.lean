/- What EditReplaces rests on, part 19: RMapped, RefUses5. -/
import Derived.Test.YtaehbgppfahdeaaGreatPkEditReplaces18
import Derived.Deep.Onto

namespace Go.Proofs.YtaehbgppfahdeaaGreat
open Go.RowKit
theorem OwnG.low {w:World} {base base':Nat} {row:Rows} {val:Vals} {D:Tag → Prop} (h:OwnG w base row val D) (hb:base' ≤ base):OwnG w base' row val D :=
 ⟨h.has,fun t d ht hd => World.ownsRow.mono (h.rows t d ht hd) hb,h.apart⟩
set_option maxRecDepth 100000 in
set_option maxHeartbeats 8000000 in
theorem mapped_any (q:BlockM) (l:List (Int × Int)) (B:Nat) (pv cv tv lv:Value) (w:World) (hB:B ≤ w.heap.size) (hp:PhisR w B pv q.phis) (hc:CodeR w B cv q.code) (ht:Ints w B tv q.term.to) (hs:SmallB q) (hl:PairsR w B lv l) :
  Calls Tryz.prog 32 #[.agg #[pv,cv,.int .i64 q.term.op,.int .i64 q.term.val,tv,.int .i64 q.term.n],lv] w (MapPost q (toM l) w):=by
 have HP:=hideI hp
 have HC:=hideI hc
 have HTT:=hideI ht
 have HL:=hideI hl
 have HSM:=hideI hs
 obtain ⟨P,pc,rfl,_⟩:=hp
 obtain ⟨C,cc,rfl,_⟩:=hc
 obtain ⟨T,tc,rfl,_⟩:=ht
 obtain ⟨L,lc,rfl,_⟩:=hl
 obtain ⟨W2,hW2⟩:∃ W2,W2=(w.alloc (.cells #[.slice P q.phis.length pc,.slice C q.code.length cc,.int .i64 q.term.op,.int .i64 q.term.val,.slice T q.term.to.length tc,.int .i64 q.term.n] 62)).alloc (.cells #[.slice none 0 0,.slice none 0 0,.int .i64 0,.int .i64 0,.slice none 0 0,.int .i64 0] 62):=⟨_,rfl⟩
 have HB2:Hid (Below w.heap.size w W2):=hideI (by rw [hW2];exact ((Below.refl _ w).alloc (Nat.le_refl _) _).alloc (by simp) _)
 have hs2:W2.heap.size=w.heap.size + 2:=by rw [hW2];simp
 have hx0:W2.heap[w.heap.size]?=some (.cells #[.slice P q.phis.length pc,.slice C q.code.length cc,.int .i64 q.term.op,.int .i64 q.term.val,.slice T q.term.to.length tc,.int .i64 q.term.n] 62 (0,0)):=by
  rw [hW2,Below.heap_alloc _ _ _ (by simp)]
  exact heap_alloc_new w _
 have hx1:W2.heap[w.heap.size + 1]?=some (.cells #[.slice none 0 0,.slice none 0 0,.int .i64 0,.int .i64 0,.slice none 0 0,.int .i64 0] 62 (0,0)):=by
  rw [hW2]
  have:=heap_alloc_new (w.alloc (.cells #[.slice P q.phis.length pc,.slice C q.code.length cc,.int .i64 q.term.op,.int .i64 q.term.val,.slice T q.term.to.length tc,.int .i64 q.term.n] 62)) (.cells #[.slice none 0 0,.slice none 0 0,.int .i64 0,.int .i64 0,.slice none 0 0,.int .i64 0] 62)
  simpa using this
 have q0:=row_cells hx0 rfl 0
 have q1:=row_cells hx0 rfl 1
 have q2:=row_cells hx0 rfl 2
 have q3:=row_cells hx0 rfl 3
 have q4:=row_cells hx0 rfl 4
 have q5:=row_cells hx0 rfl 5
 have hk2:Keeps B w W2:=Keeps.of_below (HB2.out.mono hB)
 obtain ⟨h,hh⟩:∃ h,h=toM l:=⟨_,rfl⟩
 have HCB:=hideI (copyBlock_one q h B _ _ _ W2 (by omega) (HP.out.keeps hk2) (HC.out.keeps hk2) (HTT.out.keeps hk2) HSM.out)
 have HTO:Hid (∀ W,Below w.heap.size w W → ∀ x,Calls Tryz.prog 68 #[.slice L l.length lc,.int .i64 x] W fun e w' => e=.returned (.int .i64 (h x)) ∧ w'=W):=hideI fun W hW x => by
  rw [hh]
  exact to_any l x B _ W (HL.out.keeps (Keeps.of_below (hW.mono hB)))
 rw [← hh]
 have HX1:=hideI hx1
 have HW2:=hideI hW2
 have HS2:=hideI hs2
 obtain ⟨nl,hnl⟩:∃ n,n=l.length:=⟨_,rfl⟩
 rw [← hnl] at HTO ⊢
 clear hnl hh hx0 hx1 hk2 hs hW2 hs2
 obtain ⟨np,hnp⟩:∃ n,n=q.phis.length:=⟨_,rfl⟩
 obtain ⟨nc,hnc⟩:∃ n,n=q.code.length:=⟨_,rfl⟩
 obtain ⟨nt,hnt⟩:∃ n,n=q.term.to.length:=⟨_,rfl⟩
 have hnp5:np ≤ 100000:=by rw [hnp];exact HSM.out.phis
 have hnc5:nc ≤ 100000:=by rw [hnc];exact HSM.out.code
 have HNN:=hideI (And.intro hnp (And.intro hnc hnt))
 rw [← hnp,← hnc,← hnt] at HCB HW2 q0 q1 q2 q3 q4 q5
 rw [← hnp,← hnc,← hnt]
 clear hnp hnc hnt
 go_enter Tryz.func32,Tryz.ntmps32
 go_upto_region 1 with fail
 rw [← HW2.out]
 go_upto_region 2 with (go_at_call 67;go_must (refine HCB.out.mono ?_);rintro e w3 ⟨val,Ap,Ac,Ae,cp,cc2,ce,rfl,hv,how,hb⟩;have HV:=hideI hv;have HOW:=hideI how;have HB3:=hideI hb;clear hv how hb q0 q1 q2 q3 q4 q5)
 have hle:w.heap.size ≤ W2.heap.size:=by have:=HS2.out;omega
 have h0:=((OwnC.nothing w (fun _ => none) (fun _ => .slice none 0 0)).make #[.slice P np pc,.slice C nc cc,.int .i64 q.term.op,.int .i64 q.term.val,.slice T nt tc,.int .i64 q.term.n] 62).make #[.slice none 0 0,.slice none 0 0,.int .i64 0,.int .i64 0,.slice none 0 0,.int .i64 0] 62
 rw [← HW2.out] at h0
 simp only [World.size_alloc] at h0
 have h1:=OwnC.of h0 (HOW.out.low hle) (fun x hx => HB3.out.block _ (h0.lt hx)) (fun t g ht e => .inr (HOW.out.lt ht e).1) (HB3.out.mono hle)
 have h2:=h1.drop (bl':=[(w.heap.size + 1,#[.slice none 0 0,.slice none 0 0,.int .i64 0,.int .i64 0,.slice none 0 0,.int .i64 0],62)]) (List.Sublist.cons_cons _ (List.nil_sublist _))
 have h3:=h2.make #[.slice Ap np cp,.slice Ac nc cc2,.int .i64 q.term.op,.int .i64 q.term.val,.slice Ae nt ce,.int .i64 q.term.n] 62
 obtain ⟨W4,hW4⟩:∃ W4,W4=w3.alloc (.cells #[.slice Ap np cp,.slice Ac nc cc2,.int .i64 q.term.op,.int .i64 q.term.val,.slice Ae nt ce,.int .i64 q.term.n] 62):=⟨_,rfl⟩
 rw [← hW4] at h3 ⊢
 obtain ⟨g,hg⟩:∃ g,g=w3.heap.size:=⟨_,rfl⟩
 rw [← hg] at h3 ⊢
 obtain ⟨zs,hzs⟩:∃ zs:Array Value,zs=#[.slice none 0 0,.slice none 0 0,.int .i64 0,.int .i64 0,.slice none 0 0,.int .i64 0]:=⟨_,rfl⟩
 obtain ⟨bx,hbx⟩:∃ bx:Array Value,bx=#[.slice Ap np cp,.slice Ac nc cc2,.int .i64 q.term.op,.int .i64 q.term.val,.slice Ae nt ce,.int .i64 q.term.n]:=⟨_,rfl⟩
 rw [← hbx,← hzs] at h3
 have HBX:=hideI (And.intro hbx hzs)
 have HST:=hideI h3
 have HBOX:Hid (∀ (wx:World) (row:Rows) (D:Tag → Prop),OwnC w wx row val D [(g,bx,62),(w.heap.size + 1,zs,62)] → wx.cell? ⟨g,0,none⟩=some (.slice Ap np cp) ∧ wx.cell? ⟨g,1,none⟩=some (.slice Ac nc cc2) ∧ wx.cell? ⟨g,2,none⟩=some (.int .i64 q.term.op) ∧ wx.cell? ⟨g,3,none⟩=some (.int .i64 q.term.val) ∧ wx.frozen? ⟨g,3,none⟩=false ∧ g < wx.heap.size):=hideI fun wx row D ho => by
  have hx:=row_cells (ho.cells _ (List.mem_cons_self ..)).1 rfl
  rw [hbx] at hx
  exact ⟨hx 0,hx 1,hx 2,hx 3,frozen_of_row wx g 3 _ _ (ho.cells _ (List.mem_cons_self ..)).1,ho.lt (List.mem_cons_self ..)⟩
 clear h0 h1 h2 h3 hW4 hg hzs hbx hle HOW HB3 HB2 HS2 HX1 HCB
 go_upto_region 3 with fail
 go_loopw [6,7] (fun u _ wr => ∃ i:Nat,i ≤ np ∧ u=.int .i64 i ∧ Hid (OwnC w wr (rowOf (stF h (oneB q) 0 i 0) val) val (CbD np nc) [(g,bx,62),(w.heap.size + 1,zs,62)])) (fun u _ _ => np - (intOf u).toNat)
 case atStart => exact ⟨0,Nat.zero_le _,by go_num,HST⟩
 case round =>
  clear HST
  obtain ⟨i,hi,rfl,HC1⟩:=hrel
  obtain ⟨x0,x1,x2,x3,f3,hlg⟩:=HBOX.out _ _ _ HC1.out
  by_cases hlt:i < np
  ·obtain ⟨p,hp⟩:∃ p,q.phis[i]?=some p:=⟨_,List.getElem?_eq_getElem (by have:=HNN.out.1;omega)⟩
   have hcv:CbD np nc (.vals 0 i):=⟨rfl,hlt⟩
   have HCV:=hideI hcv
   have HC2:=hideI (HC1.out.congr (D':=CbD np nc) (fun t _ => rowV_zero hp t) (fun _ _ => rfl) (fun _ h => h))
   obtain ⟨V,cv2,hvv⟩:=own_form (HC2.out.own.rows (.vals 0 i) (intsRow (partM h p.vals 0)) hcv (upd_same _ _ _))
   obtain ⟨nv,hnv⟩:∃ n,n=p.vals.length:=⟨_,rfl⟩
   have HVV:Hid (val (.vals 0 i)=.slice V nv cv2):=hideI (by
    rw [hvv]
    show Value.slice V (partM h p.vals 0).length cv2=_
    rw [partM_len,hnv])
   obtain ⟨gp,rfl⟩:∃ gp,Ap=some ⟨gp,0,none⟩:=by
    obtain ⟨gp,cap,e,_⟩:=HC1.out.own.slice (tp:=.phis 0) rfl phiRow (by show 0 < q.phis.length;rw [← HNN.out.1];omega)
    rw [HV.out.1] at e
    injection e with e
    exact ⟨gp,e⟩
   have hnv5:nv ≤ 100000:=by rw [hnv];exact (HSM.out.fr p (List.mem_of_getElem? hp)).2
   have i1:(0:Int) ≤ (i:Int):=by omega
   have i2:(i:Int) < (np:Int):=by omega
   have HPP:=hideI hp
   have HNV:=hideI hnv
   clear hp hcv hvv hnv
   go_upto_region 6 with fail
   go_loopw [7] (fun u wr => ∃ k:Nat,k ≤ nv ∧ u=.int .i64 k ∧ Hid (OwnC w wr (rowV h q i k p val) val (CbD np nc) [(g,bx,62),(w.heap.size + 1,zs,62)])) (fun u _ => nv - (intOf u).toNat)
   case atStart => exact ⟨0,Nat.zero_le _,by go_num,HC2⟩
   case round =>
    clear x0 x1 x2 x3 f3 hlg HC1 HC2
    obtain ⟨k,hk,rfl,HC3⟩:=hrel
    obtain ⟨x0,x1,x2,x3,f3,hlg⟩:=HBOX.out _ _ _ HC3.out
    have e3:wr.cell? ⟨gp,i * 4 + 3,none⟩=some (.slice V nv cv2):=by
     rw [← HVV.out]
     exact HC3.out.valsAt rowV_phi rfl HV.out.1 HNN.out.1 HPP.out
    by_cases hlk:k < nv
    ·obtain ⟨y,hy⟩:∃ y,p.vals[k]?=some y:=⟨_,List.getElem?_eq_getElem (by have:=HNV.out;omega)⟩
     have hnv:=HNV.out
     obtain ⟨gv,rfl⟩:∃ gv,V=some ⟨gv,0,none⟩:=by
      obtain ⟨gv,cap,e,_⟩:=HC3.out.own.slice (d:=intsRow (partM h p.vals k)) HCV.out (upd_same _ _ _) (by show 0 < (partM h p.vals k).length;rw [partM_len];omega)
      rw [HVV.out] at e
      injection e with e
      exact ⟨gv,e⟩
     have hce:=HC3.out.cell (d:=intsRow (partM h p.vals k)) (j:=k) HCV.out (upd_same _ _ _) HVV.out (by show (partM h p.vals k).length=nv;rw [partM_len,hnv]) (by show k < nv * 1;omega)
     have e4:wr.cell? ⟨gv,k,none⟩=some (.int .i64 y):=by
      rw [hce.1]
      show ((partM h p.vals k).map (Value.int .i64))[k]?=_
      rw [List.getElem?_map,partM_at hy]
      rfl
     have z4:wr.frozen? ⟨gv,k,none⟩=false:=hce.2
     have hvv:=HVV.out
     rw [hnv] at hvv
     have HNX:=hideI ((HC3.out.grows (Below.refl _ _).drew).mapV HCV.out hvv hy)
     have HCT:=hideI (HTO.out wr.drew HC3.out.below.drew y)
     have hS0:wr.cell? ⟨g,0,none⟩=some (.slice (some ⟨gp,0,none⟩) np cp) ∧ wr.cell? ⟨gp,i * 4 + 3,none⟩=some (.slice (some ⟨gv,0,none⟩) nv cv2) ∧ wr.cell? ⟨gv,k,none⟩=some (.int .i64 y):=⟨x0,e3,e4⟩
     have hS1:wr.drew.cell? ⟨g,0,none⟩=some (.slice (some ⟨gp,0,none⟩) np cp) ∧ wr.drew.cell? ⟨gp,i * 4 + 3,none⟩=some (.slice (some ⟨gv,0,none⟩) nv cv2) ∧ wr.drew.cell? ⟨gv,k,none⟩=some (.int .i64 y):=⟨x0,e3,e4⟩
     have k1:(0:Int) ≤ (k:Int):=by omega
     have k2:(k:Int) < (nv:Int):=by omega
     have e4d:wr.drew.cell? ⟨gv,k,none⟩=some (.int .i64 y):=e4
     have z4d:wr.drew.frozen? ⟨gv,k,none⟩=false:=z4
     generalize h y=hy9 at HNX HCT
     clear hvv hce hnv hy
     go_upto_region 8 with fail
     refine wp_region_late (by kernel_rfl) (fun W => W.cell? ⟨g,0,none⟩=some (.slice (some ⟨gp,0,none⟩) np cp) ∧ W.cell? ⟨gp,i * 4 + 3,none⟩=some (.slice (some ⟨gv,0,none⟩) nv cv2) ∧ W.cell? ⟨gv,k,none⟩=some (.int .i64 y)) [19] ?_
     refine wpAnyT_quiet (i:=0) (v:=?_) rfl (by kernel_rfl) (by kernel_rfl) (by kernel_rfl) (fun _ _ _ h => h) (Or.inl ⟨by rfl,?_⟩) ?_
     rotate_left
     ·(intro w;go_simp;try with_reducible rfl)
     try simp only [Act.put,List.setIfInBounds_toArray,List.set_cons_zero,List.set_cons_succ]
     refine wpAnyT_take [19] (i:=1) (v:=?_) rfl (by kernel_rfl) (by kernel_rfl) (by kernel_rfl) (by kernel_rfl) (by kernel_rfl) (by kernel_rfl) (fun _ _ _ h => h) hS0 (Or.inl ⟨by rfl,?_⟩) ?_
     rotate_left
     ·(intro w hSw;go_split_ands;go_simp;try with_reducible rfl)
     try simp only [Act.put,List.setIfInBounds_toArray,List.set_cons_zero,List.set_cons_succ]
     refine wpAnyT_quiet (i:=2) (v:=?_) rfl (by kernel_rfl) (by kernel_rfl) (by kernel_rfl) (fun _ _ _ h => h) (Or.inl ⟨by rfl,?_⟩) ?_
     rotate_left
     ·(intro w;go_simp;try with_reducible rfl)
     try simp only [Act.put,List.setIfInBounds_toArray,List.set_cons_zero,List.set_cons_succ]
     refine wpAnyT_quiet (i:=3) (v:=?_) rfl (by kernel_rfl) (by kernel_rfl) (by kernel_rfl) (fun _ _ _ h => h) (Or.inl ⟨by rfl,?_⟩) ?_
     rotate_left
     ·(intro w;go_simp;try with_reducible rfl)
     try simp only [Act.put,List.setIfInBounds_toArray,List.set_cons_zero,List.set_cons_succ]
     refine wpAnyT_quiet (i:=4) (v:=?_) rfl (by kernel_rfl) (by kernel_rfl) (by kernel_rfl) (fun _ _ _ h => h) (Or.inl ⟨by rfl,?_⟩) ?_
     rotate_left
     ·(intro w;go_simp;try with_reducible rfl)
     try simp only [Act.put,List.setIfInBounds_toArray,List.set_cons_zero,List.set_cons_succ]
     refine wpAnyT_take [19] (i:=5) (v:=?_) rfl (by kernel_rfl) (by kernel_rfl) (by kernel_rfl) (by kernel_rfl) (by kernel_rfl) (by kernel_rfl) (fun _ _ _ h => h) hS0 (Or.inl ⟨by rfl,?_⟩) ?_
     rotate_left
     ·(intro w hSw;go_split_ands;go_simp;try with_reducible rfl)
     try simp only [Act.put,List.setIfInBounds_toArray,List.set_cons_zero,List.set_cons_succ]
     refine wpAnyT_quiet (i:=6) (v:=?_) rfl (by kernel_rfl) (by kernel_rfl) (by kernel_rfl) (fun _ _ _ h => h) (Or.inl ⟨by rfl,?_⟩) ?_
     rotate_left
     ·(intro w;go_simp;try with_reducible rfl)
     try simp only [Act.put,List.setIfInBounds_toArray,List.set_cons_zero,List.set_cons_succ]
     refine wpAnyT_quiet (i:=7) (v:=?_) rfl (by kernel_rfl) (by kernel_rfl) (by kernel_rfl) (fun _ _ _ h => h) (Or.inl ⟨by rfl,?_⟩) ?_
     rotate_left
     ·(intro w;go_simp;try with_reducible rfl)
     try simp only [Act.put,List.setIfInBounds_toArray,List.set_cons_zero,List.set_cons_succ]
     refine wpAnyT_quiet (i:=8) (v:=?_) rfl (by kernel_rfl) (by kernel_rfl) (by kernel_rfl) (fun _ _ _ h => h) (Or.inl ⟨by rfl,?_⟩) ?_
     rotate_left
     ·(intro w;go_simp;try with_reducible rfl)
     try simp only [Act.put,List.setIfInBounds_toArray,List.set_cons_zero,List.set_cons_succ]
     refine wpAnyT_take [19] (i:=9) (v:=?_) rfl (by kernel_rfl) (by kernel_rfl) (by kernel_rfl) (by kernel_rfl) (by kernel_rfl) (by kernel_rfl) (fun _ _ _ h => h) hS0 (Or.inl ⟨by rfl,?_⟩) ?_
     rotate_left
     ·(intro w hSw;go_split_ands;go_simp;try with_reducible rfl)
     try simp only [Act.put,List.setIfInBounds_toArray,List.set_cons_zero,List.set_cons_succ]
     refine wpAnyT_quiet (i:=10) (v:=?_) rfl (by kernel_rfl) (by kernel_rfl) (by kernel_rfl) (fun _ _ _ h => h) (Or.inl ⟨by rfl,?_⟩) ?_
     rotate_left
     ·(intro w;go_simp;try with_reducible rfl)
     try simp only [Act.put,List.setIfInBounds_toArray,List.set_cons_zero,List.set_cons_succ]
     refine wpAnyT_quiet (i:=11) (v:=?_) rfl (by kernel_rfl) (by kernel_rfl) (by kernel_rfl) (fun _ _ _ h => h) (Or.inl ⟨by rfl,?_⟩) ?_
     rotate_left
     ·(intro w;go_simp;try with_reducible rfl)
     try simp only [Act.put,List.setIfInBounds_toArray,List.set_cons_zero,List.set_cons_succ]
     refine wpAnyT_quiet (i:=12) (v:=?_) rfl (by kernel_rfl) (by kernel_rfl) (by kernel_rfl) (fun _ _ _ h => h) (Or.inl ⟨by rfl,?_⟩) ?_
     rotate_left
     ·(intro w;go_simp;try with_reducible rfl)
     try simp only [Act.put,List.setIfInBounds_toArray,List.set_cons_zero,List.set_cons_succ]
     refine wpAnyT_take [19] (i:=13) (v:=?_) rfl (by kernel_rfl) (by kernel_rfl) (by kernel_rfl) (by kernel_rfl) (by kernel_rfl) (by kernel_rfl) (fun _ _ _ h => h) hS0 (Or.inl ⟨by rfl,?_⟩) ?_
     rotate_left
     ·(intro w hSw;go_split_ands;go_simp;try with_reducible rfl)
     try simp only [Act.put,List.setIfInBounds_toArray,List.set_cons_zero,List.set_cons_succ]
     refine wpAnyT_quiet (i:=14) (v:=?_) rfl (by kernel_rfl) (by kernel_rfl) (by kernel_rfl) (fun _ _ _ h => h) (Or.inl ⟨by rfl,?_⟩) ?_
     rotate_left
     ·(intro w;go_simp;try with_reducible rfl)
     try simp only [Act.put,List.setIfInBounds_toArray,List.set_cons_zero,List.set_cons_succ]
     refine wpAnyT_quiet (i:=15) (v:=?_) rfl (by kernel_rfl) (by kernel_rfl) (by kernel_rfl) (fun _ _ _ h => h) (Or.inl ⟨by rfl,?_⟩) ?_
     rotate_left
     ·(intro w;go_simp;try with_reducible rfl)
     try simp only [Act.put,List.setIfInBounds_toArray,List.set_cons_zero,List.set_cons_succ]
     refine wpAnyT_take [19] (i:=16) (v:=?_) rfl (by kernel_rfl) (by kernel_rfl) (by kernel_rfl) (by kernel_rfl) (by kernel_rfl) (by kernel_rfl) (fun _ _ _ h => h) hS0 (Or.inl ⟨by rfl,?_⟩) ?_
     rotate_left
     ·(intro w hSw;go_split_ands;go_simp;try with_reducible rfl)
     try simp only [Act.put,List.setIfInBounds_toArray,List.set_cons_zero,List.set_cons_succ]
     refine wpAnyT_ready (rs:=[17]) (by kernel_rfl) (by simp) ?_
     refine AllReadyT.cons rfl (fun K hK => ?_) ?_
     ·-- 17 call 50
      go_simp
      refine HCT.out.mono ?_
      rintro e w9 ⟨rfl,rfl⟩
      refine hK.out _ _ (fun _ _ => hS1) ?_
      clear hK K
      try simp only [Act.put,List.setIfInBounds_toArray,List.set_cons_zero,List.set_cons_succ]
      refine wpAnyT_quiet (i:=18) (v:=?_) rfl (by kernel_rfl) (by kernel_rfl) (by kernel_rfl) (fun _ _ _ h => h) (Or.inl ⟨by rfl,?_⟩) ?_
      rotate_left
      ·(intro w;go_simp;try with_reducible rfl)
      try simp only [Act.put,List.setIfInBounds_toArray,List.set_cons_zero,List.set_cons_succ]
      refine wpAnyT_ready (rs:=[19]) (by kernel_rfl) (by simp) ?_
      refine AllReadyT.cons rfl (fun K hK => ?_) ?_
      ·-- 19 store
       go_simp
       refine hK.out _ _ (fun h => absurd (by simp) h) ?_
       clear hK K
       try simp only [Act.put,List.setIfInBounds_toArray,List.set_cons_zero,List.set_cons_succ]
       refine wpAnyT_done (by kernel_rfl) ?_ _
       go_wp2_with fail
       go_roundw
       case rel => exact ⟨k + 1,by omega,by go_num,HNX⟩
       case measure => simp [intOf];omega
      ·exact AllReadyT.nil
     ·exact AllReadyT.nil
    ·have hkn:k=p.vals.length:=by have:=HNV.out;omega
     have HNX:=hideI (HC3.out.congr (row':=rowOf (stF h (oneB q) 0 (i + 1) 0) val) (D':=CbD np nc) (fun t _ => by rw [hkn];exact rowV_all HPP.out t) (fun _ _ => rfl) (fun _ h => h))
     clear hkn
     go_wp2
     go_roundw
     case rel => exact ⟨i + 1,by omega,by go_num,HNX⟩
     case measure => simp [intOf];omega
  ·have hin:np=i:=by omega
   subst hin
   have HST2:=HC1
   clear HC1 hlt hi
   go_upto_region 10 with fail
   clear x0 x1 x2 x3 f3 hlg
   go_loopw [8,9] (fun u _ wr => ∃ i:Nat,i ≤ nc ∧ u=.int .i64 i ∧ Hid (OwnC w wr (rowOf (stF h (oneB q) 0 np i) val) val (CbD np nc) [(g,bx,62),(w.heap.size + 1,zs,62)])) (fun u _ _ => nc - (intOf u).toNat)
   case atStart => exact ⟨0,Nat.zero_le _,by go_num,HST2⟩
   case round =>
    clear HST2
    obtain ⟨i,hi,rfl,HC1⟩:=hrel
    obtain ⟨x0,x1,x2,x3,f3,hlg⟩:=HBOX.out _ _ _ HC1.out
    by_cases hlt:i < nc
    ·obtain ⟨p,hp⟩:∃ p,q.code[i]?=some p:=⟨_,List.getElem?_eq_getElem (by have:=HNN.out.2.1;omega)⟩
     have hcv:CbD np nc (.args 0 i):=⟨rfl,hlt⟩
     have HCV:=hideI hcv
     have HC2:=hideI (HC1.out.congr (D':=CbD np nc) (fun t _ => rowA_zero hp t) (fun _ _ => rfl) (fun _ h => h))
     obtain ⟨V,cv2,hvv⟩:=own_form (HC2.out.own.rows (.args 0 i) (intsRow (partM h p.args 0)) hcv (upd_same _ _ _))
     obtain ⟨nv,hnv⟩:∃ n,n=p.args.length:=⟨_,rfl⟩
     have HVV:Hid (val (.args 0 i)=.slice V nv cv2):=hideI (by
      rw [hvv]
      show Value.slice V (partM h p.args 0).length cv2=_
      rw [partM_len,hnv])
     obtain ⟨gp,rfl⟩:∃ gp,Ac=some ⟨gp,0,none⟩:=by
      obtain ⟨gp,cap,e,_⟩:=HC1.out.own.slice (tp:=.code 0) rfl codeRow (by show 0 < q.code.length;rw [← HNN.out.2.1];omega)
      rw [HV.out.2.1] at e
      injection e with e
      exact ⟨gp,e⟩
     have hnv5:nv ≤ 100000:=by rw [hnv];exact HSM.out.args p (List.mem_of_getElem? hp)
     have i1:(0:Int) ≤ (i:Int):=by omega
     have i2:(i:Int) < (nc:Int):=by omega
     have HPP:=hideI hp
     have HNV:=hideI hnv
     clear hp hcv hvv hnv
     go_upto_region 13 with fail
     go_loopw [9] (fun u wr => ∃ k:Nat,k ≤ nv ∧ u=.int .i64 k ∧ Hid (OwnC w wr (rowA h q np i k p val) val (CbD np nc) [(g,bx,62),(w.heap.size + 1,zs,62)])) (fun u _ => nv - (intOf u).toNat)
     case atStart => exact ⟨0,Nat.zero_le _,by go_num,HC2⟩
     case round =>
      clear x0 x1 x2 x3 f3 hlg HC1 HC2
      obtain ⟨k,hk,rfl,HC3⟩:=hrel
      obtain ⟨x0,x1,x2,x3,f3,hlg⟩:=HBOX.out _ _ _ HC3.out
      have e3:wr.cell? ⟨gp,i * 4 + 2,none⟩=some (.slice V nv cv2):=by
       rw [← HVV.out]
       exact HC3.out.argsAt rowA_code rfl HV.out.2.1 HNN.out.2.1 HPP.out
      by_cases hlk:k < nv
      ·obtain ⟨y,hy⟩:∃ y,p.args[k]?=some y:=⟨_,List.getElem?_eq_getElem (by have:=HNV.out;omega)⟩
       have hnv:=HNV.out
       obtain ⟨gv,rfl⟩:∃ gv,V=some ⟨gv,0,none⟩:=by
        obtain ⟨gv,cap,e,_⟩:=HC3.out.own.slice (d:=intsRow (partM h p.args k)) HCV.out (upd_same _ _ _) (by show 0 < (partM h p.args k).length;rw [partM_len];omega)
        rw [HVV.out] at e
        injection e with e
        exact ⟨gv,e⟩
       have hce:=HC3.out.cell (d:=intsRow (partM h p.args k)) (j:=k) HCV.out (upd_same _ _ _) HVV.out (by show (partM h p.args k).length=nv;rw [partM_len,hnv]) (by show k < nv * 1;omega)
       have e4:wr.cell? ⟨gv,k,none⟩=some (.int .i64 y):=by
        rw [hce.1]
        show ((partM h p.args k).map (Value.int .i64))[k]?=_
        rw [List.getElem?_map,partM_at hy]
        rfl
       have z4:wr.frozen? ⟨gv,k,none⟩=false:=hce.2
       have hvv:=HVV.out
       rw [hnv] at hvv
       have HNX:=hideI ((HC3.out.grows (Below.refl _ _).drew).mapA HCV.out hvv hy)
       have HCT:=hideI (HTO.out wr.drew HC3.out.below.drew y)
       have hS0:wr.cell? ⟨g,1,none⟩=some (.slice (some ⟨gp,0,none⟩) nc cc2) ∧ wr.cell? ⟨gp,i * 4 + 2,none⟩=some (.slice (some ⟨gv,0,none⟩) nv cv2) ∧ wr.cell? ⟨gv,k,none⟩=some (.int .i64 y):=⟨x1,e3,e4⟩
       have hS1:wr.drew.cell? ⟨g,1,none⟩=some (.slice (some ⟨gp,0,none⟩) nc cc2) ∧ wr.drew.cell? ⟨gp,i * 4 + 2,none⟩=some (.slice (some ⟨gv,0,none⟩) nv cv2) ∧ wr.drew.cell? ⟨gv,k,none⟩=some (.int .i64 y):=⟨x1,e3,e4⟩
       have k1:(0:Int) ≤ (k:Int):=by omega
       have k2:(k:Int) < (nv:Int):=by omega
       have e4d:wr.drew.cell? ⟨gv,k,none⟩=some (.int .i64 y):=e4
       have z4d:wr.drew.frozen? ⟨gv,k,none⟩=false:=z4
       generalize h y=hy9 at HNX HCT
       clear hvv hce hnv hy
       go_upto_region 8 with fail
       refine wp_region_late (by kernel_rfl) (fun W => W.cell? ⟨g,1,none⟩=some (.slice (some ⟨gp,0,none⟩) nc cc2) ∧ W.cell? ⟨gp,i * 4 + 2,none⟩=some (.slice (some ⟨gv,0,none⟩) nv cv2) ∧ W.cell? ⟨gv,k,none⟩=some (.int .i64 y)) [19] ?_
       refine wpAnyT_quiet (i:=0) (v:=?_) rfl (by kernel_rfl) (by kernel_rfl) (by kernel_rfl) (fun _ _ _ h => h) (Or.inl ⟨by rfl,?_⟩) ?_
       rotate_left
       ·(intro w;go_simp;try with_reducible rfl)
       try simp only [Act.put,List.setIfInBounds_toArray,List.set_cons_zero,List.set_cons_succ]
       refine wpAnyT_take [19] (i:=1) (v:=?_) rfl (by kernel_rfl) (by kernel_rfl) (by kernel_rfl) (by kernel_rfl) (by kernel_rfl) (by kernel_rfl) (fun _ _ _ h => h) hS0 (Or.inl ⟨by rfl,?_⟩) ?_
       rotate_left
       ·(intro w hSw;go_split_ands;go_simp;try with_reducible rfl)
       try simp only [Act.put,List.setIfInBounds_toArray,List.set_cons_zero,List.set_cons_succ]
       refine wpAnyT_quiet (i:=2) (v:=?_) rfl (by kernel_rfl) (by kernel_rfl) (by kernel_rfl) (fun _ _ _ h => h) (Or.inl ⟨by rfl,?_⟩) ?_
       rotate_left
       ·(intro w;go_simp;try with_reducible rfl)
       try simp only [Act.put,List.setIfInBounds_toArray,List.set_cons_zero,List.set_cons_succ]
       refine wpAnyT_quiet (i:=3) (v:=?_) rfl (by kernel_rfl) (by kernel_rfl) (by kernel_rfl) (fun _ _ _ h => h) (Or.inl ⟨by rfl,?_⟩) ?_
       rotate_left
       ·(intro w;go_simp;try with_reducible rfl)
       try simp only [Act.put,List.setIfInBounds_toArray,List.set_cons_zero,List.set_cons_succ]
       refine wpAnyT_quiet (i:=4) (v:=?_) rfl (by kernel_rfl) (by kernel_rfl) (by kernel_rfl) (fun _ _ _ h => h) (Or.inl ⟨by rfl,?_⟩) ?_
       rotate_left
       ·(intro w;go_simp;try with_reducible rfl)
       try simp only [Act.put,List.setIfInBounds_toArray,List.set_cons_zero,List.set_cons_succ]
       refine wpAnyT_take [19] (i:=5) (v:=?_) rfl (by kernel_rfl) (by kernel_rfl) (by kernel_rfl) (by kernel_rfl) (by kernel_rfl) (by kernel_rfl) (fun _ _ _ h => h) hS0 (Or.inl ⟨by rfl,?_⟩) ?_
       rotate_left
       ·(intro w hSw;go_split_ands;go_simp;try with_reducible rfl)
       try simp only [Act.put,List.setIfInBounds_toArray,List.set_cons_zero,List.set_cons_succ]
       refine wpAnyT_quiet (i:=6) (v:=?_) rfl (by kernel_rfl) (by kernel_rfl) (by kernel_rfl) (fun _ _ _ h => h) (Or.inl ⟨by rfl,?_⟩) ?_
       rotate_left
       ·(intro w;go_simp;try with_reducible rfl)
       try simp only [Act.put,List.setIfInBounds_toArray,List.set_cons_zero,List.set_cons_succ]
       refine wpAnyT_quiet (i:=7) (v:=?_) rfl (by kernel_rfl) (by kernel_rfl) (by kernel_rfl) (fun _ _ _ h => h) (Or.inl ⟨by rfl,?_⟩) ?_
       rotate_left
       ·(intro w;go_simp;try with_reducible rfl)
       try simp only [Act.put,List.setIfInBounds_toArray,List.set_cons_zero,List.set_cons_succ]
       refine wpAnyT_quiet (i:=8) (v:=?_) rfl (by kernel_rfl) (by kernel_rfl) (by kernel_rfl) (fun _ _ _ h => h) (Or.inl ⟨by rfl,?_⟩) ?_
       rotate_left
       ·(intro w;go_simp;try with_reducible rfl)
       try simp only [Act.put,List.setIfInBounds_toArray,List.set_cons_zero,List.set_cons_succ]
       refine wpAnyT_take [19] (i:=9) (v:=?_) rfl (by kernel_rfl) (by kernel_rfl) (by kernel_rfl) (by kernel_rfl) (by kernel_rfl) (by kernel_rfl) (fun _ _ _ h => h) hS0 (Or.inl ⟨by rfl,?_⟩) ?_
       rotate_left
       ·(intro w hSw;go_split_ands;go_simp;try with_reducible rfl)
       try simp only [Act.put,List.setIfInBounds_toArray,List.set_cons_zero,List.set_cons_succ]
       refine wpAnyT_quiet (i:=10) (v:=?_) rfl (by kernel_rfl) (by kernel_rfl) (by kernel_rfl) (fun _ _ _ h => h) (Or.inl ⟨by rfl,?_⟩) ?_
       rotate_left
       ·(intro w;go_simp;try with_reducible rfl)
       try simp only [Act.put,List.setIfInBounds_toArray,List.set_cons_zero,List.set_cons_succ]
       refine wpAnyT_quiet (i:=11) (v:=?_) rfl (by kernel_rfl) (by kernel_rfl) (by kernel_rfl) (fun _ _ _ h => h) (Or.inl ⟨by rfl,?_⟩) ?_
       rotate_left
       ·(intro w;go_simp;try with_reducible rfl)
       try simp only [Act.put,List.setIfInBounds_toArray,List.set_cons_zero,List.set_cons_succ]
       refine wpAnyT_quiet (i:=12) (v:=?_) rfl (by kernel_rfl) (by kernel_rfl) (by kernel_rfl) (fun _ _ _ h => h) (Or.inl ⟨by rfl,?_⟩) ?_
       rotate_left
       ·(intro w;go_simp;try with_reducible rfl)
       try simp only [Act.put,List.setIfInBounds_toArray,List.set_cons_zero,List.set_cons_succ]
       refine wpAnyT_take [19] (i:=13) (v:=?_) rfl (by kernel_rfl) (by kernel_rfl) (by kernel_rfl) (by kernel_rfl) (by kernel_rfl) (by kernel_rfl) (fun _ _ _ h => h) hS0 (Or.inl ⟨by rfl,?_⟩) ?_
       rotate_left
       ·(intro w hSw;go_split_ands;go_simp;try with_reducible rfl)
       try simp only [Act.put,List.setIfInBounds_toArray,List.set_cons_zero,List.set_cons_succ]
       refine wpAnyT_quiet (i:=14) (v:=?_) rfl (by kernel_rfl) (by kernel_rfl) (by kernel_rfl) (fun _ _ _ h => h) (Or.inl ⟨by rfl,?_⟩) ?_
       rotate_left
       ·(intro w;go_simp;try with_reducible rfl)
       try simp only [Act.put,List.setIfInBounds_toArray,List.set_cons_zero,List.set_cons_succ]
       refine wpAnyT_quiet (i:=15) (v:=?_) rfl (by kernel_rfl) (by kernel_rfl) (by kernel_rfl) (fun _ _ _ h => h) (Or.inl ⟨by rfl,?_⟩) ?_
       rotate_left
       ·(intro w;go_simp;try with_reducible rfl)
       try simp only [Act.put,List.setIfInBounds_toArray,List.set_cons_zero,List.set_cons_succ]
       refine wpAnyT_take [19] (i:=16) (v:=?_) rfl (by kernel_rfl) (by kernel_rfl) (by kernel_rfl) (by kernel_rfl) (by kernel_rfl) (by kernel_rfl) (fun _ _ _ h => h) hS0 (Or.inl ⟨by rfl,?_⟩) ?_
       rotate_left
       ·(intro w hSw;go_split_ands;go_simp;try with_reducible rfl)
       try simp only [Act.put,List.setIfInBounds_toArray,List.set_cons_zero,List.set_cons_succ]
       refine wpAnyT_ready (rs:=[17]) (by kernel_rfl) (by simp) ?_
       refine AllReadyT.cons rfl (fun K hK => ?_) ?_
       ·-- 17 call 50
        go_simp
        refine HCT.out.mono ?_
        rintro e w9 ⟨rfl,rfl⟩
        refine hK.out _ _ (fun _ _ => hS1) ?_
        clear hK K
        try simp only [Act.put,List.setIfInBounds_toArray,List.set_cons_zero,List.set_cons_succ]
        refine wpAnyT_quiet (i:=18) (v:=?_) rfl (by kernel_rfl) (by kernel_rfl) (by kernel_rfl) (fun _ _ _ h => h) (Or.inl ⟨by rfl,?_⟩) ?_
        rotate_left
        ·(intro w;go_simp;try with_reducible rfl)
        try simp only [Act.put,List.setIfInBounds_toArray,List.set_cons_zero,List.set_cons_succ]
        refine wpAnyT_ready (rs:=[19]) (by kernel_rfl) (by simp) ?_
        refine AllReadyT.cons rfl (fun K hK => ?_) ?_
        ·-- 19 store
         go_simp
         refine hK.out _ _ (fun h => absurd (by simp) h) ?_
         clear hK K
         try simp only [Act.put,List.setIfInBounds_toArray,List.set_cons_zero,List.set_cons_succ]
         refine wpAnyT_done (by kernel_rfl) ?_ _
         go_wp2_with fail
         go_roundw
         case rel => exact ⟨k + 1,by omega,by go_num,HNX⟩
         case measure => simp [intOf];omega
        ·exact AllReadyT.nil
       ·exact AllReadyT.nil
      ·have hkn:k=p.args.length:=by have:=HNV.out;omega
       have HNX:=hideI (HC3.out.congr (row':=rowOf (stF h (oneB q) 0 np (i + 1)) val) (D':=CbD np nc) (fun t _ => by rw [hkn];exact rowA_all HPP.out t) (fun _ _ => rfl) (fun _ h => h))
       clear hkn
       go_wp2
       go_roundw
       case rel => exact ⟨i + 1,by omega,by go_num,HNX⟩
       case measure => simp [intOf];omega
    ·have hin:nc=i:=by omega
     subst hin
     by_cases h2:q.term.op=2
     ·have e1:(q.term.op == 2)=true:=by simpa using h2
      have HVAL:Hid ((mapT h q.term).val=h q.term.val):=hideI (by unfold mapT;rw [if_pos (.inl h2)])
      clear h2
      have HCT:=hideI (HTO.out wr HC1.out.below q.term.val)
      have h7:=HC1.out
      rw [HBX.out.1] at h7
      replace h7:=h7.store (j:=3) (.int .i64 (h q.term.val))
      simp only [List.setIfInBounds_toArray,List.set_cons_zero,List.set_cons_succ] at h7
      rw [HBX.out.2] at h7
      have HC7:=hideI h7
      clear h7
      generalize h q.term.val=hv9 at HCT HC7 HVAL
      go_upto_region 18 with (go_at_call 68;refine HCT.out.mono ?_;rintro e w9 ⟨rfl,rfl⟩)
      obtain ⟨W7,hW7⟩:∃ W7,W7=w9.setCell ⟨g,3,none⟩ (.int .i64 hv9):=⟨_,rfl⟩
      rw [← hW7] at HC7 ⊢
      clear x0 x1 x2 x3 f3 hlg HC1 hW7
      have hx3:∀ o,W7.cell? ⟨g,o,none⟩=(#[.slice Ap np cp,.slice Ac nc cc2,.int .i64 q.term.op,.int .i64 hv9,.slice Ae nt ce,.int .i64 q.term.n]:Array Value)[o]?:=row_cells (HC7.out.cells _ (List.mem_cons_self ..)).1 rfl
      have hxr:∀ o,W7.cell? ⟨w.heap.size + 1,o,none⟩=(#[.slice none 0 0,.slice none 0 0,.int .i64 0,.int .i64 0,.slice none 0 0,.int .i64 0]:Array Value)[o]?:=row_cells (HC7.out.cells _ (List.mem_cons_of_mem _ (List.mem_cons_self ..))).1 rfl
      have hzr:=fun o => frozen_of_row W7 (w.heap.size + 1) o _ _ (HC7.out.cells _ (List.mem_cons_of_mem _ (List.mem_cons_self ..))).1
      have a0:=hx3 0
      have a1:=hx3 1
      have a2:=hx3 2
      have a3:=hx3 3
      have a4:=hx3 4
      have a5:=hx3 5
      have b0:=hxr 0
      have b1:=hxr 1
      have b2:=hxr 2
      have b3:=hxr 3
      have b4:=hxr 4
      have b5:=hxr 5
      have z0:=hzr 0
      have z1:=hzr 1
      have z2:=hzr 2
      have z3:=hzr 3
      have z4:=hzr 4
      have z5:=hzr 5
      clear hx3 hxr hzr
      have h6:=((((((OwnC.perm HC7.out (List.Perm.swap _ _ _)).store (j:=0) (.slice Ap np cp)).store (j:=1) (.slice Ac nc cc2)).store (j:=2) (.int .i64 q.term.op)).store (j:=3) (.int .i64 hv9)).store (j:=4) (.slice Ae nt ce)).store (j:=5) (.int .i64 q.term.n)
      simp only [List.setIfInBounds_toArray,List.set_cons_zero,List.set_cons_succ] at h6
      have H6:=hideI h6
      clear h6
      go_wp2
      obtain ⟨W8,hW8⟩:∃ W8,W8=(((((W7.setCell ⟨w.heap.size + 1,0,none⟩ (.slice Ap np cp)).setCell ⟨w.heap.size + 1,1,none⟩ (.slice Ac nc cc2)).setCell ⟨w.heap.size + 1,2,none⟩ (.int .i64 q.term.op)).setCell ⟨w.heap.size + 1,3,none⟩ (.int .i64 hv9)).setCell ⟨w.heap.size + 1,4,none⟩ (.slice Ae nt ce)).setCell ⟨w.heap.size + 1,5,none⟩ (.int .i64 q.term.n):=⟨_,rfl⟩
      rw [← hW8] at H6 ⊢
      have hx:=row_cells (H6.out.cells _ (List.mem_cons_self ..)).1 rfl
      have s0:=hx 0
      have s1:=hx 1
      have s2:=hx 2
      have s3:=hx 3
      have s4:=hx 4
      have s5:=hx 5
      clear hx hW8 a0 a1 a2 a3 a4 a5 b0 b1 b2 b3 b4 b5 z0 z1 z2 z3 z4 z5
      refine bodyPost_ret (v:=.agg #[.slice Ap np cp,.slice Ac nc cc2,.int .i64 q.term.op,.int .i64 hv9,.slice Ae nt ce,.int .i64 q.term.n]) (by simp [results,Tryz.results32,go_sem,s0,s1,s2,s3,s4,s5]) rfl ?_
      refine ⟨val,by rw [HV.out.1,HV.out.2.1,HV.out.2.2,HVAL.out],?_,H6.out.below⟩
      have hown:=H6.out.own
      rw [HNN.out.1,HNN.out.2.1] at hown
      exact hown
     ·by_cases h3:q.term.op=3
      ·have e1:(q.term.op == 2)=false:=by simpa using h2
       have e2:(q.term.op == 3)=true:=by simpa using h3
       have HVAL:Hid ((mapT h q.term).val=h q.term.val):=hideI (by unfold mapT;rw [if_pos (.inr h3)])
       clear h2 h3
       have HCT:=hideI (HTO.out wr HC1.out.below q.term.val)
       have h7:=HC1.out
       rw [HBX.out.1] at h7
       replace h7:=h7.store (j:=3) (.int .i64 (h q.term.val))
       simp only [List.setIfInBounds_toArray,List.set_cons_zero,List.set_cons_succ] at h7
       rw [HBX.out.2] at h7
       have HC7:=hideI h7
       clear h7
       generalize h q.term.val=hv9 at HCT HC7 HVAL
       go_upto_region 18 with (go_at_call 68;refine HCT.out.mono ?_;rintro e w9 ⟨rfl,rfl⟩)
       obtain ⟨W7,hW7⟩:∃ W7,W7=w9.setCell ⟨g,3,none⟩ (.int .i64 hv9):=⟨_,rfl⟩
       rw [← hW7] at HC7 ⊢
       clear x0 x1 x2 x3 f3 hlg HC1 hW7
       have hx3:∀ o,W7.cell? ⟨g,o,none⟩=(#[.slice Ap np cp,.slice Ac nc cc2,.int .i64 q.term.op,.int .i64 hv9,.slice Ae nt ce,.int .i64 q.term.n]:Array Value)[o]?:=row_cells (HC7.out.cells _ (List.mem_cons_self ..)).1 rfl
       have hxr:∀ o,W7.cell? ⟨w.heap.size + 1,o,none⟩=(#[.slice none 0 0,.slice none 0 0,.int .i64 0,.int .i64 0,.slice none 0 0,.int .i64 0]:Array Value)[o]?:=row_cells (HC7.out.cells _ (List.mem_cons_of_mem _ (List.mem_cons_self ..))).1 rfl
       have hzr:=fun o => frozen_of_row W7 (w.heap.size + 1) o _ _ (HC7.out.cells _ (List.mem_cons_of_mem _ (List.mem_cons_self ..))).1
       have a0:=hx3 0
       have a1:=hx3 1
       have a2:=hx3 2
       have a3:=hx3 3
       have a4:=hx3 4
       have a5:=hx3 5
       have b0:=hxr 0
       have b1:=hxr 1
       have b2:=hxr 2
       have b3:=hxr 3
       have b4:=hxr 4
       have b5:=hxr 5
       have z0:=hzr 0
       have z1:=hzr 1
       have z2:=hzr 2
       have z3:=hzr 3
       have z4:=hzr 4
       have z5:=hzr 5
       clear hx3 hxr hzr
       have h6:=((((((OwnC.perm HC7.out (List.Perm.swap _ _ _)).store (j:=0) (.slice Ap np cp)).store (j:=1) (.slice Ac nc cc2)).store (j:=2) (.int .i64 q.term.op)).store (j:=3) (.int .i64 hv9)).store (j:=4) (.slice Ae nt ce)).store (j:=5) (.int .i64 q.term.n)
       simp only [List.setIfInBounds_toArray,List.set_cons_zero,List.set_cons_succ] at h6
       have H6:=hideI h6
       clear h6
       go_wp2
       obtain ⟨W8,hW8⟩:∃ W8,W8=(((((W7.setCell ⟨w.heap.size + 1,0,none⟩ (.slice Ap np cp)).setCell ⟨w.heap.size + 1,1,none⟩ (.slice Ac nc cc2)).setCell ⟨w.heap.size + 1,2,none⟩ (.int .i64 q.term.op)).setCell ⟨w.heap.size + 1,3,none⟩ (.int .i64 hv9)).setCell ⟨w.heap.size + 1,4,none⟩ (.slice Ae nt ce)).setCell ⟨w.heap.size + 1,5,none⟩ (.int .i64 q.term.n):=⟨_,rfl⟩
       rw [← hW8] at H6 ⊢
       have hx:=row_cells (H6.out.cells _ (List.mem_cons_self ..)).1 rfl
       have s0:=hx 0
       have s1:=hx 1
       have s2:=hx 2
       have s3:=hx 3
       have s4:=hx 4
       have s5:=hx 5
       clear hx hW8 a0 a1 a2 a3 a4 a5 b0 b1 b2 b3 b4 b5 z0 z1 z2 z3 z4 z5
       refine bodyPost_ret (v:=.agg #[.slice Ap np cp,.slice Ac nc cc2,.int .i64 q.term.op,.int .i64 hv9,.slice Ae nt ce,.int .i64 q.term.n]) (by simp [results,Tryz.results32,go_sem,s0,s1,s2,s3,s4,s5]) rfl ?_
       refine ⟨val,by rw [HV.out.1,HV.out.2.1,HV.out.2.2,HVAL.out],?_,H6.out.below⟩
       have hown:=H6.out.own
       rw [HNN.out.1,HNN.out.2.1] at hown
       exact hown
      ·have e1:(q.term.op == 2)=false:=by simpa using h2
       have e2:(q.term.op == 3)=false:=by simpa using h3
       have HVAL:Hid ((mapT h q.term).val=q.term.val):=hideI (by unfold mapT;rw [if_neg (fun h => h.elim h2 h3)])
       have h7:=HC1.out
       rw [HBX.out.1,HBX.out.2] at h7
       have HC7:=hideI h7
       clear h7 h2 h3
       go_upto_region 18 with fail
       clear x0 x1 x2 x3 f3 hlg HC1
       have hx3:∀ o,wr.cell? ⟨g,o,none⟩=(#[.slice Ap np cp,.slice Ac nc cc2,.int .i64 q.term.op,.int .i64 q.term.val,.slice Ae nt ce,.int .i64 q.term.n]:Array Value)[o]?:=row_cells (HC7.out.cells _ (List.mem_cons_self ..)).1 rfl
       have hxr:∀ o,wr.cell? ⟨w.heap.size + 1,o,none⟩=(#[.slice none 0 0,.slice none 0 0,.int .i64 0,.int .i64 0,.slice none 0 0,.int .i64 0]:Array Value)[o]?:=row_cells (HC7.out.cells _ (List.mem_cons_of_mem _ (List.mem_cons_self ..))).1 rfl
       have hzr:=fun o => frozen_of_row wr (w.heap.size + 1) o _ _ (HC7.out.cells _ (List.mem_cons_of_mem _ (List.mem_cons_self ..))).1
       have a0:=hx3 0
       have a1:=hx3 1
       have a2:=hx3 2
       have a3:=hx3 3
       have a4:=hx3 4
       have a5:=hx3 5
       have b0:=hxr 0
       have b1:=hxr 1
       have b2:=hxr 2
       have b3:=hxr 3
       have b4:=hxr 4
       have b5:=hxr 5
       have z0:=hzr 0
       have z1:=hzr 1
       have z2:=hzr 2
       have z3:=hzr 3
       have z4:=hzr 4
       have z5:=hzr 5
       clear hx3 hxr hzr
       have h6:=((((((OwnC.perm HC7.out (List.Perm.swap _ _ _)).store (j:=0) (.slice Ap np cp)).store (j:=1) (.slice Ac nc cc2)).store (j:=2) (.int .i64 q.term.op)).store (j:=3) (.int .i64 q.term.val)).store (j:=4) (.slice Ae nt ce)).store (j:=5) (.int .i64 q.term.n)
       simp only [List.setIfInBounds_toArray,List.set_cons_zero,List.set_cons_succ] at h6
       have H6:=hideI h6
       clear h6
       go_wp2
       obtain ⟨W8,hW8⟩:∃ W8,W8=(((((wr.setCell ⟨w.heap.size + 1,0,none⟩ (.slice Ap np cp)).setCell ⟨w.heap.size + 1,1,none⟩ (.slice Ac nc cc2)).setCell ⟨w.heap.size + 1,2,none⟩ (.int .i64 q.term.op)).setCell ⟨w.heap.size + 1,3,none⟩ (.int .i64 q.term.val)).setCell ⟨w.heap.size + 1,4,none⟩ (.slice Ae nt ce)).setCell ⟨w.heap.size + 1,5,none⟩ (.int .i64 q.term.n):=⟨_,rfl⟩
       rw [← hW8] at H6 ⊢
       have hx:=row_cells (H6.out.cells _ (List.mem_cons_self ..)).1 rfl
       have s0:=hx 0
       have s1:=hx 1
       have s2:=hx 2
       have s3:=hx 3
       have s4:=hx 4
       have s5:=hx 5
       clear hx hW8 a0 a1 a2 a3 a4 a5 b0 b1 b2 b3 b4 b5 z0 z1 z2 z3 z4 z5
       refine bodyPost_ret (v:=.agg #[.slice Ap np cp,.slice Ac nc cc2,.int .i64 q.term.op,.int .i64 q.term.val,.slice Ae nt ce,.int .i64 q.term.n]) (by simp [results,Tryz.results32,go_sem,s0,s1,s2,s3,s4,s5]) rfl ?_
       refine ⟨val,by rw [HV.out.1,HV.out.2.1,HV.out.2.2,HVAL.out],?_,H6.out.below⟩
       have hown:=H6.out.own
       rw [HNN.out.1,HNN.out.2.1] at hown
       exact hown
end Go.Proofs.YtaehbgppfahdeaaGreat

namespace Go.Proofs.YtaehbgppfahdeaaGreat
open Go.RowKit
def rowPhi (b:Nat) (t:Int) (d:Int × Int):List Int:=[d.1,t,(b:Int),-1,d.2]
def rowInstr (b i:Nat) (d:Int × Int):List Int:=[d.1,d.2,(b:Int),(i:Int),0]
def rowsPhi (b:Nat) (p:PhiM):List (List Int):=(p.vals.zip p.fr).map (rowPhi b p.typ)
def rowsInstr (b i:Nat) (x:InstrM):List (List Int):=(x.args.zip (takesS x.op)).map (rowInstr b i)
def rowsCode (b:Nat) (xs:List InstrM):Nat → List (List Int)
 | 0 => []
 | i + 1 => rowsCode b xs i ++ match xs[i]? with | some x => rowsInstr b i x | none => []
def rowsTerm (b:Nat) (q:BlockM):List (List Int) :=
 if q.term.op=2 then [[q.term.val,2,(b:Int),(q.code.length:Int),0]] else if q.term.op=3 then [[q.term.val,0,(b:Int),(q.code.length:Int),0]] else []
def rowsBlock (b:Nat) (q:BlockM):List (List Int):=q.phis.flatMap (rowsPhi b) ++ (rowsCode b q.code q.code.length ++ rowsTerm b q)
def rowsTo (bs:List BlockM):Nat → List (List Int)
 | 0 => []
 | b + 1 => rowsTo bs b ++ match bs[b]? with | some q => rowsBlock b q | none => []
def RU5 (w:World) (base:Nat) (v:Value) (us:List (Int × Int)) (rows:List (List Int)):Prop :=
 rows.map (fun r => (r.getD 0 0,r.getD 1 0))=us ∧ (∀ r ∈ rows,r.length=5) ∧ w.ownsRow base 39 5 v us.length (rows.flatten.map (Value.int .i64))
theorem RU5.push {w':World} {base:Nat} {v':Value} {us:List (Int × Int)} {rows:List (List Int)} (h1:rows.map (fun r => (r.getD 0 0,r.getD 1 0))=us) (h2:∀ r ∈ rows,r.length=5) {a b c d e:Int}
  (h:w'.ownsRow base 39 5 v' (us.length + 1) (rows.flatten.map (Value.int .i64) ++ [.int .i64 a,.int .i64 b,.int .i64 c,.int .i64 d,.int .i64 e])):RU5 w' base v' (us ++ [(a,b)]) (rows ++ [[a,b,c,d,e]]):=by
 refine ⟨by rw [List.map_append,h1];rfl,?_,?_⟩
 ·intro r hr
  rcases List.mem_append.1 hr with hr | hr
  ·exact h2 r hr
  ·simp at hr
   subst hr
   rfl
 ·simpa using h
theorem RU5.alloc {w:World} {base:Nat} {v:Value} {us:List (Int × Int)} {rows:List (List Int)} (h:RU5 w base v us rows) (o:Obj):RU5 (w.alloc o) base v us rows:=⟨h.1,h.2.1,h.2.2.alloc o⟩
theorem RU5.below {w w':World} {base:Nat} {v:Value} {us:List (Int × Int)} {rows:List (List Int)} (h:RU5 w base v us rows) (hb:Below w.heap.size w w'):RU5 w' base v us rows:=by
 obtain ⟨h1,h2,h3⟩:=h
 exact ⟨h1,h2,h3.kept (row:=none) ⟨hb.os,hb.tape,hb.output,hb.size,fun k hk _ => hb.block k hk⟩ (by
  cases hv:v.ownBlock with
  | none => exact .inl rfl
  | some k => exact .inr (by simp))⟩
set_option maxRecDepth 100000 in
set_option maxHeartbeats 8000000 in
theorem refUses5_any (bs:List BlockM) (B:Nat) (pv xv cv bv:Value) (w:World) (hbv:BlocksR w B bv bs) (hB:B ≤ w.heap.size) (hfew:Few bs) (hl5:bs.length ≤ 512)
  (hform:∀ b ∈ bs,∀ x ∈ b.code,x.args.length=(takesS x.op).length) (hphi:∀ b ∈ bs,∀ p ∈ b.phis,p.vals.length=p.fr.length) :
  Calls Tryz.prog 15 #[.agg #[pv,xv,cv,bv]] w fun e w' => ∃ v,e=.returned v ∧ RU5 w' w.heap.size v (bs.flatMap usesBlock) (rowsTo bs bs.length) ∧ Below w.heap.size w w':=by
 have HFEW:=hideI hfew
 have HFO:=hideI hform
 have HPH:=hideI hphi
 have HBB:=hideI hbv
 obtain ⟨i0,hi,hz0,hz1,hz2⟩:=info_parts use_info
 obtain ⟨A,c,rfl,hbm,hbx⟩:=hbv
 have HX:=hideI hbx
 clear hbx hfew hform hphi
 obtain ⟨W0,hW0⟩:∃ W0:World,W0=(w.alloc (.cells #[pv,xv,cv,.slice A bs.length c] 25)).alloc (.cells #[] 39):=⟨_,rfl⟩
 have hK0:Hid (Ka w.heap.size w W0):=by rw [hW0];exact ((Ka.refl _ w).alloc (Nat.le_refl _) _).alloc (by simp) _
 have hbox0:Hid (W0.heap[w.heap.size]?=some (.cells #[pv,xv,cv,.slice A bs.length c] 25 (0,0))):=by
  show _=_
  rw [hW0,Below.heap_alloc _ _ _ (by simp)]
  exact heap_alloc_new w _
 have hR0:Hid (RU5 W0 w.heap.size (.slice (some ⟨w.heap.size + 1,0,none⟩) 0 0) [] []):=by
  have:=World.ownsRow_made (base:=w.heap.size) (e:=39) (size:=5) (w.alloc (.cells #[pv,xv,cv,.slice A bs.length c] 25)) #[] 0 (by simp) (by decide) rfl
  show RU5 W0 _ _ _ _
  rw [hW0]
  exact ⟨rfl,(fun _ h => by cases h),by simpa using this⟩
 have HW0:=hideI hW0
 clear hW0
 go_enter Tryz.func15,Tryz.ntmps15
 go_wp2
 rw [← HW0.out]
 go_loopw [3,4] (fun o i wr => ∃ k:Nat,k ≤ bs.length ∧ i=.int .i64 k ∧ RU5 wr w.heap.size o ((bs.take k).flatMap usesBlock) (rowsTo bs k) ∧ Ka w.heap.size W0 wr) (fun _ i _ => bs.length - (intOf i).toNat)
 case atStart => exact ⟨0,Nat.zero_le _,rfl,by simpa [rowsTo] using hR0.out,Ka.refl _ _⟩
 case round =>
  obtain ⟨k,hk,rfl,hIk,hFk⟩:=hrel
  obtain ⟨u3,rfl⟩:∃ u3':Value,u3'=u3:=⟨_,rfl⟩
  have HIk:=hideI hIk
  have HFk:=hideI hFk
  have hx:=hFk.row hbox0.out (by decide)
  have hsz:w.heap.size < wr.heap.size:=by have h1:=hFk.size;have h2:=lt_of_heap hbox0.out;omega
  have HK:=hideI (Keeps.mono' (hK0.out.trans hFk).keeps hB)
  clear hIk hFk
  by_cases hlt:k < bs.length
  ·obtain ⟨q,hq⟩:∃ q,bs[k]?=some q:=⟨_,List.getElem?_eq_getElem hlt⟩
   obtain ⟨b,off,qpv,qcv,qtv,rfl,hb,e0,e1,e2,e3,e4,e5,hpv,hcv,htv,_⟩:=HX.out k q hq
   have c0:=(HK.out b (off + k * 6) hb).trans e0
   have c1:=(HK.out b (off + k * 6 + 1) hb).trans e1
   have c2:=(HK.out b (off + k * 6 + 2) hb).trans e2
   have c3:=(HK.out b (off + k * 6 + 3) hb).trans e3
   have c4:=(HK.out b (off + k * 6 + 4) hb).trans e4
   have c5:=(HK.out b (off + k * 6 + 5) hb).trans e5
   have HQ:=hideI hq
   obtain ⟨PA,pc,rfl,hpm,hpx⟩:=hpv
   obtain ⟨CA,cc,rfl,hcm,hcx⟩:=hcv
   obtain ⟨TA,tc,rfl,_⟩:=htv
   have HPX:=hideI hpx
   have HCX:=hideI hcx
   clear e0 e1 e2 e3 e4 e5 hq hpx hcx
   obtain ⟨wo,rfl⟩:∃ wo:World,wo=wr:=⟨_,rfl⟩
   obtain ⟨W1,hW1⟩:∃ W1:World,W1=wo.alloc (.cells #[.slice PA q.phis.length pc,.slice CA q.code.length cc,.int .i64 q.term.op,.int .i64 q.term.val,.slice TA q.term.to.length tc,.int .i64 q.term.n] 62):=⟨_,rfl⟩
   have HF1:Hid (Ka w.heap.size W0 W1):=by rw [hW1];exact HFk.out.alloc (by omega) _
   have HI1:Hid (RU5 W1 w.heap.size u3 ((bs.take k).flatMap usesBlock) (rowsTo bs k)):=by rw [hW1];exact HIk.out.alloc _
   have HB1:Hid (W1.heap[wo.heap.size]?=some (.cells #[.slice PA q.phis.length pc,.slice CA q.code.length cc,.int .i64 q.term.op,.int .i64 q.term.val,.slice TA q.term.to.length tc,.int .i64 q.term.n] 62 (0,0))):=by rw [hW1];exact heap_alloc_new wo _
   have HW1:=hideI hW1
   clear hW1
   obtain ⟨us1,hus1⟩:∃ us1,us1=(bs.take k).flatMap usesBlock:=⟨_,rfl⟩
   obtain ⟨rs1,hrs1⟩:∃ rs1,rs1=rowsTo bs k:=⟨_,rfl⟩
   rw [← hus1,← hrs1] at HI1
   have HU1:=hideI hus1
   have HRS1:=hideI hrs1
   clear hus1 hrs1
   go_wp2
   rw [← HW1.out]
   go_loopw [3,6] (fun o i wr => ∃ j:Nat,j ≤ q.phis.length ∧ i=.int .i64 j ∧ RU5 wr w.heap.size o (us1 ++ (q.phis.take j).flatMap usesPhi) (rs1 ++ (q.phis.take j).flatMap (rowsPhi k)) ∧ Ka w.heap.size W1 wr) (fun _ i _ => q.phis.length - (intOf i).toNat)
   case atStart => exact ⟨0,Nat.zero_le _,rfl,by simpa using HI1.out,Ka.refl _ _⟩
   case round =>
    obtain ⟨j,hj,rfl,hIj,hFj⟩:=hrel
    have HIj:=hideI hIj
    have HFj:=hideI hFj
    have hx1:=hFj.row HB1.out (by decide)
    have hsz1:wo.heap.size < wr.heap.size:=by have h1:=hFj.size;have h2:=lt_of_heap HB1.out;omega
    have HK1:=hideI (Keeps.mono' ((hK0.out.trans HF1.out).trans hFj).keeps hB)
    clear hIj hFj
    by_cases hlj:j < q.phis.length
    ·obtain ⟨p,hp⟩:∃ p,q.phis[j]?=some p:=⟨_,List.getElem?_eq_getElem hlj⟩
     obtain ⟨b2,off2,fv,vv,rfl,hb2,e0,e1,e2,e3,hf,hv,_⟩:=HPX.out j p hp
     have HQ2:=hideI hp
     have hpl:Hid (p.vals.length=p.fr.length):=HPH.out q (List.mem_of_getElem? HQ.out) p (List.mem_of_getElem? hp)
     obtain ⟨FA,fc,rfl,hfm,hfx⟩:=hf
     obtain ⟨VA,vc,rfl,hvm,hvx⟩:=hv
     have HVX:=hideI hvx
     have HFX:=hideI hfx
     have HE:=hideI (And.intro e1 (And.intro e2 e3))
     have d3:=(HK1.out b2 (off2 + j * 4 + 3) hb2).trans e3
     obtain ⟨wi,rfl⟩:∃ wi:World,wi=wr:=⟨_,rfl⟩
     obtain ⟨us2,hus2⟩:∃ us2,us2=us1 ++ (q.phis.take j).flatMap usesPhi:=⟨_,rfl⟩
     obtain ⟨rs2,hrs2⟩:∃ rs2,rs2=rs1 ++ (q.phis.take j).flatMap (rowsPhi k):=⟨_,rfl⟩
     rw [← hus2,← hrs2] at HIj
     have HU2:=hideI hus2
     have HRS2:=hideI hrs2
     clear e0 e1 e2 e3 hp hvx hfx hus2 hrs2
     go_wp2
     clear d3
     go_loopw [3,7] (fun o i wr => ∃ m:Nat,m ≤ p.vals.length ∧ i=.int .i64 m ∧ RU5 wr w.heap.size o (us2 ++ (p.vals.take m).map fun v => (v,p.typ)) (rs2 ++ ((p.vals.zip p.fr).take m).map (rowPhi k p.typ)) ∧ Ka w.heap.size wi wr) (fun _ i _ => p.vals.length - (intOf i).toNat)
     case atStart => exact ⟨0,Nat.zero_le _,rfl,by simpa using HIj.out,Ka.refl _ _⟩
     case round =>
      obtain ⟨m,hm,rfl,hIm,hFm⟩:=hrel
      have hx2:=(HFj.out.trans hFm).row HB1.out (by decide)
      have HK2:=hideI (Keeps.mono' (((hK0.out.trans HF1.out).trans HFj.out).trans hFm).keeps hB)
      have hsz2:w.heap.size ≤ wr.heap.size:=by have h1:=hFm.size;omega
      have d1:=(HK2.out b2 (off2 + j * 4 + 1) hb2).trans HE.out.1
      have d2:=(HK2.out b2 (off2 + j * 4 + 2) hb2).trans HE.out.2.1
      have d3:=(HK2.out b2 (off2 + j * 4 + 3) hb2).trans HE.out.2.2
      have HIm:=hideI hIm
      have HFm:=hideI hFm
      clear hIm hFm
      by_cases hlm:m < p.vals.length
      ·obtain ⟨b3,off3,rfl,hb3,e3⟩:=HVX.out m hlm
       obtain ⟨v,hv⟩:∃ v,p.vals[m]?=some v:=⟨_,List.getElem?_eq_getElem hlm⟩
       have hlf:m < p.fr.length:=by rw [← hpl.out];exact hlm
       obtain ⟨b4,off4,rfl,hb4,e4⟩:=HFX.out m hlf
       obtain ⟨fr,hfr⟩:∃ fr,p.fr[m]?=some fr:=⟨_,List.getElem?_eq_getElem hlf⟩
       rw [hv] at e3
       rw [hfr] at e4
       have f3:=(HK2.out b3 (off3 + m) hb3).trans e3
       have f4:=(HK2.out b4 (off4 + m) hb4).trans e4
       simp only [Option.getD_some] at f3 f4
       have HV:=hideI hv
       have HZ:Hid ((p.vals.zip p.fr)[m]?=some (v,fr)):=hideI (List.getElem?_zip_eq_some.2 ⟨hv,hfr⟩)
       have hfw:=few_phi HFEW.out HQ.out HQ2.out hlm us1 us2 HU1.out HU2.out
       obtain ⟨uu,huu⟩:∃ uu,uu=us2 ++ (p.vals.take m).map fun v => (v,p.typ):=⟨_,rfl⟩
       obtain ⟨rows,hrows⟩:∃ rows,rows=rs2 ++ ((p.vals.zip p.fr).take m).map (rowPhi k p.typ):=⟨_,rfl⟩
       rw [← huu] at hfw HIm
       rw [← hrows] at HIm
       have HUU:=hideI huu
       have HRW:=hideI hrows
       clear e3 e4 hv hfr huu hrows
       have g0:wr.cell? ⟨wo.heap.size,0,none⟩=some (.slice (some ⟨b2,off2,none⟩) q.phis.length pc):=hx2 0
       clear hx2
       obtain ⟨hrw1,hrw2,hown⟩:=HIm.out
       have HR1:=hideI hrw1
       have HR2:=hideI hrw2
       clear hrw1 hrw2
       have G0:Hid (∀ W,Ka w.heap.size wr W → W.cell? ⟨wo.heap.size,0,none⟩=some (.slice (some ⟨b2,off2,none⟩) q.phis.length pc) ∧ W.cell? ⟨b2,off2 + j * 4 + 1,none⟩=some (.int .i64 p.typ) ∧ W.cell? ⟨b2,off2 + j * 4 + 2,none⟩=some (.slice (some ⟨b4,off4,none⟩) p.fr.length fc) ∧ W.cell? ⟨b2,off2 + j * 4 + 3,none⟩=some (.slice (some ⟨b3,off3,none⟩) p.vals.length vc) ∧ W.cell? ⟨b3,off3 + m,none⟩=some (.int .i64 v) ∧ W.cell? ⟨b4,off4 + m,none⟩=some (.int .i64 fr)) :=
        fun W hW => ⟨((HFj.out.trans HFm.out).trans hW).row HB1.out (by decide) 0,(hW.keeps _ _ (by omega)).trans d1,(hW.keeps _ _ (by omega)).trans d2,(hW.keeps _ _ (by omega)).trans d3,(hW.keeps _ _ (by omega)).trans f3,(hW.keeps _ _ (by omega)).trans f4⟩
       go_wp2
       go_region_held3 (fun w' => w'.cell? ⟨wo.heap.size,0,none⟩=some (.slice (some ⟨b2,off2,none⟩) q.phis.length pc) ∧ w'.cell? ⟨b2,off2 + j * 4 + 1,none⟩=some (.int .i64 p.typ) ∧ w'.cell? ⟨b2,off2 + j * 4 + 2,none⟩=some (.slice (some ⟨b4,off4,none⟩) p.fr.length fc) ∧ w'.cell? ⟨b2,off2 + j * 4 + 3,none⟩=some (.slice (some ⟨b3,off3,none⟩) p.vals.length vc) ∧ w'.cell? ⟨b3,off3 + m,none⟩=some (.int .i64 v) ∧ w'.cell? ⟨b4,off4 + m,none⟩=some (.int .i64 fr)) (first | go_keep | exact G0.out _ ((((Ka.refl _ wr).alloc hsz2 _).drew).trans hka) | exact G0.out _ (((Ka.refl _ wr).alloc hsz2 _).trans hka))
        (first | (refine step_append_lies _ rfl (.tmp 44) (.tmp 71) _ rfl w.heap.size 39 i0 _ 5 40 Tryz.underlying36 hi hz0 hz1 hz2 rfl (by decide) _ _ _ rfl (hown.alloc _) ⟨wr.heap.size,0,none⟩ 1 1 [.int .i64 v,.int .i64 p.typ,.int .i64 k,.int .i64 (-1),.int .i64 fr] rfl rfl (five_new _ _ _) (by simp [Value.oneCell']) (by decide) (by unfold maxLen;omega) (by omega) (by simp;omega) _ rfl ?_;intro g1 cap1 w4 hown1 hgrow1 hor hgl1;have hka:=Ka.grown hgrow1 (hown.alloc _) (by simp;omega)))
       have HIN:Hid (RU5 w4 w.heap.size (.slice (some ⟨g1,0,none⟩) (uu.length + 1) cap1) (us2 ++ (p.vals.take (m + 1)).map fun v => (v,p.typ)) (rs2 ++ ((p.vals.zip p.fr).take (m + 1)).map (rowPhi k p.typ))):=by
        have:=RU5.push (b:=p.typ) HR1.out HR2.out hown1
        rw [map_take' (fun v => (v,p.typ)) p.vals m v HV.out,← List.append_assoc,← HUU.out,map_take' (rowPhi k p.typ) (p.vals.zip p.fr) m (v,fr) HZ.out,← List.append_assoc,← HRW.out]
        exact this
       have HFN:Hid (Ka w.heap.size wi w4):=(HFm.out.trans (((Ka.refl _ wr).alloc hsz2 _).drew)).trans hka
       clear hown1 hgrow1 hor hgl1 hka
       go_wp2
       go_roundw
       case rel => exact ⟨m + 1,by omega,by go_num,HIN.out,HFN.out⟩
       case measure => simp [intOf];omega
      ·have HIend:Hid (RU5 wr w.heap.size u3 (us2 ++ usesPhi p) (rs2 ++ rowsPhi k p)):=by have:=HIm.out;rw [List.take_of_length_le (l:=p.vals) (by omega),List.take_of_length_le (l:=p.vals.zip p.fr) (by rw [List.length_zip];omega)] at this;exact this
       go_wp2
       go_roundw
       case rel => exact ⟨j + 1,by omega,by go_num,by rw [flat_take' _ _ _ _ HQ2.out,flat_take' _ _ _ _ HQ2.out,← List.append_assoc,← List.append_assoc,← HU2.out,← HRS2.out];exact HIend.out,HFj.out.trans HFm.out⟩
       case measure => simp [intOf];omega
    ·have HIend:Hid (RU5 wr w.heap.size u3 (us1 ++ q.phis.flatMap usesPhi) (rs1 ++ q.phis.flatMap (rowsPhi k))):=by have:=HIj.out;rw [List.take_of_length_le (by omega)] at this;exact this
     go_wp2
     obtain ⟨wp,rfl⟩:∃ wp:World,wp=wr:=⟨_,rfl⟩
     clear hx1 hsz1 HK1 hlj
     obtain ⟨us3,hus3⟩:∃ us3,us3=us1 ++ q.phis.flatMap usesPhi:=⟨_,rfl⟩
     obtain ⟨rs3,hrs3⟩:∃ rs3,rs3=rs1 ++ q.phis.flatMap (rowsPhi k):=⟨_,rfl⟩
     rw [← hus3,← hrs3] at HIend
     have HU3:=hideI hus3
     have HRS3:=hideI hrs3
     clear hus3 hrs3
     go_loopw [3,8] (fun o i wr => ∃ j:Nat,j ≤ q.code.length ∧ i=.int .i64 j ∧ RU5 wr w.heap.size o (us3 ++ (q.code.take j).flatMap usesInstr) (rs3 ++ rowsCode k q.code j) ∧ Ka w.heap.size W1 wr) (fun _ i _ => q.code.length - (intOf i).toNat)
     case atStart => exact ⟨0,Nat.zero_le _,rfl,by simpa [rowsCode] using HIend.out,HFj.out⟩
     case round =>
      obtain ⟨j2,hj2,rfl,hIj2,hFj2⟩:=hrel
      have HIj2:=hideI hIj2
      have HFj2:=hideI hFj2
      have hx1:=hFj2.row HB1.out (by decide)
      have hsz1:wo.heap.size < wr.heap.size:=by have h1:=hFj2.size;have h2:=lt_of_heap HB1.out;omega
      have hsz0:w.heap.size ≤ wr.heap.size:=by omega
      have HK1:=hideI (Keeps.mono' ((hK0.out.trans HF1.out).trans hFj2).keeps hB)
      clear hIj2 hFj2
      by_cases hlj2:j2 < q.code.length
      ·obtain ⟨x,hp⟩:∃ x,q.code[j2]?=some x:=⟨_,List.getElem?_eq_getElem hlj2⟩
       have hxl:Hid (x.args.length=(takesS x.op).length):=HFO.out q (List.mem_of_getElem? HQ.out) x (List.mem_of_getElem? hp)
       obtain ⟨b2,off2,av,rfl,hb2,e0,e1,e2,e3,hf,_⟩:=HCX.out j2 x hp
       have d0:=(HK1.out b2 (off2 + j2 * 4) hb2).trans e0
       have HE2:=hideI e2
       have HQ2:=hideI hp
       obtain ⟨AA,ac,rfl,ham,hax⟩:=hf
       have HAX:=hideI hax
       clear e0 e1 e2 e3 hp hax
       obtain ⟨wi,rfl⟩:∃ wi:World,wi=wr:=⟨_,rfl⟩
       go_wp2_with (go_at_call 38;refine (refArgs_any _ _).mono ?_;rintro e w3 ⟨tv,rfl,htv,hbA⟩;obtain ⟨TK,tkc,rfl,htm,htx⟩:=htv;have HTX:=hideI htx;have HBA:=hideI hbA;clear htx hbA)
       have HF3:Hid (Ka w.heap.size W1 w3):=HFj2.out.trans (Ka.of_below HBA.out hsz0)
       have HI3:Hid (RU5 w3 w.heap.size u3 (us3 ++ (q.code.take j2).flatMap usesInstr) (rs3 ++ rowsCode k q.code j2)):=HIj2.out.below HBA.out
       obtain ⟨us4,hus4⟩:∃ us4,us4=us3 ++ (q.code.take j2).flatMap usesInstr:=⟨_,rfl⟩
       obtain ⟨rs4,hrs4⟩:∃ rs4,rs4=rs3 ++ rowsCode k q.code j2:=⟨_,rfl⟩
       rw [← hus4,← hrs4] at HI3
       have HU4:=hideI hus4
       have HRS4:Hid (rs3 ++ rowsCode k q.code (j2 + 1)=rs4 ++ rowsInstr k j2 x):=by show _=_;rw [rowsCode,HQ2.out,hrs4,List.append_assoc]
       clear hrs4
       have hsz3:wi.heap.size ≤ w3.heap.size:=HBA.out.size
       clear hus4 hx1 d0
       go_loopw [3,12] (fun o i wr => ∃ m:Nat,m ≤ (takesS x.op).length ∧ i=.int .i64 m ∧ RU5 wr w.heap.size o (us4 ++ (x.args.take m).zip ((takesS x.op).take m)) (rs4 ++ ((x.args.zip (takesS x.op)).take m).map (rowInstr k j2)) ∧ Ka w.heap.size w3 wr) (fun _ i _ => (takesS x.op).length - (intOf i).toNat)
       case atStart => exact ⟨0,Nat.zero_le _,rfl,by simpa using HI3.out,Ka.refl _ _⟩
       case round =>
        obtain ⟨m,hm,rfl,hIm,hFm⟩:=hrel
        have HIm:=hideI hIm
        have HFm:=hideI hFm
        have HK2:=hideI (Keeps.mono' ((hK0.out.trans HF1.out).trans (HF3.out.trans hFm)).keeps hB)
        have hsz2:w.heap.size ≤ wr.heap.size:=by have h1:=hFm.size;omega
        clear hIm hFm
        by_cases hlm:m < (takesS x.op).length
        ·have hla:m < x.args.length:=by rw [hxl.out];exact hlm
         obtain ⟨b3,off3,rfl,hb3,e3⟩:=HAX.out m hla
         obtain ⟨v,hv⟩:∃ v,x.args[m]?=some v:=⟨_,List.getElem?_eq_getElem hla⟩
         obtain ⟨t,ht⟩:∃ t,(takesS x.op)[m]?=some t:=⟨_,List.getElem?_eq_getElem hlm⟩
         obtain ⟨g,cs,rfl,hg,hgb,hgc⟩:=HTX.out (by omega)
         have hgx:=(HFm.out.row hgb (by decide) m).trans (hgc m hlm)
         rw [hv] at e3
         rw [ht] at hgx
         have f3:=(HK2.out b3 (off3 + m) hb3).trans e3
         have d2:=(HK2.out b2 (off2 + j2 * 4 + 2) hb2).trans HE2.out
         simp only [Option.getD_some] at f3 hgx
         have HV:=hideI hv
         have HT2:=hideI ht
         have HZ:Hid ((x.args.zip (takesS x.op))[m]?=some (v,t)):=hideI (List.getElem?_zip_eq_some.2 ⟨hv,ht⟩)
         have HGB:=hideI (And.intro hgb (hgc m hlm))
         have hfw:=few_instr HFEW.out HQ.out HQ2.out hla hxl.out us1 us3 us4 HU1.out HU3.out HU4.out
         obtain ⟨uu,huu⟩:∃ uu,uu=us4 ++ (x.args.take m).zip ((takesS x.op).take m):=⟨_,rfl⟩
         obtain ⟨rows,hrows⟩:∃ rows,rows=rs4 ++ ((x.args.zip (takesS x.op)).take m).map (rowInstr k j2):=⟨_,rfl⟩
         rw [← huu] at hfw HIm
         rw [← hrows] at HIm
         have HUU:=hideI huu
         have HRW:=hideI hrows
         clear hrows
         obtain ⟨hrw1,hrw2,hown⟩:=HIm.out
         have HR1:=hideI hrw1
         have HR2:=hideI hrw2
         have g0:wr.cell? ⟨wo.heap.size,1,none⟩=some (.slice (some ⟨b2,off2,none⟩) q.code.length cc):=((HF3.out.trans HFm.out).row HB1.out (by decide) 1)
         clear e3 hv ht hgb hgc huu hrw1 hrw2
         have G0:Hid (∀ W,Ka w.heap.size wr W → W.cell? ⟨wo.heap.size,1,none⟩=some (.slice (some ⟨b2,off2,none⟩) q.code.length cc) ∧ W.cell? ⟨b2,off2 + j2 * 4 + 2,none⟩=some (.slice (some ⟨b3,off3,none⟩) x.args.length ac) ∧ W.cell? ⟨b3,off3 + m,none⟩=some (.int .i64 v) ∧ W.cell? ⟨g,m,none⟩=some (.int .i64 t)) :=
          fun W hW => ⟨((HF3.out.trans HFm.out).trans hW).row HB1.out (by decide) 1,(hW.keeps _ _ (by omega)).trans d2,(hW.keeps _ _ (by omega)).trans f3,(by rw [((HFm.out.trans hW).row HGB.out.1 (by decide) m),← hgx,HFm.out.row HGB.out.1 (by decide) m])⟩
         go_wp2
         go_region_held3 (fun w' => w'.cell? ⟨wo.heap.size,1,none⟩=some (.slice (some ⟨b2,off2,none⟩) q.code.length cc) ∧ w'.cell? ⟨b2,off2 + j2 * 4 + 2,none⟩=some (.slice (some ⟨b3,off3,none⟩) x.args.length ac) ∧ w'.cell? ⟨b3,off3 + m,none⟩=some (.int .i64 v) ∧ w'.cell? ⟨g,m,none⟩=some (.int .i64 t)) (first | go_keep | exact G0.out _ ((((Ka.refl _ wr).alloc hsz2 _).drew).trans hka) | exact G0.out _ (((Ka.refl _ wr).alloc hsz2 _).trans hka))
          (first | (refine step_append_lies _ rfl (.tmp 97) (.tmp 114) _ rfl w.heap.size 39 i0 _ 5 40 Tryz.underlying36 hi hz0 hz1 hz2 rfl (by decide) _ _ _ rfl (hown.alloc _) ⟨wr.heap.size,0,none⟩ 1 1 [.int .i64 v,.int .i64 t,.int .i64 k,.int .i64 j2,.int .i64 0] rfl rfl (five_new _ _ _) (by simp [Value.oneCell']) (by decide) (by unfold maxLen;omega) (by omega) (by simp;omega) _ rfl ?_;intro g1 cap1 w4 hown1 hgrow1 hor hgl1;have hka:=Ka.grown hgrow1 (hown.alloc _) (by simp;omega)))
         have HIN:Hid (RU5 w4 w.heap.size (.slice (some ⟨g1,0,none⟩) (uu.length + 1) cap1) (us4 ++ (x.args.take (m + 1)).zip ((takesS x.op).take (m + 1))) (rs4 ++ ((x.args.zip (takesS x.op)).take (m + 1)).map (rowInstr k j2))):=by
          have:=RU5.push (b:=t) HR1.out HR2.out hown1
          rw [zip_take' _ _ _ _ _ HV.out HT2.out,← List.append_assoc,← HUU.out,map_take' (rowInstr k j2) (x.args.zip (takesS x.op)) m (v,t) HZ.out,← List.append_assoc,← HRW.out]
          exact this
         have HFN:Hid (Ka w.heap.size w3 w4):=(HFm.out.trans (((Ka.refl _ wr).alloc hsz2 _).drew)).trans hka
         clear hown1 hgrow1 hor hgl1 hka
         go_wp2
         go_roundw
         case rel => exact ⟨m + 1,by omega,by go_num,HIN.out,HFN.out⟩
         case measure => simp [intOf];omega
        ·have HIe:Hid (RU5 wr w.heap.size u3 (us4 ++ usesInstr x) (rs4 ++ rowsInstr k j2 x)):=by
          have:=HIm.out
          rw [List.take_of_length_le (l:=x.args) (by rw [hxl.out];omega),List.take_of_length_le (l:=takesS x.op) (by omega),List.take_of_length_le (l:=x.args.zip (takesS x.op)) (by rw [List.length_zip];omega)] at this
          exact this
         go_wp2
         go_roundw
         case rel => exact ⟨j2 + 1,by omega,by go_num,by rw [flat_take' _ _ _ _ HQ2.out,← List.append_assoc,← HU4.out,HRS4.out];exact HIe.out,HF3.out.trans HFm.out⟩
         case measure => simp [intOf];omega
      ·have HIe:Hid (RU5 wr w.heap.size u3 (us3 ++ q.code.flatMap usesInstr) (rs3 ++ rowsCode k q.code q.code.length)):=by have:=HIj2.out;rw [List.take_of_length_le (by omega),show j2=q.code.length by omega] at this;exact this
       have HUB:Hid ((bs.take (k + 1)).flatMap usesBlock=(us3 ++ q.code.flatMap usesInstr) ++ usesTerm q.term):=by
        show _=_
        rw [flat_take' _ _ _ _ HQ.out,HU3.out,HU1.out]
        simp only [usesBlock,List.append_assoc]
       have HRB:Hid (rowsTo bs (k + 1)=(rs3 ++ rowsCode k q.code q.code.length) ++ rowsTerm k q):=by
        show _=_
        rw [rowsTo,HQ.out,HRS3.out,HRS1.out]
        simp only [rowsBlock,List.append_assoc]
       cases h2:q.term.op == 2
       ·cases h3:q.term.op == 3
        ·have hu:usesTerm q.term=[]:=by
          unfold usesTerm
          rw [if_neg (by simpa using h2),if_neg (by simpa using h3)]
         have HU:=hideI hu
         have HRT:Hid (rowsTerm k q=[]):=by
          show _=_
          unfold rowsTerm
          rw [if_neg (by simpa using h2),if_neg (by simpa using h3)]
         clear hu
         go_wp2
         go_roundw
         case rel => exact ⟨k + 1,by omega,by go_num,by rw [HUB.out,HU.out,List.append_nil,HRB.out,HRT.out,List.append_nil];exact HIe.out,HF1.out.trans HFj2.out⟩
         case measure => simp [intOf];omega
        ·have hu:usesTerm q.term=[(q.term.val,0)]:=by
          unfold usesTerm
          rw [if_neg (by simpa using h2),if_pos (by simpa using h3)]
         have HU:=hideI hu
         have HRT:Hid (rowsTerm k q=[[q.term.val,0,(k:Int),(q.code.length:Int),0]]):=by
          show _=_
          unfold rowsTerm
          rw [if_neg (by simpa using h2),if_pos (by simpa using h3)]
         have hfw:=few_term HFEW.out HQ.out (by rw [hu];exact Nat.zero_lt_one) us1 us3 HU1.out HU3.out
         clear hu
         obtain ⟨uu,huu⟩:∃ uu,uu=us3 ++ q.code.flatMap usesInstr:=⟨_,rfl⟩
         obtain ⟨rows,hrows⟩:∃ rows,rows=rs3 ++ rowsCode k q.code q.code.length:=⟨_,rfl⟩
         rw [← huu] at hfw HIe HUB
         rw [← hrows] at HIe HRB
         clear huu hrows
         obtain ⟨hrw1,hrw2,hown⟩:=HIe.out
         have HR1:=hideI hrw1
         have HR2:=hideI hrw2
         clear hrw1 hrw2
         go_wp2_with (at_builtin;refine wpList_append_lies _ rfl _ _ _ rfl w.heap.size 39 i0 _ 5 40 Tryz.underlying36 hi hz0 hz1 hz2 rfl (by decide) _ _ _ rfl (hown.alloc _) ⟨wr.heap.size,0,none⟩ 1 1 [.int .i64 q.term.val,.int .i64 0,.int .i64 k,.int .i64 q.code.length,.int .i64 0] rfl rfl (five_new _ _ _) (by simp [Value.oneCell']) (by decide) (by unfold maxLen;omega) (by omega) (by simp;omega) _ rfl ?_;intro g1 cap1 w4 hown1 hgrow1 hor hgl1;have hka:=hideI (Ka.grown hgrow1 (hown.alloc _) (by simp;omega));have HO1:=hideI hown1;clear hown1 hgrow1 hor hgl1)
         go_roundw
         case rel => exact ⟨k + 1,by omega,by go_num,by rw [HUB.out,HU.out,HRB.out,HRT.out];exact RU5.push HR1.out HR2.out HO1.out,(HF1.out.trans (HFj2.out.alloc hsz0 _)).trans hka.out⟩
         case measure => simp [intOf];omega
       ·have hu:usesTerm q.term=[(q.term.val,2)]:=by
         unfold usesTerm
         rw [if_pos (by simpa using h2)]
        have HU:=hideI hu
        have HRT:Hid (rowsTerm k q=[[q.term.val,2,(k:Int),(q.code.length:Int),0]]):=by
         show _=_
         unfold rowsTerm
         rw [if_pos (by simpa using h2)]
        have hfw:=few_term HFEW.out HQ.out (by rw [hu];exact Nat.zero_lt_one) us1 us3 HU1.out HU3.out
        clear hu
        have h3:(q.term.op == 3)=false:=by
         have:q.term.op=2:=by simpa using h2
         rw [this];rfl
        obtain ⟨uu,huu⟩:∃ uu,uu=us3 ++ q.code.flatMap usesInstr:=⟨_,rfl⟩
        obtain ⟨rows,hrows⟩:∃ rows,rows=rs3 ++ rowsCode k q.code q.code.length:=⟨_,rfl⟩
        rw [← huu] at hfw HIe HUB
        rw [← hrows] at HIe HRB
        clear huu hrows
        obtain ⟨hrw1,hrw2,hown⟩:=HIe.out
        have HR1:=hideI hrw1
        have HR2:=hideI hrw2
        clear hrw1 hrw2
        go_wp2_with (at_builtin;refine wpList_append_lies _ rfl _ _ _ rfl w.heap.size 39 i0 _ 5 40 Tryz.underlying36 hi hz0 hz1 hz2 rfl (by decide) _ _ _ rfl (hown.alloc _) ⟨wr.heap.size,0,none⟩ 1 1 [.int .i64 q.term.val,.int .i64 2,.int .i64 k,.int .i64 q.code.length,.int .i64 0] rfl rfl (five_new _ _ _) (by simp [Value.oneCell']) (by decide) (by unfold maxLen;omega) (by omega) (by simp;omega) _ rfl ?_;intro g1 cap1 w4 hown1 hgrow1 hor hgl1;have hka:=hideI (Ka.grown hgrow1 (hown.alloc _) (by simp;omega));have HO1:=hideI hown1;have hx4:=((HFj2.out.alloc hsz0 _).trans hka.out).row HB1.out (by decide);clear hown1 hgrow1 hor hgl1)
        go_roundw
        case rel => exact ⟨k + 1,by omega,by go_num,by rw [HUB.out,HU.out,HRB.out,HRT.out];exact RU5.push HR1.out HR2.out HO1.out,(HF1.out.trans (HFj2.out.alloc hsz0 _)).trans hka.out⟩
        case measure => simp [intOf];omega
  ·go_wp2
   go_ret
   refine ⟨_,rfl,?_,(hK0.out.trans HFk.out).below⟩
   have:=HIk.out
   rw [List.take_of_length_le (by omega),show k=bs.length by omega] at this
   exact this
end Go.Proofs.YtaehbgppfahdeaaGreat
