/- What EditReplaces rests on, part 18: RCopyB, RMapM, RCopyF, RMapF, RTo. -/
import Derived.Test.YtaehbgppfahdeaaGreatPkEditReplaces17

namespace Go.Proofs.YtaehbgppfahdeaaGreat
open Go.RowKit
def oneF (q:BlockM) (i j:Nat):FuncM:=⟨[],0,0,[⟨q.phis.take i,q.code.take j,q.term⟩]⟩
def CbD (i j:Nat):Tag → Prop
 | .params => False
 | .blocks => False
 | .phis k => k=0
 | .code k => k=0
 | .ends k => k=0
 | .fr k a => k=0 ∧ a < i
 | .vals k a => k=0 ∧ a < i
 | .args k a => k=0 ∧ a < j
structure SmallB (q:BlockM):Prop where
 phis:q.phis.length ≤ 100000
 code:q.code.length ≤ 100000
 ends:q.term.to.length ≤ 100000
 fr:∀ p ∈ q.phis,p.fr.length ≤ 100000 ∧ p.vals.length ≤ 100000
 args:∀ x ∈ q.code,x.args.length ≤ 100000
def CopyPost (q:BlockM) (w:World) (e:Ending) (w':World):Prop :=
 ∃ val:Vals,e=.returned (.agg #[val (.phis 0),val (.code 0),.int .i64 q.term.op,.int .i64 q.term.val,val (.ends 0),.int .i64 q.term.n]) ∧ OwnG w' w.heap.size (rowOf (oneF q q.phis.length q.code.length) val) val (CbD q.phis.length q.code.length) ∧ Below w.heap.size w w'
def outV (q:BlockM) (val:Vals):Array Value:=#[val (.phis 0),val (.code 0),.int .i64 q.term.op,.int .i64 q.term.val,val (.ends 0),.int .i64 q.term.n]
def CbSt (q:BlockM) (w wx:World) (g3 gr gb:Nat) (bx rs:Array Value) (i j:Nat) (val:Vals):Prop :=
 OwnC w wx (rowOf (oneF q i j) val) val (CbD i j) [(g3,outV q val,62),(gr,rs,62),(gb,bx,62)]
theorem cb_first {q:BlockM} {w wx:World} {bl:List VarD} {val:Vals} {r:Rows} {v:Value} (h:OwnC w wx (upd r (.ends 0) (some (intsRow q.term.to))) (upd val (.ends 0) v) (fun t => False ∨ t=.ends 0) bl) :
  ∃ val',val' (.ends 0)=v ∧ val' (.phis 0)=.slice none 0 0 ∧ val' (.code 0)=.slice none 0 0 ∧ OwnC w wx (rowOf (oneF q 0 0) val') val' (CbD 0 0) bl:=by
 refine ⟨fun t => if t=.ends 0 then v else .slice none 0 0,rfl,rfl,rfl,?_⟩
 obtain ⟨⟨h1,h2,h3⟩,h4,h5,h6,h7⟩:=h
 have hv:∀ t,CbD 0 0 t → t=.ends 0 ∨ t=.phis 0 ∨ t=.code 0:=fun t ht => by
  cases t <;> simp_all [CbD]
 refine ⟨⟨fun t ht => ?_,fun t d ht hd => ?_,fun t t' g ht ht' e1 e2 => ?_⟩,h4,fun x hx t ht => ?_,h6,h7⟩
 ·rcases hv t ht with rfl | rfl | rfl <;> rfl
 ·rcases hv t ht with rfl | rfl | rfl
  ·have:=h2 (.ends 0) (intsRow q.term.to) (.inr rfl) (upd_same _ _ _)
   rw [upd_same] at this
   cases hd
   exact this
  ·cases hd
   exact World.ownsRow_nil _ _ _ _
  ·cases hd
   exact World.ownsRow_nil _ _ _ _
 ·rcases hv t ht with rfl | rfl | rfl
  ·rcases hv t' ht' with rfl | rfl | rfl
   ·rfl
   ·cases e2
   ·cases e2
  ·cases e1
  ·cases e1
 ·rcases hv t ht with rfl | rfl | rfl
  ·have:=h5 x hx (.ends 0) (.inr rfl)
   rw [upd_same] at this
   exact this
  ·exact fun e => by cases e
  ·exact fun e => by cases e
theorem cb_phis {q:BlockM} {w wx:World} {bl:List VarD} {val:Vals} {i:Nat} {p:PhiM} {a b v:Value} {r:Rows} (hp:q.phis[i]?=some p)
  (hr:r=upd (upd (upd (rowOf (oneF q i 0) val) (.fr 0 i) (some (intsRow p.fr))) (.vals 0 i) (some (intsRow p.vals))) (.phis 0) (some ⟨76,4,i + 1,cellsOf (phiCells val 0) 0 (q.phis.take i) ++ [.int .i64 p.id,.int .i64 p.typ,a,b]⟩))
  (h:OwnC w wx r (upd (upd (upd val (.fr 0 i) a) (.vals 0 i) b) (.phis 0) v) (fun t => (CbD i 0 t ∨ t=.fr 0 i) ∨ t=.vals 0 i) bl) :
  OwnC w wx (rowOf (oneF q (i + 1) 0) (upd (upd (upd val (.fr 0 i) a) (.vals 0 i) b) (.phis 0) v)) (upd (upd (upd val (.fr 0 i) a) (.vals 0 i) b) (.phis 0) v) (CbD (i + 1) 0) bl:=by
 subst hr
 have hi:=(List.getElem?_eq_some_iff.1 hp).1
 have hlast:q.phis.take (i + 1)=q.phis.take i ++ [p]:=by rw [List.take_add_one,hp];rfl
 refine h.congr (fun t ht => ?_) (fun _ _ => rfl) (fun t ht => ?_)
 ·cases t with
  | params => exact ht.elim
  | blocks => exact ht.elim
  | phis k =>
   obtain rfl:k=0:=ht
   rw [upd_same]
   show some (RowD.mk _ 4 (q.phis.take (i + 1)).length (cellsOf _ 0 (q.phis.take (i + 1))))=_
   rw [hlast]
   congr 2
   ·simp;omega
   ·rw [cellsOf_push (g':=phiCells val 0)]
    ·congr 1
     have hl:0 + (q.phis.take i).length=i:=by simp;omega
     rw [hl]
     unfold phiCells
     simp [upd]
    ·intro k b2 hk
     have hki:k < i:=by
      have:=(List.getElem?_eq_some_iff.1 hk).1
      simp at this
      omega
     unfold phiCells
     have:k ≠ i:=by omega
     simp [upd,this]
  | code k =>
   obtain rfl:k=0:=ht
   simp [upd,rowOf,oneF,cellsOf]
  | ends k =>
   obtain rfl:k=0:=ht
   simp [upd,rowOf,oneF]
  | fr k c =>
   obtain ⟨rfl,hc⟩:=ht
   by_cases e:c=i
   ·subst e
    simp [upd,rowOf,oneF,hp]
   ·have hlt:c < i:=by omega
    simp [upd,rowOf,oneF,e,hlt,hc]
  | vals k c =>
   obtain ⟨rfl,hc⟩:=ht
   by_cases e:c=i
   ·subst e
    simp [upd,rowOf,oneF,hp]
   ·have hlt:c < i:=by omega
    simp [upd,rowOf,oneF,e,hlt,hc]
  | args k c => exact absurd ht.2 (by omega)
 ·cases t with
  | params => exact ht.elim
  | blocks => exact ht.elim
  | phis k => exact .inl (.inl ht)
  | code k => exact .inl (.inl ht)
  | ends k => exact .inl (.inl ht)
  | fr k c =>
   obtain ⟨rfl,hc⟩:=ht
   by_cases e:c=i
   ·subst e;exact .inl (.inr rfl)
   ·exact .inl (.inl ⟨rfl,by omega⟩)
  | vals k c =>
   obtain ⟨rfl,hc⟩:=ht
   by_cases e:c=i
   ·subst e;exact .inr rfl
   ·exact .inl (.inl ⟨rfl,by omega⟩)
  | args k c => exact absurd ht.2 (by omega)
theorem cb_code {q:BlockM} {w wx:World} {bl:List VarD} {val:Vals} {i j:Nat} {x:InstrM} {a v:Value} {r:Rows} (hx:q.code[j]?=some x)
  (hr:r=upd (upd (rowOf (oneF q i j) val) (.args 0 j) (some (intsRow x.args))) (.code 0) (some ⟨68,4,j + 1,cellsOf (instrCells val 0) 0 (q.code.take j) ++ [.int .i64 x.op,.int .i64 x.id,a,.int .i64 x.n]⟩))
  (h:OwnC w wx r (upd (upd val (.args 0 j) a) (.code 0) v) (fun t => CbD i j t ∨ t=.args 0 j) bl) :
  OwnC w wx (rowOf (oneF q i (j + 1)) (upd (upd val (.args 0 j) a) (.code 0) v)) (upd (upd val (.args 0 j) a) (.code 0) v) (CbD i (j + 1)) bl:=by
 subst hr
 have hi:=(List.getElem?_eq_some_iff.1 hx).1
 have hlast:q.code.take (j + 1)=q.code.take j ++ [x]:=by rw [List.take_add_one,hx];rfl
 refine h.congr (fun t ht => ?_) (fun _ _ => rfl) (fun t ht => ?_)
 ·cases t with
  | params => exact ht.elim
  | blocks => exact ht.elim
  | phis k =>
   obtain rfl:k=0:=ht
   simp only [upd,rowOf,oneF]
   simp
   exact cellsOf_congr _ _ fun k a _ => by unfold phiCells;simp [upd]
  | code k =>
   obtain rfl:k=0:=ht
   rw [upd_same]
   show some (RowD.mk _ 4 (q.code.take (j + 1)).length (cellsOf _ 0 (q.code.take (j + 1))))=_
   rw [hlast]
   congr 2
   ·simp;omega
   ·rw [cellsOf_push (g':=instrCells val 0)]
    ·congr 1
     have hl:0 + (q.code.take j).length=j:=by simp;omega
     rw [hl]
     unfold instrCells
     simp [upd]
    ·intro k b2 hk
     have hki:k < j:=by
      have:=(List.getElem?_eq_some_iff.1 hk).1
      simp at this
      omega
     unfold instrCells
     have:k ≠ j:=by omega
     simp [upd,this]
  | ends k =>
   obtain rfl:k=0:=ht
   simp [upd,rowOf,oneF]
  | fr k c =>
   obtain ⟨rfl,hc⟩:=ht
   simp [upd,rowOf,oneF]
  | vals k c =>
   obtain ⟨rfl,hc⟩:=ht
   simp [upd,rowOf,oneF]
  | args k c =>
   obtain ⟨rfl,hc⟩:=ht
   by_cases e:c=j
   ·subst e
    simp [upd,rowOf,oneF,hx]
   ·have hlt:c < j:=by omega
    simp [upd,rowOf,oneF,e,hlt,hc]
 ·cases t with
  | params => exact ht.elim
  | blocks => exact ht.elim
  | phis k => exact .inl ht
  | code k => exact .inl ht
  | ends k => exact .inl ht
  | fr k c => exact .inl ht
  | vals k c => exact .inl ht
  | args k c =>
   obtain ⟨rfl,hc⟩:=ht
   by_cases e:c=j
   ·subst e;exact .inr rfl
   ·exact .inl ⟨rfl,by omega⟩
set_option maxRecDepth 100000 in
set_option maxHeartbeats 4000000 in
theorem copyBlock_any (q:BlockM) (B:Nat) (pv cv tv:Value) (w:World) (hB:B ≤ w.heap.size) (hp:PhisR w B pv q.phis) (hc:CodeR w B cv q.code) (ht:Ints w B tv q.term.to) (hs:SmallB q) :
  Calls Tryz.prog 67 #[.agg #[pv,cv,.int .i64 q.term.op,.int .i64 q.term.val,tv,.int .i64 q.term.n]] w (CopyPost q w):=by
 have HP:=hideI hp
 have HC:=hideI hc
 have HTT:=hideI ht
 have HSM:=hideI hs
 obtain ⟨P,pc,rfl,_,kp⟩:=hp
 obtain ⟨C,cc,rfl,_,kc⟩:=hc
 obtain ⟨T,tc,rfl,_,_⟩:=ht
 obtain ⟨np,hnp⟩:∃ n,n=q.phis.length:=⟨_,rfl⟩
 obtain ⟨nc,hnc⟩:∃ n,n=q.code.length:=⟨_,rfl⟩
 obtain ⟨nt,hnt⟩:∃ n,n=q.term.to.length:=⟨_,rfl⟩
 rw [← hnp] at HP
 rw [← hnc] at HC
 rw [← hnt] at HTT
 rw [← hnp,← hnc,← hnt]
 have HNN:=hideI (And.intro hnp (And.intro hnc hnt))
 obtain ⟨W3,hW3⟩:∃ W3,W3=((w.alloc (.cells #[.slice P np pc,.slice C nc cc,.int .i64 q.term.op,.int .i64 q.term.val,.slice T nt tc,.int .i64 q.term.n] 62)).alloc (.cells #[.slice none 0 0,.slice none 0 0,.int .i64 0,.int .i64 0,.slice none 0 0,.int .i64 0] 62)).alloc (.cells #[.slice none 0 0,.slice none 0 0,.int .i64 q.term.op,.int .i64 q.term.val,.slice T nt tc,.int .i64 q.term.n] 62):=⟨_,rfl⟩
 have hst:=(((OwnC.nothing w (fun _ => none) (fun _ => .slice none 0 0)).make #[.slice P np pc,.slice C nc cc,.int .i64 q.term.op,.int .i64 q.term.val,.slice T nt tc,.int .i64 q.term.n] 62).make #[.slice none 0 0,.slice none 0 0,.int .i64 0,.int .i64 0,.slice none 0 0,.int .i64 0] 62).make #[.slice none 0 0,.slice none 0 0,.int .i64 q.term.op,.int .i64 q.term.val,.slice T nt tc,.int .i64 q.term.n] 62
 rw [← hW3] at hst
 simp only [World.size_alloc] at hst
 have HST:=hideI hst
 have HW3:=hideI hW3
 clear hnp hnc hnt kp kc hst hs hW3
 go_enter Tryz.func67,Tryz.ntmps67
 go_upto_region 2 with fail
 rw [← HW3.out]
 have hkB:Hid (∀ W,Below w.heap.size w W → Keeps B w W):=hideI fun W hW => Keeps.of_below (hW.mono hB)
 have hxb:=row_cells (HST.out.cells _ (List.mem_cons_of_mem _ (List.mem_cons_of_mem _ (List.mem_cons_self ..)))).1 rfl
 have x4:=hxb 4
 have HS4:=hideI (HST.out.make #[] 3)
 have hge:=(HS4.out.cells _ (List.mem_cons_self ..)).1
 have hT:Ints (W3.alloc (.cells #[] 3)) B (.slice T nt tc) q.term.to:=HTT.out.keeps (hkB.out _ HS4.out.below)
 have hnt5:q.term.to.length ≤ 100000:=HSM.out.ends
 have hbs:w.heap.size ≤ W3.heap.size:=HST.out.below.size
 have hlt0:w.heap.size < W3.heap.size:=HST.out.lt (List.mem_cons_of_mem _ (List.mem_cons_of_mem _ (List.mem_cons_self ..)))
 have hlt2:w.heap.size + 1 + 1 < W3.heap.size:=HST.out.lt (List.mem_cons_self ..)
 clear hxb
 go_upto_region 3 with (first
  | (at_builtin;go_must (refine wpList_copy rfl _ _ rfl B W3.heap.size (.slice T nt tc) q.term.to rfl rfl hT hge hnt5 w.heap.size hbs ?_);intro A1 c1 w4 hown hg hv;have HS5:=hideI (OwnC.comes (t0:=.ends 0) (d:=intsRow q.term.to) HS4.out (fun h => h) hg hown hv);have hxo:=row_cells (HS5.out.cells _ (List.mem_cons_self ..)).1 rfl;have hzo:=fun o => frozen_of_row w4 (w.heap.size + 1 + 1) o _ _ (HS5.out.cells _ (List.mem_cons_self ..)).1;have y4:=hxo 4;have z4:=hzo 4;clear hxo hzo hown hg hv hT hge x4))
 have HS6:=hideI (HS5.out.store (j:=4) (.slice A1 q.term.to.length c1))
 obtain ⟨val,hv1,hv2,hv3,hst⟩:=cb_first HS6.out
 obtain ⟨W6,hW6⟩:∃ W6,W6=w4.setCell ⟨w.heap.size + 1 + 1,4,none⟩ (.slice A1 q.term.to.length c1):=⟨_,rfl⟩
 rw [← hW6] at hst ⊢
 have hst:CbSt q w W6 (w.heap.size + 1 + 1) (w.heap.size + 1) w.heap.size #[.slice P np pc,.slice C nc cc,.int .i64 q.term.op,.int .i64 q.term.val,.slice T nt tc,.int .i64 q.term.n] #[.slice none 0 0,.slice none 0 0,.int .i64 0,.int .i64 0,.slice none 0 0,.int .i64 0] 0 0 val:=by
  unfold CbSt outV
  rw [hv1,hv2,hv3]
  exact hst
 obtain ⟨g3,hg3⟩:∃ g,g=w.heap.size + 1 + 1:=⟨_,rfl⟩
 rw [← hg3] at hst ⊢
 have HCB:=hideI hst
 have HG3:=hideI hg3
 clear hst hv1 hv2 hv3 hW6 y4 z4 HS4 HS5 HS6 HST HW3 hg3 hbs hnt5 hlt0 hlt2
 obtain ⟨bx,hbx⟩:∃ bx:Array Value,bx=#[.slice P np pc,.slice C nc cc,.int .i64 q.term.op,.int .i64 q.term.val,.slice T nt tc,.int .i64 q.term.n]:=⟨_,rfl⟩
 obtain ⟨rs,hrs⟩:∃ rs:Array Value,rs=#[.slice none 0 0,.slice none 0 0,.int .i64 0,.int .i64 0,.slice none 0 0,.int .i64 0]:=⟨_,rfl⟩
 rw [← hbx,← hrs] at HCB
 have HBOX:Hid (∀ (wx:World) (i j:Nat) (val:Vals),CbSt q w wx g3 (w.heap.size + 1) w.heap.size bx rs i j val → wx.cell? ⟨w.heap.size,0,none⟩=some (.slice P np pc) ∧ wx.cell? ⟨w.heap.size,1,none⟩=some (.slice C nc cc) ∧ w.heap.size < wx.heap.size ∧ g3 < wx.heap.size):=hideI fun wx i j val h => by
  have hm:=List.mem_cons_of_mem (g3,outV q val,62) (List.mem_cons_of_mem (w.heap.size + 1,rs,62) (List.mem_cons_self (a:=(w.heap.size,bx,62)) (l:=[])))
  have hx:=row_cells (h.cells _ hm).1 rfl
  rw [hbx] at hx
  exact ⟨hx 0,hx 1,h.lt hm,h.lt (List.mem_cons_self ..)⟩
 have HBX:=hideI (And.intro hbx hrs)
 clear hbx hrs
 have KP:Hid (∀ (k:Nat) (p:PhiM),q.phis[k]?=some p → ∃ b off F nf cf V nv cv,P=some ⟨b,off,none⟩ ∧ b < B ∧ nf=p.fr.length ∧ nv=p.vals.length ∧ w.cell? ⟨b,off + k * 4,none⟩=some (.int .i64 p.id) ∧ w.cell? ⟨b,off + k * 4 + 1,none⟩=some (.int .i64 p.typ) ∧ w.cell? ⟨b,off + k * 4 + 2,none⟩=some (.slice F nf cf) ∧ w.cell? ⟨b,off + k * 4 + 3,none⟩=some (.slice V nv cv) ∧ Ints w B (.slice F nf cf) p.fr ∧ Ints w B (.slice V nv cv) p.vals):=hideI fun k p hk => by
  obtain ⟨A,c,e,_,h⟩:=HP.out
  injection e with e _ _
  subst e
  obtain ⟨b,off,fv,vv,h1,h2,h3,h4,h5,h6,h7,h8,_⟩:=h k p hk
  obtain ⟨F,cf,rfl,_⟩:=id h7
  obtain ⟨V,cv,rfl,_⟩:=id h8
  exact ⟨b,off,F,_,cf,V,_,cv,h1,h2,rfl,rfl,h3,h4,h5,h6,h7,h8⟩
 go_upto_region 4 with fail
 go_loopw [4,5] (fun u _ wr => ∃ (i:Nat) (val:Vals),i ≤ np ∧ u=.int .i64 i ∧ Hid (CbSt q w wr g3 (w.heap.size + 1) w.heap.size bx rs i 0 val)) (fun u _ _ => np - (intOf u).toNat)
 case atStart => exact ⟨0,val,Nat.zero_le _,by go_num,HCB⟩
 case round =>
  obtain ⟨i,val,hi,rfl,HC1⟩:=hrel
  obtain ⟨x0,x1,hlb,hl3⟩:=HBOX.out _ _ _ _ HC1.out
  have hn1:=HNN.out.1
  have hnp5:np ≤ 100000:=by rw [hn1];exact HSM.out.phis
  clear hn1
  by_cases hlt:i < np
  ·obtain ⟨p,hp⟩:∃ p,q.phis[i]?=some p:=⟨_,List.getElem?_eq_getElem (by have:=HNN.out.1;omega)⟩
   obtain ⟨b,off,F,nf,cf,V,nv,cv2,rfl,hb,hnf,hnv,d0,d1,d2,d3,hif,hiv⟩:=KP.out i p hp
   have hk:=hkB.out _ HC1.out.below
   have c0:=(hk _ _ hb).trans d0
   have c1:=(hk _ _ hb).trans d1
   have c2:=(hk _ _ hb).trans d2
   have c3:=(hk _ _ hb).trans d3
   have i1:(0:Int) ≤ (i:Int):=by omega
   have i2:(i:Int) < (np:Int):=by omega
   have hsf:=HSM.out.fr p (List.mem_of_getElem? hp)
   have HSF:=hideI hsf
   have HIF:=hideI (And.intro hif hiv)
   have HPI:=hideI hp
   have HNF:=hideI (And.intro hnf hnv)
   clear hsf hif hiv hp hnf hnv d0 d1 d2 d3 hk
   go_upto_region 7 with fail
   obtain ⟨W1,hW1⟩:∃ W1,W1=wr.alloc (.cells #[.int .i64 p.id,.int .i64 p.typ,.slice F nf cf,.slice V nv cv2] 76):=⟨_,rfl⟩
   have hs1:=OwnC.make HC1.out #[.int .i64 p.id,.int .i64 p.typ,.slice F nf cf,.slice V nv cv2] 76
   rw [← hW1] at hs1 ⊢
   have hsz1:W1.heap.size=wr.heap.size + 1:=by rw [hW1];simp
   obtain ⟨gp,hgp⟩:∃ g,g=wr.heap.size:=⟨_,rfl⟩
   rw [← hgp] at hs1 hsz1 ⊢
   have hx:=row_cells (hs1.cells _ (List.mem_cons_self ..)).1 rfl
   have e2:=hx 2
   have hlp:gp < W1.heap.size:=by omega
   have HS1:=hideI hs1
   have HGP:=hideI hgp
   have HS2:=hideI (hs1.make #[] 3)
   have hge:=(HS2.out.cells _ (List.mem_cons_self ..)).1
   have hint:Ints (W1.alloc (.cells #[] 3)) B (.slice F nf cf) p.fr:=HIF.out.1.keeps (hkB.out _ HS2.out.below)
   have hfr5:=HSF.out.1
   have hb1:w.heap.size ≤ W1.heap.size:=hs1.below.size
   clear hx hs1 hW1 hgp hsz1 c0 c1 c2 c3 x0 x1 hlb hl3 i1 i2
   go_upto_region 8 with (first
    | (at_builtin;go_must (refine wpList_copy rfl _ _ rfl B W1.heap.size (.slice F nf cf) p.fr rfl rfl hint hge hfr5 w.heap.size hb1 ?_);intro A2 c2 w2 hown hg hv;have HS3:=hideI (OwnC.comes (t0:=.fr 0 i) (d:=intsRow p.fr) HS2.out (fun h => by have:=h.2;omega) hg hown hv);have hxo:=row_cells (HS3.out.cells _ (List.mem_cons_self ..)).1 rfl;have hzo:=fun o => frozen_of_row w2 gp o _ _ (HS3.out.cells _ (List.mem_cons_self ..)).1;have y2:=hxo 2;have z2:=hzo 2;clear hxo hzo hown hg hv hint hge e2))
   obtain ⟨W4,hW4⟩:∃ W4,W4=w2.setCell ⟨gp,2,none⟩ (.slice A2 p.fr.length c2):=⟨_,rfl⟩
   have hs4:=OwnC.store (j:=2) HS3.out (.slice A2 p.fr.length c2)
   simp only [List.setIfInBounds_toArray,List.set_cons_zero,List.set_cons_succ] at hs4
   rw [← hW4] at hs4 ⊢
   have hx:=row_cells (hs4.cells _ (List.mem_cons_self ..)).1 rfl
   have e3:=hx 3
   have hlp4:gp < W4.heap.size:=hs4.lt (List.mem_cons_self ..)
   have HS4:=hideI hs4
   have HS5:=hideI (hs4.make #[] 3)
   have hge:=(HS5.out.cells _ (List.mem_cons_self ..)).1
   have hint:Ints (W4.alloc (.cells #[] 3)) B (.slice V nv cv2) p.vals:=HIF.out.2.keeps (hkB.out _ HS5.out.below)
   have hvl5:=HSF.out.2
   have hb4:w.heap.size ≤ W4.heap.size:=hs4.below.size
   clear hx hs4 hW4 y2 z2 HS3 HS2 HS1
   go_upto_region 9 with (first
    | (at_builtin;go_must (refine wpList_copy rfl _ _ rfl B W4.heap.size (.slice V nv cv2) p.vals rfl rfl hint hge hvl5 w.heap.size hb4 ?_);intro A3 c3 w5 hown hg hv;have HS6:=hideI (OwnC.comes (t0:=.vals 0 i) (d:=intsRow p.vals) HS5.out (fun h => by rcases h with h | h;(have:=h.2;omega);(cases h)) hg hown hv);have hxo:=row_cells (HS6.out.cells _ (List.mem_cons_self ..)).1 rfl;have hzo:=fun o => frozen_of_row w5 gp o _ _ (HS6.out.cells _ (List.mem_cons_self ..)).1;have y3:=hxo 3;have z3:=hzo 3;clear hxo hzo hown hg hv hint hge e3))
   obtain ⟨W7,hW7⟩:∃ W7,W7=w5.setCell ⟨gp,3,none⟩ (.slice A3 p.vals.length c3):=⟨_,rfl⟩
   have hs7:=OwnC.store (j:=3) HS6.out (.slice A3 p.vals.length c3)
   simp only [List.setIfInBounds_toArray,List.set_cons_zero,List.set_cons_succ] at hs7
   rw [← hW7] at hs7 ⊢
   have hx:=row_cells (hs7.cells _ (List.mem_cons_self ..)).1 rfl
   have f0:=hx 0
   have f1:=hx 1
   have f2:=hx 2
   have f3:=hx 3
   have hlp7:gp < W7.heap.size:=hs7.lt (List.mem_cons_self ..)
   have hl37:g3 < W7.heap.size:=hs7.lt (List.mem_cons_of_mem _ (List.mem_cons_self ..))
   have hxo:=row_cells (hs7.cells _ (List.mem_cons_of_mem _ (List.mem_cons_self ..))).1 rfl
   have h30:=hxo 0
   have HS8:=hideI (hs7.make #[.int .i64 p.id,.int .i64 p.typ,.slice A2 p.fr.length c2,.slice A3 p.vals.length c3] 76)
   have HS7:=hideI hs7
   have hip:(q.phis.take i).length=i:=by have:=(List.getElem?_eq_some_iff.1 HPI.out).1;simp;omega
   have hown0:=HS8.out.own.rows (.phis 0) ⟨76,4,(q.phis.take i).length,cellsOf (phiCells val 0) 0 (q.phis.take i)⟩ (.inl (.inl rfl)) rfl
   obtain ⟨Ap,cp,hvp⟩:=own_form hown0
   have hvp:val (.phis 0)=.slice Ap (q.phis.take i).length cp:=hvp
   have hown0:(W7.alloc (.cells #[.int .i64 p.id,.int .i64 p.typ,.slice A2 p.fr.length c2,.slice A3 p.vals.length c3] 76)).ownsRow w.heap.size 76 4 (.slice Ap i cp) i (cellsOf (phiCells val 0) 0 (q.phis.take i)):=by
    have h:(W7.alloc (.cells #[.int .i64 p.id,.int .i64 p.typ,.slice A2 p.fr.length c2,.slice A3 p.vals.length c3] 76)).ownsRow w.heap.size 76 4 (val (.phis 0)) (q.phis.take i).length (cellsOf (phiCells val 0) 0 (q.phis.take i)):=hown0
    rw [hvp,hip] at h
    exact h
   rw [hip] at hvp
   replace h30:W7.cell? ⟨g3,0,none⟩=some (.slice Ap i cp):=by rw [← hvp];exact h30
   have hnews:=World.news_of_block (HS8.out.cells _ (List.mem_cons_self ..)).1
   obtain ⟨i0,hix,hz0,hz1,hz2⟩:=info_parts phi_info
   have hb7:w.heap.size ≤ W7.heap.size:=HS7.out.below.size
   have HVP:=hideI hvp
   clear hx hxo hs7 hW7 y3 z3 HS6 HS5 HS4 hip hvp
   go_wp2_with (first
    | (at_builtin;go_must (refine wpList_append_lies _ rfl _ _ _ rfl w.heap.size 76 i0 _ 4 64 Tryz.underlying57 hix hz0 hz1 hz2 rfl (by decide) (.slice Ap i cp) i _ rfl hown0 ⟨W7.heap.size,0,none⟩ 1 1 [.int .i64 p.id,.int .i64 p.typ,.slice A2 p.fr.length c2,.slice A3 p.vals.length c3] rfl rfl hnews (by simp [Value.oneCell']) (by decide) (by unfold maxLen;omega) (by omega) (by simp;omega) _ rfl ?_);intro g1 cap1 w8 hown hgrow hor hgl;have HS9:=hideI (OwnC.drop (OwnC.grow (t0:=.phis 0) (d:=⟨76,4,i + 1,cellsOf (phiCells val 0) 0 (q.phis.take i) ++ [.int .i64 p.id,.int .i64 p.typ,.slice A2 p.fr.length c2,.slice A3 p.vals.length c3]⟩) HS8.out (.inl (.inl rfl)) hown (by rw [show upd (upd val (Tag.fr 0 i) (Value.slice A2 p.fr.length c2)) (Tag.vals 0 i) (Value.slice A3 p.vals.length c3) (Tag.phis 0)=val (.phis 0) from rfl,HVP.out];exact hgrow) rfl (by rw [show upd (upd val (Tag.fr 0 i) (Value.slice A2 p.fr.length c2)) (Tag.vals 0 i) (Value.slice A3 p.vals.length c3) (Tag.phis 0)=val (.phis 0) from rfl,HVP.out];exact hor)) (List.sublist_append_right [_,_] [_,_,_]));have hxo:=row_cells (HS9.out.cells _ (List.mem_cons_self ..)).1 rfl;have hzo:=fun o => frozen_of_row w8 g3 o _ _ (HS9.out.cells _ (List.mem_cons_self ..)).1;have y0:w8.cell? ⟨g3,0,none⟩=some (.slice Ap i cp):=(by rw [← HVP.out];exact hxo 0);have z0:=hzo 0;clear hxo hzo hown hgrow hor hgl hown0 hnews f0 f1 f2 f3 h30))
   have hs10:=OwnC.store (j:=0) HS9.out (.slice (some ⟨g1,0,none⟩) (i + 1) cap1)
   have HS11:=hideI (cb_phis HPI.out rfl hs10)
   exact ⟨⟨i + 1,_,by omega,by go_num,hideI HS11.out⟩,by simp [intOf];omega⟩
  ·have hie:i=np:=by omega
   have HIE:=hideI hie
   clear hie
   have KX:Hid (∀ (k:Nat) (x:InstrM),q.code[k]?=some x → ∃ b off F nf cf,C=some ⟨b,off,none⟩ ∧ b < B ∧ nf=x.args.length ∧ w.cell? ⟨b,off + k * 4,none⟩=some (.int .i64 x.op) ∧ w.cell? ⟨b,off + k * 4 + 1,none⟩=some (.int .i64 x.id) ∧ w.cell? ⟨b,off + k * 4 + 2,none⟩=some (.slice F nf cf) ∧ w.cell? ⟨b,off + k * 4 + 3,none⟩=some (.int .i64 x.n) ∧ Ints w B (.slice F nf cf) x.args):=hideI fun k x hk => by
    obtain ⟨A,c,e,_,h⟩:=HC.out
    injection e with e _ _
    subst e
    obtain ⟨b,off,fv,h1,h2,h3,h4,h5,h6,h7,_⟩:=h k x hk
    obtain ⟨F,cf,rfl,_⟩:=id h7
    exact ⟨b,off,F,_,cf,h1,h2,rfl,h3,h4,h5,h6,h7⟩
   have hn1:=HNN.out.2.1
   have hnc5:nc ≤ 100000:=by rw [hn1];exact HSM.out.code
   clear hn1 hlb hl3 x1
   go_upto_region 11 with fail
   go_loopw [6,7] (fun u _ wr => ∃ (j:Nat) (val:Vals),j ≤ nc ∧ u=.int .i64 j ∧ Hid (CbSt q w wr g3 (w.heap.size + 1) w.heap.size bx rs i j val)) (fun u _ _ => nc - (intOf u).toNat)
   case atStart => exact ⟨0,val,Nat.zero_le _,by go_num,HC1⟩
   case round =>
    clear x0 HC1
    obtain ⟨j,val,hj,rfl,HC1⟩:=hrel
    obtain ⟨x0,x1,hlb,hl3⟩:=HBOX.out _ _ _ _ HC1.out
    by_cases hltj:j < nc
    ·obtain ⟨x,hx⟩:∃ x,q.code[j]?=some x:=⟨_,List.getElem?_eq_getElem (by have:=HNN.out.2.1;omega)⟩
     obtain ⟨b,off,F,nf,cf,rfl,hb,hnf,d0,d1,d2,d3,hif⟩:=KX.out j x hx
     have hk:=hkB.out _ HC1.out.below
     have c0:=(hk _ _ hb).trans d0
     have c1:=(hk _ _ hb).trans d1
     have c2:=(hk _ _ hb).trans d2
     have c3:=(hk _ _ hb).trans d3
     have i1:(0:Int) ≤ (j:Int):=by omega
     have i2:(j:Int) < (nc:Int):=by omega
     have hsf:=HSM.out.args x (List.mem_of_getElem? hx)
     have HSF:=hideI hsf
     have HIF:=hideI hif
     have HPI:=hideI hx
     have HNF:=hideI hnf
     clear hsf hif hx hnf d0 d1 d2 d3 hk
     go_upto_region 14 with fail
     obtain ⟨W1,hW1⟩:∃ W1,W1=wr.alloc (.cells #[.int .i64 x.op,.int .i64 x.id,.slice F nf cf,.int .i64 x.n] 68):=⟨_,rfl⟩
     have hs1:=OwnC.make HC1.out #[.int .i64 x.op,.int .i64 x.id,.slice F nf cf,.int .i64 x.n] 68
     rw [← hW1] at hs1 ⊢
     have hsz1:W1.heap.size=wr.heap.size + 1:=by rw [hW1];simp
     obtain ⟨gp,hgp⟩:∃ g,g=wr.heap.size:=⟨_,rfl⟩
     rw [← hgp] at hs1 hsz1 ⊢
     have hx:=row_cells (hs1.cells _ (List.mem_cons_self ..)).1 rfl
     have e2:=hx 2
     have hlp:gp < W1.heap.size:=by omega
     have HS1:=hideI hs1
     have HS2:=hideI (hs1.make #[] 3)
     have hge:=(HS2.out.cells _ (List.mem_cons_self ..)).1
     have hint:Ints (W1.alloc (.cells #[] 3)) B (.slice F nf cf) x.args:=HIF.out.keeps (hkB.out _ HS2.out.below)
     have hfr5:=HSF.out
     have hb1:w.heap.size ≤ W1.heap.size:=hs1.below.size
     clear hx hs1 hW1 hgp hsz1 c0 c1 c2 c3 x0 x1 hlb hl3 i1 i2
     go_upto_region 15 with (first
      | (at_builtin;go_must (refine wpList_copy rfl _ _ rfl B W1.heap.size (.slice F nf cf) x.args rfl rfl hint hge hfr5 w.heap.size hb1 ?_);intro A2 c2 w2 hown hg hv;have HS3:=hideI (OwnC.comes (t0:=.args 0 j) (d:=intsRow x.args) HS2.out (fun h => by have:=h.2;omega) hg hown hv);have hxo:=row_cells (HS3.out.cells _ (List.mem_cons_self ..)).1 rfl;have hzo:=fun o => frozen_of_row w2 gp o _ _ (HS3.out.cells _ (List.mem_cons_self ..)).1;have y2:=hxo 2;have z2:=hzo 2;clear hxo hzo hown hg hv hint hge e2))
     obtain ⟨W7,hW7⟩:∃ W7,W7=w2.setCell ⟨gp,2,none⟩ (.slice A2 x.args.length c2):=⟨_,rfl⟩
     have hs7:=OwnC.store (j:=2) HS3.out (.slice A2 x.args.length c2)
     simp only [List.setIfInBounds_toArray,List.set_cons_zero,List.set_cons_succ] at hs7
     rw [← hW7] at hs7 ⊢
     have hx:=row_cells (hs7.cells _ (List.mem_cons_self ..)).1 rfl
     have f0:=hx 0
     have f1:=hx 1
     have f2:=hx 2
     have f3:=hx 3
     have hlp7:gp < W7.heap.size:=hs7.lt (List.mem_cons_self ..)
     have hl37:g3 < W7.heap.size:=hs7.lt (List.mem_cons_of_mem _ (List.mem_cons_self ..))
     have hxo:=row_cells (hs7.cells _ (List.mem_cons_of_mem _ (List.mem_cons_self ..))).1 rfl
     have h30:=hxo 1
     have HS8:=hideI (hs7.make #[.int .i64 x.op,.int .i64 x.id,.slice A2 x.args.length c2,.int .i64 x.n] 68)
     have HS7:=hideI hs7
     have hip:(q.code.take j).length=j:=by have:=(List.getElem?_eq_some_iff.1 HPI.out).1;simp;omega
     have hown0:=HS8.out.own.rows (.code 0) ⟨68,4,(q.code.take j).length,cellsOf (instrCells val 0) 0 (q.code.take j)⟩ (.inl rfl) rfl
     obtain ⟨Ap,cp,hvp⟩:=own_form hown0
     have hvp:val (.code 0)=.slice Ap (q.code.take j).length cp:=hvp
     have hown0:(W7.alloc (.cells #[.int .i64 x.op,.int .i64 x.id,.slice A2 x.args.length c2,.int .i64 x.n] 68)).ownsRow w.heap.size 68 4 (.slice Ap j cp) j (cellsOf (instrCells val 0) 0 (q.code.take j)):=by
      have h:(W7.alloc (.cells #[.int .i64 x.op,.int .i64 x.id,.slice A2 x.args.length c2,.int .i64 x.n] 68)).ownsRow w.heap.size 68 4 (val (.code 0)) (q.code.take j).length (cellsOf (instrCells val 0) 0 (q.code.take j)):=hown0
      rw [hvp,hip] at h
      exact h
     rw [hip] at hvp
     replace h30:W7.cell? ⟨g3,1,none⟩=some (.slice Ap j cp):=by rw [← hvp];exact h30
     have hnews:=World.news_of_block (HS8.out.cells _ (List.mem_cons_self ..)).1
     obtain ⟨i0,hix,hz0,hz1,hz2⟩:=info_parts instr_info
     have hb7:w.heap.size ≤ W7.heap.size:=HS7.out.below.size
     have HVP:=hideI hvp
     clear hx hxo hs7 hW7 y2 z2 HS3 HS2 HS1 hip hvp
     go_wp2_with (first
      | (at_builtin;go_must (refine wpList_append_lies _ rfl _ _ _ rfl w.heap.size 68 i0 _ 4 48 Tryz.underlying58 hix hz0 hz1 hz2 rfl (by decide) (.slice Ap j cp) j _ rfl hown0 ⟨W7.heap.size,0,none⟩ 1 1 [.int .i64 x.op,.int .i64 x.id,.slice A2 x.args.length c2,.int .i64 x.n] rfl rfl hnews (by simp [Value.oneCell']) (by decide) (by unfold maxLen;omega) (by omega) (by simp;omega) _ rfl ?_);intro g1 cap1 w8 hown hgrow hor hgl;have HS9:=hideI (OwnC.drop (OwnC.grow (t0:=.code 0) (d:=⟨68,4,j + 1,cellsOf (instrCells val 0) 0 (q.code.take j) ++ [.int .i64 x.op,.int .i64 x.id,.slice A2 x.args.length c2,.int .i64 x.n]⟩) HS8.out (.inl rfl) hown (by rw [show upd val (Tag.args 0 j) (Value.slice A2 x.args.length c2) (Tag.code 0)=val (.code 0) from rfl,HVP.out];exact hgrow) rfl (by rw [show upd val (Tag.args 0 j) (Value.slice A2 x.args.length c2) (Tag.code 0)=val (.code 0) from rfl,HVP.out];exact hor)) (List.sublist_append_right [_,_] [_,_,_]));have hxo:=row_cells (HS9.out.cells _ (List.mem_cons_self ..)).1 rfl;have hzo:=fun o => frozen_of_row w8 g3 o _ _ (HS9.out.cells _ (List.mem_cons_self ..)).1;have y0:w8.cell? ⟨g3,1,none⟩=some (.slice Ap j cp):=(by rw [← HVP.out];exact hxo 1);have z0:=hzo 1;clear hxo hzo hown hgrow hor hgl hown0 hnews f0 f1 f2 f3 h30))
     have hs10:=OwnC.store (j:=1) HS9.out (.slice (some ⟨g1,0,none⟩) (j + 1) cap1)
     have HS11:=hideI (cb_code HPI.out rfl hs10)
     exact ⟨⟨j + 1,_,by omega,by go_num,hideI HS11.out⟩,by simp [intOf];omega⟩
    ·have hje:j=nc:=by omega
     have HJE:=hideI hje
     clear hje
     obtain ⟨Aph,cph,hvph⟩:=own_form (HC1.out.own.rows (.phis 0) _ rfl rfl)
     obtain ⟨Aco,cco,hvco⟩:=own_form (HC1.out.own.rows (.code 0) _ rfl rfl)
     obtain ⟨Aen,cen,hven⟩:=own_form (HC1.out.own.rows (.ends 0) _ rfl rfl)
     obtain ⟨nph,hnph⟩:∃ n,val (.phis 0)=.slice Aph n cph:=⟨_,hvph⟩
     obtain ⟨nco,hnco⟩:∃ n,val (.code 0)=.slice Aco n cco:=⟨_,hvco⟩
     obtain ⟨nen,hnen⟩:∃ n,val (.ends 0)=.slice Aen n cen:=⟨_,hven⟩
     have hx3:=row_cells (HC1.out.cells _ (List.mem_cons_self ..)).1 rfl
     have hxr:=row_cells (HC1.out.cells _ (List.mem_cons_of_mem _ (List.mem_cons_self ..))).1 rfl
     have hzr:=fun o => frozen_of_row wr (w.heap.size + 1) o _ _ (HC1.out.cells _ (List.mem_cons_of_mem _ (List.mem_cons_self ..))).1
     have hcr:∀ o,wr.cell? ⟨w.heap.size + 1,o,none⟩=(#[.slice none 0 0,.slice none 0 0,.int .i64 0,.int .i64 0,.slice none 0 0,.int .i64 0]:Array Value)[o]?:=fun o => by rw [← HBX.out.2];exact hxr o
     have hc3:∀ o,wr.cell? ⟨g3,o,none⟩=(#[.slice Aph nph cph,.slice Aco nco cco,.int .i64 q.term.op,.int .i64 q.term.val,.slice Aen nen cen,.int .i64 q.term.n]:Array Value)[o]?:=fun o => by rw [← hnph,← hnco,← hnen];exact hx3 o
     have a0:=hc3 0
     have a1:=hc3 1
     have a2:=hc3 2
     have a3:=hc3 3
     have a4:=hc3 4
     have a5:=hc3 5
     have b0:=hcr 0
     have b1:=hcr 1
     have b2:=hcr 2
     have b3:=hcr 3
     have b4:=hcr 4
     have b5:=hcr 5
     have z0:=hzr 0
     have z1:=hzr 1
     have z2:=hzr 2
     have z3:=hzr 3
     have z4:=hzr 4
     have z5:=hzr 5
     clear hx3 hxr hzr hcr hc3 hvph hvco hven
     have hp:=OwnC.perm HC1.out (List.Perm.swap _ _ _)
     rw [HBX.out.2] at hp
     have h6:=(((((hp.store (j:=0) (.slice Aph nph cph)).store (j:=1) (.slice Aco nco cco)).store (j:=2) (.int .i64 q.term.op)).store (j:=3) (.int .i64 q.term.val)).store (j:=4) (.slice Aen nen cen)).store (j:=5) (.int .i64 q.term.n)
     simp only [List.setIfInBounds_toArray,List.set_cons_zero,List.set_cons_succ] at h6
     clear hp
     have H6:=hideI h6
     clear h6
     go_wp2
     obtain ⟨W8,hW8⟩:∃ W8,W8=(((((wr.setCell ⟨w.heap.size + 1,0,none⟩ (.slice Aph nph cph)).setCell ⟨w.heap.size + 1,1,none⟩ (.slice Aco nco cco)).setCell ⟨w.heap.size + 1,2,none⟩ (.int .i64 q.term.op)).setCell ⟨w.heap.size + 1,3,none⟩ (.int .i64 q.term.val)).setCell ⟨w.heap.size + 1,4,none⟩ (.slice Aen nen cen)).setCell ⟨w.heap.size + 1,5,none⟩ (.int .i64 q.term.n):=⟨_,rfl⟩
     rw [← hW8] at H6 ⊢
     have hx:=row_cells (H6.out.cells _ (List.mem_cons_self ..)).1 rfl
     have s0:=hx 0
     have s1:=hx 1
     have s2:=hx 2
     have s3:=hx 3
     have s4:=hx 4
     have s5:=hx 5
     clear hx hW8 a0 a1 a2 a3 a4 a5 b0 b1 b2 b3 b4 b5 z0 z1 z2 z3 z4 z5
     refine bodyPost_ret (v:=.agg #[.slice Aph nph cph,.slice Aco nco cco,.int .i64 q.term.op,.int .i64 q.term.val,.slice Aen nen cen,.int .i64 q.term.n]) (by simp [results,Tryz.results67,go_sem,s0,s1,s2,s3,s4,s5]) rfl ?_
     refine ⟨val,by rw [hnph,hnco,hnen],?_,H6.out.below⟩
     have hown:=H6.out.own
     rw [HIE.out,HJE.out,HNN.out.1,HNN.out.2.1] at hown
     exact hown
end Go.Proofs.YtaehbgppfahdeaaGreat

namespace Go.Proofs.YtaehbgppfahdeaaGreat
open Go.RowKit
def oneB (q:BlockM):FuncM:=⟨[],0,0,[q]⟩
theorem oneF_all (q:BlockM):oneF q q.phis.length q.code.length=oneB q:=by
 unfold oneF oneB
 simp only [List.take_length]
def rowV (h:Int → Int) (q:BlockM) (i k:Nat) (p:PhiM) (val:Vals):Rows:=upd (rowOf (stF h (oneB q) 0 i 0) val) (.vals 0 i) (some (intsRow (partM h p.vals k)))
def rowA (h:Int → Int) (q:BlockM) (m i k:Nat) (x:InstrM) (val:Vals):Rows:=upd (rowOf (stF h (oneB q) 0 m i) val) (.args 0 i) (some (intsRow (partM h x.args k)))
section
variable {h:Int → Int} {q:BlockM} {val:Vals} {i k m:Nat} {p:PhiM} {x:InstrM} {w0 w:World} {D:Tag → Prop} {bl:List VarD} {row:Rows}
theorem one_at:(oneB q).blocks[0]?=some q:=rfl
theorem rowV_zero (hp:q.phis[i]?=some p) (t:Tag):rowV h q i 0 p val t=rowOf (stF h (oneB q) 0 i 0) val t:=by
 unfold rowV
 by_cases e:t=.vals 0 i
 ·subst e
  rw [upd_same,st_vals,one_at]
  simp only [Option.bind_some,hp,Option.map_some,partM_zero]
  rw [if_neg (by omega)]
 ·rw [upd_ne _ _ e]
theorem rowV_all (hp:q.phis[i]?=some p) (t:Tag):rowOf (stF h (oneB q) 0 (i + 1) 0) val t=rowV h q i p.vals.length p val t:=by
 rw [stF_phi (f:=oneB q) one_at hp t]
 unfold rowV
 rw [partM_all (Nat.le_refl _)]
theorem rowA_zero (hp:q.code[i]?=some x) (t:Tag):rowA h q m i 0 x val t=rowOf (stF h (oneB q) 0 m i) val t:=by
 unfold rowA
 by_cases e:t=.args 0 i
 ·subst e
  rw [upd_same,st_args,one_at]
  simp only [Option.bind_some,hp,Option.map_some,partM_zero]
  rw [if_neg (by omega)]
 ·rw [upd_ne _ _ e]
theorem rowA_all (hp:q.code[i]?=some x) (t:Tag):rowOf (stF h (oneB q) 0 m (i + 1)) val t=rowA h q m i x.args.length x val t:=by
 rw [stF_ins (f:=oneB q) one_at hp t]
 unfold rowA
 rw [partM_all (Nat.le_refl _)]
theorem part_put {h:Int → Int} {xs:List Int} {k:Nat} {y:Int} (hy:xs[k]?=some y):{ intsRow (partM h xs k) with cells:=(intsRow (partM h xs k)).cells.set k (.int .i64 (h y)) }=intsRow (partM h xs (k + 1)):=by
 unfold intsRow
 simp only [partM_len]
 rw [← List.map_set,partM_set hy]
theorem OwnC.mapV {g c:Nat} {y:Int} (ho:OwnC w0 w (rowV h q i k p val) val D bl) (hD:D (.vals 0 i)) (hv:val (.vals 0 i)=.slice (some ⟨g,0,none⟩) p.vals.length c) (hy:p.vals[k]?=some y) :
  OwnC w0 (w.setCell ⟨g,k,none⟩ (.int .i64 (h y))) (rowV h q i (k + 1) p val) val D bl:=by
 refine (ho.put (d:=intsRow (partM h p.vals k)) (j:=k) (u:=.int .i64 (h y)) hD (upd_same _ _ _) hv partM_len).congr (fun t _ => ?_) (fun _ _ => rfl) (fun _ h => h)
 rw [part_put hy]
 unfold rowV
 by_cases e:t=.vals 0 i
 ·subst e;rw [upd_same,upd_same]
 ·rw [upd_ne _ _ e,upd_ne _ _ e,upd_ne _ _ e]
theorem OwnC.mapA {g c:Nat} {y:Int} (ho:OwnC w0 w (rowA h q m i k x val) val D bl) (hD:D (.args 0 i)) (hv:val (.args 0 i)=.slice (some ⟨g,0,none⟩) x.args.length c) (hy:x.args[k]?=some y) :
  OwnC w0 (w.setCell ⟨g,k,none⟩ (.int .i64 (h y))) (rowA h q m i (k + 1) x val) val D bl:=by
 refine (ho.put (d:=intsRow (partM h x.args k)) (j:=k) (u:=.int .i64 (h y)) hD (upd_same _ _ _) hv partM_len).congr (fun t _ => ?_) (fun _ _ => rfl) (fun _ h => h)
 rw [part_put hy]
 unfold rowA
 by_cases e:t=.args 0 i
 ·subst e;rw [upd_same,upd_same]
 ·rw [upd_ne _ _ e,upd_ne _ _ e,upd_ne _ _ e]
theorem phiRow:rowOf (stF h (oneB q) 0 i k) val (.phis 0)=some ⟨76,4,q.phis.length,cellsOf (phiCells val 0) 0 q.phis⟩:=by
 rw [st_phis];rfl
theorem codeRow:rowOf (stF h (oneB q) 0 i k) val (.code 0)=some ⟨68,4,q.code.length,cellsOf (instrCells val 0) 0 q.code⟩:=by
 rw [st_code];rfl
theorem rowV_phi:rowV h q i k p val (.phis 0)=some ⟨76,4,q.phis.length,cellsOf (phiCells val 0) 0 q.phis⟩:=by
 unfold rowV
 rw [upd_ne _ _ (by simp),phiRow]
theorem rowA_code:rowA h q m i k x val (.code 0)=some ⟨68,4,q.code.length,cellsOf (instrCells val 0) 0 q.code⟩:=by
 unfold rowA
 rw [upd_ne _ _ (by simp),codeRow]
theorem OwnC.valsAt {g c n:Nat} (ho:OwnC w0 w row val D bl) (hr:row (.phis 0)=some ⟨76,4,q.phis.length,cellsOf (phiCells val 0) 0 q.phis⟩) (hD:D (.phis 0)) (hv:val (.phis 0)=.slice (some ⟨g,0,none⟩) n c) (hn:n=q.phis.length) (hp:q.phis[i]?=some p) :
  w.cell? ⟨g,i * 4 + 3,none⟩=some (val (.vals 0 i)):=by
 have hi:=(List.getElem?_eq_some_iff.1 hp).1
 rw [(ho.cell hD hr hv hn.symm (by show _ < n * 4;omega)).1]
 show (cellsOf _ 0 q.phis)[i * 4 + 3]?=_
 rw [cellsOf_at (s:=4) (fun _ _ => rfl) q.phis 0 i 3 p hp (by omega),Nat.zero_add]
 rfl
theorem OwnC.argsAt {g c n:Nat} (ho:OwnC w0 w row val D bl) (hr:row (.code 0)=some ⟨68,4,q.code.length,cellsOf (instrCells val 0) 0 q.code⟩) (hD:D (.code 0)) (hv:val (.code 0)=.slice (some ⟨g,0,none⟩) n c) (hn:n=q.code.length) (hp:q.code[i]?=some x) :
  w.cell? ⟨g,i * 4 + 2,none⟩=some (val (.args 0 i)):=by
 have hi:=(List.getElem?_eq_some_iff.1 hp).1
 rw [(ho.cell hD hr hv hn.symm (by show _ < n * 4;omega)).1]
 show (cellsOf _ 0 q.code)[i * 4 + 2]?=_
 rw [cellsOf_at (s:=4) (fun _ _ => rfl) q.code 0 i 2 x hp (by omega),Nat.zero_add]
 rfl
end
def MapPost (q:BlockM) (h:Int → Int) (w:World) (e:Ending) (w':World):Prop :=
 ∃ val:Vals,e=.returned (.agg #[val (.phis 0),val (.code 0),.int .i64 q.term.op,.int .i64 (mapT h q.term).val,val (.ends 0),.int .i64 q.term.n]) ∧ OwnG w' w.heap.size (rowOf (stF h (oneB q) 0 q.phis.length q.code.length) val) val (CbD q.phis.length q.code.length) ∧ Below w.heap.size w w'
theorem copyBlock_one (q:BlockM) (h:Int → Int) (B:Nat) (pv cv tv:Value) (w:World) (hB:B ≤ w.heap.size) (hp:PhisR w B pv q.phis) (hc:CodeR w B cv q.code) (ht:Ints w B tv q.term.to) (hs:SmallB q) :
  Calls Tryz.prog 67 #[.agg #[pv,cv,.int .i64 q.term.op,.int .i64 q.term.val,tv,.int .i64 q.term.n]] w fun e w' =>
   ∃ (val:Vals) (Ap Ac Ae:Option Addr) (cp cc ce:Nat),e=.returned (.agg #[.slice Ap q.phis.length cp,.slice Ac q.code.length cc,.int .i64 q.term.op,.int .i64 q.term.val,.slice Ae q.term.to.length ce,.int .i64 q.term.n]) ∧ (val (.phis 0)=.slice Ap q.phis.length cp ∧ val (.code 0)=.slice Ac q.code.length cc ∧ val (.ends 0)=.slice Ae q.term.to.length ce) ∧ OwnG w' w.heap.size (rowOf (stF h (oneB q) 0 0 0) val) val (CbD q.phis.length q.code.length) ∧ Below w.heap.size w w':=by
 refine (copyBlock_any q B pv cv tv w hB hp hc ht hs).mono ?_
 rintro e w' ⟨val,rfl,how,hb⟩
 rw [oneF_all] at how
 have hd1:rowOf (oneB q) val (.phis 0)=some ⟨76,4,q.phis.length,cellsOf (phiCells val 0) 0 q.phis⟩:=rfl
 have hd2:rowOf (oneB q) val (.code 0)=some ⟨68,4,q.code.length,cellsOf (instrCells val 0) 0 q.code⟩:=rfl
 have hd3:rowOf (oneB q) val (.ends 0)=some (intsRow q.term.to):=rfl
 obtain ⟨Ap,cp,h1⟩:=own_form (how.rows (.phis 0) _ rfl hd1)
 obtain ⟨Ac,cc,h2⟩:=own_form (how.rows (.code 0) _ rfl hd2)
 obtain ⟨Ae,ce,h3⟩:=own_form (how.rows (.ends 0) _ rfl hd3)
 refine ⟨val,Ap,Ac,Ae,cp,cc,ce,?_,⟨h1,h2,h3⟩,how.congr (fun t _ => stF_start t) (fun _ _ => rfl) (fun _ h => h),hb⟩
 rw [h1,h2,h3]
 rfl
end Go.Proofs.YtaehbgppfahdeaaGreat

namespace Go.Proofs.YtaehbgppfahdeaaGreat
open Go.RowKit
def cutB (f:FuncM) (k:Nat):FuncM:={ f with blocks:=f.blocks.take k }
def sh:Tag → Tag
 | .phis _ => .phis 0
 | .code _ => .code 0
 | .ends _ => .ends 0
 | .fr _ a => .fr 0 a
 | .vals _ a => .vals 0 a
 | .args _ a => .args 0 a
 | .params => .params
 | .blocks => .blocks
theorem OwnG.turn {w:World} {base:Nat} {row:Rows} {val:Vals} {D D':Tag → Prop} (σ:Tag → Tag) (h:OwnG w base row val D) (hD:∀ t,D' t → D (σ t)) (hi:∀ t t',D' t → D' t' → σ t=σ t' → t=t'):OwnG w base (fun t => row (σ t)) (fun t => val (σ t)) D' :=
 ⟨fun t ht => h.has _ (hD t ht),fun t d ht hd => h.rows _ d (hD t ht) hd,fun t t' g ht ht' h1 h2 => hi t t' ht ht' (h.apart _ _ g (hD t ht) (hD t' ht') h1 h2)⟩
theorem DD.sh {k np nc:Nat} {t:Tag} (h:DD k np nc t):CbD np nc (sh t):=by
 rcases h with rfl | rfl | rfl | ⟨j,hj,rfl | rfl⟩ | ⟨j,hj,rfl⟩
 ·rfl
 ·rfl
 ·rfl
 ·exact ⟨rfl,hj⟩
 ·exact ⟨rfl,hj⟩
 ·exact ⟨rfl,hj⟩
theorem DD.inj {k np nc:Nat} {t t':Tag} (h:DD k np nc t) (h':DD k np nc t') (e:Go.Proofs.YtaehbgppfahdeaaGreat.sh t=Go.Proofs.YtaehbgppfahdeaaGreat.sh t'):t=t':=by
 rcases h with rfl | rfl | rfl | ⟨j,hj,rfl | rfl⟩ | ⟨j,hj,rfl⟩ <;> rcases h' with rfl | rfl | rfl | ⟨j',hj',rfl | rfl⟩ | ⟨j',hj',rfl⟩ <;> simp_all [Go.Proofs.YtaehbgppfahdeaaGreat.sh]
theorem OwnC.join {w0 w w1:World} {row r2 r3:Rows} {val v2 v3:Vals} {D D2:Tag → Prop} {bl:List VarD} (h:OwnC w0 w row val D bl) (hb:Below w.heap.size w w1) (h2:OwnG w1 w.heap.size r2 v2 D2)
  (e1:∀ t,D t → r3 t=row t ∧ v3 t=val t) (e2:∀ t,D2 t → r3 t=r2 t ∧ v3 t=v2 t):OwnC w0 w1 r3 v3 (fun t => D t ∨ D2 t) bl:=by
 have hg:=h.grows hb
 refine ⟨OwnG.join h.own hb h2 (Nat.le_refl _) h.below.size e1 e2,hg.cells,fun x hx t ht e => ?_,h.dis,hg.below⟩
 rcases ht with ht | ht
 ·rw [(e1 t ht).2] at e
  exact h.off x hx t ht e
 ·rw [(e2 t ht).2] at e
  have:=(h2.lt ht e).1
  have:=h.lt hx
  omega
theorem cp_next {f:FuncM} {w0 wx:World} {bl:List VarD} {val val1:Vals} {k:Nat} {b:BlockM} {v:Value} {V:Vals} {r:Rows} (hb:f.blocks[k]?=some b)
  (hV:V=upd (fun t => if blkOf t=some k then val1 (sh t) else val t) .blocks v)
  (hr:r=upd (fun t => if blkOf t=some k then rowOf (oneF b b.phis.length b.code.length) val1 (sh t) else rowOf (cutB f k) val t) .blocks (some ⟨62,6,k + 1,cellsOf (blockCells val) 0 (f.blocks.take k) ++ [val1 (.phis 0),val1 (.code 0),.int .i64 b.term.op,.int .i64 b.term.val,val1 (.ends 0),.int .i64 b.term.n]⟩))
  (h:OwnC w0 wx r V (fun t => EE (cutB f k) k t ∨ DD k b.phis.length b.code.length t) bl):OwnC w0 wx (rowOf (cutB f (k + 1)) V) V (EE (cutB f (k + 1)) (k + 1)) bl:=by
 have hk:=(List.getElem?_eq_some_iff.1 hb).1
 have hlast:f.blocks.take (k + 1)=f.blocks.take k ++ [b]:=by rw [List.take_add_one,hb];rfl
 have hcut:∀ k',k' < k + 1 → (cutB f (k + 1)).blocks[k']?=f.blocks[k']?:=fun k' h => by simp [cutB,h]
 have hcut0:∀ k',k' < k → (cutB f k).blocks[k']?=f.blocks[k']?:=fun k' h => by simp [cutB,h]
 have hD:∀ t,EE (cutB f (k + 1)) (k + 1) t → EE (cutB f k) k t ∨ DD k b.phis.length b.code.length t:=fun t ht => by
  rcases ht with rfl | rfl | ⟨k',q,hk',hq,hd⟩
  ·exact .inl (.inl rfl)
  ·exact .inl (.inr (.inl rfl))
  ·rw [hcut k' hk'] at hq
   by_cases e:k'=k
   ·subst e
    rw [hb] at hq
    cases hq
    exact .inr hd
   ·exact .inl (.inr (.inr ⟨k',q,by omega,by rw [hcut0 k' (by omega)];exact hq,hd⟩))
 subst hV hr
 refine h.congr (fun t ht => ?_) (fun _ _ => rfl) hD
 rcases ht with rfl | rfl | ⟨k',q,hk',hq,hd⟩
 ·rfl
 ·rw [upd_same]
  show some (RowD.mk _ 6 (f.blocks.take (k + 1)).length (cellsOf _ 0 (f.blocks.take (k + 1))))=_
  rw [hlast]
  congr 2
  ·simp;omega
  ·rw [cellsOf_push (g':=blockCells val)]
   ·congr 1
    have hl:0 + (f.blocks.take k).length=k:=by simp;omega
    rw [hl]
    unfold blockCells
    simp [upd,blkOf,sh]
   ·intro k2 b2 hk2
    have hki:k2 < k:=by
     have:=(List.getElem?_eq_some_iff.1 hk2).1
     simp at this
     omega
    unfold blockCells
    have:k2 ≠ k:=by omega
    simp [upd,blkOf,this]
 ·rw [hcut k' hk'] at hq
  have hblk:=hd.blk
  by_cases e:k'=k
  ·subst e
   rw [hb] at hq
   cases hq
   rw [upd_ne _ _ (by rintro rfl;cases hblk),if_pos hblk]
   have hq1:(cutB f (k' + 1)).blocks[k']?=some b:=by rw [hcut k' hk',hb]
   rcases hd with rfl | rfl | rfl | ⟨j,hj,rfl | rfl⟩ | ⟨j,hj,rfl⟩
   ·simp only [rowOf,hq1,Option.map_some,sh,oneF,List.getElem?_cons_zero,List.take_length]
    congr 2
    exact cellsOf_congr _ _ fun i a _ => by unfold phiCells;simp [upd,blkOf]
   ·simp only [rowOf,hq1,Option.map_some,sh,oneF,List.getElem?_cons_zero,List.take_length]
    congr 2
    exact cellsOf_congr _ _ fun i a _ => by unfold instrCells;simp [upd,blkOf]
   ·simp only [rowOf,hq1,Option.map_some,sh,oneF,List.getElem?_cons_zero]
   ·simp only [rowOf,hq1,Option.bind_some,sh,oneF,List.getElem?_cons_zero,List.take_length]
   ·simp only [rowOf,hq1,Option.bind_some,sh,oneF,List.getElem?_cons_zero,List.take_length]
   ·simp only [rowOf,hq1,Option.bind_some,sh,oneF,List.getElem?_cons_zero,List.take_length]
  ·rw [upd_ne _ _ (by rintro rfl;cases hblk),if_neg (by rw [hblk];simpa using e)]
   have hq1:(cutB f (k + 1)).blocks[k']?=some q:=by rw [hcut k' hk',hq]
   have hq0:(cutB f k).blocks[k']?=some q:=by rw [hcut0 k' (by omega),hq]
   rcases hd with rfl | rfl | rfl | ⟨j,hj,rfl | rfl⟩ | ⟨j,hj,rfl⟩
   ·simp only [rowOf,hq1,hq0,Option.map_some]
    congr 2
    exact cellsOf_congr _ _ fun i a _ => by unfold phiCells;simp [upd,blkOf,e]
   ·simp only [rowOf,hq1,hq0,Option.map_some]
    congr 2
    exact cellsOf_congr _ _ fun i a _ => by unfold instrCells;simp [upd,blkOf,e]
   ·simp only [rowOf,hq1,hq0,Option.map_some]
   ·simp only [rowOf,hq1,hq0,Option.bind_some]
   ·simp only [rowOf,hq1,hq0,Option.bind_some]
   ·simp only [rowOf,hq1,hq0,Option.bind_some]
theorem cp_first {f:FuncM} {w wx:World} {bl:List VarD} {val:Vals} {r:Rows} {v:Value} (h:OwnC w wx (upd r .params (some (intsRow f.params))) (upd val .params v) (fun t => False ∨ t=.params) bl) :
  ∃ val',val' .params=v ∧ val' .blocks=.slice none 0 0 ∧ OwnC w wx (rowOf (cutB f 0) val') val' (EE (cutB f 0) 0) bl:=by
 refine ⟨fun t => if t=.params then v else .slice none 0 0,rfl,rfl,?_⟩
 obtain ⟨⟨h1,h2,h3⟩,h4,h5,h6,h7⟩:=h
 have hv:∀ t,EE (cutB f 0) 0 t → t=.params ∨ t=.blocks:=fun t ht => by
  rcases ht with h | h | ⟨k,_,hk,_⟩
  ·exact .inl h
  ·exact .inr h
  ·omega
 refine ⟨⟨fun t ht => ?_,fun t d ht hd => ?_,fun t t' g ht ht' e1 e2 => ?_⟩,h4,fun x hx t ht => ?_,h6,h7⟩
 ·rcases hv t ht with rfl | rfl <;> rfl
 ·rcases hv t ht with rfl | rfl
  ·have:=h2 .params (intsRow f.params) (.inr rfl) (upd_same _ _ _)
   rw [upd_same] at this
   cases hd
   exact this
  ·cases hd
   exact World.ownsRow_nil _ _ _ _
 ·rcases hv t ht with rfl | rfl
  ·rcases hv t' ht' with rfl | rfl
   ·rfl
   ·cases e2
  ·cases e1
 ·rcases hv t ht with rfl | rfl
  ·have:=h5 x hx .params (.inr rfl)
   rw [upd_same] at this
   exact this
  ·exact fun e => by cases e
structure SmallFn (f:FuncM):Prop where
 params:f.params.length ≤ 100000
 blocks:f.blocks.length ≤ 100000
 each:∀ b ∈ f.blocks,SmallB b
def CopyFPost (f:FuncM) (w:World) (e:Ending) (w':World):Prop :=
 ∃ val:Vals,e=.returned (.agg #[val .params,.int .i64 f.arrays,.int .i64 f.cells,val .blocks]) ∧ OwnG w' w.heap.size (rowOf f val) val (EE f f.blocks.length) ∧ Below w.heap.size w w'
def outF (f:FuncM) (val:Vals):Array Value:=#[val .params,.int .i64 f.arrays,.int .i64 f.cells,val .blocks]
def CpSt (f:FuncM) (w wx:World) (g3 gr gb:Nat) (bx rs:Array Value) (k:Nat) (val:Vals):Prop :=
 OwnC w wx (rowOf (cutB f k) val) val (EE (cutB f k) k) [(g3,outF f val,25),(gr,rs,25),(gb,bx,25)]
set_option maxRecDepth 100000 in
set_option maxHeartbeats 4000000 in
theorem copy_any (f:FuncM) (B:Nat) (pv bv:Value) (w:World) (hB:B ≤ w.heap.size) (hpv:Ints w B pv f.params) (hbv:BlocksR w B bv f.blocks) (hs:SmallFn f) :
  Calls Tryz.prog 31 #[.agg #[pv,.int .i64 f.arrays,.int .i64 f.cells,bv]] w (CopyFPost f w):=by
 have HP:=hideI hpv
 have HBL:=hideI hbv
 have HSM:=hideI hs
 obtain ⟨P,pc,rfl,_,_⟩:=hpv
 obtain ⟨A,ac,rfl,_,_⟩:=hbv
 obtain ⟨np,hnp⟩:∃ n,n=f.params.length:=⟨_,rfl⟩
 obtain ⟨nb,hnb⟩:∃ n,n=f.blocks.length:=⟨_,rfl⟩
 rw [← hnp] at HP
 rw [← hnb] at HBL
 rw [← hnp,← hnb]
 have HNN:=hideI (And.intro hnp hnb)
 obtain ⟨W3,hW3⟩:∃ W3,W3=((w.alloc (.cells #[.slice P np pc,.int .i64 f.arrays,.int .i64 f.cells,.slice A nb ac] 25)).alloc (.cells #[.slice none 0 0,.int .i64 0,.int .i64 0,.slice none 0 0] 25)).alloc (.cells #[.slice P np pc,.int .i64 f.arrays,.int .i64 f.cells,.slice A nb ac] 25):=⟨_,rfl⟩
 have hst:=(((OwnC.nothing w (fun _ => none) (fun _ => .slice none 0 0)).make #[.slice P np pc,.int .i64 f.arrays,.int .i64 f.cells,.slice A nb ac] 25).make #[.slice none 0 0,.int .i64 0,.int .i64 0,.slice none 0 0] 25).make #[.slice P np pc,.int .i64 f.arrays,.int .i64 f.cells,.slice A nb ac] 25
 rw [← hW3] at hst
 simp only [World.size_alloc] at hst
 have HST:=hideI hst
 have HW3:=hideI hW3
 have hkB:Hid (∀ W,Below w.heap.size w W → Keeps B w W):=hideI fun W hW => Keeps.of_below (hW.mono hB)
 clear hnp hnb hst hs hW3
 go_enter Tryz.func31,Tryz.ntmps31
 go_upto_region 2 with fail
 rw [← HW3.out]
 have hxb:=row_cells (HST.out.cells _ (List.mem_cons_of_mem _ (List.mem_cons_of_mem _ (List.mem_cons_self ..)))).1 rfl
 have x0:=hxb 0
 have HS4:=hideI (HST.out.make #[] 3)
 have hge:=(HS4.out.cells _ (List.mem_cons_self ..)).1
 have hT:Ints (W3.alloc (.cells #[] 3)) B (.slice P np pc) f.params:=HP.out.keeps (hkB.out _ HS4.out.below)
 have hnt5:f.params.length ≤ 100000:=HSM.out.params
 have hbs:w.heap.size ≤ W3.heap.size:=HST.out.below.size
 have hlt0:w.heap.size < W3.heap.size:=HST.out.lt (List.mem_cons_of_mem _ (List.mem_cons_of_mem _ (List.mem_cons_self ..)))
 have hlt2:w.heap.size + 1 + 1 < W3.heap.size:=HST.out.lt (List.mem_cons_self ..)
 clear hxb
 go_upto_region 4 with (first
  | (at_builtin;go_must (refine wpList_copy rfl _ _ rfl B W3.heap.size (.slice P np pc) f.params rfl rfl hT hge hnt5 w.heap.size hbs ?_);intro A1 c1 w4 hown hg hv;have HS5:=hideI (OwnC.comes (t0:=.params) (d:=intsRow f.params) HS4.out (fun h => h) hg hown hv);have hxo:=row_cells (HS5.out.cells _ (List.mem_cons_self ..)).1 rfl;have hzo:=fun o => frozen_of_row w4 (w.heap.size + 1 + 1) o _ _ (HS5.out.cells _ (List.mem_cons_self ..)).1;have y0:=hxo 0;have z0:=hzo 0;have y3:=hxo 3;have z3:=hzo 3;clear hxo hzo hown hg hv hT hge x0))
 have hs6:=OwnC.store (j:=3) (OwnC.store (j:=0) HS5.out (.slice A1 f.params.length c1)) (.slice none 0 0)
 simp only [List.setIfInBounds_toArray,List.set_cons_zero,List.set_cons_succ] at hs6
 obtain ⟨val,hv1,hv2,hst⟩:=cp_first hs6
 obtain ⟨W6,hW6⟩:∃ W6,W6=(w4.setCell ⟨w.heap.size + 1 + 1,0,none⟩ (.slice A1 f.params.length c1)).setCell ⟨w.heap.size + 1 + 1,3,none⟩ (.slice none 0 0):=⟨_,rfl⟩
 rw [← hW6] at hst ⊢
 have hst:CpSt f w W6 (w.heap.size + 1 + 1) (w.heap.size + 1) w.heap.size #[.slice P np pc,.int .i64 f.arrays,.int .i64 f.cells,.slice A nb ac] #[.slice none 0 0,.int .i64 0,.int .i64 0,.slice none 0 0] 0 val:=by
  unfold CpSt outF
  rw [hv1,hv2]
  exact hst
 obtain ⟨g3,hg3⟩:∃ g,g=w.heap.size + 1 + 1:=⟨_,rfl⟩
 rw [← hg3] at hst ⊢
 obtain ⟨bx,hbx⟩:∃ bx:Array Value,bx=#[.slice P np pc,.int .i64 f.arrays,.int .i64 f.cells,.slice A nb ac]:=⟨_,rfl⟩
 obtain ⟨rs,hrs⟩:∃ rs:Array Value,rs=#[.slice none 0 0,.int .i64 0,.int .i64 0,.slice none 0 0]:=⟨_,rfl⟩
 rw [← hbx,← hrs] at hst
 have HCB:=hideI hst
 have HBOX:Hid (∀ (wx:World) (k:Nat) (val:Vals),CpSt f w wx g3 (w.heap.size + 1) w.heap.size bx rs k val → wx.cell? ⟨w.heap.size,3,none⟩=some (.slice A nb ac) ∧ w.heap.size < wx.heap.size ∧ g3 < wx.heap.size ∧ (∀ o,wx.cell? ⟨g3,o,none⟩=(outF f val)[o]?) ∧ ∀ o,wx.frozen? ⟨g3,o,none⟩=false):=hideI fun wx k val h => by
  have hm:=List.mem_cons_of_mem (g3,outF f val,25) (List.mem_cons_of_mem (w.heap.size + 1,rs,25) (List.mem_cons_self (a:=(w.heap.size,bx,25)) (l:=[])))
  have hx:=row_cells (h.cells _ hm).1 rfl
  rw [hbx] at hx
  exact ⟨hx 3,h.lt hm,h.lt (List.mem_cons_self ..),row_cells (h.cells _ (List.mem_cons_self ..)).1 rfl,fun o => frozen_of_row wx g3 o _ _ (h.cells _ (List.mem_cons_self ..)).1⟩
 have HBX:=hideI (And.intro hbx hrs)
 clear hst hv1 hv2 hW6 y0 z0 y3 z3 HS4 HS5 HST HW3 hg3 hbs hnt5 hlt0 hlt2 hs6 hbx hrs
 go_upto_region 5 with fail
 go_loopw [4] (fun u wr => ∃ (k:Nat) (val:Vals),k ≤ nb ∧ u=.int .i64 k ∧ Hid (CpSt f w wr g3 (w.heap.size + 1) w.heap.size bx rs k val)) (fun u _ => nb - (intOf u).toNat)
 case atStart => exact ⟨0,val,Nat.zero_le _,by go_num,HCB⟩
 case round =>
  obtain ⟨k,val,hk,rfl,HC1⟩:=hrel
  obtain ⟨x3,hlb,hl3,hx3,hz3⟩:=HBOX.out _ _ _ HC1.out
  have hn2:=HNN.out.2
  have hnb5:nb ≤ 100000:=by rw [hn2];exact HSM.out.blocks
  clear hn2
  by_cases hlt:k < nb
  ·obtain ⟨b,hb⟩:∃ b,f.blocks[k]?=some b:=⟨_,List.getElem?_eq_getElem (by have:=HNN.out.2;omega)⟩
   have hbl:=HBL.out.keeps (hkB.out _ HC1.out.below)
   obtain ⟨A',c',e',_,hblk⟩:=hbl
   injection e' with e1 e2 e3
   subst e1 e3
   obtain ⟨b0,off,pv,cv,tv,rfl,hb0,c0,c1,c2,c3,c4,c5,hph,hco,hen,_⟩:=hblk k b hb
   obtain ⟨Ph,phc,rfl,_⟩:=id hph
   obtain ⟨Co,coc,rfl,_⟩:=id hco
   obtain ⟨En,enc,rfl,_⟩:=id hen
   have hlen:(f.blocks.take k).length=k:=by have:=(List.getElem?_eq_some_iff.1 hb).1;simp;omega
   obtain ⟨Ab,cab,hvb⟩:=own_form (HC1.out.own.rows .blocks _ (.inr (.inl rfl)) rfl)
   have hvb:val .blocks=.slice Ab k cab:=by
    have h:val .blocks=.slice Ab (f.blocks.take k).length cab:=hvb
    rw [hlen] at h
    exact h
   have h33:wr.cell? ⟨g3,3,none⟩=some (.slice Ab k cab):=by rw [hx3 3,← hvb];rfl
   have i1:(0:Int) ≤ (k:Int):=by omega
   have i2:(k:Int) < (nb:Int):=by omega
   have HVB:=hideI hvb
   have HBK:=hideI hb
   have HLEN:=hideI hlen
   have HIN:=hideI (And.intro hph (And.intro hco hen))
   have HSB:=hideI (HSM.out.each b (List.mem_of_getElem? hb))
   have HZ3:=hideI hz3
   clear hvb hb hlen hph hco hen hz3 hx3 hblk e2
   go_upto_region 7 with fail
   have hS0:wr.drew.cell? ⟨g3,3,none⟩=some (.slice Ab k cab) ∧ wr.drew.cell? ⟨w.heap.size,3,none⟩=some (.slice (some ⟨b0,off,none⟩) nb ac) ∧ wr.drew.cell? ⟨b0,off + k * 6,none⟩=some (.slice Ph b.phis.length phc) ∧ wr.drew.cell? ⟨b0,off + k * 6 + 1,none⟩=some (.slice Co b.code.length coc) ∧ wr.drew.cell? ⟨b0,off + k * 6 + 2,none⟩=some (.int .i64 b.term.op) ∧ wr.drew.cell? ⟨b0,off + k * 6 + 3,none⟩=some (.int .i64 b.term.val) ∧ wr.drew.cell? ⟨b0,off + k * 6 + 4,none⟩=some (.slice En b.term.to.length enc) ∧ wr.drew.cell? ⟨b0,off + k * 6 + 5,none⟩=some (.int .i64 b.term.n):=⟨h33,x3,c0,c1,c2,c3,c4,c5⟩
   have HIC:Hid (∀ W,Keeps B wr W → (W.cell? ⟨b0,off + k * 6,none⟩=some (.slice Ph b.phis.length phc) ∧ W.cell? ⟨b0,off + k * 6 + 1,none⟩=some (.slice Co b.code.length coc) ∧ W.cell? ⟨b0,off + k * 6 + 2,none⟩=some (.int .i64 b.term.op) ∧ W.cell? ⟨b0,off + k * 6 + 3,none⟩=some (.int .i64 b.term.val) ∧ W.cell? ⟨b0,off + k * 6 + 4,none⟩=some (.slice En b.term.to.length enc) ∧ W.cell? ⟨b0,off + k * 6 + 5,none⟩=some (.int .i64 b.term.n))):=hideI fun W h => ⟨(h _ _ hb0).trans c0,(h _ _ hb0).trans c1,(h _ _ hb0).trans c2,(h _ _ hb0).trans c3,(h _ _ hb0).trans c4,(h _ _ hb0).trans c5⟩
   have HSX:Hid (∀ (W:World) (row:Rows) (vv:Vals) (D:Tag → Prop),OwnC w W row vv D [(g3,outF f val,25),(w.heap.size + 1,rs,25),(w.heap.size,bx,25)] → Keeps B wr W → (W.cell? ⟨g3,3,none⟩=some (.slice Ab k cab) ∧ W.cell? ⟨w.heap.size,3,none⟩=some (.slice (some ⟨b0,off,none⟩) nb ac) ∧ W.cell? ⟨b0,off + k * 6,none⟩=some (.slice Ph b.phis.length phc) ∧ W.cell? ⟨b0,off + k * 6 + 1,none⟩=some (.slice Co b.code.length coc) ∧ W.cell? ⟨b0,off + k * 6 + 2,none⟩=some (.int .i64 b.term.op) ∧ W.cell? ⟨b0,off + k * 6 + 3,none⟩=some (.int .i64 b.term.val) ∧ W.cell? ⟨b0,off + k * 6 + 4,none⟩=some (.slice En b.term.to.length enc) ∧ W.cell? ⟨b0,off + k * 6 + 5,none⟩=some (.int .i64 b.term.n))):=hideI fun W row vv D h hkp => by
    have hx:=row_cells (h.cells _ (List.mem_cons_self ..)).1 rfl
    have hxb:=row_cells (h.cells _ (List.mem_cons_of_mem _ (List.mem_cons_of_mem _ (List.mem_cons_self ..)))).1 rfl
    rw [HBX.out.1] at hxb
    refine ⟨?_,hxb 3,HIC.out W hkp⟩
    rw [← HVB.out]
    exact hx 3
   refine wp_region_late (by kernel_rfl) (fun W => W.cell? ⟨g3,3,none⟩=some (.slice Ab k cab) ∧ W.cell? ⟨w.heap.size,3,none⟩=some (.slice (some ⟨b0,off,none⟩) nb ac) ∧ W.cell? ⟨b0,off + k * 6,none⟩=some (.slice Ph b.phis.length phc) ∧ W.cell? ⟨b0,off + k * 6 + 1,none⟩=some (.slice Co b.code.length coc) ∧ W.cell? ⟨b0,off + k * 6 + 2,none⟩=some (.int .i64 b.term.op) ∧ W.cell? ⟨b0,off + k * 6 + 3,none⟩=some (.int .i64 b.term.val) ∧ W.cell? ⟨b0,off + k * 6 + 4,none⟩=some (.slice En b.term.to.length enc) ∧ W.cell? ⟨b0,off + k * 6 + 5,none⟩=some (.int .i64 b.term.n)) [11] ?_
   refine wpAnyT_quiet (i:=0) (v:=?_) rfl (by kernel_rfl) (by kernel_rfl) (by kernel_rfl) (fun _ _ _ h => h) (Or.inl ⟨by rfl,?_⟩) ?_
   rotate_left
   ·(intro w;go_simp;try with_reducible rfl)
   simp only [Act.put,List.setIfInBounds_toArray,List.set_cons_zero,List.set_cons_succ]
   refine wpAnyT_take [9,11] (i:=1) (v:=?_) rfl (by kernel_rfl) (by kernel_rfl) (by kernel_rfl) (by kernel_rfl) (by kernel_rfl) (by kernel_rfl) (fun _ _ _ h => h) hS0 (Or.inl ⟨by rfl,?_⟩) ?_
   rotate_left
   ·(intro w hSw;go_split_ands;go_simp;try with_reducible rfl)
   simp only [Act.put,List.setIfInBounds_toArray,List.set_cons_zero,List.set_cons_succ]
   refine wpAnyT_quiet (i:=2) (v:=?_) rfl (by kernel_rfl) (by kernel_rfl) (by kernel_rfl) (fun _ _ _ h => h) (Or.inl ⟨by rfl,?_⟩) ?_
   rotate_left
   ·(intro w;go_simp;try with_reducible rfl)
   simp only [Act.put,List.setIfInBounds_toArray,List.set_cons_zero,List.set_cons_succ]
   refine wpAnyT_take [5,6,7,8,9,11] (i:=3) (v:=?_) rfl (by kernel_rfl) (by kernel_rfl) (by kernel_rfl) (by kernel_rfl) (by kernel_rfl) (by kernel_rfl) (fun _ _ _ h => h) hS0 (Or.inl ⟨by rfl,?_⟩) ?_
   rotate_left
   ·(intro w hSw;go_split_ands;go_simp;try with_reducible rfl)
   simp only [Act.put,List.setIfInBounds_toArray,List.set_cons_zero,List.set_cons_succ]
   refine wpAnyT_quiet (i:=4) (v:=?_) rfl (by kernel_rfl) (by kernel_rfl) (by kernel_rfl) (fun _ _ _ h => h) (Or.inl ⟨by rfl,?_⟩) ?_
   rotate_left
   ·(intro w;go_simp;try with_reducible rfl)
   simp only [Act.put,List.setIfInBounds_toArray,List.set_cons_zero,List.set_cons_succ]
   refine wpAnyT_quiet (i:=5) (v:=?_) rfl (by kernel_rfl) (by kernel_rfl) (by kernel_rfl) (fun _ _ _ h => h) (Or.inl ⟨by rfl,?_⟩) ?_
   rotate_left
   ·(intro w;go_simp;try with_reducible rfl)
   simp only [Act.put,List.setIfInBounds_toArray,List.set_cons_zero,List.set_cons_succ]
   refine wpAnyT_take [7,8,9,11] (i:=6) (v:=?_) rfl (by kernel_rfl) (by kernel_rfl) (by kernel_rfl) (by kernel_rfl) (by kernel_rfl) (by kernel_rfl) (fun _ _ _ h => h) hS0 (Or.inl ⟨by rfl,?_⟩) ?_
   rotate_left
   ·(intro w hSw;go_split_ands;go_simp;try with_reducible rfl)
   simp only [Act.put,List.setIfInBounds_toArray,List.set_cons_zero,List.set_cons_succ]
   refine wpAnyT_ready (rs:=[7]) (by kernel_rfl) (by simp) ?_
   refine AllReadyT.cons rfl (fun K hK => ?_) ?_
   ·go_simp
    refine (copyBlock_any b B _ _ _ wr.drew (Nat.le_trans hB (HC1.out.below).size) (HIN.out.1.keeps (fun _ _ _ => rfl)) (HIN.out.2.1.keeps (fun _ _ _ => rfl)) (HIN.out.2.2.keeps (fun _ _ _ => rfl)) HSB.out).mono ?_
    rintro e w2 ⟨val1,rfl,hown1,hb1⟩
    have hS1:=(OwnC.grows HC1.out (Below.refl _ _).drew).join hb1 (r3:=fun t => if blkOf t=some k then rowOf (oneF b b.phis.length b.code.length) val1 (sh t) else rowOf (cutB f k) val t) (v3:=fun t => if blkOf t=some k then val1 (sh t) else val t) (hown1.turn (D':=DD k b.phis.length b.code.length) sh (fun t ht => ht.sh) (fun t t' h h' e => h.inj h' e)) (fun t ht => ⟨if_neg fun e => EE.not e ht,if_neg fun e => EE.not e ht⟩) (fun t ht => ⟨if_pos ht.blk,if_pos ht.blk⟩)
    obtain ⟨Aph,cph,hv1⟩:=own_form (hown1.rows (.phis 0) _ rfl rfl)
    obtain ⟨Aco,cco,hv2⟩:=own_form (hown1.rows (.code 0) _ rfl rfl)
    obtain ⟨Aen,cen,hv3⟩:=own_form (hown1.rows (.ends 0) _ rfl rfl)
    obtain ⟨nph,hnph⟩:∃ n,val1 (.phis 0)=.slice Aph n cph:=⟨_,hv1⟩
    obtain ⟨nco,hnco⟩:∃ n,val1 (.code 0)=.slice Aco n cco:=⟨_,hv2⟩
    obtain ⟨nen,hnen⟩:∃ n,val1 (.ends 0)=.slice Aen n cen:=⟨_,hv3⟩
    clear hv1 hv2 hv3 hown1
    dsimp only
    rw [hnph,hnco,hnen]
    have hkp:Keeps B wr w2:=Keeps.trans (fun _ _ _ => rfl:Keeps B wr wr.drew) (Keeps.of_below (hb1.mono (Nat.le_trans hB HC1.out.below.size)))
    refine hK.out _ _ (fun _ _ => HSX.out _ _ _ _ hS1 hkp) ?_
    clear hK K
    try simp only [Act.put,List.setIfInBounds_toArray,List.set_cons_zero,List.set_cons_succ]
    have HS1:=hideI hS1
    clear hS1
    refine wpAnyT_ready (rs:=[8]) (by kernel_rfl) (by simp) ?_
    refine AllReadyT.cons rfl (fun K hK => ?_) ?_
    ·go_simp
     have HS2:=hideI (HS1.out.make #[.slice Aph nph cph,.slice Aco nco cco,.int .i64 b.term.op,.int .i64 b.term.val,.slice Aen nen cen,.int .i64 b.term.n] 62)
     have hkp2:Keeps B wr (w2.alloc (.cells #[.slice Aph nph cph,.slice Aco nco cco,.int .i64 b.term.op,.int .i64 b.term.val,.slice Aen nen cen,.int .i64 b.term.n] 62)):=hkp.alloc (Nat.le_trans hB HS1.out.below.size) _
     refine hK.out _ _ (fun _ _ => HSX.out _ _ _ _ (HS2.out.drop (List.sublist_cons_self _ _)) hkp2) ?_
     clear hK K
     try simp only [Act.put,List.setIfInBounds_toArray,List.set_cons_zero,List.set_cons_succ]
     obtain ⟨wb,hwb⟩:∃ wb,wb=w2.alloc (.cells #[.slice Aph nph cph,.slice Aco nco cco,.int .i64 b.term.op,.int .i64 b.term.val,.slice Aen nen cen,.int .i64 b.term.n] 62):=⟨_,rfl⟩
     have hown0:=HS2.out.own.rows .blocks ⟨62,6,(f.blocks.take k).length,cellsOf (blockCells val) 0 (f.blocks.take k)⟩ (.inl (.inr (.inl rfl))) (if_neg (by simp [blkOf]))
     rw [show (if blkOf Tag.blocks=some k then val1 (sh Tag.blocks) else val Tag.blocks)=val .blocks from if_neg (by simp [blkOf]),HVB.out] at hown0
     simp only [HLEN.out] at hown0
     have hnews:=World.news_of_block (HS2.out.cells _ (List.mem_cons_self ..)).1
     obtain ⟨i0,hix,hz0,hz1,hz2⟩:=info_parts block_info
     have hb7:=HS2.out.below.size
     refine wpAnyT_ready (rs:=[9]) (by kernel_rfl) (by simp) ?_
     refine AllReadyT.cons rfl (fun K hK => ?_) ?_
     ·refine step_append_lies _ rfl (.tmp 20) (.tmp 27) _ rfl w.heap.size 62 i0 _ 6 96 Tryz.underlying23 hix hz0 hz1 hz2 rfl (by decide) (.slice Ab k cab) k _ rfl hown0 ⟨w2.heap.size,0,none⟩ 1 1 [.slice Aph nph cph,.slice Aco nco cco,.int .i64 b.term.op,.int .i64 b.term.val,.slice Aen nen cen,.int .i64 b.term.n] rfl rfl hnews (by simp [Value.oneCell']) (by decide) (by unfold maxLen;omega) (by omega) hb7 _ rfl ?_
      intro g1 cap1 w5 hown5 hgrow5 hor5 _
      have HS3:=hideI (OwnC.drop (OwnC.grow (t0:=.blocks) (d:=⟨62,6,k + 1,cellsOf (blockCells val) 0 (f.blocks.take k) ++ [.slice Aph nph cph,.slice Aco nco cco,.int .i64 b.term.op,.int .i64 b.term.val,.slice Aen nen cen,.int .i64 b.term.n]⟩) HS2.out (.inl (.inr (.inl rfl))) hown5 (by rw [show (if blkOf Tag.blocks=some k then val1 (sh Tag.blocks) else val Tag.blocks)=val .blocks from if_neg (by simp [blkOf]),HVB.out];exact hgrow5) rfl (by rw [show (if blkOf Tag.blocks=some k then val1 (sh Tag.blocks) else val Tag.blocks)=val .blocks from if_neg (by simp [blkOf]),HVB.out];exact hor5)) (List.sublist_cons_self _ _))
      have hkp5:Keeps B wr w5:=fun b' o hb' => by
       have hbw:b' < w.heap.size:=Nat.lt_of_lt_of_le hb' hB
       exact (hkB.out _ HS3.out.below b' o hb').trans ((hkB.out _ HC1.out.below b' o hb').symm)
      refine hK.out _ _ (fun _ _ => HSX.out _ _ _ _ HS3.out hkp5) ?_
      clear hK K hown5 hgrow5 hor5
      try simp only [Act.put,List.setIfInBounds_toArray,List.set_cons_zero,List.set_cons_succ]
      refine wpAnyT_quiet (i:=10) (v:=?_) rfl (by kernel_rfl) (by kernel_rfl) (by kernel_rfl) (fun _ _ _ h => h) (Or.inl ⟨by rfl,?_⟩) ?_
      rotate_left
      ·(intro w;go_simp;try with_reducible rfl)
      try simp only [Act.put,List.setIfInBounds_toArray,List.set_cons_zero,List.set_cons_succ]
      have y3:w5.cell? ⟨g3,3,none⟩=some (.slice Ab k cab):=(HSX.out _ _ _ _ HS3.out hkp5).1
      have z3:w5.frozen? ⟨g3,3,none⟩=false:=frozen_of_row w5 g3 3 _ _ (HS3.out.cells _ (List.mem_cons_self ..)).1
      refine wpAnyT_ready (rs:=[11]) (by kernel_rfl) (by simp) ?_
      refine AllReadyT.cons rfl (fun K hK => ?_) ?_
      ·go_simp
       refine hK.out _ _ (fun h => absurd (by simp) h) ?_
       clear hK K
       try simp only [Act.put,List.setIfInBounds_toArray,List.set_cons_zero,List.set_cons_succ]
       refine wpAnyT_done (by kernel_rfl) ?_ _
       have hs4:=OwnC.store (j:=3) HS3.out (.slice (some ⟨g1,0,none⟩) (k + 1) cap1)
       have HS5:=hideI (cp_next HBK.out rfl (by rw [hnph,hnco,hnen]) hs4)
       clear hs4 hown0 hnews hS0 y3 z3 h33
       go_wp2
       refine ⟨⟨k + 1,upd (fun t => if blkOf t=some k then val1 (sh t) else val t) .blocks (.slice (some ⟨g1,0,none⟩) (k + 1) cap1),by omega,by go_num,hideI ?_⟩,by simp [intOf];omega⟩
       have e:outF f (upd (fun t => if blkOf t=some k then val1 (sh t) else val t) .blocks (.slice (some ⟨g1,0,none⟩) (k + 1) cap1))=(outF f val).setIfInBounds 3 (.slice (some ⟨g1,0,none⟩) (k + 1) cap1):=by
        unfold outF
        simp [upd,blkOf]
       unfold CpSt
       rw [e]
       exact HS5.out
      ·exact AllReadyT.nil
     ·exact AllReadyT.nil
    ·exact AllReadyT.nil
   ·exact AllReadyT.nil
  ·have hke:k=nb:=by omega
   have HKE:=hideI hke
   clear hke hx3 hz3
   obtain ⟨Apa,cpa,hv1⟩:=own_form (HC1.out.own.rows .params _ (.inl rfl) rfl)
   obtain ⟨Abl,cbl,hv2⟩:=own_form (HC1.out.own.rows .blocks _ (.inr (.inl rfl)) rfl)
   obtain ⟨npa,hnpa⟩:∃ n,val .params=.slice Apa n cpa:=⟨_,hv1⟩
   obtain ⟨nbl,hnbl⟩:∃ n,val .blocks=.slice Abl n cbl:=⟨_,hv2⟩
   have hxo:=row_cells (HC1.out.cells _ (List.mem_cons_self ..)).1 rfl
   have hxr:=row_cells (HC1.out.cells _ (List.mem_cons_of_mem _ (List.mem_cons_self ..))).1 rfl
   have hzr:=fun o => frozen_of_row wr (w.heap.size + 1) o _ _ (HC1.out.cells _ (List.mem_cons_of_mem _ (List.mem_cons_self ..))).1
   have hcr:∀ o,wr.cell? ⟨w.heap.size + 1,o,none⟩=(#[.slice none 0 0,.int .i64 0,.int .i64 0,.slice none 0 0]:Array Value)[o]?:=fun o => by rw [← HBX.out.2];exact hxr o
   have hc3:∀ o,wr.cell? ⟨g3,o,none⟩=(#[.slice Apa npa cpa,.int .i64 f.arrays,.int .i64 f.cells,.slice Abl nbl cbl]:Array Value)[o]?:=fun o => by rw [← hnpa,← hnbl];exact hxo o
   have a0:=hc3 0
   have a1:=hc3 1
   have a2:=hc3 2
   have a3:=hc3 3
   have b0:=hcr 0
   have b1:=hcr 1
   have b2:=hcr 2
   have b3:=hcr 3
   have z0:=hzr 0
   have z1:=hzr 1
   have z2:=hzr 2
   have z3:=hzr 3
   have hp:=OwnC.perm HC1.out (List.Perm.swap _ _ _)
   rw [HBX.out.2] at hp
   have h6:=(((hp.store (j:=0) (.slice Apa npa cpa)).store (j:=1) (.int .i64 f.arrays)).store (j:=2) (.int .i64 f.cells)).store (j:=3) (.slice Abl nbl cbl)
   simp only [List.setIfInBounds_toArray,List.set_cons_zero,List.set_cons_succ] at h6
   have H6:=hideI h6
   clear hxo hxr hzr hcr hc3 hv1 hv2 hp h6
   go_wp2
   obtain ⟨W8,hW8⟩:∃ W8,W8=(((wr.setCell ⟨w.heap.size + 1,0,none⟩ (.slice Apa npa cpa)).setCell ⟨w.heap.size + 1,1,none⟩ (.int .i64 f.arrays)).setCell ⟨w.heap.size + 1,2,none⟩ (.int .i64 f.cells)).setCell ⟨w.heap.size + 1,3,none⟩ (.slice Abl nbl cbl):=⟨_,rfl⟩
   rw [← hW8] at H6 ⊢
   have hx:=row_cells (H6.out.cells _ (List.mem_cons_self ..)).1 rfl
   have s0:=hx 0
   have s1:=hx 1
   have s2:=hx 2
   have s3:=hx 3
   clear hx hW8 a0 a1 a2 a3 b0 b1 b2 b3 z0 z1 z2 z3
   refine bodyPost_ret (v:=.agg #[.slice Apa npa cpa,.int .i64 f.arrays,.int .i64 f.cells,.slice Abl nbl cbl]) (by simp [results,Tryz.results31,go_sem,s0,s1,s2,s3]) rfl ?_
   refine ⟨val,by rw [hnpa,hnbl],?_,H6.out.below⟩
   have hown:=H6.out.own
   rw [HKE.out,HNN.out.2,show cutB f f.blocks.length=f by simp [cutB]] at hown
   exact hown
end Go.Proofs.YtaehbgppfahdeaaGreat

namespace Go.Proofs.YtaehbgppfahdeaaGreat
open Go.RowKit
theorem cells_put1 {α:Type} {g:Nat → α → List Value} {l:List α} {k r:Nat} (u:Value) (hs:∀ i a,(g i a).length=6) (hk:k < l.length) (hr:r < 6) :
  (cellsOf g 0 l).set (k * 6 + r) u=cellsOf (fun j b => if j=k then (g j b).set r u else g j b) 0 l :=
 cellsOf_set hs (fun i a => by split <;> simp [hs]) hk hr (fun j a _ hne => if_neg hne) (fun a _ => if_pos rfl)
theorem blk_len6 (val:Vals) (F:Nat → BlockM → TermM):∀ k (b:BlockM),(blockCells val k ⟨b.phis,b.code,F k b⟩).length=6:=fun _ _ => rfl
theorem sixV {l:List Value} (h:l.length=6):∃ a b c d e f,l=[a,b,c,d,e,f]:=by
 rcases l with _ | ⟨a,_ | ⟨b,_ | ⟨c,_ | ⟨d,_ | ⟨e,_ | ⟨f,_ | ⟨g,l⟩⟩⟩⟩⟩⟩⟩ <;> simp at h
 exact ⟨a,b,c,d,e,f,rfl⟩
theorem cells_put6 {α:Type} {g g':Nat → α → List Value} {l:List α} {k:Nat} {a:α} {u0 u1 u2 u3 u4 u5:Value} (hs:∀ i a,(g i a).length=6) (hk:l[k]?=some a) (h1:∀ j b,l[j]?=some b → j ≠ k → g' j b=g j b) (h2:g' k a=[u0,u1,u2,u3,u4,u5]) :
  ((((((cellsOf g 0 l).set (k * 6 + 0) u0).set (k * 6 + 1) u1).set (k * 6 + 2) u2).set (k * 6 + 3) u3).set (k * 6 + 4) u4).set (k * 6 + 5) u5=cellsOf g' 0 l:=by
 have hkl:=(List.getElem?_eq_some_iff.1 hk).1
 have hl:∀ (G:Nat → α → List Value) (r:Nat) (u:Value),(∀ i a,(G i a).length=6) → ∀ i a,(if i=k then (G i a).set r u else G i a).length=6:=fun G r u hG i a => by split <;> simp [hG]
 rw [cells_put1 u0 hs hkl (by omega),cells_put1 u1 (hl _ _ _ hs) hkl (by omega),cells_put1 u2 (hl _ _ _ (hl _ _ _ hs)) hkl (by omega),cells_put1 u3 (hl _ _ _ (hl _ _ _ (hl _ _ _ hs))) hkl (by omega),cells_put1 u4 (hl _ _ _ (hl _ _ _ (hl _ _ _ (hl _ _ _ hs)))) hkl (by omega),cells_put1 u5 (hl _ _ _ (hl _ _ _ (hl _ _ _ (hl _ _ _ (hl _ _ _ hs))))) hkl (by omega)]
 refine cellsOf_congr _ 0 (fun j c hj => ?_)
 simp only [Nat.zero_add]
 by_cases e:j=k
 ·subst e
  rw [hk] at hj
  cases hj
  obtain ⟨x0,x1,x2,x3,x4,x5,hx⟩:=sixV (hs j a)
  simp only [if_true,hx,h2]
  rfl
 ·simp only [if_neg e]
  exact (h1 j c hj e).symm
def setV (V val1:Vals) (k:Nat):Vals:=fun t => if blkOf t=some k then val1 (sh t) else V t
section
variable {f:FuncM} {h:Int → Int} {V val1:Vals} {k:Nat} {b:BlockM}
theorem setV_row (hb:f.blocks[k]?=some b) (t:Tag) (ht:DD k b.phis.length b.code.length t):rowOf (stF h f (k + 1) 0 0) (setV V val1 k) t=rowOf (stF h (oneB b) 0 b.phis.length b.code.length) val1 (sh t):=by
 rcases ht with rfl | rfl | rfl | ⟨j,hj,rfl | rfl⟩ | ⟨j,hj,rfl⟩
 ·rw [st_phis,show sh (.phis k)=.phis 0 from rfl,st_phis]
  simp only [rowOf,hb,Option.map_some,oneB,List.getElem?_cons_zero]
  congr 2
  exact cellsOf_congr _ _ fun i a _ => by unfold phiCells;simp [setV,blkOf,sh]
 ·rw [st_code,show sh (.code k)=.code 0 from rfl,st_code]
  simp only [rowOf,hb,Option.map_some,oneB,List.getElem?_cons_zero]
  congr 2
  exact cellsOf_congr _ _ fun i a _ => by unfold instrCells;simp [setV,blkOf,sh]
 ·rw [st_ends,show sh (.ends k)=.ends 0 from rfl,st_ends]
  simp only [rowOf,hb,Option.map_some,oneB,List.getElem?_cons_zero]
 ·rw [st_fr,show sh (.fr k j)=.fr 0 j from rfl,st_fr]
  simp only [rowOf,hb,Option.bind_some,oneB,List.getElem?_cons_zero]
 ·rw [st_vals,show sh (.vals k j)=.vals 0 j from rfl,st_vals]
  simp only [hb,Option.bind_some,oneB,List.getElem?_cons_zero]
  have h1:(k < k + 1 ∨ (k=k + 1 ∧ j < 0)):=.inl (by omega)
  have h2:((0:Nat) < 0 ∨ (True ∧ j < b.phis.length)):=.inr ⟨trivial,hj⟩
  simp only [if_pos h1,if_pos h2]
 ·rw [st_args,show sh (.args k j)=.args 0 j from rfl,st_args]
  simp only [hb,Option.bind_some,oneB,List.getElem?_cons_zero]
  have h1:(k < k + 1 ∨ (k=k + 1 ∧ j < 0)):=.inl (by omega)
  have h2:((0:Nat) < 0 ∨ (True ∧ j < b.code.length)):=.inr ⟨trivial,hj⟩
  simp only [if_pos h1,if_pos h2]
theorem setV_other (t:Tag) (ht:blkOf t ≠ some k) (h0:t ≠ .blocks):rowOf (stF h f (k + 1) 0 0) (setV V val1 k) t=rowOf (stF h f k 0 0) V t:=by
 cases t with
 | params => rfl
 | blocks => exact absurd rfl h0
 | phis j =>
  have hne:¬ j=k:=fun e => ht (by rw [e];rfl)
  rw [st_phis,st_phis]
  simp only [rowOf]
  congr 1
  funext q
  congr 1
  exact cellsOf_congr _ _ fun i a _ => by unfold phiCells;simp [setV,blkOf,hne]
 | code j =>
  have hne:¬ j=k:=fun e => ht (by rw [e];rfl)
  rw [st_code,st_code]
  simp only [rowOf]
  congr 1
  funext q
  congr 1
  exact cellsOf_congr _ _ fun i a _ => by unfold instrCells;simp [setV,blkOf,hne]
 | ends j => rw [st_ends,st_ends];rfl
 | fr j r => rw [st_fr,st_fr];rfl
 | vals j r =>
  have hne:¬ j=k:=fun e => ht (by rw [e];rfl)
  rw [st_vals,st_vals]
  have hiff:(j < k + 1 ∨ (j=k + 1 ∧ r < 0)) ↔ (j < k ∨ (j=k ∧ r < 0)):=by omega
  simp only [hiff]
 | args j r =>
  have hne:¬ j=k:=fun e => ht (by rw [e];rfl)
  rw [st_args,st_args]
  have hiff:(j < k + 1 ∨ (j=k + 1 ∧ r < 0)) ↔ (j < k ∨ (j=k ∧ r < 0)):=by omega
  simp only [hiff]
theorem mp_next {w0 wx w1:World} {bl:List VarD} {g c:Nat} (hb:f.blocks[k]?=some b) (ho:OwnC w0 wx (rowOf (stF h f k 0 0) V) V (EE f f.blocks.length) bl) (hbe:Below wx.heap.size wx w1)
  (h1:OwnG w1 wx.heap.size (rowOf (stF h (oneB b) 0 b.phis.length b.code.length) val1) val1 (CbD b.phis.length b.code.length)) (hv:V .blocks=.slice (some ⟨g,0,none⟩) f.blocks.length c) :
  OwnC w0 ((((((w1.setCell ⟨g,k * 6 + 0,none⟩ (val1 (.phis 0))).setCell ⟨g,k * 6 + 1,none⟩ (val1 (.code 0))).setCell ⟨g,k * 6 + 2,none⟩ (.int .i64 b.term.op)).setCell ⟨g,k * 6 + 3,none⟩ (.int .i64 (mapT h b.term).val)).setCell ⟨g,k * 6 + 4,none⟩ (val1 (.ends 0))).setCell ⟨g,k * 6 + 5,none⟩ (.int .i64 b.term.n))
   (rowOf (stF h f (k + 1) 0 0) (setV V val1 k)) (setV V val1 k) (EE f f.blocks.length) bl:=by
 have hA:OwnC w0 wx (rowOf (stF h f k 0 0) V) V (fun t => EE f f.blocks.length t ∧ blkOf t ≠ some k) bl:=ho.congr (fun _ _ => rfl) (fun _ _ => rfl) (fun _ h => h.1)
 have hJ:=hA.join hbe (r3:=fun t => if blkOf t=some k then rowOf (stF h (oneB b) 0 b.phis.length b.code.length) val1 (sh t) else rowOf (stF h f k 0 0) V t) (v3:=setV V val1 k) (h1.turn (D':=DD k b.phis.length b.code.length) sh (fun t ht => ht.sh) (fun t t' h h' e => h.inj h' e)) (fun t ht => ⟨if_neg ht.2,if_neg ht.2⟩) (fun t ht => ⟨if_pos ht.blk,if_pos ht.blk⟩)
 have hDb:(EE f f.blocks.length .blocks ∧ blkOf .blocks ≠ some k) ∨ DD k b.phis.length b.code.length .blocks:=.inl ⟨.inr (.inl rfl),by simp [blkOf]⟩
 have hv':setV V val1 k .blocks=.slice (some ⟨g,0,none⟩) f.blocks.length c:=hv
 have p1:=hJ.put (j:=k * 6 + 0) (u:=val1 (.phis 0)) hDb (st_blocks (h:=h) (f:=f) (val:=V) (i:=k) (a:=0) (c:=0)) hv' rfl
 have p2:=p1.put (j:=k * 6 + 1) (u:=val1 (.code 0)) hDb (upd_same _ _ _) hv' rfl
 have p3:=p2.put (j:=k * 6 + 2) (u:=.int .i64 b.term.op) hDb (upd_same _ _ _) hv' rfl
 have p4:=p3.put (j:=k * 6 + 3) (u:=.int .i64 (mapT h b.term).val) hDb (upd_same _ _ _) hv' rfl
 have p5:=p4.put (j:=k * 6 + 4) (u:=val1 (.ends 0)) hDb (upd_same _ _ _) hv' rfl
 have p6:=p5.put (j:=k * 6 + 5) (u:=.int .i64 b.term.n) hDb (upd_same _ _ _) hv' rfl
 clear p1 p2 p3 p4 p5
 refine p6.congr (fun t ht => ?_) (fun _ _ => rfl) (fun t ht => ?_)
 ·by_cases e:t=.blocks
  ·subst e
   rw [upd_same,st_blocks]
   congr 2
   refine (cells_put6 (blk_len6 V _) hb (fun j q hj hne => ?_) ?_).symm
   ·have hiff:j < k + 1 ↔ j < k:=by omega
    unfold blockCells
    simp only [hiff,setV,blkOf,Option.some.injEq,hne,if_false]
   ·unfold blockCells
    have hop:(mapT h b.term).op=b.term.op ∧ (mapT h b.term).n=b.term.n:=⟨(mapT_to b.term).2.1,(mapT_to b.term).2.2⟩
    simp only [setV,blkOf,sh,if_true,if_pos (Nat.lt_succ_self k),hop.1,hop.2]
  ·rw [upd_ne _ _ e,upd_ne _ _ e,upd_ne _ _ e,upd_ne _ _ e,upd_ne _ _ e,upd_ne _ _ e]
   by_cases hk:blkOf t=some k
   ·rw [if_pos hk]
    rcases ht with rfl | rfl | ⟨k',q,_,hq,hd⟩
    ·cases hk
    ·cases hk
    ·obtain rfl:k'=k:=by rw [hd.blk] at hk;exact Option.some.inj hk
     rw [hb] at hq
     cases hq
     exact setV_row hb t hd
   ·rw [if_neg hk]
    exact setV_other t hk e
 ·by_cases hk:blkOf t=some k
  ·rcases ht with rfl | rfl | ⟨k',q,_,hq,hd⟩
   ·cases hk
   ·cases hk
   ·obtain rfl:k'=k:=by rw [hd.blk] at hk;exact Option.some.inj hk
    rw [hb] at hq
    cases hq
    exact .inr hd
  ·exact .inl ⟨ht,hk⟩
end
end Go.Proofs.YtaehbgppfahdeaaGreat

namespace Go.Proofs.YtaehbgppfahdeaaGreat
open Go.RowKit
def PairsR (w:World) (B:Nat) (v:Value) (l:List (Int × Int)):Prop :=
 ∃ A c,v=.slice A l.length c ∧ l.length ≤ 100000 ∧ ∀ k p,l[k]?=some p → ∃ b off,A=some ⟨b,off,none⟩ ∧ b < B ∧ w.cell? ⟨b,off + k * 2,none⟩=some (.int .i64 p.1) ∧ w.cell? ⟨b,off + k * 2 + 1,none⟩=some (.int .i64 p.2)
theorem PairsR.keeps {w W:World} {B:Nat} {v:Value} {l:List (Int × Int)} (h:PairsR w B v l) (k:Keeps B w W):PairsR W B v l:=by
 obtain ⟨A,c,e,hl,h⟩:=h
 exact ⟨A,c,e,hl,fun i p hp => by
  obtain ⟨b,off,h1,h2,h3,h4⟩:=h i p hp
  exact ⟨b,off,h1,h2,(k _ _ h2).trans h3,(k _ _ h2).trans h4⟩⟩
def toM:List (Int × Int) → Int → Int
 | [],id => id
 | p :: r,id => if p.1=id then p.2 else toM r id
theorem toM_drop {l:List (Int × Int)} {k:Nat} {p:Int × Int} {id:Int} (h:l[k]?=some p):toM (l.drop k) id=if p.1=id then p.2 else toM (l.drop (k + 1)) id:=by
 have hk:=(List.getElem?_eq_some_iff.1 h).1
 rw [List.drop_eq_getElem_cons hk]
 have e:l[k]=p:=(List.getElem?_eq_some_iff.1 h).2
 rw [e]
 rfl
set_option maxRecDepth 100000 in
set_option maxHeartbeats 1000000 in
theorem to_any (l:List (Int × Int)) (id:Int) (B:Nat) (v:Value) (w:World) (hl:PairsR w B v l) :
  Calls Tryz.prog 68 #[v,.int .i64 id] w fun e w' => e=.returned (.int .i64 (toM l id)) ∧ w'=w:=by
 obtain ⟨A,c,rfl,hm,hat⟩:=hl
 have HAT:=hideI hat
 obtain ⟨n,hn⟩:∃ n,n=l.length:=⟨_,rfl⟩
 have HN:=hideI hn
 rw [← hn] at hm ⊢
 clear hat hn
 go_enter Tryz.func68,Tryz.ntmps68
 go_wp2
 go_loopw [5] (fun u wr => ∃ k:Nat,k ≤ n ∧ u=.int .i64 k ∧ Hid (toM l id=toM (l.drop k) id) ∧ wr=w) (fun u _ => n - (intOf u).toNat)
 case atStart => exact ⟨0,Nat.zero_le _,by go_num,hideI rfl,rfl⟩
 case round =>
  obtain ⟨k,hk,rfl,HT,rfl⟩:=hrel
  by_cases hlt:k < n
  ·obtain ⟨p,hp⟩:∃ p,l[k]?=some p:=⟨_,List.getElem?_eq_getElem (by have:=HN.out;omega)⟩
   obtain ⟨b,off,rfl,_,c0,c1⟩:=HAT.out k p hp
   have i1:(0:Int) ≤ (k:Int):=by omega
   have i2:(k:Int) < (n:Int):=by omega
   have HD:=hideI (toM_drop (id:=id) hp)
   clear hp
   by_cases he:p.1=id
   ·have e1:(p.1 == id)=true:=by simpa using he
    have HE:=hideI he
    clear he
    go_wp2
    go_ret
    exact ⟨by rw [HT.out,HD.out,if_pos HE.out];rfl,rfl⟩
   ·have e1:(p.1 == id)=false:=by simpa using he
    have HE:=hideI he
    clear he
    go_wp2
    go_roundw
    case rel => exact ⟨k + 1,by omega,by go_num,hideI (by rw [HT.out,HD.out,if_neg HE.out]),by first | rfl | trivial⟩
    case measure => simp [intOf];omega
  ·have hkn:k=n:=by omega
   have HE:Hid (toM l id=id):=hideI (by rw [HT.out,hkn,HN.out,List.drop_length];rfl)
   clear hkn
   go_wp2
   go_ret
   exact ⟨by rw [HE.out];rfl,rfl⟩
end Go.Proofs.YtaehbgppfahdeaaGreat
