/- What InterpSplits rests on, part 18: RefIs5, IVisM, Tags, FList, Own. -/
import Derived.Test.YtkaifkjbmdcmlaaGreatPkInterpSplits17
import Derived.Deep.AppendLies
import Derived.Deep.Onto
import Derived.OneCell
import Derived.Laws.OwnMore

namespace Go.Proofs.YtkaifkjbmdcmlaaGreat
open Go.RowKit Go.Maps
theorem visit_exists {succ:Nat → List Nat} {n:Nat} (hs:∀ b,∀ t ∈ succ b,t < n):∀ (k:Nat) (l bg dn:List Nat),bg.Nodup → (∀ x ∈ bg,x < n) → (∀ x ∈ l,x < n) → n ≤ bg.length + k → ∃ bg' dn',Visit succ l (bg,dn) (bg',dn'):=by
 intro k
 induction k with
 | zero =>
  intro l
  induction l with
  | nil => exact fun bg dn _ _ _ _ => ⟨bg,dn,.nil _⟩
  | cons t r ih =>
   intro bg dn h1 h2 h3 h4
   by_cases ht:t ∈ bg
   ·obtain ⟨b,d,v⟩:=ih bg dn h1 h2 (fun x hx => h3 x (List.mem_cons_of_mem _ hx)) h4
    exact ⟨b,d,.skip ht v⟩
   ·have:=below_len n (t :: bg) (List.nodup_cons.2 ⟨ht,h1⟩) (fun x hx => by rcases List.mem_cons.1 hx with rfl | hx;exact h3 _ (List.mem_cons_self ..);exact h2 x hx)
    rw [List.length_cons] at this
    omega
 | succ k ihk =>
  intro l
  induction l with
  | nil => exact fun bg dn _ _ _ _ => ⟨bg,dn,.nil _⟩
  | cons t r ih =>
   intro bg dn h1 h2 h3 h4
   by_cases ht:t ∈ bg
   ·obtain ⟨b,d,v⟩:=ih bg dn h1 h2 (fun x hx => h3 x (List.mem_cons_of_mem _ hx)) h4
    exact ⟨b,d,.skip ht v⟩
   ·have hb:∀ x ∈ t :: bg,x < n:=fun x hx => by rcases List.mem_cons.1 hx with rfl | hx;exact h3 _ (List.mem_cons_self ..);exact h2 x hx
    obtain ⟨b1,d1,v1⟩:=ihk (succ t) (t :: bg) dn (List.nodup_cons.2 ⟨ht,h1⟩) hb (hs t) (by rw [List.length_cons];omega)
    obtain ⟨new,d⟩:=v1.did
    have hnew:∀ x ∈ new,x < n:=fun x hx => by
     obtain ⟨i,hi⟩:=List.getElem?_of_mem hx
     rcases d.from_ i x hi with h | ⟨_,y,_,_,h⟩
     ·exact hs t x h
     ·exact hs y x h
    have hlen:=d.len
    simp only [List.length_cons] at hlen
    obtain ⟨b2,d2,v2⟩:=ih b1 (d1 ++ [t]) (d.keepsNodup (List.nodup_cons.2 ⟨ht,h1⟩)) (fun x hx => by
     rcases (d.begun x).1 hx with h | h
     ·exact hb x h
     ·exact hnew x h) (fun x hx => h3 x (List.mem_cons_of_mem _ hx)) (by omega)
    exact ⟨b2,d2,.go ht v1 v2⟩
theorem order_exists {f:FuncM} (h0:(lookM f).1=0):∃ o,OrderIs f.blocks o:=by
 have hin:=look_ends h0
 have hnb:=(look_some_block h0).1
 have hs:∀ b,∀ t ∈ succM f.blocks b,t < f.blocks.length:=fun b t ht => by
  unfold succM at ht
  split at ht
  ·rename_i q hq
   obtain ⟨x,hx,rfl⟩:=List.mem_map.1 ht
   have:=hin q (List.mem_of_getElem? hq) x hx
   omega
  ·cases ht
 obtain ⟨bg,dn,v⟩:=visit_exists hs f.blocks.length (succM f.blocks 0) [0] [] (by simp) (fun x hx => by simp at hx;omega) (hs 0) (by omega)
 exact ⟨_,bg,dn,v,rfl⟩
theorem refCheck_all (f:FuncM) (B:Nat) (pv bv:Value) (w:World) (hpv:Ints w B pv f.params) (hbv:BlocksR w B bv f.blocks) (hB:B ≤ w.heap.size) (hid:∀ u ∈ usesM f,I64 u.1) :
  Calls Tryz.prog 53 #[.agg #[pv,.int .i64 f.arrays,.int .i64 f.cells,bv]] w fun e w' => ∃ x y:Int,e=.returned (.tuple #[.int .i64 x,.int .i64 y]) ∧ CheckIs f (x,y) ∧ Below w.heap.size w w':=by
 by_cases h0:(lookM f).1=0
 ·obtain ⟨o,ho⟩:=order_exists h0
  refine (refStrict_yes f o B pv bv w hpv hbv hB hid h0 ho).mono ?_
  rintro e w' ⟨x,y,rfl,hf,hb⟩
  exact ⟨x,y,rfl,.inr ⟨h0,o,ho,hf⟩,hb⟩
 ·refine (refStrict_no f B pv bv w hpv hbv hB h0).mono ?_
  rintro e w' ⟨rfl,hb⟩
  exact ⟨_,_,rfl,.inl ⟨h0,rfl⟩,hb⟩
theorem CheckIs.zero {f:FuncM} {x y:Int} (h:CheckIs f (x,y)):y=0 ↔ CheckIs f (0,0):=by
 constructor
 ·rintro rfl
  rcases h with ⟨h1,h2⟩ | ⟨h0,o,ho,hf⟩
  ·exact absurd (Prod.mk.inj h2).2.symm h1
  ·rcases hf with ⟨b,_,e⟩ | ⟨_,b,_,e⟩ | ⟨_,_,b,_,e⟩ | ⟨a0,a1,a2,e⟩
   ·exact absurd (Prod.mk.inj e).2 (by decide)
   ·exact absurd (Prod.mk.inj e).2 (by decide)
   ·exact absurd (Prod.mk.inj e).2 (by decide)
   ·exact .inr ⟨h0,o,ho,.inr (.inr (.inr ⟨a0,a1,a2,rfl⟩))⟩
 ·intro h2
  exact (Prod.mk.inj (h.one h2)).2
set_option maxRecDepth 100000 in
theorem refIs_any (f:FuncM) (B:Nat) (pv bv:Value) (w:World) (hpv:Ints w B pv f.params) (hbv:BlocksR w B bv f.blocks) (hB:B ≤ w.heap.size) (hid:∀ u ∈ usesM f,I64 u.1) :
  Calls Tryz.prog 23 #[.agg #[pv,.int .i64 f.arrays,.int .i64 f.cells,bv]] w fun e w' => ∃ z:Bool,e=.returned (.bool z) ∧ (z=true ↔ CheckIs f (0,0)) ∧ Below w.heap.size w w':=by
 have HP:=hideI hpv
 have HBL:=hideI hbv
 have HID:=hideI hid
 obtain ⟨P,pc,rfl,_⟩:=hpv
 obtain ⟨A,c,rfl,_,_⟩:=hbv
 have HB1:Hid (Below w.heap.size w (w.alloc (.cells #[.slice P f.params.length pc,.int .i64 f.arrays,.int .i64 f.cells,.slice A f.blocks.length c] 25))):=(Below.refl _ w).alloc (Nat.le_refl _) _
 have HC:Hid (∀ W,Below w.heap.size w W → Calls Tryz.prog 53 #[.agg #[.slice P f.params.length pc,.int .i64 f.arrays,.int .i64 f.cells,.slice A f.blocks.length c]] W fun e w' => ∃ x y:Int,e=.returned (.tuple #[.int .i64 x,.int .i64 y]) ∧ CheckIs f (x,y) ∧ Below W.heap.size W w'):=hideI fun W hW =>
  refCheck_all f B _ _ W (HP.out.keeps (Keeps.of_below (hW.mono hB))) (HBL.out.keeps (Keeps.of_below (hW.mono hB))) (Nat.le_trans hB hW.size) HID.out
 clear hid
 go_enter Tryz.func23,Tryz.ntmps23
 go_wp2_with (first
  | (go_at_call 53;go_must (refine (HC.out _ (by first | exact HB1.out | exact Below.refl _ _)).mono ?_);rintro e w1 ⟨x,y,rfl,hci,hb⟩;have HCI:=hideI hci;have HB2:=hideI hb;clear hb hci))
 go_ret
 refine ⟨_,rfl,?_,?_⟩
 ·rw [beq_iff_eq]
  exact HCI.out.zero
 ·first | exact HB1.out.trans (HB2.out.mono HB1.out.size) | exact HB2.out
end Go.Proofs.YtkaifkjbmdcmlaaGreat

namespace Go.Proofs.YtkaifkjbmdcmlaaGreat
open Go.RowKit Go.Maps
def visM (s:StM) (b:Nat):Int:=s.vis.getD b 0
def leftM (c:CfgM) (b:Nat):Int:=visM c.s b - if c.b=b then 1 else 0
def sumOver (g:Nat → Int):List Nat → Int
 | [] => 0
 | b :: r => g b + sumOver g r
theorem sumOver_mono {g h:Nat → Int}:∀ {l:List Nat},(∀ b ∈ l,g b ≤ h b) → sumOver g l ≤ sumOver h l
 | [],_ => Int.le_refl _
 | a :: l,k => by
  have h1:=k a (List.mem_cons_self ..)
  have h2:=sumOver_mono (l:=l) fun b hb => k b (List.mem_cons_of_mem _ hb)
  show g a + sumOver g l ≤ h a + sumOver h l
  omega
theorem sumOver_more {g h:Nat → Int} {x:Nat} {d:Int}:∀ {l:List Nat},(∀ b ∈ l,g b ≤ h b) → x ∈ l → g x + d ≤ h x → sumOver g l + d ≤ sumOver h l
 | a :: l,k,hx,hd => by
  show g a + sumOver g l + d ≤ h a + sumOver h l
  have hk:=fun b hb => k b (List.mem_cons_of_mem _ hb)
  rcases List.mem_cons.1 hx with rfl | hx
  ·have h2:=sumOver_mono hk
   omega
  ·have h1:=k a (List.mem_cons_self ..)
   have h2:=sumOver_more hk hx hd
   omega
theorem sumOver_bound {g:Nat → Int} {M:Int}:∀ {l:List Nat},(∀ b ∈ l,0 ≤ g b ∧ g b ≤ M) → 0 ≤ sumOver g l ∧ sumOver g l ≤ l.length * M
 | [],_ => by simp [sumOver]
 | a :: l,k => by
  obtain ⟨h0,h1⟩:=k a (List.mem_cons_self ..)
  obtain ⟨h2,h3⟩:=sumOver_bound (l:=l) fun b hb => k b (List.mem_cons_of_mem _ hb)
  show 0 ≤ g a + sumOver g l ∧ g a + sumOver g l ≤ ((l.length + 1:Nat):Int) * M
  have e:((l.length + 1:Nat):Int) * M=l.length * M + M:=by rw [Int.natCast_add,Int.add_mul];omega
  omega
def lenM (f:FuncM) (b:Nat):Int:=(blkM f b).code.length + 1
structure VisM (f:FuncM) (c:CfgM):Prop where
 len:c.s.vis.length=f.blocks.length
 cur:c.b < f.blocks.length
 pos:c.k ≤ (blkM f c.b).code.length
 low:∀ b,0 ≤ leftM c b ∧ visM c.s b ≤ c.s.steps + 1
 zero:visM c.s 0=1
 come:∀ b,0 < b → b < f.blocks.length → visM c.s b ≤ sumOver (leftM c) (predsTo f.blocks f.blocks.length b)
 ends:∀ b,b < f.blocks.length → (blkM f b).term.to=[] → leftM c b ≤ 0
 most:(c.s.steps:Int) ≤ sumOver (fun b => lenM f b * leftM c b) (List.range f.blocks.length) + c.k + if c.fin=none then 0 else 1
theorem done_vis (x:InstrM) (s:StM):(doM x s).1.vis=s.vis:=by
 have hm:(madeM x (x.args.map s.val) s).1.vis=s.vis:=by
  unfold madeM lookS
  repeat' split
  all_goals rfl
 have hl:(lookS x.op s).vis=s.vis:=by unfold lookS;split <;> rfl
 unfold doM
 simp only
 repeat' split
 all_goals first | rfl | exact hl | (rename_i h;rw [h] at hm;exact hm)
theorem visM_set {vis:List Int} {b:Nat} (hb:b < vis.length) (v:Int) (x:Nat):(vis.set b v).getD x 0=if b=x then v else vis.getD x 0:=by
 rw [List.getD_eq_getElem?_getD,List.getD_eq_getElem?_getD]
 by_cases e:b=x
 ·subst e
  rw [List.getElem?_set_self hb,if_pos rfl]
  rfl
 ·rw [List.getElem?_set_ne e,if_neg e]
theorem vis_start {f:FuncM} {I:InM} (hok:0 < f.blocks.length):VisM f (startM f I):=by
 have hv:∀ b,visM (startM f I).s b=if 0=b then 1 else 0:=fun b => by
  unfold visM startM enterM arriveM startS
  simp only
  rw [visM_set (by simpa using hok)]
  by_cases e:0=b
  ·rw [if_pos e,if_pos e]
   rw [List.getD_eq_getElem?_getD,List.getElem?_replicate]
   split <;> (show wrap64 (0 + 1)=1;unfold wrap64;omega)
  ·rw [if_neg e,if_neg e,List.getD_eq_getElem?_getD,List.getElem?_replicate]
   split <;> rfl
 have hl:∀ b,leftM (startM f I) b=0:=fun b => by
  unfold leftM
  rw [hv]
  show (if 0=b then (1:Int) else 0) - (if 0=b then 1 else 0)=0
  omega
 refine ⟨?_,hok,Nat.zero_le _,fun b => ⟨by rw [hl];exact Int.le_refl _,?_⟩,hv 0,fun b h0 _ => ?_,fun b _ _ => by rw [hl];exact Int.le_refl _,?_⟩
 ·show ((List.replicate f.blocks.length (0:Int)).set 0 _).length=_
  simp
 ·rw [hv]
  show (if 0=b then (1:Int) else 0) ≤ ((0:Nat):Int) + 1
  split <;> decide
 ·rw [hv,if_neg (by omega)]
  have:=(sumOver_bound (g:=leftM (startM f I)) (M:=0) (l:=predsTo f.blocks f.blocks.length b) fun x _ => by rw [hl];exact ⟨Int.le_refl _,Int.le_refl _⟩).1
  exact this
 ·have:=(sumOver_bound (g:=fun b => lenM f b * leftM (startM f I) b) (M:=0) (l:=List.range f.blocks.length) fun x _ => by rw [hl];simp).1
  show ((0:Nat):Int) ≤ _ + ((0:Nat):Int) + 0
  omega
theorem blk_some {f:FuncM} {b:Nat} (h:b < f.blocks.length):f.blocks[b]?=some (blkM f b):=by
 unfold blkM
 rw [List.getD_eq_getElem?_getD,List.getElem?_eq_getElem h]
 rfl
theorem vis_go {f:FuncM} {nv:Nat} (hok:FOk f nv) (hpos:∀ q ∈ f.blocks,∀ x ∈ q.term.to,1 ≤ x) {c:CfgM} (h:VisM f c) (hs:c.s.steps < 4294967295):VisM f (goM f c):=by
 have hb:=blk_some h.cur
 cases hfin:c.fin with
 | some e => rw [goM_fin (by rw [hfin];simp)];exact h
 | none =>
 have hst:=goM_steps (f:=f) hfin
 unfold goM at hst ⊢
 rw [hfin] at hst ⊢
 simp only at hst ⊢
 split
 ·-- an instruction
  rename_i x hx
  rw [hx] at hst
  have hx':=(List.getElem?_eq_some_iff.1 hx).1
  have ev:=done_vis x (tickM c.s)
  have hv:∀ b,visM (doM x (tickM c.s)).1 b=visM c.s b:=fun b => by unfold visM;rw [ev];rfl
  have hl:∀ b,leftM ⟨(doM x (tickM c.s)).1,c.b,c.k + 1,(doM x (tickM c.s)).2⟩ b=leftM c b:=fun b => by
   unfold leftM
   rw [show visM (CfgM.mk (doM x (tickM c.s)).1 c.b (c.k + 1) (doM x (tickM c.s)).2).s b=visM c.s b from hv b]
  have hsum:∀ (l:List Nat) (g g2:Nat → Int),(∀ b,g b=g2 b) → sumOver g l=sumOver g2 l:=fun l g g2 e => by rw [show g=g2 from funext e]
  refine ⟨by show (doM x (tickM c.s)).1.vis.length=_;rw [ev];exact h.len,h.cur,hx',fun b => ⟨by rw [hl];exact (h.low b).1,?_⟩,by show visM (doM x (tickM c.s)).1 0=1;rw [hv];exact h.zero,fun b h0 hbn => ?_,fun b hbn he => by rw [hl];exact h.ends b hbn he,?_⟩
  ·show visM (doM x (tickM c.s)).1 b ≤ _
   rw [hv]
   have:=(h.low b).2
   show visM c.s b ≤ ((doM x (tickM c.s)).1.steps:Int) + 1
   have e:=doM_steps x (tickM c.s)
   simp only [tickM] at e
   simp only [tickM]
   omega
  ·show visM (doM x (tickM c.s)).1 b ≤ _
   rw [hv,hsum _ _ _ hl]
   exact h.come b h0 hbn
  ·have hm:=h.most
   rw [hfin,if_pos rfl] at hm
   rw [hsum _ _ _ (fun b => by rw [hl b]:∀ b,lenM f b * leftM ⟨(doM x (tickM c.s)).1,c.b,c.k + 1,(doM x (tickM c.s)).2⟩ b=lenM f b * leftM c b)]
   have e:=doM_steps x (tickM c.s)
   simp only [tickM] at e
   show ((doM x (tickM c.s)).1.steps:Int) ≤ _ + ((c.k + 1:Nat):Int) + if (doM x (tickM c.s)).2=none then 0 else 1
   have hif:(0:Int) ≤ if (doM x (tickM c.s)).2=none then 0 else 1:=by split <;> decide
   simp only [tickM]
   simp only [tickM] at hif
   omega
 ·-- the block's end
  rename_i hx
  have hk:c.k=(blkM f c.b).code.length:=by
   have:=List.getElem?_eq_none_iff.1 hx
   have:=h.pos
   omega
  have ht:=(hok.term c.b _ hb).op
  unfold leaveM
  simp only
  split
  ·refine ⟨h.len,h.cur,h.pos,fun b => ⟨(h.low b).1,?_⟩,h.zero,h.come,h.ends,?_⟩
   ·have:=(h.low b).2
    show visM c.s b ≤ ((c.s.steps + 1:Nat):Int) + 1
    omega
   ·have hm:=h.most
    rw [hfin,if_pos rfl] at hm
    show ((c.s.steps + 1:Nat):Int) ≤ sumOver (fun b => lenM f b * leftM c b) (List.range f.blocks.length) + c.k + 1
    omega
  ·split
   ·refine ⟨h.len,h.cur,h.pos,fun b => ⟨(h.low b).1,?_⟩,h.zero,h.come,h.ends,?_⟩
    ·have:=(h.low b).2
     show visM c.s b ≤ ((c.s.steps + 1:Nat):Int) + 1
     omega
    ·have hm:=h.most
     rw [hfin,if_pos rfl] at hm
     show ((c.s.steps + 1:Nat):Int) ≤ sumOver (fun b => lenM f b * leftM c b) (List.range f.blocks.length) + c.k + 1
     omega
   ·rename_i h3 h4
    obtain ⟨t,ht,hmem⟩:∃ t,nextM (blkM f c.b).term (tickM c.s)=t ∧ t ∈ (blkM f c.b).term.to:=by
     refine ⟨_,rfl,?_⟩
     unfold nextM
     rcases ht with ⟨e,l⟩ | ⟨e,l⟩ | ⟨e,_⟩ | ⟨e,_⟩
     ·rw [if_neg (by omega)]
      rw [List.getD_eq_getElem?_getD,List.getElem?_eq_getElem (by omega)]
      exact List.getElem_mem _
     ·split
      ·rw [List.getD_eq_getElem?_getD,List.getElem?_eq_getElem (by omega)]
       exact List.getElem_mem _
      ·rw [List.getD_eq_getElem?_getD,List.getElem?_eq_getElem (by omega)]
       exact List.getElem_mem _
     ·exact absurd e h3
     ·exact absurd e h4
    rw [ht]
    obtain ⟨tn,rfl,htn,_⟩:=hok.goes c.b _ hb t hmem
    rw [Int.toNat_natCast]
    have ht0:1 ≤ tn:=by
     have:=hpos _ (List.mem_of_getElem? hb) _ hmem
     omega
    have hw:wrap64 (visM c.s tn + 1)=visM c.s tn + 1:=by
     have:=(h.low tn)
     have h2:0 ≤ visM c.s tn:=by
      have:=this.1
      unfold leftM at this
      split at this <;> omega
     unfold wrap64
     omega
    have hv:∀ b,visM (enterM f tn c.b (tickM c.s)).s b=visM c.s b + if tn=b then 1 else 0:=fun b => by
     unfold visM enterM arriveM
     simp only
     rw [visM_set (by show tn < c.s.vis.length;rw [h.len];exact htn)]
     by_cases e:tn=b
     ·subst e
      rw [if_pos rfl,if_pos rfl]
      exact hw
     ·rw [if_neg e,if_neg e,Int.add_zero]
      rfl
    have hl:∀ b,leftM (enterM f tn c.b (tickM c.s)) b=leftM c b + if c.b=b then 1 else 0:=fun b => by
     unfold leftM
     rw [hv]
     show visM c.s b + (if tn=b then (1:Int) else 0) - (if tn=b then 1 else 0)=_
     omega
    refine ⟨?_,htn,Nat.zero_le _,fun b => ⟨?_,?_⟩,?_,fun b h0 hbn => ?_,fun b hbn he => ?_,?_⟩
    ·show (c.s.vis.set tn _).length=_
     rw [List.length_set]
     exact h.len
    ·rw [hl]
     have:=(h.low b).1
     split <;> omega
    ·rw [hv]
     have:=(h.low b).2
     show _ ≤ ((c.s.steps + 1:Nat):Int) + 1
     split <;> omega
    ·rw [hv,if_neg (by omega),h.zero]
     rfl
    ·rw [hv]
     have hc:=h.come b h0 hbn
     have hle:∀ x ∈ predsTo f.blocks f.blocks.length b,leftM c x ≤ leftM (enterM f tn c.b (tickM c.s)) x:=fun x _ => by
      rw [hl]
      split <;> omega
     by_cases e:tn=b
     ·subst e
      rw [if_pos rfl]
      have hin:c.b ∈ predsTo f.blocks f.blocks.length tn:=by
       unfold predsTo
       refine List.mem_filter.2 ⟨List.mem_range.2 h.cur,decide_eq_true ?_⟩
       unfold succM
       rw [hb]
       exact List.mem_map.2 ⟨_,hmem,by simp⟩
      have:=sumOver_more (d:=1) hle hin (by rw [hl,if_pos rfl];omega)
      omega
     ·rw [if_neg e]
      have:=sumOver_mono hle
      omega
    ·rw [hl]
     have:=h.ends b hbn he
     by_cases e:c.b=b
     ·subst e
      rw [he] at hmem
      cases hmem
     ·rw [if_neg e]
      omega
    ·have hm:=h.most
     rw [hfin,if_pos rfl] at hm
     have hle:∀ x ∈ List.range f.blocks.length,lenM f x * leftM c x ≤ lenM f x * leftM (enterM f tn c.b (tickM c.s)) x:=fun x _ => by
      rw [hl]
      have:0 ≤ lenM f x:=by unfold lenM;omega
      split
      ·exact Int.mul_le_mul_of_nonneg_left (by omega) this
      ·rw [Int.add_zero]
       exact Int.le_refl _
     have:=sumOver_more (d:=lenM f c.b) hle (List.mem_range.2 h.cur) (by rw [hl,if_pos rfl,Int.mul_add,Int.mul_one];exact Int.le_refl _)
     have e1:lenM f c.b=c.k + 1:=by unfold lenM;rw [hk]
     show ((c.s.steps + 1:Nat):Int) ≤ _ + ((0:Nat):Int) + 0
     omega
theorem vis_goN {f:FuncM} {nv:Nat} {I:InM} (hok:FOk f nv) (hpos:∀ q ∈ f.blocks,∀ x ∈ q.term.to,1 ≤ x):∀ n,n ≤ 200000 → VisM f (goN f n (startM f I)) ∧ (goN f n (startM f I)).s.steps ≤ n
 | 0,_ => ⟨vis_start hok.first.1,Nat.le_refl _⟩
 | n + 1,hn => by
  obtain ⟨h1,h2⟩:=vis_goN (I:=I) hok hpos n (by omega)
  refine ⟨vis_go hok hpos h1 (by omega),?_⟩
  have:=go_steps_le f (goN f n (startM f I))
  show (goM f (goN f n (startM f I))).s.steps ≤ n + 1
  omega
structure VisEnd (f:FuncM) (F:Nat) (s:StM):Prop where
 len:s.vis.length=f.blocks.length
 low:∀ b,0 ≤ visM s b ∧ visM s b ≤ F + 1
 zero:visM s 0=1
 come:∀ b,0 < b → b < f.blocks.length → visM s b ≤ sumOver (visM s) (predsTo f.blocks f.blocks.length b)
 ends:∀ b,b < f.blocks.length → (blkM f b).term.to=[] → visM s b ≤ 1
 most:(s.steps:Int) ≤ sumOver (fun b => lenM f b * visM s b) (List.range f.blocks.length)
end Go.Proofs.YtkaifkjbmdcmlaaGreat

namespace Go.Proofs.YtkaifkjbmdcmlaaGreat
open Go.RowKit
inductive Tag
 | params
 | blocks
 | phis (k:Nat)
 | code (k:Nat)
 | ends (k:Nat)
 | fr (k i:Nat)
 | vals (k i:Nat)
 | args (k i:Nat)
 deriving DecidableEq
structure RowD where
 elem:TypeId
 size:Nat
 len:Nat
 cells:List Value
def intsRow (xs:List Int):RowD:=⟨3,1,xs.length,xs.map (Value.int .i64)⟩
def cellsOf {α:Type} (g:Nat → α → List Value):Nat → List α → List Value
 | _,[] => []
 | i,a :: r => g i a ++ cellsOf g (i + 1) r
abbrev Vals:=Tag → Value
def phiCells (val:Vals) (k i:Nat) (p:PhiM):List Value:=[.int .i64 p.id,.int .i64 p.typ,val (.fr k i),val (.vals k i)]
def instrCells (val:Vals) (k i:Nat) (x:InstrM):List Value:=[.int .i64 x.op,.int .i64 x.id,val (.args k i),.int .i64 x.n]
def blockCells (val:Vals) (k:Nat) (b:BlockM):List Value:=[val (.phis k),val (.code k),.int .i64 b.term.op,.int .i64 b.term.val,val (.ends k),.int .i64 b.term.n]
def rowOf (f:FuncM) (val:Vals):Tag → Option RowD
 | .params => some (intsRow f.params)
 | .blocks => some ⟨51,6,f.blocks.length,cellsOf (blockCells val) 0 f.blocks⟩
 | .phis k => f.blocks[k]?.map fun b => ⟨119,4,b.phis.length,cellsOf (phiCells val k) 0 b.phis⟩
 | .code k => f.blocks[k]?.map fun b => ⟨76,4,b.code.length,cellsOf (instrCells val k) 0 b.code⟩
 | .ends k => f.blocks[k]?.map fun b => intsRow b.term.to
 | .fr k i => (f.blocks[k]?.bind fun b => b.phis[i]?).map fun p => intsRow p.fr
 | .vals k i => (f.blocks[k]?.bind fun b => b.phis[i]?).map fun p => intsRow p.vals
 | .args k i => (f.blocks[k]?.bind fun b => b.code[i]?).map fun x => intsRow x.args
section
variable {α:Type} {g g':Nat → α → List Value} {s:Nat}
theorem cellsOf_len (hs:∀ i a,(g i a).length=s):∀ (l:List α) (i:Nat),(cellsOf g i l).length=l.length * s:=by
 intro l
 induction l with
 | nil => intro i;simp [cellsOf]
 | cons a l ih => intro i;rw [cellsOf,List.length_append,hs,ih,List.length_cons];rw [Nat.add_mul];omega
theorem cellsOf_at (hs:∀ i a,(g i a).length=s):∀ (l:List α) (i k r:Nat) (a:α),l[k]?=some a → r < s → (cellsOf g i l)[k * s + r]?=(g (i + k) a)[r]?:=by
 intro l
 induction l with
 | nil => intro i k r a h;simp at h
 | cons b l ih =>
  intro i k r a h hr
  rw [cellsOf]
  cases k with
  | zero =>
   simp at h
   subst h
   rw [List.getElem?_append_left (by rw [hs];omega)]
   simp
  | succ k =>
   rw [List.getElem?_append_right (by rw [hs,Nat.add_mul];omega),hs]
   have:=ih (i + 1) k r a (by simpa using h) hr
   rw [show (k + 1) * s + r - s=k * s + r by rw [Nat.add_mul];omega,this]
   congr 2
   omega
theorem cellsOf_congr:∀ (l:List α) (i:Nat),(∀ k a,l[k]?=some a → g (i + k) a=g' (i + k) a) → cellsOf g i l=cellsOf g' i l:=by
 intro l
 induction l with
 | nil => intro i _;rfl
 | cons a l ih =>
  intro i h
  rw [cellsOf,cellsOf,ih (i + 1) (fun k b hb => by have:=h (k + 1) b (by simpa using hb);rwa [show i + (k + 1)=i + 1 + k by omega] at this)]
  rw [show g i a=g' i a from by simpa using h 0 a rfl]
theorem cellsOf_div (hs:∀ i a,(g i a).length=s) {l:List α} {j:Nat} {u:Value} (h:(cellsOf g 0 l)[j]?=some u):∃ k r a,j=k * s + r ∧ r < s ∧ l[k]?=some a ∧ (g k a)[r]?=some u:=by
 have hj:=(List.getElem?_eq_some_iff.1 h).1
 rw [cellsOf_len hs] at hj
 have hs0:0 < s:=Nat.pos_of_ne_zero fun e => by subst e;simp at hj
 have hk:j / s < l.length:=(Nat.div_lt_iff_lt_mul hs0).2 hj
 have hr:=Nat.mod_lt j hs0
 have e:j=j / s * s + j % s:=by rw [Nat.mul_comm];exact (Nat.div_add_mod j s).symm
 refine ⟨j / s,j % s,_,e,hr,List.getElem?_eq_getElem hk,?_⟩
 have h2:=cellsOf_at hs l 0 (j / s) (j % s) _ (List.getElem?_eq_getElem hk) hr
 rw [← e,h] at h2
 rw [Nat.zero_add] at h2
 exact h2.symm
end
def RowR (w:World) (B:Nat) (v:Value) (d:RowD):Prop :=
 ∃ A c,v=.slice A d.len c ∧ d.len ≤ 140737488351232 ∧ ∀ j u,d.cells[j]?=some u → ∃ b off,A=some ⟨b,off,none⟩ ∧ b < B ∧ w.cell? ⟨b,off + j,none⟩=some u
def RdF (w:World) (B:Nat) (f:FuncM) (val:Vals):Prop:=∀ t d,rowOf f val t=some d → RowR w B (val t) d
theorem RowR.keeps {w w':World} {B:Nat} {v:Value} {d:RowD} (h:RowR w B v d) (hk:Keeps B w w'):RowR w' B v d:=by
 obtain ⟨A,c,rfl,hm,hx⟩:=h
 refine ⟨A,c,rfl,hm,fun j u hu => ?_⟩
 obtain ⟨b,off,rfl,hb,hc⟩:=hx j u hu
 exact ⟨b,off,rfl,hb,(hk _ _ hb).trans hc⟩
theorem RdF.keeps {w w':World} {B:Nat} {f:FuncM} {val:Vals} (h:RdF w B f val) (hk:Keeps B w w'):RdF w' B f val:=fun t d hd => (h t d hd).keeps hk
theorem RowR.ints {w:World} {B:Nat} {v:Value} {xs:List Int} (h:RowR w B v (intsRow xs)):Ints w B v xs:=by
 obtain ⟨A,c,rfl,hm,hx⟩:=h
 refine ⟨A,c,rfl,hm,fun k hk => ?_⟩
 obtain ⟨b,off,hA,hb,hc⟩:=hx k (.int .i64 xs[k]) (by show (xs.map _)[k]?=_;rw [List.getElem?_map,List.getElem?_eq_getElem hk];rfl)
 exact ⟨b,off,hA,hb,by rw [hc,List.getElem?_eq_getElem hk];rfl⟩
theorem Ints.row {w:World} {B:Nat} {v:Value} {xs:List Int} (h:Ints w B v xs):RowR w B v (intsRow xs):=by
 obtain ⟨A,c,rfl,hm,hx⟩:=h
 refine ⟨A,c,rfl,hm,fun j u hu => ?_⟩
 have hu':(xs.map (Value.int .i64))[j]?=some u:=hu
 rw [List.getElem?_map] at hu'
 cases hj:xs[j]? with
 | none => rw [hj] at hu';cases hu'
 | some x =>
  rw [hj] at hu'
  cases hu'
  obtain ⟨b,off,hA,hb,hc⟩:=hx j (List.getElem?_eq_some_iff.1 hj).1
  exact ⟨b,off,hA,hb,by rw [hc,hj];rfl⟩
structure FnFits (f:FuncM):Prop where
 phi:∀ b ∈ f.blocks,∀ p ∈ b.phis,I64 p.id ∧ I64 p.typ
 code:∀ b ∈ f.blocks,∀ x ∈ b.code,I64 x.op ∧ I64 x.id ∧ I64 x.n
 term:∀ b ∈ f.blocks,I64 b.term.op ∧ I64 b.term.val ∧ I64 b.term.n
theorem phiCells_len (val:Vals) (k:Nat):∀ i p,(phiCells val k i p).length=4:=fun _ _ => rfl
theorem instrCells_len (val:Vals) (k:Nat):∀ i p,(instrCells val k i p).length=4:=fun _ _ => rfl
theorem blockCells_len (val:Vals):∀ i p,(blockCells val i p).length=6:=fun _ _ => rfl
section
variable {w:World} {B:Nat} {f:FuncM} {val:Vals}
theorem RdF.params (h:RdF w B f val):Ints w B (val .params) f.params:=(h .params _ rfl).ints
theorem RdF.phis (h:RdF w B f val) (hf:FnFits f) {k:Nat} {b:BlockM} (hb:f.blocks[k]?=some b):PhisR w B (val (.phis k)) b.phis:=by
 obtain ⟨A,c,hv,hm,hx⟩:=h (.phis k) _ (by simp only [rowOf,hb];rfl)
 rw [hv]
 refine ⟨A,c,rfl,hm,fun i p hp => ?_⟩
 have hat:∀ r u,r < 4 → (phiCells val k i p)[r]?=some u → ∃ b off,A=some ⟨b,off,none⟩ ∧ b < B ∧ w.cell? ⟨b,off + (i * 4 + r),none⟩=some u:=fun r u hr hu => hx (i * 4 + r) u (by
  have:=cellsOf_at (phiCells_len val k) b.phis 0 i r p hp hr
  rw [Nat.zero_add] at this
  exact this.trans hu)
 obtain ⟨g,off,rfl,hg,c0⟩:=hat 0 _ (by omega) rfl
 obtain ⟨_,_,e,_,c1⟩:=hat 1 _ (by omega) rfl
 cases e
 obtain ⟨_,_,e,_,c2⟩:=hat 2 _ (by omega) rfl
 cases e
 obtain ⟨_,_,e,_,c3⟩:=hat 3 _ (by omega) rfl
 cases e
 have hp2:(f.blocks[k]?.bind fun b => b.phis[i]?)=some p:=by rw [hb];exact hp
 exact ⟨g,off,_,_,rfl,hg,c0,c1,c2,c3,(h (.fr k i) _ (by simp only [rowOf,hp2];rfl)).ints,(h (.vals k i) _ (by simp only [rowOf,hp2];rfl)).ints,hf.phi b (List.mem_of_getElem? hb) p (List.mem_of_getElem? hp)⟩
theorem RdF.code (h:RdF w B f val) (hf:FnFits f) {k:Nat} {b:BlockM} (hb:f.blocks[k]?=some b):CodeR w B (val (.code k)) b.code:=by
 obtain ⟨A,c,hv,hm,hx⟩:=h (.code k) _ (by simp only [rowOf,hb];rfl)
 rw [hv]
 refine ⟨A,c,rfl,hm,fun i p hp => ?_⟩
 have hat:∀ r u,r < 4 → (instrCells val k i p)[r]?=some u → ∃ b off,A=some ⟨b,off,none⟩ ∧ b < B ∧ w.cell? ⟨b,off + (i * 4 + r),none⟩=some u:=fun r u hr hu => hx (i * 4 + r) u (by
  have:=cellsOf_at (instrCells_len val k) b.code 0 i r p hp hr
  rw [Nat.zero_add] at this
  exact this.trans hu)
 obtain ⟨g,off,rfl,hg,c0⟩:=hat 0 _ (by omega) rfl
 obtain ⟨_,_,e,_,c1⟩:=hat 1 _ (by omega) rfl
 cases e
 obtain ⟨_,_,e,_,c2⟩:=hat 2 _ (by omega) rfl
 cases e
 obtain ⟨_,_,e,_,c3⟩:=hat 3 _ (by omega) rfl
 cases e
 have hp2:(f.blocks[k]?.bind fun b => b.code[i]?)=some p:=by rw [hb];exact hp
 exact ⟨g,off,_,rfl,hg,c0,c1,c2,c3,(h (.args k i) _ (by simp only [rowOf,hp2];rfl)).ints,hf.code b (List.mem_of_getElem? hb) p (List.mem_of_getElem? hp)⟩
theorem RdF.blocks (h:RdF w B f val) (hf:FnFits f):BlocksR w B (val .blocks) f.blocks:=by
 obtain ⟨A,c,hv,hm,hx⟩:=h .blocks _ rfl
 rw [hv]
 refine ⟨A,c,rfl,hm,fun k b hb => ?_⟩
 have hat:∀ r u,r < 6 → (blockCells val k b)[r]?=some u → ∃ b off,A=some ⟨b,off,none⟩ ∧ b < B ∧ w.cell? ⟨b,off + (k * 6 + r),none⟩=some u:=fun r u hr hu => hx (k * 6 + r) u (by
  have:=cellsOf_at (blockCells_len val) f.blocks 0 k r b hb hr
  rw [Nat.zero_add] at this
  exact this.trans hu)
 obtain ⟨g,off,rfl,hg,c0⟩:=hat 0 _ (by omega) rfl
 obtain ⟨_,_,e,_,c1⟩:=hat 1 _ (by omega) rfl
 cases e
 obtain ⟨_,_,e,_,c2⟩:=hat 2 _ (by omega) rfl
 cases e
 obtain ⟨_,_,e,_,c3⟩:=hat 3 _ (by omega) rfl
 cases e
 obtain ⟨_,_,e,_,c4⟩:=hat 4 _ (by omega) rfl
 cases e
 obtain ⟨_,_,e,_,c5⟩:=hat 5 _ (by omega) rfl
 cases e
 have ht:=hf.term b (List.mem_of_getElem? hb)
 exact ⟨g,off,_,_,_,rfl,hg,c0,c1,c2,c3,c4,c5,h.phis hf hb,h.code hf hb,(h (.ends k) _ (by simp only [rowOf,hb];rfl)).ints,ht⟩
end
theorem BlocksR.fits {w:World} {B:Nat} {v:Value} {f:FuncM} (h:BlocksR w B v f.blocks):FnFits f:=by
 obtain ⟨A,c,_,_,hx⟩:=h
 refine ⟨fun b hb p hp => ?_,fun b hb x hx2 => ?_,fun b hb => ?_⟩
 ·obtain ⟨k,hk⟩:=List.getElem?_of_mem hb
  obtain ⟨_,_,_,_,_,_,_,_,_,_,_,_,_,hph,_⟩:=hx k b hk
  obtain ⟨_,_,_,_,hpx⟩:=hph
  obtain ⟨i,hi⟩:=List.getElem?_of_mem hp
  obtain ⟨_,_,_,_,_,_,_,_,_,_,_,_,r⟩:=hpx i p hi
  exact r
 ·obtain ⟨k,hk⟩:=List.getElem?_of_mem hb
  obtain ⟨_,_,_,_,_,_,_,_,_,_,_,_,_,_,hco,_⟩:=hx k b hk
  obtain ⟨_,_,_,_,hcx⟩:=hco
  obtain ⟨i,hi⟩:=List.getElem?_of_mem hx2
  obtain ⟨_,_,_,_,_,_,_,_,_,_,r⟩:=hcx i x hi
  exact r
 ·obtain ⟨k,hk⟩:=List.getElem?_of_mem hb
  obtain ⟨_,_,_,_,_,_,_,_,_,_,_,_,_,_,_,_,r⟩:=hx k b hk
  exact r
end Go.Proofs.YtkaifkjbmdcmlaaGreat

namespace Go.Proofs.YtkaifkjbmdcmlaaGreat
open Go.RowKit
theorem phi_info:(Tryz.prog.info? 119).map (fun i => (i.zero,i.size,i.bytes))=some (some (.agg #[.int .i64 0,.int .i64 0,.slice none 0 0,.slice none 0 0]),4,64):=by kernel_rfl
theorem instr_info:(Tryz.prog.info? 76).map (fun i => (i.zero,i.size,i.bytes))=some (some (.agg #[.int .i64 0,.int .i64 0,.slice none 0 0,.int .i64 0]),4,48):=by kernel_rfl
theorem block_info:(Tryz.prog.info? 51).map (fun i => (i.zero,i.size,i.bytes))=some (some (.agg #[.slice none 0 0,.slice none 0 0,.int .i64 0,.int .i64 0,.slice none 0 0,.int .i64 0]),6,96):=by kernel_rfl
def ListPost (e0:TypeId) (s:Nat) (d:RowD) (w:World) (e:Ending) (w':World):Prop :=
 ∃ v',e=.returned v' ∧ w'.ownsRow w.heap.size e0 s v' d.len d.cells ∧ Below w.heap.size w w'
set_option maxRecDepth 100000 in
set_option maxHeartbeats 1000000 in
theorem listInt_any (d:RowD) (B:Nat) (v:Value) (w:World) (hx:RowR w B v d) (hl:d.cells.length=d.len * 1) (hn:d.len ≤ 100000) (h1:∀ u ∈ d.cells,u.oneCell'=true) :
  Calls Tryz.prog 115 #[v] w (ListPost 3 1 d w):=by
 obtain ⟨A,c,rfl,hm,hcell⟩:=hx
 have HC:=hideI hcell
 have HL:=hideI hl
 have H1:=hideI h1
 obtain ⟨n,hN⟩:∃ n,n=d.len:=⟨_,rfl⟩
 have HN:=hideI hN
 rw [← hN] at hn hl ⊢
 obtain ⟨i0,hix,hz0,hz1,hz2⟩:=info_parts int_info
 clear hcell h1
 rcases Nat.eq_zero_or_pos n with rfl | hpos
 ·have hnil:d.cells=[]:=List.eq_nil_of_length_eq_zero (by omega)
  have HNIL:=hideI hnil
  have hpure:Sem.run Tryz.prog (pure (#[]:Array Value)) w=.ok #[] w:=rfl
  clear hl hN hnil
  cases A
  all_goals
   go_enter Tryz.func115,Tryz.ntmps115
   go_wp2
   go_ret
   exact ⟨.slice none 0 0,rfl,by rw [HNIL.out,← HN.out];exact World.ownsRow_nil _ _ _ _,Below.refl _ _⟩
 ·obtain ⟨u,hu⟩:∃ u,d.cells[0]?=some u:=⟨_,List.getElem?_eq_getElem (by omega)⟩
  obtain ⟨b,off,rfl,hb,_⟩:=HC.out 0 u hu
  have HR:Hid (∀ j u,d.cells[j]?=some u → w.cell? ((⟨b,off,none⟩:Addr).add j)=some u):=fun j u hu => by
   obtain ⟨b',off',e,_,h⟩:=HC.out j u hu
   cases e
   rw [Go.WideShapes.add_plain]
   exact h
  have HLN:Hid (d.cells.length=n * 1):=hl
  clear hu hl hN
  go_enter Tryz.func115,Tryz.ntmps115
  go_wp2_with (at_builtin;go_must (refine wpList_append_own _ rfl _ _ _ rfl w.heap.size 3 i0 _ 1 8 Tryz.underlying22 hix hz0 hz1 hz2 rfl (by decide) _ 0 [] rfl (World.ownsRow_nil _ _ _ _) ⟨b,off,none⟩ n c d.cells rfl HLN.out HR.out H1.out (by unfold maxLen;omega) (by omega) (Nat.le_refl _) ?_);intro v1 w1 hown1 hg1 _;have HO1:=hideI hown1;have HG1:=hideI hg1;clear hown1 hg1)
  go_ret
  refine ⟨v1,rfl,?_,⟨HG1.out.os,HG1.out.tape,HG1.out.output,HG1.out.size,fun k hk => HG1.out.block k hk (fun e => by simp [Value.ownBlock,Act.eval] at e)⟩⟩
  have:=HO1.out
  rw [Nat.zero_add,List.nil_append] at this
  rw [← HN.out]
  exact this
set_option maxRecDepth 100000 in
set_option maxHeartbeats 1000000 in
theorem listPhi_any (d:RowD) (B:Nat) (v:Value) (w:World) (hx:RowR w B v d) (hl:d.cells.length=d.len * 4) (hn:d.len ≤ 100000) (h1:∀ u ∈ d.cells,u.oneCell'=true) :
  Calls Tryz.prog 152 #[v] w (ListPost 119 4 d w):=by
 obtain ⟨A,c,rfl,hm,hcell⟩:=hx
 have HC:=hideI hcell
 have HL:=hideI hl
 have H1:=hideI h1
 obtain ⟨n,hN⟩:∃ n,n=d.len:=⟨_,rfl⟩
 have HN:=hideI hN
 rw [← hN] at hn hl ⊢
 obtain ⟨i0,hix,hz0,hz1,hz2⟩:=info_parts phi_info
 clear hcell h1
 rcases Nat.eq_zero_or_pos n with rfl | hpos
 ·have hnil:d.cells=[]:=List.eq_nil_of_length_eq_zero (by omega)
  have HNIL:=hideI hnil
  have hpure:Sem.run Tryz.prog (pure (#[]:Array Value)) w=.ok #[] w:=rfl
  clear hl hN hnil
  cases A
  all_goals
   go_enter Tryz.func152,Tryz.ntmps152
   go_wp2
   go_ret
   exact ⟨.slice none 0 0,rfl,by rw [HNIL.out,← HN.out];exact World.ownsRow_nil _ _ _ _,Below.refl _ _⟩
 ·obtain ⟨u,hu⟩:∃ u,d.cells[0]?=some u:=⟨_,List.getElem?_eq_getElem (by omega)⟩
  obtain ⟨b,off,rfl,hb,_⟩:=HC.out 0 u hu
  have HR:Hid (∀ j u,d.cells[j]?=some u → w.cell? ((⟨b,off,none⟩:Addr).add j)=some u):=fun j u hu => by
   obtain ⟨b',off',e,_,h⟩:=HC.out j u hu
   cases e
   rw [Go.WideShapes.add_plain]
   exact h
  have HLN:Hid (d.cells.length=n * 4):=hl
  clear hu hl hN
  go_enter Tryz.func152,Tryz.ntmps152
  go_wp2_with (at_builtin;go_must (refine wpList_append_own _ rfl _ _ _ rfl w.heap.size 119 i0 _ 4 64 Tryz.underlying46 hix hz0 hz1 hz2 rfl (by decide) _ 0 [] rfl (World.ownsRow_nil _ _ _ _) ⟨b,off,none⟩ n c d.cells rfl HLN.out HR.out H1.out (by unfold maxLen;omega) (by omega) (Nat.le_refl _) ?_);intro v1 w1 hown1 hg1 _;have HO1:=hideI hown1;have HG1:=hideI hg1;clear hown1 hg1)
  go_ret
  refine ⟨v1,rfl,?_,⟨HG1.out.os,HG1.out.tape,HG1.out.output,HG1.out.size,fun k hk => HG1.out.block k hk (fun e => by simp [Value.ownBlock,Act.eval] at e)⟩⟩
  have:=HO1.out
  rw [Nat.zero_add,List.nil_append] at this
  rw [← HN.out]
  exact this
set_option maxRecDepth 100000 in
set_option maxHeartbeats 1000000 in
theorem listInstr_any (d:RowD) (B:Nat) (v:Value) (w:World) (hx:RowR w B v d) (hl:d.cells.length=d.len * 4) (hn:d.len ≤ 100000) (h1:∀ u ∈ d.cells,u.oneCell'=true) :
  Calls Tryz.prog 153 #[v] w (ListPost 76 4 d w):=by
 obtain ⟨A,c,rfl,hm,hcell⟩:=hx
 have HC:=hideI hcell
 have HL:=hideI hl
 have H1:=hideI h1
 obtain ⟨n,hN⟩:∃ n,n=d.len:=⟨_,rfl⟩
 have HN:=hideI hN
 rw [← hN] at hn hl ⊢
 obtain ⟨i0,hix,hz0,hz1,hz2⟩:=info_parts instr_info
 clear hcell h1
 rcases Nat.eq_zero_or_pos n with rfl | hpos
 ·have hnil:d.cells=[]:=List.eq_nil_of_length_eq_zero (by omega)
  have HNIL:=hideI hnil
  have hpure:Sem.run Tryz.prog (pure (#[]:Array Value)) w=.ok #[] w:=rfl
  clear hl hN hnil
  cases A
  all_goals
   go_enter Tryz.func153,Tryz.ntmps153
   go_wp2
   go_ret
   exact ⟨.slice none 0 0,rfl,by rw [HNIL.out,← HN.out];exact World.ownsRow_nil _ _ _ _,Below.refl _ _⟩
 ·obtain ⟨u,hu⟩:∃ u,d.cells[0]?=some u:=⟨_,List.getElem?_eq_getElem (by omega)⟩
  obtain ⟨b,off,rfl,hb,_⟩:=HC.out 0 u hu
  have HR:Hid (∀ j u,d.cells[j]?=some u → w.cell? ((⟨b,off,none⟩:Addr).add j)=some u):=fun j u hu => by
   obtain ⟨b',off',e,_,h⟩:=HC.out j u hu
   cases e
   rw [Go.WideShapes.add_plain]
   exact h
  have HLN:Hid (d.cells.length=n * 4):=hl
  clear hu hl hN
  go_enter Tryz.func153,Tryz.ntmps153
  go_wp2_with (at_builtin;go_must (refine wpList_append_own _ rfl _ _ _ rfl w.heap.size 76 i0 _ 4 48 Tryz.underlying47 hix hz0 hz1 hz2 rfl (by decide) _ 0 [] rfl (World.ownsRow_nil _ _ _ _) ⟨b,off,none⟩ n c d.cells rfl HLN.out HR.out H1.out (by unfold maxLen;omega) (by omega) (Nat.le_refl _) ?_);intro v1 w1 hown1 hg1 _;have HO1:=hideI hown1;have HG1:=hideI hg1;clear hown1 hg1)
  go_ret
  refine ⟨v1,rfl,?_,⟨HG1.out.os,HG1.out.tape,HG1.out.output,HG1.out.size,fun k hk => HG1.out.block k hk (fun e => by simp [Value.ownBlock,Act.eval] at e)⟩⟩
  have:=HO1.out
  rw [Nat.zero_add,List.nil_append] at this
  rw [← HN.out]
  exact this
set_option maxRecDepth 100000 in
set_option maxHeartbeats 1000000 in
theorem listBlock_any (d:RowD) (B:Nat) (v:Value) (w:World) (hx:RowR w B v d) (hl:d.cells.length=d.len * 6) (hn:d.len ≤ 100000) (h1:∀ u ∈ d.cells,u.oneCell'=true) :
  Calls Tryz.prog 116 #[v] w (ListPost 51 6 d w):=by
 obtain ⟨A,c,rfl,hm,hcell⟩:=hx
 have HC:=hideI hcell
 have HL:=hideI hl
 have H1:=hideI h1
 obtain ⟨n,hN⟩:∃ n,n=d.len:=⟨_,rfl⟩
 have HN:=hideI hN
 rw [← hN] at hn hl ⊢
 obtain ⟨i0,hix,hz0,hz1,hz2⟩:=info_parts block_info
 clear hcell h1
 rcases Nat.eq_zero_or_pos n with rfl | hpos
 ·have hnil:d.cells=[]:=List.eq_nil_of_length_eq_zero (by omega)
  have HNIL:=hideI hnil
  have hpure:Sem.run Tryz.prog (pure (#[]:Array Value)) w=.ok #[] w:=rfl
  clear hl hN hnil
  cases A
  all_goals
   go_enter Tryz.func116,Tryz.ntmps116
   go_wp2
   go_ret
   exact ⟨.slice none 0 0,rfl,by rw [HNIL.out,← HN.out];exact World.ownsRow_nil _ _ _ _,Below.refl _ _⟩
 ·obtain ⟨u,hu⟩:∃ u,d.cells[0]?=some u:=⟨_,List.getElem?_eq_getElem (by omega)⟩
  obtain ⟨b,off,rfl,hb,_⟩:=HC.out 0 u hu
  have HR:Hid (∀ j u,d.cells[j]?=some u → w.cell? ((⟨b,off,none⟩:Addr).add j)=some u):=fun j u hu => by
   obtain ⟨b',off',e,_,h⟩:=HC.out j u hu
   cases e
   rw [Go.WideShapes.add_plain]
   exact h
  have HLN:Hid (d.cells.length=n * 6):=hl
  clear hu hl hN
  go_enter Tryz.func116,Tryz.ntmps116
  go_wp2_with (at_builtin;go_must (refine wpList_append_own _ rfl _ _ _ rfl w.heap.size 51 i0 _ 6 96 Tryz.underlying23 hix hz0 hz1 hz2 rfl (by decide) _ 0 [] rfl (World.ownsRow_nil _ _ _ _) ⟨b,off,none⟩ n c d.cells rfl HLN.out HR.out H1.out (by unfold maxLen;omega) (by omega) (Nat.le_refl _) ?_);intro v1 w1 hown1 hg1 _;have HO1:=hideI hown1;have HG1:=hideI hg1;clear hown1 hg1)
  go_ret
  refine ⟨v1,rfl,?_,⟨HG1.out.os,HG1.out.tape,HG1.out.output,HG1.out.size,fun k hk => HG1.out.block k hk (fun e => by simp [Value.ownBlock,Act.eval] at e)⟩⟩
  have:=HO1.out
  rw [Nat.zero_add,List.nil_append] at this
  rw [← HN.out]
  exact this
end Go.Proofs.YtkaifkjbmdcmlaaGreat

namespace Go.Proofs.YtkaifkjbmdcmlaaGreat
open Go.RowKit
def ListPost' (e0:TypeId) (s:Nat) (d:RowD) (w:World) (e:Ending) (w':World):Prop :=
 ∃ A c,e=.returned (.slice A d.len c) ∧ w'.ownsRow w.heap.size e0 s (.slice A d.len c) d.len d.cells ∧ Below w.heap.size w w'
theorem ListPost.form {e0:TypeId} {s:Nat} {d:RowD} {w w':World} {e:Ending} (h:ListPost e0 s d w e w'):ListPost' e0 s d w e w':=by
 obtain ⟨v,rfl,hown,hb⟩:=h
 rcases hown.2 with ⟨hv,h0⟩ | ⟨g,cap,cur,hv,_⟩
 ·exact ⟨none,0,by rw [hv,h0],by rw [h0] at hown ⊢;rw [← hv];exact hown,hb⟩
 ·exact ⟨_,_,by rw [hv],by rw [← hv];exact hown,hb⟩
theorem free_row' {w w':World} {g:Nat} {cs:Array Value} {t:TypeId} (h:w.heap[g]?=some (.cells cs t (0,0))) (hk:w'.heap[g]?=w.heap[g]?):∀ o,w'.frozen? ⟨g,o,none⟩=false:=by
 intro o
 simp [World.frozen?,hk,h]
def upd {α:Type} (g:Tag → α) (t0:Tag) (a:α):Tag → α:=fun t => if t=t0 then a else g t
theorem upd_same {α:Type} (g:Tag → α) (t0:Tag) (a:α):upd g t0 a t0=a:=by unfold upd;rw [if_pos rfl]
theorem upd_ne {α:Type} (g:Tag → α) {t0 t:Tag} (a:α) (h:t ≠ t0):upd g t0 a t=g t:=by unfold upd;rw [if_neg h]
abbrev Rows:=Tag → Option RowD
structure OwnG (w:World) (base:Nat) (row:Rows) (val:Vals) (D:Tag → Prop):Prop where
 has:∀ t,D t → (row t).isSome=true
 rows:∀ t d,D t → row t=some d → w.ownsRow base d.elem d.size (val t) d.len d.cells
 apart:∀ t t' g,D t → D t' → (val t).ownBlock=some g → (val t').ownBlock=some g → t=t'
variable {w w1:World} {base:Nat} {row:Rows} {val:Vals} {D:Tag → Prop}
theorem OwnG.nothing (w:World) (base:Nat) (row:Rows) (val:Vals):OwnG w base row val (fun _ => False):=⟨fun _ h => h.elim,fun _ _ h => h.elim,fun _ _ _ h => h.elim⟩
theorem OwnG.lt (h:OwnG w base row val D) {t:Tag} {g:Nat} (ht:D t) (hg:(val t).ownBlock=some g):base ≤ g ∧ g < w.heap.size:=by
 obtain ⟨d,hd⟩:=Option.isSome_iff_exists.1 (h.has t ht)
 exact (h.rows t d ht hd).lt g hg
theorem OwnG.kept (h:OwnG w base row val D) (hk:∀ b,base ≤ b → b < w.heap.size → w1.heap[b]?=w.heap[b]?):OwnG w1 base row val D:=by
 refine ⟨h.has,fun t d ht hd => ?_,h.apart⟩
 have h0:=h.rows t d ht hd
 refine ⟨h0.1,?_⟩
 rcases h0.2 with h2 | ⟨g,cap,cur,hv,hb,hg,r⟩
 ·exact .inl h2
 ·exact .inr ⟨g,cap,cur,hv,hb,(hk g hb (Array.getElem?_eq_some_iff.1 hg).1).trans hg,r⟩
theorem OwnG.below (h:OwnG w base row val D) (hb:Below w.heap.size w w1):OwnG w1 base row val D:=h.kept fun b _ hl => hb.block b hl
theorem OwnG.other (h:OwnG w base row val D) {a:Addr} {u:Value} (ha:∀ t,D t → (val t).ownBlock ≠ some a.block):OwnG (w.setCell a u) base row val D :=
 ⟨h.has,fun t d ht hd => ownsRow_setCell_other (h.rows t d ht hd) (ha t ht) u,h.apart⟩
theorem OwnG.congr {row':Rows} {val':Vals} {D':Tag → Prop} (h:OwnG w base row val D) (hr:∀ t,D' t → row' t=row t) (hv:∀ t,D' t → val' t=val t) (hD:∀ t,D' t → D t):OwnG w base row' val' D' :=
 ⟨fun t ht => by rw [hr t ht];exact h.has t (hD t ht),fun t d ht hd => by rw [hv t ht];exact h.rows t d (hD t ht) (by rw [← hr t ht];exact hd),
  fun t t' g ht ht' h1 h2 => h.apart t t' g (hD t ht) (hD t' ht') (by rw [← hv t ht];exact h1) (by rw [← hv t' ht'];exact h2)⟩
theorem OwnG.add {t0:Tag} {d:RowD} {v:Value} (h:OwnG w base row val D) (hn:¬ D t0) (hb:Below w.heap.size w w1) (hown:w1.ownsRow w.heap.size d.elem d.size v d.len d.cells) (hbase:base ≤ w.heap.size) :
  OwnG w1 base (upd row t0 (some d)) (upd val t0 v) (fun t => D t ∨ t=t0):=by
 have h1:=h.below hb
 refine ⟨fun t ht => ?_,fun t d' ht hd => ?_,fun t t' g ht ht' e1 e2 => ?_⟩
 ·by_cases e:t=t0
  ·subst e;rw [upd_same];rfl
  ·rw [upd_ne _ _ e];exact h.has t (ht.resolve_right e)
 ·by_cases e:t=t0
  ·subst e
   rw [upd_same] at hd ⊢
   cases hd
   exact World.ownsRow.mono hown hbase
  ·rw [upd_ne _ _ e] at hd ⊢
   exact h1.rows t d' (ht.resolve_right e) hd
 ·by_cases e:t=t0
  ·by_cases e':t'=t0
   ·rw [e,e']
   ·subst e
    rw [upd_same] at e1
    rw [upd_ne _ _ e'] at e2
    have:=(hown.lt g e1).1
    have:=(h.lt (ht'.resolve_right e') e2).2
    omega
  ·by_cases e':t'=t0
   ·subst e'
    rw [upd_same] at e2
    rw [upd_ne _ _ e] at e1
    have:=(hown.lt g e2).1
    have:=(h.lt (ht.resolve_right e) e1).2
    omega
   ·rw [upd_ne _ _ e] at e1
    rw [upd_ne _ _ e'] at e2
    exact h.apart t t' g (ht.resolve_right e) (ht'.resolve_right e') e1 e2
theorem OwnG.set {tp:Tag} {d:RowD} {g n cap j:Nat} {u:Value} (h:OwnG w base row val D) (hp:D tp) (hd:row tp=some d) (hv:val tp=.slice (some ⟨g,0,none⟩) n cap) (hn:d.len=n) :
  OwnG (w.setCell ⟨g,j,none⟩ u) base (upd row tp (some { d with cells:=d.cells.set j u })) val D:=by
 have h0:=h.rows tp d hp hd
 rw [hv,hn] at h0
 have hs:=h0.stored j u
 have hg:(val tp).ownBlock=some g:=by rw [hv];rfl
 refine ⟨fun t ht => ?_,fun t d' ht hd' => ?_,h.apart⟩
 ·by_cases e:t=tp
  ·subst e;rw [upd_same];rfl
  ·rw [upd_ne _ _ e];exact h.has t ht
 ·by_cases e:t=tp
  ·subst e
   rw [upd_same] at hd'
   cases hd'
   rw [hv,hn]
   exact hs.1
  ·rw [upd_ne _ _ e] at hd'
   refine (h.rows t d' ht hd').kept hs.2 (.inr fun e2 => e (h.apart t tp g ht hp e2 hg))
theorem OwnG.cell {tp:Tag} {d:RowD} {g n cap j:Nat} (h:OwnG w base row val D) (hp:D tp) (hd:row tp=some d) (hv:val tp=.slice (some ⟨g,0,none⟩) n cap) (hn:d.len=n) (hj:j < n * d.size) :
  w.cell? ⟨g,j,none⟩=d.cells[j]? ∧ w.frozen? ⟨g,j,none⟩=false:=by
 have h0:=h.rows tp d hp hd
 rw [hv,hn] at h0
 exact ⟨World.ownsRow.cellAt h0 j hj,World.ownsRow.frozenAt h0 j⟩
theorem OwnG.slice {tp:Tag} {d:RowD} (h:OwnG w base row val D) (hp:D tp) (hd:row tp=some d) (h0:0 < d.len):∃ g cap,val tp=.slice (some ⟨g,0,none⟩) d.len cap ∧ base ≤ g ∧ g < w.heap.size :=
 (h.rows tp d hp hd).form h0
def blkOf:Tag → Option Nat
 | .params => none
 | .blocks => none
 | .phis k => some k
 | .code k => some k
 | .ends k => some k
 | .fr k _ => some k
 | .vals k _ => some k
 | .args k _ => some k
theorem rowOf_some (f:FuncM) (val val':Vals) (t:Tag):(rowOf f val t).isSome=(rowOf f val' t).isSome:=by
 cases t <;> simp [rowOf]
section
variable {α:Type} {g g':Nat → α → List Value} {s:Nat}
theorem cellsOf_set (hs:∀ i a,(g i a).length=s) (hs':∀ i a,(g' i a).length=s) {l:List α} {i r:Nat} {u:Value} (_hi:i < l.length) (hr:r < s) (h1:∀ k a,l[k]?=some a → k ≠ i → g' k a=g k a) (h2:∀ a,l[i]?=some a → g' i a=(g i a).set r u) :
  (cellsOf g 0 l).set (i * s + r) u=cellsOf g' 0 l:=by
 apply List.ext_getElem?
 intro j
 by_cases hj:j < l.length * s
 ·have hs0:0 < s:=by omega
  have hk:j / s < l.length:=(Nat.div_lt_iff_lt_mul hs0).2 hj
  have hm:=Nat.mod_lt j hs0
  have e:j=j / s * s + j % s:=by rw [Nat.mul_comm];exact (Nat.div_add_mod j s).symm
  obtain ⟨a,ha⟩:∃ a,l[j / s]?=some a:=⟨_,List.getElem?_eq_getElem hk⟩
  have c1:=cellsOf_at hs l 0 (j / s) (j % s) _ ha hm
  have c2:=cellsOf_at hs' l 0 (j / s) (j % s) _ ha hm
  rw [← e,Nat.zero_add] at c1 c2
  rw [c2]
  by_cases ek:j / s=i
  ·rw [ek] at ha c1 ⊢
   rw [h2 _ ha]
   by_cases er:j % s=r
   ·have ej:j=i * s + r:=by rw [← ek,← er];exact e
    rw [ej,List.getElem?_set_self (by rw [cellsOf_len hs];rw [← ej];exact hj),← ej,er,List.getElem?_set_self (by rw [hs];exact hr)]
   ·have hne:i * s + r ≠ j:=fun e2 => er (by rw [← e2,Nat.add_comm,Nat.add_mul_mod_self_right];exact Nat.mod_eq_of_lt hr)
    rw [List.getElem?_set_ne hne,List.getElem?_set_ne (fun e2 => er e2.symm)]
    exact c1
  ·have hne:i * s + r ≠ j:=fun e2 => ek (by rw [← e2,Nat.add_comm,Nat.add_mul_div_right _ _ hs0,Nat.div_eq_of_lt hr,Nat.zero_add])
   rw [List.getElem?_set_ne hne,c1,h1 _ _ ha ek]
 ·rw [List.getElem?_eq_none (by rw [List.length_set,cellsOf_len hs];omega),List.getElem?_eq_none (by rw [cellsOf_len hs'];omega)]
end
end Go.Proofs.YtkaifkjbmdcmlaaGreat
