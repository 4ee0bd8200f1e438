/- What InterpSplits rests on, part 12: IFind, IMade, Panics, IMadeL, IMadeP, IDo. -/
import Derived.Test.YtkaifkjbmdcmlaaGreatPkInterpSplits11
import Derived.Deep.RegionHeld3
import Derived.Deep.QuietTactic
import Derived.BigQuiet
import Derived.Deep.RegionWith
import Derived.Deep.DeepCutAuto
import Derived.Deep.CutRange
import Derived.Deep.Light

namespace Go.Proofs.YtkaifkjbmdcmlaaGreat
open Go.RowKit Go.Maps
section
variable {c:MachC} {K:Nat → Prop} {w:World} {val:MVals} {s:StM}
structure ArrAt (c:MachC) (w:World) (val:MVals) (s:StM) (k:Nat) (a:List Int) (ga ca:Nat) (A:Option Addr) (cp:Nat):Prop where
 arrs:val .arrs=.slice (some ⟨ga,0,none⟩) s.arrs.length ca
 at_:w.cell? ⟨ga,k,none⟩=some (.slice A a.length cp)
 own:val (.arr k)=.slice A a.length cp
 ne:ga ≠ c.m
 lt:ga < w.heap.size
 klt:k < s.arrs.length
theorem MachR.arrAt (h:MachR c K w val s) {k:Nat} {a:List Int} (hk:s.arrs[k]?=some a):∃ ga ca A cp,ArrAt c w val s k a ga ca A cp:=by
 have hlt:=(List.getElem?_eq_some_iff.1 hk).1
 have hr:mRow s c.nv val .arrs=some ⟨22,s.arrs.length,(List.range s.arrs.length).map fun i => val (.arr i)⟩:=rfl
 obtain ⟨ga,ca,hv⟩:=h.slice hr (by show 0 < s.arrs.length;omega)
 have hra:mRow s c.nv val (.arr k)=some (intRow a):=by simp [mRow,hk]
 have hrow:=h.rows _ _ hra
 obtain ⟨A,cp,hA⟩:∃ A cp,val (.arr k)=.slice A a.length cp:=by
  rcases hrow.2 with ⟨e,e0⟩ | ⟨g,cap,cur,e,_⟩
  ·exact ⟨none,0,by rw [e];congr 1;exact e0.symm⟩
  ·exact ⟨_,_,e⟩
 have hc:=h.cell hr hv (j:=k) hlt
 refine ⟨ga,ca,A,cp,hv,?_,hA,(h.off .arrs _ ga hr (by rw [hv];rfl)).1,h.own_lt hr (by rw [hv];rfl),hlt⟩
 rw [hc.1]
 simp [hlt,hA]
theorem miss_no {op:Int} (h1:¬ op=19) (h2:¬ op=20):missM op=(5,0,0):=by
 unfold missM
 rw [if_neg]
 rintro (e | e)
 ·exact h1 e
 ·exact h2 e
theorem look_no {op:Int} (h1:¬ op=19) (h2:¬ op=20) (s:StM):lookS op s=s:=by
 unfold lookS
 rw [if_neg]
 rintro (e | e)
 ·exact h1 e
 ·exact h2 e
set_option maxRecDepth 100000 in
set_option maxHeartbeats 1000000 in
theorem find_ok (h:MachR c K w val s) {k:Nat} {a:List Int} (hk:s.arrs[k]?=some a) (op id:Int) (av:Value) (i:Nat) (hi:i < a.length) :
  Calls Tryz.prog 145 #[.pointer (some ⟨c.m,0,none⟩),.agg #[.int .i64 op,.int .i64 id,av,.int .i64 k],.int .i64 i] w fun e w' => e=.returned (.tuple #[]) ∧ MachR c K w' val (lookS op s) ∧ KF K w w':=by
 obtain ⟨ga,ca,A,cp,X⟩:=h.arrAt hk
 have H:=hideI h
 have hml:=h.m_lt
 have hx0:=h.cells
 have c4:=hx0 4
 have c6:=hx0 6
 have fr:=h.free 6
 simp only [machCells] at c4 c6
 rw [X.arrs] at c4
 have a0:=X.at_
 have a1:=X.ne
 have a1':c.m ≠ ga:=fun e => a1 e.symm
 have a2:=X.lt
 have a3:=X.klt
 obtain ⟨na,hna⟩:∃ na,na=s.arrs.length:=⟨_,rfl⟩
 obtain ⟨la,hla⟩:∃ la,la=a.length:=⟨_,rfl⟩
 rw [← hna] at c4 a3
 rw [← hla] at a0 hi
 have HAL:Hid (∀ (W:World) (t:StM) (o:Obj) (n:Nat),MachR c K W val t ∧ KF K w W → MachR c K ((W.alloc o).drewN n) val t ∧ KF K w ((W.alloc o).drewN n)):=hideI fun W t o n hW => ⟨(hW.1.below ((Below.refl W.heap.size W).alloc (Nat.le_refl _) o)).drewN n,KF.drewN (hW.2.alloc H.out.low o) n⟩
 clear hx0 h X hk hna hla
 have hi0:decide ((0:Int) ≤ (i:Int))=true:=by simp
 by_cases e19:op=19
 ·subst e19
  go_enter Tryz.func145,Tryz.ntmps145
  go_wp2
  go_quiet (fail)
  go_wp2
  go_end0
  exact ⟨rfl,HAL.out _ _ _ _ (H.out.look (.inl rfl))⟩
 by_cases e20:op=20
 ·subst e20
  go_enter Tryz.func145,Tryz.ntmps145
  go_wp2
  go_quiet (fail)
  go_wp2
  go_end0
  exact ⟨rfl,HAL.out _ _ _ _ (H.out.look (.inr rfl))⟩
 have d19:(op == 19)=false:=by simpa using e19
 have d20:(op == 20)=false:=by simpa using e20
 have HE:Hid (lookS op s=s):=hideI (look_no e19 e20 s)
 have HE2:Hid (missM op=(5,0,0)):=hideI (miss_no e19 e20)
 clear e19 e20
 go_enter Tryz.func145,Tryz.ntmps145
 go_wp2
 go_quiet (fail)
 go_wp2
 go_end0
 rw [HE.out]
 exact ⟨rfl,HAL.out _ _ _ _ ⟨H.out,KF.refl _⟩⟩
set_option maxRecDepth 100000 in
set_option maxHeartbeats 1000000 in
theorem find_neg (h:MachR c K w val s) {k:Nat} {a:List Int} (hk:s.arrs[k]?=some a) (op id:Int) (av:Value) (i:Int) (hi:¬ (0:Int) ≤ i) :
  Calls Tryz.prog 145 #[.pointer (some ⟨c.m,0,none⟩),.agg #[.int .i64 op,.int .i64 id,av,.int .i64 k],.int .i64 i] w fun e w' => e=endE (missM op) ∧ MachR c K w' val (lookS op s) ∧ KF K w w':=by
 obtain ⟨ga,ca,A,cp,X⟩:=h.arrAt hk
 have H:=hideI h
 have hml:=h.m_lt
 have hx0:=h.cells
 have c4:=hx0 4
 have c6:=hx0 6
 have fr:=h.free 6
 simp only [machCells] at c4 c6
 rw [X.arrs] at c4
 have a0:=X.at_
 have a1:=X.ne
 have a1':c.m ≠ ga:=fun e => a1 e.symm
 have a2:=X.lt
 have a3:=X.klt
 obtain ⟨na,hna⟩:∃ na,na=s.arrs.length:=⟨_,rfl⟩
 obtain ⟨la,hla⟩:∃ la,la=a.length:=⟨_,rfl⟩
 rw [← hna] at c4 a3
 rw [← hla] at a0
 have HAL:Hid (∀ (W:World) (t:StM) (o:Obj) (n:Nat),MachR c K W val t ∧ KF K w W → MachR c K ((W.alloc o).drewN n) val t ∧ KF K w ((W.alloc o).drewN n)):=hideI fun W t o n hW => ⟨(hW.1.below ((Below.refl W.heap.size W).alloc (Nat.le_refl _) o)).drewN n,KF.drewN (hW.2.alloc H.out.low o) n⟩
 clear hx0 h X hk hna hla
 have hi0:decide ((0:Int) ≤ i)=false:=by simpa using hi
 clear hi
 by_cases e19:op=19
 ·subst e19
  go_enter Tryz.func145,Tryz.ntmps145
  go_wp2
  go_quiet (fail)
  go_wp2_with (go_at_call 148;refine (trap_any _ _ _).mono ?_;rintro e w1 ⟨he,rfl⟩;simp only [endE,endV] at he;subst he)
  exact ⟨rfl,rfl,HAL.out _ _ _ _ (H.out.look (.inl rfl))⟩
 by_cases e20:op=20
 ·subst e20
  go_enter Tryz.func145,Tryz.ntmps145
  go_wp2
  go_quiet (fail)
  go_wp2_with (go_at_call 148;refine (trap_any _ _ _).mono ?_;rintro e w1 ⟨he,rfl⟩;simp only [endE,endV] at he;subst he)
  exact ⟨rfl,rfl,HAL.out _ _ _ _ (H.out.look (.inr rfl))⟩
 have d19:(op == 19)=false:=by simpa using e19
 have d20:(op == 20)=false:=by simpa using e20
 have HE:Hid (lookS op s=s):=hideI (look_no e19 e20 s)
 have HE2:Hid (missM op=(5,0,0)):=hideI (miss_no e19 e20)
 clear e19 e20
 go_enter Tryz.func145,Tryz.ntmps145
 go_wp2
 go_quiet (fail)
 go_wp2
 rw [HE.out,HE2.out]
 exact ⟨rfl,rfl,HAL.out _ _ _ _ ⟨H.out,KF.refl _⟩⟩
set_option maxRecDepth 100000 in
set_option maxHeartbeats 1000000 in
theorem find_far (h:MachR c K w val s) {k:Nat} {a:List Int} (hk:s.arrs[k]?=some a) (op id:Int) (av:Value) (i:Nat) (hi:a.length ≤ i) :
  Calls Tryz.prog 145 #[.pointer (some ⟨c.m,0,none⟩),.agg #[.int .i64 op,.int .i64 id,av,.int .i64 k],.int .i64 i] w fun e w' => e=endE (missM op) ∧ MachR c K w' val (lookS op s) ∧ KF K w w':=by
 obtain ⟨ga,ca,A,cp,X⟩:=h.arrAt hk
 have H:=hideI h
 have hml:=h.m_lt
 have hx0:=h.cells
 have c4:=hx0 4
 have c6:=hx0 6
 have fr:=h.free 6
 simp only [machCells] at c4 c6
 rw [X.arrs] at c4
 have a0:=X.at_
 have a1:=X.ne
 have a1':c.m ≠ ga:=fun e => a1 e.symm
 have a2:=X.lt
 have a3:=X.klt
 obtain ⟨na,hna⟩:∃ na,na=s.arrs.length:=⟨_,rfl⟩
 obtain ⟨la,hla⟩:∃ la,la=a.length:=⟨_,rfl⟩
 rw [← hna] at c4 a3
 rw [← hla] at a0 hi
 have HAL:Hid (∀ (W:World) (t:StM) (o:Obj) (n:Nat),MachR c K W val t ∧ KF K w W → MachR c K ((W.alloc o).drewN n) val t ∧ KF K w ((W.alloc o).drewN n)):=hideI fun W t o n hW => ⟨(hW.1.below ((Below.refl W.heap.size W).alloc (Nat.le_refl _) o)).drewN n,KF.drewN (hW.2.alloc H.out.low o) n⟩
 clear hx0 h X hk hna hla
 have hi0:decide ((0:Int) ≤ (i:Int))=true:=by simp
 have hi1:decide ((i:Int) < (la:Int))=false:=by simp;omega
 have hi2:decide (i < la)=false:=by simp;omega
 have hi3:¬ i < la:=by omega
 clear hi
 by_cases e19:op=19
 ·subst e19
  go_enter Tryz.func145,Tryz.ntmps145
  go_wp2
  go_quiet (fail)
  go_wp2_with (go_at_call 148;refine (trap_any _ _ _).mono ?_;rintro e w1 ⟨he,rfl⟩;simp only [endE,endV] at he;subst he)
  exact ⟨rfl,rfl,HAL.out _ _ _ _ (H.out.look (.inl rfl))⟩
 by_cases e20:op=20
 ·subst e20
  go_enter Tryz.func145,Tryz.ntmps145
  go_wp2
  go_quiet (fail)
  go_wp2_with (go_at_call 148;refine (trap_any _ _ _).mono ?_;rintro e w1 ⟨he,rfl⟩;simp only [endE,endV] at he;subst he)
  exact ⟨rfl,rfl,HAL.out _ _ _ _ (H.out.look (.inr rfl))⟩
 have d19:(op == 19)=false:=by simpa using e19
 have d20:(op == 20)=false:=by simpa using e20
 have HE:Hid (lookS op s=s):=hideI (look_no e19 e20 s)
 have HE2:Hid (missM op=(5,0,0)):=hideI (miss_no e19 e20)
 clear e19 e20
 go_enter Tryz.func145,Tryz.ntmps145
 go_wp2
 go_quiet (fail)
 go_wp2
 rw [HE.out,HE2.out]
 exact ⟨rfl,rfl,HAL.out _ _ _ _ ⟨H.out,KF.refl _⟩⟩
theorem element_any (h:MachR c K w val s) {k:Nat} {a:List Int} (hk:s.arrs[k]?=some a) (op id:Int) (av:Value) (i:Int) :
  Calls Tryz.prog 145 #[.pointer (some ⟨c.m,0,none⟩),.agg #[.int .i64 op,.int .i64 id,av,.int .i64 k],.int .i64 i] w fun e w' =>
   (inArr s k i=true ∧ e=.returned (.tuple #[]) ∨ inArr s k i=false ∧ e=endE (missM op)) ∧ MachR c K w' val (lookS op s) ∧ KF K w w':=by
 have ha:arrM s k=a:=by unfold arrM;rw [List.getD_eq_getElem?_getD,Int.toNat_natCast,hk];rfl
 have hin:inArr s k i=(decide (0 ≤ i) && decide (i < (a.length:Int))):=by unfold inArr;rw [ha]
 rw [hin]
 by_cases h0:0 ≤ i
 ·obtain ⟨j,rfl⟩:=Int.eq_ofNat_of_zero_le h0
  by_cases hl:j < a.length
  ·exact (find_ok h hk op id av j hl).mono fun e w' ⟨e1,e2⟩ => ⟨.inl ⟨by simp [hl],e1⟩,e2⟩
  ·exact (find_far h hk op id av j (by omega)).mono fun e w' ⟨e1,e2⟩ => ⟨.inr ⟨by simp;omega,e1⟩,e2⟩
 ·exact (find_neg h hk op id av i h0).mono fun e w' ⟨e1,e2⟩ => ⟨.inr ⟨by simp [h0],e1⟩,e2⟩
end
end Go.Proofs.YtkaifkjbmdcmlaaGreat

namespace Go.Proofs.YtkaifkjbmdcmlaaGreat
open Go.RowKit Go.Maps
def ArgsAt (K:Nat → Prop) (w:World) (av:Value) (a:List Int):Prop :=
 a.length ≤ 1000 ∧ ∃ g cap,av=.slice (some ⟨g,0,none⟩) a.length cap ∧ K g ∧ ∀ j,j < a.length → w.cell? ⟨g,j,none⟩=some (.int .i64 (a[j]?.getD 0))
section
variable {c:MachC} {K:Nat → Prop} {w w':World} {val:MVals} {s:StM} {av:Value} {a:List Int}
theorem ArgsAt.kf (h:ArgsAt K w av a) (hk:KF K w w'):ArgsAt K w' av a:=by
 obtain ⟨h0,g,cap,h1,h2,h3⟩:=h
 exact ⟨h0,g,cap,h1,h2,fun j hj => (World.cell?_of_block (a:=⟨g,j,none⟩) (hk.block g h2)).trans (h3 j hj)⟩
theorem ArgsAt.ints (h:ArgsAt K w av a) (hl:∀ b,K b → b < w.heap.size):Ints w w.heap.size av a:=by
 obtain ⟨h0,g,cap,h1,h2,h3⟩:=h
 exact ⟨_,cap,h1,by omega,fun j hj => ⟨g,0,rfl,hl g h2,by rw [Nat.zero_add];exact h3 j hj⟩⟩
def MadePost (c:MachC) (K:Nat → Prop) (w:World) (val:MVals) (r:StM × (Int ⊕ EndM)) (e:Ending) (w':World):Prop :=
 e=(match r.2 with | .inl v => .returned (.int .i64 v) | .inr en => endE en) ∧ MachR c K w' val r.1 ∧ KF K w w'
def boxI (x:InstrM) (xv:Value):Value:=.agg #[.int .i64 x.op,.int .i64 x.id,xv,.int .i64 x.n]
set_option maxRecDepth 100000 in
theorem made_const (h:MachR c K w val s) (x:InstrM) (xv:Value) (ho:x.op=1 ∨ x.op=2) :
  Calls Tryz.prog 147 #[.pointer (some ⟨c.m,0,none⟩),boxI x xv,av] w (MadePost c K w val (madeM x a s)):=by
 have H:=hideI h
 have he:madeM x a s=(s,.inl x.n):=by unfold madeM;rw [if_pos ho]
 rw [he]
 clear h he
 obtain ⟨op,id,args,n⟩:=x
 simp only [boxI] at ho ⊢
 rcases ho with rfl | rfl
 ·go_enter Tryz.func147,Tryz.ntmps147
  go_wp2
  go_ret
  exact ⟨rfl,H.out.below ((Below.refl w.heap.size w).alloc (Nat.le_refl _) _),(KF.refl _).alloc H.out.low _⟩
 ·go_enter Tryz.func147,Tryz.ntmps147
  go_wp2
  go_ret
  exact ⟨rfl,H.out.below ((Below.refl w.heap.size w).alloc (Nat.le_refl _) _),(KF.refl _).alloc H.out.low _⟩
set_option maxRecDepth 100000 in
theorem made_len (h:MachR c K w val s) (id:Int) (xa:List Int) (k:Nat) (xv:Value) {r:List Int} (hk:s.arrs[k]?=some r) :
  Calls Tryz.prog 147 #[.pointer (some ⟨c.m,0,none⟩),boxI ⟨18,id,xa,k⟩ xv,av] w (MadePost c K w val (madeM ⟨18,id,xa,k⟩ a s)):=by
 obtain ⟨ga,ca,A,cp,X⟩:=h.arrAt hk
 have H:=hideI h
 have ha:arrM s k=r:=by unfold arrM;rw [List.getD_eq_getElem?_getD,Int.toNat_natCast,hk];rfl
 have he:madeM ⟨18,id,xa,k⟩ a s=(s,.inl r.length):=by unfold madeM;rw [if_neg (by simp),if_pos rfl];simp only;rw [ha]
 rw [he]
 have hml:=h.m_lt
 have c4:=h.cells 4
 simp only [machCells] at c4
 rw [X.arrs] at c4
 have a0:=X.at_
 have a1:=X.ne
 have a2:=X.lt
 have a3:=X.klt
 obtain ⟨na,hna⟩:∃ na,na=s.arrs.length:=⟨_,rfl⟩
 rw [← hna] at c4 a3
 simp only [boxI]
 obtain ⟨la,hla⟩:∃ la,la=r.length:=⟨_,rfl⟩
 rw [← hla] at a0 ⊢
 clear h he ha hna X hk hla
 go_enter Tryz.func147,Tryz.ntmps147
 go_wp2
 go_quiet (fail)
 go_wp2
 go_ret
 exact ⟨rfl,(H.out.below ((Below.refl w.heap.size w).alloc (Nat.le_refl _) _)).drewN nq,((KF.refl _).alloc H.out.low _).drewN nq⟩
set_option maxRecDepth 100000 in
theorem made_get (h:MachR c K w val s) (id:Int) (xa:List Int) (k:Nat) (xv:Value) (hk:k < s.cells.length) :
  Calls Tryz.prog 147 #[.pointer (some ⟨c.m,0,none⟩),boxI ⟨24,id,xa,k⟩ xv,av] w (MadePost c K w val (madeM ⟨24,id,xa,k⟩ a s)):=by
 have H:=hideI h
 have he:madeM ⟨24,id,xa,k⟩ a s=(s,.inl (s.cells.getD k 0)):=by unfold madeM;rw [if_neg (by simp),if_neg (by simp),if_neg (by simp),if_pos rfl];rfl
 rw [he]
 have hr:mRow s c.nv val .cells=some (intRow s.cells):=rfl
 obtain ⟨ga,ca,hv⟩:=h.slice hr (by show 0 < s.cells.length;omega)
 have a0:=(h.cell hr hv (j:=k) hk).1
 have hml:=h.m_lt
 have c12:=h.cells 12
 simp only [machCells] at c12
 rw [hv] at c12
 have e1:(intRow s.cells).len=s.cells.length:=rfl
 have e2:(intRow s.cells).cells[k]?=some (.int .i64 (s.cells.getD k 0)):=by
  show (s.cells.map _)[k]?=_
  rw [List.getElem?_map,List.getD_eq_getElem?_getD,List.getElem?_eq_getElem hk]
  rfl
 rw [e2] at a0
 rw [e1] at c12
 have a1:=(h.off .cells _ ga hr (by rw [hv];rfl)).1
 have a2:=h.own_lt hr (show (val .cells).ownBlock=some ga by rw [hv];rfl)
 obtain ⟨na,hna⟩:∃ na,na=s.cells.length:=⟨_,rfl⟩
 rw [← hna] at c12 hk
 simp only [boxI]
 generalize s.cells.getD k 0=y at a0 ⊢
 clear h he hr hv hna e1 e2
 go_enter Tryz.func147,Tryz.ntmps147
 go_wp2
 go_quiet (fail)
 go_wp2
 go_ret
 exact ⟨rfl,(H.out.below ((Below.refl w.heap.size w).alloc (Nat.le_refl _) _)).drewN nq,((KF.refl _).alloc H.out.low _).drewN nq⟩
end
end Go.Proofs.YtkaifkjbmdcmlaaGreat

namespace Go.Proofs.YtkaifkjbmdcmlaaGreat
open Go.RowKit
section
variable {P:Program} {ops:Array Oper} {w0:World}
def wpPure (P:Program) (ops:Array Oper) (w0:World) (Q:Act → Prop):List Oper → Act → Prop
 | [],a => Q a
 | o :: rest,a => if Region.wanted o (yielded ops a.tmps) then ∃ v,(∀ w,(∃ n,w=w0.drewN n) → (execOp a.eval o).run P w=.ok (.value v) w) ∧ wpPure P ops w0 Q rest (a.put o.dst v) else wpPure P ops w0 Q rest (a.put o.dst undef)
theorem wpPure_step {Q:Act → Prop} {a:Act} {o:Oper} {rest:List Oper}
  (h:∀ K:Act → Prop,(∀ a,wpPure P ops w0 Q rest a → K a) → if Region.wanted o (yielded ops a.tmps) then ∃ v,(∀ w,(∃ n,w=w0.drewN n) → (execOp a.eval o).run P w=.ok (.value v) w) ∧ K (a.put o.dst v) else K (a.put o.dst undef)) :
  wpPure P ops w0 Q (o :: rest) a:=h _ (fun _ h => h)
theorem wpPure_nil {Q:Act → Prop} {a:Act} (h:Q a):wpPure P ops w0 Q [] a:=h
def lexTo (ops:Array Oper):Nat → Nat → Array Bool → Bool
 | 0,k,listed => Region.ready .any ops listed == [k]
 | n + 1,k,listed => (Region.ready .any ops listed).contains k && Region.free .any ops listed k && lexTo ops n (k + 1) (listed.setIfInBounds k true)
theorem pure_lex {Q:Exit → Act → World → Prop} {o:Oper} (hs:Region.noSelect ops=true) (hQ:∀ c a w d v,Q (.panic c) (a.put d v) w → Q (.panic c) a w) (fuel:Nat) :
  ∀ (l:List Oper) (k:Nat) (listed:Array Bool) (a:Act) (w:World),(∀ j,j < l.length → l[j]?=ops[k + j]?) → ops[k + l.length]?=some o → lexTo ops l.length k listed=true → (∃ n,w=w0.drewN n) →
   wpPure P ops w0 (fun a' => ∀ (w':World),(∃ n,w'=w0.drewN n) → ∀ K':Act → World → Prop,if Region.wanted o (yielded ops a'.tmps) then Oper.wp P o a' w' K' Q else False) l a →
   wpAnyH P .any ops Q (fun w' => ∃ n,w'=w0.drewN n) (l.length + (fuel + 1)) listed a w
 | [],k,listed,a,w,_,ho,hB,hw,h => by
  have hB':Region.ready .any ops listed=[k]:=by simpa [lexTo] using hB
  rw [show ([]:List Oper).length + (fuel + 1)=fuel + 1 by simp]
  refine wpAnyH_ready hB' (by simp) (AllReadyH.cons (o:=o) (by simpa using ho) (fun K' _ => ?_) AllReadyH.nil)
  have h1:=h w hw K'
  split at h1
  ·rename_i hwant
   rw [if_pos hwant]
   exact h1
  ·exact h1.elim
 | o0 :: l,k,listed,a,w,hl,ho,hB,hw,h => by
  have h0:ops[k]?=some o0:=by simpa using (hl 0 (by simp)).symm
  simp only [List.length_cons,lexTo,Bool.and_eq_true] at hB
  obtain ⟨⟨hr,hf⟩,hB'⟩:=hB
  have go:∀ v,YieldsIf P ops (fun w' => ∃ n,w'=w0.drewN n) o0 v a → wpPure P ops w0 (fun a' => ∀ (w':World),(∃ n,w'=w0.drewN n) → ∀ K':Act → World → Prop,if Region.wanted o (yielded ops a'.tmps) then Oper.wp P o a' w' K' Q else False) l (a.put o0.dst v) →
    wpAnyH P .any ops Q (fun w' => ∃ n,w'=w0.drewN n) ((o0 :: l).length + (fuel + 1)) listed a w:=fun v hy hrest => by
   rw [show (o0 :: l).length + (fuel + 1)=(l.length + (fuel + 1)) + 1 by simp;omega]
   refine wpAnyH_first h0 (Region.noSelect_spec hs) (fun c a w h => hQ c a w _ _ h) _ listed a w (Region.free_spec h0 hf) (by simpa using hr) hy hw ?_
   exact pure_lex hs hQ fuel l (k + 1) _ _ w (fun j hj => by have:=hl (j + 1) (by simp;omega);simpa [Nat.add_assoc,Nat.add_comm 1 j] using this) (by rw [← ho];congr 1;simp;omega) hB' hw hrest
  unfold wpPure at h
  split at h
  ·rename_i hwant
   obtain ⟨v,hv,hrest⟩:=h
   exact go v (.inl ⟨hwant,hv⟩) hrest
  ·rename_i hwant
   exact go undef (.inr ⟨by simpa using hwant,rfl⟩) h
theorem wp_region_panics (n:Nat) {id:Nat} {Q:Exit → Act → World → Prop} {a:Act} {w:World} {ops:Array Oper} {o:Oper} (hm:P.follows .mixedOrders=true) (ho:ops[n]?=some o) (hs:Region.noSelect ops=true)
  (hB:lexTo ops n 0 (Array.replicate ops.size false)=true) (hQ:∀ c a w d v,Q (.panic c) (a.put d v) w → Q (.panic c) a w)
  (h:wpPure P ops w (fun a' => ∀ (w':World),(∃ n,w'=w.drewN n) → ∀ K':Act → World → Prop,if Region.wanted o (yielded ops a'.tmps) then Oper.wp P o a' w' K' Q else False) (ops.toList.take n) a) :
  (Code.region id ops true).wp P Q a w:=by
 have hn:n < ops.size:=(Array.getElem?_eq_some_iff.1 ho).1
 have hl:(ops.toList.take n).length=n:=by simp;omega
 refine wp_region_held_drew (S:=fun w' => ∃ n,w'=w.drewN n) hm ⟨1,rfl⟩ (fun _ => ?_)
 have hp:=pure_lex (P:=P) (w0:=w) (Q:=Q) (o:=o) hs hQ (ops.size - n - 1) (ops.toList.take n) 0 (Array.replicate ops.size false) a w.drew (fun j hj => by
  rw [hl] at hj
  rw [List.getElem?_take,if_pos hj,Nat.zero_add,Array.getElem?_toList]) (by rw [hl,Nat.zero_add];exact ho) (by rw [hl];exact hB) ⟨1,rfl⟩ h
 rw [hl] at hp
 rwa [show n + (ops.size - n - 1 + 1)=ops.size by omega] at hp
end
end Go.Proofs.YtkaifkjbmdcmlaaGreat

namespace Go.Proofs.YtkaifkjbmdcmlaaGreat
open Go.RowKit Go.Maps
section
variable {c:MachC} {K:Nat → Prop} {w w':World} {val:MVals} {s:StM} {av:Value} {a:List Int}
theorem box_facts (h:MachR c K w val s) (x:InstrM) (xv:Value) {W0:World} (hW:W0=w.alloc (.cells #[.int .i64 x.op,.int .i64 x.id,xv,.int .i64 x.n] 76)) :
  MachR c (fun b => K b ∨ b=w.heap.size) W0 val s ∧ KF K w W0 ∧ W0.heap[w.heap.size]?=some (.cells #[.int .i64 x.op,.int .i64 x.id,xv,.int .i64 x.n] 76 (0,0)):=by
 subst hW
 exact ⟨h.add _,(KF.refl _).alloc h.low _,heap_alloc_new w _⟩
theorem KF.undrew {K:Nat → Prop} {w w1:World} {n:Nat} (h:KF K (w.drewN n) w1):KF K w w1:=⟨h.os,h.tape,h.output,h.size,h.block⟩
structure ElemAt (c:MachC) (w:World) (val:MVals) (s:StM) (k j:Nat) (r:List Int) (ga ca gb cp:Nat):Prop where
 arrs:val .arrs=.slice (some ⟨ga,0,none⟩) s.arrs.length ca
 at_:w.cell? ⟨ga,k,none⟩=some (.slice (some ⟨gb,0,none⟩) r.length cp)
 own:val (.arr k)=.slice (some ⟨gb,0,none⟩) r.length cp
 cell:w.cell? ⟨gb,j,none⟩=some (.int .i64 (r.getD j 0))
 free:w.frozen? ⟨gb,j,none⟩=false
 ne:ga ≠ c.m
 neb:gb ≠ c.m
 nab:gb ≠ ga
 lt:ga < w.heap.size
 ltb:gb < w.heap.size
 klt:k < s.arrs.length
theorem MachR.elemAt (h:MachR c K w val s) {k j:Nat} {r:List Int} (hk:s.arrs[k]?=some r) (hj:j < r.length):∃ ga ca gb cp,ElemAt c w val s k j r ga ca gb cp:=by
 obtain ⟨ga,ca,A,cp,X⟩:=h.arrAt hk
 have hra:mRow s c.nv val (.arr k)=some (intRow r):=by simp [mRow,hk]
 obtain ⟨gb,cb,hv⟩:=h.slice hra (by show 0 < r.length;omega)
 have e:(intRow r).len=r.length:=rfl
 have hc:=h.cell hra hv (j:=j) hj
 rw [e] at hv
 have e2:=X.own.symm.trans hv
 injection e2 with e3 _ e4
 subst e3 e4
 refine ⟨ga,ca,gb,cp,X.arrs,X.at_,hv,?_,hc.2,X.ne,(h.off _ _ gb hra (by rw [hv];rfl)).1,?_,X.lt,h.own_lt hra (by rw [hv];rfl),X.klt⟩
 ·rw [hc.1]
  show (r.map _)[j]?=_
  rw [List.getElem?_map,List.getD_eq_getElem?_getD,List.getElem?_eq_getElem hj]
  rfl
 ·intro e5
  have:=h.apart (.arr k) .arrs _ _ gb hra rfl (by rw [hv];rfl) (by rw [X.arrs,e5];rfl)
  cases this
theorem look_arrs (op:Int) (s:StM):(lookS op s).arrs=s.arrs:=by unfold lookS;split <;> rfl
theorem in_nat {s:StM} {k:Nat} {i:Int} {r:List Int} (hk:s.arrs[k]?=some r) (h:inArr s k i=true):∃ j:Nat,i=j ∧ j < r.length:=by
 have ha:arrM s k=r:=by unfold arrM;rw [List.getD_eq_getElem?_getD,Int.toNat_natCast,hk];rfl
 unfold inArr at h
 rw [ha] at h
 simp only [Bool.and_eq_true,decide_eq_true_eq] at h
 exact ⟨i.toNat,by omega,by omega⟩
set_option maxRecDepth 100000 in
set_option maxHeartbeats 1000000 in
theorem made_load (h:MachR c K w val s) (op id:Int) (xa:List Int) (k:Nat) (xv:Value) (i:Int) {r:List Int} (ho:op=19 ∨ op=21) (hk:s.arrs[k]?=some r) (hA:ArgsAt K w av [i]) :
  Calls Tryz.prog 147 #[.pointer (some ⟨c.m,0,none⟩),boxI ⟨op,id,xa,k⟩ xv,av] w (MadePost c K w val (madeM ⟨op,id,xa,k⟩ [i] s)):=by
 have he:madeM ⟨op,id,xa,k⟩ [i] s=(if inArr s k i then (lookS op s,.inl (r.getD i.toNat 0)) else (lookS op s,.inr (missM op))):=by
  have ha:arrM s k=r:=by unfold arrM;rw [List.getD_eq_getElem?_getD,Int.toNat_natCast,hk];rfl
  unfold madeM
  rw [if_neg (by simp only;omega),if_neg (by simp only;omega),if_pos ho]
  simp only
  rw [ha]
  rfl
 rw [he]
 clear he
 have hr0:(0:Nat) ≤ 0:=Nat.le_refl _
 obtain ⟨W0,hW0⟩:∃ W0,W0=w.alloc (.cells #[.int .i64 op,.int .i64 id,xv,.int .i64 k] 76):=⟨_,rfl⟩
 obtain ⟨h1,hk1,hbox⟩:=box_facts h ⟨op,id,xa,k⟩ xv hW0
 obtain ⟨hlen,g,cap,rfl,hKg,hcell⟩:=hA
 have c0:w.cell? ⟨g,0,none⟩=some (.int .i64 i):=hcell 0 (by simp)
 have HC0:Hid (∀ W,KF (fun b => K b ∨ b=w.heap.size) W0 W → W.cell? ⟨g,0,none⟩=some (.int .i64 i) ∧ W.cell? ⟨w.heap.size,0,none⟩=some (.int .i64 op) ∧ W.cell? ⟨w.heap.size,1,none⟩=some (.int .i64 id) ∧ W.cell? ⟨w.heap.size,2,none⟩=some xv ∧ W.cell? ⟨w.heap.size,3,none⟩=some (.int .i64 k)):=hideI fun W hW => by
  have hx:=hW.row hbox (.inr rfl)
  exact ⟨(World.cell?_of_block (a:=⟨g,0,none⟩) ((hW.block g (.inl hKg)).trans (hk1.block g hKg))).trans c0,hx 0,hx 1,hx 2,hx 3⟩
 have HK1:=hideI hk1
 have HW0:=hideI hW0
 have HF:Hid (∀ n,_):=hideI fun n => element_any (h1.drewN n) hk op id xv i
 have HK:=hideI hk
 have HKB:=hideI (And.intro h.kB h.kM)
 obtain ⟨q0,q1,q2,q3,q4⟩:=HC0.out W0 (KF.refl _)
 clear h h1 hk1 hbox hcell c0 hKg hk hW0 hlen hr0
 simp only [boxI]
 by_cases hin:inArr s k i=true
 ·rw [if_pos hin]
  replace HF:Hid (∀ n,Calls Tryz.prog 145 #[.pointer (some ⟨c.m,0,none⟩),.agg #[.int .i64 op,.int .i64 id,xv,.int .i64 k],.int .i64 i] (W0.drewN n) fun e w' => e=.returned (.tuple #[]) ∧ MachR c (fun b => K b ∨ b=w.heap.size) w' val (lookS op s) ∧ KF (fun b => K b ∨ b=w.heap.size) W0 w'):=hideI fun n => (HF.out n).mono fun e w' ⟨h1,h2,h3⟩ => by
   rcases h1 with ⟨_,h1⟩ | ⟨h1,_⟩
   ·exact ⟨h1,h2,h3.undrew⟩
   ·rw [hin] at h1;cases h1
  have HIN:=hideI hin
  clear hin
  obtain ⟨j,rfl,hj⟩:=in_nat HK.out HIN.out
  have HJ:=hideI hj
  rw [Int.toNat_natCast]
  clear hj
  rcases ho with rfl | rfl
  ·go_enter Tryz.func147,Tryz.ntmps147
   go_upto_region 1 with fail
   rw [← HW0.out]
   go_upto_region 9 with fail
   go_region_held3 (fun w' => w'.cell? ⟨g,0,none⟩=some (.int .i64 j) ∧ w'.cell? ⟨w.heap.size,0,none⟩=some (.int .i64 19) ∧ w'.cell? ⟨w.heap.size,1,none⟩=some (.int .i64 id) ∧ w'.cell? ⟨w.heap.size,2,none⟩=some xv ∧ w'.cell? ⟨w.heap.size,3,none⟩=some (.int .i64 k)) (first | go_keep | exact HC0.out _ hf1) (first | (go_at_call 145;refine (HF.out 1).mono ?_;rintro e w1 ⟨rfl,hm1,hf1⟩))
   obtain ⟨ga,ca,gb,cp,X⟩:=hm1.elemAt (j:=j) (by rw [look_arrs];exact HK.out) HJ.out
   have c4:=hm1.cells 4
   simp only [machCells] at c4
   rw [X.arrs,look_arrs] at c4
   obtain ⟨q0,q1,q2,q3,q4⟩:=HC0.out _ hf1
   have a0:=X.at_
   have a1:=X.cell
   have a3:=X.klt
   rw [look_arrs] at a3
   have hj:=HJ.out
   have HM1:=hideI hm1
   have HF1:=hideI hf1
   obtain ⟨y,hy⟩:∃ y,y=r.getD j 0:=⟨_,rfl⟩
   rw [← hy] at a1
   have HY:=hideI hy
   clear hy
   generalize r.length=rl at a0 hj
   generalize s.arrs.length=na at c4 a3
   clear X hm1 hf1
   go_wp2_with fail
   go_quiet (fail)
   go_wp2
   go_ret
   exact ⟨by rw [← HY.out];rfl,(HM1.out.less (fun b hb => .inl hb) (fun b hb => HKB.out.1 b hb) HKB.out.2).drewN nq,(HK1.out.trans (HF1.out.mono (fun b hb => .inl hb))).drewN nq⟩
  ·go_enter Tryz.func147,Tryz.ntmps147
   go_upto_region 1 with fail
   rw [← HW0.out]
   go_upto_region 9 with fail
   go_region_held3 (fun w' => w'.cell? ⟨g,0,none⟩=some (.int .i64 j) ∧ w'.cell? ⟨w.heap.size,0,none⟩=some (.int .i64 21) ∧ w'.cell? ⟨w.heap.size,1,none⟩=some (.int .i64 id) ∧ w'.cell? ⟨w.heap.size,2,none⟩=some xv ∧ w'.cell? ⟨w.heap.size,3,none⟩=some (.int .i64 k)) (first | go_keep | exact HC0.out _ hf1) (first | (go_at_call 145;refine (HF.out 1).mono ?_;rintro e w1 ⟨rfl,hm1,hf1⟩))
   obtain ⟨ga,ca,gb,cp,X⟩:=hm1.elemAt (j:=j) (by rw [look_arrs];exact HK.out) HJ.out
   have c4:=hm1.cells 4
   simp only [machCells] at c4
   rw [X.arrs,look_arrs] at c4
   obtain ⟨q0,q1,q2,q3,q4⟩:=HC0.out _ hf1
   have a0:=X.at_
   have a1:=X.cell
   have a3:=X.klt
   rw [look_arrs] at a3
   have hj:=HJ.out
   have HM1:=hideI hm1
   have HF1:=hideI hf1
   obtain ⟨y,hy⟩:∃ y,y=r.getD j 0:=⟨_,rfl⟩
   rw [← hy] at a1
   have HY:=hideI hy
   clear hy
   generalize r.length=rl at a0 hj
   generalize s.arrs.length=na at c4 a3
   clear X hm1 hf1
   go_wp2_with fail
   go_quiet (fail)
   go_wp2
   go_ret
   exact ⟨by rw [← HY.out];rfl,(HM1.out.less (fun b hb => .inl hb) (fun b hb => HKB.out.1 b hb) HKB.out.2).drewN nq,(HK1.out.trans (HF1.out.mono (fun b hb => .inl hb))).drewN nq⟩
 ·rw [if_neg hin]
  replace HF:Hid (∀ n,Calls Tryz.prog 145 #[.pointer (some ⟨c.m,0,none⟩),.agg #[.int .i64 op,.int .i64 id,xv,.int .i64 k],.int .i64 i] (W0.drewN n) fun e w' => e=endE (missM op) ∧ MachR c (fun b => K b ∨ b=w.heap.size) w' val (lookS op s) ∧ KF (fun b => K b ∨ b=w.heap.size) W0 w'):=hideI fun n => (HF.out n).mono fun e w' ⟨h1,h2,h3⟩ => by
   rcases h1 with ⟨h1,_⟩ | ⟨_,h1⟩
   ·exact absurd h1 hin
   ·exact ⟨h1,h2,h3.undrew⟩
  clear hin
  rcases ho with rfl | rfl
  ·go_enter Tryz.func147,Tryz.ntmps147
   go_upto_region 1 with fail
   rw [← HW0.out]
   go_upto_region 9 with fail
   refine wp_region_panics 5 (by kernel_rfl) rfl (by kernel_rfl) (by kernel_rfl) (fun c a w d v h => by cases d <;> exact h) ?_
   simp only [List.take_succ_cons,List.take_zero,List.getElem_toArray,List.getElem_cons_succ,List.getElem_cons_zero]
   repeat (refine wpPure_step (fun K hK => ?_);go_simp;refine hK _ ?_;clear hK K)
   refine wpPure_nil ?_
   rintro w' ⟨n,rfl⟩ K'
   go_simp
   refine (HF.out n).mono ?_
   rintro e w1 ⟨he,hm1,hf1⟩
   simp only [endE,endV] at he
   subst he
   exact ⟨rfl,rfl,hm1.less (fun b hb => .inl hb) (fun b hb => HKB.out.1 b hb) HKB.out.2,HK1.out.trans (hf1.mono (fun b hb => .inl hb))⟩
  ·go_enter Tryz.func147,Tryz.ntmps147
   go_upto_region 1 with fail
   rw [← HW0.out]
   go_upto_region 9 with fail
   refine wp_region_panics 5 (by kernel_rfl) rfl (by kernel_rfl) (by kernel_rfl) (fun c a w d v h => by cases d <;> exact h) ?_
   simp only [List.take_succ_cons,List.take_zero,List.getElem_toArray,List.getElem_cons_succ,List.getElem_cons_zero]
   repeat (refine wpPure_step (fun K hK => ?_);go_simp;refine hK _ ?_;clear hK K)
   refine wpPure_nil ?_
   rintro w' ⟨n,rfl⟩ K'
   go_simp
   refine (HF.out n).mono ?_
   rintro e w1 ⟨he,hm1,hf1⟩
   simp only [endE,endV] at he
   subst he
   exact ⟨rfl,rfl,hm1.less (fun b hb => .inl hb) (fun b hb => HKB.out.1 b hb) HKB.out.2,HK1.out.trans (hf1.mono (fun b hb => .inl hb))⟩
end
end Go.Proofs.YtkaifkjbmdcmlaaGreat

namespace Go.Proofs.YtkaifkjbmdcmlaaGreat
open Go.RowKit Go.Maps
section
variable {c:MachC} {K:Nat → Prop} {w w':World} {val:MVals} {s:StM} {av:Value} {a:List Int}
theorem made_eq_pure {op id n:Int} {xa a:List Int} {s:StM} (h1:3 ≤ op) (h2:op ≤ 17):madeM ⟨op,id,xa,n⟩ a s=if divZero op a then (s,.inr (2,0,-1)) else (s,.inl (calcM op a)):=by
 unfold madeM
 rw [if_neg (by simp only;omega),if_neg (by simp only;omega),if_neg (by simp only;omega),if_neg (by simp only;omega)]
set_option maxRecDepth 100000 in
set_option maxHeartbeats 1000000 in
theorem made_pure (h:MachR c K w val s) (op id n:Int) (xa:List Int) (xv:Value) (h1:3 ≤ op) (h2:op ≤ 17) (hl:a.length=(takesS op).length) (hA:ArgsAt K w av a) :
  Calls Tryz.prog 147 #[.pointer (some ⟨c.m,0,none⟩),boxI ⟨op,id,xa,n⟩ xv,av] w (MadePost c K w val (madeM ⟨op,id,xa,n⟩ a s)):=by
 rw [made_eq_pure h1 h2]
 obtain ⟨W0,hW0⟩:∃ W0,W0=w.alloc (.cells #[.int .i64 op,.int .i64 id,xv,.int .i64 n] 76):=⟨_,rfl⟩
 obtain ⟨hm,hk1,hbox⟩:=box_facts h ⟨op,id,xa,n⟩ xv hW0
 have hints:=(hA.kf hk1).ints (fun b hb => hm.low b (.inl hb))
 have H:=hideI h
 have HK1:=hideI hk1
 have HW0:=hideI hW0
 have HM:=hideI hm
 have HINT:Hid (∀ n,Ints (W0.drewN n) W0.heap.size av a):=hideI fun n => hints.keeps (fun b o _ => rfl)
 have HD:=hideI (divZero_any op a (fun ho => by rw [hl,takes_two h1 (by omega)];exact Nat.le_refl 2) W0.heap.size av W0 hints)
 have c8:=hm.cells 8
 simp only [machCells] at c8
 have q:=row_cells hbox rfl
 have q0:=q 0
 have q3:=q 3
 have HB:=hideI (And.intro h.kB h.kM)
 have d1:(op == 1)=false:=by rw [beq_eq_false_iff_ne];omega
 have d2:(op == 2)=false:=by rw [beq_eq_false_iff_ne];omega
 have d18:(op == 18)=false:=by rw [beq_eq_false_iff_ne];omega
 have d19:(op == 19)=false:=by rw [beq_eq_false_iff_ne];omega
 have d21:(op == 21)=false:=by rw [beq_eq_false_iff_ne];omega
 have d24:(op == 24)=false:=by rw [beq_eq_false_iff_ne];omega
 have HC:Hid (divZero op a=false → ∀ n,Calls Tryz.prog 49 #[.map (some c.M),.int .i64 op,av] (W0.drewN n) fun e w' => e=.returned (.int .i64 (calcM op a)) ∧ ∃ m,w'=(W0.drewN n).drewN m):=hideI fun hd n => calc_any op h1 h2 a hl hd c.M W0.heap.size av (W0.drewN n) (hm.ops.heap rfl) (HINT.out n)
 obtain ⟨hlen,g,cap,rfl,hKg,hcell⟩:=hA
 simp only [boxI]
 clear q hm hints hk1 hW0 h hbox hl hcell hlen hKg h1 h2
 cases hd:divZero op a with
 | true =>
  rw [if_pos rfl]
  rw [hd] at HD
  clear hd
  go_enter Tryz.func147,Tryz.ntmps147
  go_upto_region 1 with fail
  rw [← HW0.out]
  go_wp2_with (first
   | (go_at_call 47;refine HD.out.mono ?_;rintro e w1 ⟨rfl,rfl⟩)
   | (go_at_call 148;refine (trap_any _ _ _).mono ?_;rintro e w1 ⟨he,rfl⟩;simp only [endE,endV] at he;subst he))
  exact ⟨rfl,rfl,HM.out.less (fun b hb => .inl hb) (fun b hb => HB.out.1 b hb) HB.out.2,HK1.out⟩
 | false =>
  rw [if_neg (by decide)]
  rw [hd] at HD
  replace HC:=hideI (HC.out hd)
  clear hd
  obtain ⟨y,hy⟩:∃ y,y=calcM op a:=⟨_,rfl⟩
  rw [← hy] at HC ⊢
  clear hy
  go_enter Tryz.func147,Tryz.ntmps147
  go_upto_region 1 with fail
  rw [← HW0.out]
  go_wp2_with (first
   | (go_at_call 47;refine HD.out.mono ?_;rintro e w1 ⟨rfl,rfl⟩))
  go_quiet (refine Calls.quiet_of (HC.out _))
  go_wp2
  go_ret
  exact ⟨rfl,(HM.out.less (fun b hb => .inl hb) (fun b hb => HB.out.1 b hb) HB.out.2).drewN nq,HK1.out.drewN nq⟩
structure InstrOk (s:StM) (nv:Nat) (x:InstrM):Prop where
 args:∀ i ∈ x.args,0 ≤ i ∧ i < nv
 len:x.args.length=(takesS x.op).length
 isop:isOp x.op=true
 arr:kindS x.op=3 → 0 ≤ x.n ∧ x.n < s.arrs.length
 cell:kindS x.op=4 → 0 ≤ x.n ∧ x.n < s.cells.length
 id:makesS x.op ≠ 0 → 0 ≤ x.id ∧ x.id < nv
theorem arr_at {n:Int} {s:StM} (h:0 ≤ n ∧ n < s.arrs.length):∃ (k:Nat) (r:List Int),n=k ∧ s.arrs[k]?=some r:=by
 obtain ⟨k,rfl⟩:=Int.eq_ofNat_of_zero_le h.1
 have hk:k < s.arrs.length:=by omega
 exact ⟨k,s.arrs[k],rfl,List.getElem?_eq_getElem hk⟩
theorem made_any (h:MachR c K w val s) (x:InstrM) (xv:Value) (hx:InstrOk s c.nv x) (hmk:makesS x.op ≠ 0) (hl:a.length=(takesS x.op).length) (hA:ArgsAt K w av a) :
  Calls Tryz.prog 147 #[.pointer (some ⟨c.m,0,none⟩),boxI x xv,av] w (MadePost c K w val (madeM x a s)):=by
 obtain ⟨op,id,xa,n⟩:=x
 have ho:=hx.isop
 simp only at ho hmk hl
 by_cases hp:3 ≤ op ∧ op ≤ 17
 ·exact made_pure h op id n xa xv hp.1 hp.2 hl hA
 ·rcases op_cases op with h1 | h1 | h1
  ·by_cases h12:op=1 ∨ op=2
   ·exact made_const h ⟨op,id,xa,n⟩ xv h12
   ·omega
  ·have hc:op=18 ∨ (op=19 ∨ op=21) ∨ op=24 ∨ (op=20 ∨ op=22 ∨ op=23 ∨ op=25):=by omega
   rcases hc with rfl | h2 | rfl | h2
   ·obtain ⟨k,r,rfl,hk⟩:=arr_at (hx.arr (by show kindS 18=3;decide))
    exact made_len h id xa k xv hk
   ·have hkind:kindS op=3:=by rcases h2 with rfl | rfl <;> decide
    obtain ⟨k,r,rfl,hk⟩:=arr_at (hx.arr hkind)
    have hl1:a.length=1:=by rw [hl];rcases h2 with rfl | rfl <;> decide
    obtain ⟨i,rfl⟩:∃ i,a=[i]:=by
     match a,hl1 with
     | [i],_ => exact ⟨i,rfl⟩
    exact made_load h op id xa k xv i h2 hk hA
   ·obtain ⟨h3,h4⟩:=hx.cell (by show kindS 24=4;decide)
    simp only at h3 h4
    obtain ⟨k,rfl⟩:=Int.eq_ofNat_of_zero_le h3
    exact made_get h id xa k xv (by omega)
   ·exact absurd (by rcases h2 with rfl | rfl | rfl | rfl <;> decide) hmk
  ·rw [show isOp op=false from by unfold isOp;rw [shapeS_none h1]] at ho
   cases ho
end
end Go.Proofs.YtkaifkjbmdcmlaaGreat

namespace Go.Proofs.YtkaifkjbmdcmlaaGreat
open Go.RowKit Go.Maps
section
variable {c:MachC} {K:Nat → Prop} {w w':World} {val:MVals} {s:StM} {av:Value} {a:List Int}
def DoPost (c:MachC) (K:Nat → Prop) (w:World) (r:StM × Option EndM) (e:Ending) (w':World):Prop :=
 e=(match r.2 with | none => .returned (.tuple #[]) | some en => endE en) ∧ (∃ val',MachR c K w' val' r.1) ∧ KF K w w'
def argsRow (s:StM) (xs:List Int) (i:Nat):List Value:=((xs.take i).map fun a => .int .i64 (s.val a)) ++ List.replicate (xs.length - i) (.int .i64 0)
theorem argsRow_zero (s:StM) (xs:List Int):argsRow s xs 0=List.replicate xs.length (.int .i64 0):=by simp [argsRow]
theorem argsRow_next (s:StM) (xs:List Int) {i:Nat} {a:Int} (hi:xs[i]?=some a):(argsRow s xs i).set i (.int .i64 (s.val a))=argsRow s xs (i + 1):=by
 have hlt:=(List.getElem?_eq_some_iff.1 hi).1
 unfold argsRow
 rw [List.set_append_right _ _ (by simp;omega)]
 simp only [List.length_map,List.length_take]
 rw [show i - min i xs.length=0 by omega,show xs.length - i=(xs.length - (i + 1)) + 1 by omega,List.replicate_succ,List.set_cons_zero,List.take_add_one,hi]
 simp
theorem argsRow_all (s:StM) (xs:List Int):argsRow s xs xs.length=(xs.map s.val).map (Value.int .i64):=by simp [argsRow]
theorem MachR.valAt (h:MachR c K w val s) {a:Int} (h0:0 ≤ a) (h1:a < c.nv):∃ (gv cv j:Nat),a=j ∧ j < c.nv ∧ val .vals=.slice (some ⟨gv,0,none⟩) c.nv cv ∧ w.cell? ⟨gv,j,none⟩=some (.int .i64 (s.val a)) ∧ w.frozen? ⟨gv,j,none⟩=false ∧ gv ≠ c.m ∧ gv < w.heap.size:=by
 obtain ⟨j,rfl⟩:=Int.eq_ofNat_of_zero_le h0
 have hj:j < c.nv:=by omega
 have hr:mRow s c.nv val .vals=some (intRow ((List.range c.nv).map fun (i:Nat) => s.val i)):=rfl
 have hl:(intRow ((List.range c.nv).map fun (i:Nat) => s.val i)).len=c.nv:=by simp [intRow]
 obtain ⟨gv,cv,hv⟩:=h.slice hr (by rw [hl];omega)
 have hc:=h.cell hr hv (j:=j) (by rw [hl];exact hj)
 rw [hl] at hv
 refine ⟨gv,cv,j,rfl,hj,hv,?_,hc.2,(h.off .vals _ gv hr (by rw [hv];rfl)).1,h.own_lt hr (by rw [hv];rfl)⟩
 rw [hc.1]
 simp [intRow,hj]
theorem MachR.valCell (h:MachR c K w val s) {gv cv j:Nat} (hv:val .vals=.slice (some ⟨gv,0,none⟩) c.nv cv) (hj:j < c.nv):w.cell? ⟨gv,j,none⟩=some (.int .i64 (s.val j)) ∧ w.frozen? ⟨gv,j,none⟩=false:=by
 obtain ⟨gv',cv',j',e,_,hv',h1,h2,_⟩:=h.valAt (a:=(j:Int)) (by omega) (by omega)
 obtain rfl:j=j':=by omega
 rw [hv] at hv'
 injection hv' with e1 e2 e3
 injection e1 with e1
 injection e1 with e1
 subst e1
 exact ⟨h1,h2⟩
theorem vals_set (f:Int → Int) (j:Nat) (v:Int) (n:Nat):((List.range n).map fun (i:Nat) => setV f j v i).map (Value.int .i64)=(((List.range n).map fun (i:Nat) => f i).map (Value.int .i64)).set j (.int .i64 v):=by
 apply List.ext_getElem?
 intro k
 rw [List.getElem?_set]
 by_cases hk:k < n
 ·by_cases e:j=k
  ·subst e
   simp [hk,setV]
  ·rw [if_neg e]
   have:¬ (k:Int)=(j:Int):=by omega
   simp [hk,setV,this]
 ·by_cases e:j=k
  ·subst e;simp [hk]
  ·rw [if_neg e];simp [hk]
theorem MachR.setVal (h:MachR c K w val s) {gv cv j:Nat} (hv:val .vals=.slice (some ⟨gv,0,none⟩) c.nv cv) (v:Int):MachR c K (w.setCell ⟨gv,j,none⟩ (.int .i64 v)) val { s with val:=setV s.val j v } ∧ KF K w (w.setCell ⟨gv,j,none⟩ (.int .i64 v)):=by
 have hl:(intRow ((List.range c.nv).map fun (i:Nat) => s.val i)).len=c.nv:=by simp [intRow]
 refine h.store (t:=.vals) (d:=intRow ((List.range c.nv).map fun (i:Nat) => s.val i)) (cap:=cv) rfl (by rw [hl];exact hv) ?_ (fun t ht => ?_) rfl rfl
 ·show some (intRow _)=_
  unfold intRow
  congr 2
  ·simp
  ·exact vals_set s.val j v c.nv
 ·cases t with
  | vals => exact absurd rfl ht
  | _ => rfl
theorem map_set_ints (xs:List Int) (j:Nat) (v:Int):(xs.set j v).map (Value.int .i64)=(xs.map (Value.int .i64)).set j (.int .i64 v):=by simp [List.map_set]
theorem MachR.setCells (h:MachR c K w val s) {gv cv j:Nat} (hv:val .cells=.slice (some ⟨gv,0,none⟩) s.cells.length cv) (v:Int):MachR c K (w.setCell ⟨gv,j,none⟩ (.int .i64 v)) val { s with cells:=s.cells.set j v } ∧ KF K w (w.setCell ⟨gv,j,none⟩ (.int .i64 v)):=by
 refine h.store (t:=.cells) (d:=intRow s.cells) (cap:=cv) rfl hv ?_ (fun t ht => ?_) rfl rfl
 ·show some (intRow _)=_
  unfold intRow
  congr 2
  ·simp
  ·exact map_set_ints _ _ _
 ·cases t with
  | cells => exact absurd rfl ht
  | _ => rfl
theorem MachR.setElem (h:MachR c K w val s) {k:Nat} {r:List Int} (hk:s.arrs[k]?=some r) {gb cp j:Nat} (hv:val (.arr k)=.slice (some ⟨gb,0,none⟩) r.length cp) (v:Int) :
  MachR c K (w.setCell ⟨gb,j,none⟩ (.int .i64 v)) val { s with arrs:=s.arrs.set k (r.set j v) } ∧ KF K w (w.setCell ⟨gb,j,none⟩ (.int .i64 v)):=by
 have hlt:=(List.getElem?_eq_some_iff.1 hk).1
 refine h.store (t:=.arr k) (d:=intRow r) (cap:=cp) (by simp [mRow,hk]) hv ?_ (fun t ht => ?_) rfl rfl
 ·simp only [mRow]
  rw [List.getElem?_set_self hlt]
  show some (intRow _)=_
  unfold intRow
  congr 2
  ·simp
  ·exact map_set_ints _ _ _
 ·cases t with
  | arr i =>
   simp only [mRow]
   rw [List.getElem?_set_ne (fun e => ht (by rw [e]))]
  | arrs => simp [mRow]
  | _ => rfl
theorem madeRow_zero (n:Nat):(madeCells (Value.int .i64 0).cells n).toList=List.replicate n (.int .i64 0):=toList_madeCells_one _ n
set_option maxRecDepth 100000 in
set_option maxHeartbeats 8000000 in
theorem do_any (h:MachR c K w val s) (x:InstrM) (xv:Value) (hx:InstrOk s c.nv x) (hxv:Ints w c.B xv x.args) (hfew:x.args.length ≤ 3) (hout:s.out.length ≤ 4096) :
  Calls Tryz.prog 86 #[.pointer (some ⟨c.m,0,none⟩),boxI x xv] w (DoPost c K w (doM x s)):=by
 obtain ⟨i0,hix,hi2⟩:∃ i,Tryz.prog.info? 3=some i ∧ i.zero=some (.int .i64 0) ∧ i.size=1 ∧ i.bytes=8:=⟨_,rfl,rfl,rfl,rfl⟩
 obtain ⟨hz0,hz1,hz2⟩:=hi2
 obtain ⟨W0,hW0⟩:∃ W0,W0=w.alloc (.cells #[.int .i64 x.op,.int .i64 x.id,xv,.int .i64 x.n] 76):=⟨_,rfl⟩
 obtain ⟨hm,hk1,hbox⟩:=box_facts h x xv hW0
 have HX:=hideI hx
 have HOUT:=hideI hout
 clear hout
 have H:=hideI h
 have HK1:=hideI hk1
 have HM:=hideI hm
 have HS0:Hid (W0.heap.size=w.heap.size + 1):=by rw [hW0];exact hideI (by simp)
 obtain ⟨P,pc,hpv,_,hpx⟩:=hxv
 subst hpv
 have HPX:Hid (∀ k,k < x.args.length → ∃ b off,P=some ⟨b,off,none⟩ ∧ b < c.B ∧ w.cell? ⟨b,off + k,none⟩=some (.int .i64 (x.args[k]?.getD 0))):=hpx
 obtain ⟨n,hn⟩:∃ n,n=x.args.length:=⟨_,rfl⟩
 rw [← hn] at hW0 hbox
 have HW0:=hideI hW0
 have HBOX:=hideI hbox
 have HN:=hideI hn
 have HFEW:Hid (n ≤ 3):=by rw [hn];exact hideI hfew
 have hfn:=HFEW.out
 have q:=row_cells hbox rfl
 have q0:=q 0
 have q1:=q 1
 have q2:=q 2
 have q3:=q 3
 simp only [boxI]
 rw [← hn]
 clear q hm hk1 hW0 h hbox hx hfew hpx hn
 go_enter Tryz.func86,Tryz.ntmps86
 go_upto_region 1 with fail
 rw [← HW0.out]
 go_wp2_with (first
  | (at_make;go_must (refine wpList_make_full _ rfl _ _ 22 rfl W0.heap.size 3 i0 (.int .i64 0) 1 Tryz.underlying22 hix hz0 hz1 .i64 .i64 _ _ n rfl rfl rfl rfl (by rw [hz2];omega) (by unfold maxLen;omega) (Nat.le_refl _) ?_);intro w1 hown1 hg1;go_must (have HB1:Hid (Below W0.heap.size W0 w1):=hideI ((Below.refl _ _).grown hg1 (Nat.le_refl _) (by simp));have HO1:=hideI hown1;clear hown1 hg1 q0 q1 q2 q3;have q:=row_cells HBOX.out (HB1.out.block _ (by have:=HS0.out;omega));have q0:=q 0;have q1:=q 1;have q2:=q 2;have q3:=q 3;clear q)))
 clear q0 q1 q2 q3
 go_loopw [14] (fun u wr => ∃ i:Nat,i ≤ n ∧ u=.int .i64 i ∧ Hid (Below W0.heap.size W0 wr) ∧ Hid (wr.ownsRow W0.heap.size 3 1 (.slice (some ⟨W0.heap.size,0,none⟩) n n) n (argsRow s x.args i))) (fun u _ => n - (intOf u).toNat)
 case atStart => exact ⟨0,Nat.zero_le _,rfl,HB1,hideI (by have h1:=HO1.out;rw [Nat.mul_one,madeRow_zero] at h1;rw [argsRow_zero,← HN.out];exact h1)⟩
 case round =>
  obtain ⟨i,hi,rfl,HBr,HOr⟩:=hrel
  have hgl:=(HOr.out.lt W0.heap.size rfl).2
  have q:=row_cells HBOX.out (HBr.out.block _ (by have:=HS0.out;omega))
  have q0:=q 0
  have q1:=q 1
  have q2:=q 2
  have q3:=q 3
  clear q
  by_cases hlt:i < n
  ·obtain ⟨b,off,rfl,hb,d0⟩:=HPX.out i (by rw [← HN.out];exact hlt)
   obtain ⟨a,ha⟩:∃ a,x.args[i]?=some a:=⟨_,List.getElem?_eq_getElem (by rw [← HN.out];exact hlt)⟩
   rw [ha] at d0
   have hbK:=H.out.kB b hb
   have d1:wr.cell? ⟨b,off + i,none⟩=some (.int .i64 a):=(World.cell?_of_block (a:=⟨b,off + i,none⟩) ((HBr.out.block b (by have:=H.out.low b hbK;have:=HS0.out;omega)).trans (HK1.out.block b hbK))).trans d0
   have hmr:=HM.out.below HBr.out
   have hna:=HX.out.args a (List.mem_of_getElem? ha)
   obtain ⟨gv,cv,j,rfl,hj,hv,hvc,_,hgm,hgv⟩:=hmr.valAt hna.1 hna.2
   have c11:=hmr.cells 11
   simp only [machCells] at c11
   rw [hv] at c11
   have r0:=World.ownsRow.cellAt HOr.out i (by omega)
   have r1:=World.ownsRow.frozenAt HOr.out i
   have hri:(argsRow s x.args i)[i]?.isSome=true:=by
    unfold argsRow
    rw [List.getElem?_append_right (by simp;omega)]
    have:=HN.out
    simp
    omega
   obtain ⟨u0,hu0⟩:=Option.isSome_iff_exists.1 hri
   rw [hu0] at r0
   have hlb:=World.block_lt_of_cell? wr _ d1
   have hlm:=hmr.m_lt
   have HA:=hideI ha
   clear hna hmr ha hri hu0 d0 hb hbK hv
   go_wp2
   go_roundw
   case rel => exact ⟨i + 1,by omega,by go_num,hideI (HBr.out.setCell (p:=⟨W0.heap.size,i,none⟩) (Nat.le_refl _) _),hideI (by rw [← argsRow_next s x.args HA.out];exact (World.ownsRow.stored HOr.out i _).1)⟩
   case measure => simp [intOf];omega
  ·have hin:i=n:=by omega
   subst hin
   have HAR:Hid (ArgsAt (fun b => (K b ∨ b=w.heap.size) ∨ (W0.heap.size ≤ b ∧ b < wr.heap.size)) wr (.slice (some ⟨W0.heap.size,0,none⟩) i i) (x.args.map s.val)):=hideI ⟨by rw [List.length_map,← HN.out];omega,W0.heap.size,i,by rw [List.length_map,← HN.out],.inr ⟨Nat.le_refl _,hgl⟩,fun j hj => by
    have h1:=World.ownsRow.cellAt HOr.out j (by rw [List.length_map,← HN.out] at hj;omega)
    rw [h1,HN.out,argsRow_all,List.getElem?_map,List.getElem?_eq_getElem hj]
    rfl⟩
   have HM3:=hideI (HM.out.adds HBr.out)
   have HDONE:Hid (∀ W t val',MachR c (fun b => (K b ∨ b=w.heap.size) ∨ (W0.heap.size ≤ b ∧ b < wr.heap.size)) W val' t → KF (fun b => (K b ∨ b=w.heap.size) ∨ (W0.heap.size ≤ b ∧ b < wr.heap.size)) wr W → (∃ val',MachR c K W val' t) ∧ KF K w W):=hideI fun W t val' h1 h2 =>
    ⟨⟨val',h1.less (fun b hb => .inl (.inl hb)) (fun b hb => H.out.kB b hb) H.out.kM⟩,(HK1.out.trans (KF.of_below HBr.out (fun b hb => HM.out.low b (.inl hb)))).trans (h2.mono (fun b hb => .inl (.inl hb)))⟩
   have HBX:Hid (∀ W,KF (fun b => (K b ∨ b=w.heap.size) ∨ (W0.heap.size ≤ b ∧ b < wr.heap.size)) wr W → W.cell? ⟨w.heap.size,0,none⟩=some (.int .i64 x.op) ∧ W.cell? ⟨w.heap.size,1,none⟩=some (.int .i64 x.id) ∧ W.cell? ⟨w.heap.size,2,none⟩=some (.slice P i pc) ∧ W.cell? ⟨w.heap.size,3,none⟩=some (.int .i64 x.n)):=hideI fun W hW => by
    have hq:=row_cells HBOX.out ((hW.block _ (.inl (.inr rfl))).trans (HBr.out.block _ (by have:=HS0.out;omega)))
    exact ⟨hq 0,hq 1,hq 2,hq 3⟩
   clear hgl HOr
   by_cases hmk:makesS x.op=0
   ·have hop:=HX.out.isop
    have hcs:x.op=20 ∨ x.op=22 ∨ x.op=23 ∨ x.op=25:=by
     rcases op_cases x.op with h1 | h1 | h1
     ·rcases h1 with e | e | e | e | e | e | e | e | e | e | e | e | e <;> rw [e] at hmk <;> exact absurd hmk (by decide)
     ·rcases h1 with e | e | e | e | e | e | e | e | e | e | e | e <;> first | (rw [e] at hmk;exact absurd hmk (by decide)) | (rw [e];simp)
     ·rw [show isOp x.op=false from by unfold isOp;rw [shapeS_none h1]] at hop;cases hop
    clear hop hmk
    have hargs:=HAR.out
    obtain ⟨_,ga,capa,hae,_,hac⟩:=hargs
    obtain ⟨e1,e2⟩:ga=W0.heap.size ∧ capa=i:=by injection hae with x1 _ x3;injection x1 with x1;injection x1 with x1;exact ⟨x1.symm,x3.symm⟩
    subst e1 e2
    have HAC:=hideI hac
    have hlen:=HX.out.len
    rw [← HN.out] at hlen
    clear hae hac
    rcases hcs with ho | ho | ho | ho
    ·rw [ho] at q0 HBX
     obtain rfl:capa=2:=by rw [hlen,ho];decide
     obtain ⟨a0,a1,ha0⟩:∃ a0 a1,x.args.map s.val=[a0,a1]:=by
      have h1:(x.args.map s.val).length=2:=by rw [List.length_map,← HN.out]
      match x.args.map s.val,h1 with
      | [a0,a1],_ => exact ⟨a0,a1,rfl⟩
     have c0:=HAC.out 0 (by rw [ha0];simp)
     have c1:=HAC.out 1 (by rw [ha0];simp)
     rw [ha0] at c0 c1
     obtain ⟨k,r,hkn,hk⟩:=arr_at (HX.out.arr (by rw [ho];decide))
     have hxk:x.n.toNat=k:=by rw [hkn];rfl
     have HE:Hid (doM x s=if inArr s k a0 then ({ lookS 20 s with arrs:=s.arrs.set k (r.set a0.toNat a1) },none) else (lookS 20 s,some (missM 20))):=hideI (by
      have har:arrM s x.n=r:=by unfold arrM;rw [List.getD_eq_getElem?_getD,hxk,hk];rfl
      unfold doM
      simp only
      rw [ho,if_pos (by simp),hxk,har,ha0,hkn]
      rfl)
     rw [hkn] at q3 HBX
     have HF:Hid (∀ n,_):=hideI fun n => element_any (HM3.out.drewN n) hk 20 x.id (.slice P 2 pc) a0
     have HK:=hideI hk
     have HCC:Hid (∀ W,KF (fun b => (K b ∨ b=w.heap.size) ∨ (W0.heap.size ≤ b ∧ b < wr.heap.size)) wr W → W.cell? ⟨W0.heap.size,0,none⟩=some (.int .i64 a0) ∧ W.cell? ⟨W0.heap.size,1,none⟩=some (.int .i64 a1)):=hideI fun W hW => by
      have hb:=hW.block W0.heap.size (.inr ⟨Nat.le_refl _,World.block_lt_of_cell? wr _ c0⟩)
      exact ⟨(World.cell?_of_block (a:=⟨W0.heap.size,0,none⟩) hb).trans c0,(World.cell?_of_block (a:=⟨W0.heap.size,1,none⟩) hb).trans c1⟩
     have HLT:=hideI (World.block_lt_of_cell? wr _ c0)
     clear ha0 ho hlen hkn hxk hk
     by_cases hin:inArr s k a0=true
     ·rw [if_pos hin] at HE
      replace HF:Hid (∀ n,Calls Tryz.prog 145 #[.pointer (some ⟨c.m,0,none⟩),.agg #[.int .i64 20,.int .i64 x.id,.slice P 2 pc,.int .i64 k],.int .i64 a0] (wr.drewN n) fun e w' => e=.returned (.tuple #[]) ∧ MachR c (fun b => (K b ∨ b=w.heap.size) ∨ (W0.heap.size ≤ b ∧ b < wr.heap.size)) w' val (lookS 20 s) ∧ KF (fun b => (K b ∨ b=w.heap.size) ∨ (W0.heap.size ≤ b ∧ b < wr.heap.size)) wr w'):=hideI fun n => (HF.out n).mono fun e w' ⟨h1,h2,h3⟩ => by
       rcases h1 with ⟨_,h1⟩ | ⟨h1,_⟩
       ·exact ⟨h1,h2,h3.undrew⟩
       ·rw [hin] at h1;cases h1
      obtain ⟨j,hj0,hj⟩:=in_nat HK.out hin
      subst hj0
      have HJ:=hideI hj
      rw [Int.toNat_natCast] at HE
      clear hin hj
      go_upto_region 11 with fail
      go_region_held3 (fun w' => w'.cell? ⟨W0.heap.size,0,none⟩=some (.int .i64 j) ∧ w'.cell? ⟨w.heap.size,0,none⟩=some (.int .i64 20) ∧ w'.cell? ⟨w.heap.size,1,none⟩=some (.int .i64 x.id) ∧ w'.cell? ⟨w.heap.size,2,none⟩=some (.slice P 2 pc) ∧ w'.cell? ⟨w.heap.size,3,none⟩=some (.int .i64 k)) (first | exact ⟨(HCC.out _ HF1.out).1,HBX.out _ HF1.out⟩ | go_keep) (first | (go_at_call 145;refine (HF.out 1).mono ?_;rintro e w4 ⟨rfl,hm1,hf1⟩;have HM1:=hideI hm1;have HF1:=hideI hf1;clear hm1 hf1))
      obtain ⟨ga,ca,gb,cp,X⟩:=HM1.out.elemAt (j:=j) (by rw [look_arrs];exact HK.out) HJ.out
      have c4:=HM1.out.cells 4
      simp only [machCells] at c4
      rw [X.arrs,look_arrs] at c4
      clear q0 q1 q2 q3 c0 c1
      obtain ⟨q0,q1,q2,q3⟩:=HBX.out _ HF1.out
      obtain ⟨c0,c1⟩:=HCC.out _ HF1.out
      have y0:=X.at_
      have y1:=X.cell
      have y2:=X.free
      have y3:=X.klt
      rw [look_arrs] at y3
      have hj:=HJ.out
      have HV:=hideI X.own
      have z1:¬ gb=c.m:=X.neb
      have z1':¬ c.m=gb:=fun e => z1 e.symm
      have z2:¬ gb=ga:=X.nab
      have z2':¬ ga=gb:=fun e => z2 e.symm
      have z3:¬ w.heap.size=gb:=fun e => (HM1.out.off (.arr k) (intRow r) gb (by simp [mRow,look_arrs,HK.out]) (by rw [HV.out];rfl)).2 (.inl (.inr e.symm))
      have z3':¬ gb=w.heap.size:=fun e => z3 e.symm
      have z4:¬ W0.heap.size=gb:=fun e => (HM1.out.off (.arr k) (intRow r) gb (by simp [mRow,look_arrs,HK.out]) (by rw [HV.out];rfl)).2 (.inr ⟨by omega,by rw [← e];exact HLT.out⟩)
      have z4':¬ gb=W0.heap.size:=fun e => z4 e.symm
      have HRL:Hid (r.length=r.length):=rfl
      obtain ⟨rl,hrl⟩:∃ rl,rl=r.length:=⟨_,rfl⟩
      obtain ⟨na,hna⟩:∃ na,na=s.arrs.length:=⟨_,rfl⟩
      rw [← hrl] at y0 hj
      rw [← hna] at c4 y3
      clear X hrl hna
      go_wp2
      go_region_held3 (fun w' => w'.cell? ⟨W0.heap.size,0,none⟩=some (.int .i64 j) ∧ w'.cell? ⟨W0.heap.size,1,none⟩=some (.int .i64 a1) ∧ w'.cell? ⟨w.heap.size,3,none⟩=some (.int .i64 k) ∧ w'.cell? ⟨c.m,4,none⟩=some (.slice (some ⟨ga,0,none⟩) na ca) ∧ w'.cell? ⟨ga,k,none⟩=some (.slice (some ⟨gb,0,none⟩) rl cp)) (first | go_keep) (first | fail)
      go_wp2
      go_end0
      have h5:=HM1.out.setElem (j:=j) (by rw [look_arrs];exact HK.out) HV.out a1
      rw [look_arrs] at h5
      exact ⟨by rw [HE.out],HDONE.out _ _ _ (by rw [HE.out];exact h5.1.drewN 1) (HF1.out.trans (h5.2.drewN 1))⟩
     ·rw [if_neg hin] at HE
      replace HF:Hid (∀ n,Calls Tryz.prog 145 #[.pointer (some ⟨c.m,0,none⟩),.agg #[.int .i64 20,.int .i64 x.id,.slice P 2 pc,.int .i64 k],.int .i64 a0] (wr.drewN n) fun e w' => e=endE (missM 20) ∧ MachR c (fun b => (K b ∨ b=w.heap.size) ∨ (W0.heap.size ≤ b ∧ b < wr.heap.size)) w' val (lookS 20 s) ∧ KF (fun b => (K b ∨ b=w.heap.size) ∨ (W0.heap.size ≤ b ∧ b < wr.heap.size)) wr w'):=hideI fun n => (HF.out n).mono fun e w' ⟨h1,h2,h3⟩ => by
       rcases h1 with ⟨h1,_⟩ | ⟨_,h1⟩
       ·exact absurd h1 hin
       ·exact ⟨h1,h2,h3.undrew⟩
      clear hin
      go_upto_region 11 with fail
      refine wp_region_panics 5 (by kernel_rfl) rfl (by kernel_rfl) (by kernel_rfl) (fun c a w d v h => by cases d <;> exact h) ?_
      simp only [List.take_succ_cons,List.take_zero,List.getElem_toArray,List.getElem_cons_succ,List.getElem_cons_zero]
      repeat (refine wpPure_step (fun K hK => ?_);go_simp;refine hK _ ?_;clear hK K)
      refine wpPure_nil ?_
      rintro w' ⟨n,rfl⟩ K'
      go_simp
      refine (HF.out n).mono ?_
      rintro e w4 ⟨he,hm1,hf1⟩
      simp only [endE,endV] at he
      subst he
      exact ⟨rfl,by rw [HE.out];rfl,HDONE.out _ _ _ (by rw [HE.out];exact hm1) hf1⟩
    ·rw [ho] at q0 HBX
     obtain rfl:capa=2:=by rw [hlen,ho];decide
     obtain ⟨a0,a1,ha0⟩:∃ a0 a1,x.args.map s.val=[a0,a1]:=by
      have h1:(x.args.map s.val).length=2:=by rw [List.length_map,← HN.out]
      match x.args.map s.val,h1 with
      | [a0,a1],_ => exact ⟨a0,a1,rfl⟩
     have c0:=HAC.out 0 (by rw [ha0];simp)
     have c1:=HAC.out 1 (by rw [ha0];simp)
     rw [ha0] at c0 c1
     obtain ⟨k,r,hkn,hk⟩:=arr_at (HX.out.arr (by rw [ho];decide))
     have hxk:x.n.toNat=k:=by rw [hkn];rfl
     have HE:Hid (doM x s=if inArr s k a0 then ({ lookS 22 s with arrs:=s.arrs.set k (r.set a0.toNat a1) },none) else (lookS 22 s,some (missM 22))):=hideI (by
      have har:arrM s x.n=r:=by unfold arrM;rw [List.getD_eq_getElem?_getD,hxk,hk];rfl
      unfold doM
      simp only
      rw [ho,if_pos (by simp),hxk,har,ha0,hkn]
      rfl)
     rw [hkn] at q3 HBX
     have HF:Hid (∀ n,_):=hideI fun n => element_any (HM3.out.drewN n) hk 22 x.id (.slice P 2 pc) a0
     have HK:=hideI hk
     have HCC:Hid (∀ W,KF (fun b => (K b ∨ b=w.heap.size) ∨ (W0.heap.size ≤ b ∧ b < wr.heap.size)) wr W → W.cell? ⟨W0.heap.size,0,none⟩=some (.int .i64 a0) ∧ W.cell? ⟨W0.heap.size,1,none⟩=some (.int .i64 a1)):=hideI fun W hW => by
      have hb:=hW.block W0.heap.size (.inr ⟨Nat.le_refl _,World.block_lt_of_cell? wr _ c0⟩)
      exact ⟨(World.cell?_of_block (a:=⟨W0.heap.size,0,none⟩) hb).trans c0,(World.cell?_of_block (a:=⟨W0.heap.size,1,none⟩) hb).trans c1⟩
     have HLT:=hideI (World.block_lt_of_cell? wr _ c0)
     clear ha0 ho hlen hkn hxk hk
     by_cases hin:inArr s k a0=true
     ·rw [if_pos hin] at HE
      replace HF:Hid (∀ n,Calls Tryz.prog 145 #[.pointer (some ⟨c.m,0,none⟩),.agg #[.int .i64 22,.int .i64 x.id,.slice P 2 pc,.int .i64 k],.int .i64 a0] (wr.drewN n) fun e w' => e=.returned (.tuple #[]) ∧ MachR c (fun b => (K b ∨ b=w.heap.size) ∨ (W0.heap.size ≤ b ∧ b < wr.heap.size)) w' val (lookS 22 s) ∧ KF (fun b => (K b ∨ b=w.heap.size) ∨ (W0.heap.size ≤ b ∧ b < wr.heap.size)) wr w'):=hideI fun n => (HF.out n).mono fun e w' ⟨h1,h2,h3⟩ => by
       rcases h1 with ⟨_,h1⟩ | ⟨h1,_⟩
       ·exact ⟨h1,h2,h3.undrew⟩
       ·rw [hin] at h1;cases h1
      obtain ⟨j,hj0,hj⟩:=in_nat HK.out hin
      subst hj0
      have HJ:=hideI hj
      rw [Int.toNat_natCast] at HE
      clear hin hj
      go_upto_region 11 with fail
      go_region_held3 (fun w' => w'.cell? ⟨W0.heap.size,0,none⟩=some (.int .i64 j) ∧ w'.cell? ⟨w.heap.size,0,none⟩=some (.int .i64 22) ∧ w'.cell? ⟨w.heap.size,1,none⟩=some (.int .i64 x.id) ∧ w'.cell? ⟨w.heap.size,2,none⟩=some (.slice P 2 pc) ∧ w'.cell? ⟨w.heap.size,3,none⟩=some (.int .i64 k)) (first | exact ⟨(HCC.out _ HF1.out).1,HBX.out _ HF1.out⟩ | go_keep) (first | (go_at_call 145;refine (HF.out 1).mono ?_;rintro e w4 ⟨rfl,hm1,hf1⟩;have HM1:=hideI hm1;have HF1:=hideI hf1;clear hm1 hf1))
      obtain ⟨ga,ca,gb,cp,X⟩:=HM1.out.elemAt (j:=j) (by rw [look_arrs];exact HK.out) HJ.out
      have c4:=HM1.out.cells 4
      simp only [machCells] at c4
      rw [X.arrs,look_arrs] at c4
      clear q0 q1 q2 q3 c0 c1
      obtain ⟨q0,q1,q2,q3⟩:=HBX.out _ HF1.out
      obtain ⟨c0,c1⟩:=HCC.out _ HF1.out
      have y0:=X.at_
      have y1:=X.cell
      have y2:=X.free
      have y3:=X.klt
      rw [look_arrs] at y3
      have hj:=HJ.out
      have HV:=hideI X.own
      have z1:¬ gb=c.m:=X.neb
      have z1':¬ c.m=gb:=fun e => z1 e.symm
      have z2:¬ gb=ga:=X.nab
      have z2':¬ ga=gb:=fun e => z2 e.symm
      have z3:¬ w.heap.size=gb:=fun e => (HM1.out.off (.arr k) (intRow r) gb (by simp [mRow,look_arrs,HK.out]) (by rw [HV.out];rfl)).2 (.inl (.inr e.symm))
      have z3':¬ gb=w.heap.size:=fun e => z3 e.symm
      have z4:¬ W0.heap.size=gb:=fun e => (HM1.out.off (.arr k) (intRow r) gb (by simp [mRow,look_arrs,HK.out]) (by rw [HV.out];rfl)).2 (.inr ⟨by omega,by rw [← e];exact HLT.out⟩)
      have z4':¬ gb=W0.heap.size:=fun e => z4 e.symm
      have HRL:Hid (r.length=r.length):=rfl
      obtain ⟨rl,hrl⟩:∃ rl,rl=r.length:=⟨_,rfl⟩
      obtain ⟨na,hna⟩:∃ na,na=s.arrs.length:=⟨_,rfl⟩
      rw [← hrl] at y0 hj
      rw [← hna] at c4 y3
      clear X hrl hna
      go_wp2
      go_region_held3 (fun w' => w'.cell? ⟨W0.heap.size,0,none⟩=some (.int .i64 j) ∧ w'.cell? ⟨W0.heap.size,1,none⟩=some (.int .i64 a1) ∧ w'.cell? ⟨w.heap.size,3,none⟩=some (.int .i64 k) ∧ w'.cell? ⟨c.m,4,none⟩=some (.slice (some ⟨ga,0,none⟩) na ca) ∧ w'.cell? ⟨ga,k,none⟩=some (.slice (some ⟨gb,0,none⟩) rl cp)) (first | go_keep) (first | fail)
      go_wp2
      go_end0
      have h5:=HM1.out.setElem (j:=j) (by rw [look_arrs];exact HK.out) HV.out a1
      rw [look_arrs] at h5
      exact ⟨by rw [HE.out],HDONE.out _ _ _ (by rw [HE.out];exact h5.1.drewN 1) (HF1.out.trans (h5.2.drewN 1))⟩
     ·rw [if_neg hin] at HE
      replace HF:Hid (∀ n,Calls Tryz.prog 145 #[.pointer (some ⟨c.m,0,none⟩),.agg #[.int .i64 22,.int .i64 x.id,.slice P 2 pc,.int .i64 k],.int .i64 a0] (wr.drewN n) fun e w' => e=endE (missM 22) ∧ MachR c (fun b => (K b ∨ b=w.heap.size) ∨ (W0.heap.size ≤ b ∧ b < wr.heap.size)) w' val (lookS 22 s) ∧ KF (fun b => (K b ∨ b=w.heap.size) ∨ (W0.heap.size ≤ b ∧ b < wr.heap.size)) wr w'):=hideI fun n => (HF.out n).mono fun e w' ⟨h1,h2,h3⟩ => by
       rcases h1 with ⟨h1,_⟩ | ⟨_,h1⟩
       ·exact absurd h1 hin
       ·exact ⟨h1,h2,h3.undrew⟩
      clear hin
      go_upto_region 11 with fail
      refine wp_region_panics 5 (by kernel_rfl) rfl (by kernel_rfl) (by kernel_rfl) (fun c a w d v h => by cases d <;> exact h) ?_
      simp only [List.take_succ_cons,List.take_zero,List.getElem_toArray,List.getElem_cons_succ,List.getElem_cons_zero]
      repeat (refine wpPure_step (fun K hK => ?_);go_simp;refine hK _ ?_;clear hK K)
      refine wpPure_nil ?_
      rintro w' ⟨n,rfl⟩ K'
      go_simp
      refine (HF.out n).mono ?_
      rintro e w4 ⟨he,hm1,hf1⟩
      simp only [endE,endV] at he
      subst he
      exact ⟨rfl,by rw [HE.out];rfl,HDONE.out _ _ _ (by rw [HE.out];exact hm1) hf1⟩
    ·rw [ho] at q0
     obtain rfl:capa=1:=by rw [hlen,ho];decide
     obtain ⟨a0,ha0⟩:∃ a0,x.args.map s.val=[a0]:=by
      have h1:(x.args.map s.val).length=1:=by rw [List.length_map,← HN.out]
      match x.args.map s.val,h1 with
      | [a0],_ => exact ⟨a0,rfl⟩
     have c0:=HAC.out 0 (by rw [ha0];simp)
     rw [ha0] at c0
     have HA0:=hideI ha0
     have HO:=hideI ho
     clear ha0 ho hlen
     by_cases hful:s.out.length=4096
     ·have HT:=hideI (tell_full HM3.out hful a0)
      have HE:Hid (doM x s=(s,some (4,0,0))):=hideI (by
       unfold doM
       simp only
       rw [HO.out,if_neg (by decide),if_pos rfl,if_pos hful])
      clear hful
      go_wp2_with (first | (go_at_call 146;refine HT.out.mono ?_;rintro e w3 ⟨he,hm1,hf1⟩;simp only [endE,endV] at he;subst he))
      exact ⟨rfl,by rw [HE.out];rfl,HDONE.out _ _ _ (by rw [HE.out];exact hm1) hf1⟩
     ·have HT:=hideI (tell_go HM3.out (by have:=HOUT.out;omega) a0)
      have HE:Hid (doM x s=({ s with out:=s.out ++ [a0] },none)):=hideI (by
       unfold doM
       simp only
       rw [HO.out,if_neg (by decide),if_pos rfl,if_neg hful,HA0.out]
       rfl)
      clear hful
      go_wp2_with (first | (go_at_call 146;refine HT.out.mono ?_;rintro e w3 ⟨rfl,val1,hm1,hf1⟩))
      go_end0
      exact ⟨by rw [HE.out],HDONE.out _ _ _ (by rw [HE.out];exact hm1) hf1⟩
    ·rw [ho] at q0
     obtain rfl:capa=1:=by rw [hlen,ho];decide
     obtain ⟨a0,ha0⟩:∃ a0,x.args.map s.val=[a0]:=by
      have h1:(x.args.map s.val).length=1:=by rw [List.length_map,← HN.out]
      match x.args.map s.val,h1 with
      | [a0],_ => exact ⟨a0,rfl⟩
     have c0:=HAC.out 0 (by rw [ha0];simp)
     rw [ha0] at c0
     obtain ⟨hn0,hn1⟩:=HX.out.cell (by rw [ho];decide)
     obtain ⟨j,hj⟩:=Int.eq_ofNat_of_zero_le hn0
     rw [hj] at hn1 q3
     have hjn:j < s.cells.length:=by omega
     have hrr:mRow s c.nv val .cells=some (intRow s.cells):=rfl
     obtain ⟨gv,cv,hv⟩:=HM3.out.slice hrr (by show 0 < s.cells.length;omega)
     have hrc:=HM3.out.cell hrr hv (j:=j) hjn
     obtain ⟨x0,x1⟩:=hrc
     have e2:(intRow s.cells).cells[j]?=some (.int .i64 (s.cells.getD j 0)):=by
      show (s.cells.map _)[j]?=_
      rw [List.getElem?_map,List.getD_eq_getElem?_getD,List.getElem?_eq_getElem hjn]
      rfl
     rw [e2] at x0
     have hv:val .cells=.slice (some ⟨gv,0,none⟩) s.cells.length cv:=hv
     have c12:=HM3.out.cells 12
     simp only [machCells] at c12
     rw [hv] at c12
     have HV:=hideI hv
     have HE:Hid (doM x s=({ s with cells:=s.cells.set j a0 },none)):=hideI (by
      unfold doM
      simp only
      rw [ho,if_neg (by decide),if_neg (by decide),if_pos rfl,hj,ha0]
      rfl)
     have hgm:¬ c.m=gv:=fun e => (HM3.out.off .cells _ gv rfl (by rw [HV.out];rfl)).1 e.symm
     have hgb:¬ w.heap.size=gv:=fun e => (HM3.out.off .cells _ gv rfl (by rw [HV.out];rfl)).2 (.inl (.inr e.symm))
     have hga:¬ W0.heap.size=gv:=fun e => (HM3.out.off .cells _ gv rfl (by rw [HV.out];rfl)).2 (.inr ⟨by omega,by rw [← e];exact World.block_lt_of_cell? wr _ c0⟩)
     have hgm':¬ gv=c.m:=fun e => hgm e.symm
     have hgb':¬ gv=w.heap.size:=fun e => hgb e.symm
     have hga':¬ gv=W0.heap.size:=fun e => hga e.symm
     generalize s.cells.length=nc at c12 hjn
     clear ha0 ho hlen hn0 hn1 hj hrr e2 hv
     go_wp2
     go_region_held3 (fun w' => w'.cell? ⟨c.m,12,none⟩=some (.slice (some ⟨gv,0,none⟩) nc cv) ∧ w'.cell? ⟨w.heap.size,3,none⟩=some (.int .i64 j) ∧ w'.cell? ⟨W0.heap.size,0,none⟩=some (.int .i64 a0)) (first | go_keep) (first | fail)
     go_wp2
     go_end0
     have h5:=HM3.out.setCells HV.out (j:=j) a0
     exact ⟨by rw [HE.out],HDONE.out _ _ _ (by rw [HE.out];exact h5.1.drewN 1) (h5.2.drewN 1)⟩
   ·have HMK:=hideI hmk
    have hop:=HX.out.isop
    have hneq:x.op ≠ 20 ∧ x.op ≠ 22 ∧ x.op ≠ 23 ∧ x.op ≠ 25:=⟨fun e => hmk (by rw [e];decide),fun e => hmk (by rw [e];decide),fun e => hmk (by rw [e];decide),fun e => hmk (by rw [e];decide)⟩
    have d20:(x.op == 20)=false:=by simpa using hneq.1
    have d22:(x.op == 22)=false:=by simpa using hneq.2.1
    have d23:(x.op == 23)=false:=by simpa using hneq.2.2.1
    have d25:(x.op == 25)=false:=by simpa using hneq.2.2.2
    have HE:Hid (doM x s=match madeM x (x.args.map s.val) s with | (s1,.inl v) => ({ s1 with val:=setV s1.val x.id v },none) | (s1,.inr e) => (s1,some e)):=hideI (by
     unfold doM
     simp only
     rw [if_neg (by rintro (e | e);exact hneq.1 e;exact hneq.2.1 e),if_neg hneq.2.2.1,if_neg hneq.2.2.2]
     rcases madeM x (x.args.map s.val) s with ⟨s1,v | e⟩ <;> rfl)
    have hid:=HX.out.id hmk
    have HMADE:Hid (∀ n,Calls Tryz.prog 147 #[.pointer (some ⟨c.m,0,none⟩),boxI x (.slice P i pc),.slice (some ⟨W0.heap.size,0,none⟩) i i] (wr.drewN n) (MadePost c _ (wr.drewN n) val (madeM x (x.args.map s.val) s))):=hideI fun n =>
     made_any (HM3.out.drewN n) x (.slice P i pc) HX.out HMK.out (by rw [List.length_map];exact HX.out.len) (HAR.out.kf (KF.drewN (KF.refl _) n))
    clear hop hneq hmk
    cases hr:madeM x (x.args.map s.val) s with
    | mk s1 r =>
     rw [hr] at HMADE HE
     cases r with
     | inl v =>
      clear hr
      obtain ⟨gv,cv,j,hj,hjn,hv,hrc,hrf,hgm,hgv⟩:=HM3.out.valAt hid.1 hid.2
      have c11:=HM3.out.cells 11
      simp only [machCells] at c11
      rw [hv] at c11
      unfold boxI at HMADE
      rw [hj] at q1 HBX HMADE
      have HV:=hideI hv
      have HJ:=hideI hj
      have hgb:gv ≠ w.heap.size:=fun e => (HM3.out.off .vals _ gv rfl (by rw [HV.out];rfl)).2 (.inl (.inr e))
      have hgb':¬ w.heap.size=gv:=fun e => hgb e.symm
      have hgm':¬ c.m=gv:=fun e => hgm e.symm
      have hlm:=HM3.out.m_lt
      have HSS:Hid (∀ W t,MachR c (fun b => (K b ∨ b=w.heap.size) ∨ (W0.heap.size ≤ b ∧ b < wr.heap.size)) W val t → KF (fun b => (K b ∨ b=w.heap.size) ∨ (W0.heap.size ≤ b ∧ b < wr.heap.size)) wr W → W.cell? ⟨c.m,11,none⟩=some (.slice (some ⟨gv,0,none⟩) c.nv cv) ∧ W.cell? ⟨w.heap.size,0,none⟩=some (.int .i64 x.op) ∧ W.cell? ⟨w.heap.size,1,none⟩=some (.int .i64 j) ∧ W.cell? ⟨w.heap.size,2,none⟩=some (.slice P i pc) ∧ W.cell? ⟨w.heap.size,3,none⟩=some (.int .i64 x.n)):=hideI fun W t h1 h2 => ⟨(h1.cells 11).trans (by simp [machCells,HV.out]),HBX.out W h2⟩
      clear hid hj hv hrc hrf
      go_wp2
      go_region_held3 (fun w' => w'.cell? ⟨c.m,11,none⟩=some (.slice (some ⟨gv,0,none⟩) c.nv cv) ∧ w'.cell? ⟨w.heap.size,0,none⟩=some (.int .i64 x.op) ∧ w'.cell? ⟨w.heap.size,1,none⟩=some (.int .i64 j) ∧ w'.cell? ⟨w.heap.size,2,none⟩=some (.slice P i pc) ∧ w'.cell? ⟨w.heap.size,3,none⟩=some (.int .i64 x.n)) (first | exact HC1 | go_keep)
       (first | (go_at_call 147;refine (HMADE.out 1).mono ?_;rintro e w1 ⟨he,hm1,hf1⟩;obtain rfl:e=.returned (.int .i64 v):=he;have HM4:=hideI hm1;have HF4:=hideI hf1.undrew;obtain ⟨x0,x1⟩:=hm1.valCell HV.out hjn;have HC1:=HSS.out _ _ HM4.out HF4.out;clear hm1 hf1))
      go_wp2
      go_end0
      have h5:=HM4.out.setVal HV.out (j:=j) v
      exact ⟨by rw [HE.out],HDONE.out _ _ _ (by rw [HE.out,HJ.out];exact h5.1) (HF4.out.trans h5.2)⟩
     | inr en =>
      clear hr
      obtain ⟨gv,cv,j,hj,_,hv,_⟩:=HM3.out.valAt hid.1 hid.2
      have c11:=HM3.out.cells 11
      simp only [machCells] at c11
      rw [hv] at c11
      clear hid hj hv
      go_wp2
      refine wp_region_panics 9 (by kernel_rfl) rfl (by kernel_rfl) (by kernel_rfl) (fun c a w d v h => by cases d <;> exact h) ?_
      simp only [List.take_succ_cons,List.take_zero,List.getElem_toArray,List.getElem_cons_succ,List.getElem_cons_zero]
      repeat (refine wpPure_step (fun K hK => ?_);go_simp;refine hK _ ?_;clear hK K)
      refine wpPure_nil ?_
      rintro w' ⟨n,rfl⟩ K'
      go_simp
      refine (HMADE.out n).mono ?_
      rintro e w1 ⟨he,hm1,hf1⟩
      simp only [endE,endV] at he
      subst he
      exact ⟨rfl,by rw [HE.out];rfl,HDONE.out _ _ _ (by rw [HE.out];exact hm1) hf1.undrew⟩
end
end Go.Proofs.YtkaifkjbmdcmlaaGreat
