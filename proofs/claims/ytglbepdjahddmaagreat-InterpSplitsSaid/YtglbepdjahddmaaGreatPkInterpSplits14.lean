/- What InterpSplits rests on, part 14: IMachOf, IRun, IAwake, IRunNo, IOk, ITakeA, IRunAny, IKeep. -/
import Derived.Test.YtglbepdjahddmaaGreatPkInterpSplits13
import Derived.Deep.RegionHeldLaw

namespace Go.Proofs.YtglbepdjahddmaaGreat
open Go.RowKit Go.Maps
section
variable {c:MachC} {K:Nat → Prop} {w w1:World} {val val':MVals} {s s':StM}
theorem MachR.remake (h:MachR c K w val s) (t0:MTag) (hk:KF K w w1) (hblk:w1.heap[c.m]?=some (.cells (machCells c val' s') 97 (0,0)))
  (hrows:∀ t d,mRow s' c.nv val' t=some d → w1.ownsRow 0 d.elem 1 (val' t) d.len d.cells)
  (hown:∀ t d g,mRow s' c.nv val' t=some d → (val' t).ownBlock=some g → (t ≠ t0 ∧ (∃ d0,mRow s c.nv val t=some d0) ∧ (val t).ownBlock=some g) ∨ (t=t0 ∧ w.heap.size ≤ g)):MachR c K w1 val' s':=by
 refine ⟨hblk,hrows,fun t t' d d' g h1 h2 e1 e2 => ?_,fun t d g h1 e1 => ?_,h.offm,fun b hb => Nat.lt_of_lt_of_le (h.low b hb) hk.size,h.kB,h.kM,h.ops.heap (hk.block _ h.kM),h.blks.keeps (hk.keeps h.kB)⟩
 ·rcases hown t d g h1 e1 with ⟨_,⟨d0,x0⟩,x1⟩ | ⟨x0,x1⟩
  ·rcases hown t' d' g h2 e2 with ⟨_,⟨d1,y0⟩,y1⟩ | ⟨y0,y1⟩
   ·exact h.apart t t' d0 d1 g x0 y0 x1 y1
   ·have:=h.own_lt x0 x1;omega
  ·rcases hown t' d' g h2 e2 with ⟨_,⟨d1,y0⟩,y1⟩ | ⟨y0,y1⟩
   ·have:=h.own_lt y0 y1;omega
   ·rw [x0,y0]
 ·rcases hown t d g h1 e1 with ⟨_,⟨d0,x0⟩,x1⟩ | ⟨x0,x1⟩
  ·exact h.off t d0 g x0 x1
  ·refine ⟨by have:=h.m_lt;omega,fun hK => by have:=h.low g hK;omega⟩
theorem MachR.newVis (h:MachR c K w val s) {v:Value} {n:Nat} (hb:Below w.heap.size w w1) (hown:w1.ownsRow w.heap.size 3 1 v n (List.replicate n (.int .i64 0))) :
  MachR c K (w1.setCell ⟨c.m,7,none⟩ v) (fun t => if t=.vis then v else val t) { s with vis:=List.replicate n 0 } ∧ KF K w (w1.setCell ⟨c.m,7,none⟩ v):=by
 have hk:KF K w (w1.setCell ⟨c.m,7,none⟩ v):=(KF.of_below hb h.low).setCell h.offm v
 have hml:=h.m_lt
 have row:∀ t,t ≠ .vis → mRow { s with vis:=List.replicate n 0 } c.nv (fun t => if t=.vis then v else val t) t=mRow s c.nv val t:=fun t ht => by
  cases t with
  | vis => exact absurd rfl ht
  | arrs => simp [mRow]
  | _ => rfl
 have hge:∀ g,v.ownBlock=some g → w.heap.size ≤ g:=fun g e => (hown.lt g e).1
 refine ⟨h.remake .vis hk ?_ (fun t d ht => ?_) (fun t d g ht e => ?_),hk⟩
 ·rw [heap_setCell_same w1 c.m 7 _ _ v ((hb.block _ hml).trans h.blk)]
  congr 2
 ·by_cases e:t=.vis
  ·subst e
   injection ht with ht
   subst ht
   rw [if_pos rfl]
   have e2:intRow (List.replicate n 0)=⟨3,n,List.replicate n (.int .i64 0)⟩:=by unfold intRow;simp
   rw [e2]
   exact ownsRow_setCell_other (World.ownsRow.mono hown (Nat.zero_le _)) (fun e3 => by have:=hge _ e3;simp at this;omega) v
  ·rw [if_neg e]
   rw [row t e] at ht
   refine owns_kept (h.rows t d ht) fun g hg => ?_
   rw [Below.heap_setCell _ _ _ _ (h.off t d g ht hg).1]
   exact hb.block g (h.own_lt ht hg)
 ·by_cases e2:t=.vis
  ·rw [if_pos e2] at e
   exact .inr ⟨e2,hge g e⟩
  ·rw [if_neg e2] at e
   rw [row t e2] at ht
   exact .inl ⟨e2,⟨d,ht⟩,e⟩
theorem MachR.newArrs (h:MachR c K w val s) {v:Value} {n:Nat} (hb:Below w.heap.size w w1) (hown:w1.ownsRow w.heap.size 22 1 v n (List.replicate n (.slice none 0 0))) :
  ∃ val',MachR c K (w1.setCell ⟨c.m,4,none⟩ v) val' { s with arrs:=List.replicate n [] } ∧ KF K w (w1.setCell ⟨c.m,4,none⟩ v):=by
 have hk:KF K w (w1.setCell ⟨c.m,4,none⟩ v):=(KF.of_below hb h.low).setCell h.offm v
 have hml:=h.m_lt
 have hge:∀ g,v.ownBlock=some g → w.heap.size ≤ g:=fun g e => (hown.lt g e).1
 refine ⟨fun t => match t with | .arrs => v | .arr _ => .slice none 0 0 | t => val t,h.remake .arrs hk ?_ (fun t d ht => ?_) (fun t d g ht e => ?_),hk⟩
 ·rw [heap_setCell_same w1 c.m 4 _ _ v ((hb.block _ hml).trans h.blk)]
  congr 2
 ·have old:∀ t',mRow s c.nv val t'=some d → (w1.setCell ⟨c.m,4,none⟩ v).ownsRow 0 d.elem 1 (val t') d.len d.cells:=fun t' ht' => by
   refine owns_kept (h.rows t' d ht') fun g hg => ?_
   rw [Below.heap_setCell _ _ _ _ (h.off t' d g ht' hg).1]
   exact hb.block g (h.own_lt ht' hg)
  cases t with
  | arrs =>
   injection ht with ht
   subst ht
   have e2:((List.range (List.replicate n ([]:List Int)).length).map fun i => (Value.slice none 0 0))=List.replicate n (.slice none 0 0):=by
    rw [List.length_replicate]
    apply List.ext_getElem?
    intro k
    by_cases hk:k < n <;> simp [hk]
   simp only [List.length_replicate] at e2 ⊢
   rw [e2]
   exact ownsRow_setCell_other (World.ownsRow.mono hown (Nat.zero_le _)) (fun e3 => by have:=hge _ e3;simp at this;omega) v
  | arr i =>
   simp only [mRow] at ht
   obtain ⟨a,ha,rfl⟩:∃ a,(List.replicate n ([]:List Int))[i]?=some a ∧ intRow a=d:=by
    cases hx:(List.replicate n ([]:List Int))[i]? with
    | none => rw [hx] at ht;cases ht
    | some a => rw [hx] at ht;exact ⟨a,rfl,by injection ht⟩
   have:a=[]:=by
    rw [List.getElem?_replicate] at ha
    split at ha
    ·injection ha with ha;exact ha.symm
    ·cases ha
   subst this
   exact World.ownsRow_nil _ _ _ _
  | vals => exact old .vals ht
  | cells => exact old .cells ht
  | vis => exact old .vis ht
  | out => exact old .out ht
 ·cases t with
  | arrs => exact .inr ⟨rfl,hge g e⟩
  | arr i => cases e
  | vals => exact .inl ⟨by simp,⟨d,ht⟩,e⟩
  | cells => exact .inl ⟨by simp,⟨d,ht⟩,e⟩
  | vis => exact .inl ⟨by simp,⟨d,ht⟩,e⟩
  | out => exact .inl ⟨by simp,⟨d,ht⟩,e⟩
end
def TakeArrs (f:FuncM) (I:InM) (B:Nat) (w:World) (av:Value):Prop :=
 ∀ (c:MachC) (K:Nat → Prop) (W:World) (val:MVals) (s:StM),MachR c K W val s → Keeps B w W → (∀ b,b < B → K b) → s.arrs=List.replicate f.arrays.toNat [] →
  Calls Tryz.prog 76 #[.pointer (some ⟨c.m,0,none⟩),av] W fun e w' => e=.returned (.tuple #[]) ∧ ∃ val',MachR c K w' val' { s with arrs:=(startS f I).arrs } ∧ KF K W w'
set_option maxRecDepth 100000 in
set_option maxHeartbeats 1000000 in
theorem takeArrays_none (f:FuncM) (I:InM) (B:Nat) (w:World) (av:Value) (A:Option Addr) (n cp:Nat) (hav:av=.slice A n cp) (h0:f.arrays=0):TakeArrs f I B w av:=by
 intro c K W val s h _ _ hs
 subst hav
 have H:=hideI h
 have hs0:s.arrs=[]:=by rw [hs,h0];rfl
 have HE:Hid ({ s with arrs:=(startS f I).arrs }=s):=hideI (by
  have:(startS f I).arrs=s.arrs:=by rw [hs0];unfold startS;rw [h0];rfl
  rw [this])
 have hrow:=h.rows .arrs _ rfl
 rw [hs0] at hrow
 have c4:=h.cells 4
 simp only [machCells] at c4
 obtain ⟨A2,cp2,hv⟩:∃ A2 cp2,val .arrs=.slice A2 0 cp2:=by
  rcases hrow.2 with ⟨e,_⟩ | ⟨g,cap,cur,e,_⟩
  ·exact ⟨none,0,e⟩
  ·exact ⟨_,_,e⟩
 rw [hv] at c4
 clear hrow hv hs hs0 h0 h
 go_enter Tryz.func76,Tryz.ntmps76
 go_wp2
 go_loopw [15] (fun u wr => u=.int .i64 0 ∧ wr=W) (fun _ _ => 0)
 case atStart => exact ⟨rfl,rfl⟩
 case round =>
  obtain ⟨rfl,rfl⟩:=hrel
  go_wp2
  go_end0
  exact ⟨rfl,val,by rw [HE.out];exact H.out,KF.refl _⟩
theorem MN.done {W1 W:World} {nv nc M V C B:Nat} {f:FuncM} {bv:Value} {F:Int} (h:MN W1 W nv nc (some M) (some V) (some C)) (hbv:BlocksR W1 B bv f.blocks) (hB:B ≤ W1.heap.size) :
  ∃ (c:MachC) (val:MVals),Value.pointer (some ⟨W.heap.size,0,none⟩)=.pointer (some ⟨c.m,0,none⟩) ∧ Hid (c.f=f ∧ c.B=B ∧ c.nv=nv ∧ c.fuel=F ∧
   MachR c (fun b => b < W1.heap.size ∨ b=c.M) (W.alloc (.cells #[.int .i64 0,.int .i64 0,.int .i64 0,.slice none 0 0,.slice none 0 0,.int .i64 0,.int .i64 0,.slice none 0 0,.map (some M),bv,.int .i64 F,.slice (some ⟨V,0,none⟩) nv nv,.slice (some ⟨C,0,none⟩) nc nc] 97)) val (firstS nc) ∧
   Below W1.heap.size W1 (W.alloc (.cells #[.int .i64 0,.int .i64 0,.int .i64 0,.slice none 0 0,.slice none 0 0,.int .i64 0,.int .i64 0,.slice none 0 0,.map (some M),bv,.int .i64 F,.slice (some ⟨V,0,none⟩) nv nv,.slice (some ⟨C,0,none⟩) nc nc] 97))):=by
 obtain ⟨val,_,_,hm⟩:=h.machine (F:=F) hbv hB
 exact ⟨_,val,rfl,hideI ⟨rfl,rfl,rfl,rfl,hm,h.below.alloc h.below.size _⟩⟩
theorem start_vals (f:FuncM) (I:InM):argVals (fun _ => 0) f.params I.args (min f.params.length I.args.length)=(startS f I).val:=by
 funext x
 show argVals (fun _ => 0) f.params I.args (min f.params.length I.args.length) x=if 0 ≤ x then argM f I x.toNat else 0
 unfold argVals argM argOf
 by_cases h0:0 ≤ x
 ·by_cases h1:x < (min f.params.length I.args.length:Nat)
  ·rw [if_pos ⟨h0,h1⟩,if_pos h0]
   exact (if_pos ⟨by omega,by omega⟩).symm
  ·rw [if_neg (fun e => h1 e.2),if_pos h0]
   exact (if_neg (by omega)).symm
 ·rw [if_neg (fun e => h0 e.1),if_neg h0]
def MachPost (f:FuncM) (I:InM) (B:Nat) (_bv:Value) (F:Nat) (w:World) (e:Ending) (w':World):Prop :=
 ∃ (c:MachC) (val:MVals),e=.returned (.pointer (some ⟨c.m,0,none⟩)) ∧ c.f=f ∧ c.B=B ∧ c.nv=(roomM f).toNat ∧ c.fuel=F ∧ MachR c (fun b => b < w.heap.size ∨ b=c.M) w' val (startS f I) ∧ Below w.heap.size w w'
set_option maxRecDepth 100000 in
set_option maxHeartbeats 8000000 in
theorem machineOf_any (f:FuncM) (I:InM) (B:Nat) (pv bv av rv:Value) (F:Nat) (w:World) (hpv:Ints w B pv f.params) (hbv:BlocksR w B bv f.blocks) (hB:B ≤ w.heap.size) (hid:∀ u ∈ usesM f,I64 u.1)
  (hr:∀ x ∈ idsOut f,0 ≤ x ∧ x ≤ 1048575) (hpar:f.params.length ≤ 16 ∧ (f.params.length:Int) ≤ roomM f) (hcel:0 ≤ f.cells ∧ f.cells ≤ 64) (harr:0 ≤ f.arrays ∧ f.arrays ≤ 8) (hnb:f.blocks.length ≤ 512)
  (ha:Ints w B av I.args) (hT:TakeArrs f I B w rv) (A2:Option Addr) (rl rc:Nat) (hrv:rv=.slice A2 rl rc) :
  Calls Tryz.prog 42 #[.agg #[pv,.int .i64 f.arrays,.int .i64 f.cells,bv],.agg #[av,rv],.int .i64 F] w (MachPost f I B bv F w):=by
 obtain ⟨i0,hix,hi2⟩:∃ i,Tryz.prog.info? 3=some i ∧ i.zero=some (.int .i64 0) ∧ i.size=1 ∧ i.bytes=8:=⟨_,rfl,rfl,rfl,rfl⟩
 obtain ⟨hz0,hz1,hz2⟩:=hi2
 obtain ⟨j0,hjx,hj2⟩:∃ i,Tryz.prog.info? 22=some i ∧ i.zero=some (.slice none 0 0) ∧ i.size=1 ∧ i.bytes=24:=⟨_,rfl,rfl,rfl,rfl⟩
 obtain ⟨hy0,hy1,hy2⟩:=hj2
 have HPV:=hideI hpv
 have HBV:=hideI hbv
 have HAV:=hideI ha
 obtain ⟨P,pc,rfl,_,_⟩:=hpv
 obtain ⟨A,cc,rfl,_,_⟩:=hbv
 obtain ⟨A1,ac,rfl,_,_⟩:=ha
 subst hrv
 obtain ⟨nvN,hnv⟩:∃ n:Nat,n=(roomM f).toNat:=⟨_,rfl⟩
 have hroom:roomM f=nvN ∧ nvN ≤ 1048576:=by
  unfold roomM at *
  cases hl:(idsOut f).getLast? with
  | none => rw [hl] at hnv;simp only at hnv ⊢;omega
  | some x =>
   have:=hr x (List.mem_of_getLast? hl)
   rw [hl] at hnv
   simp only at hnv ⊢
   omega
 obtain ⟨ncN,hnc⟩:∃ n:Nat,f.cells=n:=⟨f.cells.toNat,by omega⟩
 obtain ⟨naN,hna⟩:∃ n:Nat,f.arrays=n:=⟨f.arrays.toNat,by omega⟩
 obtain ⟨nb,hnbN⟩:∃ n:Nat,n=f.blocks.length:=⟨_,rfl⟩
 obtain ⟨W1,hW1⟩:∃ W1,W1=(w.alloc (.cells #[.slice P f.params.length pc,.int .i64 f.arrays,.int .i64 f.cells,.slice A f.blocks.length cc] 25)).alloc (.cells #[.slice A1 I.args.length ac,.slice A2 rl rc] 41):=⟨_,rfl⟩
 have hb1:Below w.heap.size w W1:=by rw [hW1];exact ((Below.refl _ w).alloc (Nat.le_refl _) _).alloc (by simp) _
 have hs1:W1.heap.size=w.heap.size + 2:=by rw [hW1];simp
 have hf0:W1.heap[w.heap.size]?=some (.cells #[.slice P f.params.length pc,.int .i64 f.arrays,.int .i64 f.cells,.slice A f.blocks.length cc] 25 (0,0)):=by
  rw [hW1,Below.heap_alloc _ _ _ (by simp)]
  exact heap_alloc_new w _
 have hi0:W1.heap[w.heap.size + 1]?=some (.cells #[.slice A1 I.args.length ac,.slice A2 rl rc] 41 (0,0)):=by
  rw [hW1]
  have:=heap_alloc_new (w.alloc (.cells #[.slice P f.params.length pc,.int .i64 f.arrays,.int .i64 f.cells,.slice A f.blocks.length cc] 25)) (.cells #[.slice A1 I.args.length ac,.slice A2 rl rc] 41)
  simpa using this
 have hk1:Keeps B w W1:=Keeps.of_below (hb1.mono hB)
 rw [hnc,hna,← hnbN] at hf0
 rw [hnc,hna,← hnbN] at hW1
 have HF0:=hideI hf0
 have HI0:=hideI hi0
 have HB1:=hideI hb1
 have HS1:=hideI hs1
 have HW1:=hideI hW1
 have HBX:Hid (∀ W,Below W1.heap.size W1 W → W.cell? ⟨w.heap.size,0,none⟩=some (.slice P f.params.length pc) ∧ W.cell? ⟨w.heap.size,1,none⟩=some (.int .i64 naN) ∧ W.cell? ⟨w.heap.size,2,none⟩=some (.int .i64 ncN) ∧ W.cell? ⟨w.heap.size,3,none⟩=some (.slice A nb cc) ∧ W.cell? ⟨w.heap.size + 1,0,none⟩=some (.slice A1 I.args.length ac) ∧ W.cell? ⟨w.heap.size + 1,1,none⟩=some (.slice A2 rl rc)):=hideI fun W hW => by
  have hx:=row_cells HF0.out (hW.block _ (by have:=HS1.out;omega))
  have hy:=row_cells HI0.out (hW.block _ (by have:=HS1.out;omega))
  exact ⟨hx 0,hx 1,hx 2,hx 3,hy 0,hy 1⟩
 have HROOM:Hid (∀ W,Below W1.heap.size W1 W → Calls Tryz.prog 74 #[.agg #[.slice P f.params.length pc,.int .i64 naN,.int .i64 ncN,.slice A nb cc]] W fun e w' => e=.returned (.int .i64 nvN) ∧ Below W.heap.size W w'):=hideI fun W hW => by
  have hk:=hk1.trans (Keeps.of_below (hW.mono (by have:=HS1.out;omega)))
  have h:=roomFor_any f B _ _ W (HPV.out.keeps hk) (HBV.out.keeps hk) (by have:=hW.size;have:=HS1.out;omega) hid hr
  rw [hroom.1,hnc,hna,← hnbN] at h
  exact h
 obtain ⟨RV,hRV⟩:∃ RV,RV=madeCells (Value.int .i64 0).cells (nvN * 1):=⟨_,rfl⟩
 obtain ⟨RC,hRC⟩:∃ RC,RC=madeCells (Value.int .i64 0).cells (ncN * 1):=⟨_,rfl⟩
 have HRV:Hid (RV.toList=List.replicate nvN (.int .i64 0)):=hideI (by rw [hRV,Nat.mul_one];exact madeRow_zero nvN)
 have HRC:Hid (RC.toList=List.replicate ncN (.int .i64 0)):=hideI (by rw [hRC,Nat.mul_one];exact madeRow_zero ncN)
 have hmkV:∀ W:World,(Instr.makeSlice 22 (.int .i64 nvN) (.int .i64 nvN)).run Tryz.prog W=.ok (.slice (some ⟨W.heap.size,0,none⟩) nvN nvN) (W.alloc (.cells RV 3)):=fun W => by
  have:=run_make (P:=Tryz.prog) W 22 3 i0 (.int .i64 0) Tryz.underlying22 hix hz0 .i64 .i64 (nvN:Int) (nvN:Int) (by omega) (Int.le_refl _) (by rw [hz2];omega) (by omega)
  rw [hz1,Int.toNat_natCast,← hRV] at this
  exact this
 have hmkC:∀ W:World,(Instr.makeSlice 22 (.int .i64 ncN) (.int .i64 ncN)).run Tryz.prog W=.ok (.slice (some ⟨W.heap.size,0,none⟩) ncN ncN) (W.alloc (.cells RC 3)):=fun W => by
  have:=run_make (P:=Tryz.prog) W 22 3 i0 (.int .i64 0) Tryz.underlying22 hix hz0 .i64 .i64 (ncN:Int) (ncN:Int) (by omega) (Int.le_refl _) (by rw [hz2];omega) (by omega)
  rw [hz1,Int.toNat_natCast,← hRC] at this
  exact this
 have HNV:Hid (nvN=(roomM f).toNat ∧ nvN ≤ 1048576 ∧ ncN ≤ 64 ∧ naN ≤ 8 ∧ nb ≤ 512):=hideI ⟨hnv,hroom.2,by omega,by omega,by omega⟩
 have HBV1:=hideI (HBV.out.keeps hk1)
 rw [← hnbN] at HBV1
 have HNC:=hideI hnc
 have HNA:=hideI hna
 have HNB:=hideI hnbN
 have HPAR:=hideI hpar
 have HT:=hideI hT
 have hbx:=HBX.out W1 (Below.refl _ _)
 obtain ⟨q0,q1,q2,q3,q4,q5⟩:=hbx
 have hlt0:w.heap.size < W1.heap.size:=by omega
 have hlt1:w.heap.size + 1 < W1.heap.size:=by omega
 rw [hnc,hna,← hnbN]
 clear hRV hRC hnv hroom hnc hna hnbN hpar hT hW1 hb1 hs1 hf0 hi0 hk1 hid hr hcel harr hnb
 go_enter Tryz.func42,Tryz.ntmps42
 go_upto_region 1 with fail
 rw [← HW1.out]
 go_cut [7] (fun u wx => ∃ (c:MachC) (val:MVals),u=.pointer (some ⟨c.m,0,none⟩) ∧ Hid (c.f=f ∧ c.B=B ∧ c.nv=nvN ∧ c.fuel=F ∧ MachR c (fun b => b < W1.heap.size ∨ b=c.M) wx val (firstS ncN) ∧ Below W1.heap.size W1 wx))
 case first =>
  have hc64:ncN ≤ 2000000:=by have:=HNV.out;omega
  have hv20:nvN ≤ 2000000:=by have:=HNV.out;omega
  have HC64:=hideI hc64
  have HV20:=hideI hv20
  have hw1B:B ≤ W1.heap.size:=by have:=HS1.out;omega
  have HW1B:=hideI hw1B
  clear hc64 hv20 hw1B q4 q5
  go_region_held3 (fun w' => w'.cell? ⟨w.heap.size,0,none⟩=some (.slice P f.params.length pc) ∧ w'.cell? ⟨w.heap.size,1,none⟩=some (.int .i64 naN) ∧ w'.cell? ⟨w.heap.size,2,none⟩=some (.int .i64 ncN) ∧ w'.cell? ⟨w.heap.size,3,none⟩=some (.slice A nb cc)) (first | go_keep | exact HKP.out)
   (first
    | (go_at_call 47;refine (pairs_any _).mono ?_;rintro e w2 ⟨rfl,hops,hbp⟩;(first | (have hMN:=hideI (MN.ops (MN.start W1 1 (nv:=nvN) (nc:=ncN)) hbp hops)) | (have hMN:=hideI (MN.ops (MN.cells (MN.start W1 1 (nv:=nvN) (nc:=ncN)) HC64.out HRC.out) hbp hops)));have hpp:=HBX.out _ hMN.out.below;have HKP:=hideI (And.intro hpp.1 (And.intro hpp.2.1 (And.intro hpp.2.2.1 hpp.2.2.2.1)));have hw2l:=hMN.out.below.size;clear hpp hops hbp)
    | (go_at_call 74;refine (HROOM.out _ (by first | exact hMN.out.below | exact (hMN.out.cells HC64.out HRC.out).below)).mono ?_;rintro e w3 ⟨rfl,hbr⟩;(first | (have hMN2:=hideI (hMN.out.grow hbr)) | (have hMN2:=hideI ((hMN.out.cells HC64.out HRC.out).grow hbr)));have hpp:=HBX.out _ hMN2.out.below;have HKP:=hideI (And.intro hpp.1 (And.intro hpp.2.1 (And.intro hpp.2.2.1 hpp.2.2.2.1)));have hw3l:=hMN2.out.below.size;clear hpp hbr))
  all_goals
   go_wp2_with fail
   go_meet
   first
    | (have hd:=MN.done (F:=(F:Int)) (hMN2.out.vals HV20.out HRV.out) HBV1.out HW1B.out
       simp only [World.size_alloc,World.heap_drewN] at hd
       exact hd)
    | (have hd:=MN.done (F:=(F:Int)) ((hMN2.out.cells HC64.out HRC.out).vals HV20.out HRV.out) HBV1.out HW1B.out
       simp only [World.size_alloc,World.heap_drewN] at hd
       exact hd)
    | (have hd:=MN.done (F:=(F:Int)) ((hMN2.out.vals HV20.out HRV.out).cells HC64.out HRC.out) HBV1.out HW1B.out
       simp only [World.size_alloc,World.heap_drewN] at hd
       exact hd)
 case rest =>
  obtain ⟨c,val,rfl,hcut⟩:=hcut
  obtain ⟨hcf,hcB,hcn,hcF,hm,hb⟩:=hcut.out
  have HC:=hideI (And.intro hcf (And.intro hcB (And.intro hcn hcF)))
  have HM:=hideI hm
  have HBW:=hideI hb
  have q:=HBX.out _ hb
  clear q0 q1 q2 q3 q4 q5 hcut hcf hcB hcn hcF
  obtain ⟨q0,q1,q2,q3,q4,q5⟩:=q
  have f7:=hm.free 7
  have c7:=hm.cells 7
  simp only [machCells] at c7
  have hml:=hm.m_lt
  have hnbl:=HNV.out
  have z1:¬ c.m=w.heap.size:=fun e => HM.out.offm (.inl (by rw [e];omega))
  have z1':¬ w.heap.size=c.m:=fun e => z1 e.symm
  have z2:¬ c.m=w.heap.size + 1:=fun e => HM.out.offm (.inl (by rw [e];omega))
  have z2':¬ w.heap.size + 1=c.m:=fun e => z2 e.symm
  have HBY:Hid (∀ W,Below wc.heap.size wc W → Below W1.heap.size W1 W):=hideI fun W hW => HBW.out.trans (hW.mono HBW.out.size)
  clear hm hb
  go_upto_region 3 with (first
   | (at_make;go_must (refine wpList_make_full _ rfl _ _ 22 rfl wc.heap.size 3 i0 (.int .i64 0) 1 Tryz.underlying22 hix hz0 hz1 .i64 .i64 _ _ nb rfl rfl rfl rfl (by rw [hz2];omega) (by unfold maxLen;omega) (Nat.le_refl _) ?_);intro w5 hown5 hg5;have hB5:Below wc.heap.size wc w5:=(Below.refl _ _).grown hg5 (Nat.le_refl _) (by simp);have HB5:=hideI hB5;have HO5:=hideI hown5;have c7':=(World.cell?_of_block (a:=⟨c.m,7,none⟩) (hB5.block _ hml)).trans c7;have f7':=(World.frozen?_of_block (a:=⟨c.m,7,none⟩) (hB5.block _ hml)).trans f7;clear hown5 hg5 hB5 c7 f7 q0 q1 q2 q3 q4 q5))
  obtain ⟨W6,hW6⟩:∃ W6,W6=w5.setCell ⟨c.m,7,none⟩ (.slice (some ⟨wc.heap.size,0,none⟩) nb nb):=⟨_,rfl⟩
  have h6:=HM.out.newVis (n:=nb) HB5.out (v:=.slice (some ⟨wc.heap.size,0,none⟩) nb nb) (by have h:=HO5.out;rw [Nat.mul_one,madeRow_zero] at h;exact h)
  have hb6:Below W1.heap.size W1 W6:=by rw [hW6];exact (HBY.out _ HB5.out).setCell (p:=⟨c.m,7,none⟩) (Nat.not_lt.1 (fun e => HM.out.offm (.inl e))) _
  rw [← hW6] at h6 ⊢
  obtain ⟨h6a,h6b⟩:=h6
  obtain ⟨q0,q1,q2,q3,q4,q5⟩:=HBX.out _ hb6
  have f4:=h6a.free 4
  have c4:=h6a.cells 4
  simp only [machCells] at c4
  have hml6:=h6a.m_lt
  have HM6:=hideI h6a
  have HB6:=hideI hb6
  clear c7' f7' h6a h6b hW6 hb6
  have hna8:=HNV.out
  go_upto_region 4 with (first
   | (at_make;go_must (refine wpList_make_full _ rfl _ _ 39 rfl W6.heap.size 22 j0 (.slice none 0 0) 1 Tryz.underlying39 hjx hy0 hy1 .i64 .i64 _ _ naN rfl rfl rfl rfl (by rw [hy2];omega) (by unfold maxLen;omega) (Nat.le_refl _) ?_);intro w7 hown7 hg7;have hB7:Below W6.heap.size W6 w7:=(Below.refl _ _).grown hg7 (Nat.le_refl _) (by simp);have HB7:=hideI hB7;have HO7:=hideI hown7;have c4':=(World.cell?_of_block (a:=⟨c.m,4,none⟩) (hB7.block _ hml6)).trans c4;have f4':=(World.frozen?_of_block (a:=⟨c.m,4,none⟩) (hB7.block _ hml6)).trans f4;clear hown7 hg7 hB7 c4 f4 q0 q1 q2 q3 q4 q5))
  obtain ⟨W8,hW8⟩:∃ W8,W8=w7.setCell ⟨c.m,4,none⟩ (.slice (some ⟨W6.heap.size,0,none⟩) naN naN):=⟨_,rfl⟩
  have h8:=HM6.out.newArrs (n:=naN) HB7.out (v:=.slice (some ⟨W6.heap.size,0,none⟩) naN naN) (by have h:=HO7.out;rw [Nat.mul_one,show (Value.slice none 0 0).cells=#[.slice none 0 0] from rfl,toList_madeCells_one] at h;exact h)
  rw [← hW8] at h8 ⊢
  obtain ⟨val8,h8a,h8b⟩:=h8
  have hb8:Below W1.heap.size W1 W8:=HB6.out.trans (h8b.below (fun b hb => .inl hb))
  obtain ⟨q0,q1,q2,q3,q4,q5⟩:=HBX.out _ hb8
  have HM8:=hideI h8a
  have HB8:=hideI hb8
  have HKB:Hid (∀ W,Below W1.heap.size W1 W → Keeps B w W):=hideI fun W hW => (Keeps.of_below (HB1.out.mono hB)).trans (Keeps.of_below (hW.mono (by have:=HS1.out;omega)))
  have HBK:Hid (∀ b,b < B → b < W1.heap.size ∨ b=c.M):=hideI fun b hb => .inl (by have:=HS1.out;omega)
  have HA:=hideI (takeArgs_any h8a f.params I.args B (.slice P f.params.length pc) (.slice A1 I.args.length ac) (HPV.out.keeps (HKB.out _ hb8)) (HAV.out.keeps (HKB.out _ hb8)) HBK.out (by have:=HPAR.out;have:=HNV.out;have:=HC.out.2.2.1;omega) HPAR.out.1)
  clear c4' f4' hW8 h8a h8b hb8
  go_wp2_with (first
   | (go_at_call 75;refine HA.out.mono ?_;rintro e w9 ⟨rfl,hm9,hf9⟩;have hb9:Below W1.heap.size W1 w9:=HB8.out.trans (hf9.below (fun b hb => .inl hb));have HM9:=hideI hm9;have HB9:=hideI hb9;clear hm9 hf9 hb9 q0 q1 q2 q3 q4 q5;have qq:=HBX.out w9 HB9.out;obtain ⟨q0,q1,q2,q3,q4,q5⟩:=qq)
   | (go_at_call 76;refine (HT.out c _ w9 val8 _ HM9.out (HKB.out _ HB9.out) HBK.out (by rw [HNA.out];rfl)).mono ?_;rintro e w10 ⟨rfl,val10,hm10,hf10⟩;have HM10:=hideI hm10;have HB10:=hideI (HB9.out.trans (hf10.below (fun b hb => .inl hb)));clear hm10 hf10))
  go_ret
  have e:startS f I={ val:=argVals (fun _ => 0) f.params I.args (min f.params.length I.args.length),cells:=List.replicate ncN 0,arrs:=(startS f I).arrs,out:=[],steps:=0,checks:=0,vis:=List.replicate nb 0 }:=by
   rw [start_vals]
   unfold startS
   rw [HNC.out,← HNB.out]
   rfl
  refine ⟨c,val10,rfl,HC.out.1,HC.out.2.1,by rw [HC.out.2.2.1];exact HNV.out.1,HC.out.2.2.2,?_,HB1.out.trans (HB10.out.mono (by have:=HS1.out;omega))⟩
  rw [e]
  exact HM10.out.less (fun b hb => by rcases hb with hb | hb;exact .inl (by have:=HS1.out;omega);exact .inr hb) (fun b hb => .inl (by have:=HC.out.2.1;omega)) (.inr rfl)
end Go.Proofs.YtglbepdjahddmaaGreat

namespace Go.Proofs.YtglbepdjahddmaaGreat
open Go.RowKit Go.Maps
def TraceAt (base:Nat) (w:World) (v:Value) (s:StM) (en:EndM):Prop :=
 ∃ (nv:Nat) (val:MVals),v=.agg #[.int .i64 en.1,.int .i64 en.2.1,.int .i64 en.2.2,val .out,val .arrs,.int .i64 s.steps,.int .i64 s.checks,val .vis] ∧ ∀ t d,mRow s nv val t=some d → w.ownsRow base d.elem 1 (val t) d.len d.cells
theorem owns_from {w:World} {b base:Nat} {e:TypeId} {size:Nat} {v:Value} {n:Nat} {xs:List Value} (h:w.ownsRow b e size v n xs) (hg:∀ g,v.ownBlock=some g → base ≤ g):w.ownsRow base e size v n xs:=by
 refine ⟨h.1,?_⟩
 rcases h.2 with h2 | ⟨g,cap,cur,hv,_,r⟩
 ·exact .inl h2
 ·exact .inr ⟨g,cap,cur,hv,hg g (by rw [hv];rfl),r⟩
def RunIs (f:FuncM) (I:InM) (F:Nat) (w:World) (e:Ending) (w':World):Prop :=
 ∃ v s en,e=.returned v ∧ EndIs f I (min F 200000) s en ∧ TraceAt w.heap.size w' v s en ∧ Below w.heap.size w w'
theorem row_form {w:World} {base:Nat} {e:TypeId} {size:Nat} {v:Value} {n:Nat} {xs:List Value} (h:w.ownsRow base e size v n xs):∃ A cp,v=.slice A n cp:=by
 rcases h.2 with ⟨e,e0⟩ | ⟨g,cap,cur,e,_⟩
 ·exact ⟨none,0,by rw [e,e0]⟩
 ·exact ⟨_,_,e⟩
theorem eight_set {w:World} {g:Nat} {a0 a1 a2 a3 a4 a5 a6 a7:Value} {T:TypeId} (h:w.heap[g]?=some (.cells #[a0,a1,a2,a3,a4,a5,a6,a7] T (0,0))) (v0 v1 v2 v3 v4 v5 v6 v7:Value) {W:World}
  (hW:W=(((((((w.setCell ⟨g,0,none⟩ v0).setCell ⟨g,1,none⟩ v1).setCell ⟨g,2,none⟩ v2).setCell ⟨g,3,none⟩ v3).setCell ⟨g,4,none⟩ v4).setCell ⟨g,5,none⟩ v5).setCell ⟨g,6,none⟩ v6).setCell ⟨g,7,none⟩ v7) :
  W.heap[g]?=some (.cells #[v0,v1,v2,v3,v4,v5,v6,v7] T (0,0)) ∧ (∀ b,b ≠ g → W.heap[b]?=w.heap[b]?) ∧ (∀ B,B ≤ g → Below B w W):=by
 subst hW
 have h0:=heap_setCell_same w g 0 _ _ v0 h
 have h1:=heap_setCell_same _ g 1 _ _ v1 h0
 have h2:=heap_setCell_same _ g 2 _ _ v2 h1
 have h3:=heap_setCell_same _ g 3 _ _ v3 h2
 have h4:=heap_setCell_same _ g 4 _ _ v4 h3
 have h5:=heap_setCell_same _ g 5 _ _ v5 h4
 have h6:=heap_setCell_same _ g 6 _ _ v6 h5
 have h7:=heap_setCell_same _ g 7 _ _ v7 h6
 refine ⟨h7.trans (by simp),fun b hb => ?_,fun B hB => ?_⟩
 ·rw [Below.heap_setCell _ _ _ _ (by exact hb),Below.heap_setCell _ _ _ _ (by exact hb),Below.heap_setCell _ _ _ _ (by exact hb),Below.heap_setCell _ _ _ _ (by exact hb),Below.heap_setCell _ _ _ _ (by exact hb),Below.heap_setCell _ _ _ _ (by exact hb),Below.heap_setCell _ _ _ _ (by exact hb),Below.heap_setCell _ _ _ _ (by exact hb)]
 ·exact ((((((((Below.refl B w).setCell (p:=⟨g,0,none⟩) hB v0).setCell (p:=⟨g,1,none⟩) hB v1).setCell (p:=⟨g,2,none⟩) hB v2).setCell (p:=⟨g,3,none⟩) hB v3).setCell (p:=⟨g,4,none⟩) hB v4).setCell (p:=⟨g,5,none⟩) hB v5).setCell (p:=⟨g,6,none⟩) hB v6).setCell (p:=⟨g,7,none⟩) hB v7
set_option maxRecDepth 100000 in
set_option maxHeartbeats 4000000 in
theorem irun_yes (f:FuncM) (I:InM) (B:Nat) (pv bv av rv:Value) (F:Nat) (w:World) (hpv:Ints w B pv f.params) (hbv:BlocksR w B bv f.blocks) (hB:B ≤ w.heap.size) (hid:∀ u ∈ usesM f,I64 u.1)
  (hstr:CheckIs f (0,0)) (hok:FOk f (roomM f).toNat) (hfit:Fit f (startS f I))
  (hr:∀ x ∈ idsOut f,0 ≤ x ∧ x ≤ 1048575) (hpar:f.params.length ≤ 16 ∧ (f.params.length:Int) ≤ roomM f) (hcel:0 ≤ f.cells ∧ f.cells ≤ 64) (harr:0 ≤ f.arrays ∧ f.arrays ≤ 8) (hnb:f.blocks.length ≤ 512)
  (ha:Ints w B av I.args) (hT:∀ W,Keeps B w W → TakeArrs f I B W rv) (A2:Option Addr) (rl rc:Nat) (hrv:rv=.slice A2 rl rc) :
  Calls Tryz.prog 17 #[.agg #[pv,.int .i64 f.arrays,.int .i64 f.cells,bv],.agg #[av,rv],.int .i64 F] w (RunIs f I F w):=by
 have HPV:=hideI hpv
 have HBV:=hideI hbv
 have HAV:=hideI ha
 obtain ⟨P,pc,rfl,_,_⟩:=hpv
 obtain ⟨A,cc,rfl,_,_⟩:=hbv
 obtain ⟨A1,ac,rfl,_,_⟩:=ha
 subst hrv
 obtain ⟨np,hnp⟩:∃ n:Nat,n=f.params.length:=⟨_,rfl⟩
 obtain ⟨nb,hnbN⟩:∃ n:Nat,n=f.blocks.length:=⟨_,rfl⟩
 obtain ⟨ni,hni⟩:∃ n:Nat,n=I.args.length:=⟨_,rfl⟩
 obtain ⟨W1,hW1⟩:∃ W1,W1=((w.alloc (.cells #[.slice P np pc,.int .i64 f.arrays,.int .i64 f.cells,.slice A nb cc] 25)).alloc (.cells #[.slice A1 ni ac,.slice A2 rl rc] 41)).alloc (.cells #[.int .i64 0,.int .i64 0,.int .i64 0,.slice none 0 0,.slice none 0 0,.int .i64 0,.int .i64 0,.slice none 0 0] 43):=⟨_,rfl⟩
 have hb1:Below w.heap.size w W1:=by rw [hW1];exact (((Below.refl _ w).alloc (Nat.le_refl _) _).alloc (by simp) _).alloc (by simp;omega) _
 have hs1:W1.heap.size=w.heap.size + 3:=by rw [hW1];simp
 have hf0:W1.heap[w.heap.size]?=some (.cells #[.slice P np pc,.int .i64 f.arrays,.int .i64 f.cells,.slice A nb cc] 25 (0,0)):=by
  rw [hW1,Below.heap_alloc _ _ _ (by simp;omega),Below.heap_alloc _ _ _ (by simp)]
  exact heap_alloc_new w _
 have hi0:W1.heap[w.heap.size + 1]?=some (.cells #[.slice A1 ni ac,.slice A2 rl rc] 41 (0,0)):=by
  rw [hW1,Below.heap_alloc _ _ _ (by simp)]
  have:=heap_alloc_new (w.alloc (.cells #[.slice P np pc,.int .i64 f.arrays,.int .i64 f.cells,.slice A nb cc] 25)) (.cells #[.slice A1 ni ac,.slice A2 rl rc] 41)
  simpa using this
 have ht0:W1.heap[w.heap.size + 2]?=some (.cells #[.int .i64 0,.int .i64 0,.int .i64 0,.slice none 0 0,.slice none 0 0,.int .i64 0,.int .i64 0,.slice none 0 0] 43 (0,0)):=by
  rw [hW1]
  have:=heap_alloc_new ((w.alloc (.cells #[.slice P np pc,.int .i64 f.arrays,.int .i64 f.cells,.slice A nb cc] 25)).alloc (.cells #[.slice A1 ni ac,.slice A2 rl rc] 41)) (.cells #[.int .i64 0,.int .i64 0,.int .i64 0,.slice none 0 0,.slice none 0 0,.int .i64 0,.int .i64 0,.slice none 0 0] 43)
  simpa using this
 have HBX:Hid (∀ W,Below W1.heap.size W1 W → (W.cell? ⟨w.heap.size,0,none⟩=some (.slice P np pc) ∧ W.cell? ⟨w.heap.size,1,none⟩=some (.int .i64 f.arrays) ∧ W.cell? ⟨w.heap.size,2,none⟩=some (.int .i64 f.cells) ∧ W.cell? ⟨w.heap.size,3,none⟩=some (.slice A nb cc)) ∧ W.cell? ⟨w.heap.size + 1,0,none⟩=some (.slice A1 ni ac) ∧ W.cell? ⟨w.heap.size + 1,1,none⟩=some (.slice A2 rl rc)):=hideI fun W hW => by
  have hx:=row_cells hf0 (hW.block _ (by omega))
  have hy:=row_cells hi0 (hW.block _ (by omega))
  exact ⟨⟨hx 0,hx 1,hx 2,hx 3⟩,hy 0,hy 1⟩
 have hk1:Keeps B w W1:=Keeps.of_below (hb1.mono hB)
 have HKW:Hid (∀ W,Below W1.heap.size W1 W → Keeps B w W):=hideI fun W hW => hk1.trans (Keeps.of_below (hW.mono (by omega)))
 have HCHK:Hid (Calls Tryz.prog 41 #[.agg #[.slice P np pc,.int .i64 f.arrays,.int .i64 f.cells,.slice A nb cc]] W1 fun e w' => e=.returned (.tuple #[.int .i64 0,.int .i64 0]) ∧ Below W1.heap.size W1 w'):=hideI (by
  have h:=sCheck_any f B _ _ W1 (HPV.out.keeps hk1) (HBV.out.keeps hk1) (by omega) hid
  rw [← hnp,← hnbN] at h
  refine h.mono ?_
  rintro e w' ⟨x,y,rfl,hc,hb⟩
  have h1:=hc.one hstr
  injection h1 with h1 h2
  subst h1 h2
  exact ⟨rfl,hb⟩)
 obtain ⟨F2,hF2⟩:∃ F2:Nat,F2=min F 200000:=⟨_,rfl⟩
 have HMO:Hid (∀ W,Below W1.heap.size W1 W → Calls Tryz.prog 42 #[.agg #[.slice P np pc,.int .i64 f.arrays,.int .i64 f.cells,.slice A nb cc],.agg #[.slice A1 ni ac,.slice A2 rl rc],.int .i64 F2] W (MachPost f I B (.slice A nb cc) F2 W)):=hideI fun W hW => by
  have hk:=HKW.out W hW
  have h:=machineOf_any f I B _ _ _ _ F2 W (HPV.out.keeps hk) (HBV.out.keeps hk) (by have:=hW.size;omega) hid hr hpar hcel harr hnb (HAV.out.keeps hk) (hT W hk) A2 rl rc rfl
  rw [← hnp,← hnbN,← hni] at h
  exact h
 have HRUN:Hid (∀ (c:MachC) (W:World) (val:MVals),c.f=f → c.nv=(roomM f).toNat → c.fuel=F2 → MachR c (fun b => b < W1.heap.size ∨ b=c.M) W val (startS f I) → Calls Tryz.prog 43 #[.pointer (some ⟨c.m,0,none⟩)] W (RunPost c (fun b => b < W1.heap.size ∨ b=c.M) I F2 W)):=hideI fun c W val h1 h2 h3 h4 => by
  subst h1
  exact run_any h4 I F2 h3 (by omega) (by rw [h2];exact hok) hfit rfl
 have HW1:=hideI hW1
 have HB1:=hideI hb1
 have HS1:=hideI hs1
 have HT0:=hideI ht0
 have HF2:=hideI hF2
 have hbx:=HBX.out W1 (Below.refl _ _)
 obtain ⟨⟨q0,q1,q2,q3⟩,q4,q5⟩:=hbx
 have hlt0:w.heap.size < W1.heap.size:=by omega
 have hlt1:w.heap.size + 1 < W1.heap.size:=by omega
 have hlt2:w.heap.size + 2 < W1.heap.size:=by omega
 have hfu:decide ((F:Int) < 0)=false:=by simp
 have hmin:min (F:Int) 200000=(F2:Int):=by have:=hF2;omega
 rw [← hnp,← hnbN,← hni]
 clear hnp hnbN hni hb1 hs1 hf0 hi0 ht0 hk1 hstr hok hfit hr hpar hcel harr hnb hT hF2 hW1 hid
 go_enter Tryz.func17,Tryz.ntmps17
 go_upto_region 1 with fail
 rw [← HW1.out]
 go_upto_region 4 with (first
  | (go_at_call 41;refine HCHK.out.mono ?_;rintro e w2 ⟨rfl,hb2⟩;have HB2:=hideI hb2;clear hb2 q0 q1 q2 q3 q4 q5;have qq:=HBX.out w2 HB2.out;obtain ⟨⟨q0,q1,q2,q3⟩,q4,q5⟩:=qq))
 have hkf5:∀ b,b < B → b < W1.heap.size:=fun b hb => by omega
 have HKF5:=hideI hkf5
 rw [← hmin] at HMO
 have HMIN:=hideI hmin
 clear hmin hkf5
 go_wp2_with (first
   | (go_at_call 42;go_must (refine (HMO.out _ HB2.out).mono ?_);rintro e w3 ⟨c,val,rfl,hcf,hcB,hcn,hcF,hm,hb3⟩;have HB3:=hideI (HB2.out.trans (hb3.mono HB2.out.size));have HM3:Hid (MachR c (fun b => b < W1.heap.size ∨ b=c.M) w3 val (startS f I)):=hideI (hm.less (fun b hb => by rcases hb with hb | hb;exact .inl (Nat.lt_of_lt_of_le hb HB2.out.size);exact .inr hb) (fun b hb => .inl (HKF5.out b (by rw [← hcB];exact hb))) (.inr rfl));have HCF:=hideI (And.intro hcf (And.intro hcn hcF));clear hm hb3 hcf hcB hcn hcF q0 q1 q2 q3 q4 q5)
   | (go_at_call 43;go_must (refine (HRUN.out c _ val HCF.out.1 HCF.out.2.1 HCF.out.2.2 HM3.out).mono ?_);rintro e w4 ⟨rfl,val4,s4,en4,hend,hdone,hoff,hkf⟩;have HOFF:=hideI hoff;have HEND:=hideI hend;have HDONE:=hideI hdone;have HB4:=hideI (HB3.out.trans (hkf.below (fun b hb => .inl hb)));have hmne:=HM3.out.offm;clear hend hkf hoff;obtain ⟨⟨o8,o9,o10,o11,o12,hblk⟩,hrows⟩:=hdone;have hx:=row_cells hblk rfl;have x0:=hx 0;have x1:=hx 1;have x2:=hx 2;have x3:=hx 3;have x4:=hx 4;have x5:=hx 5;have x6:=hx 6;have x7:=hx 7;obtain ⟨Ao,co,ho⟩:=row_form (hrows .out _ rfl);obtain ⟨Aa,ca,ha⟩:=row_form (hrows .arrs _ rfl);obtain ⟨Av,cv,hv⟩:=row_form (hrows .vis _ rfl);have ho:val4 .out=.slice Ao s4.out.length co:=ho;have hv:val4 .vis=.slice Av s4.vis.length cv:=hv;rw [ho] at x3;rw [ha] at x4;rw [hv] at x7;have HVV:=hideI (And.intro ho (And.intro ha hv));clear ho ha hv;have hbt:=(HB4.out.block (w.heap.size + 1 + 1) (by omega)).trans HT0.out;have hy:=row_cells hbt rfl;have hz:=fun o => frozen_of_row w4 (w.heap.size + 1 + 1) o _ _ hbt;have y0:=hy 0;have y1:=hy 1;have y2:=hy 2;have y3:=hy 3;have y4:=hy 4;have y5:=hy 5;have y6:=hy 6;have y7:=hy 7;have z0:=hz 0;have z1:=hz 1;have z2:=hz 2;have z3:=hz 3;have z4:=hz 4;have z5:=hz 5;have z6:=hz 6;have z7:=hz 7;have HBT:=hideI hbt;clear hx hy hz hblk hrows hbt))
 obtain ⟨W8,hW8⟩:∃ W8,W8=(((((((w4.setCell ⟨w.heap.size + 1 + 1,0,none⟩ (.int .i64 en4.1)).setCell ⟨w.heap.size + 1 + 1,1,none⟩ (.int .i64 en4.2.1)).setCell ⟨w.heap.size + 1 + 1,2,none⟩ (.int .i64 en4.2.2)).setCell ⟨w.heap.size + 1 + 1,3,none⟩ (.slice Ao s4.out.length co)).setCell ⟨w.heap.size + 1 + 1,4,none⟩ (.slice Aa s4.arrs.length ca)).setCell ⟨w.heap.size + 1 + 1,5,none⟩ (.int .i64 s4.steps)).setCell ⟨w.heap.size + 1 + 1,6,none⟩ (.int .i64 s4.checks)).setCell ⟨w.heap.size + 1 + 1,7,none⟩ (.slice Av s4.vis.length cv):=⟨_,rfl⟩
 rw [← hW8]
 obtain ⟨hb8,ho8,hbe8⟩:=eight_set HBT.out _ _ _ _ _ _ _ _ hW8
 have hx:=row_cells hb8 rfl
 have s0:=hx 0
 have s1:=hx 1
 have s2:=hx 2
 have s3:=hx 3
 have s4':=hx 4
 have s5:=hx 5
 have s6:=hx 6
 have s7:=hx 7
 clear hx hW8 x0 x1 x2 x3 x4 x5 x6 x7 y0 y1 y2 y3 y4 y5 y6 y7 z0 z1 z2 z3 z4 z5 z6 z7
 refine bodyPost_ret (v:=.agg #[.int .i64 en4.1,.int .i64 en4.2.1,.int .i64 en4.2.2,.slice Ao s4.out.length co,.slice Aa s4.arrs.length ca,.int .i64 s4.steps,.int .i64 s4.checks,.slice Av s4.vis.length cv]) (by simp [results,Tryz.results17,go_sem,s0,s1,s2,s3,s4',s5,s6,s7]) rfl ?_
 refine ⟨_,s4,en4,rfl,by rw [← HF2.out];exact (by have h:=HEND.out;rw [HCF.out.1] at h;exact h),⟨c.nv,val4,by rw [HVV.out.1,HVV.out.2.1,HVV.out.2.2],fun t d ht => ?_⟩,?_⟩
 ·refine owns_from (owns_kept (HDONE.out.rows t d ht) fun g hg => ho8 g (fun e => HOFF.out t d g ht hg (.inl ?_))) fun g hg => Nat.le_of_not_lt fun hlt => HOFF.out t d g ht hg (.inl (by omega))
  rw [e]
  exact hlt2
 ·exact HB1.out.trans ((HB4.out.mono (by have:=HS1.out;omega)).trans (hbe8 _ (by omega)))
end Go.Proofs.YtglbepdjahddmaaGreat

namespace Go.Proofs.YtglbepdjahddmaaGreat
open Go.RowKit Go.Maps
theorem awake_ids:idsOut awakeF=[0]:=by
 unfold idsOut idsS
 rw [awake_look]
 simp
theorem awake_room:roomM awakeF=1:=by
 unfold roomM
 rw [awake_ids]
 rfl
theorem awake_blocks {b:Nat} {q:BlockM} (h:awakeF.blocks[b]?=some q):b=0 ∧ q=⟨[],[⟨1,0,[],5⟩],⟨3,0,[],0⟩⟩:=by
 rcases b with _ | b
 ·simp [awakeF] at h
  exact ⟨rfl,h.symm⟩
 ·simp [awakeF] at h
theorem awake_fok:FOk awakeF 1:=by
 refine ⟨fun b q h x hx => ?_,fun b q h => ?_,fun b q h t ht => ?_,fun b q h => ?_,fun b q h => ?_,by decide,fun q h => ?_⟩
 ·obtain ⟨_,rfl⟩:=awake_blocks h
  simp at hx
  subst hx
  exact ⟨fun i hi => by simp at hi,by decide,by decide,fun e => absurd e (by decide),fun e => absurd e (by decide),fun _ => by decide,by decide⟩
 ·obtain ⟨_,rfl⟩:=awake_blocks h
  exact ⟨.inr (.inr (.inl ⟨rfl,rfl⟩)),fun _ => by decide⟩
 ·obtain ⟨_,rfl⟩:=awake_blocks h
  simp at ht
 ·obtain ⟨_,rfl⟩:=awake_blocks h
  simp
 ·obtain ⟨_,rfl⟩:=awake_blocks h
  simp
 ·obtain ⟨_,rfl⟩:=awake_blocks h
  rfl
theorem awake_end {s:StM} {en:EndM} (h:EndIs awakeF ⟨[],[]⟩ (min 9 200000) s en):s.steps=2 ∧ en=(1,5,0):=by
 obtain ⟨h1,h2⟩:=h
 have e1:(goN awakeF (min 9 200000) (startM awakeF ⟨[],[]⟩)).s.steps=2:=by rfl
 have e2:finM (goN awakeF (min 9 200000) (startM awakeF ⟨[],[]⟩))=(1,5,0):=by rfl
 exact ⟨by rw [← h1];exact e1,by rw [← h2];exact e2⟩
theorem awake_run (w:World):Calls Tryz.prog 17 #[.agg #[.slice none 0 0,.int .i64 0,.int .i64 0,.slice (some ⟨w.heap.size + 1,0,none⟩) 1 1],.agg #[.slice none 0 0,.slice none 0 0],.int .i64 9] (awakeMade w) fun e w' =>
  (∃ A1 n1 c1 A2 n2 c2 A3 n3 c3 ch,e=.returned (.agg #[.int .i64 1,.int .i64 5,.int .i64 0,.slice A1 n1 c1,.slice A2 n2 c2,.int .i64 2,.int .i64 ch,.slice A3 n3 c3])) ∧ Below w.heap.size w w':=by
 obtain ⟨h1,h2,h3⟩:=awakeMade_facts w
 refine (irun_yes awakeF ⟨[],[]⟩ (w.heap.size + 2) (.slice none 0 0) _ (.slice none 0 0) (.slice none 0 0) 9 (awakeMade w) (Ints.nil _ _) h1 (by omega) awake_uses awake_checkIs (by rw [awake_room];exact awake_fok) ⟨rfl,rfl,rfl,by decide⟩
  (by rw [awake_ids];intro x hx;simp at hx;subst hx;decide) ⟨by decide,by rw [awake_room];decide⟩ (by decide) (by decide) (by decide) (Ints.nil _ _) (fun W _ => takeArrays_none _ _ _ _ _ none 0 0 rfl rfl) none 0 0 rfl).mono ?_
 rintro e w' ⟨v,s,en,rfl,hend,⟨nv,val,rfl,hrows⟩,hb⟩
 obtain ⟨hs,rfl⟩:=awake_end hend
 obtain ⟨Ao,co,ho⟩:=row_form (hrows .out _ rfl)
 obtain ⟨Aa,ca,ha⟩:=row_form (hrows .arrs _ rfl)
 obtain ⟨Av,cv,hv⟩:=row_form (hrows .vis _ rfl)
 refine ⟨⟨Ao,(intRow s.out).len,co,Aa,s.arrs.length,ca,Av,(intRow s.vis).len,cv,s.checks,?_⟩,h3.trans (hb.mono (by omega))⟩
 rw [ho,ha,hv,hs]
 rfl
set_option maxRecDepth 100000 in
set_option maxHeartbeats 1000000 in
theorem awake6_any (w:World):Calls Tryz.prog 20 #[] w fun e w' => e=.returned (.bool true) ∧ Below w.heap.size w w':=by
 have HI:=hideI (awake_run w)
 unfold awakeMade at HI
 go_enter Tryz.func20,Tryz.ntmps20
 go_wp2_with (first
  | (go_at_call 17;go_must (refine HI.out.mono ?_);rintro e w1 ⟨⟨A1,n1,c1,A2,n2,c2,A3,n3,c3,ch,rfl⟩,hb⟩;have HB1:=hideI hb;clear hb))
 go_ret
 exact ⟨rfl,HB1.out.alloc HB1.out.size _⟩
end Go.Proofs.YtglbepdjahddmaaGreat

namespace Go.Proofs.YtglbepdjahddmaaGreat
open Go.RowKit Go.Maps
def refusedV:Value:=.agg #[.int .i64 6,.int .i64 0,.int .i64 0,.slice none 0 0,.slice none 0 0,.int .i64 0,.int .i64 0,.slice none 0 0]
set_option maxRecDepth 100000 in
set_option maxHeartbeats 4000000 in
theorem irun_no (f:FuncM) (B:Nat) (pv bv iv jv:Value) (F:Int) (w:World) (hpv:Ints w B pv f.params) (hbv:BlocksR w B bv f.blocks) (hB:B ≤ w.heap.size) (hid:∀ u ∈ usesM f,I64 u.1)
  (hno:¬ CheckIs f (0,0) ∨ F < 0) (A1 A2:Option Addr) (ni ac rl rc:Nat) (hiv:iv=.slice A1 ni ac) (hjv:jv=.slice A2 rl rc) :
  Calls Tryz.prog 17 #[.agg #[pv,.int .i64 f.arrays,.int .i64 f.cells,bv],.agg #[iv,jv],.int .i64 F] w fun e w' => e=.returned refusedV ∧ Below w.heap.size w w':=by
 have HPV:=hideI hpv
 have HBV:=hideI hbv
 obtain ⟨P,pc,rfl,_,_⟩:=hpv
 obtain ⟨A,cc,rfl,_,_⟩:=hbv
 subst hiv hjv
 obtain ⟨np,hnp⟩:∃ n:Nat,n=f.params.length:=⟨_,rfl⟩
 obtain ⟨nb,hnbN⟩:∃ n:Nat,n=f.blocks.length:=⟨_,rfl⟩
 obtain ⟨W1,hW1⟩:∃ W1,W1=((w.alloc (.cells #[.slice P np pc,.int .i64 f.arrays,.int .i64 f.cells,.slice A nb cc] 25)).alloc (.cells #[.slice A1 ni ac,.slice A2 rl rc] 41)).alloc (.cells #[.int .i64 0,.int .i64 0,.int .i64 0,.slice none 0 0,.slice none 0 0,.int .i64 0,.int .i64 0,.slice none 0 0] 43):=⟨_,rfl⟩
 have hb1:Below w.heap.size w W1:=by rw [hW1];exact (((Below.refl _ w).alloc (Nat.le_refl _) _).alloc (by simp) _).alloc (by simp;omega) _
 have hs1:W1.heap.size=w.heap.size + 3:=by rw [hW1];simp
 have hf0:W1.heap[w.heap.size]?=some (.cells #[.slice P np pc,.int .i64 f.arrays,.int .i64 f.cells,.slice A nb cc] 25 (0,0)):=by
  rw [hW1,Below.heap_alloc _ _ _ (by simp;omega),Below.heap_alloc _ _ _ (by simp)]
  exact heap_alloc_new w _
 have hi0:W1.heap[w.heap.size + 1]?=some (.cells #[.slice A1 ni ac,.slice A2 rl rc] 41 (0,0)):=by
  rw [hW1,Below.heap_alloc _ _ _ (by simp)]
  have:=heap_alloc_new (w.alloc (.cells #[.slice P np pc,.int .i64 f.arrays,.int .i64 f.cells,.slice A nb cc] 25)) (.cells #[.slice A1 ni ac,.slice A2 rl rc] 41)
  simpa using this
 have ht0:W1.heap[w.heap.size + 2]?=some (.cells #[.int .i64 0,.int .i64 0,.int .i64 0,.slice none 0 0,.slice none 0 0,.int .i64 0,.int .i64 0,.slice none 0 0] 43 (0,0)):=by
  rw [hW1]
  have:=heap_alloc_new ((w.alloc (.cells #[.slice P np pc,.int .i64 f.arrays,.int .i64 f.cells,.slice A nb cc] 25)).alloc (.cells #[.slice A1 ni ac,.slice A2 rl rc] 41)) (.cells #[.int .i64 0,.int .i64 0,.int .i64 0,.slice none 0 0,.slice none 0 0,.int .i64 0,.int .i64 0,.slice none 0 0] 43)
  simpa using this
 have HBX:Hid (∀ W,Below W1.heap.size W1 W → (W.cell? ⟨w.heap.size,0,none⟩=some (.slice P np pc) ∧ W.cell? ⟨w.heap.size,1,none⟩=some (.int .i64 f.arrays) ∧ W.cell? ⟨w.heap.size,2,none⟩=some (.int .i64 f.cells) ∧ W.cell? ⟨w.heap.size,3,none⟩=some (.slice A nb cc)) ∧ W.cell? ⟨w.heap.size + 1,0,none⟩=some (.slice A1 ni ac) ∧ W.cell? ⟨w.heap.size + 1,1,none⟩=some (.slice A2 rl rc)):=hideI fun W hW => by
  have hx:=row_cells hf0 (hW.block _ (by omega))
  have hy:=row_cells hi0 (hW.block _ (by omega))
  exact ⟨⟨hx 0,hx 1,hx 2,hx 3⟩,hy 0,hy 1⟩
 have hk1:Keeps B w W1:=Keeps.of_below (hb1.mono hB)
 have HKW:Hid (∀ W,Below W1.heap.size W1 W → Keeps B w W):=hideI fun W hW => hk1.trans (Keeps.of_below (hW.mono (by omega)))
 have HCHK:Hid (Calls Tryz.prog 41 #[.agg #[.slice P np pc,.int .i64 f.arrays,.int .i64 f.cells,.slice A nb cc]] W1 fun e w' => ∃ x y:Int,e=.returned (.tuple #[.int .i64 x,.int .i64 y]) ∧ (y=0 → F < 0) ∧ Below W1.heap.size W1 w'):=hideI (by
  have h:=sCheck_any f B _ _ W1 (HPV.out.keeps hk1) (HBV.out.keeps hk1) (by omega) hid
  rw [← hnp,← hnbN] at h
  refine h.mono ?_
  rintro e w' ⟨x,y,rfl,hc,hb⟩
  refine ⟨x,y,rfl,fun e => ?_,hb⟩
  subst e
  rcases hno with hn | hn
  ·refine absurd ?_ hn
   rcases hc with ⟨h1,h2⟩ | ⟨h0,o,ho,hf⟩
   ·exact absurd (Prod.mk.inj h2).2.symm h1
   ·rcases hf with ⟨b,_,e⟩ | ⟨_,b,_,e⟩ | ⟨_,_,b,_,e⟩ | ⟨a0,a1,a2,e⟩
    ·exact absurd (Prod.mk.inj e).2 (by decide)
    ·exact absurd (Prod.mk.inj e).2 (by decide)
    ·exact absurd (Prod.mk.inj e).2 (by decide)
    ·exact .inr ⟨h0,o,ho,.inr (.inr (.inr ⟨a0,a1,a2,rfl⟩))⟩
  ·exact hn)
 have HW1:=hideI hW1
 have HB1:=hideI hb1
 have HS1:=hideI hs1
 have HT0:=hideI ht0
 have hbx:=HBX.out W1 (Below.refl _ _)
 obtain ⟨⟨q0,q1,q2,q3⟩,q4,q5⟩:=hbx
 have hlt0:w.heap.size < W1.heap.size:=by omega
 have hlt1:w.heap.size + 1 < W1.heap.size:=by omega
 have hlt2:w.heap.size + 2 < W1.heap.size:=by omega
 rw [← hnp,← hnbN]
 clear hnp hnbN hb1 hs1 hf0 hi0 ht0 hk1 hno hW1 hid
 go_enter Tryz.func17,Tryz.ntmps17
 go_upto_region 1 with fail
 rw [← HW1.out]
 go_upto_region 4 with (first
  | (go_at_call 41;refine HCHK.out.mono ?_;rintro e w2 ⟨x,y,rfl,hy,hb2⟩;have HB2:=hideI hb2;have HY:=hideI hy;clear hb2 hy q0 q1 q2 q3 q4 q5;have qq:=HBX.out w2 HB2.out;obtain ⟨⟨q0,q1,q2,q3⟩,q4,q5⟩:=qq;have hbt:=(HB2.out.block (w.heap.size + 1 + 1) (by omega)).trans HT0.out;have hyy:=row_cells hbt rfl;have hz:=fun o => frozen_of_row w2 (w.heap.size + 1 + 1) o _ _ hbt;have y0:=hyy 0;have y1:=hyy 1;have y2:=hyy 2;have y3:=hyy 3;have y4:=hyy 4;have y5:=hyy 5;have y6:=hyy 6;have y7:=hyy 7;have z0:=hz 0;have z1:=hz 1;have z2:=hz 2;have z3:=hz 3;have z4:=hz 4;have z5:=hz 5;have z6:=hz 6;have z7:=hz 7;have HBT:=hideI hbt;clear hyy hz hbt))
 all_goals first
  | (exfalso;have h1:=HY.out ‹y=0›;have h2:=‹0 ≤ F›;omega)
  | skip
 all_goals
  obtain ⟨W8,hW8⟩:∃ W8,W8=(((((((w2.setCell ⟨w.heap.size + 1 + 1,0,none⟩ (.int .i64 6)).setCell ⟨w.heap.size + 1 + 1,1,none⟩ (.int .i64 0)).setCell ⟨w.heap.size + 1 + 1,2,none⟩ (.int .i64 0)).setCell ⟨w.heap.size + 1 + 1,3,none⟩ (.slice none 0 0)).setCell ⟨w.heap.size + 1 + 1,4,none⟩ (.slice none 0 0)).setCell ⟨w.heap.size + 1 + 1,5,none⟩ (.int .i64 0)).setCell ⟨w.heap.size + 1 + 1,6,none⟩ (.int .i64 0)).setCell ⟨w.heap.size + 1 + 1,7,none⟩ (.slice none 0 0):=⟨_,rfl⟩
  rw [← hW8]
  obtain ⟨hb8,_,hbe8⟩:=eight_set HBT.out _ _ _ _ _ _ _ _ hW8
  have hx:=row_cells hb8 rfl
  have s0:=hx 0
  have s1:=hx 1
  have s2:=hx 2
  have s3:=hx 3
  have s4:=hx 4
  have s5:=hx 5
  have s6:=hx 6
  have s7:=hx 7
  clear hx hW8 y0 y1 y2 y3 y4 y5 y6 y7 z0 z1 z2 z3 z4 z5 z6 z7
  refine bodyPost_ret (v:=refusedV) (by simp [results,Tryz.results17,go_sem,s0,s1,s2,s3,s4,s5,s6,s7,refusedV]) rfl ?_
  exact ⟨rfl,HB1.out.trans ((HB2.out.mono (by have:=HS1.out;omega)).trans (hbe8 _ (by omega)))⟩
end Go.Proofs.YtglbepdjahddmaaGreat

namespace Go.Proofs.YtglbepdjahddmaaGreat
open Go.RowKit Go.Maps
theorem check_zero {f:FuncM} (h:CheckIs f (0,0)):(lookM f).1=0 ∧ (∀ b,b < f.blocks.length → phisR f b):=by
 rcases h with ⟨h1,h2⟩ | ⟨h0,o,ho,hf⟩
 ·exact absurd (Prod.mk.inj h2).2.symm h1
 ·rcases hf with ⟨b,_,e⟩ | ⟨_,b,_,e⟩ | ⟨_,_,b,_,e⟩ | ⟨a0,a1,a2,e⟩
  ·exact absurd (Prod.mk.inj e).2 (by decide)
  ·exact absurd (Prod.mk.inj e).2 (by decide)
  ·exact absurd (Prod.mk.inj e).2 (by decide)
  ·exact ⟨h0,a1⟩
theorem value_room {f:FuncM} (h:(lookM f).1=0) {x:Int} (hx:x ∈ (valuesM f).map (·.1)):0 ≤ x ∧ x < ((roomM f).toNat:Int):=by
 have hv:=formed_eq (look_formed h)
 rw [← hv] at hx
 obtain ⟨d,hd,rfl⟩:=List.mem_map.1 hx
 have h0:=((formed_keys (look_formed h)).1 d hd).1
 have hm:=idsS_mem.2 hx
 have hr:roomM f=match (idsS f).getLast? with | some x => x + 1 | none => 0:=by
  unfold roomM idsOut
  rw [if_pos h]
  rfl
 cases hl:(idsS f).getLast? with
 | none =>
  rw [List.getLast?_eq_none_iff] at hl
  rw [hl] at hm
  cases hm
 | some y =>
  have:=last_max (idsS_sorted f) hl _ hm
  rw [hl] at hr
  simp only at hr
  omega
theorem used_room {f:FuncM} (h:(lookM f).1=0) {u:Int × Int} (hu:u ∈ usesM f):0 ≤ u.1 ∧ u.1 < ((roomM f).toNat:Int):=value_room h (look_used h u hu)
theorem takes_few (op:Int):(takesS op).length ≤ 3:=by
 rcases op_cases op with h | h | h
 ·rcases h with rfl | rfl | rfl | rfl | rfl | rfl | rfl | rfl | rfl | rfl | rfl | rfl | rfl <;> decide
 ·rcases h with rfl | rfl | rfl | rfl | rfl | rfl | rfl | rfl | rfl | rfl | rfl | rfl <;> decide
 ·unfold takesS
  rw [shapeS_none h]
  decide
theorem phi_value {f:FuncM} {q:BlockM} (hq:q ∈ f.blocks) {p:PhiM} (hp:p ∈ q.phis):p.id ∈ (valuesM f).map (·.1) :=
 List.mem_map.2 ⟨(p.id,p.typ),List.mem_append.2 (.inr (List.mem_flatMap.2 ⟨q,hq,List.mem_append.2 (.inl (List.mem_map.2 ⟨p,hp,rfl⟩))⟩)),rfl⟩
theorem instr_value {f:FuncM} {q:BlockM} (hq:q ∈ f.blocks) {x:InstrM} (hx:x ∈ q.code) (h:makesS x.op ≠ 0):x.id ∈ (valuesM f).map (·.1):=by
 refine List.mem_map.2 ⟨(x.id,makesS x.op),List.mem_append.2 (.inr (List.mem_flatMap.2 ⟨q,hq,List.mem_append.2 (.inr (List.mem_flatMap.2 ⟨x,hx,?_⟩))⟩)),rfl⟩
 unfold valuesInstr
 rcases makes_cases x.op with hm | hm
 ·exact absurd hm h
 ·rw [if_pos hm]
  exact List.mem_singleton.2 rfl
theorem just_mem {fr ps:List Int} (h1:fr.Nodup) (h:justB fr ps=true) {x:Int} (hx:x ∈ ps):x ∈ fr:=by
 unfold justB at h
 rw [Bool.and_eq_true,beq_iff_eq,List.all_eq_true] at h
 by_cases hxa:x ∈ fr
 ·exact hxa
 ·have:=sub_len (x :: fr) ps (List.nodup_cons.2 ⟨hxa,h1⟩) (fun y hy => by rcases List.mem_cons.1 hy with rfl | hy;exact hx;exact of_decide_eq_true (h.2 y hy))
  rw [List.length_cons] at this
  omega
theorem size_block {bs:List BlockM} {q:BlockM} (hq:q ∈ bs):q.phis.length + q.code.length + 1 ≤ (bs.map sizeB).sum:=by
 induction bs with
 | nil => cases hq
 | cons a l ih =>
  rw [List.map_cons,List.sum_cons]
  rcases List.mem_cons.1 hq with rfl | hq
  ·show _ ≤ sizeB q + _
   unfold sizeB
   omega
  ·have:=ih hq
   omega
theorem limits_of {f:FuncM} (h:(lookM f).1=0):limitsB f=true:=by
 have hr:=look_right h
 unfold formedR at hr
 simp only [Bool.and_eq_true] at hr
 exact hr.1
theorem code_ok {f:FuncM} (h:(lookM f).1=0) {q:BlockM} (hq:q ∈ f.blocks) {x:InstrM} (hx:x ∈ q.code):CodeOk f.arrays.toNat f.cells.toNat (roomM f).toNat x:=by
 have hb:=right_blockR h hq
 unfold blockR at hb
 simp only [Bool.and_eq_true,List.all_eq_true] at hb
 have hi:=hb.2.1 x hx
 unfold instrR at hi
 rw [Bool.and_eq_true,Bool.and_eq_true,Bool.and_eq_true,beq_iff_eq] at hi
 obtain ⟨ho,hl,_,hf⟩:=hi
 obtain ⟨k,hk⟩:=List.getElem?_of_mem hq
 obtain ⟨j,hj⟩:=List.getElem?_of_mem hx
 refine ⟨fun i hi => ?_,hl,ho,fun e => ?_,fun e => ?_,fun e => value_room h (instr_value hq hx e),by rw [hl];exact takes_few _⟩
 ·obtain ⟨m,hm⟩:=List.getElem?_of_mem hi
  have hml:=(List.getElem?_eq_some_iff.1 hm).1
  obtain ⟨t,ht⟩:∃ t,(takesS x.op)[m]?=some t:=⟨_,List.getElem?_eq_getElem (by omega)⟩
  exact used_room h (each3.mem_instr hk hj hm ht)
 ·unfold fitsR at hf
  rw [e,if_neg (by decide),Bool.and_eq_true,decide_eq_true_iff,decide_eq_true_iff] at hf
  have:mostR f 3=f.arrays - 1:=rfl
  omega
 ·unfold fitsR at hf
  rw [e,if_neg (by decide),Bool.and_eq_true,decide_eq_true_iff,decide_eq_true_iff] at hf
  have:mostR f 4=f.cells - 1:=rfl
  omega
theorem term_ok {f:FuncM} (h:(lookM f).1=0) {q:BlockM} (hq:q ∈ f.blocks):TermOk (roomM f).toNat q.term:=by
 have ht:=look_term h q hq
 obtain ⟨k,hk⟩:=List.getElem?_of_mem hq
 unfold termB at ht
 rw [Bool.and_eq_true] at ht
 constructor
 ·have ht:=ht.2
  by_cases e1:q.term.op=1
  ·simp [e1] at ht
   exact .inl ⟨e1,ht.1⟩
  ·by_cases e2:q.term.op=2
   ·simp [e2] at ht
    exact .inr (.inl ⟨e2,ht.1⟩)
   ·by_cases e3:q.term.op=3
    ·simp [e3] at ht
     exact .inr (.inr (.inl ⟨e3,by rw [ht.1];rfl⟩))
    ·by_cases e4:q.term.op=4
     ·simp [e4] at ht
      exact .inr (.inr (.inr ⟨e4,by rw [ht.1];rfl⟩))
     ·simp [e1,e2,e3,e4] at ht
 ·rintro (e | e)
  ·exact used_room (u:=(q.term.val,2)) h (each3.mem_term hk (by unfold usesTerm;rw [if_pos e];exact List.mem_singleton.2 rfl))
  ·exact used_room (u:=(q.term.val,0)) h (each3.mem_term hk (by unfold usesTerm;rw [if_neg (by omega),if_pos e];exact List.mem_singleton.2 rfl))
theorem strict_fok {f:FuncM} (hs:CheckIs f (0,0)):FOk f (roomM f).toNat:=by
 obtain ⟨h,hph⟩:=check_zero hs
 have hall:=(formed_all (look_formed h)).1
 have hl:=limits_bd (limits_of h)
 have hsz:∀ (b:Nat) (q:BlockM),f.blocks[b]?=some q → q.phis.length + q.code.length + 1 ≤ 4096:=fun b q hq => by
  have:=size_block (List.mem_of_getElem? hq)
  omega
 refine ⟨fun b q hq x hx => code_ok h (List.mem_of_getElem? hq) hx,fun b q hq => term_ok h (List.mem_of_getElem? hq),fun b q hq t ht => ?_,fun b q hq => by have:=hsz b q hq;omega,fun b q hq => by have:=hsz b q hq;omega,(look_some_block h).1,fun q hq => ?_⟩
 ·have hin:=term_in rfl (look_term h q (List.mem_of_getElem? hq)) t ht
  obtain ⟨tn,rfl⟩:∃ n:Nat,t=(n:Int):=⟨t.toNat,by omega⟩
  refine ⟨tn,rfl,by omega,fun q' hq' p hp => ?_⟩
  have hmq:=List.mem_of_getElem? hq'
  obtain ⟨j,hj⟩:=List.getElem?_of_mem hp
  have hon:=(hall q' hmq).1 p hp
  unfold phiB at hon
  simp only [Bool.and_eq_true] at hon
  have hnd:=(once_nodup _ _ hon.2.2).1
  have hjust:justB p.fr (predsI f.blocks tn)=true:=by
   have:=hph tn (by omega) q' hq'
   unfold phisFitB at this
   rw [List.all_eq_true] at this
   exact this p hp
  have hbn:=(List.getElem?_eq_some_iff.1 hq).1
  refine ⟨just_mem hnd hjust ?_,look_phi h q' hmq p hp,fun v hv => ?_,value_room h (phi_value hmq hp)⟩
  ·unfold predsI predsTo
   refine List.mem_map.2 ⟨b,List.mem_filter.2 ⟨List.mem_range.2 hbn,decide_eq_true ?_⟩,rfl⟩
   unfold succM
   rw [hq]
   exact List.mem_map.2 ⟨_,ht,rfl⟩
  ·obtain ⟨m,hm⟩:=List.getElem?_of_mem hv
   exact used_room h (each3.mem_phi hq' hj hm)
 ·have hr:=look_right h
  unfold formedR headR at hr
  simp only [Bool.and_eq_true] at hr
  have:=hr.2.2.1
  rw [List.headD_eq_head?_getD,List.head?_eq_getElem?,hq] at this
  simpa using this
theorem start_fit (f:FuncM) (I:InM):Fit f (startS f I):=by
 unfold startS
 exact ⟨by simp,by simp,by simp,by simp⟩
theorem strict_bounds {f:FuncM} (hs:CheckIs f (0,0)):(∀ x ∈ idsOut f,0 ≤ x ∧ x ≤ 1048575) ∧ (f.params.length ≤ 16 ∧ (f.params.length:Int) ≤ roomM f) ∧ (0 ≤ f.cells ∧ f.cells ≤ 64) ∧ (0 ≤ f.arrays ∧ f.arrays ≤ 8) ∧ f.blocks.length ≤ 512:=by
 obtain ⟨h,_⟩:=check_zero hs
 have hl:=limits_bd (limits_of h)
 have hk:=formed_keys (look_formed h)
 refine ⟨fun x hx => ?_,⟨hl.1,?_⟩,⟨hl.2.2.2.1,hl.2.2.2.2.1⟩,⟨hl.2.1,hl.2.2.1⟩,hl.2.2.2.2.2.2.1⟩
 ·unfold idsOut at hx
  rw [if_pos h] at hx
  obtain ⟨d,hd,rfl⟩:=List.mem_map.1 (idsS_mem.1 hx)
  exact hk.1 d hd
 ·rcases Nat.eq_zero_or_pos f.params.length with e | e
  ·rw [e]
   unfold roomM
   cases hg:(idsOut f).getLast? with
   | none => simp
   | some y =>
    have:=(fun hx => by
     unfold idsOut at hx
     rw [if_pos h] at hx
     obtain ⟨d,hd,rfl⟩:=List.mem_map.1 (idsS_mem.1 hx)
     exact (hk.1 d hd).1:y ∈ idsOut f → 0 ≤ y) (List.mem_of_getLast? hg)
    simp only
    omega
  ·have:=hk.2 (f.params.length - 1) (by omega)
   rw [formed_eq (look_formed h)] at this
   have:=value_room h this
   omega
end Go.Proofs.YtglbepdjahddmaaGreat

namespace Go.Proofs.YtglbepdjahddmaaGreat
open Go.RowKit Go.Maps
def ArrsR (w:World) (B:Nat) (v:Value) (xs:List (List Int)):Prop :=
 ∃ A c,v=.slice A xs.length c ∧ xs.length ≤ 140737488351232 ∧ ∀ k l,xs[k]?=some l → ∃ b off lv,A=some ⟨b,off,none⟩ ∧ b < B ∧ w.cell? ⟨b,off + k,none⟩=some lv ∧ Ints w B lv l ∧ ∀ A2 n2 c2,lv=.slice A2 n2 c2 → n2 ≤ c2
def arrsAt (xs:List (List Int)) (na i:Nat):List (List Int):=(List.range na).map fun j => if j < i then (xs.getD j []).take 4096 else []
theorem arrsAt_zero (xs:List (List Int)) (na:Nat):arrsAt xs na 0=List.replicate na []:=by
 unfold arrsAt
 apply List.ext_getElem?
 intro k
 by_cases hk:k < na <;> simp [hk]
theorem arrsAt_len (xs:List (List Int)) (na i:Nat):(arrsAt xs na i).length=na:=by simp [arrsAt]
theorem arrsAt_next {xs:List (List Int)} {na i:Nat} {l:List Int} (hi:xs[i]?=some l) (hn:i < na):(arrsAt xs na i).set i (l.take 4096)=arrsAt xs na (i + 1):=by
 unfold arrsAt
 apply List.ext_getElem?
 intro k
 rw [List.getElem?_set]
 by_cases e:i=k
 ·subst e
  rw [if_pos rfl,if_pos (by simpa using hn),List.getElem?_map,List.getElem?_range hn]
  simp only [Option.map_some]
  rw [if_pos (by omega),List.getD_eq_getElem?_getD,hi]
  rfl
 ·rw [if_neg e]
  by_cases hk:k < na
  ·simp only [List.getElem?_map,List.getElem?_range hk,Option.map_some]
   congr 1
   by_cases h1:k < i
   ·rw [if_pos h1,if_pos (by omega)]
   ·rw [if_neg h1,if_neg (by omega)]
  ·simp [hk]
theorem arrsAt_all (f:FuncM) (I:InM) {n:Nat} (hn:n=min f.arrays.toNat I.arrs.length):arrsAt I.arrs f.arrays.toNat n=(startS f I).arrs:=by
 unfold arrsAt startS
 apply List.ext_getElem?
 intro k
 by_cases hk:k < f.arrays.toNat
 ·simp only [List.getElem?_map,List.getElem?_range hk,Option.map_some]
  congr 1
  by_cases h1:k < n
  ·rw [if_pos h1]
  ·rw [if_neg h1,List.getD_eq_getElem?_getD,List.getElem?_eq_none (by omega)]
   rfl
 ·simp [hk]
section
variable {c:MachC} {K:Nat → Prop} {w w1:World} {val:MVals} {s:StM}
theorem MachR.takeArr (h:MachR c K w val s) {i:Nat} (hi:i < s.arrs.length) {ga ca:Nat} (hga:val .arrs=.slice (some ⟨ga,0,none⟩) s.arrs.length ca) {v:Value} {l:List Int} (hb:Below w.heap.size w w1) (hown:w1.ownsRow 0 3 1 v l.length (l.map (Value.int .i64))) (hnew:∀ g,v.ownBlock=some g → w.heap.size ≤ g) :
  ∃ val',val' .arrs=val .arrs ∧ MachR c K (w1.setCell ⟨ga,i,none⟩ v) val' { s with arrs:=s.arrs.set i l } ∧ KF K w (w1.setCell ⟨ga,i,none⟩ v):=by
 have hra:mRow s c.nv val .arrs=some ⟨22,s.arrs.length,(List.range s.arrs.length).map fun j => val (.arr j)⟩:=rfl
 have hoa:(val .arrs).ownBlock=some ga:=by rw [hga];rfl
 have hoff:=h.off .arrs _ ga hra hoa
 have hgl:=h.own_lt hra hoa
 have hml:=h.m_lt
 have hk:KF K w (w1.setCell ⟨ga,i,none⟩ v):=(KF.of_below hb h.low).setCell hoff.2 v
 have hrow1:w1.ownsRow 0 22 1 (.slice (some ⟨ga,0,none⟩) s.arrs.length ca) s.arrs.length ((List.range s.arrs.length).map fun j => val (.arr j)):=by
  rw [← hga]
  exact owns_kept (h.rows _ _ hra) fun g hg => hb.block g (h.own_lt hra hg)
 have hst:=World.ownsRow.stored hrow1 i v
 refine ⟨fun t => if t=.arr i then v else val t,by simp,h.remake (.arr i) hk ?_ (fun t d ht => ?_) (fun t d g ht e => ?_),hk⟩
 ·rw [Below.heap_setCell _ _ _ _ (fun e => hoff.1 e.symm),hb.block _ hml,h.blk]
  congr 2
 ·have old:∀ t' d',t' ≠ .arrs → mRow s c.nv val t'=some d' → (w1.setCell ⟨ga,i,none⟩ v).ownsRow 0 d'.elem 1 (val t') d'.len d'.cells:=fun t' d' hne ht' => by
   refine owns_kept (h.rows t' d' ht') fun g hg => ?_
   rw [Below.heap_setCell _ _ _ _ (fun e => hne (h.apart t' .arrs d' _ g ht' hra hg (by rw [hoa,e])))]
   exact hb.block g (h.own_lt ht' hg)
  cases t with
  | arr j =>
   by_cases e:j=i
   ·subst e
    simp only [mRow,List.getElem?_set_self hi,Option.map_some,Option.some.injEq] at ht
    subst ht
    rw [if_pos rfl]
    have hne:v.ownBlock ≠ some ga:=fun e2 => by have:=hnew ga e2;omega
    have e3:intRow l=⟨3,l.length,l.map (Value.int .i64)⟩:=rfl
    rw [e3]
    exact ownsRow_setCell_other hown hne v
   ·have hne:(MTag.arr j) ≠ .arr i:=fun e2 => e (by injection e2)
    rw [if_neg hne]
    refine old (.arr j) d (by simp) ?_
    simp only [mRow] at ht ⊢
    rw [List.getElem?_set_ne (fun e2 => e e2.symm)] at ht
    exact ht
  | arrs =>
   injection ht with ht
   subst ht
   rw [if_neg (by simp)]
   have e1:((List.range (s.arrs.set i l).length).map fun j => (if MTag.arr j=.arr i then v else val (.arr j)))=((List.range s.arrs.length).map fun j => val (.arr j)).set i v:=by
    rw [List.length_set]
    apply List.ext_getElem?
    intro k
    rw [List.getElem?_set]
    by_cases e:i=k
    ·subst e
     rw [if_pos rfl,if_pos (by simpa using hi),List.getElem?_map,List.getElem?_range hi]
     simp
    ·rw [if_neg e]
     by_cases hk:k < s.arrs.length
     ·simp only [List.getElem?_map,List.getElem?_range hk,Option.map_some]
      rw [if_neg (fun e2 => e (by injection e2 with e2;exact e2.symm))]
     ·simp [hk]
   simp only at e1 ⊢
   rw [e1,hga,List.length_set]
   exact hst.1
  | vals => exact old .vals d (by simp) ht
  | cells => exact old .cells d (by simp) ht
  | vis => exact old .vis d (by simp) ht
  | out => exact old .out d (by simp) ht
 ·cases t with
  | arr j =>
   by_cases e2:j=i
   ·subst e2
    rw [if_pos rfl] at e
    exact .inr ⟨rfl,hnew g e⟩
   ·have hne:(MTag.arr j) ≠ .arr i:=fun e3 => e2 (by injection e3)
    rw [if_neg hne] at e
    simp only [mRow] at ht
    rw [List.getElem?_set_ne (fun e3 => e2 e3.symm)] at ht
    exact .inl ⟨hne,⟨d,ht⟩,e⟩
  | arrs => exact .inl ⟨by simp,⟨_,hra⟩,by simpa using e⟩
  | vals => exact .inl ⟨by simp,⟨d,ht⟩,by simpa using e⟩
  | cells => exact .inl ⟨by simp,⟨d,ht⟩,by simpa using e⟩
  | vis => exact .inl ⟨by simp,⟨d,ht⟩,by simpa using e⟩
  | out => exact .inl ⟨by simp,⟨d,ht⟩,by simpa using e⟩
set_option maxRecDepth 100000 in
set_option maxHeartbeats 4000000 in
theorem takeArrays_any (f:FuncM) (I:InM) (B:Nat) (w:World) (av:Value) (hA:ArrsR w B av I.arrs) (harr:0 ≤ f.arrays ∧ f.arrays ≤ 8):TakeArrs f I B w av:=by
 intro c K W val s h hkeep hK hs
 obtain ⟨i0,hix,hi2⟩:∃ i,Tryz.prog.info? 3=some i ∧ i.zero=some (.int .i64 0) ∧ i.size=1 ∧ i.bytes=8:=⟨_,rfl,rfl,rfl,rfl⟩
 obtain ⟨hz0,hz1,hz2⟩:=hi2
 obtain ⟨A,ac,rfl,hal,hat⟩:=hA
 have H:=hideI h
 have HAT:=hideI hat
 have HKP:=hideI hkeep
 have HK:=hideI hK
 obtain ⟨na,hna⟩:∃ na,na=f.arrays.toNat:=⟨_,rfl⟩
 obtain ⟨nx,hnx⟩:∃ nx,nx=I.arrs.length:=⟨_,rfl⟩
 have hna8:na ≤ 8:=by omega
 have hlen:s.arrs.length=na:=by rw [hs,List.length_replicate,hna]
 have hrow:=h.rows .arrs _ rfl
 obtain ⟨Ao,ca,hv⟩:∃ Ao ca,val .arrs=.slice Ao na ca:=by
  rcases hrow.2 with ⟨e,e0⟩ | ⟨g,cap,cur,e,_⟩
  ·exact ⟨none,0,by rw [e];congr 1;rw [← hlen];exact e0.symm⟩
  ·exact ⟨_,_,by rw [e,← hlen]⟩
 have c4:=h.cells 4
 simp only [machCells] at c4
 rw [hv] at c4
 have HV:=hideI hv
 rw [← hnx] at hal ⊢
 obtain ⟨n,hn⟩:∃ n:Nat,n=min na nx:=⟨_,rfl⟩
 have hn1:n ≤ na:=by omega
 have hn2:n ≤ nx:=by omega
 have hmin:min (na:Int) (nx:Int)=(n:Int):=by omega
 have HN:=hideI hn
 have HNX:=hideI hnx
 have HNA:=hideI hna
 have HS:=hideI hs
 clear h hat hkeep hK hrow hlen hv hs hnx hna hn
 go_enter Tryz.func76,Tryz.ntmps76
 go_wp2
 clear hmin
 go_loopw [15] (fun u wr => ∃ (i:Nat) (val2:MVals),i ≤ n ∧ u=.int .i64 i ∧ val2 .arrs=.slice Ao na ca ∧ Hid (MachR c K wr val2 { s with arrs:=arrsAt I.arrs na i }) ∧ Hid (KF K W wr)) (fun u _ => n - (intOf u).toNat)
 case atStart => exact ⟨0,val,Nat.zero_le _,rfl,HV.out,hideI (by rw [arrsAt_zero,HNA.out,← HS.out];exact H.out),hideI (KF.refl _)⟩
 case round =>
  obtain ⟨i,val2,hi,rfl,hv2,HMr,HFr⟩:=hrel
  have HV2:=hideI hv2
  clear hv2
  by_cases hlt:i < n
  ·obtain ⟨l,hl⟩:∃ l,I.arrs[i]?=some l:=⟨_,List.getElem?_eq_getElem (by rw [← HNX.out];omega)⟩
   obtain ⟨xb,xoff,lv,rfl,hxb,x0,hli,hcap⟩:=HAT.out i l hl
   have kp:Keeps B w wr:=HKP.out.trans (HFr.out.keeps HK.out)
   rw [← kp _ _ hxb] at x0
   have hli2:=hli.keeps kp
   have hlen2:({ s with arrs:=arrsAt I.arrs na i }:StM).arrs.length=na:=arrsAt_len _ _ _
   have hrr:mRow { s with arrs:=arrsAt I.arrs na i } c.nv val2 .arrs=some ⟨22,(arrsAt I.arrs na i).length,(List.range (arrsAt I.arrs na i).length).map fun j => val2 (.arr j)⟩:=rfl
   obtain ⟨ga,ca2,hga⟩:=HMr.out.slice hrr (by show 0 < (arrsAt I.arrs na i).length;rw [arrsAt_len];omega)
   have hga':val2 .arrs=.slice (some ⟨ga,0,none⟩) na ca2:=by rw [hga,arrsAt_len]
   obtain ⟨rfl,rfl⟩:Ao=some ⟨ga,0,none⟩ ∧ ca=ca2:=by
    have e:=HV2.out.symm.trans hga'
    injection e with e1 _ e3
    exact ⟨e1,e3⟩
   have hgc:=HMr.out.cell (j:=i) hrr hga (by show i < (arrsAt I.arrs na i).length;rw [arrsAt_len];omega)
   have hgcs:∃ u,((List.range (arrsAt I.arrs na i).length).map fun j => val2 (.arr j))[i]?=some u:=⟨_,List.getElem?_eq_getElem (by simp [arrsAt_len];omega)⟩
   obtain ⟨u0,hu0⟩:=hgcs
   have y0:=hgc.1.trans hu0
   have y1:=hgc.2
   have c4:=HMr.out.cells 4
   simp only [machCells] at c4
   rw [hga'] at c4
   have hgl:=HMr.out.own_lt hrr (show (val2 .arrs).ownBlock=some ga by rw [hga'];rfl)
   have hgm:=(HMr.out.off .arrs _ ga hrr (by rw [hga'];rfl)).1
   have hgx:¬ ga=xb:=fun e => (HMr.out.off .arrs _ ga hrr (by rw [hga'];rfl)).2 (by rw [e];exact HK.out xb hxb)
   have hgx':¬ xb=ga:=fun e => hgx e.symm
   have hgm':¬ c.m=ga:=fun e => hgm e.symm
   have hml:=HMr.out.m_lt
   have hxl:=World.block_lt_of_cell? wr _ x0
   obtain ⟨A2,c2,rfl,hll,hlat⟩:=hli2
   have hc2:=hcap _ _ _ rfl
   obtain ⟨k,hk⟩:∃ k:Nat,k=min l.length 4096:=⟨_,rfl⟩
   obtain ⟨ln,hln⟩:∃ ln:Nat,ln=l.length:=⟨_,rfl⟩
   rw [← hln] at x0 hc2
   have hmin:min (ln:Int) 4096=(k:Int):=by omega
   have hkc:(k:Int) ≤ (c2:Int):=by omega
   have hkc':k ≤ c2:=by omega
   have htl:(l.take 4096).length=k:=by rw [List.length_take,hk];omega
   have HL:=hideI hl
   have HTL:=hideI htl
   have HGA:=hideI hga'
   have hin:i < na:=by omega
   have hix2:i < nx:=by omega
   by_cases hk0:k=0
   ·subst hk0
    have hpure:∀ W:World,Sem.run Tryz.prog (pure (#[]:Array Value)) W=.ok #[] W:=fun _ => rfl
    clear hli hcap kp hlen2 hrr hga hgc hu0 hlat hln hk htl hl hga'
    cases A2
    all_goals
     go_wp2
     go_region_held3 (fun w' => w'.cell? ⟨c.m,4,none⟩=some (.slice (some ⟨ga,0,none⟩) na ca)) (first | go_keep) (first | fail)
     go_wp2
     go_roundw
     case rel =>
      obtain ⟨val3,h31,h32,h33⟩:=HMr.out.takeArr (i:=i) (l:=l.take 4096) (v:=.slice none 0 0) (by show i < (arrsAt I.arrs na i).length;rw [arrsAt_len];exact hin) (by rw [HGA.out];congr 1;exact (arrsAt_len _ _ _).symm) (Below.refl _ _)
       (by have e:l.take 4096=[]:=List.eq_nil_of_length_eq_zero HTL.out
           rw [e];exact World.ownsRow_nil _ _ _ _) (fun g e => by cases e)
      refine ⟨i + 1,val3,by omega,by go_num,by rw [h31,HGA.out],hideI ?_,hideI (HFr.out.trans (h33.drewN 1))⟩
      rw [← arrsAt_next HL.out hin]
      exact h32.drewN 1
     case measure => simp [intOf];omega
   ·obtain ⟨b2,off2,rfl,hb2,_⟩:=hlat 0 (by omega)
    obtain ⟨news,hnews⟩:∃ news,news=(l.take 4096).map (Value.int .i64):=⟨_,rfl⟩
    have HNL:Hid (news.length=k * 1):=hideI (by rw [hnews,List.length_map,htl,Nat.mul_one])
    have HNW:Hid (∀ (W:World),Below wr.heap.size wr W → ∀ j u,news[j]?=some u → W.cell? ((⟨b2,off2,none⟩:Addr).add j)=some u):=hideI fun W hW j u hu => by
     rw [hnews,List.getElem?_map] at hu
     cases hj:(l.take 4096)[j]? with
     | none => rw [hj] at hu;cases hu
     | some y =>
      rw [hj] at hu
      simp only [Option.map_some,Option.some.injEq] at hu
      subst hu
      rw [List.getElem?_take] at hj
      split at hj
      ·obtain ⟨b3,off3,e,hb3,hc3⟩:=hlat j (List.getElem?_eq_some_iff.1 hj).1
       cases e
       rw [hj] at hc3
       rw [Go.WideShapes.add_plain]
       exact (hW.cell (p:=⟨b2,off2 + j,none⟩) (World.block_lt_of_cell? wr _ hc3)).trans hc3
      ·cases hj
    have HONE:Hid (∀ u ∈ news,u.oneCell'=true):=hideI (by rw [hnews];intro u hu;obtain ⟨y,_,rfl⟩:=List.mem_map.1 hu;rfl)
    have hkpos:0 < k:=by omega
    have hk4:k ≤ 4096:=by omega
    have HK4:=hideI hk4
    have HKPOS:=hideI hkpos
    have HNEWS:=hideI hnews
    have HC4:Hid (wr.cell? ⟨c.m,4,none⟩=some (.slice (some ⟨ga,0,none⟩) na ca)):=hideI (by rw [c4];rfl)
    have HY0:=hideI y0
    have HY1:=hideI y1
    have HGL:=hideI hgl
    have HML:=hideI hml
    clear hli hcap kp hlen2 hrr hga hgc hu0 hlat hln hk htl hl hga' hnews
    go_wp2
    go_region_held3 (fun w' => w'.cell? ⟨c.m,4,none⟩=some (.slice (some ⟨ga,0,none⟩) na ca)) (first | go_keep | exact hc4n)
     (first
      | (refine step_append_lies _ rfl _ _ _ rfl 0 3 i0 (.int .i64 0) 1 8 Tryz.underlying22 hix hz0 hz1 hz2 rfl (by decide) (.slice none 0 0) 0 [] rfl (World.ownsRow_nil _ _ _ _) ⟨b2,off2,none⟩ k c2 news rfl HNL.out (HNW.out _ (by exact Below.drew (Below.refl _ _))) HONE.out HKPOS.out (by have:=HK4.out;unfold maxLen;omega) (by have:=HK4.out;omega) (Nat.zero_le _) _ rfl ?_;intro g4 cap4 w4 hown4 hg4 hat4 hlt4;have hB4:Below wr.heap.size wr w4:=⟨hg4.os,hg4.tape,hg4.output,hg4.size,fun b hb => hg4.block b hb (fun e => by cases e)⟩;have hgn:wr.heap.size ≤ g4:=(by rcases hat4 with e | e;cases e;rw [e];exact Nat.le_refl _);have HB4:=hideI hB4;have HGN:=hideI hgn;have HOW4:=hideI hown4;have hc4n:=(hB4.cell (p:=⟨c.m,4,none⟩) HML.out).trans HC4.out;have y0n:=(hB4.cell (p:=⟨ga,i,none⟩) HGL.out).trans HY0.out;have y1n:=(hB4.frozen (p:=⟨ga,i,none⟩) HGL.out).trans HY1.out;have hg4m:¬ g4=c.m:=(fun e => by have:=HML.out;omega);have hg4a:¬ g4=ga:=(fun e => by have:=HGL.out;omega);clear hg4 hat4 hown4 hB4 hgn))
    go_wp2
    go_roundw
    case rel =>
     obtain ⟨val3,h31,h32,h33⟩:=HMr.out.takeArr (w1:=w4) (i:=i) (l:=l.take 4096) (v:=.slice (some ⟨g4,0,none⟩) k cap4) (by show i < (arrsAt I.arrs na i).length;rw [arrsAt_len];exact hin) (by rw [HGA.out];congr 1;exact (arrsAt_len _ _ _).symm) HB4.out
      (by rw [HTL.out,← HNEWS.out];have h:=HOW4.out;rw [List.nil_append,Nat.zero_add] at h;exact h) (fun g e => by injection e with e;rw [← e];exact HGN.out)
     refine ⟨i + 1,val3,by omega,by go_num,by rw [h31,HGA.out],hideI ?_,hideI (HFr.out.trans h33)⟩
     rw [← arrsAt_next HL.out hin]
     exact h32
    case measure => simp [intOf];omega
  ·obtain rfl:i=n:=by omega
   go_wp2
   go_end0
   exact ⟨rfl,val2,by rw [← arrsAt_all f I (n:=i) (by rw [← HNA.out,← HNX.out];exact HN.out),← HNA.out];exact HMr.out,HFr.out⟩
end
end Go.Proofs.YtglbepdjahddmaaGreat

namespace Go.Proofs.YtglbepdjahddmaaGreat
open Go.RowKit Go.Maps
theorem ArrsR.keeps {w W:World} {B:Nat} {v:Value} {xs:List (List Int)} (h:ArrsR w B v xs) (k:Keeps B w W):ArrsR W B v xs:=by
 obtain ⟨A,c,rfl,hl,h⟩:=h
 refine ⟨A,c,rfl,hl,fun i l hi => ?_⟩
 obtain ⟨b,off,lv,ha,hb,hc,hi,hn⟩:=h i l hi
 exact ⟨b,off,lv,ha,hb,(k b _ hb).trans hc,hi.keeps k,hn⟩
def RunAny (f:FuncM) (I:InM) (F:Int) (w:World) (e:Ending) (w':World):Prop :=
 (CheckIs f (0,0) ∧ 0 ≤ F ∧ RunIs f I F.toNat w e w') ∨ ((¬ CheckIs f (0,0) ∨ F < 0) ∧ e=.returned refusedV ∧ Below w.heap.size w w')
theorem irun_any (f:FuncM) (I:InM) (B:Nat) (pv bv av rv:Value) (F:Int) (w:World) (hpv:Ints w B pv f.params) (hbv:BlocksR w B bv f.blocks) (hB:B ≤ w.heap.size) (hid:∀ u ∈ usesM f,I64 u.1)
  (ha:Ints w B av I.args) (hr:ArrsR w B rv I.arrs) :
  Calls Tryz.prog 17 #[.agg #[pv,.int .i64 f.arrays,.int .i64 f.cells,bv],.agg #[av,rv],.int .i64 F] w (RunAny f I F w):=by
 by_cases hs:CheckIs f (0,0) ∧ 0 ≤ F
 ·obtain ⟨hs,hF⟩:=hs
  obtain ⟨h1,h2,h3,h4,h5⟩:=strict_bounds hs
  obtain ⟨A2,c2,hrv,_,_⟩:=id hr
  obtain ⟨Fn,rfl⟩:∃ n:Nat,F=(n:Int):=⟨F.toNat,by omega⟩
  refine (irun_yes f I B pv bv av rv Fn w hpv hbv hB hid hs (strict_fok hs) (start_fit f I) h1 h2 h3 h4 h5 ha (fun W hW => takeArrays_any f I B W rv (hr.keeps hW) h4) A2 _ c2 hrv).mono ?_
  intro e w' h
  exact .inl ⟨hs,hF,by simpa using h⟩
 ·obtain ⟨A1,c1,hav,_,_⟩:=ha
  obtain ⟨A2,c2,hrv,_,_⟩:=hr
  have hno:¬ CheckIs f (0,0) ∨ F < 0:=by
   by_cases hc:CheckIs f (0,0)
   ·exact .inr (by have:¬ 0 ≤ F:=fun h => hs ⟨hc,h⟩;omega)
   ·exact .inl hc
  exact (irun_no f B pv bv av rv F w hpv hbv hB hid hno A1 A2 _ c1 _ c2 hav hrv).mono fun e w' h => .inr ⟨hno,h⟩
end Go.Proofs.YtglbepdjahddmaaGreat

namespace Go.Proofs.YtglbepdjahddmaaGreat
open Go.RowKit Go.Maps
structure KeepM (f:FuncM) (I:InM) (s:StM):Prop where
 fit:Fit f s
 lens:s.arrs.map List.length=(startS f I).arrs.map List.length
 told:0 ≤ s.checks ∧ (s.out.length:Int) + s.checks ≤ s.steps
theorem lookS_arrs (op:Int) (s:StM):(lookS op s).arrs=s.arrs:=by unfold lookS;split <;> rfl
theorem lookS_out (op:Int) (s:StM):(lookS op s).out=s.out:=by unfold lookS;split <;> rfl
theorem lookS_checks (op:Int) (s:StM) (h:0 ≤ s.checks ∧ s.checks < 4294967296):s.checks ≤ (lookS op s).checks ∧ (lookS op s).checks ≤ s.checks + 1:=by
 unfold lookS
 split
 ·simp only
  rw [show wrap64 (s.checks + 1)=s.checks + 1 by unfold wrap64;omega]
  omega
 ·omega
theorem made_arrs (x:InstrM) (a:List Int) (s:StM):(madeM x a s).1.arrs=s.arrs ∧ (madeM x a s).1.out=s.out ∧ ((madeM x a s).1=s ∨ (madeM x a s).1=lookS x.op s):=by
 unfold madeM
 repeat' split
 all_goals first | exact ⟨rfl,rfl,.inl rfl⟩ | exact ⟨lookS_arrs _ _,lookS_out _ _,.inr rfl⟩
theorem done_told (x:InstrM) (s:StM) (h:0 ≤ s.checks ∧ s.checks < 4294967296) :
  (doM x s).1.arrs.map List.length=s.arrs.map List.length ∧ s.checks ≤ (doM x s).1.checks ∧ ((doM x s).1.out.length:Int) + (doM x s).1.checks ≤ s.out.length + s.checks + 1:=by
 have hl:=lookS_checks x.op s h
 have ha:=lookS_arrs x.op s
 have ho:=lookS_out x.op s
 obtain ⟨m1,m2,m3⟩:=made_arrs x (x.args.map s.val) s
 have hm:s.checks ≤ (madeM x (x.args.map s.val) s).1.checks ∧ (madeM x (x.args.map s.val) s).1.checks ≤ s.checks + 1:=by
  rcases m3 with e | e
  ·rw [e];omega
  ·rw [e];omega
 unfold doM
 simp only
 split
 ·split
  ·refine ⟨?_,hl.1,by show ((lookS x.op s).out.length:Int) + (lookS x.op s).checks ≤ _;rw [ho];omega⟩
   simp only
   apply List.ext_getElem?
   intro i
   rw [List.getElem?_map,List.getElem?_map]
   by_cases e:x.n.toNat=i
   ·subst e
    by_cases hi:x.n.toNat < s.arrs.length
    ·rw [List.getElem?_set_self hi]
     unfold arrM
     rw [List.getD_eq_getElem?_getD,List.getElem?_eq_getElem hi]
     simp
    ·rw [List.getElem?_eq_none (by rw [List.length_set];omega),List.getElem?_eq_none (by omega)]
   ·rw [List.getElem?_set_ne e]
  ·exact ⟨by rw [ha],hl.1,by show ((lookS x.op s).out.length:Int) + (lookS x.op s).checks ≤ _;rw [ho];omega⟩
 ·split
  ·split
   ·exact ⟨rfl,by simp,by simp;omega⟩
   ·exact ⟨rfl,by simp,by simp;omega⟩
  ·split
   ·exact ⟨rfl,by simp,by simp;omega⟩
   ·split
    ·rename_i h5
     rw [h5] at m1 m2 hm
     simp only at m1 m2 hm ⊢
     exact ⟨by rw [m1],hm.1,by rw [m2];omega⟩
    ·rename_i h5
     rw [h5] at m1 m2 hm
     simp only at m1 m2 hm ⊢
     exact ⟨by rw [m1],hm.1,by rw [m2];omega⟩
theorem leave_keeps {f:FuncM} {b k:Nat} {s:StM} (h:Fit f s):Fit f (leaveM f b k s).s ∧ (leaveM f b k s).s.arrs=s.arrs ∧ (leaveM f b k s).s.out=s.out ∧ (leaveM f b k s).s.checks=s.checks ∧ (leaveM f b k s).s.steps=s.steps:=by
 unfold leaveM enterM
 simp only
 split
 ·exact ⟨h,rfl,rfl,rfl,rfl⟩
 ·split
  ·exact ⟨h,rfl,rfl,rfl,rfl⟩
  ·exact ⟨h.arrive _ _,rfl,rfl,rfl,rfl⟩
theorem go_keeps {f:FuncM} {I:InM} {c:CfgM} (h:KeepM f I c.s) (hs:c.s.steps < 4294967295):KeepM f I (goM f c).s:=by
 have ht:=h.told
 unfold goM
 cases c.fin with
 | some e => exact h
 | none =>
  simp only
  split
  ·rename_i x hx
   obtain ⟨d1,d2,d3⟩:=done_told x (tickM c.s) (by show 0 ≤ c.s.checks ∧ c.s.checks < 4294967296;omega)
   have d4:=doM_steps x (tickM c.s)
   simp only [tickM] at d1 d2 d3 d4
   refine ⟨h.fit.tick.done x,d1.trans h.lens,?_,?_⟩
   ·show 0 ≤ (doM x (tickM c.s)).1.checks
    simp only [tickM]
    omega
   ·show ((doM x (tickM c.s)).1.out.length:Int) + (doM x (tickM c.s)).1.checks ≤ (doM x (tickM c.s)).1.steps
    simp only [tickM]
    rw [d4]
    omega
  ·obtain ⟨l1,l2,l3,l4,l5⟩:=leave_keeps (b:=c.b) (k:=c.k) h.fit.tick
   refine ⟨l1,by rw [l2];exact h.lens,by rw [l4];exact ht.1,?_⟩
   rw [l3,l4,l5]
   simp only [tickM]
   omega
theorem go_steps_le (f:FuncM) (c:CfgM):(goM f c).s.steps ≤ c.s.steps + 1:=by
 cases h:c.fin with
 | some e => rw [goM_fin (by rw [h];simp)];omega
 | none => rw [goM_steps h];omega
theorem start_keeps (f:FuncM) (I:InM) (hfit:Fit f (startS f I)):KeepM f I (startM f I).s:=by
 unfold startM enterM
 refine ⟨hfit.arrive 0 (-1),rfl,?_⟩
 simp [arriveM,startS]
theorem goN_keeps {f:FuncM} {I:InM} (hfit:Fit f (startS f I)):∀ n,n ≤ 200000 → KeepM f I (goN f n (startM f I)).s ∧ (goN f n (startM f I)).s.steps ≤ n
 | 0,_ => ⟨start_keeps f I hfit,Nat.le_refl _⟩
 | n + 1,hn => by
  obtain ⟨h1,h2⟩:=goN_keeps hfit n (by omega)
  refine ⟨go_keeps h1 (by omega),?_⟩
  have:=go_steps_le f (goN f n (startM f I))
  show (goM f (goN f n (startM f I))).s.steps ≤ n + 1
  omega
theorem start_lens (f:FuncM) (I:InM):∀ l ∈ (startS f I).arrs,l.length ≤ 4096:=by
 intro l hl
 unfold startS at hl
 obtain ⟨i,_,rfl⟩:=List.mem_map.1 hl
 rw [List.length_take]
 omega
theorem KeepM.short {f:FuncM} {I:InM} {s:StM} (h:KeepM f I s):∀ l ∈ s.arrs,l.length ≤ 4096:=by
 intro l hl
 have:l.length ∈ s.arrs.map List.length:=List.mem_map.2 ⟨l,hl,rfl⟩
 rw [h.lens] at this
 obtain ⟨l2,h2,e⟩:=List.mem_map.1 this
 rw [← e]
 exact start_lens f I l2 h2
theorem end_keeps {f:FuncM} {I:InM} {F:Nat} {s:StM} {en:EndM} (hfit:Fit f (startS f I)) (h:EndIs f I (min F 200000) s en):KeepM f I s ∧ s.steps ≤ min F 200000:=by
 obtain ⟨rfl,_⟩:=h
 exact goN_keeps hfit _ (by omega)
end Go.Proofs.YtglbepdjahddmaaGreat
