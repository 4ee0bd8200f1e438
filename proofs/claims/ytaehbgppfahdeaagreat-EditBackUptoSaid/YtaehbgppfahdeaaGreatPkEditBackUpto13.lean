/- What EditBackUpto rests on, part 13: UseRd, EUse1, EMapM, UseWr, EachAt1, EUse2. -/
import Derived.Test.YtaehbgppfahdeaaGreatPkEditBackUpto12
import Derived.Deep.LoopGhost
import Derived.BigQuiet
import Derived.Deep.QuietTactic

namespace Go.Proofs.YtaehbgppfahdeaaGreat
open Go.RowKit
structure UseRd (w:World) (f:FuncM) (val:Vals):Prop where
 blocks:∃ A c,val .blocks=.slice A f.blocks.length c ∧ ∀ k b,f.blocks[k]?=some b → ∃ g off,A=some ⟨g,off,none⟩ ∧ w.cell? ⟨g,off + k * 6,none⟩=some (val (.phis k)) ∧ w.cell? ⟨g,off + k * 6 + 1,none⟩=some (val (.code k)) ∧ w.cell? ⟨g,off + k * 6 + 2,none⟩=some (.int .i64 b.term.op)
 phis:∀ k b,f.blocks[k]?=some b → ∃ A c,val (.phis k)=.slice A b.phis.length c ∧ ∀ j p,b.phis[j]?=some p → ∃ g off,A=some ⟨g,off,none⟩ ∧ w.cell? ⟨g,off + j * 4,none⟩=some (.int .i64 p.id) ∧ w.cell? ⟨g,off + j * 4 + 1,none⟩=some (.int .i64 p.typ) ∧ w.cell? ⟨g,off + j * 4 + 2,none⟩=some (val (.fr k j)) ∧ w.cell? ⟨g,off + j * 4 + 3,none⟩=some (val (.vals k j))
 code:∀ k b,f.blocks[k]?=some b → ∃ A c,val (.code k)=.slice A b.code.length c ∧ ∀ j x,b.code[j]?=some x → ∃ g off,A=some ⟨g,off,none⟩ ∧ w.cell? ⟨g,off + j * 4,none⟩=some (.int .i64 x.op) ∧ w.cell? ⟨g,off + j * 4 + 1,none⟩=some (.int .i64 x.id) ∧ w.cell? ⟨g,off + j * 4 + 2,none⟩=some (val (.args k j)) ∧ w.cell? ⟨g,off + j * 4 + 3,none⟩=some (.int .i64 x.n)
 fr:∀ k b j p,f.blocks[k]?=some b → b.phis[j]?=some p → ∃ A c,val (.fr k j)=.slice A p.fr.length c ∧ ∀ i x,p.fr[i]?=some x → ∃ g off,A=some ⟨g,off,none⟩ ∧ w.cell? ⟨g,off + i,none⟩=some (.int .i64 x)
 vals:∀ k b j p,f.blocks[k]?=some b → b.phis[j]?=some p → ∃ A c,val (.vals k j)=.slice A p.vals.length c ∧ (0 < p.vals.length → ∃ g off,A=some ⟨g,off,none⟩)
 args:∀ k b j x,f.blocks[k]?=some b → b.code[j]?=some x → ∃ A c,val (.args k j)=.slice A x.args.length c ∧ (0 < x.args.length → ∃ g off,A=some ⟨g,off,none⟩)
abbrev Call2:=Value → Value → World → (Ending → World → Prop) → Prop
structure Seer (f:FuncM) (val:Vals) (C:Call2) (Inv:Nat → Nat → Nat → Nat → Nat → World → Prop):Prop where
 read:∀ k a c i X w,Inv k a c i X w → UseRd w f val
 move:∀ k a c i X Y w w',Inv k a c i X w → Below w.heap.size w w' → (Y=X ∨ (w.heap.size ≤ Y ∧ Y < w'.heap.size)) → Inv k a c i Y w'
 phi:∀ k b a p i x fr X w g off n c,f.blocks[k]?=some b → b.phis[a]?=some p → p.vals[i]?=some x → p.fr[i]?=some fr → val (.vals k a)=.slice (some ⟨g,off,none⟩) n c → Inv k a 0 i X w → C (.pointer (some ⟨g,off + i,none⟩)) (.int .i64 fr) w fun e w' => e=.returned (.tuple #[]) ∧ Inv k a 0 (i + 1) X w' ∧ (X < w.heap.size → w'.heap[X]?=w.heap[X]?)
 phiE:∀ k b a p X w,f.blocks[k]?=some b → b.phis[a]?=some p → Inv k a 0 p.vals.length X w → Inv k (a + 1) 0 0 X w
 ins:∀ k b a p i x X w g off n c,f.blocks[k]?=some b → b.code[a]?=some p → p.args[i]?=some x → val (.args k a)=.slice (some ⟨g,off,none⟩) n c → Inv k b.phis.length a i X w → C (.pointer (some ⟨g,off + i,none⟩)) (.int .i64 k) w fun e w' => e=.returned (.tuple #[]) ∧ Inv k b.phis.length a (i + 1) X w' ∧ (X < w.heap.size → w'.heap[X]?=w.heap[X]?)
 insE:∀ k b a p X w,f.blocks[k]?=some b → b.code[a]?=some p → Inv k b.phis.length a p.args.length X w → Inv k b.phis.length (a + 1) 0 X w
 use:∀ k b X w g off n c,f.blocks[k]?=some b → b.term.op=2 ∨ b.term.op=3 → val .blocks=.slice (some ⟨g,off,none⟩) n c → Inv k b.phis.length b.code.length 0 X w → C (.pointer (some ⟨g,off + k * 6 + 3,none⟩)) (.int .i64 k) w fun e w' => e=.returned (.tuple #[]) ∧ Inv (k + 1) 0 0 0 X w'
 rest:∀ k b X w,f.blocks[k]?=some b → ¬ (b.term.op=2 ∨ b.term.op=3) → Inv k b.phis.length b.code.length 0 X w → Inv (k + 1) 0 0 0 X w
end Go.Proofs.YtaehbgppfahdeaaGreat

namespace Go.Proofs.YtaehbgppfahdeaaGreat
open Go.RowKit Go.Maps
def replM (old now x:Int):Int:=if x=old then now else x
def ReplAt (w:World) (q qo qn:Nat) (old now:Int):Prop :=
 w.cell? ⟨q,0,none⟩=some (.func (.func 66) #[] #[.pointer (some ⟨qo,0,none⟩),.pointer (some ⟨qn,0,none⟩)]) ∧ w.cell? ⟨qo,0,none⟩=some (.int .i64 old) ∧ w.cell? ⟨qn,0,none⟩=some (.int .i64 now)
theorem ReplAt.kept {w w':World} {B q qo qn:Nat} {old now:Int} (h:ReplAt w q qo qn old now) (hb:Below B w w') (hq:q < B ∧ qo < B ∧ qn < B):ReplAt w' q qo qn old now :=
 ⟨(hb.cell (p:=⟨q,0,none⟩) hq.1).trans h.1,(hb.cell (p:=⟨qo,0,none⟩) hq.2.1).trans h.2.1,(hb.cell (p:=⟨qn,0,none⟩) hq.2.2).trans h.2.2⟩
set_option maxHeartbeats 1000000 in
theorem repl_any (qo qn:Nat) (old now x:Int) (w:World) (h1:w.cell? ⟨qo,0,none⟩=some (.int .i64 old)) (h2:w.cell? ⟨qn,0,none⟩=some (.int .i64 now)) :
  Calls Tryz.prog 66 #[.int .i64 x,.pointer (some ⟨qo,0,none⟩),.pointer (some ⟨qn,0,none⟩)] w fun e w' => e=.returned (.int .i64 (replM old now x)) ∧ w=w':=by
 by_cases h:x=old
 ·have hb:(x == old)=true:=beq_iff_eq.2 h
  have HR:Hid (replM old now x=now):=hideI (by unfold replM;rw [if_pos h])
  clear h
  go_enter Tryz.func66,Tryz.ntmps66
  go_wp2
  go_ret
  exact ⟨by rw [HR.out];rfl,rfl⟩
 ·have hb:(x == old)=false:=beq_eq_false_iff_ne.2 h
  have HR:Hid (replM old now x=x):=hideI (by unfold replM;rw [if_neg h])
  clear h
  go_enter Tryz.func66,Tryz.ntmps66
  go_wp2
  go_ret
  exact ⟨by rw [HR.out];rfl,rfl⟩
set_option maxRecDepth 100000 in
set_option maxHeartbeats 2000000 in
theorem chUse_any (q qo qn g j:Nat) (old now x:Int) (w:World) (hr:ReplAt w q qo qn old now) (hx:w.cell? ⟨g,j,none⟩=some (.int .i64 x)) (hf:w.frozen? ⟨g,j,none⟩=false) :
  Calls Tryz.prog 115 #[.pointer (some ⟨g,j,none⟩),.pointer (some ⟨q,0,none⟩)] w fun e w' => e=.returned (.tuple #[]) ∧ w'=(w.setCell ⟨g,j,none⟩ (.int .i64 (replM old now x))).drew:=by
 obtain ⟨h1,h2,h3⟩:=hr
 have HC:Hid (Calls Tryz.prog 66 #[.int .i64 x,.pointer (some ⟨qo,0,none⟩),.pointer (some ⟨qn,0,none⟩)] w.drew fun e w' => e=.returned (.int .i64 (replM old now x)) ∧ w.drew=w'):=repl_any qo qn old now x w.drew h2 h3
 have hS0:w.cell? ⟨q,0,none⟩=some (.func (.func 66) #[] #[.pointer (some ⟨qo,0,none⟩),.pointer (some ⟨qn,0,none⟩)]) ∧ w.cell? ⟨g,j,none⟩=some (.int .i64 x):=⟨h1,hx⟩
 have hS1:w.drew.cell? ⟨q,0,none⟩=some (.func (.func 66) #[] #[.pointer (some ⟨qo,0,none⟩),.pointer (some ⟨qn,0,none⟩)]) ∧ w.drew.cell? ⟨g,j,none⟩=some (.int .i64 x):=hS0
 have hxd:w.drew.cell? ⟨g,j,none⟩=some (.int .i64 x):=hx
 have hfd:w.drew.frozen? ⟨g,j,none⟩=false:=hf
 generalize replM old now x=y at HC ⊢
 clear h1 h2 h3 hf
 go_enter Tryz.func115,Tryz.ntmps115
 refine wp_region_late (by kernel_rfl) (fun W' => W'.cell? ⟨q,0,none⟩=some (.func (.func 66) #[] #[.pointer (some ⟨qo,0,none⟩),.pointer (some ⟨qn,0,none⟩)]) ∧ W'.cell? ⟨g,j,none⟩=some (.int .i64 x)) [7] ?_
 refine wpAnyT_quiet (i:=0) (v:=?_) rfl (by kernel_rfl) (by kernel_rfl) (by kernel_rfl) (fun _ _ _ h => h) (Or.inl ⟨by rfl,?_⟩) ?_
 rotate_left
 ·(intro w;go_simp;try with_reducible rfl)
 try simp only [Act.put,List.setIfInBounds_toArray,List.set_cons_zero,List.set_cons_succ]
 refine wpAnyT_take [7] (i:=1) (v:=?_) rfl (by kernel_rfl) (by kernel_rfl) (by kernel_rfl) (by kernel_rfl) (by kernel_rfl) (by kernel_rfl) (fun _ _ _ h => h) hS0 (Or.inl ⟨by rfl,?_⟩) ?_
 rotate_left
 ·(intro w hSw;go_split_ands;go_simp;try with_reducible rfl)
 try simp only [Act.put,List.setIfInBounds_toArray,List.set_cons_zero,List.set_cons_succ]
 refine wpAnyT_quiet (i:=2) (v:=?_) rfl (by kernel_rfl) (by kernel_rfl) (by kernel_rfl) (fun _ _ _ h => h) (Or.inl ⟨by rfl,?_⟩) ?_
 rotate_left
 ·(intro w;go_simp;try with_reducible rfl)
 try simp only [Act.put,List.setIfInBounds_toArray,List.set_cons_zero,List.set_cons_succ]
 refine wpAnyT_quiet (i:=3) (v:=?_) rfl (by kernel_rfl) (by kernel_rfl) (by kernel_rfl) (fun _ _ _ h => h) (Or.inl ⟨by rfl,?_⟩) ?_
 rotate_left
 ·(intro w;go_simp;try with_reducible rfl)
 try simp only [Act.put,List.setIfInBounds_toArray,List.set_cons_zero,List.set_cons_succ]
 refine wpAnyT_take [7] (i:=4) (v:=?_) rfl (by kernel_rfl) (by kernel_rfl) (by kernel_rfl) (by kernel_rfl) (by kernel_rfl) (by kernel_rfl) (fun _ _ _ h => h) hS0 (Or.inl ⟨by rfl,?_⟩) ?_
 rotate_left
 ·(intro w hSw;go_split_ands;go_simp;try with_reducible rfl)
 try simp only [Act.put,List.setIfInBounds_toArray,List.set_cons_zero,List.set_cons_succ]
 refine wpAnyT_ready (rs:=[5]) (by kernel_rfl) (by simp) ?_
 refine AllReadyT.cons rfl (fun K hK => ?_) ?_
 ·-- 5 call value
  go_simp
  refine HC.out.mono ?_
  rintro e w3 ⟨rfl,rfl⟩
  refine hK.out _ _ (fun _ _ => hS1) ?_
  clear hK K
  try simp only [Act.put,List.setIfInBounds_toArray,List.set_cons_zero,List.set_cons_succ]
  refine wpAnyT_quiet (i:=6) (v:=?_) rfl (by kernel_rfl) (by kernel_rfl) (by kernel_rfl) (fun _ _ _ h => h) (Or.inl ⟨by rfl,?_⟩) ?_
  rotate_left
  ·(intro w;go_simp;try with_reducible rfl)
  try simp only [Act.put,List.setIfInBounds_toArray,List.set_cons_zero,List.set_cons_succ]
  refine wpAnyT_ready (rs:=[7]) (by kernel_rfl) (by simp) ?_
  refine AllReadyT.cons rfl (fun K hK => ?_) ?_
  ·-- 7 store
   go_simp
   refine hK.out _ _ (fun h => absurd (by simp) h) ?_
   clear hK K
   try simp only [Act.put,List.setIfInBounds_toArray,List.set_cons_zero,List.set_cons_succ]
   refine wpAnyT_done (by kernel_rfl) ?_ _
   go_wp2_with fail
   go_end0
   exact ⟨rfl,rfl⟩
  ·exact AllReadyT.nil
 ·exact AllReadyT.nil
def partM (h:Int → Int) (xs:List Int) (k:Nat):List Int:=(xs.take k).map h ++ xs.drop k
theorem partM_zero {h:Int → Int} {xs:List Int}:partM h xs 0=xs:=by simp [partM]
theorem partM_all {h:Int → Int} {xs:List Int} {k:Nat} (hk:xs.length ≤ k):partM h xs k=xs.map h:=by
 unfold partM
 rw [List.take_of_length_le hk,List.drop_eq_nil_of_le hk,List.append_nil]
theorem partM_len {h:Int → Int} {xs:List Int} {k:Nat}:(partM h xs k).length=xs.length:=by
 unfold partM
 simp
 omega
theorem partM_at {h:Int → Int} {xs:List Int} {k:Nat} {x:Int} (hx:xs[k]?=some x):(partM h xs k)[k]?=some x:=by
 have hk:=(List.getElem?_eq_some_iff.1 hx).1
 unfold partM
 rw [List.getElem?_append_right (by simp;omega)]
 simp [Nat.min_eq_left (Nat.le_of_lt hk),hx]
theorem partM_set {h:Int → Int} {xs:List Int} {k:Nat} {x:Int} (hx:xs[k]?=some x):(partM h xs k).set k (h x)=partM h xs (k + 1):=by
 have hk:=(List.getElem?_eq_some_iff.1 hx).1
 apply List.ext_getElem?
 intro i
 by_cases e:k=i
 ·subst e
  rw [List.getElem?_set_self (by rw [partM_len];exact hk)]
  unfold partM
  rw [List.getElem?_append_left (by simp;omega),List.getElem?_map,List.getElem?_take,if_pos (by omega),hx]
  rfl
 ·rw [List.getElem?_set_ne e]
  unfold partM
  by_cases hik:i < k
  ·rw [List.getElem?_append_left (by simp;omega),List.getElem?_append_left (by simp;omega),List.getElem?_map,List.getElem?_map,List.getElem?_take,List.getElem?_take,if_pos hik,if_pos (by omega)]
  ·rw [List.getElem?_append_right (by simp;omega),List.getElem?_append_right (by simp;omega),List.getElem?_drop,List.getElem?_drop]
   simp [Nat.min_eq_left (Nat.le_of_lt hk),Nat.min_eq_left (show k + 1 ≤ xs.length by omega)]
   congr 1
   omega
theorem grown_cell {w w1:World} {g j:Nat} {u:Value} (h:w.grownBy w1 (some g)):w.grownBy (w1.setCell ⟨g,j,none⟩ u).drew (some g):=by
 have hb:Below 0 w1 (w1.setCell ⟨g,j,none⟩ u):=(Below.refl 0 w1).setCell (Nat.zero_le _) _
 refine ⟨hb.os.trans h.os,hb.tape.trans h.tape,hb.output.trans h.output,Nat.le_trans h.size hb.size,fun k hk hne => ?_⟩
 rw [← h.block k hk hne]
 exact heap_setCell_other w1 ⟨g,j,none⟩ k u (fun e => hne (by rw [e]))
end Go.Proofs.YtaehbgppfahdeaaGreat

namespace Go.Proofs.YtaehbgppfahdeaaGreat
open Go.RowKit
def phiAt (h:Int → Int) (a j:Nat) (p:PhiM):PhiM:=if j < a then { p with vals:=p.vals.map h } else p
def insAt (h:Int → Int) (c j:Nat) (x:InstrM):InstrM:=if j < c then { x with args:=x.args.map h } else x
def mapT (h:Int → Int) (t:TermM):TermM:=if t.op=2 ∨ t.op=3 then { t with val:=h t.val } else t
def midB (h:Int → Int) (a c:Nat) (b:BlockM):BlockM:=⟨b.phis.mapIdx (phiAt h a),b.code.mapIdx (insAt h c),b.term⟩
def doneB (h:Int → Int) (b:BlockM):BlockM:=⟨b.phis.mapIdx (phiAt h b.phis.length),b.code.mapIdx (insAt h b.code.length),mapT h b.term⟩
def blkAt (h:Int → Int) (i a c k:Nat) (b:BlockM):BlockM:=if k < i then doneB h b else if k=i then midB h a c b else b
def stF (h:Int → Int) (f:FuncM) (i a c:Nat):FuncM:={ f with blocks:=f.blocks.mapIdx (blkAt h i a c) }
def mapF (h:Int → Int) (f:FuncM):FuncM:=stF h f f.blocks.length 0 0
section
variable {h:Int → Int} {f:FuncM} {val:Vals} {i a c k j:Nat} {b:BlockM}
theorem stF_at (hb:f.blocks[k]?=some b):(stF h f i a c).blocks[k]?=some (blkAt h i a c k b):=by
 unfold stF
 rw [List.getElem?_mapIdx,hb]
 rfl
theorem stF_none (hb:f.blocks[k]?=none):(stF h f i a c).blocks[k]?=none:=by
 unfold stF
 rw [List.getElem?_mapIdx,hb]
 rfl
theorem stF_len:(stF h f i a c).blocks.length=f.blocks.length:=by unfold stF;simp
theorem cellsOf_two {α:Type} {g g':Nat → α → List Value}:∀ (l l':List α) (i:Nat),l.length=l'.length → (∀ k a a',l[k]?=some a → l'[k]?=some a' → g (i + k) a=g' (i + k) a') → cellsOf g i l=cellsOf g' i l':=by
 intro l
 induction l with
 | nil => intro l' i hl _;cases l' with | nil => rfl | cons _ _ => simp at hl
 | cons a l ih =>
  intro l' i hl hx
  cases l' with
  | nil => simp at hl
  | cons a' l' =>
   rw [cellsOf,cellsOf,show g i a=g' i a' from by simpa using hx 0 a a' rfl rfl]
   rw [ih l' (i + 1) (by simpa using hl) (fun k b b' hb hb' => by have:=hx (k + 1) b b' (by simpa using hb) (by simpa using hb');rwa [show i + (k + 1)=i + 1 + k by omega] at this)]
theorem phiAt_id (p:PhiM):(phiAt h a j p).id=p.id ∧ (phiAt h a j p).typ=p.typ ∧ (phiAt h a j p).fr=p.fr:=by unfold phiAt;split <;> exact ⟨rfl,rfl,rfl⟩
theorem insAt_id (x:InstrM):(insAt h a j x).op=x.op ∧ (insAt h a j x).id=x.id ∧ (insAt h a j x).n=x.n:=by unfold insAt;split <;> exact ⟨rfl,rfl,rfl⟩
theorem blkAt_phis:∃ m,(blkAt h i a c k b).phis=b.phis.mapIdx (phiAt h m):=by
 unfold blkAt doneB midB
 split
 ·exact ⟨_,rfl⟩
 ·split
  ·exact ⟨_,rfl⟩
  ·refine ⟨0,?_⟩
   apply List.ext_getElem?
   intro j
   rw [List.getElem?_mapIdx]
   cases b.phis[j]? <;> simp [phiAt]
theorem blkAt_code:∃ m,(blkAt h i a c k b).code=b.code.mapIdx (insAt h m):=by
 unfold blkAt doneB midB
 split
 ·exact ⟨_,rfl⟩
 ·split
  ·exact ⟨_,rfl⟩
  ·refine ⟨0,?_⟩
   apply List.ext_getElem?
   intro j
   rw [List.getElem?_mapIdx]
   cases b.code[j]? <;> simp [insAt]
theorem blkAt_term:(blkAt h i a c k b).term=if k < i then mapT h b.term else b.term:=by
 unfold blkAt doneB midB
 split
 ·rfl
 ·split <;> rfl
theorem mapT_to (t:TermM):(mapT h t).to=t.to ∧ (mapT h t).op=t.op ∧ (mapT h t).n=t.n:=by unfold mapT;split <;> exact ⟨rfl,rfl,rfl⟩
theorem st_phis:rowOf (stF h f i a c) val (.phis k)=rowOf f val (.phis k):=by
 simp only [rowOf]
 cases hb:f.blocks[k]? with
 | none => simp only [stF_none hb,Option.map_none]
 | some b =>
  simp only [stF_at hb,Option.map_some]
  obtain ⟨m,hm⟩:=blkAt_phis (h:=h) (i:=i) (a:=a) (c:=c) (k:=k) (b:=b)
  rw [hm,List.length_mapIdx]
  congr 2
  refine cellsOf_two _ _ 0 (by simp) (fun r p p' hp hp' => ?_)
  rw [List.getElem?_mapIdx,hp'] at hp
  simp only [Option.map_some,Option.some.injEq] at hp
  subst hp
  unfold phiCells
  rw [(phiAt_id p').1,(phiAt_id p').2.1]
theorem st_code:rowOf (stF h f i a c) val (.code k)=rowOf f val (.code k):=by
 simp only [rowOf]
 cases hb:f.blocks[k]? with
 | none => simp only [stF_none hb,Option.map_none]
 | some b =>
  simp only [stF_at hb,Option.map_some]
  obtain ⟨m,hm⟩:=blkAt_code (h:=h) (i:=i) (a:=a) (c:=c) (k:=k) (b:=b)
  rw [hm,List.length_mapIdx]
  congr 2
  refine cellsOf_two _ _ 0 (by simp) (fun r p p' hp hp' => ?_)
  rw [List.getElem?_mapIdx,hp'] at hp
  simp only [Option.map_some,Option.some.injEq] at hp
  subst hp
  unfold instrCells
  rw [(insAt_id p').1,(insAt_id p').2.1,(insAt_id p').2.2]
theorem st_ends:rowOf (stF h f i a c) val (.ends k)=rowOf f val (.ends k):=by
 simp only [rowOf]
 cases hb:f.blocks[k]? with
 | none => simp only [stF_none hb,Option.map_none]
 | some b =>
  simp only [stF_at hb,Option.map_some,blkAt_term]
  split
  ·rw [(mapT_to b.term).1]
  ·rfl
theorem st_fr:rowOf (stF h f i a c) val (.fr k j)=rowOf f val (.fr k j):=by
 simp only [rowOf]
 cases hb:f.blocks[k]? with
 | none => simp only [stF_none hb,Option.bind_none]
 | some b =>
  simp only [stF_at hb,Option.bind_some]
  obtain ⟨m,hm⟩:=blkAt_phis (h:=h) (i:=i) (a:=a) (c:=c) (k:=k) (b:=b)
  rw [hm,List.getElem?_mapIdx]
  cases b.phis[j]? with
  | none => rfl
  | some p => simp only [Option.map_some,(phiAt_id p).2.2]
theorem st_vals:rowOf (stF h f i a c) val (.vals k j)=(f.blocks[k]?.bind fun b => b.phis[j]?).map fun p => intsRow (if k < i ∨ (k=i ∧ j < a) then p.vals.map h else p.vals):=by
 simp only [rowOf]
 cases hb:f.blocks[k]? with
 | none => simp only [stF_none hb,Option.bind_none,Option.map_none]
 | some b =>
  simp only [stF_at hb,Option.bind_some]
  cases hp:b.phis[j]? with
  | none =>
   obtain ⟨m,hm⟩:=blkAt_phis (h:=h) (i:=i) (a:=a) (c:=c) (k:=k) (b:=b)
   rw [hm,List.getElem?_mapIdx,hp]
   rfl
  | some p =>
   have hj:=(List.getElem?_eq_some_iff.1 hp).1
   simp only [Option.map_some]
   unfold blkAt doneB midB
   by_cases h1:k < i
   ·rw [if_pos h1,if_pos (.inl h1),List.getElem?_mapIdx,hp]
    simp only [Option.map_some,phiAt,if_pos hj]
   ·rw [if_neg h1]
    by_cases h2:k=i
    ·rw [if_pos h2,List.getElem?_mapIdx,hp]
     simp only [Option.map_some,phiAt]
     by_cases h3:j < a
     ·rw [if_pos h3,if_pos (.inr ⟨h2,h3⟩)]
     ·rw [if_neg h3,if_neg (by omega)]
    ·rw [if_neg h2,if_neg (by omega),hp]
     rfl
theorem st_args:rowOf (stF h f i a c) val (.args k j)=(f.blocks[k]?.bind fun b => b.code[j]?).map fun x => intsRow (if k < i ∨ (k=i ∧ j < c) then x.args.map h else x.args):=by
 simp only [rowOf]
 cases hb:f.blocks[k]? with
 | none => simp only [stF_none hb,Option.bind_none,Option.map_none]
 | some b =>
  simp only [stF_at hb,Option.bind_some]
  cases hp:b.code[j]? with
  | none =>
   obtain ⟨m,hm⟩:=blkAt_code (h:=h) (i:=i) (a:=a) (c:=c) (k:=k) (b:=b)
   rw [hm,List.getElem?_mapIdx,hp]
   rfl
  | some p =>
   have hj:=(List.getElem?_eq_some_iff.1 hp).1
   simp only [Option.map_some]
   unfold blkAt doneB midB
   by_cases h1:k < i
   ·rw [if_pos h1,if_pos (.inl h1),List.getElem?_mapIdx,hp]
    simp only [Option.map_some,insAt,if_pos hj]
   ·rw [if_neg h1]
    by_cases h2:k=i
    ·rw [if_pos h2,List.getElem?_mapIdx,hp]
     simp only [Option.map_some,insAt]
     by_cases h3:j < c
     ·rw [if_pos h3,if_pos (.inr ⟨h2,h3⟩)]
     ·rw [if_neg h3,if_neg (by omega)]
    ·rw [if_neg h2,if_neg (by omega),hp]
     rfl
theorem st_blocks:rowOf (stF h f i a c) val .blocks=some ⟨62,6,f.blocks.length,cellsOf (fun k b => blockCells val k ⟨b.phis,b.code,if k < i then mapT h b.term else b.term⟩) 0 f.blocks⟩:=by
 simp only [rowOf]
 rw [stF_len]
 congr 2
 refine cellsOf_two _ _ 0 stF_len (fun r p p' hp hp' => ?_)
 rw [stF_at hp'] at hp
 cases hp
 unfold blockCells
 rw [blkAt_term]
 simp only [Nat.zero_add]
theorem stF_start:∀ t,rowOf (stF h f 0 0 0) val t=rowOf f val t:=by
 intro t
 cases t with
 | params => rfl
 | blocks => rw [st_blocks];simp only [Nat.not_lt_zero,if_false];rfl
 | phis k => exact st_phis
 | code k => exact st_code
 | ends k => exact st_ends
 | fr k j => exact st_fr
 | vals k j => rw [st_vals];simp only [Nat.not_lt_zero,and_false,or_self,if_false];rfl
 | args k j => rw [st_args];simp only [Nat.not_lt_zero,and_false,or_self,if_false];rfl
theorem stF_phi {p:PhiM} (hb:f.blocks[i]?=some b) (hp:b.phis[j]?=some p):∀ t,rowOf (stF h f i (j + 1) c) val t=upd (rowOf (stF h f i j c) val) (.vals i j) (some (intsRow (p.vals.map h))) t:=by
 intro t
 by_cases e:t=.vals i j
 ·subst e
  rw [upd_same,st_vals,hb]
  simp only [Option.bind_some,hp,Option.map_some]
  rw [if_pos (.inr ⟨trivial,by omega⟩)]
 ·rw [upd_ne _ _ e]
  cases t with
  | params => rfl
  | blocks => rw [st_blocks,st_blocks]
  | phis k => rw [st_phis,st_phis]
  | code k => rw [st_code,st_code]
  | ends k => rw [st_ends,st_ends]
  | fr k r => rw [st_fr,st_fr]
  | args k r => rw [st_args,st_args]
  | vals k r =>
   rw [st_vals,st_vals]
   have hne:¬ (k=i ∧ r=j):=fun ⟨h1,h2⟩ => e (by rw [h1,h2])
   have hiff:(k < i ∨ (k=i ∧ r < j + 1)) ↔ (k < i ∨ (k=i ∧ r < j)):=by omega
   simp only [hiff]
theorem stF_ins {x:InstrM} (hb:f.blocks[i]?=some b) (hx:b.code[j]?=some x):∀ t,rowOf (stF h f i a (j + 1)) val t=upd (rowOf (stF h f i a j) val) (.args i j) (some (intsRow (x.args.map h))) t:=by
 intro t
 by_cases e:t=.args i j
 ·subst e
  rw [upd_same,st_args,hb]
  simp only [Option.bind_some,hx,Option.map_some]
  rw [if_pos (.inr ⟨trivial,by omega⟩)]
 ·rw [upd_ne _ _ e]
  cases t with
  | params => rfl
  | blocks => rw [st_blocks,st_blocks]
  | phis k => rw [st_phis,st_phis]
  | code k => rw [st_code,st_code]
  | ends k => rw [st_ends,st_ends]
  | fr k r => rw [st_fr,st_fr]
  | vals k r => rw [st_vals,st_vals]
  | args k r =>
   rw [st_args,st_args]
   have hne:¬ (k=i ∧ r=j):=fun ⟨h1,h2⟩ => e (by rw [h1,h2])
   have hiff:(k < i ∨ (k=i ∧ r < j + 1)) ↔ (k < i ∨ (k=i ∧ r < j)):=by omega
   simp only [hiff]
theorem stF_end (hb:f.blocks[i]?=some b) (hop:¬ (b.term.op=2 ∨ b.term.op=3)):∀ t,rowOf (stF h f (i + 1) 0 0) val t=rowOf (stF h f i b.phis.length b.code.length) val t:=by
 intro t
 cases t with
 | params => rfl
 | phis k => rw [st_phis,st_phis]
 | code k => rw [st_code,st_code]
 | ends k => rw [st_ends,st_ends]
 | fr k r => rw [st_fr,st_fr]
 | blocks =>
  rw [st_blocks,st_blocks]
  congr 2
  refine cellsOf_congr _ 0 (fun k a' hk => ?_)
  simp only [Nat.zero_add]
  by_cases e:k=i
  ·subst e
   rw [hb] at hk
   cases hk
   rw [if_pos (by omega),if_neg (by omega)]
   unfold mapT
   rw [if_neg hop]
  ·have hiff:k < i + 1 ↔ k < i:=by omega
   simp only [hiff]
 | vals k r =>
  rw [st_vals,st_vals]
  cases hk:f.blocks[k]? with
  | none => rfl
  | some b' =>
   simp only [Option.bind_some]
   cases hp:b'.phis[r]? with
   | none => rfl
   | some p =>
    have hr:=(List.getElem?_eq_some_iff.1 hp).1
    have hiff:(k < i + 1 ∨ (k=i + 1 ∧ r < 0)) ↔ (k < i ∨ (k=i ∧ r < b.phis.length)):=by
     by_cases e:k=i
     ·subst e
      rw [hb] at hk
      cases hk
      omega
     ·omega
    simp only [hiff]
 | args k r =>
  rw [st_args,st_args]
  cases hk:f.blocks[k]? with
  | none => rfl
  | some b' =>
   simp only [Option.bind_some]
   cases hp:b'.code[r]? with
   | none => rfl
   | some p =>
    have hr:=(List.getElem?_eq_some_iff.1 hp).1
    have hiff:(k < i + 1 ∨ (k=i + 1 ∧ r < 0)) ↔ (k < i ∨ (k=i ∧ r < b.code.length)):=by
     by_cases e:k=i
     ·subst e
      rw [hb] at hk
      cases hk
      omega
     ·omega
    simp only [hiff]
theorem blk_len (val:Vals) (F:Nat → BlockM → TermM):∀ k (b:BlockM),(blockCells val k ⟨b.phis,b.code,F k b⟩).length=6:=fun _ _ => rfl
theorem stF_use (hb:f.blocks[i]?=some b) (hop:b.term.op=2 ∨ b.term.op=3):∀ t,rowOf (stF h f (i + 1) 0 0) val t=upd (rowOf (stF h f i b.phis.length b.code.length) val) .blocks (some ⟨62,6,f.blocks.length,(cellsOf (fun k b => blockCells val k ⟨b.phis,b.code,if k < i then mapT h b.term else b.term⟩) 0 f.blocks).set (i * 6 + 3) (.int .i64 (h b.term.val))⟩) t:=by
 intro t
 by_cases e:t=.blocks
 ·subst e
  rw [upd_same,st_blocks]
  congr 2
  refine (cellsOf_set (i:=i) (r:=3) (blk_len val _) (blk_len val _) (List.getElem?_eq_some_iff.1 hb).1 (by omega) (fun k a' hk hne => ?_) (fun a' ha => ?_)).symm
  ·have hiff:k < i + 1 ↔ k < i:=by omega
   simp only [hiff]
  ·rw [hb] at ha
   cases ha
   simp only [Nat.lt_succ_self,if_true,Nat.lt_irrefl,if_false]
   unfold mapT blockCells
   rw [if_pos hop]
   rfl
 ·rw [upd_ne _ _ e]
  cases t with
  | params => rfl
  | blocks => exact absurd rfl e
  | phis k => rw [st_phis,st_phis]
  | code k => rw [st_code,st_code]
  | ends k => rw [st_ends,st_ends]
  | fr k r => rw [st_fr,st_fr]
  | vals k r =>
   rw [st_vals,st_vals]
   cases hk:f.blocks[k]? with
   | none => rfl
   | some b' =>
    simp only [Option.bind_some]
    cases hp:b'.phis[r]? with
    | none => rfl
    | some p =>
     have hr:=(List.getElem?_eq_some_iff.1 hp).1
     have hiff:(k < i + 1 ∨ (k=i + 1 ∧ r < 0)) ↔ (k < i ∨ (k=i ∧ r < b.phis.length)):=by
      by_cases e:k=i
      ·subst e
       rw [hb] at hk
       cases hk
       omega
      ·omega
     simp only [hiff]
  | args k r =>
   rw [st_args,st_args]
   cases hk:f.blocks[k]? with
   | none => rfl
   | some b' =>
    simp only [Option.bind_some]
    cases hp:b'.code[r]? with
    | none => rfl
    | some p =>
     have hr:=(List.getElem?_eq_some_iff.1 hp).1
     have hiff:(k < i + 1 ∨ (k=i + 1 ∧ r < 0)) ↔ (k < i ∨ (k=i ∧ r < b.code.length)):=by
      by_cases e:k=i
      ·subst e
       rw [hb] at hk
       cases hk
       omega
      ·omega
     simp only [hiff]
end
end Go.Proofs.YtaehbgppfahdeaaGreat

namespace Go.Proofs.YtaehbgppfahdeaaGreat
open Go.RowKit
theorem own_slice {w:World} {base n size:Nat} {e:TypeId} {v:Value} {xs:List Value} (h:w.ownsRow base e size v n xs):∃ A c,v=.slice A n c:=by
 rcases h.2 with ⟨e,e0⟩ | ⟨g,cap,cur,e,_⟩
 ·exact ⟨none,0,by rw [e,e0]⟩
 ·exact ⟨_,_,e⟩
structure FarK (val:Vals) (D:Tag → Prop) (w w':World):Prop where
 os:w'.os=w.os
 tape:w'.tape=w.tape
 output:w'.output=w.output
 size:w.heap.size ≤ w'.heap.size
 block:∀ b,b < w.heap.size → (∀ t,D t → (val t).ownBlock ≠ some b) → w'.heap[b]?=w.heap[b]?
theorem FarK.refl (val:Vals) (D:Tag → Prop) (w:World):FarK val D w w:=⟨rfl,rfl,rfl,Nat.le_refl _,fun _ _ _ => rfl⟩
theorem FarK.below {val:Vals} {D:Tag → Prop} {w w1 w2:World} (h:FarK val D w w1) (hb:Below w1.heap.size w1 w2):FarK val D w w2 :=
 ⟨hb.os.trans h.os,hb.tape.trans h.tape,hb.output.trans h.output,Nat.le_trans h.size hb.size,fun b hl hn => (hb.block b (Nat.lt_of_lt_of_le hl h.size)).trans (h.block b hl hn)⟩
theorem FarK.grown {val:Vals} {D:Tag → Prop} {w w1 w2:World} {t0:Tag} (h:FarK val D w w1) (hg:w1.grownBy w2 (val t0).ownBlock) (ht:D t0):FarK val D w w2 :=
 ⟨hg.os.trans h.os,hg.tape.trans h.tape,hg.output.trans h.output,Nat.le_trans h.size hg.size,fun b hl hn => (hg.block b (Nat.lt_of_lt_of_le hl h.size) (fun e => hn t0 ht e.symm)).trans (h.block b hl hn)⟩
theorem phi_len (val:Vals) (k:Nat):∀ i p,(phiCells val k i p).length=4:=fun _ _ => rfl
theorem ins_len (val:Vals) (k:Nat):∀ i p,(instrCells val k i p).length=4:=fun _ _ => rfl
section
variable {w:World} {base i a c k j:Nat} {f:FuncM} {val:Vals} {h:Int → Int} {b:BlockM}
end
def midT (f:FuncM) (k a c:Nat):Option (Tag × List Int):=f.blocks[k]?.bind fun b => match b.phis[a]? with
 | some p => some (.vals k a,p.vals)
 | none => b.code[c]?.map fun x => (.args k c,x.args)
def rowI (h:Int → Int) (f:FuncM) (val:Vals) (k a c i:Nat):Rows:=match midT f k a c with
 | none => rowOf (stF h f k a c) val
 | some (t,xs) => upd (rowOf (stF h f k a c) val) t (some (intsRow (partM h xs i)))
section
variable {h:Int → Int} {f:FuncM} {val:Vals} {k a c i:Nat} {b:BlockM}
theorem midT_phi {p:PhiM} (hb:f.blocks[k]?=some b) (hp:b.phis[a]?=some p):midT f k a c=some (.vals k a,p.vals):=by
 simp only [midT,hb,Option.bind_some,hp]
theorem midT_ins {x:InstrM} (hb:f.blocks[k]?=some b) (hx:b.code[c]?=some x):midT f k b.phis.length c=some (.args k c,x.args):=by
 simp only [midT,hb,Option.bind_some,List.getElem?_eq_none (Nat.le_refl _),hx,Option.map_some]
theorem midT_row {t:Tag} {xs:List Int} (hm:midT f k a c=some (t,xs)):rowOf (stF h f k a c) val t=some (intsRow xs) ∧ ((∃ b p,f.blocks[k]?=some b ∧ b.phis[a]?=some p ∧ t=.vals k a ∧ xs=p.vals) ∨ ∃ b x,f.blocks[k]?=some b ∧ b.code[c]?=some x ∧ t=.args k c ∧ xs=x.args):=by
 unfold midT at hm
 cases hb:f.blocks[k]? with
 | none => rw [hb] at hm;cases hm
 | some b =>
  rw [hb] at hm
  simp only [Option.bind_some] at hm
  cases hp:b.phis[a]? with
  | some p =>
   rw [hp] at hm
   simp only [Option.some.injEq,Prod.mk.injEq] at hm
   obtain ⟨rfl,rfl⟩:=hm
   refine ⟨?_,.inl ⟨b,p,rfl,hp,rfl,rfl⟩⟩
   rw [st_vals,hb]
   simp only [Option.bind_some,hp,Option.map_some]
   rw [if_neg (by omega)]
  | none =>
   rw [hp] at hm
   cases hx:b.code[c]? with
   | none => rw [hx] at hm;cases hm
   | some x =>
    rw [hx] at hm
    simp only [Option.map_some,Option.some.injEq,Prod.mk.injEq] at hm
    obtain ⟨rfl,rfl⟩:=hm
    refine ⟨?_,.inr ⟨b,x,rfl,hx,rfl,rfl⟩⟩
    rw [st_args,hb]
    simp only [Option.bind_some,hx,Option.map_some]
    rw [if_neg (by omega)]
theorem rowI_zero:∀ t,rowI h f val k a c 0 t=rowOf (stF h f k a c) val t:=by
 intro t
 unfold rowI
 cases hm:midT f k a c with
 | none => rfl
 | some q =>
  obtain ⟨t0,xs⟩:=q
  simp only
  by_cases e:t=t0
  ·subst e
   rw [upd_same,partM_zero,(midT_row hm).1]
  ·rw [upd_ne _ _ e]
theorem rowI_at {t:Tag} {xs:List Int} (hm:midT f k a c=some (t,xs)):rowI h f val k a c i t=some (intsRow (partM h xs i)):=by
 unfold rowI
 rw [hm]
 exact upd_same _ _ _
theorem rowI_step {t:Tag} {xs:List Int} {x:Int} (hm:midT f k a c=some (t,xs)) (hx:xs[i]?=some x):∀ t',rowI h f val k a c (i + 1) t'=upd (rowI h f val k a c i) t (some { intsRow (partM h xs i) with cells:=(intsRow (partM h xs i)).cells.set i (.int .i64 (h x)) }) t':=by
 intro t'
 by_cases e:t'=t
 ·subst e
  rw [upd_same,rowI_at hm]
  have h1:(intsRow (partM h xs i)).cells.set i (.int .i64 (h x))=(intsRow (partM h xs (i + 1))).cells:=by
   show ((partM h xs i).map _).set i _=(partM h xs (i + 1)).map _
   rw [← List.map_set,partM_set hx]
  rw [h1]
  unfold intsRow
  simp only [partM_len]
 ·rw [upd_ne _ _ e]
  unfold rowI
  rw [hm]
  simp only
  rw [upd_ne _ _ e,upd_ne _ _ e]
theorem rowI_phiE {p:PhiM} (hb:f.blocks[k]?=some b) (hp:b.phis[a]?=some p):∀ t,rowI h f val k (a + 1) 0 0 t=rowI h f val k a 0 p.vals.length t:=by
 intro t
 rw [rowI_zero,stF_phi hb hp]
 unfold rowI
 rw [midT_phi hb hp]
 simp only
 rw [partM_all (Nat.le_refl _)]
theorem rowI_insE {x:InstrM} (hb:f.blocks[k]?=some b) (hx:b.code[c]?=some x):∀ t,rowI h f val k b.phis.length (c + 1) 0 t=rowI h f val k b.phis.length c x.args.length t:=by
 intro t
 rw [rowI_zero,stF_ins hb hx]
 unfold rowI
 rw [midT_ins hb hx]
 simp only
 rw [partM_all (Nat.le_refl _)]
theorem rowI_same {t:Tag} (ht:∀ k j,t ≠ .vals k j ∧ t ≠ .args k j):rowI h f val k a c i t=rowOf (stF h f k a c) val t:=by
 unfold rowI
 cases hm:midT f k a c with
 | none => rfl
 | some q =>
  obtain ⟨t0,xs⟩:=q
  simp only
  rcases (midT_row (h:=h) (val:=val) hm).2 with ⟨_,_,_,_,e,_⟩ | ⟨_,_,_,_,e,_⟩
  ·exact upd_ne _ _ (by rw [e];exact (ht k a).1)
  ·exact upd_ne _ _ (by rw [e];exact (ht k c).2)
theorem rowI_uses {t:Tag} {xs:List Int} (hd:rowOf f val t=some (intsRow xs)) (ht:(∃ k j,t=.vals k j) ∨ ∃ k j,t=.args k j):∃ ys:List Int,ys.length=xs.length ∧ rowI h f val k a c i t=some (intsRow ys):=by
 have h0:∃ ys:List Int,ys.length=xs.length ∧ rowOf (stF h f k a c) val t=some (intsRow ys):=by
  rcases ht with ⟨k',j,rfl⟩ | ⟨k',j,rfl⟩
  ·rw [st_vals]
   simp only [rowOf] at hd
   cases hq:(f.blocks[k']?.bind fun b => b.phis[j]?) with
   | none => rw [hq] at hd;cases hd
   | some p =>
    rw [hq] at hd
    simp only [Option.map_some,Option.some.injEq] at hd
    have hl:p.vals.length=xs.length:=congrArg RowD.len hd
    refine ⟨_,?_,rfl⟩
    split <;> simp [hl]
  ·rw [st_args]
   simp only [rowOf] at hd
   cases hq:(f.blocks[k']?.bind fun b => b.code[j]?) with
   | none => rw [hq] at hd;cases hd
   | some p =>
    rw [hq] at hd
    simp only [Option.map_some,Option.some.injEq] at hd
    have hl:p.args.length=xs.length:=congrArg RowD.len hd
    refine ⟨_,?_,rfl⟩
    split <;> simp [hl]
 unfold rowI
 cases hm:midT f k a c with
 | none => exact h0
 | some q =>
  obtain ⟨t0,zs⟩:=q
  simp only
  by_cases e:t=t0
  ·subst e
   rw [upd_same]
   obtain ⟨ys,hl,hy⟩:=h0
   rw [(midT_row hm).1] at hy
   have hl2:zs.length=ys.length:=congrArg RowD.len (Option.some.inj hy)
   exact ⟨_,by rw [partM_len,hl2,hl],rfl⟩
  ·rw [upd_ne _ _ e]
   exact h0
end
theorem UseRd.of_own {h:Int → Int} {f:FuncM} {val:Vals} {k a c i base:Nat} {w:World} (ho:OwnG w base (rowI h f val k a c i) val (EE f f.blocks.length)):UseRd w f val:=by
 have hcell:∀ t d,rowI h f val k a c i t=some d → EE f f.blocks.length t → ∃ A cc,val t=.slice A d.len cc ∧ ∀ j u,d.cells[j]?=some u → ∃ g,A=some ⟨g,0,none⟩ ∧ w.cell? ⟨g,0 + j,none⟩=some u:=fun t d hd hD => by
  have hown:=ho.rows t d hD hd
  rcases hown.2 with ⟨hv,h0⟩ | ⟨g,cap,cur,hv,hb,hg,r⟩
  ·refine ⟨none,0,by rw [hv,h0],fun j u hu => ?_⟩
   have h1:=hown.1
   have h2:=(List.getElem?_eq_some_iff.1 hu).1
   rw [h1,h0] at h2
   omega
  ·refine ⟨some ⟨g,0,none⟩,cap,hv,fun j u hu => ⟨g,rfl,?_⟩⟩
   rw [hv] at hown
   have hj:=(List.getElem?_eq_some_iff.1 hu).1
   rw [hown.1] at hj
   rw [Nat.zero_add,World.ownsRow.cellAt hown j hj,hu]
 refine ⟨?_,fun q b hb => ?_,fun q b hb => ?_,fun q b j p hb hp => ?_,fun q b j p hb hp => ?_,fun q b j x hb hx => ?_⟩
 ·obtain ⟨A,cc,e,hx⟩:=hcell .blocks _ ((rowI_same (fun _ _ => ⟨by simp,by simp⟩)).trans st_blocks) (.inr (.inl rfl))
  refine ⟨A,cc,e,fun q b hb => ?_⟩
  have hc:∀ r u,[val (.phis q),val (.code q),.int .i64 b.term.op][r]?=some u → ∃ g,A=some ⟨g,0,none⟩ ∧ w.cell? ⟨g,0 + (q * 6 + r),none⟩=some u:=fun r u hu => by
   have hr:r < 3:=by simpa using (List.getElem?_eq_some_iff.1 hu).1
   refine hx (q * 6 + r) u ?_
   show (cellsOf _ 0 f.blocks)[q * 6 + r]?=some u
   rw [cellsOf_at (s:=6) (blk_len val _) f.blocks 0 q r b hb (by omega),Nat.zero_add]
   match r,hr with
   | 0,_ => exact hu
   | 1,_ => exact hu
   | 2,_ =>
    refine Eq.trans ?_ hu
    show some (Value.int .i64 (if q < k then mapT h b.term else b.term).op)=some (Value.int .i64 b.term.op)
    split
    ·rw [(mapT_to b.term).2.1]
    ·rfl
  obtain ⟨g,rfl,h0⟩:=hc 0 _ rfl
  obtain ⟨g1,e1,h1⟩:=hc 1 _ rfl
  cases e1
  obtain ⟨g2,e2,h2⟩:=hc 2 _ rfl
  cases e2
  exact ⟨g,0,rfl,h0,h1,h2⟩
 ·have hd:rowOf f val (.phis q)=some ⟨76,4,b.phis.length,cellsOf (phiCells val q) 0 b.phis⟩:=by simp only [rowOf,hb,Option.map_some]
  obtain ⟨A,cc,e,hx⟩:=hcell (.phis q) _ ((rowI_same (fun _ _ => ⟨by simp,by simp⟩)).trans (st_phis.trans hd)) (EE.all hd)
  refine ⟨A,cc,e,fun j p hp => ?_⟩
  have hc:∀ r u,[Value.int .i64 p.id,.int .i64 p.typ,val (.fr q j),val (.vals q j)][r]?=some u → ∃ g,A=some ⟨g,0,none⟩ ∧ w.cell? ⟨g,0 + (j * 4 + r),none⟩=some u:=fun r u hu => by
   refine hx (j * 4 + r) u ?_
   show (cellsOf _ 0 b.phis)[j * 4 + r]?=some u
   rw [cellsOf_at (s:=4) (phi_len val q) b.phis 0 j r p hp (by simpa using (List.getElem?_eq_some_iff.1 hu).1),Nat.zero_add]
   exact hu
  obtain ⟨g,rfl,h0⟩:=hc 0 _ rfl
  obtain ⟨g1,e1,h1⟩:=hc 1 _ rfl
  cases e1
  obtain ⟨g2,e2,h2⟩:=hc 2 _ rfl
  cases e2
  obtain ⟨g3,e3,h3⟩:=hc 3 _ rfl
  cases e3
  exact ⟨g,0,rfl,h0,h1,h2,h3⟩
 ·have hd:rowOf f val (.code q)=some ⟨68,4,b.code.length,cellsOf (instrCells val q) 0 b.code⟩:=by simp only [rowOf,hb,Option.map_some]
  obtain ⟨A,cc,e,hx⟩:=hcell (.code q) _ ((rowI_same (fun _ _ => ⟨by simp,by simp⟩)).trans (st_code.trans hd)) (EE.all hd)
  refine ⟨A,cc,e,fun j p hp => ?_⟩
  have hc:∀ r u,[Value.int .i64 p.op,.int .i64 p.id,val (.args q j),.int .i64 p.n][r]?=some u → ∃ g,A=some ⟨g,0,none⟩ ∧ w.cell? ⟨g,0 + (j * 4 + r),none⟩=some u:=fun r u hu => by
   refine hx (j * 4 + r) u ?_
   show (cellsOf _ 0 b.code)[j * 4 + r]?=some u
   rw [cellsOf_at (s:=4) (ins_len val q) b.code 0 j r p hp (by simpa using (List.getElem?_eq_some_iff.1 hu).1),Nat.zero_add]
   exact hu
  obtain ⟨g,rfl,h0⟩:=hc 0 _ rfl
  obtain ⟨g1,e1,h1⟩:=hc 1 _ rfl
  cases e1
  obtain ⟨g2,e2,h2⟩:=hc 2 _ rfl
  cases e2
  obtain ⟨g3,e3,h3⟩:=hc 3 _ rfl
  cases e3
  exact ⟨g,0,rfl,h0,h1,h2,h3⟩
 ·have hd:rowOf f val (.fr q j)=some (intsRow p.fr):=by simp only [rowOf,hb,Option.bind_some,hp,Option.map_some]
  obtain ⟨A,cc,e,hx⟩:=hcell (.fr q j) _ ((rowI_same (fun _ _ => ⟨by simp,by simp⟩)).trans (st_fr.trans hd)) (EE.all hd)
  refine ⟨A,cc,e,fun i x hi => ?_⟩
  obtain ⟨g,e1,h1⟩:=hx i (.int .i64 x) (by show (p.fr.map _)[i]?=_;rw [List.getElem?_map,hi];rfl)
  exact ⟨g,0,e1,h1⟩
 ·have hd:rowOf f val (.vals q j)=some (intsRow p.vals):=by simp only [rowOf,hb,Option.bind_some,hp,Option.map_some]
  obtain ⟨ys,hl,hy⟩:=rowI_uses (h:=h) (k:=k) (a:=a) (c:=c) (i:=i) hd (.inl ⟨_,_,rfl⟩)
  obtain ⟨A,cc,e,hx⟩:=hcell (.vals q j) _ hy (EE.all hd)
  refine ⟨A,cc,e.trans (by show Value.slice A ys.length cc=_;rw [hl]),fun h0 => ?_⟩
  have h0':0 < ys.length:=by omega
  obtain ⟨g,e1,_⟩:=hx 0 (.int .i64 ys[0]) (by show (ys.map _)[0]?=_;rw [List.getElem?_map,List.getElem?_eq_getElem h0'];rfl)
  exact ⟨g,0,e1⟩
 ·have hd:rowOf f val (.args q j)=some (intsRow x.args):=by simp only [rowOf,hb,Option.bind_some,hx,Option.map_some]
  obtain ⟨ys,hl,hy⟩:=rowI_uses (h:=h) (k:=k) (a:=a) (c:=c) (i:=i) hd (.inr ⟨_,_,rfl⟩)
  obtain ⟨A,cc,e,hq⟩:=hcell (.args q j) _ hy (EE.all hd)
  refine ⟨A,cc,e.trans (by show Value.slice A ys.length cc=_;rw [hl]),fun h0 => ?_⟩
  have h0':0 < ys.length:=by omega
  obtain ⟨g,e1,_⟩:=hq 0 (.int .i64 ys[0]) (by show (ys.map _)[0]?=_;rw [List.getElem?_map,List.getElem?_eq_getElem h0'];rfl)
  exact ⟨g,0,e1⟩
structure WInv (h:Int → Int) (f:FuncM) (val:Vals) (base:Nat) (S:World → Prop) (w0:World) (k a c i X:Nat) (w:World):Prop where
 own:OwnG w base (rowI h f val k a c i) val (EE f f.blocks.length)
 st:S w
 far:FarK val (EE f f.blocks.length) w0 w
 below:Below base w0 w
 box:w0.heap.size ≤ X
structure Reads (S:World → Prop) (w0:World) (Q:Nat → Prop) (f:FuncM) (val:Vals):Prop where
 keep:∀ w w',S w → (∀ b,Q b → w'.heap[b]?=w.heap[b]?) → S w'
 lt:∀ b,Q b → b < w0.heap.size
 far:∀ b,Q b → ∀ t,EE f f.blocks.length t → (val t).ownBlock ≠ some b
section
variable {h:Int → Int} {f:FuncM} {val:Vals} {base:Nat} {S:World → Prop} {w0:World} {Q:Nat → Prop} {C:Call2} {Pu:Int → Prop}
theorem WInv.move {k a c i X Y:Nat} {w w':World} (H:Reads S w0 Q f val) (hbase:base ≤ w0.heap.size) (hi:WInv h f val base S w0 k a c i X w) (hb:Below w.heap.size w w') (hY:Y=X ∨ (w.heap.size ≤ Y ∧ Y < w'.heap.size)):WInv h f val base S w0 k a c i Y w' :=
 ⟨hi.own.below hb,H.keep _ _ hi.st (fun b hq => hb.block b (Nat.lt_of_lt_of_le (H.lt b hq) hi.far.size)),hi.far.below hb,hi.below.trans (hb.mono (Nat.le_trans hbase hi.far.size)),by
  rcases hY with rfl | hY
  ·exact hi.box
  ·exact Nat.le_trans hi.far.size hY.1⟩
theorem WInv.congr {k a c i k' a' c' i' X:Nat} {w:World} (hi:WInv h f val base S w0 k a c i X w) (hr:∀ t,rowI h f val k' a' c' i' t=rowI h f val k a c i t):WInv h f val base S w0 k' a' c' i' X w :=
 ⟨hi.own.congr (fun t _ => hr t) (fun _ _ => rfl) (fun _ ht => ht),hi.st,hi.far,hi.below,hi.box⟩
theorem WInv.write {k a c i k' a' c' i' X g j n cap:Nat} {t:Tag} {d:RowD} {u:Value} {w w':World} (H:Reads S w0 Q f val) (hlt:∀ t,EE f f.blocks.length t → ∀ g,(val t).ownBlock=some g → g < w0.heap.size) (hbase:base ≤ w0.heap.size) (hi:WInv h f val base S w0 k a c i X w) (ht:EE f f.blocks.length t) (hd:rowI h f val k a c i t=some d) (hv:val t=.slice (some ⟨g,0,none⟩) n cap) (hn:d.len=n)
  (hr:∀ t',rowI h f val k' a' c' i' t'=upd (rowI h f val k a c i) t (some { d with cells:=d.cells.set j u }) t') (hw:Below (w.setCell ⟨g,j,none⟩ u).heap.size (w.setCell ⟨g,j,none⟩ u) w') :
  WInv h f val base S w0 k' a' c' i' X w' ∧ (X < w.heap.size → w'.heap[X]?=w.heap[X]?):=by
 have hg:(val t).ownBlock=some g:=by rw [hv];rfl
 have hgl:=hlt t ht g hg
 have hs0:(w.setCell ⟨g,j,none⟩ u).heap.size=w.heap.size:=by simp
 have hblk:∀ b,b < w.heap.size → b ≠ g → w'.heap[b]?=w.heap[b]?:=fun b hb hne => (hw.block b (by rw [hs0];exact hb)).trans (heap_setCell_other w ⟨g,j,none⟩ b u hne)
 have h1:=hi.own.set (tp:=t) (j:=j) (u:=u) ht hd hv hn
 have hbg:=hi.own.lt ht hg
 have hb0:Below base w (w.setCell ⟨g,j,none⟩ u):=(Below.refl base w).setCell (p:=⟨g,j,none⟩) hbg.1 u
 refine ⟨⟨(h1.below hw).congr (fun t' _ => hr t') (fun _ _ => rfl) (fun _ h => h),?_,?_,?_,hi.box⟩,?_⟩
 ·exact H.keep _ _ hi.st fun b hq => hblk b (Nat.lt_of_lt_of_le (H.lt b hq) hi.far.size) (fun e => H.far b hq t ht (by rw [hg,e]))
 ·exact (hi.far.grown (t0:=t) (w2:=w.setCell ⟨g,j,none⟩ u) (by rw [hg];exact ⟨hb0.os,hb0.tape,hb0.output,hb0.size,fun b hb hne => heap_setCell_other w ⟨g,j,none⟩ b u (fun e => hne (by rw [e]))⟩) ht).below hw
 ·exact hi.below.trans (hb0.trans (hw.mono (by rw [hs0];exact Nat.le_trans hbase hi.far.size)))
 ·intro hX
  exact hblk X hX (fun e => by have:=hi.box;omega)
theorem wr_seer (H:Reads S w0 Q f val) (hlt:∀ t,EE f f.blocks.length t → ∀ g,(val t).ownBlock=some g → g < w0.heap.size) (hbase:base ≤ w0.heap.size)
  (hP:∀ b ∈ f.blocks,(∀ p ∈ b.phis,∀ x ∈ p.vals,Pu x) ∧ (∀ i ∈ b.code,∀ x ∈ i.args,Pu x) ∧ (b.term.op=2 ∨ b.term.op=3 → Pu b.term.val))
  (hm:∀ p u w (P P':Ending → World → Prop),C p u w P → (∀ e w',P e w' → P' e w') → C p u w P')
  (hC:∀ w g j x u,S w → Pu x → w.cell? ⟨g,j,none⟩=some (.int .i64 x) → w.frozen? ⟨g,j,none⟩=false → C (.pointer (some ⟨g,j,none⟩)) u w fun e w' => e=.returned (.tuple #[]) ∧ Below (w.setCell ⟨g,j,none⟩ (.int .i64 (h x))).heap.size (w.setCell ⟨g,j,none⟩ (.int .i64 (h x))) w') :
  Seer f val C (WInv h f val base S w0):=by
 have hrow:∀ k a c i X w t xs x g off n cc,WInv h f val base S w0 k a c i X w → midT f k a c=some (t,xs) → EE f f.blocks.length t → xs[i]?=some x → Pu x → val t=.slice (some ⟨g,off,none⟩) n cc → ∀ u,C (.pointer (some ⟨g,off + i,none⟩)) u w fun e w' => e=.returned (.tuple #[]) ∧ WInv h f val base S w0 k a c (i + 1) X w' ∧ (X < w.heap.size → w'.heap[X]?=w.heap[X]?):=by
  intro k a c i X w t xs x g off n cc hi hmt hD hx hPx hv u
  have hil:=(List.getElem?_eq_some_iff.1 hx).1
  have hd:=rowI_at (h:=h) (val:=val) (i:=i) hmt
  obtain ⟨g1,cap,e,_,_⟩:=hi.own.slice hD hd (by show 0 < (partM h xs i).length;rw [partM_len];omega)
  rw [e] at hv
  injection hv with e1 e2 e3
  injection e1 with e1
  injection e1 with e1 e4
  subst e1 e4
  rw [Nat.zero_add]
  have hc:=hi.own.cell (j:=i) hD hd e rfl (by show i < (partM h xs i).length * 1;rw [partM_len];omega)
  have hc1:w.cell? ⟨g1,i,none⟩=some (.int .i64 x):=by
   rw [hc.1]
   show ((partM h xs i).map _)[i]?=_
   rw [List.getElem?_map,partM_at hx]
   rfl
  refine hm _ _ _ _ _ (hC w g1 i x u hi.st hPx hc1 hc.2) ?_
  rintro e' w' ⟨rfl,hw⟩
  exact ⟨rfl,hi.write H hlt hbase hD hd e rfl (rowI_step hmt hx) hw⟩
 refine ⟨fun k a c i X w hi => UseRd.of_own hi.own,fun k a c i X Y w w' hi hb hY => hi.move H hbase hb hY,?_,fun k b a p X w hb hp hi => hi.congr (rowI_phiE hb hp),?_,fun k b a p X w hb hp hi => hi.congr (rowI_insE hb hp),?_,?_⟩
 ·intro k b a p i x fr X w g off n c hb hp hx _ hv hi
  exact hrow k a 0 i X w (.vals k a) p.vals x g off n c hi (midT_phi hb hp) (EE.all (val:=val) (show rowOf f val (.vals k a)=some _ by simp only [rowOf,hb,Option.bind_some,hp,Option.map_some];rfl)) hx ((hP b (List.mem_of_getElem? hb)).1 p (List.mem_of_getElem? hp) x (List.mem_of_getElem? hx)) hv _
 ·intro k b a p i x X w g off n c hb hp hx hv hi
  exact hrow k b.phis.length a i X w (.args k a) p.args x g off n c hi (midT_ins hb hp) (EE.all (val:=val) (show rowOf f val (.args k a)=some _ by simp only [rowOf,hb,Option.bind_some,hp,Option.map_some];rfl)) hx ((hP b (List.mem_of_getElem? hb)).2.1 p (List.mem_of_getElem? hp) x (List.mem_of_getElem? hx)) hv _
 ·intro k b X w g off n c hb hop hv hi
  have hD:EE f f.blocks.length .blocks:=.inr (.inl rfl)
  have hkl:=(List.getElem?_eq_some_iff.1 hb).1
  have hrz:∀ t,rowI h f val k b.phis.length b.code.length 0 t=rowOf (stF h f k b.phis.length b.code.length) val t:=rowI_zero
  have hd:=(hrz .blocks).trans st_blocks
  obtain ⟨g1,cap,e,_,_⟩:=hi.own.slice hD hd (by show 0 < f.blocks.length;omega)
  rw [e] at hv
  injection hv with e1 e2 e3
  injection e1 with e1
  injection e1 with e1 e4
  subst e1 e4
  rw [Nat.zero_add]
  have hc:=hi.own.cell (j:=k * 6 + 3) hD hd e rfl (by show k * 6 + 3 < f.blocks.length * 6;omega)
  have hc1:w.cell? ⟨g1,k * 6 + 3,none⟩=some (.int .i64 b.term.val):=by
   rw [hc.1]
   show (cellsOf _ 0 f.blocks)[k * 6 + 3]?=_
   rw [cellsOf_at (s:=6) (blk_len val _) f.blocks 0 k 3 b hb (by omega),Nat.zero_add,if_neg (Nat.lt_irrefl k)]
   rfl
  refine hm _ _ _ _ _ (hC w g1 (k * 6 + 3) b.term.val _ hi.st ((hP b (List.mem_of_getElem? hb)).2.2 hop) hc1 hc.2) ?_
  rintro e' w' ⟨rfl,hw⟩
  refine ⟨rfl,(hi.write (k':=k + 1) (a':=0) (c':=0) (i':=0) H hlt hbase hD hd e rfl (fun t' => ?_) hw).1⟩
  rw [rowI_zero,stF_use hb hop]
  by_cases e0:t'=.blocks
  ·subst e0
   rw [upd_same,upd_same]
  ·rw [upd_ne _ _ e0,upd_ne _ _ e0,hrz]
 ·intro k b X w hb hop hi
  exact hi.congr fun t => by rw [rowI_zero,rowI_zero,stF_end hb hop]
end
end Go.Proofs.YtaehbgppfahdeaaGreat

namespace Go.Proofs.YtaehbgppfahdeaaGreat
open Go.RowKit Go.Maps
set_option maxRecDepth 100000 in
set_option maxHeartbeats 8000000 in
theorem eachAt1_any (f:FuncM) (val:Vals) (n c X0:Nat) (q:Nat) (A:Option Addr) (Inv:Nat → Nat → Nat → Nat → Nat → World → Prop) (w:World) (hv:val .blocks=.slice A n c) (hn:n=f.blocks.length) (hn5:n ≤ 512) (hs:SmallF f) (hfr:∀ b ∈ f.blocks,∀ p ∈ b.phis,p.vals.length ≤ p.fr.length)
  (hS:Seer f val (fun p u w P => Calls Tryz.prog 165 #[p,u,.pointer (some ⟨q,0,none⟩)] w P) Inv) (hI:Inv 0 0 0 0 X0 w) :
  Calls Tryz.prog 91 #[.slice A n c,.func (.func 165) #[] #[.pointer (some ⟨q,0,none⟩)]] w fun e w' => e=.returned (.tuple #[]) ∧ ∃ X,Inv n 0 0 0 X w':=by
 have HI:=hideI hI
 have HV:=hideI hv
 have HN:=hideI hn
 have HSM:=hideI hs
 have HFR:=hideI hfr
 have HS:=hideI hS
 clear hI hv hn hs hfr hS
 go_enter Tryz.func91,Tryz.ntmps91
 go_wp2
 go_loopg [14] n (fun gg s wr => ∃ k X:Nat,k ≤ n ∧ n - k ≤ gg ∧ s=.int .i64 k ∧ Hid (Inv k 0 0 0 X wr))
 case atStart => exact ⟨0,X0,Nat.zero_le _,by omega,rfl,HI⟩
 case round =>
  clear HI
  obtain ⟨k,X,hk,hgg,rfl,HI⟩:=hrel
  by_cases hlt:k < n
  ·obtain ⟨b,hb⟩:∃ b,f.blocks[k]?=some b:=⟨_,List.getElem?_eq_getElem (by have:=HN.out;omega)⟩
   have HBL:=hideI hb
   obtain ⟨A1,ca1,ea1,hbx⟩:=(HS.out.read _ _ _ _ _ _ HI.out).blocks
   obtain ⟨g,off,ea2,c0,_,_⟩:=hbx k b hb
   rw [HV.out] at ea1
   injection ea1 with ea1 hq1 hq2
   clear hq1 hq2
   rw [ea2] at ea1
   subst ea1
   obtain ⟨Ap,cp,hvp,_⟩:=(HS.out.read _ _ _ _ _ _ HI.out).phis k b hb
   rw [hvp] at c0
   obtain ⟨mp,hmp⟩:∃ mp,mp=b.phis.length:=⟨_,rfl⟩
   have HMP:=hideI hmp
   have HVP:Hid (val (.phis k)=.slice Ap mp cp):=hideI (by rw [hmp];exact hvp)
   have c0':wr.cell? ⟨g,off + k * 6,none⟩=some (.slice Ap mp cp):=by rw [hmp];exact c0
   have hmp5:mp ≤ 100000:=by rw [hmp];exact (HSM.out.each b (List.mem_of_getElem? hb)).phis
   clear hbx c0 hvp hmp hb ea2
   go_wp2
   clear c0'
   go_loopg [25] mp (fun gg2 s wr2 => ∃ j X:Nat,j ≤ mp ∧ mp - j ≤ gg2 ∧ s=.int .i64 j ∧ Hid (Inv k j 0 0 X wr2))
   case atStart => exact ⟨0,X,Nat.zero_le _,by omega,rfl,HI⟩
   case round =>
    clear HI
    clear X
    obtain ⟨j,X,hj,hg2,rfl,HI⟩:=hrel
    by_cases hltj:j < mp
    ·obtain ⟨p,hp⟩:∃ p,b.phis[j]?=some p:=⟨_,List.getElem?_eq_getElem (by have:=HMP.out;omega)⟩
     have HXP:=hideI hp
     obtain ⟨Ap1,cp1,ep1,hpx⟩:=(HS.out.read _ _ _ _ _ _ HI.out).phis k b HBL.out
     obtain ⟨gp,offp,ep2,c0,c1,c2,c3⟩:=hpx j p hp
     rw [HVP.out] at ep1
     injection ep1 with ep1 hq1 hq2
     clear hq1 hq2
     rw [ep2] at ep1
     subst ep1
     obtain ⟨Af,cf,hvf,_⟩:=(HS.out.read _ _ _ _ _ _ HI.out).fr k b j p HBL.out hp
     obtain ⟨Av,cv,hvv,_⟩:=(HS.out.read _ _ _ _ _ _ HI.out).vals k b j p HBL.out hp
     obtain ⟨nf,hnf⟩:∃ nf,nf=p.fr.length:=⟨_,rfl⟩
     obtain ⟨mv,hmv⟩:∃ mv,mv=p.vals.length:=⟨_,rfl⟩
     rw [← hnf] at hvf
     rw [← hmv] at hvv
     rw [hvf] at c2
     rw [hvv] at c3
     have HNF:=hideI hnf
     have HMV:=hideI hmv
     have HVF:=hideI hvf
     have HVV:=hideI hvv
     have hnv:mv ≤ nf:=by rw [hnf,hmv];exact HFR.out b (List.mem_of_getElem? HBL.out) p (List.mem_of_getElem? hp)
     have hnf5:nf ≤ 100000:=by rw [hnf];exact ((HSM.out.each b (List.mem_of_getElem? HBL.out)).fr p (List.mem_of_getElem? hp)).1
     have hmv5:mv ≤ 100000:=by rw [hmv];exact ((HSM.out.each b (List.mem_of_getElem? HBL.out)).fr p (List.mem_of_getElem? hp)).2
     obtain ⟨wa,hwa⟩:∃ wa:World,wa=wr.alloc (.cells #[.int .i64 p.id,.int .i64 p.typ,.slice Af nf cf,.slice Av mv cv] 76):=⟨_,rfl⟩
     have hba:Below wr.heap.size wr wa:=by rw [hwa];exact (Below.refl _ wr).alloc (Nat.le_refl _) _
     have hxa:wa.heap[wr.heap.size]?=some (.cells #[.int .i64 p.id,.int .i64 p.typ,.slice Af nf cf,.slice Av mv cv] 76 (0,0)):=by rw [hwa];exact heap_alloc_new wr _
     have HIA:=hideI (HS.out.move _ _ _ _ _ wr.heap.size _ _ HI.out hba (.inr ⟨Nat.le_refl _,lt_of_heap hxa⟩))
     have HWA:=hideI hwa
     have hqa:=row_cells hxa rfl
     have a0:=hqa 0
     have a1:=hqa 1
     have a2:=hqa 2
     have a3:=hqa 3
     obtain ⟨Y,hY⟩:∃ Y,Y=wr.heap.size:=⟨_,rfl⟩
     have HXA:Hid (wa.heap[Y]?=some (.cells #[.int .i64 p.id,.int .i64 p.typ,.slice Af nf cf,.slice Av mv cv] 76 (0,0))):=hideI (by rw [hY];exact hxa)
     rw [← hY] at HIA a0 a1 a2 a3
     have HY:=hideI hY
     clear hpx ep2 hnf hmv hvf hvv hwa hba hxa hqa hp HI
     go_upto_region 7 with fail
     rw [← HWA.out]
     rw [← HY.out]
     clear c0 c1 c2 c3 hY
     go_wp2
     clear a0 a1 a2 a3
     go_loopg [32] mv (fun gg3 s wr3 => ∃ i:Nat,i ≤ mv ∧ mv - i ≤ gg3 ∧ s=.int .i64 i ∧ Hid (Inv k j 0 i Y wr3) ∧ Hid (wr3.heap[Y]?=some (.cells #[.int .i64 p.id,.int .i64 p.typ,.slice Af nf cf,.slice Av mv cv] 76 (0,0))))
     case atStart => exact ⟨0,Nat.zero_le _,by omega,rfl,HIA,HXA⟩
     case round =>
      clear HIA HXA
      obtain ⟨i,hi,hg3,rfl,HI,HX⟩:=hrel
      by_cases hlti:i < mv
      ·obtain ⟨x,hx⟩:∃ x,p.vals[i]?=some x:=⟨_,List.getElem?_eq_getElem (by have:=HMV.out;omega)⟩
       obtain ⟨fr,hfr⟩:∃ fr,p.fr[i]?=some fr:=⟨_,List.getElem?_eq_getElem (by have:=HNF.out;omega)⟩
       obtain ⟨Af1,cf1,ef1,hfx⟩:=(HS.out.read _ _ _ _ _ _ HI.out).fr k b j p HBL.out HXP.out
       obtain ⟨gf,offf,ef2,d0⟩:=hfx i fr hfr
       rw [HVF.out] at ef1
       injection ef1 with ef1 hq1 hq2
       clear hq1 hq2
       rw [ef2] at ef1
       subst ef1
       obtain ⟨Av1,cv1,ev1,hvx⟩:=(HS.out.read _ _ _ _ _ _ HI.out).vals k b j p HBL.out HXP.out
       obtain ⟨gv,offv,ev2⟩:=hvx (by have:=HMV.out;omega)
       rw [HVV.out] at ev1
       injection ev1 with ev1 hq1 hq2
       clear hq1 hq2
       rw [ev2] at ev1
       subst ev1
       have hqa:=row_cells HX.out rfl
       have a2:=hqa 2
       have a3:=hqa 3
       have hinf:i < nf:=by omega
       have HC:=hideI (HS.out.phi k b j p i x fr Y wr.drew gv offv mv cv HBL.out HXP.out hx hfr HVV.out (HS.out.move _ _ _ _ _ Y _ _ HI.out (Below.drew (Below.refl _ _)) (.inl rfl)))
       have hS0:wr.cell? ⟨Y,2,none⟩=some (.slice (some ⟨gf,offf,none⟩) nf cf) ∧ wr.cell? ⟨Y,3,none⟩=some (.slice (some ⟨gv,offv,none⟩) mv cv) ∧ wr.cell? ⟨gf,offf + i,none⟩=some (.int .i64 fr):=⟨a2,a3,d0⟩
       clear hqa hfx ef2 hvx ev2 hx hfr
       go_upto_region 10 with fail
       refine wp_region_late (by kernel_rfl) (fun W' => W'.cell? ⟨Y,2,none⟩=some (.slice (some ⟨gf,offf,none⟩) nf cf) ∧ W'.cell? ⟨Y,3,none⟩=some (.slice (some ⟨gv,offv,none⟩) mv cv) ∧ W'.cell? ⟨gf,offf + i,none⟩=some (.int .i64 fr)) [10] ?_
       refine wpAnyT_quiet (i:=0) (v:=?_) rfl (by kernel_rfl) (by kernel_rfl) (by kernel_rfl) (fun _ _ _ h => h) (Or.inl ⟨by rfl,?_⟩) ?_
       rotate_left
       ·(intro w;go_simp;try with_reducible rfl)
       try simp only [Act.put,List.setIfInBounds_toArray,List.set_cons_zero,List.set_cons_succ]
       refine wpAnyT_quiet (i:=1) (v:=?_) rfl (by kernel_rfl) (by kernel_rfl) (by kernel_rfl) (fun _ _ _ h => h) (Or.inl ⟨by rfl,?_⟩) ?_
       rotate_left
       ·(intro w;go_simp;try with_reducible rfl)
       try simp only [Act.put,List.setIfInBounds_toArray,List.set_cons_zero,List.set_cons_succ]
       refine wpAnyT_take [4,10] (i:=2) (v:=?_) rfl (by kernel_rfl) (by kernel_rfl) (by kernel_rfl) (by kernel_rfl) (by kernel_rfl) (by kernel_rfl) (fun _ _ _ h => h) hS0 (Or.inl ⟨by rfl,?_⟩) ?_
       rotate_left
       ·(intro w hSw;go_split_ands;go_simp;try with_reducible rfl)
       try simp only [Act.put,List.setIfInBounds_toArray,List.set_cons_zero,List.set_cons_succ]
       refine wpAnyT_quiet (i:=3) (v:=?_) rfl (by kernel_rfl) (by kernel_rfl) (by kernel_rfl) (fun _ _ _ h => h) (Or.inl ⟨by rfl,?_⟩) ?_
       rotate_left
       ·(intro w;go_simp;try with_reducible rfl)
       try simp only [Act.put,List.setIfInBounds_toArray,List.set_cons_zero,List.set_cons_succ]
       refine wpAnyT_quiet (i:=4) (v:=?_) rfl (by kernel_rfl) (by kernel_rfl) (by kernel_rfl) (fun _ _ _ h => h) (Or.inl ⟨by rfl,?_⟩) ?_
       rotate_left
       ·(intro w;go_simp;try with_reducible rfl)
       try simp only [Act.put,List.setIfInBounds_toArray,List.set_cons_zero,List.set_cons_succ]
       refine wpAnyT_quiet (i:=5) (v:=?_) rfl (by kernel_rfl) (by kernel_rfl) (by kernel_rfl) (fun _ _ _ h => h) (Or.inl ⟨by rfl,?_⟩) ?_
       rotate_left
       ·(intro w;go_simp;try with_reducible rfl)
       try simp only [Act.put,List.setIfInBounds_toArray,List.set_cons_zero,List.set_cons_succ]
       refine wpAnyT_take [8,9,10] (i:=6) (v:=?_) rfl (by kernel_rfl) (by kernel_rfl) (by kernel_rfl) (by kernel_rfl) (by kernel_rfl) (by kernel_rfl) (fun _ _ _ h => h) hS0 (Or.inl ⟨by rfl,?_⟩) ?_
       rotate_left
       ·(intro w hSw;go_split_ands;go_simp;try with_reducible rfl)
       try simp only [Act.put,List.setIfInBounds_toArray,List.set_cons_zero,List.set_cons_succ]
       refine wpAnyT_quiet (i:=7) (v:=?_) rfl (by kernel_rfl) (by kernel_rfl) (by kernel_rfl) (fun _ _ _ h => h) (Or.inl ⟨by rfl,?_⟩) ?_
       rotate_left
       ·(intro w;go_simp;try with_reducible rfl)
       try simp only [Act.put,List.setIfInBounds_toArray,List.set_cons_zero,List.set_cons_succ]
       refine wpAnyT_quiet (i:=8) (v:=?_) rfl (by kernel_rfl) (by kernel_rfl) (by kernel_rfl) (fun _ _ _ h => h) (Or.inl ⟨by rfl,?_⟩) ?_
       rotate_left
       ·(intro w;go_simp;try with_reducible rfl)
       try simp only [Act.put,List.setIfInBounds_toArray,List.set_cons_zero,List.set_cons_succ]
       refine wpAnyT_take [10] (i:=9) (v:=?_) rfl (by kernel_rfl) (by kernel_rfl) (by kernel_rfl) (by kernel_rfl) (by kernel_rfl) (by kernel_rfl) (fun _ _ _ h => h) hS0 (Or.inl ⟨by rfl,?_⟩) ?_
       rotate_left
       ·(intro w hSw;go_split_ands;go_simp;try with_reducible rfl)
       try simp only [Act.put,List.setIfInBounds_toArray,List.set_cons_zero,List.set_cons_succ]
       refine wpAnyT_ready (rs:=[10]) (by kernel_rfl) (by simp) ?_
       refine AllReadyT.cons rfl (fun K hK => ?_) ?_
       ·-- 10 call value
        go_simp
        refine HC.out.mono ?_
        rintro e w2 ⟨rfl,hi2,hx2⟩
        have HI2:=hideI hi2
        have HX2:=hideI ((hx2 (lt_of_heap HX.out)).trans HX.out)
        clear hi2 hx2
        refine hK.out _ _ (fun h => absurd (by simp) h) ?_
        clear hK K
        try simp only [Act.put,List.setIfInBounds_toArray,List.set_cons_zero,List.set_cons_succ]
        refine wpAnyT_done (by kernel_rfl) ?_ _
        go_wp2_with fail
        go_roundg (mv - (i + 1))
        case measure => omega
        case rel => exact ⟨i + 1,by omega,Nat.le_refl _,by go_num,HI2,HX2⟩
       ·exact AllReadyT.nil
      ·have him:i=mv:=by omega
       subst him
       have hI2:=HI.out
       rw [HMV.out] at hI2
       have HI2:=hideI (HS.out.phiE _ _ _ _ _ _ HBL.out HXP.out hI2)
       clear hI2
       go_wp2
       go_roundg (mp - (j + 1))
       case measure => omega
       case rel => exact ⟨j + 1,Y,by omega,Nat.le_refl _,by go_num,HI2⟩
    ·have hjm:j=mp:=by omega
     subst hjm
     have hI2:=HI.out
     rw [HMP.out] at hI2
     have HIC:=hideI hI2
     obtain ⟨A1,ca1,ea1,hbx⟩:=(HS.out.read _ _ _ _ _ _ HI.out).blocks
     obtain ⟨g1,off1,ea2,_,c1,_⟩:=hbx k b HBL.out
     rw [HV.out] at ea1
     injection ea1 with ea1 hq1 hq2
     clear hq1 hq2
     rw [ea2] at ea1
     injection ea1 with ea1
     injection ea1 with ea1 ea3
     subst ea1 ea3
     obtain ⟨Ac,cc,hvc,_⟩:=(HS.out.read _ _ _ _ _ _ HI.out).code k b HBL.out
     obtain ⟨mc,hmc⟩:∃ mc,mc=b.code.length:=⟨_,rfl⟩
     rw [← hmc] at hvc
     rw [hvc] at c1
     have HMC:=hideI hmc
     have HVC:=hideI hvc
     have hmc5:mc ≤ 100000:=by rw [hmc];exact (HSM.out.each b (List.mem_of_getElem? HBL.out)).code
     clear hbx ea2 hvc hmc hI2 hltj
     go_wp2
     clear c1
     go_loopg [53] mc (fun gg2 s wr2 => ∃ a X:Nat,a ≤ mc ∧ mc - a ≤ gg2 ∧ s=.int .i64 a ∧ Hid (Inv k b.phis.length a 0 X wr2))
     case atStart => exact ⟨0,X,Nat.zero_le _,by omega,rfl,HIC⟩
     case round =>
      clear HI HIC
      clear X
      obtain ⟨a,X,ha,hg2,rfl,HI⟩:=hrel
      by_cases hlta:a < mc
      ·obtain ⟨p,hp⟩:∃ p,b.code[a]?=some p:=⟨_,List.getElem?_eq_getElem (by have:=HMC.out;omega)⟩
       have HXP:=hideI hp
       obtain ⟨Ap1,cp1,ep1,hpx⟩:=(HS.out.read _ _ _ _ _ _ HI.out).code k b HBL.out
       obtain ⟨gp,offp,ep2,c0,c1,c2,c3⟩:=hpx a p hp
       rw [HVC.out] at ep1
       injection ep1 with ep1 hq1 hq2
       clear hq1 hq2
       rw [ep2] at ep1
       subst ep1
       obtain ⟨Av,cv,hvv,_⟩:=(HS.out.read _ _ _ _ _ _ HI.out).args k b a p HBL.out hp
       obtain ⟨mv,hmv⟩:∃ mv,mv=p.args.length:=⟨_,rfl⟩
       rw [← hmv] at hvv
       rw [hvv] at c2
       have HMV:=hideI hmv
       have HVV:=hideI hvv
       have hmv5:mv ≤ 100000:=by rw [hmv];exact (HSM.out.each b (List.mem_of_getElem? HBL.out)).args p (List.mem_of_getElem? hp)
       obtain ⟨wa,hwa⟩:∃ wa:World,wa=wr.alloc (.cells #[.int .i64 p.op,.int .i64 p.id,.slice Av mv cv,.int .i64 p.n] 68):=⟨_,rfl⟩
       have hba:Below wr.heap.size wr wa:=by rw [hwa];exact (Below.refl _ wr).alloc (Nat.le_refl _) _
       have hxa:wa.heap[wr.heap.size]?=some (.cells #[.int .i64 p.op,.int .i64 p.id,.slice Av mv cv,.int .i64 p.n] 68 (0,0)):=by rw [hwa];exact heap_alloc_new wr _
       have HIA:=hideI (HS.out.move _ _ _ _ _ wr.heap.size _ _ HI.out hba (.inr ⟨Nat.le_refl _,lt_of_heap hxa⟩))
       have HWA:=hideI hwa
       have hqa:=row_cells hxa rfl
       have a2:=hqa 2
       obtain ⟨Y,hY⟩:∃ Y,Y=wr.heap.size:=⟨_,rfl⟩
       have HXA:Hid (wa.heap[Y]?=some (.cells #[.int .i64 p.op,.int .i64 p.id,.slice Av mv cv,.int .i64 p.n] 68 (0,0))):=hideI (by rw [hY];exact hxa)
       rw [← hY] at HIA a2
       have HY:=hideI hY
       clear hpx ep2 hmv hvv hwa hba hxa hqa hp HI
       go_upto_region 16 with fail
       rw [← HWA.out]
       rw [← HY.out]
       clear c0 c1 c2 c3 hY
       go_wp2
       clear a2
       go_loopg [60] mv (fun gg3 s wr3 => ∃ i:Nat,i ≤ mv ∧ mv - i ≤ gg3 ∧ s=.int .i64 i ∧ Hid (Inv k b.phis.length a i Y wr3) ∧ Hid (wr3.heap[Y]?=some (.cells #[.int .i64 p.op,.int .i64 p.id,.slice Av mv cv,.int .i64 p.n] 68 (0,0))))
       case atStart => exact ⟨0,Nat.zero_le _,by omega,rfl,HIA,HXA⟩
       case round =>
        clear HIA HXA
        obtain ⟨i,hi,hg3,rfl,HI,HX⟩:=hrel
        by_cases hlti:i < mv
        ·obtain ⟨x,hx⟩:∃ x,p.args[i]?=some x:=⟨_,List.getElem?_eq_getElem (by have:=HMV.out;omega)⟩
         obtain ⟨Av1,cv1,ev1,hvx⟩:=(HS.out.read _ _ _ _ _ _ HI.out).args k b a p HBL.out HXP.out
         obtain ⟨gv,offv,ev2⟩:=hvx (by have:=HMV.out;omega)
         rw [HVV.out] at ev1
         injection ev1 with ev1 hq1 hq2
         clear hq1 hq2
         rw [ev2] at ev1
         subst ev1
         have hqa:=row_cells HX.out rfl
         have a2:=hqa 2
         have HC:=hideI (HS.out.ins k b a p i x Y wr gv offv mv cv HBL.out HXP.out hx HVV.out HI.out)
         clear hqa hvx ev2 hx
         go_wp2_with (go_at_call 165;refine HC.out.mono ?_;rintro e w2 ⟨rfl,hi2,hx2⟩;have HI2:=hideI hi2;have HX2:=hideI ((hx2 (lt_of_heap HX.out)).trans HX.out);clear hi2 hx2)
         go_roundg (mv - (i + 1))
         case measure => omega
         case rel => exact ⟨i + 1,by omega,Nat.le_refl _,by go_num,HI2,HX2⟩
        ·have him:i=mv:=by omega
         subst him
         have hI2:=HI.out
         rw [HMV.out] at hI2
         have HI2:=hideI (HS.out.insE _ _ _ _ _ _ HBL.out HXP.out hI2)
         clear hI2
         go_wp2
         go_roundg (mc - (a + 1))
         case measure => omega
         case rel => exact ⟨a + 1,Y,by omega,Nat.le_refl _,by go_num,HI2⟩
      ·have ham:a=mc:=by omega
       subst ham
       have hI2:=HI.out
       rw [HMC.out] at hI2
       have HIE:=hideI hI2
       obtain ⟨A1,ca1,ea1,hbx⟩:=(HS.out.read _ _ _ _ _ _ HI.out).blocks
       obtain ⟨g1,off1,ea2,_,_,c2⟩:=hbx k b HBL.out
       rw [HV.out] at ea1
       injection ea1 with ea1 hq1 hq2
       clear hq1 hq2
       rw [ea2] at ea1
       injection ea1 with ea1
       injection ea1 with ea1 ea3
       subst ea1 ea3
       clear hbx ea2 hI2 hlta HI
       by_cases h2:b.term.op=2
       ·have HC:=hideI (HS.out.use k b X wr g off n c HBL.out (.inl h2) HV.out HIE.out)
        rw [h2] at c2
        clear h2
        go_wp2_with (go_at_call 165;refine HC.out.mono ?_;rintro e w2 ⟨rfl,hi2⟩;have HI2:=hideI hi2;clear hi2)
        go_roundg (n - (k + 1))
        case measure => omega
        case rel => exact ⟨k + 1,X,by omega,Nat.le_refl _,by go_num,HI2⟩
       ·by_cases h3:b.term.op=3
        ·have HC:=hideI (HS.out.use k b X wr g off n c HBL.out (.inr h3) HV.out HIE.out)
         rw [h3] at c2
         clear h2 h3
         go_wp2_with (go_at_call 165;refine HC.out.mono ?_;rintro e w2 ⟨rfl,hi2⟩;have HI2:=hideI hi2;clear hi2)
         go_roundg (n - (k + 1))
         case measure => omega
         case rel => exact ⟨k + 1,X,by omega,Nat.le_refl _,by go_num,HI2⟩
        ·have hb2:(b.term.op == 2)=false:=beq_eq_false_iff_ne.2 h2
         have hb3:(b.term.op == 3)=false:=beq_eq_false_iff_ne.2 h3
         have HI2:=hideI (HS.out.rest k b X wr HBL.out (fun e => e.elim h2 h3) HIE.out)
         clear h2 h3
         go_wp2
         go_roundg (n - (k + 1))
         case measure => omega
         case rel => exact ⟨k + 1,X,by omega,Nat.le_refl _,by go_num,HI2⟩
  ·have hkn:k=n:=by omega
   subst hkn
   go_wp2
   go_end0
   exact ⟨rfl,X,HI.out⟩
end Go.Proofs.YtaehbgppfahdeaaGreat

namespace Go.Proofs.YtaehbgppfahdeaaGreat
open Go.RowKit Go.Maps
theorem FarK.trans {val:Vals} {D:Tag → Prop} {w w1 w2:World} (h:FarK val D w w1) (k:FarK val D w1 w2):FarK val D w w2 :=
 ⟨k.os.trans h.os,k.tape.trans h.tape,k.output.trans h.output,Nat.le_trans h.size k.size,fun b hl hn => (k.block b (Nat.lt_of_lt_of_le hl h.size) hn).trans (h.block b hl hn)⟩
set_option maxRecDepth 100000 in
set_option maxHeartbeats 1000000 in
theorem seeCh_any (q2 q g j:Nat) (u:Value) (w:World) (R:World → Prop) (h:w.cell? ⟨q2,0,none⟩=some (.func (.func 115) #[] #[.pointer (some ⟨q,0,none⟩)]))
  (hc:Calls Tryz.prog 115 #[.pointer (some ⟨g,j,none⟩),.pointer (some ⟨q,0,none⟩)] w fun e w' => e=.returned (.tuple #[]) ∧ R w') :
  Calls Tryz.prog 165 #[.pointer (some ⟨g,j,none⟩),u,.pointer (some ⟨q2,0,none⟩)] w fun e w' => e=.returned (.tuple #[]) ∧ R w':=by
 have HC:=hideI hc
 clear hc
 go_enter Tryz.func165,Tryz.ntmps165
 go_wp2_with (go_at_call 115;refine HC.out.mono ?_;rintro e w1 ⟨rfl,hr⟩;have HR:=hideI hr;clear hr)
 go_end0
 exact ⟨rfl,HR.out⟩
set_option maxRecDepth 100000 in
set_option maxHeartbeats 4000000 in
theorem eachUse_any (f:FuncM) (val:Vals) (base q qo qn g n cap:Nat) (old now:Int) (w:World) (hown:OwnG w base (rowOf f val) val (EE f f.blocks.length)) (hv:val .blocks=.slice (some ⟨g,0,none⟩) n cap) (hn:n=f.blocks.length) (hr:ReplAt w q qo qn old now) (hq:q < w.heap.size ∧ qo < w.heap.size ∧ qn < w.heap.size) (hfar:∀ t,EE f f.blocks.length t → (val t).ownBlock ≠ some q ∧ (val t).ownBlock ≠ some qo ∧ (val t).ownBlock ≠ some qn) (hbase:base ≤ w.heap.size) (hs:SmallF f) (hn5:n ≤ 512) (hfr:∀ b ∈ f.blocks,∀ p ∈ b.phis,p.vals.length ≤ p.fr.length) :
  Calls Tryz.prog 114 #[.slice (some ⟨g,0,none⟩) n cap,.func (.func 115) #[] #[.pointer (some ⟨q,0,none⟩)]] w fun e w' => e=.returned (.tuple #[]) ∧ OwnG w' base (rowOf (mapF (replM old now) f) val) val (EE f f.blocks.length) ∧ Below base w w' ∧ FarK val (EE f f.blocks.length) w w':=by
 obtain ⟨W,hW⟩:∃ W:World,W=w.alloc (.cells #[.func (.func 115) #[] #[.pointer (some ⟨q,0,none⟩)]] 180):=⟨_,rfl⟩
 have hbW:Below w.heap.size w W:=by rw [hW];exact (Below.refl _ w).alloc (Nat.le_refl _) _
 have hx:W.heap[w.heap.size]?=some (.cells #[.func (.func 115) #[] #[.pointer (some ⟨q,0,none⟩)]] 180 (0,0)):=by
  rw [hW]
  exact heap_alloc_new w _
 have hwW:=lt_of_heap hx
 have hlt:∀ t,EE f f.blocks.length t → ∀ g,(val t).ownBlock=some g → g < W.heap.size:=fun t ht g0 e => by
  have:=(hown.lt ht e).2
  omega
 have hR:Reads (fun w' => w'.cell? ⟨w.heap.size,0,none⟩=some (.func (.func 115) #[] #[.pointer (some ⟨q,0,none⟩)]) ∧ ReplAt w' q qo qn old now) W (fun b => b=w.heap.size ∨ b=q ∨ b=qo ∨ b=qn) f val :=
  ⟨fun w1 w2 h hk => ⟨(World.cell?_of_block (hk _ (.inl rfl))).trans h.1,(World.cell?_of_block (hk _ (.inr (.inl rfl)))).trans h.2.1,(World.cell?_of_block (hk _ (.inr (.inr (.inl rfl))))).trans h.2.2.1,(World.cell?_of_block (hk _ (.inr (.inr (.inr rfl))))).trans h.2.2.2⟩,
   fun b hb => by rcases hb with rfl | rfl | rfl | rfl <;> omega,
   fun b hb t ht e => by
    rcases hb with rfl | rfl | rfl | rfl
    ·have:=(hown.lt ht e).2
     omega
    ·exact (hfar t ht).1 e
    ·exact (hfar t ht).2.1 e
    ·exact (hfar t ht).2.2 e⟩
 have hseer:=wr_seer (h:=replM old now) (base:=base) (Pu:=fun _ => True) (C:=fun p u v P => Calls Tryz.prog 165 #[p,u,.pointer (some ⟨w.heap.size,0,none⟩)] v P) hR hlt (Nat.le_trans hbase hbW.size) (fun _ _ => ⟨fun _ _ _ _ => trivial,fun _ _ _ _ => trivial,fun _ => trivial⟩) (fun _ _ _ _ _ h hm => h.mono hm) (fun w1 g1 j x u hs1 _ hc hf => by
  exact seeCh_any w.heap.size q g1 j u w1 (fun w2 => Below (w1.setCell ⟨g1,j,none⟩ (.int .i64 (replM old now x))).heap.size (w1.setCell ⟨g1,j,none⟩ (.int .i64 (replM old now x))) w2) hs1.1 ((chUse_any q qo qn g1 j old now x w1 hs1.2 hc hf).mono fun e w2 h => ⟨h.1,by rw [h.2];exact Below.drew (Below.refl _ _)⟩))
 have hi0:WInv (replM old now) f val base (fun w' => w'.cell? ⟨w.heap.size,0,none⟩=some (.func (.func 115) #[] #[.pointer (some ⟨q,0,none⟩)]) ∧ ReplAt w' q qo qn old now) W 0 0 0 0 W.heap.size W:=⟨(hown.below hbW).congr (fun t _ => (rowI_zero t).trans (stF_start t)) (fun _ _ => rfl) (fun _ ht => ht),⟨row_cells hx rfl 0,hr.kept hbW hq⟩,FarK.refl _ _ _,Below.refl _ _,Nat.le_refl _⟩
 have HEA:=hideI (eachAt1_any f val n cap W.heap.size w.heap.size _ _ W hv hn hn5 hs hfr hseer hi0)
 have HBW:=hideI hbW
 have HW0:=hideI hW
 have HN:=hideI hn
 clear hown hv hn hr hq hfar hs hfr hW hbW hx hlt hR hseer hi0
 go_enter Tryz.func114,Tryz.ntmps114
 go_upto_region 1 with fail
 rw [← HW0.out]
 go_wp2_with (go_at_call 91;go_must (refine HEA.out.mono ?_);rintro e w1 ⟨rfl,X,hi⟩;have HI:=hideI hi;clear hi)
 go_end0
 refine ⟨rfl,HI.out.own.congr (fun t _ => ?_) (fun _ _ => rfl) (fun _ ht => ht),(HBW.out.mono hbase).trans HI.out.below,((FarK.refl _ _ _).below HBW.out).trans HI.out.far⟩
 rw [rowI_zero,HN.out]
 rfl
end Go.Proofs.YtaehbgppfahdeaaGreat
